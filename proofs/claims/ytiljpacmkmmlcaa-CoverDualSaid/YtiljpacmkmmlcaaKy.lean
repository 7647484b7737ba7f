/- Chains: from each one that lies on none, who lies on it, and so on. Plain. -/
import Derived.Test.YtiljpacmkmmlcaaKx
set_option linter.unusedSimpArgs false
set_option linter.unusedVariables false
namespace Go.Proofs.Ytiljpacmkmmlcaa

/-- From r on, each one's follower, up to one that has none. -/
structure ChainB (B : Bh) (r : Nat) (l : List Nat) : Prop where
  h : l[0]? = some r
  s : ∀ (i x y : Nat), l[i]? = some x → l[i + 1]? = some y → B x = some y
  e : ∀ x, l[l.length - 1]? = some x → B x = none
def rootsL (bel : Bh) (k : Nat) : List Nat := (List.range k).filter fun i => (bel i).isNone
theorem roots_skip {bel : Bh} {k y : Nat} (h : bel k = some y) : rootsL bel (k + 1) = rootsL bel k := by
  unfold rootsL
  rw [List.range_succ, List.filter_append]
  simp [h]
theorem roots_new {bel : Bh} {k : Nat} (h : bel k = none) : rootsL bel (k + 1) = rootsL bel k ++ [k] := by
  unfold rootsL
  rw [List.range_succ, List.filter_append]
  simp [h]
structure CsOk (B bel : Bh) (k : Nat) (cs : List (List Nat)) : Prop where
  len : cs.length = (rootsL bel k).length
  at_ : ∀ (i r : Nat), (rootsL bel k)[i]? = some r → ∃ l, cs[i]? = some l ∧ ChainB B r l
theorem CsOk.zero (B bel : Bh) : CsOk B bel 0 [] := ⟨rfl, fun i r h => by simp [rootsL] at h⟩
theorem CsOk.skip {B bel : Bh} {k y : Nat} {cs : List (List Nat)} (h : CsOk B bel k cs) (hb : bel k = some y) : CsOk B bel (k + 1) cs := by
  have e := roots_skip hb
  exact ⟨by rw [e]; exact h.len, by rw [e]; exact h.at_⟩
theorem CsOk.snoc {B bel : Bh} {k : Nat} {cs : List (List Nat)} {l : List Nat} (h : CsOk B bel k cs) (hb : bel k = none) (hl : ChainB B k l) : CsOk B bel (k + 1) (cs ++ [l]) := by
  have e := roots_new hb
  refine ⟨by rw [e, List.length_append, List.length_append, h.len]; rfl, fun i r hi => ?_⟩
  rw [e, List.getElem?_append] at hi
  split at hi
  · rename_i h1
    obtain ⟨l', h2, h3⟩ := h.at_ i r hi
    exact ⟨l', by rw [List.getElem?_append_left (by rw [h.len]; exact h1)]; exact h2, h3⟩
  · rename_i h1
    have h2 : i - (rootsL bel k).length = 0 := by
      have := (List.getElem?_eq_some_iff.1 hi).1
      simp at this
      omega
    rw [h2] at hi
    have : k = r := by simpa using hi
    subst this
    refine ⟨l, ?_, hl⟩
    rw [List.getElem?_append_right (by rw [h.len]; omega), h.len, h2]
    rfl
theorem below_lt {a b : Nat} (h : belowN a b = true) : a < b := by
  unfold belowN at h
  rw [Bool.and_eq_true, bne_iff_ne, beq_iff_eq] at h
  have h2 : a &&& b ≤ b := Nat.and_le_right
  rw [h.2] at h2
  omega
theorem below_trans {a b c : Nat} (h : belowN a b = true) (k : belowN b c = true) : belowN a c = true := by
  have h1 := below_lt h
  have h2 := below_lt k
  unfold belowN at *
  rw [Bool.and_eq_true, bne_iff_ne, beq_iff_eq, and_sub] at *
  exact ⟨by omega, fun j hj => k.2 j (h.2 j hj)⟩
section
variable {ms : List Nat} {B bel : Bh} {K : Nat → Prop} {U : List Nat}
/-- Each one is in a chain. -/
theorem chain_all (hK : KuS ms.length (RM ms) B K U ms.length) (hv : Inv B (fun _ => False) bel) {cs : List (List Nat)} (hc : CsOk B bel ms.length cs) : ∀ (m x : Nat), ms.getD x 0 < m → x < ms.length → ∃ l ∈ cs, x ∈ l
  | 0, _, h, _ => by omega
  | m + 1, x, h, hx => by
    cases hb : bel x with
    | none =>
      have : x ∈ rootsL bel ms.length := List.mem_filter.2 ⟨List.mem_range.2 hx, by rw [hb]; rfl⟩
      obtain ⟨i, hi⟩ := List.mem_iff_getElem?.1 this
      obtain ⟨l, h1, h2⟩ := hc.at_ i x hi
      exact ⟨l, List.mem_of_getElem? h1, List.mem_of_getElem? h2.h⟩
    | some y =>
      have hB := ((hv x y).1 hb).2
      obtain ⟨_, hy, hr⟩ := hK.m.ok y x (fun h => h) hB
      have hlt := below_lt hr
      obtain ⟨l, h1, h2⟩ := chain_all hK hv hc m y (by omega) hy
      refine ⟨l, h1, ?_⟩
      obtain ⟨q, hq⟩ := List.mem_iff_getElem?.1 h1
      have hql : q < (rootsL bel ms.length).length := by rw [← hc.len]; exact (List.getElem?_eq_some_iff.1 hq).1
      obtain ⟨l', h3, h4⟩ := hc.at_ q _ (List.getElem?_eq_getElem hql)
      rw [hq] at h3
      cases h3
      obtain ⟨i, hi⟩ := List.mem_iff_getElem?.1 h2
      have hil := (List.getElem?_eq_some_iff.1 hi).1
      by_cases he : i = l.length - 1
      · subst he
        rw [h4.e y hi] at hB
        cases hB
      · obtain ⟨z, hz⟩ : ∃ z, l[i + 1]? = some z := ⟨l[i + 1]'(by omega), List.getElem?_eq_getElem (by omega)⟩
        have := h4.s i y z hi hz
        rw [hB] at this
        cases this
        exact List.mem_of_getElem? hz
theorem chain_in (hK : KuS ms.length (RM ms) B K U ms.length) {r : Nat} {l : List Nat} (hr : r < ms.length) (h : ChainB B r l) : ∀ x ∈ l, x < ms.length := by
  intro x hx
  obtain ⟨i, hi⟩ := List.mem_iff_getElem?.1 hx
  cases i with
  | zero => rw [h.h] at hi; cases hi; exact hr
  | succ i =>
    obtain ⟨y, hy⟩ : ∃ y, l[i]? = some y := ⟨l[i]'(by have := (List.getElem?_eq_some_iff.1 hi).1; omega), List.getElem?_eq_getElem _⟩
    exact (hK.m.ok y x (fun h => h) (h.s i y x hy hi)).1
/-- The sets of a chain lie within each other. -/
theorem chain_rise (hK : KuS ms.length (RM ms) B K U ms.length) {r : Nat} {l : List Nat} (h : ChainB B r l) : (l.map fun i => ms.getD i 0).Pairwise fun a b => belowN a b = true := by
  have key : ∀ (d i x y : Nat), l[i]? = some x → l[i + d + 1]? = some y → belowN (ms.getD x 0) (ms.getD y 0) = true := by
    intro d
    induction d with
    | zero =>
      intro i x y hx hy
      exact (hK.m.ok x y (fun h => h) (h.s i x y hx hy)).2.2
    | succ d ih =>
      intro i x y hx hy
      obtain ⟨z, hz⟩ : ∃ z, l[i + d + 1]? = some z := ⟨l[i + d + 1]'(by have := (List.getElem?_eq_some_iff.1 hy).1; omega), List.getElem?_eq_getElem _⟩
      exact below_trans (ih i x z hx hz) (hK.m.ok z y (fun h => h) (h.s (i + d + 1) z y hz hy)).2.2
  rw [List.pairwise_iff_getElem]
  intro i j hi hj hij
  rw [List.length_map] at hi hj
  rw [List.getElem_map, List.getElem_map]
  exact key (j - i - 1) i _ _ (List.getElem?_eq_getElem hi) (by rw [show i + (j - i - 1) + 1 = j by omega]; exact List.getElem?_eq_getElem hj)
/-- What the chains of sets are. -/
structure Chains (ms : List Nat) (cs : List (List Nat)) : Prop where
  n : (ms = [] ∧ cs.length = 1) ∨ (ms ≠ [] ∧ LeastN ms.length (RM ms) cs.length)
  up : ∀ c ∈ cs, c.Pairwise fun a b => belowN a b = true
  sub : ∀ c ∈ cs, ∀ m ∈ c, m ∈ ms
  all : ∀ m ∈ ms, ∃ c ∈ cs, m ∈ c
theorem chains_of (h256 : ∀ m ∈ ms, m < 256) (hK : KuS ms.length (RM ms) B K U ms.length) (hv : Inv B (fun _ => False) bel) (h0 : ms ≠ []) {cs : List (List Nat)} (hc : CsOk B bel ms.length cs) : Chains ms (cs.map fun l => l.map fun i => ms.getD i 0) := by
  have hat : ∀ l ∈ cs, ∃ r, r < ms.length ∧ ChainB B r l := fun l hl => by
    obtain ⟨q, hq⟩ := List.mem_iff_getElem?.1 hl
    have hql : q < (rootsL bel ms.length).length := by rw [← hc.len]; exact (List.getElem?_eq_some_iff.1 hq).1
    obtain ⟨l', h3, h4⟩ := hc.at_ q _ (List.getElem?_eq_getElem hql)
    rw [hq] at h3
    cases h3
    exact ⟨_, List.mem_range.1 (List.mem_filter.1 (List.getElem_mem hql)).1, h4⟩
  refine ⟨.inr ⟨h0, ?_⟩, fun c hc' => ?_, fun c hc' m hm => ?_, fun m hm => ?_⟩
  · rw [List.length_map, hc.len, show (rootsL bel ms.length).length = U.length from ends_len hK hv]
    have hlt : ∀ i, ms.getD i 0 < 256 := fun i => by
      rw [List.getD_eq_getElem?_getD]
      cases hi : ms[i]? with
      | none => decide
      | some m => exact h256 m (List.mem_of_getElem? hi)
    exact hK.least (rank := fun i => 256 - ms.getD i 0) (fun x y h => by
      have h1 := below_lt h
      have h2 := hlt x
      show 256 - ms.getD x 0 < 256 - ms.getD y 0
      omega) (fun x y z h k => below_trans k h)
  · obtain ⟨l, hl, rfl⟩ := List.mem_map.1 hc'
    obtain ⟨r, hr, h1⟩ := hat l hl
    exact chain_rise hK h1
  · obtain ⟨l, hl, rfl⟩ := List.mem_map.1 hc'
    obtain ⟨r, hr, h1⟩ := hat l hl
    obtain ⟨x, hx, rfl⟩ := List.mem_map.1 hm
    have := chain_in hK hr h1 x hx
    rw [List.getD_eq_getElem?_getD, List.getElem?_eq_getElem this]
    exact List.getElem_mem this
  · obtain ⟨x, hx, rfl⟩ := List.getElem_of_mem hm
    obtain ⟨l, h1, h2⟩ := chain_all hK hv hc _ x (Nat.lt_succ_self _) hx
    refine ⟨_, List.mem_map.2 ⟨l, h1, rfl⟩, List.mem_map.2 ⟨x, h2, ?_⟩⟩
    rw [List.getD_eq_getElem?_getD, List.getElem?_eq_getElem hx]
    rfl
end
end Go.Proofs.Ytiljpacmkmmlcaa
