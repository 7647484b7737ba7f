/- Search by search; one thing more; things in another order; chains that are one. -/
import Derived.Test.YtiljpacmkmmlcaaKu2
set_option linter.unusedSimpArgs false
set_option linter.unusedVariables false
namespace Go.Proofs.Ytiljpacmkmmlcaa

/-- Behind the searches from all ahead of j: who found none, and the wall of all that they met. -/
structure KuS (n : Nat) (R : Nat → Nat → Prop) (B : Bh) (K : Nat → Prop) (U : List Nat) (j : Nat) : Prop where
  m : MatchB n R B fun _ => False
  w : Wall n R B K
  nd : U.Nodup
  u : ∀ x ∈ U, x < j ∧ Shut n R K x ∧ ¬ Has B (fun _ => False) x
  all : ∀ i, i < j → i ∈ U ∨ Has B (fun _ => False) i
  lt : ∀ i, Has B (fun _ => False) i → i < j
section
variable {n : Nat} {R : Nat → Nat → Prop}
theorem KuS.start : KuS n R (fun _ => none) (fun _ => False) [] 0 :=
  ⟨⟨(fun _ _ _ h => nomatch h), (fun _ _ _ _ _ h => nomatch h)⟩, (fun _ h => h.elim), List.nodup_nil, (fun _ h => (List.not_mem_nil h).elim), (fun _ h => by omega), (fun _ h => by
    obtain ⟨_, _, h⟩ := h
    cases h)⟩
theorem KuS.none {B : Bh} {K : Nat → Prop} {U : List Nat} {j : Nat} {B' : Bh} {m' : Nat → Bool} (h : KuS n R B K U j) (hs : Srch n R B (fun _ => false) j 0 false B' m') : B' = B ∧ KuS n R B (fun l => K l ∨ m' l = true) (U ++ [j]) (j + 1) := by
  obtain ⟨h1, h2, h3⟩ := hs.none rfl
  have hj : ¬ Has B (fun _ => False) j := fun hh => Nat.lt_irrefl _ (h.lt j hh)
  refine ⟨h1, h.m, ?_, ?_, ?_, ?_, ?_⟩
  · rintro k (hk | hk)
    · obtain ⟨i, hi, hsi⟩ := h.w k hk
      exact ⟨i, hi, fun l hl hr => .inl (hsi l hl hr)⟩
    · obtain ⟨i, hi, hsi⟩ := h3 k hk rfl
      exact ⟨i, hi, fun l hl hr => .inr (hsi l hl hr)⟩
  · refine List.nodup_append.2 ⟨h.nd, by simp, fun a ha b hb e => ?_⟩
    have hb' : b = j := by simpa using hb
    subst hb'
    subst e
    exact Nat.lt_irrefl _ (h.u a ha).1
  · intro x hx
    rcases List.mem_append.1 hx with hx | hx
    · obtain ⟨a, b, c⟩ := h.u x hx
      exact ⟨by omega, fun l hl hr => .inl (b l hl hr), c⟩
    · have hx' : x = j := by simpa using hx
      subst hx'
      exact ⟨Nat.lt_succ_self _, fun l hl hr => .inr (h2 l (Nat.zero_le _) hl hr), hj⟩
  · intro i hi
    by_cases e : i = j
    · subst e; exact .inl (by simp)
    · rcases h.all i (by omega) with h4 | h4
      · exact .inl (List.mem_append_left _ h4)
      · exact .inr h4
  · intro i hi
    have := h.lt i hi
    omega
theorem KuS.some {B : Bh} {K : Nat → Prop} {U : List Nat} {j : Nat} {B' : Bh} {m' : Nat → Bool} (h : KuS n R B K U j) (hjn : j < n) (hs : Srch n R B (fun _ => false) j 0 true B' m') : KuS n R B' K U (j + 1) := by
  have hj : ¬ Has B (fun _ => False) j := fun hh => Nat.lt_irrefl _ (h.lt j hh)
  obtain ⟨h1, h2⟩ := hs.more rfl (fun _ => False) (fun _ h => h.elim) h.m hjn hj
  obtain ⟨w1, _⟩ := hs.wall h.w
  refine ⟨h1, fun k hk => ?_, h.nd, fun x hx => ?_, fun i hi => ?_, fun i hi => ?_⟩
  · obtain ⟨i, hi, hsi⟩ := h.w k hk
    exact ⟨i, (w1 k hk).trans hi, hsi⟩
  · obtain ⟨a, b, c⟩ := h.u x hx
    exact ⟨by omega, b, fun hh => by
      rcases (h2 x).1 hh with h3 | h3
      · exact c h3
      · omega⟩
  · by_cases e : i = j
    · exact .inr ((h2 i).2 (.inr e))
    · rcases h.all i (by omega) with h4 | h4
      · exact .inl h4
      · exact .inr ((h2 i).2 (.inl h4))
  · rcases (h2 i).1 hi with h3 | h3
    · have := h.lt i h3; omega
    · omega
theorem KuS.least {B : Bh} {K : Nat → Prop} {U : List Nat} {rank : Nat → Nat} (h : KuS n R B K U n) (hR : ∀ x y, R x y → rank x < rank y) (tr : ∀ x y z, R x y → R y z → R x z) : LeastN n R U.length :=
  least_end h.m h.w h.nd h.u h.all hR tr
/-- With one thing more there are as many chains, or one more. -/
theorem least_grow {a b : Nat} (ha : LeastN n R a) (hb : LeastN (n + 1) R b) : a ≤ b ∧ b ≤ a + 1 := by
  obtain ⟨⟨A, a1, a2, a3, a4⟩, f, f1, f2⟩ := ha
  obtain ⟨⟨C, b1, b2, b3, b4⟩, g, g1, g2⟩ := hb
  constructor
  · have := anti_le (n := n + 1) a1 (fun x hx => by have := a2 x hx; omega) a3 g1 g2
    omega
  · have h1 := anti_le (n := n) (A := C.filter fun x => decide (x < n)) (nfilt_nodup b1) (fun x hx => by
      have := (List.mem_filter.1 hx).2
      exact of_decide_eq_true this) (fun x hx y hy => b3 x (List.mem_filter.1 hx).1 y (List.mem_filter.1 hy).1) f1 f2
    have h2 := nfilt_len (p := fun x => decide (x < n)) C
    have h3 := nsub_len (l := C.filter fun x => !decide (x < n)) (m := [n]) (nfilt_nodup b1) fun x hx => by
      have h4 := List.mem_filter.1 hx
      have h5 := b2 x h4.1
      have h6 : ¬ x < n := by simpa using h4.2
      rw [List.mem_singleton]
      omega
    rw [List.length_singleton] at h3
    omega
/-- Things that change places need as many. -/
theorem least_turn {a : Nat} {p : Nat → Nat} (hp : ∀ i, i < n → p i < n) (hpp : ∀ i, i < n → p (p i) = i) (h : LeastN n R a) : LeastN n (fun x y => R (p x) (p y)) a := by
  obtain ⟨⟨A, a1, a2, a3, a4⟩, f, f1, f2⟩ := h
  refine ⟨⟨A.map p, nmap_nodup a1 fun x hx y hy e => ?_, fun x hx => ?_, fun x hx y hy => ?_, by rw [List.length_map, a4]⟩, fun i => f (p i), fun i hi => f1 _ (hp i hi), fun i j hi hj hne e => ?_⟩
  · rw [← hpp x (a2 x hx), e, hpp y (a2 y hy)]
  · obtain ⟨z, hz, rfl⟩ := List.mem_map.1 hx
    exact hp z (a2 z hz)
  · obtain ⟨z, hz, rfl⟩ := List.mem_map.1 hx
    obtain ⟨w, hw, rfl⟩ := List.mem_map.1 hy
    show ¬ R (p (p z)) (p (p w))
    rw [hpp z (a2 z hz), hpp w (a2 w hw)]
    exact a3 z hz w hw
  · exact f2 _ _ (hp i hi) (hp j hj) (fun h => hne (by rw [← hpp i hi, h, hpp j hj])) e
theorem least_rev {a : Nat} (h : LeastN n R a) : LeastN n (fun x y => R (n - 1 - x) (n - 1 - y)) a := least_turn (p := fun i => n - 1 - i) (fun i hi => by show n - 1 - i < n; omega) (fun i hi => by show n - 1 - (n - 1 - i) = i; omega) h
/-- The relation counts where it is asked alone. -/
theorem least_congr {a : Nat} {R' : Nat → Nat → Prop} (h : LeastN n R a) (hR : ∀ x y, x < n → y < n → (R x y ↔ R' x y)) : LeastN n R' a := by
  obtain ⟨⟨A, a1, a2, a3, a4⟩, f, f1, f2⟩ := h
  exact ⟨⟨A, a1, a2, fun x hx y hy h => a3 x hx y hy ((hR x y (a2 x hx) (a2 y hy)).2 h), a4⟩, f, f1, fun i j hi hj hne e => by
    rcases f2 i j hi hj hne e with h | h
    · exact .inl ((hR _ _ hi hj).1 h)
    · exact .inr ((hR _ _ hj hi).1 h)⟩
/-- All within each other: one chain. -/
theorem least_chain (hn : 0 < n) (hR : ∀ i j, i < n → j < n → i ≠ j → R i j ∨ R j i) (irr : ∀ i, ¬ R i i) : LeastN n R 1 :=
  ⟨⟨[0], by simp, fun x hx => by have : x = 0 := (by simpa using hx); omega, fun x hx y hy => by
    have h1 : x = 0 := by simpa using hx
    have h2 : y = 0 := by simpa using hy
    subst h1; subst h2
    exact irr 0, rfl⟩, fun _ => 0, fun _ _ => Nat.lt_succ_self _, fun i j hi hj hne _ => hR i j hi hj hne⟩
theorem least_pos {a : Nat} (hn : 0 < n) (h : LeastN n R a) : 1 ≤ a := by
  obtain ⟨_, f, f1, _⟩ := h
  have := f1 0 hn
  omega
theorem least_le {a : Nat} (h : LeastN n R a) (irr : ∀ i, ¬ R i i) : a ≤ n := by
  obtain ⟨⟨A, a1, a2, a3, a4⟩, _⟩ := h
  have := nsub_len (m := List.range n) a1 fun x hx => List.mem_range.2 (a2 x hx)
  rw [List.length_range] at this
  omega
end
end Go.Proofs.Ytiljpacmkmmlcaa
