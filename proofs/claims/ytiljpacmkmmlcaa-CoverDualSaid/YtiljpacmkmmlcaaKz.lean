/- The order of a chain: who is in it, and what it serves. Plain. -/
import Derived.Test.YtiljpacmkmmlcaaKy
import Derived.Test.YtiljpacmkmmlcaaKu5
set_option linter.unusedSimpArgs false
set_option linter.unusedVariables false
namespace Go.Proofs.Ytiljpacmkmmlcaa

/-- The columns of s, below c from k on, that are not in o. -/
def freshF (c s : Nat) (o : List Int) : List Int := ((List.range c).filter fun j => s.testBit j && !o.contains (j : Int)).map fun j : Nat => (j : Int)
def stepF (c : Nat) (o : List Int) (s : Nat) : List Int := o ++ freshF c s o
def orderF (c : Nat) (l : List Nat) : List Int := (l ++ [2 ^ c - 1]).foldl (stepF c) []
theorem fresh_mem {c s : Nat} {o : List Int} {x : Int} : x ∈ freshF c s o ↔ ∃ j : Nat, x = j ∧ j < c ∧ s.testBit j = true ∧ x ∉ o := by
  unfold freshF
  rw [List.mem_map]
  constructor
  · rintro ⟨j, hj, rfl⟩
    rw [List.mem_filter, List.mem_range, Bool.and_eq_true] at hj
    exact ⟨j, rfl, hj.1, hj.2.1, by simpa using hj.2.2⟩
  · rintro ⟨j, rfl, h1, h2, h3⟩
    refine ⟨j, List.mem_filter.2 ⟨List.mem_range.2 h1, ?_⟩, rfl⟩
    rw [Bool.and_eq_true]
    exact ⟨h2, by simpa using h3⟩
/-- In it are just the columns of m. -/
structure OrdI (c : Nat) (o : List Int) (m : Nat) : Prop where
  nd : o.Nodup
  mem : ∀ x, x ∈ o ↔ ∃ j : Nat, x = j ∧ j < c ∧ m.testBit j = true
theorem OrdI.start (c : Nat) : OrdI c [] 0 := ⟨List.nodup_nil, fun x => ⟨fun h => by simp at h, fun ⟨j, _, _, h⟩ => by simp at h⟩⟩
theorem OrdI.step {c m s : Nat} {o : List Int} (h : OrdI c o m) (hs : ∀ j, m.testBit j = true → s.testBit j = true) : OrdI c (stepF c o s) s := by
  unfold stepF
  constructor
  · refine List.nodup_append.2 ⟨h.nd, ?_, fun a ha b hb e => ?_⟩
    · unfold freshF
      rw [List.nodup_iff_pairwise_ne, List.pairwise_map]
      refine List.Pairwise.imp ?_ (List.nodup_iff_pairwise_ne.1 (nfilt_nodup (p := fun j => s.testBit j && !o.contains (j : Int)) (List.nodup_range (n := c))))
      intro a b hab e
      exact hab (by omega)
    · obtain ⟨j, _, _, _, hn⟩ := fresh_mem.1 hb
      exact hn (e ▸ ha)
  · intro x
    rw [List.mem_append, fresh_mem]
    constructor
    · rintro (h0 | ⟨j, h1, h2, h3, _⟩)
      · obtain ⟨j, h1, h2, h3⟩ := (h.mem x).1 h0
        exact ⟨j, h1, h2, hs j h3⟩
      · exact ⟨j, h1, h2, h3⟩
    · rintro ⟨j, h1, h2, h3⟩
      by_cases hx : x ∈ o
      · exact .inl hx
      · exact .inr ⟨j, h1, h2, h3, hx⟩
theorem fold_pre (c : Nat) : ∀ (l : List Nat) (o : List Int), o <+: l.foldl (stepF c) o
  | [], o => List.prefix_refl o
  | s :: l, o => (List.prefix_append o (freshF c s o)).trans (fold_pre c l (stepF c o s))
/-- All that a chain's sets have, and where. -/
theorem fold_at {c : Nat} : ∀ (l : List Nat) (o : List Int) (m : Nat), OrdI c o m → (∀ x ∈ l, ∀ j, m.testBit j = true → x.testBit j = true) → (l.Pairwise fun a b => belowN a b = true) → ∀ x ∈ l, ∃ o', OrdI c o' x ∧ o' <+: l.foldl (stepF c) o
  | [], _, _, _, _, _, x, hx => by simp at hx
  | s :: l, o, m, h, hm, hp, x, hx => by
    have hp' := List.pairwise_cons.1 hp
    have hs := h.step (hm s (List.mem_cons_self ..))
    rcases List.mem_cons.1 hx with rfl | hx
    · exact ⟨_, hs, fold_pre c l _⟩
    · refine fold_at l (stepF c o s) s hs (fun y hy j hj => ?_) hp'.2 x hx
      have := hp'.1 y hy
      unfold belowN at this
      rw [Bool.and_eq_true, beq_iff_eq, and_sub] at this
      exact this.2 j hj
theorem fold_end {c : Nat} : ∀ (l : List Nat) (o : List Int) (m : Nat), OrdI c o m → (∀ x ∈ l, ∀ j, m.testBit j = true → x.testBit j = true) → (l.Pairwise fun a b => belowN a b = true) → ∀ s, (∀ x ∈ l, ∀ j, x.testBit j = true → s.testBit j = true) → (∀ j, m.testBit j = true → s.testBit j = true) → OrdI c ((l ++ [s]).foldl (stepF c) o) s
  | [], o, m, h, _, _, s, _, h2 => h.step h2
  | a :: l, o, m, h, hm, hp, s, h1, h2 => by
    have hp' := List.pairwise_cons.1 hp
    refine fold_end l (stepF c o a) a (h.step (hm a (List.mem_cons_self ..))) (fun y hy j hj => ?_) hp'.2 s (fun x hx => h1 x (List.mem_cons_of_mem _ hx)) (h1 a (List.mem_cons_self ..))
    have := hp'.1 y hy
    unfold belowN at this
    rw [Bool.and_eq_true, beq_iff_eq, and_sub] at this
    exact this.2 j hj
theorem full_bit {c j : Nat} : (2 ^ c - 1).testBit j = decide (j < c) := Nat.testBit_two_pow_sub_one c j
theorem bits_below {c m : Nat} (h : m < 2 ^ c) : ∀ j, m.testBit j = true → (2 ^ c - 1).testBit j = true := by
  intro j hj
  rw [full_bit, decide_eq_true_eq]
  rcases Nat.lt_or_ge j c with h1 | h1
  · exact h1
  · rw [Nat.testBit_lt_two_pow (Nat.lt_of_lt_of_le h (Nat.pow_le_pow_right (by decide) h1))] at hj
    cases hj
theorem order_whole {c : Nat} {l : List Nat} (hp : l.Pairwise fun a b => belowN a b = true) (hc : ∀ m ∈ l, m < 2 ^ c) : OrdI c (orderF c l) (2 ^ c - 1) :=
  fold_end l [] 0 (OrdI.start c) (fun x _ j hj => by simp at hj) hp _ (fun x hx => bits_below (hc x hx)) (fun j hj => by simp at hj)
theorem ilen_le {l m : List Int} (hn : l.Nodup) (h : ∀ x ∈ l, x ∈ m) : l.length ≤ m.length := isub_len hn h
theorem order_len {c : Nat} {o : List Int} (h : OrdI c o (2 ^ c - 1)) : o.length = c := by
  have h1 := ilen_le (m := (List.range c).map fun j : Nat => (j : Int)) h.nd fun x hx => by
    obtain ⟨j, rfl, hj, _⟩ := (h.mem x).1 hx
    exact List.mem_map.2 ⟨j, List.mem_range.2 hj, rfl⟩
  have h2 := ilen_le (l := (List.range c).map fun j : Nat => (j : Int)) (m := o) (by
    rw [List.nodup_iff_pairwise_ne, List.pairwise_map]
    exact List.Pairwise.imp (fun hab e => hab (by omega)) (List.nodup_iff_pairwise_ne.1 (List.nodup_range (n := c)))) fun x hx => by
    obtain ⟨j, hj, rfl⟩ := List.mem_map.1 hx
    have hj := List.mem_range.1 hj
    exact (h.mem _).2 ⟨j, rfl, hj, by rw [full_bit]; exact decide_eq_true hj⟩
  rw [List.length_map, List.length_range] at h1 h2
  omega
/-- It serves each set of the chain. -/
theorem order_serves {c : Nat} {l : List Nat} {s : List Int} (hp : l.Pairwise fun a b => belowN a b = true) (hs : maskL s ∈ l) (hr : riseI s = true) (h0 : ∀ x ∈ s, 0 ≤ x ∧ x < (c : Int)) : servesL (orderF c l) s = true := by
  obtain ⟨o', h1, h2⟩ := fold_at (c := c) l [] 0 (OrdI.start c) (fun x _ j hj => by simp at hj) hp _ hs
  have hmem : ∀ x, x ∈ o' ↔ x ∈ s := fun x => by
    rw [h1.mem]
    constructor
    · rintro ⟨j, rfl, _, h3⟩
      rw [mask_bit fun x hx => (h0 x hx).1, decide_eq_true_eq] at h3
      exact h3
    · intro hx
      obtain ⟨n, rfl⟩ := Int.eq_ofNat_of_zero_le (h0 x hx).1
      exact ⟨n, rfl, by have := (h0 _ hx).2; omega, by rw [mask_bit fun x hx => (h0 x hx).1]; exact decide_eq_true hx⟩
  have hlen : o'.length = s.length := Nat.le_antisymm (ilen_le h1.nd fun x hx => (hmem x).1 hx) (ilen_le (riseI_nodup hr) fun x hx => (hmem x).2 hx)
  have hpre : o' <+: orderF c l := by
    unfold orderF
    rw [List.foldl_append]
    exact h2.trans (fold_pre c _ _)
  have htake : (orderF c l).take s.length = o' := by rw [← hlen]; exact (List.prefix_iff_eq_take.1 hpre).symm
  have hle := hpre.length_le
  unfold servesL
  rw [htake, Bool.and_eq_true, Bool.and_eq_true, decide_eq_true_eq, within_iff, within_iff]
  exact ⟨by omega, fun x hx => (hmem x).1 hx, fun x hx => (hmem x).2 hx⟩
end Go.Proofs.Ytiljpacmkmmlcaa
