/- A search that asks level by level, and the way back over who asked: what becomes of a matching. Plain: nothing here speaks of a program. -/
import Derived.Test.YtiljpacmkmmlcaaKu3
set_option linter.unusedSimpArgs false
set_option linter.unusedVariables false
namespace Go.Proofs.Ytiljpacmkmmlcaa

section
variable {n : Nat} {R : Nat → Nat → Prop}
/-- What has been asked, in its order, who asked; of the first d all that they hold was asked for, too. -/
structure AskI (n : Nat) (R : Nat → Nat → Prop) (B : Bh) (j : Nat) (A : List Nat) (par : Nat → Nat) (d : Nat) : Prop where
  nd : A.Nodup
  lt : ∀ l ∈ A, l < n
  par : ∀ (i l : Nat), A[i]? = some l → R (par l) l ∧ (par l = j ∨ ∃ i' l', i' < i ∧ A[i']? = some l' ∧ B l' = some (par l))
  top : ∀ l, l < n → R j l → l ∈ A
  done : ∀ (i l : Nat), i < d → A[i]? = some l → ∃ m, B l = some m ∧ ∀ x, x < n → R m x → x ∈ A
  le : d ≤ A.length
theorem KuS.none2 {B : Bh} {K : Nat → Prop} {U : List Nat} {j : Nat} {A : List Nat} {par : Nat → Nat} (h : KuS n R B K U j) (hA : AskI n R B j A par A.length) : KuS n R B (fun l => K l ∨ l ∈ A) (U ++ [j]) (j + 1) := by
  have hj : ¬ Has B (fun _ => False) j := fun hh => Nat.lt_irrefl _ (h.lt j hh)
  refine ⟨h.m, ?_, ?_, ?_, ?_, ?_⟩
  · rintro k (hk | hk)
    · obtain ⟨i, hi, hsi⟩ := h.w k hk
      exact ⟨i, hi, fun l hl hr => .inl (hsi l hl hr)⟩
    · obtain ⟨i, hi⟩ := List.mem_iff_getElem?.1 hk
      obtain ⟨m, hm, hs⟩ := hA.done i k (List.getElem?_eq_some_iff.1 hi).1 hi
      exact ⟨m, hm, fun l hl hr => .inr (hs l hl hr)⟩
  · refine List.nodup_append.2 ⟨h.nd, by simp, fun a ha b hb e => ?_⟩
    have hb' : b = j := by simpa using hb
    subst hb'
    subst e
    exact Nat.lt_irrefl _ (h.u a ha).1
  · intro x hx
    rcases List.mem_append.1 hx with hx | hx
    · obtain ⟨a, b, c⟩ := h.u x hx
      exact ⟨by omega, fun l hl hr => .inl (b l hl hr), c⟩
    · have hx' : x = j := by simpa using hx
      subst hx'
      exact ⟨Nat.lt_succ_self _, fun l hl hr => .inr (hA.top l hl hr), hj⟩
  · intro i hi
    by_cases e : i = j
    · subst e; exact .inl (by simp)
    · rcases h.all i (by omega) with h4 | h4
      · exact .inl (List.mem_append_left _ h4)
      · exact .inr h4
  · intro i hi
    have := h.lt i hi
    omega
theorem KuS.some2 {B : Bh} {K : Nat → Prop} {U : List Nat} {j : Nat} {B' : Bh} (h : KuS n R B K U j) (h1 : MatchB n R B' fun _ => False) (h2 : ∀ x, Has B' (fun _ => False) x ↔ Has B (fun _ => False) x ∨ x = j) (w1 : ∀ l, K l → B' l = B l) : KuS n R B' K U (j + 1) := by
  refine ⟨h1, fun k hk => ?_, h.nd, fun x hx => ?_, fun i hi => ?_, fun i hi => ?_⟩
  · obtain ⟨i, hi, hsi⟩ := h.w k hk
    exact ⟨i, (w1 k hk).trans hi, hsi⟩
  · obtain ⟨a, b, c⟩ := h.u x hx
    exact ⟨by omega, b, fun hh => by
      rcases (h2 x).1 hh with h3 | h3
      · exact c h3
      · omega⟩
  · by_cases e : i = j
    · exact .inr ((h2 i).2 (.inr e))
    · rcases h.all i (by omega) with h4 | h4
      · exact .inl h4
      · exact .inr ((h2 i).2 (.inl h4))
  · rcases (h2 i).1 hi with h3 | h3
    · have := h.lt i h3; omega
    · omega
/-- On what each one lies: the matching, the other way round. -/
def Inv (B : Bh) (D : Nat → Prop) (bel : Bh) : Prop := ∀ m k, bel m = some k ↔ ¬ D k ∧ B k = some m
/-- On the way back: the place low is given away. -/
structure MoveI (n : Nat) (R : Nat → Nat → Prop) (B0 : Bh) (K : Nat → Prop) (A : List Nat) (B bel : Bh) (i low : Nat) : Prop where
  m : MatchB n R B fun l => l = low
  has : ∀ x, Has B (fun l => l = low) x ↔ Has B0 (fun _ => False) x
  at_ : A[i]? = some low
  old : ∀ i' l', i' < i → A[i']? = some l' → B l' = B0 l'
  k : ¬ K low
  kk : ∀ l, K l → B l = B0 l
  inv : Inv B (fun l => l = low) bel
theorem MoveI.start {B bel : Bh} {K : Nat → Prop} {U A : List Nat} {j i low : Nat} (h : KuS n R B K U j) (hv : Inv B (fun _ => False) bel) (hi : A[i]? = some low) (hb : B low = none) : MoveI n R B K A B bel i low := by
  have hne : ∀ {k m}, B k = some m → k ≠ low := fun hk e => by rw [e, hb] at hk; cases hk
  refine ⟨⟨fun k i _ => h.m.ok k i (fun h => h), fun k l i _ _ => h.m.inj k l i (fun h => h) fun h => h⟩, fun x => ⟨fun ⟨k, _, hk⟩ => ⟨k, fun h => h, hk⟩, fun ⟨k, _, hk⟩ => ⟨k, hne hk, hk⟩⟩, hi, fun _ _ _ _ => rfl, fun hk => ?_, fun _ _ => rfl, fun m k => ?_⟩
  · obtain ⟨x, hx, _⟩ := h.w low hk
    rw [hb] at hx
    cases hx
  · rw [hv m k]
    exact ⟨fun ⟨_, h2⟩ => ⟨hne h2, h2⟩, fun ⟨_, h2⟩ => ⟨fun h => h, h2⟩⟩
/-- The one that asked for low lies on none: it is the one from which the search began. -/
theorem MoveI.last {B0 B bel : Bh} {K : Nat → Prop} {U A : List Nat} {par : Nat → Nat} {j d i low : Nat} (h0 : KuS n R B0 K U j) (hA : AskI n R B0 j A par d) (hjn : j < n) (h : MoveI n R B0 K A B bel i low) (hl : bel (par low) = none) :
    KuS n R (updB B low (par low)) K U (j + 1) ∧ Inv (updB B low (par low)) (fun _ => False) (updB bel (par low) low) := by
  obtain ⟨hR, hp⟩ := hA.par i low h.at_
  have hmj : par low = j := by
    rcases hp with hp | ⟨i', l', h1, h2, h3⟩
    · exact hp
    · have h4 := h.old i' l' h1 h2
      have hne : l' ≠ low := fun e => by
        subst e
        have e2 := (List.getElem?_inj (List.getElem?_eq_some_iff.1 h2).1 hA.nd).1 (h2.trans h.at_.symm)
        omega
      have h5 := (h.inv (par low) l').2 ⟨hne, by rw [h4]; exact h3⟩
      rw [hl] at h5
      cases h5
  have hfree : ∀ k, k ≠ low → B k ≠ some j := fun k hk hb => by
    have := (h.inv j k).2 ⟨hk, hb⟩
    rw [← hmj, hl] at this
    cases this
  have hln := hA.lt low (List.mem_of_getElem? h.at_)
  rw [hmj] at hR ⊢
  refine ⟨h0.some2 ⟨fun k x _ hx => ?_, fun k l x _ _ hx hy => ?_⟩ (fun x => ?_) (fun l hl => ?_), fun m k => ?_⟩
  · by_cases e : k = low
    · subst e; rw [updB_same] at hx; cases hx; exact ⟨hjn, hln, hR⟩
    · rw [updB_other _ _ e] at hx; exact h.m.ok k x e hx
  · by_cases e : k = low
    · by_cases e' : l = low
      · rw [e, e']
      · subst e; rw [updB_same] at hx; cases hx
        rw [updB_other _ _ e'] at hy
        exact absurd hy (hfree l e')
    · by_cases e' : l = low
      · subst e'; rw [updB_same] at hy; cases hy
        rw [updB_other _ _ e] at hx
        exact absurd hx (hfree k e)
      · rw [updB_other _ _ e] at hx
        rw [updB_other _ _ e'] at hy
        exact h.m.inj k l x e e' hx hy
  · constructor
    · rintro ⟨k, _, hk⟩
      by_cases e : k = low
      · subst e; rw [updB_same] at hk; cases hk; exact .inr rfl
      · rw [updB_other _ _ e] at hk; exact .inl ((h.has x).1 ⟨k, e, hk⟩)
    · rintro (hx | rfl)
      · obtain ⟨k, e, hk⟩ := (h.has x).2 hx
        exact ⟨k, (fun h => h), by rw [updB_other _ _ e]; exact hk⟩
      · exact ⟨low, (fun h => h), updB_same _ _ _⟩
  · have e : l ≠ low := fun e => h.k (e ▸ hl)
    rw [updB_other _ _ e]
    exact h.kk l hl
  · by_cases em : m = j
    · subst em
      rw [updB_same]
      constructor
      · intro e; cases e; exact ⟨fun h => h, updB_same _ _ _⟩
      · rintro ⟨_, hk⟩
        by_cases e : k = low
        · rw [e]
        · rw [updB_other _ _ e] at hk; exact absurd hk (hfree k e)
    · rw [updB_other _ _ em, h.inv m k]
      constructor
      · rintro ⟨e, hk⟩; exact ⟨fun h => h, by rw [updB_other _ _ e]; exact hk⟩
      · rintro ⟨_, hk⟩
        by_cases e : k = low
        · subst e; rw [updB_same] at hk; cases hk; exact absurd rfl em
        · rw [updB_other _ _ e] at hk; exact ⟨e, hk⟩
/-- The one that asked for low leaves another place: that is given away now. -/
theorem MoveI.next {B0 B bel : Bh} {K : Nat → Prop} {U A : List Nat} {par : Nat → Nat} {j d i low left : Nat} (h0 : KuS n R B0 K U j) (hA : AskI n R B0 j A par d) (h : MoveI n R B0 K A B bel i low) (hl : bel (par low) = some left) :
    ∃ i', i' < i ∧ MoveI n R B0 K A (updB B low (par low)) (updB bel (par low) low) i' left := by
  obtain ⟨hR, hp⟩ := hA.par i low h.at_
  obtain ⟨hne, hbl⟩ := (h.inv _ _).1 hl
  have hmn := (h.m.ok left (par low) hne hbl).1
  have hln := hA.lt low (List.mem_of_getElem? h.at_)
  have hex : ∃ i', i' < i ∧ A[i']? = some left ∧ B0 left = some (par low) := by
    rcases hp with hp | ⟨i', l', h1, h2, h3⟩
    · exfalso
      have := (h.has (par low)).1 ⟨left, hne, hbl⟩
      rw [hp] at this
      exact Nat.lt_irrefl _ (h0.lt j this)
    · have h4 := h.old i' l' h1 h2
      have hne' : l' ≠ low := fun e => by
        subst e
        have e2 := (List.getElem?_inj (List.getElem?_eq_some_iff.1 h2).1 hA.nd).1 (h2.trans h.at_.symm)
        omega
      have h5 := h.m.inj left l' (par low) hne hne' hbl (by rw [h4]; exact h3)
      subst h5
      exact ⟨i', h1, h2, h3⟩
  obtain ⟨i', h1, h2, h3⟩ := hex
  have hother : ∀ k, k ≠ low → k ≠ left → B k ≠ some (par low) := fun k hk hk2 hb => hk2 (h.m.inj k left _ hk hne hb hbl)
  refine ⟨i', h1, ⟨fun k x hk hx => ?_, fun k l x hk hl' hx hy => ?_⟩, fun x => ?_, h2, fun i2 l2 h4 h5 => ?_, fun hk => ?_, fun l hl => ?_, fun m k => ?_⟩
  · by_cases e : k = low
    · subst e; rw [updB_same] at hx; cases hx; exact ⟨hmn, hln, hR⟩
    · rw [updB_other _ _ e] at hx; exact h.m.ok k x e hx
  · by_cases e : k = low
    · by_cases e' : l = low
      · rw [e, e']
      · subst e; rw [updB_same] at hx; cases hx
        rw [updB_other _ _ e'] at hy
        exact absurd hy (hother l e' hl')
    · by_cases e' : l = low
      · subst e'; rw [updB_same] at hy; cases hy
        rw [updB_other _ _ e] at hx
        exact absurd hx (hother k e hk)
      · rw [updB_other _ _ e] at hx
        rw [updB_other _ _ e'] at hy
        exact h.m.inj k l x e e' hx hy
  · rw [← h.has x]
    constructor
    · rintro ⟨k, hk, hx⟩
      by_cases e : k = low
      · subst e; rw [updB_same] at hx; cases hx; exact ⟨left, hne, hbl⟩
      · rw [updB_other _ _ e] at hx; exact ⟨k, e, hx⟩
    · rintro ⟨k, hk, hx⟩
      by_cases e : k = left
      · subst e; rw [hbl] at hx; cases hx; exact ⟨low, Ne.symm hne, updB_same _ _ _⟩
      · exact ⟨k, e, by rw [updB_other _ _ hk]; exact hx⟩
  · have e : l2 ≠ low := fun e => by
      subst e
      have e2 := (List.getElem?_inj (List.getElem?_eq_some_iff.1 h5).1 hA.nd).1 (h5.trans h.at_.symm)
      omega
    rw [updB_other _ _ e]
    exact h.old i2 l2 (by omega) h5
  · obtain ⟨x, hx, hs⟩ := h0.w left hk
    rw [h3] at hx
    cases hx
    exact h.k (hs low hln hR)
  · have e : l ≠ low := fun e => h.k (e ▸ hl)
    rw [updB_other _ _ e]
    exact h.kk l hl
  · by_cases em : m = par low
    · subst em
      rw [updB_same]
      constructor
      · intro e; cases e; exact ⟨Ne.symm hne, updB_same _ _ _⟩
      · rintro ⟨h6, hk⟩
        by_cases e : k = low
        · rw [e]
        · rw [updB_other _ _ e] at hk; exact absurd hk (hother k e h6)
    · rw [updB_other _ _ em, h.inv m k]
      constructor
      · rintro ⟨e, hk⟩
        exact ⟨fun h => by subst h; rw [hbl] at hk; cases hk; exact em rfl, by rw [updB_other _ _ e]; exact hk⟩
      · rintro ⟨_, hk⟩
        by_cases e : k = low
        · subst e; rw [updB_same] at hk; cases hk; exact absurd rfl em
        · rw [updB_other _ _ e] at hk; exact ⟨e, hk⟩
/-- Both ways round there are as many chains. -/
theorem least_flip {a : Nat} (h : LeastN n R a) : LeastN n (fun x y => R y x) a := by
  obtain ⟨⟨A, a1, a2, a3, a4⟩, f, f1, f2⟩ := h
  exact ⟨⟨A, a1, a2, fun x hx y hy => a3 y hy x hx, a4⟩, f, f1, fun i j hi hj hne e => (f2 i j hi hj hne e).symm⟩
/-- Those that lie on none are those that found none. -/
theorem ends_len {B bel : Bh} {K : Nat → Prop} {U : List Nat} (h : KuS n R B K U n) (hv : Inv B (fun _ => False) bel) : ((List.range n).filter fun i => (bel i).isNone).length = U.length := by
  have hm : ∀ i, i ∈ (List.range n).filter (fun i => (bel i).isNone) ↔ i ∈ U := fun i => by
    rw [List.mem_filter, List.mem_range, Option.isNone_iff_eq_none]
    constructor
    · rintro ⟨hi, hb⟩
      rcases h.all i hi with hu | ⟨k, _, hk⟩
      · exact hu
      · have := (hv i k).2 ⟨fun h => h, hk⟩
        rw [hb] at this
        cases this
    · intro hu
      obtain ⟨h1, _, h3⟩ := h.u i hu
      refine ⟨h1, ?_⟩
      cases hb : bel i with
      | none => rfl
      | some k => exact absurd ⟨k, (fun h => h), ((hv i k).1 hb).2⟩ h3
  have h1 := nsub_len (m := U) (nfilt_nodup (p := fun i => (bel i).isNone) List.nodup_range) fun x hx => (hm x).1 hx
  have h2 := nsub_len (m := (List.range n).filter fun i => (bel i).isNone) h.nd fun x hx => (hm x).2 hx
  omega
end
end Go.Proofs.Ytiljpacmkmmlcaa
