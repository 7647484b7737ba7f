/- A search that asks level by level, and the way back over who asked: what becomes of a matching. Plain: nothing here speaks of a program. Columns as bits: which set is below which. Asking level by level: one round more. Plain. Chains: from each one that lies on none, who lies on it, and so on. Plain. The order of a chain: who is in it, and what it serves. Plain. -/
import Derived.Test.YtiljpacmkmmlcaaKa
set_option linter.unusedSimpArgs false
set_option linter.unusedVariables false
namespace Go.Proofs.Ytiljpacmkmmlcaa

section
variable {n : Nat} {R : Nat → Nat → Prop}
/-- What has been asked, in its order, who asked; of the first d all that they hold was asked for, too. -/
structure AskI (n : Nat) (R : Nat → Nat → Prop) (B : Bh) (j : Nat) (A : List Nat) (par : Nat → Nat) (d : Nat) : Prop where
  nd : A.Nodup
  lt : ∀ l ∈ A, l < n
  par : ∀ (i l : Nat), A[i]? = some l → R (par l) l ∧ (par l = j ∨ ∃ i' l', i' < i ∧ A[i']? = some l' ∧ B l' = some (par l))
  top : ∀ l, l < n → R j l → l ∈ A
  done : ∀ (i l : Nat), i < d → A[i]? = some l → ∃ m, B l = some m ∧ ∀ x, x < n → R m x → x ∈ A
  le : d ≤ A.length
theorem KuS.none2 {B : Bh} {K : Nat → Prop} {U : List Nat} {j : Nat} {A : List Nat} {par : Nat → Nat} (h : KuS n R B K U j) (hA : AskI n R B j A par A.length) : KuS n R B (fun l => K l ∨ l ∈ A) (U ++ [j]) (j + 1) := by
  have hj : ¬ Has B (fun _ => False) j := fun hh => Nat.lt_irrefl _ (h.lt j hh)
  refine ⟨h.m, ?_, ?_, ?_, ?_, ?_⟩
  · rintro k (hk | hk)
    · obtain ⟨i, hi, hsi⟩ := h.w k hk
      exact ⟨i, hi, fun l hl hr => .inl (hsi l hl hr)⟩
    · obtain ⟨i, hi⟩ := List.mem_iff_getElem?.1 hk
      obtain ⟨m, hm, hs⟩ := hA.done i k (List.getElem?_eq_some_iff.1 hi).1 hi
      exact ⟨m, hm, fun l hl hr => .inr (hs l hl hr)⟩
  · refine List.nodup_append.2 ⟨h.nd, by simp, fun a ha b hb e => ?_⟩
    have hb' : b = j := by simpa using hb
    subst hb'
    subst e
    exact Nat.lt_irrefl _ (h.u a ha).1
  · intro x hx
    rcases List.mem_append.1 hx with hx | hx
    · obtain ⟨a, b, c⟩ := h.u x hx
      exact ⟨by omega, fun l hl hr => .inl (b l hl hr), c⟩
    · have hx' : x = j := by simpa using hx
      subst hx'
      exact ⟨Nat.lt_succ_self _, fun l hl hr => .inr (hA.top l hl hr), hj⟩
  · intro i hi
    by_cases e : i = j
    · subst e; exact .inl (by simp)
    · rcases h.all i (by omega) with h4 | h4
      · exact .inl (List.mem_append_left _ h4)
      · exact .inr h4
  · intro i hi
    have := h.lt i hi
    omega
theorem KuS.some2 {B : Bh} {K : Nat → Prop} {U : List Nat} {j : Nat} {B' : Bh} (h : KuS n R B K U j) (h1 : MatchB n R B' fun _ => False) (h2 : ∀ x, Has B' (fun _ => False) x ↔ Has B (fun _ => False) x ∨ x = j) (w1 : ∀ l, K l → B' l = B l) : KuS n R B' K U (j + 1) := by
  refine ⟨h1, fun k hk => ?_, h.nd, fun x hx => ?_, fun i hi => ?_, fun i hi => ?_⟩
  · obtain ⟨i, hi, hsi⟩ := h.w k hk
    exact ⟨i, (w1 k hk).trans hi, hsi⟩
  · obtain ⟨a, b, c⟩ := h.u x hx
    exact ⟨by omega, b, fun hh => by
      rcases (h2 x).1 hh with h3 | h3
      · exact c h3
      · omega⟩
  · by_cases e : i = j
    · exact .inr ((h2 i).2 (.inr e))
    · rcases h.all i (by omega) with h4 | h4
      · exact .inl h4
      · exact .inr ((h2 i).2 (.inl h4))
  · rcases (h2 i).1 hi with h3 | h3
    · have := h.lt i h3; omega
    · omega
/-- On what each one lies: the matching, the other way round. -/
def Inv (B : Bh) (D : Nat → Prop) (bel : Bh) : Prop := ∀ m k, bel m = some k ↔ ¬ D k ∧ B k = some m
/-- On the way back: the place low is given away. -/
structure MoveI (n : Nat) (R : Nat → Nat → Prop) (B0 : Bh) (K : Nat → Prop) (A : List Nat) (B bel : Bh) (i low : Nat) : Prop where
  m : MatchB n R B fun l => l = low
  has : ∀ x, Has B (fun l => l = low) x ↔ Has B0 (fun _ => False) x
  at_ : A[i]? = some low
  old : ∀ i' l', i' < i → A[i']? = some l' → B l' = B0 l'
  k : ¬ K low
  kk : ∀ l, K l → B l = B0 l
  inv : Inv B (fun l => l = low) bel
theorem MoveI.start {B bel : Bh} {K : Nat → Prop} {U A : List Nat} {j i low : Nat} (h : KuS n R B K U j) (hv : Inv B (fun _ => False) bel) (hi : A[i]? = some low) (hb : B low = none) : MoveI n R B K A B bel i low := by
  have hne : ∀ {k m}, B k = some m → k ≠ low := fun hk e => by rw [e, hb] at hk; cases hk
  refine ⟨⟨fun k i _ => h.m.ok k i (fun h => h), fun k l i _ _ => h.m.inj k l i (fun h => h) fun h => h⟩, fun x => ⟨fun ⟨k, _, hk⟩ => ⟨k, fun h => h, hk⟩, fun ⟨k, _, hk⟩ => ⟨k, hne hk, hk⟩⟩, hi, fun _ _ _ _ => rfl, fun hk => ?_, fun _ _ => rfl, fun m k => ?_⟩
  · obtain ⟨x, hx, _⟩ := h.w low hk
    rw [hb] at hx
    cases hx
  · rw [hv m k]
    exact ⟨fun ⟨_, h2⟩ => ⟨hne h2, h2⟩, fun ⟨_, h2⟩ => ⟨fun h => h, h2⟩⟩
/-- The one that asked for low lies on none: it is the one from which the search began. -/
theorem MoveI.last {B0 B bel : Bh} {K : Nat → Prop} {U A : List Nat} {par : Nat → Nat} {j d i low : Nat} (h0 : KuS n R B0 K U j) (hA : AskI n R B0 j A par d) (hjn : j < n) (h : MoveI n R B0 K A B bel i low) (hl : bel (par low) = none) :
    KuS n R (updB B low (par low)) K U (j + 1) ∧ Inv (updB B low (par low)) (fun _ => False) (updB bel (par low) low) := by
  obtain ⟨hR, hp⟩ := hA.par i low h.at_
  have hmj : par low = j := by
    rcases hp with hp | ⟨i', l', h1, h2, h3⟩
    · exact hp
    · have h4 := h.old i' l' h1 h2
      have hne : l' ≠ low := fun e => by
        subst e
        have e2 := (List.getElem?_inj (List.getElem?_eq_some_iff.1 h2).1 hA.nd).1 (h2.trans h.at_.symm)
        omega
      have h5 := (h.inv (par low) l').2 ⟨hne, by rw [h4]; exact h3⟩
      rw [hl] at h5
      cases h5
  have hfree : ∀ k, k ≠ low → B k ≠ some j := fun k hk hb => by
    have := (h.inv j k).2 ⟨hk, hb⟩
    rw [← hmj, hl] at this
    cases this
  have hln := hA.lt low (List.mem_of_getElem? h.at_)
  rw [hmj] at hR ⊢
  refine ⟨h0.some2 ⟨fun k x _ hx => ?_, fun k l x _ _ hx hy => ?_⟩ (fun x => ?_) (fun l hl => ?_), fun m k => ?_⟩
  · by_cases e : k = low
    · subst e; rw [updB_same] at hx; cases hx; exact ⟨hjn, hln, hR⟩
    · rw [updB_other _ _ e] at hx; exact h.m.ok k x e hx
  · by_cases e : k = low
    · by_cases e' : l = low
      · rw [e, e']
      · subst e; rw [updB_same] at hx; cases hx
        rw [updB_other _ _ e'] at hy
        exact absurd hy (hfree l e')
    · by_cases e' : l = low
      · subst e'; rw [updB_same] at hy; cases hy
        rw [updB_other _ _ e] at hx
        exact absurd hx (hfree k e)
      · rw [updB_other _ _ e] at hx
        rw [updB_other _ _ e'] at hy
        exact h.m.inj k l x e e' hx hy
  · constructor
    · rintro ⟨k, _, hk⟩
      by_cases e : k = low
      · subst e; rw [updB_same] at hk; cases hk; exact .inr rfl
      · rw [updB_other _ _ e] at hk; exact .inl ((h.has x).1 ⟨k, e, hk⟩)
    · rintro (hx | rfl)
      · obtain ⟨k, e, hk⟩ := (h.has x).2 hx
        exact ⟨k, (fun h => h), by rw [updB_other _ _ e]; exact hk⟩
      · exact ⟨low, (fun h => h), updB_same _ _ _⟩
  · have e : l ≠ low := fun e => h.k (e ▸ hl)
    rw [updB_other _ _ e]
    exact h.kk l hl
  · by_cases em : m = j
    · subst em
      rw [updB_same]
      constructor
      · intro e; cases e; exact ⟨fun h => h, updB_same _ _ _⟩
      · rintro ⟨_, hk⟩
        by_cases e : k = low
        · rw [e]
        · rw [updB_other _ _ e] at hk; exact absurd hk (hfree k e)
    · rw [updB_other _ _ em, h.inv m k]
      constructor
      · rintro ⟨e, hk⟩; exact ⟨fun h => h, by rw [updB_other _ _ e]; exact hk⟩
      · rintro ⟨_, hk⟩
        by_cases e : k = low
        · subst e; rw [updB_same] at hk; cases hk; exact absurd rfl em
        · rw [updB_other _ _ e] at hk; exact ⟨e, hk⟩
/-- The one that asked for low leaves another place: that is given away now. -/
theorem MoveI.next {B0 B bel : Bh} {K : Nat → Prop} {U A : List Nat} {par : Nat → Nat} {j d i low left : Nat} (h0 : KuS n R B0 K U j) (hA : AskI n R B0 j A par d) (h : MoveI n R B0 K A B bel i low) (hl : bel (par low) = some left) :
    ∃ i', i' < i ∧ MoveI n R B0 K A (updB B low (par low)) (updB bel (par low) low) i' left := by
  obtain ⟨hR, hp⟩ := hA.par i low h.at_
  obtain ⟨hne, hbl⟩ := (h.inv _ _).1 hl
  have hmn := (h.m.ok left (par low) hne hbl).1
  have hln := hA.lt low (List.mem_of_getElem? h.at_)
  have hex : ∃ i', i' < i ∧ A[i']? = some left ∧ B0 left = some (par low) := by
    rcases hp with hp | ⟨i', l', h1, h2, h3⟩
    · exfalso
      have := (h.has (par low)).1 ⟨left, hne, hbl⟩
      rw [hp] at this
      exact Nat.lt_irrefl _ (h0.lt j this)
    · have h4 := h.old i' l' h1 h2
      have hne' : l' ≠ low := fun e => by
        subst e
        have e2 := (List.getElem?_inj (List.getElem?_eq_some_iff.1 h2).1 hA.nd).1 (h2.trans h.at_.symm)
        omega
      have h5 := h.m.inj left l' (par low) hne hne' hbl (by rw [h4]; exact h3)
      subst h5
      exact ⟨i', h1, h2, h3⟩
  obtain ⟨i', h1, h2, h3⟩ := hex
  have hother : ∀ k, k ≠ low → k ≠ left → B k ≠ some (par low) := fun k hk hk2 hb => hk2 (h.m.inj k left _ hk hne hb hbl)
  refine ⟨i', h1, ⟨fun k x hk hx => ?_, fun k l x hk hl' hx hy => ?_⟩, fun x => ?_, h2, fun i2 l2 h4 h5 => ?_, fun hk => ?_, fun l hl => ?_, fun m k => ?_⟩
  · by_cases e : k = low
    · subst e; rw [updB_same] at hx; cases hx; exact ⟨hmn, hln, hR⟩
    · rw [updB_other _ _ e] at hx; exact h.m.ok k x e hx
  · by_cases e : k = low
    · by_cases e' : l = low
      · rw [e, e']
      · subst e; rw [updB_same] at hx; cases hx
        rw [updB_other _ _ e'] at hy
        exact absurd hy (hother l e' hl')
    · by_cases e' : l = low
      · subst e'; rw [updB_same] at hy; cases hy
        rw [updB_other _ _ e] at hx
        exact absurd hx (hother k e hk)
      · rw [updB_other _ _ e] at hx
        rw [updB_other _ _ e'] at hy
        exact h.m.inj k l x e e' hx hy
  · rw [← h.has x]
    constructor
    · rintro ⟨k, hk, hx⟩
      by_cases e : k = low
      · subst e; rw [updB_same] at hx; cases hx; exact ⟨left, hne, hbl⟩
      · rw [updB_other _ _ e] at hx; exact ⟨k, e, hx⟩
    · rintro ⟨k, hk, hx⟩
      by_cases e : k = left
      · subst e; rw [hbl] at hx; cases hx; exact ⟨low, Ne.symm hne, updB_same _ _ _⟩
      · exact ⟨k, e, by rw [updB_other _ _ hk]; exact hx⟩
  · have e : l2 ≠ low := fun e => by
      subst e
      have e2 := (List.getElem?_inj (List.getElem?_eq_some_iff.1 h5).1 hA.nd).1 (h5.trans h.at_.symm)
      omega
    rw [updB_other _ _ e]
    exact h.old i2 l2 (by omega) h5
  · obtain ⟨x, hx, hs⟩ := h0.w left hk
    rw [h3] at hx
    cases hx
    exact h.k (hs low hln hR)
  · have e : l ≠ low := fun e => h.k (e ▸ hl)
    rw [updB_other _ _ e]
    exact h.kk l hl
  · by_cases em : m = par low
    · subst em
      rw [updB_same]
      constructor
      · intro e; cases e; exact ⟨Ne.symm hne, updB_same _ _ _⟩
      · rintro ⟨h6, hk⟩
        by_cases e : k = low
        · rw [e]
        · rw [updB_other _ _ e] at hk; exact absurd hk (hother k e h6)
    · rw [updB_other _ _ em, h.inv m k]
      constructor
      · rintro ⟨e, hk⟩
        exact ⟨fun h => by subst h; rw [hbl] at hk; cases hk; exact em rfl, by rw [updB_other _ _ e]; exact hk⟩
      · rintro ⟨_, hk⟩
        by_cases e : k = low
        · subst e; rw [updB_same] at hk; cases hk; exact absurd rfl em
        · rw [updB_other _ _ e] at hk; exact ⟨e, hk⟩
/-- Both ways round there are as many chains. -/
theorem least_flip {a : Nat} (h : LeastN n R a) : LeastN n (fun x y => R y x) a := by
  obtain ⟨⟨A, a1, a2, a3, a4⟩, f, f1, f2⟩ := h
  exact ⟨⟨A, a1, a2, fun x hx y hy => a3 y hy x hx, a4⟩, f, f1, fun i j hi hj hne e => (f2 i j hi hj hne e).symm⟩
/-- Those that lie on none are those that found none. -/
theorem ends_len {B bel : Bh} {K : Nat → Prop} {U : List Nat} (h : KuS n R B K U n) (hv : Inv B (fun _ => False) bel) : ((List.range n).filter fun i => (bel i).isNone).length = U.length := by
  have hm : ∀ i, i ∈ (List.range n).filter (fun i => (bel i).isNone) ↔ i ∈ U := fun i => by
    rw [List.mem_filter, List.mem_range, Option.isNone_iff_eq_none]
    constructor
    · rintro ⟨hi, hb⟩
      rcases h.all i hi with hu | ⟨k, _, hk⟩
      · exact hu
      · have := (hv i k).2 ⟨fun h => h, hk⟩
        rw [hb] at this
        cases this
    · intro hu
      obtain ⟨h1, _, h3⟩ := h.u i hu
      refine ⟨h1, ?_⟩
      cases hb : bel i with
      | none => rfl
      | some k => exact absurd ⟨k, (fun h => h), ((hv i k).1 hb).2⟩ h3
  have h1 := nsub_len (m := U) (nfilt_nodup (p := fun i => (bel i).isNone) List.nodup_range) fun x hx => (hm x).1 hx
  have h2 := nsub_len (m := (List.range n).filter fun i => (bel i).isNone) h.nd fun x hx => (hm x).2 hx
  omega
end
end Go.Proofs.Ytiljpacmkmmlcaa
namespace Go.Proofs.Ytiljpacmkmmlcaa

def maskL (s : List Int) : Nat := s.foldl (fun m c => m ||| 2 ^ c.toNat) 0
theorem mask_fold : ∀ (s : List Int) (a j : Nat), (∀ x ∈ s, 0 ≤ x) → (s.foldl (fun m c => m ||| 2 ^ c.toNat) a).testBit j = (a.testBit j || decide ((j : Int) ∈ s))
  | [], a, j, _ => by simp
  | x :: s, a, j, h => by
    rw [List.foldl_cons, mask_fold s _ j fun y hy => h y (List.mem_cons_of_mem _ hy), Nat.testBit_or, Nat.testBit_two_pow, Bool.or_assoc]
    congr 1
    have hx := h x (List.mem_cons_self ..)
    have e : decide (x.toNat = j) = decide ((j : Int) = x) := by
      apply decide_eq_decide.2
      omega
    rw [e, ← Bool.decide_or]
    exact decide_eq_decide.2 List.mem_cons.symm
theorem mask_bit {s : List Int} (h : ∀ x ∈ s, 0 ≤ x) (j : Nat) : (maskL s).testBit j = decide ((j : Int) ∈ s) := by
  unfold maskL
  rw [mask_fold s 0 j h, Nat.zero_testBit, Bool.false_or]
theorem mask_snoc (s : List Int) (x : Int) : maskL (s ++ [x]) = maskL s ||| 2 ^ x.toNat := by
  unfold maskL
  rw [List.foldl_append]
  rfl
theorem mask_lt {s : List Int} {n : Nat} (h : ∀ x ∈ s, 0 ≤ x ∧ x < n) : maskL s < 2 ^ n := by
  refine Nat.lt_pow_two_of_testBit _ fun i hi => ?_
  rw [mask_bit fun x hx => (h x hx).1]
  refine decide_eq_false fun hm => ?_
  have := h _ hm
  omega
theorem mask_mem {s t : List Int} (hs : ∀ x ∈ s, 0 ≤ x) (ht : ∀ x ∈ t, 0 ≤ x) (h : ∀ j : Nat, (maskL s).testBit j = true → (maskL t).testBit j = true) : ∀ x ∈ s, x ∈ t := by
  intro x hx
  have h0 := hs x hx
  obtain ⟨n, rfl⟩ := Int.eq_ofNat_of_zero_le h0
  have := h n
  rw [mask_bit hs, mask_bit ht, decide_eq_true_eq, decide_eq_true_eq] at this
  exact this hx
theorem mask_inj {s t : List Int} (hs : ∀ x ∈ s, 0 ≤ x) (ht : ∀ x ∈ t, 0 ≤ x) (rs : riseI s = true) (rt : riseI t = true) (h : maskL s = maskL t) : s = t :=
  riseI_ext rs rt fun x => ⟨mask_mem hs ht (fun j hj => by rw [← h]; exact hj) x, mask_mem ht hs (fun j hj => by rw [h]; exact hj) x⟩
theorem mask_zero {s : List Int} (hs : ∀ x ∈ s, 0 ≤ x) : maskL s = 0 ↔ s = [] := by
  constructor
  · intro h
    cases s with
    | nil => rfl
    | cons x s =>
      have h0 := hs x (List.mem_cons_self ..)
      obtain ⟨n, rfl⟩ := Int.eq_ofNat_of_zero_le h0
      have := mask_bit hs n
      rw [h, Nat.zero_testBit] at this
      simp at this
  · rintro rfl; rfl
/-- All columns of a are b's, and b has more. -/
def belowN (a b : Nat) : Bool := a != b && a &&& b == a
theorem and_sub {a b : Nat} : a &&& b = a ↔ ∀ j, a.testBit j = true → b.testBit j = true := by
  constructor
  · intro h j hj
    rw [← h, Nat.testBit_and, Bool.and_eq_true] at hj
    exact hj.2
  · intro h
    apply Nat.eq_of_testBit_eq
    intro j
    rw [Nat.testBit_and]
    cases hj : a.testBit j with
    | false => rfl
    | true => rw [h j hj]; rfl
theorem below_inside {s t : List Int} (hs : ∀ x ∈ s, 0 ≤ x) (ht : ∀ x ∈ t, 0 ≤ x) (rs : riseI s = true) (rt : riseI t = true) : insideL s t = belowN (maskL s) (maskL t) := by
  rw [Bool.eq_iff_iff, inside_iff]
  unfold belowN
  rw [Bool.and_eq_true, bne_iff_ne, beq_iff_eq, and_sub]
  constructor
  · rintro ⟨h1, h2⟩
    refine ⟨fun e => ?_, fun j hj => ?_⟩
    · have := mask_inj hs ht rs rt e
      subst this
      omega
    · rw [mask_bit hs, decide_eq_true_eq] at hj
      rw [mask_bit ht, decide_eq_true_eq]
      exact h1 _ hj
  · rintro ⟨h1, h2⟩
    have h3 := mask_mem hs ht h2
    refine ⟨h3, ?_⟩
    have h4 := isub_len (riseI_nodup rs) h3
    rcases Nat.lt_or_ge s.length t.length with h5 | h5
    · exact h5
    · exfalso
      refine h1 (congrArg maskL (riseI_ext rs rt fun x => ⟨h3 x, fun hx => Classical.byContradiction fun hn => ?_⟩))
      have := isub_len (l := x :: s) (m := t) (List.nodup_cons.2 ⟨hn, riseI_nodup rs⟩) fun y hy => by
        rcases List.mem_cons.1 hy with rfl | hy
        · exact hx
        · exact h3 y hy
      simp only [List.length_cons] at this
      omega
/-- Set k is below set i, by their bits. -/
def RM (ms : List Nat) (i k : Nat) : Prop := belowN (ms.getD k 0) (ms.getD i 0) = true
theorem RM_RS {c : Int} {l : List (List Int)} (h : rightS c l = true) {i k : Nat} (hi : i < l.length) (hk : k < l.length) : RM (l.map maskL) i k ↔ RS l k i := by
  have gi : l[i]? = some (l.getD i []) := by rw [List.getD_eq_getElem?_getD, List.getElem?_eq_getElem hi]; rfl
  have gk : l[k]? = some (l.getD k []) := by rw [List.getD_eq_getElem?_getD, List.getElem?_eq_getElem hk]; rfl
  obtain ⟨_, ri, bi⟩ := rightS_at h gi
  obtain ⟨_, rk, bk⟩ := rightS_at h gk
  have ei : (l.map maskL).getD i 0 = maskL (l.getD i []) := by rw [List.getD_eq_getElem?_getD, List.getElem?_map, gi]; rfl
  have ek : (l.map maskL).getD k 0 = maskL (l.getD k []) := by rw [List.getD_eq_getElem?_getD, List.getElem?_map, gk]; rfl
  unfold RM RS
  rw [ei, ek, below_inside (fun x hx => (bk x hx).1) (fun x hx => (bi x hx).1) rk ri]
theorem masks_nodup {c : Int} {l : List (List Int)} (h : rightS c l = true) : (l.map maskL).Nodup := by
  rw [List.nodup_iff_pairwise_ne, List.pairwise_iff_getElem]
  intro i j hi hj hij e
  rw [List.length_map] at hi hj
  rw [List.getElem_map, List.getElem_map] at e
  have gi : l[i]? = some l[i] := List.getElem?_eq_getElem hi
  have gj : l[j]? = some l[j] := List.getElem?_eq_getElem hj
  obtain ⟨_, ri, bi⟩ := rightS_at h gi
  obtain ⟨_, rj, bj⟩ := rightS_at h gj
  have e2 := mask_inj (fun x hx => (bi x hx).1) (fun x hx => (bj x hx).1) ri rj e
  rw [← e2] at gj
  have hd : distinctL l = true := by
    unfold rightS at h
    simp only [Bool.and_eq_true] at h
    exact h.2.2
  have := distinct_at hd gi gj
  omega
end Go.Proofs.Ytiljpacmkmmlcaa
namespace Go.Proofs.Ytiljpacmkmmlcaa

/-- Those below the one at m that are not asked yet. -/
def moreA (ms A : List Nat) (m : Nat) : List Nat := (List.range ms.length).filter fun k => belowN (ms.getD k 0) (ms.getD m 0) && !A.contains k
theorem more_mem {ms A : List Nat} {m k : Nat} : k ∈ moreA ms A m ↔ k < ms.length ∧ RM ms m k ∧ k ∉ A := by
  unfold moreA RM
  rw [List.mem_filter, List.mem_range, Bool.and_eq_true]
  constructor
  · rintro ⟨h1, h2, h3⟩
    exact ⟨h1, h2, by simpa using h3⟩
  · rintro ⟨h1, h2, h3⟩
    exact ⟨h1, h2, by simpa using h3⟩
theorem more_nodup (ms A : List Nat) (m : Nat) : (moreA ms A m).Nodup := nfilt_nodup List.nodup_range
theorem AskI.first (ms : List Nat) (B : Bh) (j : Nat) : AskI ms.length (RM ms) B j (moreA ms [] j) (fun _ => j) 0 :=
  ⟨more_nodup _ _ _, fun l hl => (more_mem.1 hl).1, fun i l hi => ⟨(more_mem.1 (List.mem_of_getElem? hi)).2.1, .inl rfl⟩, fun l hl hr => more_mem.2 ⟨hl, hr, List.not_mem_nil⟩, fun i l hi => by omega, Nat.zero_le _⟩
def parU (par : Nat → Nat) (l : List Nat) (m : Nat) : Nat → Nat := fun k => if k ∈ l then m else par k
theorem AskI.step {ms : List Nat} {B : Bh} {j : Nat} {A : List Nat} {par : Nat → Nat} {d l0 m : Nat} (h : AskI ms.length (RM ms) B j A par d) (hd : A[d]? = some l0) (hm : B l0 = some m) : AskI ms.length (RM ms) B j (A ++ moreA ms A m) (parU par (moreA ms A m) m) (d + 1) := by
  have hdl := (List.getElem?_eq_some_iff.1 hd).1
  have hdis : ∀ a ∈ A, ∀ b ∈ moreA ms A m, a ≠ b := fun a ha b hb e => (more_mem.1 hb).2.2 (e ▸ ha)
  have hl : ∀ (i l : Nat), (A ++ moreA ms A m)[i]? = some l → (i < A.length ∧ A[i]? = some l) ∨ (A.length ≤ i ∧ l ∈ moreA ms A m) := fun i l hi => by
    rw [List.getElem?_append] at hi
    split at hi
    · rename_i h1; exact .inl ⟨h1, hi⟩
    · rename_i h1; exact .inr ⟨by omega, List.mem_of_getElem? hi⟩
  have ha : ∀ (i l : Nat), A[i]? = some l → (A ++ moreA ms A m)[i]? = some l := fun i l hi => by rw [List.getElem?_append_left (List.getElem?_eq_some_iff.1 hi).1]; exact hi
  refine ⟨List.nodup_append.2 ⟨h.nd, more_nodup _ _ _, hdis⟩, fun l hl => ?_, fun i l hi => ?_, fun l hl hr => List.mem_append_left _ (h.top l hl hr), fun i l hid hi => ?_, by rw [List.length_append]; omega⟩
  · rcases List.mem_append.1 hl with hl | hl
    · exact h.lt l hl
    · exact (more_mem.1 hl).1
  · rcases hl i l hi with ⟨h1, h2⟩ | ⟨h1, h2⟩
    · have hn : l ∉ moreA ms A m := fun hm => hdis l (List.mem_of_getElem? h2) l hm rfl
      have e : parU par (moreA ms A m) m l = par l := if_neg hn
      rw [e]
      obtain ⟨a, b⟩ := h.par i l h2
      exact ⟨a, b.imp id fun ⟨i', l', q1, q2, q3⟩ => ⟨i', l', q1, ha i' l' q2, q3⟩⟩
    · have e : parU par (moreA ms A m) m l = m := if_pos h2
      rw [e]
      exact ⟨(more_mem.1 h2).2.1, .inr ⟨d, l0, by omega, ha d l0 hd, hm⟩⟩
  · by_cases e : i = d
    · subst e
      have : l = l0 := by
        have := ha i l0 hd
        rw [hi] at this
        exact Option.some.inj this
      subst this
      refine ⟨m, hm, fun x hx hr => ?_⟩
      by_cases hxa : x ∈ A
      · exact List.mem_append_left _ hxa
      · exact List.mem_append_right _ (more_mem.2 ⟨hx, hr, hxa⟩)
    · rcases hl i l hi with ⟨h1, h2⟩ | ⟨h1, h2⟩
      · obtain ⟨m', q1, q2⟩ := h.done i l (by omega) h2
        exact ⟨m', q1, fun x hx hr => List.mem_append_left _ (q2 x hx hr)⟩
      · omega
end Go.Proofs.Ytiljpacmkmmlcaa
namespace Go.Proofs.Ytiljpacmkmmlcaa

/-- From r on, each one's follower, up to one that has none. -/
structure ChainB (B : Bh) (r : Nat) (l : List Nat) : Prop where
  h : l[0]? = some r
  s : ∀ (i x y : Nat), l[i]? = some x → l[i + 1]? = some y → B x = some y
  e : ∀ x, l[l.length - 1]? = some x → B x = none
def rootsL (bel : Bh) (k : Nat) : List Nat := (List.range k).filter fun i => (bel i).isNone
theorem roots_skip {bel : Bh} {k y : Nat} (h : bel k = some y) : rootsL bel (k + 1) = rootsL bel k := by
  unfold rootsL
  rw [List.range_succ, List.filter_append]
  simp [h]
theorem roots_new {bel : Bh} {k : Nat} (h : bel k = none) : rootsL bel (k + 1) = rootsL bel k ++ [k] := by
  unfold rootsL
  rw [List.range_succ, List.filter_append]
  simp [h]
structure CsOk (B bel : Bh) (k : Nat) (cs : List (List Nat)) : Prop where
  len : cs.length = (rootsL bel k).length
  at_ : ∀ (i r : Nat), (rootsL bel k)[i]? = some r → ∃ l, cs[i]? = some l ∧ ChainB B r l
theorem CsOk.zero (B bel : Bh) : CsOk B bel 0 [] := ⟨rfl, fun i r h => by simp [rootsL] at h⟩
theorem CsOk.skip {B bel : Bh} {k y : Nat} {cs : List (List Nat)} (h : CsOk B bel k cs) (hb : bel k = some y) : CsOk B bel (k + 1) cs := by
  have e := roots_skip hb
  exact ⟨by rw [e]; exact h.len, by rw [e]; exact h.at_⟩
theorem CsOk.snoc {B bel : Bh} {k : Nat} {cs : List (List Nat)} {l : List Nat} (h : CsOk B bel k cs) (hb : bel k = none) (hl : ChainB B k l) : CsOk B bel (k + 1) (cs ++ [l]) := by
  have e := roots_new hb
  refine ⟨by rw [e, List.length_append, List.length_append, h.len]; rfl, fun i r hi => ?_⟩
  rw [e, List.getElem?_append] at hi
  split at hi
  · rename_i h1
    obtain ⟨l', h2, h3⟩ := h.at_ i r hi
    exact ⟨l', by rw [List.getElem?_append_left (by rw [h.len]; exact h1)]; exact h2, h3⟩
  · rename_i h1
    have h2 : i - (rootsL bel k).length = 0 := by
      have := (List.getElem?_eq_some_iff.1 hi).1
      simp at this
      omega
    rw [h2] at hi
    have : k = r := by simpa using hi
    subst this
    refine ⟨l, ?_, hl⟩
    rw [List.getElem?_append_right (by rw [h.len]; omega), h.len, h2]
    rfl
theorem below_lt {a b : Nat} (h : belowN a b = true) : a < b := by
  unfold belowN at h
  rw [Bool.and_eq_true, bne_iff_ne, beq_iff_eq] at h
  have h2 : a &&& b ≤ b := Nat.and_le_right
  rw [h.2] at h2
  omega
theorem below_trans {a b c : Nat} (h : belowN a b = true) (k : belowN b c = true) : belowN a c = true := by
  have h1 := below_lt h
  have h2 := below_lt k
  unfold belowN at *
  rw [Bool.and_eq_true, bne_iff_ne, beq_iff_eq, and_sub] at *
  exact ⟨by omega, fun j hj => k.2 j (h.2 j hj)⟩
section
variable {ms : List Nat} {B bel : Bh} {K : Nat → Prop} {U : List Nat}
/-- Each one is in a chain. -/
theorem chain_all (hK : KuS ms.length (RM ms) B K U ms.length) (hv : Inv B (fun _ => False) bel) {cs : List (List Nat)} (hc : CsOk B bel ms.length cs) : ∀ (m x : Nat), ms.getD x 0 < m → x < ms.length → ∃ l ∈ cs, x ∈ l
  | 0, _, h, _ => by omega
  | m + 1, x, h, hx => by
    cases hb : bel x with
    | none =>
      have : x ∈ rootsL bel ms.length := List.mem_filter.2 ⟨List.mem_range.2 hx, by rw [hb]; rfl⟩
      obtain ⟨i, hi⟩ := List.mem_iff_getElem?.1 this
      obtain ⟨l, h1, h2⟩ := hc.at_ i x hi
      exact ⟨l, List.mem_of_getElem? h1, List.mem_of_getElem? h2.h⟩
    | some y =>
      have hB := ((hv x y).1 hb).2
      obtain ⟨_, hy, hr⟩ := hK.m.ok y x (fun h => h) hB
      have hlt := below_lt hr
      obtain ⟨l, h1, h2⟩ := chain_all hK hv hc m y (by omega) hy
      refine ⟨l, h1, ?_⟩
      obtain ⟨q, hq⟩ := List.mem_iff_getElem?.1 h1
      have hql : q < (rootsL bel ms.length).length := by rw [← hc.len]; exact (List.getElem?_eq_some_iff.1 hq).1
      obtain ⟨l', h3, h4⟩ := hc.at_ q _ (List.getElem?_eq_getElem hql)
      rw [hq] at h3
      cases h3
      obtain ⟨i, hi⟩ := List.mem_iff_getElem?.1 h2
      have hil := (List.getElem?_eq_some_iff.1 hi).1
      by_cases he : i = l.length - 1
      · subst he
        rw [h4.e y hi] at hB
        cases hB
      · obtain ⟨z, hz⟩ : ∃ z, l[i + 1]? = some z := ⟨l[i + 1]'(by omega), List.getElem?_eq_getElem (by omega)⟩
        have := h4.s i y z hi hz
        rw [hB] at this
        cases this
        exact List.mem_of_getElem? hz
theorem chain_in (hK : KuS ms.length (RM ms) B K U ms.length) {r : Nat} {l : List Nat} (hr : r < ms.length) (h : ChainB B r l) : ∀ x ∈ l, x < ms.length := by
  intro x hx
  obtain ⟨i, hi⟩ := List.mem_iff_getElem?.1 hx
  cases i with
  | zero => rw [h.h] at hi; cases hi; exact hr
  | succ i =>
    obtain ⟨y, hy⟩ : ∃ y, l[i]? = some y := ⟨l[i]'(by have := (List.getElem?_eq_some_iff.1 hi).1; omega), List.getElem?_eq_getElem _⟩
    exact (hK.m.ok y x (fun h => h) (h.s i y x hy hi)).1
/-- The sets of a chain lie within each other. -/
theorem chain_rise (hK : KuS ms.length (RM ms) B K U ms.length) {r : Nat} {l : List Nat} (h : ChainB B r l) : (l.map fun i => ms.getD i 0).Pairwise fun a b => belowN a b = true := by
  have key : ∀ (d i x y : Nat), l[i]? = some x → l[i + d + 1]? = some y → belowN (ms.getD x 0) (ms.getD y 0) = true := by
    intro d
    induction d with
    | zero =>
      intro i x y hx hy
      exact (hK.m.ok x y (fun h => h) (h.s i x y hx hy)).2.2
    | succ d ih =>
      intro i x y hx hy
      obtain ⟨z, hz⟩ : ∃ z, l[i + d + 1]? = some z := ⟨l[i + d + 1]'(by have := (List.getElem?_eq_some_iff.1 hy).1; omega), List.getElem?_eq_getElem _⟩
      exact below_trans (ih i x z hx hz) (hK.m.ok z y (fun h => h) (h.s (i + d + 1) z y hz hy)).2.2
  rw [List.pairwise_iff_getElem]
  intro i j hi hj hij
  rw [List.length_map] at hi hj
  rw [List.getElem_map, List.getElem_map]
  exact key (j - i - 1) i _ _ (List.getElem?_eq_getElem hi) (by rw [show i + (j - i - 1) + 1 = j by omega]; exact List.getElem?_eq_getElem hj)
/-- What the chains of sets are. -/
structure Chains (ms : List Nat) (cs : List (List Nat)) : Prop where
  n : (ms = [] ∧ cs.length = 1) ∨ (ms ≠ [] ∧ LeastN ms.length (RM ms) cs.length)
  up : ∀ c ∈ cs, c.Pairwise fun a b => belowN a b = true
  sub : ∀ c ∈ cs, ∀ m ∈ c, m ∈ ms
  all : ∀ m ∈ ms, ∃ c ∈ cs, m ∈ c
theorem chains_of (h256 : ∀ m ∈ ms, m < 256) (hK : KuS ms.length (RM ms) B K U ms.length) (hv : Inv B (fun _ => False) bel) (h0 : ms ≠ []) {cs : List (List Nat)} (hc : CsOk B bel ms.length cs) : Chains ms (cs.map fun l => l.map fun i => ms.getD i 0) := by
  have hat : ∀ l ∈ cs, ∃ r, r < ms.length ∧ ChainB B r l := fun l hl => by
    obtain ⟨q, hq⟩ := List.mem_iff_getElem?.1 hl
    have hql : q < (rootsL bel ms.length).length := by rw [← hc.len]; exact (List.getElem?_eq_some_iff.1 hq).1
    obtain ⟨l', h3, h4⟩ := hc.at_ q _ (List.getElem?_eq_getElem hql)
    rw [hq] at h3
    cases h3
    exact ⟨_, List.mem_range.1 (List.mem_filter.1 (List.getElem_mem hql)).1, h4⟩
  refine ⟨.inr ⟨h0, ?_⟩, fun c hc' => ?_, fun c hc' m hm => ?_, fun m hm => ?_⟩
  · rw [List.length_map, hc.len, show (rootsL bel ms.length).length = U.length from ends_len hK hv]
    have hlt : ∀ i, ms.getD i 0 < 256 := fun i => by
      rw [List.getD_eq_getElem?_getD]
      cases hi : ms[i]? with
      | none => decide
      | some m => exact h256 m (List.mem_of_getElem? hi)
    exact hK.least (rank := fun i => 256 - ms.getD i 0) (fun x y h => by
      have h1 := below_lt h
      have h2 := hlt x
      show 256 - ms.getD x 0 < 256 - ms.getD y 0
      omega) (fun x y z h k => below_trans k h)
  · obtain ⟨l, hl, rfl⟩ := List.mem_map.1 hc'
    obtain ⟨r, hr, h1⟩ := hat l hl
    exact chain_rise hK h1
  · obtain ⟨l, hl, rfl⟩ := List.mem_map.1 hc'
    obtain ⟨r, hr, h1⟩ := hat l hl
    obtain ⟨x, hx, rfl⟩ := List.mem_map.1 hm
    have := chain_in hK hr h1 x hx
    rw [List.getD_eq_getElem?_getD, List.getElem?_eq_getElem this]
    exact List.getElem_mem this
  · obtain ⟨x, hx, rfl⟩ := List.getElem_of_mem hm
    obtain ⟨l, h1, h2⟩ := chain_all hK hv hc _ x (Nat.lt_succ_self _) hx
    refine ⟨_, List.mem_map.2 ⟨l, h1, rfl⟩, List.mem_map.2 ⟨x, h2, ?_⟩⟩
    rw [List.getD_eq_getElem?_getD, List.getElem?_eq_getElem hx]
    rfl
end
end Go.Proofs.Ytiljpacmkmmlcaa
namespace Go.Proofs.Ytiljpacmkmmlcaa

/-- The columns of s, below c from k on, that are not in o. -/
def freshF (c s : Nat) (o : List Int) : List Int := ((List.range c).filter fun j => s.testBit j && !o.contains (j : Int)).map fun j : Nat => (j : Int)
def stepF (c : Nat) (o : List Int) (s : Nat) : List Int := o ++ freshF c s o
def orderF (c : Nat) (l : List Nat) : List Int := (l ++ [2 ^ c - 1]).foldl (stepF c) []
theorem fresh_mem {c s : Nat} {o : List Int} {x : Int} : x ∈ freshF c s o ↔ ∃ j : Nat, x = j ∧ j < c ∧ s.testBit j = true ∧ x ∉ o := by
  unfold freshF
  rw [List.mem_map]
  constructor
  · rintro ⟨j, hj, rfl⟩
    rw [List.mem_filter, List.mem_range, Bool.and_eq_true] at hj
    exact ⟨j, rfl, hj.1, hj.2.1, by simpa using hj.2.2⟩
  · rintro ⟨j, rfl, h1, h2, h3⟩
    refine ⟨j, List.mem_filter.2 ⟨List.mem_range.2 h1, ?_⟩, rfl⟩
    rw [Bool.and_eq_true]
    exact ⟨h2, by simpa using h3⟩
/-- In it are just the columns of m. -/
structure OrdI (c : Nat) (o : List Int) (m : Nat) : Prop where
  nd : o.Nodup
  mem : ∀ x, x ∈ o ↔ ∃ j : Nat, x = j ∧ j < c ∧ m.testBit j = true
theorem OrdI.start (c : Nat) : OrdI c [] 0 := ⟨List.nodup_nil, fun x => ⟨fun h => by simp at h, fun ⟨j, _, _, h⟩ => by simp at h⟩⟩
theorem OrdI.step {c m s : Nat} {o : List Int} (h : OrdI c o m) (hs : ∀ j, m.testBit j = true → s.testBit j = true) : OrdI c (stepF c o s) s := by
  unfold stepF
  constructor
  · refine List.nodup_append.2 ⟨h.nd, ?_, fun a ha b hb e => ?_⟩
    · unfold freshF
      rw [List.nodup_iff_pairwise_ne, List.pairwise_map]
      refine List.Pairwise.imp ?_ (List.nodup_iff_pairwise_ne.1 (nfilt_nodup (p := fun j => s.testBit j && !o.contains (j : Int)) (List.nodup_range (n := c))))
      intro a b hab e
      exact hab (by omega)
    · obtain ⟨j, _, _, _, hn⟩ := fresh_mem.1 hb
      exact hn (e ▸ ha)
  · intro x
    rw [List.mem_append, fresh_mem]
    constructor
    · rintro (h0 | ⟨j, h1, h2, h3, _⟩)
      · obtain ⟨j, h1, h2, h3⟩ := (h.mem x).1 h0
        exact ⟨j, h1, h2, hs j h3⟩
      · exact ⟨j, h1, h2, h3⟩
    · rintro ⟨j, h1, h2, h3⟩
      by_cases hx : x ∈ o
      · exact .inl hx
      · exact .inr ⟨j, h1, h2, h3, hx⟩
theorem fold_pre (c : Nat) : ∀ (l : List Nat) (o : List Int), o <+: l.foldl (stepF c) o
  | [], o => List.prefix_refl o
  | s :: l, o => (List.prefix_append o (freshF c s o)).trans (fold_pre c l (stepF c o s))
/-- All that a chain's sets have, and where. -/
theorem fold_at {c : Nat} : ∀ (l : List Nat) (o : List Int) (m : Nat), OrdI c o m → (∀ x ∈ l, ∀ j, m.testBit j = true → x.testBit j = true) → (l.Pairwise fun a b => belowN a b = true) → ∀ x ∈ l, ∃ o', OrdI c o' x ∧ o' <+: l.foldl (stepF c) o
  | [], _, _, _, _, _, x, hx => by simp at hx
  | s :: l, o, m, h, hm, hp, x, hx => by
    have hp' := List.pairwise_cons.1 hp
    have hs := h.step (hm s (List.mem_cons_self ..))
    rcases List.mem_cons.1 hx with rfl | hx
    · exact ⟨_, hs, fold_pre c l _⟩
    · refine fold_at l (stepF c o s) s hs (fun y hy j hj => ?_) hp'.2 x hx
      have := hp'.1 y hy
      unfold belowN at this
      rw [Bool.and_eq_true, beq_iff_eq, and_sub] at this
      exact this.2 j hj
theorem fold_end {c : Nat} : ∀ (l : List Nat) (o : List Int) (m : Nat), OrdI c o m → (∀ x ∈ l, ∀ j, m.testBit j = true → x.testBit j = true) → (l.Pairwise fun a b => belowN a b = true) → ∀ s, (∀ x ∈ l, ∀ j, x.testBit j = true → s.testBit j = true) → (∀ j, m.testBit j = true → s.testBit j = true) → OrdI c ((l ++ [s]).foldl (stepF c) o) s
  | [], o, m, h, _, _, s, _, h2 => h.step h2
  | a :: l, o, m, h, hm, hp, s, h1, h2 => by
    have hp' := List.pairwise_cons.1 hp
    refine fold_end l (stepF c o a) a (h.step (hm a (List.mem_cons_self ..))) (fun y hy j hj => ?_) hp'.2 s (fun x hx => h1 x (List.mem_cons_of_mem _ hx)) (h1 a (List.mem_cons_self ..))
    have := hp'.1 y hy
    unfold belowN at this
    rw [Bool.and_eq_true, beq_iff_eq, and_sub] at this
    exact this.2 j hj
theorem full_bit {c j : Nat} : (2 ^ c - 1).testBit j = decide (j < c) := Nat.testBit_two_pow_sub_one c j
theorem bits_below {c m : Nat} (h : m < 2 ^ c) : ∀ j, m.testBit j = true → (2 ^ c - 1).testBit j = true := by
  intro j hj
  rw [full_bit, decide_eq_true_eq]
  rcases Nat.lt_or_ge j c with h1 | h1
  · exact h1
  · rw [Nat.testBit_lt_two_pow (Nat.lt_of_lt_of_le h (Nat.pow_le_pow_right (by decide) h1))] at hj
    cases hj
theorem order_whole {c : Nat} {l : List Nat} (hp : l.Pairwise fun a b => belowN a b = true) (hc : ∀ m ∈ l, m < 2 ^ c) : OrdI c (orderF c l) (2 ^ c - 1) :=
  fold_end l [] 0 (OrdI.start c) (fun x _ j hj => by simp at hj) hp _ (fun x hx => bits_below (hc x hx)) (fun j hj => by simp at hj)
theorem ilen_le {l m : List Int} (hn : l.Nodup) (h : ∀ x ∈ l, x ∈ m) : l.length ≤ m.length := isub_len hn h
theorem order_len {c : Nat} {o : List Int} (h : OrdI c o (2 ^ c - 1)) : o.length = c := by
  have h1 := ilen_le (m := (List.range c).map fun j : Nat => (j : Int)) h.nd fun x hx => by
    obtain ⟨j, rfl, hj, _⟩ := (h.mem x).1 hx
    exact List.mem_map.2 ⟨j, List.mem_range.2 hj, rfl⟩
  have h2 := ilen_le (l := (List.range c).map fun j : Nat => (j : Int)) (m := o) (by
    rw [List.nodup_iff_pairwise_ne, List.pairwise_map]
    exact List.Pairwise.imp (fun hab e => hab (by omega)) (List.nodup_iff_pairwise_ne.1 (List.nodup_range (n := c)))) fun x hx => by
    obtain ⟨j, hj, rfl⟩ := List.mem_map.1 hx
    have hj := List.mem_range.1 hj
    exact (h.mem _).2 ⟨j, rfl, hj, by rw [full_bit]; exact decide_eq_true hj⟩
  rw [List.length_map, List.length_range] at h1 h2
  omega
/-- It serves each set of the chain. -/
theorem order_serves {c : Nat} {l : List Nat} {s : List Int} (hp : l.Pairwise fun a b => belowN a b = true) (hs : maskL s ∈ l) (hr : riseI s = true) (h0 : ∀ x ∈ s, 0 ≤ x ∧ x < (c : Int)) : servesL (orderF c l) s = true := by
  obtain ⟨o', h1, h2⟩ := fold_at (c := c) l [] 0 (OrdI.start c) (fun x _ j hj => by simp at hj) hp _ hs
  have hmem : ∀ x, x ∈ o' ↔ x ∈ s := fun x => by
    rw [h1.mem]
    constructor
    · rintro ⟨j, rfl, _, h3⟩
      rw [mask_bit fun x hx => (h0 x hx).1, decide_eq_true_eq] at h3
      exact h3
    · intro hx
      obtain ⟨n, rfl⟩ := Int.eq_ofNat_of_zero_le (h0 x hx).1
      exact ⟨n, rfl, by have := (h0 _ hx).2; omega, by rw [mask_bit fun x hx => (h0 x hx).1]; exact decide_eq_true hx⟩
  have hlen : o'.length = s.length := Nat.le_antisymm (ilen_le h1.nd fun x hx => (hmem x).1 hx) (ilen_le (riseI_nodup hr) fun x hx => (hmem x).2 hx)
  have hpre : o' <+: orderF c l := by
    unfold orderF
    rw [List.foldl_append]
    exact h2.trans (fold_pre c _ _)
  have htake : (orderF c l).take s.length = o' := by rw [← hlen]; exact (List.prefix_iff_eq_take.1 hpre).symm
  have hle := hpre.length_le
  unfold servesL
  rw [htake, Bool.and_eq_true, Bool.and_eq_true, decide_eq_true_eq, within_iff, within_iff]
  exact ⟨by omega, fun x hx => (hmem x).1 hx, fun x hx => (hmem x).2 hx⟩
end Go.Proofs.Ytiljpacmkmmlcaa
