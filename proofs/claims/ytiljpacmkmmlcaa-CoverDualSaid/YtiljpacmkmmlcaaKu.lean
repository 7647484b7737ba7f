/- Which of some things come behind which: searches that let others give way, walls, and the least number of chains. Plain: nothing here speaks of a program. -/
import Derived.Lib.Hide
set_option linter.unusedSimpArgs false
set_option linter.unusedVariables false
namespace Go.Proofs.Ytiljpacmkmmlcaa

/-- Who stands ahead of each one. -/
abbrev Bh := Nat → Option Nat
def updB (B : Bh) (k i : Nat) : Bh := fun l => if l = k then some i else B l
def setB (m : Nat → Bool) (k : Nat) : Nat → Bool := fun l => if l = k then true else m l
theorem updB_same (B : Bh) (k i : Nat) : updB B k i k = some i := if_pos rfl
theorem updB_other (B : Bh) {k l : Nat} (i : Nat) (h : l ≠ k) : updB B k i l = B l := if_neg h
theorem setB_same (m : Nat → Bool) (k : Nat) : setB m k k = true := if_pos rfl
theorem setB_other (m : Nat → Bool) {k l : Nat} (h : l ≠ k) : setB m k l = m l := if_neg h
theorem setB_mono {m : Nat → Bool} {k l : Nat} (h : m l = true) : setB m k l = true := by
  unfold setB; split
  · rfl
  · exact h
/-- A search from i on: its loop from k on. -/
inductive Srch (n : Nat) (R : Nat → Nat → Prop) : Bh → (Nat → Bool) → Nat → Nat → Bool → Bh → (Nat → Bool) → Prop
  | stop {B m i k} : n ≤ k → Srch n R B m i k false B m
  | skip {B m i k o B' m'} : k < n → (¬ R i k ∨ m k = true) → Srch n R B m i (k + 1) o B' m' → Srch n R B m i k o B' m'
  | free {B m i k} : k < n → R i k → m k = false → B k = none → Srch n R B m i k true (updB B k i) (setB m k)
  | take {B m i k j B1 m1} : k < n → R i k → m k = false → B k = some j → Srch n R B (setB m k) j 0 true B1 m1 → Srch n R B m i k true (updB B1 k i) m1
  | fail {B m i k j m1 o B' m'} {B1 : Bh} : k < n → R i k → m k = false → B k = some j → Srch n R B (setB m k) j 0 false B1 m1 → Srch n R B1 m1 i (k + 1) o B' m' → Srch n R B m i k o B' m'
section
variable {n : Nat} {R : Nat → Nat → Prop}
theorem Srch.mono {B m i k o B' m'} (h : Srch n R B m i k o B' m') : ∀ l, m l = true → m' l = true := by
  induction h with
  | stop _ => exact fun _ h => h
  | skip _ _ _ ih => exact ih
  | free _ _ _ _ => exact fun _ h => setB_mono h
  | take _ _ _ _ _ ih => exact fun l h => ih l (setB_mono h)
  | fail _ _ _ _ _ _ ih1 ih2 => exact fun l h => ih2 l (ih1 l (setB_mono h))
/-- What was met ahead of it is let alone. -/
theorem Srch.old {B m i k o B' m'} (h : Srch n R B m i k o B' m') : ∀ l, m l = true → B' l = B l := by
  induction h with
  | stop _ => exact fun _ _ => rfl
  | skip _ _ _ ih => exact ih
  | @free B m i k _ _ hm _ =>
    intro l hl
    have : l ≠ k := fun e => by rw [e, hm] at hl; cases hl
    exact updB_other _ _ this
  | @take B m i k j B1 m1 _ _ hm _ _ ih =>
    intro l hl
    have : l ≠ k := fun e => by rw [e, hm] at hl; cases hl
    rw [updB_other _ _ this]
    exact ih l (setB_mono hl)
  | fail _ _ _ _ h1 _ ih1 ih2 =>
    intro l hl
    rw [ih2 l (h1.mono l (setB_mono hl))]
    exact ih1 l (setB_mono hl)
/-- A search that finds nothing leaves all as it was, and has met all that it can come to. -/
theorem Srch.none {B m i k o B' m'} (h : Srch n R B m i k o B' m') : o = false → B' = B ∧ (∀ l, k ≤ l → l < n → R i l → m' l = true) ∧ ∀ l, m' l = true → m l = false → ∃ j, B l = some j ∧ ∀ x, x < n → R j x → m' x = true := by
  induction h with
  | stop hk => exact fun _ => ⟨rfl, fun l h1 h2 _ => by omega, fun l h1 h2 => by rw [h1] at h2; cases h2⟩
  | @skip B m i k o B' m' hk hs h ih =>
    intro ho
    obtain ⟨h1, h2, h3⟩ := ih ho
    refine ⟨h1, fun l hl hn hr => ?_, h3⟩
    by_cases e : l = k
    · subst e
      rcases hs with hs | hs
      · exact absurd hr hs
      · exact h.mono l hs
    · exact h2 l (by omega) hn hr
  | free _ _ _ _ => exact fun h => by cases h
  | take _ _ _ _ _ _ => exact fun h => by cases h
  | @fail B m i k j m1 o B' m' B1 hk hr hm hj h1 h2 ih1 ih2 =>
    intro ho
    obtain ⟨a1, a2, a3⟩ := ih1 rfl
    obtain ⟨b1, b2, b3⟩ := ih2 ho
    subst a1
    refine ⟨b1, fun l hl hn hrl => ?_, fun l hl hml => ?_⟩
    · by_cases e : l = k
      · subst e
        exact h2.mono _ (h1.mono _ (setB_same _ _))
      · exact b2 l (by omega) hn hrl
    · by_cases h3 : m1 l = true
      · by_cases e : l = k
        · subst e
          exact ⟨j, hj, fun x hx hrx => h2.mono _ (a2 x (Nat.zero_le _) hx hrx)⟩
        · obtain ⟨y, hy, hy2⟩ := a3 l h3 (by rw [setB_other _ e]; exact hml)
          exact ⟨y, hy, fun x hx hrx => h2.mono _ (hy2 x hx hrx)⟩
      · exact b3 l hl (by simpa using h3)
/-- A wall: all that can be come to from it is in it. -/
def Shut (n : Nat) (R : Nat → Nat → Prop) (K : Nat → Prop) (i : Nat) : Prop := ∀ l, l < n → R i l → K l
def Wall (n : Nat) (R : Nat → Nat → Prop) (B : Bh) (K : Nat → Prop) : Prop := ∀ k, K k → ∃ i, B k = some i ∧ Shut n R K i
theorem Srch.wall {B m i k o B' m'} {K : Nat → Prop} (h : Srch n R B m i k o B' m') : Wall n R B K → (∀ l, K l → B' l = B l) ∧ (Shut n R K i → o = false) := by
  induction h with
  | stop _ => exact fun _ => ⟨fun _ _ => rfl, fun _ => rfl⟩
  | skip _ _ _ ih => exact ih
  | @free B m i k hk hr hm hb =>
    intro hw
    have hnk : ¬ K k := fun h => by
      obtain ⟨x, hx, _⟩ := hw k h
      rw [hb] at hx; cases hx
    exact ⟨fun l hl => updB_other _ _ fun e => hnk (e ▸ hl), fun hs => absurd (hs k hk hr) hnk⟩
  | @take B m i k j B1 m1 hk hr hm hj _ ih =>
    intro hw
    obtain ⟨h1, h2⟩ := ih hw
    have hnk : ¬ K k := fun h => by
      obtain ⟨x, hx, hsx⟩ := hw k h
      rw [hj] at hx
      cases hx
      cases h2 hsx
    exact ⟨fun l hl => (updB_other B1 i (fun e : l = k => hnk (e ▸ hl))).trans (h1 l hl), fun hs => absurd (hs k hk hr) hnk⟩
  | @fail B m i k j m1 o B' m' B1 hk hr hm hj h1 h2 ih1 ih2 =>
    intro hw
    obtain ⟨rfl, _⟩ := h1.none rfl
    exact ih2 hw
/-- A matching, but for the places that are dead. -/
structure MatchB (n : Nat) (R : Nat → Nat → Prop) (B : Bh) (D : Nat → Prop) : Prop where
  ok : ∀ k i, ¬ D k → B k = some i → i < n ∧ k < n ∧ R i k
  inj : ∀ k l i, ¬ D k → ¬ D l → B k = some i → B l = some i → k = l
def Has (B : Bh) (D : Nat → Prop) (x : Nat) : Prop := ∃ k, ¬ D k ∧ B k = some x
theorem Srch.more {B m i k o B' m'} (h : Srch n R B m i k o B' m') : o = true → ∀ (D : Nat → Prop), (∀ l, D l → m l = true) → MatchB n R B D → i < n → ¬ Has B D i → MatchB n R B' D ∧ ∀ x, Has B' D x ↔ Has B D x ∨ x = i := by
  induction h with
  | stop _ => exact fun h => by cases h
  | skip _ _ _ ih => exact ih
  | @free B m i k hk hr hm hb =>
    intro _ D hD hM hi hn
    have hkD : ¬ D k := fun h => by rw [hD k h] at hm; cases hm
    refine ⟨⟨fun l x hl hx => ?_, fun l l' x hl hl' hx hx' => ?_⟩, fun x => ⟨?_, ?_⟩⟩
    · by_cases e : l = k
      · subst e; rw [updB_same] at hx; cases hx; exact ⟨hi, hk, hr⟩
      · rw [updB_other _ _ e] at hx; exact hM.ok l x hl hx
    · by_cases e : l = k
      · by_cases e' : l' = k
        · rw [e, e']
        · subst e; rw [updB_same] at hx; cases hx
          rw [updB_other _ _ e'] at hx'
          exact absurd ⟨l', hl', hx'⟩ hn
      · by_cases e' : l' = k
        · subst e'; rw [updB_same] at hx'; cases hx'
          rw [updB_other _ _ e] at hx
          exact absurd ⟨l, hl, hx⟩ hn
        · rw [updB_other _ _ e] at hx
          rw [updB_other _ _ e'] at hx'
          exact hM.inj l l' x hl hl' hx hx'
    · rintro ⟨l, hl, hx⟩
      by_cases e : l = k
      · subst e; rw [updB_same] at hx; cases hx; exact .inr rfl
      · rw [updB_other _ _ e] at hx; exact .inl ⟨l, hl, hx⟩
    · rintro (⟨l, hl, hx⟩ | rfl)
      · have e : l ≠ k := fun e => by rw [e, hb] at hx; cases hx
        exact ⟨l, hl, by rw [updB_other _ _ e]; exact hx⟩
      · exact ⟨k, hkD, updB_same _ _ _⟩
  | @take B m i k j B1 m1 hk hr hm hj h1 ih =>
    intro _ D hD hM hi hn
    have hkD : ¬ D k := fun h => by rw [hD k h] at hm; cases hm
    have hjn := (hM.ok k j hkD hj).1
    have hD' : ∀ l, (D l ∨ l = k) → setB m k l = true := fun l hl => by
      rcases hl with hl | rfl
      · exact setB_mono (hD l hl)
      · exact setB_same _ _
    have hM' : MatchB n R B (fun l => D l ∨ l = k) := ⟨fun l x hl hx => hM.ok l x (fun h => hl (.inl h)) hx, fun l l' x hl hl' hx hx' => hM.inj l l' x (fun h => hl (.inl h)) (fun h => hl' (.inl h)) hx hx'⟩
    have hnj : ¬ Has B (fun l => D l ∨ l = k) j := fun ⟨l, hl, hx⟩ => hl (.inr (hM.inj l k j (fun h => hl (.inl h)) hkD hx hj))
    obtain ⟨hM1, hH1⟩ := ih rfl _ hD' hM' hjn hnj
    have hold : ∀ x, Has B1 (fun l => D l ∨ l = k) x ↔ Has B D x := fun x => by
      rw [hH1]
      constructor
      · rintro (⟨l, hl, hx⟩ | rfl)
        · exact ⟨l, fun h => hl (.inl h), hx⟩
        · exact ⟨k, hkD, hj⟩
      · rintro ⟨l, hl, hx⟩
        by_cases e : l = k
        · subst e; rw [hj] at hx; cases hx; exact .inr rfl
        · exact .inl ⟨l, fun h => h.elim hl e, hx⟩
    refine ⟨⟨fun l x hl hx => ?_, fun l l' x hl hl' hx hx' => ?_⟩, fun x => ⟨?_, ?_⟩⟩
    · by_cases e : l = k
      · subst e; rw [updB_same] at hx; cases hx; exact ⟨hi, hk, hr⟩
      · rw [updB_other _ _ e] at hx; exact hM1.ok l x (fun h => h.elim hl e) hx
    · by_cases e : l = k
      · by_cases e' : l' = k
        · rw [e, e']
        · subst e; rw [updB_same] at hx; cases hx
          rw [updB_other _ _ e'] at hx'
          exact absurd ((hold _).1 ⟨l', fun h => h.elim hl' e', hx'⟩) hn
      · by_cases e' : l' = k
        · subst e'; rw [updB_same] at hx'; cases hx'
          rw [updB_other _ _ e] at hx
          exact absurd ((hold _).1 ⟨l, fun h => h.elim hl e, hx⟩) hn
        · rw [updB_other _ _ e] at hx
          rw [updB_other _ _ e'] at hx'
          exact hM1.inj l l' x (fun h => h.elim hl e) (fun h => h.elim hl' e') hx hx'
    · rintro ⟨l, hl, hx⟩
      by_cases e : l = k
      · subst e; rw [updB_same] at hx; cases hx; exact .inr rfl
      · rw [updB_other _ _ e] at hx; exact .inl ((hold x).1 ⟨l, fun h => h.elim hl e, hx⟩)
    · rintro (hx | rfl)
      · obtain ⟨l, hl, hx⟩ := (hold x).2 hx
        have e : l ≠ k := fun e => hl (.inr e)
        exact ⟨l, fun h => hl (.inl h), by rw [updB_other _ _ e]; exact hx⟩
      · exact ⟨k, hkD, updB_same _ _ _⟩
  | @fail B m i k j m1 o B' m' B1 hk hr hm hj h1 h2 ih1 ih2 =>
    intro ho D hD hM hi hn
    obtain ⟨rfl, _⟩ := h1.none rfl
    exact ih2 ho D (fun l hl => h1.mono _ (setB_mono (hD l hl))) hM hi hn
end
end Go.Proofs.Ytiljpacmkmmlcaa
