/- Which of some things come behind which: searches that let others give way, walls, and the least number of chains. Plain: nothing here speaks of a program. The least number of chains: what comes of a search that is at its end. Search by search; one thing more; things in another order; chains that are one. Choices of things as numbers' bits, and which are apart. Sets of columns, in plain: within each other, right ones, served by an order. Which sets may be, place by place. -/
import Derived.Lib.Hide
set_option linter.unusedSimpArgs false
set_option linter.unusedVariables false
namespace Go.Proofs.Ytiljpacmkmmlcaa

/-- Who stands ahead of each one. -/
abbrev Bh := Nat → Option Nat
def updB (B : Bh) (k i : Nat) : Bh := fun l => if l = k then some i else B l
def setB (m : Nat → Bool) (k : Nat) : Nat → Bool := fun l => if l = k then true else m l
theorem updB_same (B : Bh) (k i : Nat) : updB B k i k = some i := if_pos rfl
theorem updB_other (B : Bh) {k l : Nat} (i : Nat) (h : l ≠ k) : updB B k i l = B l := if_neg h
theorem setB_same (m : Nat → Bool) (k : Nat) : setB m k k = true := if_pos rfl
theorem setB_other (m : Nat → Bool) {k l : Nat} (h : l ≠ k) : setB m k l = m l := if_neg h
theorem setB_mono {m : Nat → Bool} {k l : Nat} (h : m l = true) : setB m k l = true := by
  unfold setB; split
  · rfl
  · exact h
/-- A search from i on: its loop from k on. -/
inductive Srch (n : Nat) (R : Nat → Nat → Prop) : Bh → (Nat → Bool) → Nat → Nat → Bool → Bh → (Nat → Bool) → Prop
  | stop {B m i k} : n ≤ k → Srch n R B m i k false B m
  | skip {B m i k o B' m'} : k < n → (¬ R i k ∨ m k = true) → Srch n R B m i (k + 1) o B' m' → Srch n R B m i k o B' m'
  | free {B m i k} : k < n → R i k → m k = false → B k = none → Srch n R B m i k true (updB B k i) (setB m k)
  | take {B m i k j B1 m1} : k < n → R i k → m k = false → B k = some j → Srch n R B (setB m k) j 0 true B1 m1 → Srch n R B m i k true (updB B1 k i) m1
  | fail {B m i k j m1 o B' m'} {B1 : Bh} : k < n → R i k → m k = false → B k = some j → Srch n R B (setB m k) j 0 false B1 m1 → Srch n R B1 m1 i (k + 1) o B' m' → Srch n R B m i k o B' m'
section
variable {n : Nat} {R : Nat → Nat → Prop}
theorem Srch.mono {B m i k o B' m'} (h : Srch n R B m i k o B' m') : ∀ l, m l = true → m' l = true := by
  induction h with
  | stop _ => exact fun _ h => h
  | skip _ _ _ ih => exact ih
  | free _ _ _ _ => exact fun _ h => setB_mono h
  | take _ _ _ _ _ ih => exact fun l h => ih l (setB_mono h)
  | fail _ _ _ _ _ _ ih1 ih2 => exact fun l h => ih2 l (ih1 l (setB_mono h))
/-- What was met ahead of it is let alone. -/
theorem Srch.old {B m i k o B' m'} (h : Srch n R B m i k o B' m') : ∀ l, m l = true → B' l = B l := by
  induction h with
  | stop _ => exact fun _ _ => rfl
  | skip _ _ _ ih => exact ih
  | @free B m i k _ _ hm _ =>
    intro l hl
    have : l ≠ k := fun e => by rw [e, hm] at hl; cases hl
    exact updB_other _ _ this
  | @take B m i k j B1 m1 _ _ hm _ _ ih =>
    intro l hl
    have : l ≠ k := fun e => by rw [e, hm] at hl; cases hl
    rw [updB_other _ _ this]
    exact ih l (setB_mono hl)
  | fail _ _ _ _ h1 _ ih1 ih2 =>
    intro l hl
    rw [ih2 l (h1.mono l (setB_mono hl))]
    exact ih1 l (setB_mono hl)
/-- A search that finds nothing leaves all as it was, and has met all that it can come to. -/
theorem Srch.none {B m i k o B' m'} (h : Srch n R B m i k o B' m') : o = false → B' = B ∧ (∀ l, k ≤ l → l < n → R i l → m' l = true) ∧ ∀ l, m' l = true → m l = false → ∃ j, B l = some j ∧ ∀ x, x < n → R j x → m' x = true := by
  induction h with
  | stop hk => exact fun _ => ⟨rfl, fun l h1 h2 _ => by omega, fun l h1 h2 => by rw [h1] at h2; cases h2⟩
  | @skip B m i k o B' m' hk hs h ih =>
    intro ho
    obtain ⟨h1, h2, h3⟩ := ih ho
    refine ⟨h1, fun l hl hn hr => ?_, h3⟩
    by_cases e : l = k
    · subst e
      rcases hs with hs | hs
      · exact absurd hr hs
      · exact h.mono l hs
    · exact h2 l (by omega) hn hr
  | free _ _ _ _ => exact fun h => by cases h
  | take _ _ _ _ _ _ => exact fun h => by cases h
  | @fail B m i k j m1 o B' m' B1 hk hr hm hj h1 h2 ih1 ih2 =>
    intro ho
    obtain ⟨a1, a2, a3⟩ := ih1 rfl
    obtain ⟨b1, b2, b3⟩ := ih2 ho
    subst a1
    refine ⟨b1, fun l hl hn hrl => ?_, fun l hl hml => ?_⟩
    · by_cases e : l = k
      · subst e
        exact h2.mono _ (h1.mono _ (setB_same _ _))
      · exact b2 l (by omega) hn hrl
    · by_cases h3 : m1 l = true
      · by_cases e : l = k
        · subst e
          exact ⟨j, hj, fun x hx hrx => h2.mono _ (a2 x (Nat.zero_le _) hx hrx)⟩
        · obtain ⟨y, hy, hy2⟩ := a3 l h3 (by rw [setB_other _ e]; exact hml)
          exact ⟨y, hy, fun x hx hrx => h2.mono _ (hy2 x hx hrx)⟩
      · exact b3 l hl (by simpa using h3)
/-- A wall: all that can be come to from it is in it. -/
def Shut (n : Nat) (R : Nat → Nat → Prop) (K : Nat → Prop) (i : Nat) : Prop := ∀ l, l < n → R i l → K l
def Wall (n : Nat) (R : Nat → Nat → Prop) (B : Bh) (K : Nat → Prop) : Prop := ∀ k, K k → ∃ i, B k = some i ∧ Shut n R K i
theorem Srch.wall {B m i k o B' m'} {K : Nat → Prop} (h : Srch n R B m i k o B' m') : Wall n R B K → (∀ l, K l → B' l = B l) ∧ (Shut n R K i → o = false) := by
  induction h with
  | stop _ => exact fun _ => ⟨fun _ _ => rfl, fun _ => rfl⟩
  | skip _ _ _ ih => exact ih
  | @free B m i k hk hr hm hb =>
    intro hw
    have hnk : ¬ K k := fun h => by
      obtain ⟨x, hx, _⟩ := hw k h
      rw [hb] at hx; cases hx
    exact ⟨fun l hl => updB_other _ _ fun e => hnk (e ▸ hl), fun hs => absurd (hs k hk hr) hnk⟩
  | @take B m i k j B1 m1 hk hr hm hj _ ih =>
    intro hw
    obtain ⟨h1, h2⟩ := ih hw
    have hnk : ¬ K k := fun h => by
      obtain ⟨x, hx, hsx⟩ := hw k h
      rw [hj] at hx
      cases hx
      cases h2 hsx
    exact ⟨fun l hl => (updB_other B1 i (fun e : l = k => hnk (e ▸ hl))).trans (h1 l hl), fun hs => absurd (hs k hk hr) hnk⟩
  | @fail B m i k j m1 o B' m' B1 hk hr hm hj h1 h2 ih1 ih2 =>
    intro hw
    obtain ⟨rfl, _⟩ := h1.none rfl
    exact ih2 hw
/-- A matching, but for the places that are dead. -/
structure MatchB (n : Nat) (R : Nat → Nat → Prop) (B : Bh) (D : Nat → Prop) : Prop where
  ok : ∀ k i, ¬ D k → B k = some i → i < n ∧ k < n ∧ R i k
  inj : ∀ k l i, ¬ D k → ¬ D l → B k = some i → B l = some i → k = l
def Has (B : Bh) (D : Nat → Prop) (x : Nat) : Prop := ∃ k, ¬ D k ∧ B k = some x
theorem Srch.more {B m i k o B' m'} (h : Srch n R B m i k o B' m') : o = true → ∀ (D : Nat → Prop), (∀ l, D l → m l = true) → MatchB n R B D → i < n → ¬ Has B D i → MatchB n R B' D ∧ ∀ x, Has B' D x ↔ Has B D x ∨ x = i := by
  induction h with
  | stop _ => exact fun h => by cases h
  | skip _ _ _ ih => exact ih
  | @free B m i k hk hr hm hb =>
    intro _ D hD hM hi hn
    have hkD : ¬ D k := fun h => by rw [hD k h] at hm; cases hm
    refine ⟨⟨fun l x hl hx => ?_, fun l l' x hl hl' hx hx' => ?_⟩, fun x => ⟨?_, ?_⟩⟩
    · by_cases e : l = k
      · subst e; rw [updB_same] at hx; cases hx; exact ⟨hi, hk, hr⟩
      · rw [updB_other _ _ e] at hx; exact hM.ok l x hl hx
    · by_cases e : l = k
      · by_cases e' : l' = k
        · rw [e, e']
        · subst e; rw [updB_same] at hx; cases hx
          rw [updB_other _ _ e'] at hx'
          exact absurd ⟨l', hl', hx'⟩ hn
      · by_cases e' : l' = k
        · subst e'; rw [updB_same] at hx'; cases hx'
          rw [updB_other _ _ e] at hx
          exact absurd ⟨l, hl, hx⟩ hn
        · rw [updB_other _ _ e] at hx
          rw [updB_other _ _ e'] at hx'
          exact hM.inj l l' x hl hl' hx hx'
    · rintro ⟨l, hl, hx⟩
      by_cases e : l = k
      · subst e; rw [updB_same] at hx; cases hx; exact .inr rfl
      · rw [updB_other _ _ e] at hx; exact .inl ⟨l, hl, hx⟩
    · rintro (⟨l, hl, hx⟩ | rfl)
      · have e : l ≠ k := fun e => by rw [e, hb] at hx; cases hx
        exact ⟨l, hl, by rw [updB_other _ _ e]; exact hx⟩
      · exact ⟨k, hkD, updB_same _ _ _⟩
  | @take B m i k j B1 m1 hk hr hm hj h1 ih =>
    intro _ D hD hM hi hn
    have hkD : ¬ D k := fun h => by rw [hD k h] at hm; cases hm
    have hjn := (hM.ok k j hkD hj).1
    have hD' : ∀ l, (D l ∨ l = k) → setB m k l = true := fun l hl => by
      rcases hl with hl | rfl
      · exact setB_mono (hD l hl)
      · exact setB_same _ _
    have hM' : MatchB n R B (fun l => D l ∨ l = k) := ⟨fun l x hl hx => hM.ok l x (fun h => hl (.inl h)) hx, fun l l' x hl hl' hx hx' => hM.inj l l' x (fun h => hl (.inl h)) (fun h => hl' (.inl h)) hx hx'⟩
    have hnj : ¬ Has B (fun l => D l ∨ l = k) j := fun ⟨l, hl, hx⟩ => hl (.inr (hM.inj l k j (fun h => hl (.inl h)) hkD hx hj))
    obtain ⟨hM1, hH1⟩ := ih rfl _ hD' hM' hjn hnj
    have hold : ∀ x, Has B1 (fun l => D l ∨ l = k) x ↔ Has B D x := fun x => by
      rw [hH1]
      constructor
      · rintro (⟨l, hl, hx⟩ | rfl)
        · exact ⟨l, fun h => hl (.inl h), hx⟩
        · exact ⟨k, hkD, hj⟩
      · rintro ⟨l, hl, hx⟩
        by_cases e : l = k
        · subst e; rw [hj] at hx; cases hx; exact .inr rfl
        · exact .inl ⟨l, fun h => h.elim hl e, hx⟩
    refine ⟨⟨fun l x hl hx => ?_, fun l l' x hl hl' hx hx' => ?_⟩, fun x => ⟨?_, ?_⟩⟩
    · by_cases e : l = k
      · subst e; rw [updB_same] at hx; cases hx; exact ⟨hi, hk, hr⟩
      · rw [updB_other _ _ e] at hx; exact hM1.ok l x (fun h => h.elim hl e) hx
    · by_cases e : l = k
      · by_cases e' : l' = k
        · rw [e, e']
        · subst e; rw [updB_same] at hx; cases hx
          rw [updB_other _ _ e'] at hx'
          exact absurd ((hold _).1 ⟨l', fun h => h.elim hl' e', hx'⟩) hn
      · by_cases e' : l' = k
        · subst e'; rw [updB_same] at hx'; cases hx'
          rw [updB_other _ _ e] at hx
          exact absurd ((hold _).1 ⟨l, fun h => h.elim hl e, hx⟩) hn
        · rw [updB_other _ _ e] at hx
          rw [updB_other _ _ e'] at hx'
          exact hM1.inj l l' x (fun h => h.elim hl e) (fun h => h.elim hl' e') hx hx'
    · rintro ⟨l, hl, hx⟩
      by_cases e : l = k
      · subst e; rw [updB_same] at hx; cases hx; exact .inr rfl
      · rw [updB_other _ _ e] at hx; exact .inl ((hold x).1 ⟨l, fun h => h.elim hl e, hx⟩)
    · rintro (hx | rfl)
      · obtain ⟨l, hl, hx⟩ := (hold x).2 hx
        have e : l ≠ k := fun e => hl (.inr e)
        exact ⟨l, fun h => hl (.inl h), by rw [updB_other _ _ e]; exact hx⟩
      · exact ⟨k, hkD, updB_same _ _ _⟩
  | @fail B m i k j m1 o B' m' B1 hk hr hm hj h1 h2 ih1 ih2 =>
    intro ho D hD hM hi hn
    obtain ⟨rfl, _⟩ := h1.none rfl
    exact ih2 ho D (fun l hl => h1.mono _ (setB_mono (hD l hl))) hM hi hn
end
end Go.Proofs.Ytiljpacmkmmlcaa
namespace Go.Proofs.Ytiljpacmkmmlcaa

theorem nsub_len : ∀ {l m : List Nat}, l.Nodup → (∀ x ∈ l, x ∈ m) → l.length ≤ m.length
  | [], _, _, _ => Nat.zero_le _
  | x :: l, m, hn, hs => by
    have hx := hs x (List.mem_cons_self ..)
    have hn' := List.nodup_cons.1 hn
    have := nsub_len (m := m.erase x) hn'.2 (fun y hy => (List.mem_erase_of_ne (by rintro rfl; exact hn'.1 hy)).2 (hs y (List.mem_cons_of_mem _ hy)))
    rw [List.length_erase_of_mem hx] at this
    have := List.length_pos_of_mem hx
    simp only [List.length_cons]
    omega
theorem nfilt_len {p : Nat → Bool} : ∀ (l : List Nat), (l.filter p).length + (l.filter fun x => !p x).length = l.length
  | [] => rfl
  | x :: l => by
    have := nfilt_len (p := p) l
    cases h : p x <;> simp [h] <;> omega
theorem nfilt_nodup {p : Nat → Bool} {l : List Nat} (h : l.Nodup) : (l.filter p).Nodup := List.Nodup.sublist List.filter_sublist h
theorem nmap_nodup {f : Nat → Nat} : ∀ {l : List Nat}, l.Nodup → (∀ x ∈ l, ∀ y ∈ l, f x = f y → x = y) → (l.map f).Nodup
  | [], _, _ => List.nodup_nil
  | x :: l, hn, hf => by
    have hn' := List.nodup_cons.1 hn
    rw [List.map_cons]
    refine List.nodup_cons.2 ⟨fun h => ?_, nmap_nodup hn'.2 fun a ha b hb => hf a (List.mem_cons_of_mem _ ha) b (List.mem_cons_of_mem _ hb)⟩
    obtain ⟨y, hy, e⟩ := List.mem_map.1 h
    have := hf y (List.mem_cons_of_mem _ hy) x (List.mem_cons_self ..) e
    subst this
    exact hn'.1 hy
/-- So many chains at least, and no fewer: a of them are apart from each other. -/
structure LeastN (n : Nat) (R : Nat → Nat → Prop) (a : Nat) : Prop where
  anti : ∃ A : List Nat, A.Nodup ∧ (∀ x ∈ A, x < n) ∧ (∀ x ∈ A, ∀ y ∈ A, ¬ R x y) ∧ A.length = a
  chain : ∃ f : Nat → Nat, (∀ i, i < n → f i < a) ∧ ∀ i j, i < n → j < n → i ≠ j → f i = f j → R i j ∨ R j i
section
variable {n : Nat} {R : Nat → Nat → Prop}
/-- Things apart from each other are no more than chains. -/
theorem anti_le {A : List Nat} {b : Nat} {f : Nat → Nat} (hn : A.Nodup) (hA : ∀ x ∈ A, x < n) (hR : ∀ x ∈ A, ∀ y ∈ A, ¬ R x y) (h1 : ∀ i, i < n → f i < b) (h2 : ∀ i j, i < n → j < n → i ≠ j → f i = f j → R i j ∨ R j i) : A.length ≤ b := by
  have hm : (A.map f).Nodup := nmap_nodup hn fun x hx y hy e => Classical.byContradiction fun hne => by
    rcases h2 x y (hA x hx) (hA y hy) hne e with h | h
    · exact hR x hx y hy h
    · exact hR y hy x hx h
  have := nsub_len (m := List.range b) hm fun z hz => by
    obtain ⟨x, hx, rfl⟩ := List.mem_map.1 hz
    exact List.mem_range.2 (h1 x (hA x hx))
  rwa [List.length_map, List.length_range] at this
theorem least_one {a b : Nat} (ha : LeastN n R a) (hb : LeastN n R b) : a = b := by
  obtain ⟨⟨A, a1, a2, a3, a4⟩, f, f1, f2⟩ := ha
  obtain ⟨⟨B, b1, b2, b3, b4⟩, g, g1, g2⟩ := hb
  have := anti_le a1 a2 a3 g1 g2
  have := anti_le b1 b2 b3 f1 f2
  omega
/-- Behind each other, over others. -/
inductive Up (B : Bh) : Nat → Nat → Prop
  | refl (i) : Up B i i
  | step {r j i} : B i = some j → Up B r j → Up B r i
theorem Up.first {B : Bh} {a b : Nat} (h : Up B a b) : a = b ∨ ∃ c, B c = some a ∧ Up B c b := by
  induction h with
  | refl => exact .inl rfl
  | @step j i hi h ih =>
    rcases ih with rfl | ⟨c, hc, h2⟩
    · exact .inr ⟨i, hi, .refl i⟩
    · exact .inr ⟨c, hc, .step hi h2⟩
theorem Up.both {B : Bh} (inj : ∀ k l i, B k = some i → B l = some i → k = l) {r i j : Nat} (h : Up B r i) : Up B r j → Up B i j ∨ Up B j i := by
  induction h with
  | refl => exact .inl
  | @step j' i hi h ih =>
    intro hj
    rcases ih hj with h1 | h1
    · rcases h1.first with rfl | ⟨c, hc, h2⟩
      · exact .inr (.step hi (.refl _))
      · obtain rfl := inj c i _ hc hi
        exact .inl h2
    · exact .inr (.step hi h1)
theorem Up.rel {B : Bh} (hR : ∀ k i, B k = some i → R i k) (tr : ∀ x y z, R x y → R y z → R x z) {a b : Nat} (h : Up B a b) : a = b ∨ R a b := by
  induction h with
  | refl => exact .inl rfl
  | @step j i hi h ih =>
    rcases ih with rfl | h2
    · exact .inr (hR _ _ hi)
    · exact .inr (tr _ _ _ h2 (hR _ _ hi))
theorem Up.root {B : Bh} {rank : Nat → Nat} (hk : ∀ k i, B k = some i → rank i < rank k) : ∀ (m i : Nat), rank i < m → ∃ r, B r = none ∧ Up B r i
  | 0, _, h => by omega
  | m + 1, i, h => by
    cases hb : B i with
    | none => exact ⟨i, hb, .refl i⟩
    | some j =>
      have := hk i j hb
      obtain ⟨r, h1, h2⟩ := Up.root hk m j (by omega)
      exact ⟨r, h1, .step hb h2⟩
theorem Up.lt {B : Bh} (hn : ∀ k i, B k = some i → i < n) {r i : Nat} (h : Up B r i) (hi : i < n) : r < n := by
  induction h with
  | refl => exact hi
  | step hb _ ih => exact ih (hn _ _ hb)
theorem nidx_inj {l : List Nat} {x y : Nat} (hx : x ∈ l) (hy : y ∈ l) (h : l.idxOf x = l.idxOf y) : x = y := by
  have h1 := List.getElem_idxOf (List.idxOf_lt_length_of_mem hx)
  have h2 := List.getElem_idxOf (List.idxOf_lt_length_of_mem hy)
  have h3 : l[l.idxOf x]? = some x := by rw [List.getElem?_eq_getElem (List.idxOf_lt_length_of_mem hx), h1]
  have h4 : l[l.idxOf y]? = some y := by rw [List.getElem?_eq_getElem (List.idxOf_lt_length_of_mem hy), h2]
  rw [h, h4] at h3
  exact (Option.some.inj h3).symm
/-- What an end of the search gives: those that come behind none are as many as there are apart from each other, and as many as chains. -/
theorem least_end {B : Bh} {K : Nat → Prop} {U : List Nat} {rank : Nat → Nat} (hM : MatchB n R B fun _ => False) (hW : Wall n R B K) (hU : U.Nodup) (hUn : ∀ u ∈ U, u < n ∧ Shut n R K u ∧ ¬ Has B (fun _ => False) u) (hall : ∀ i, i < n → i ∈ U ∨ Has B (fun _ => False) i)
    (hR : ∀ x y, R x y → rank x < rank y) (tr : ∀ x y z, R x y → R y z → R x z) : LeastN n R U.length := by
  classical
  have hok : ∀ k i, B k = some i → i < n ∧ k < n ∧ R i k := fun k i h => hM.ok k i (fun h => h) h
  have hin : ∀ k l i, B k = some i → B l = some i → k = l := fun k l i h1 h2 => hM.inj k l i (fun h => h) (fun h => h) h1 h2
  let get : Nat → Nat := fun k => (B k).getD 0
  have hget : ∀ {k i : Nat}, B k = some i → get k = i := fun h => by show (B _).getD 0 = _; rw [h]; rfl
  -- those of the wall
  let Kl := (List.range n).filter fun k => decide (K k)
  have hKl : ∀ k, k ∈ Kl ↔ K k := fun k => by
    show k ∈ (List.range n).filter _ ↔ _
    rw [List.mem_filter, List.mem_range, decide_eq_true_eq]
    exact ⟨fun h => h.2, fun h => ⟨by obtain ⟨i, hi, _⟩ := hW k h; exact (hok k i hi).2.1, h⟩⟩
  have hKn : Kl.Nodup := nfilt_nodup List.nodup_range
  -- all that matched places hold
  let Mr := (List.range n).filter fun k => (B k).isSome
  have hMr : ∀ k, k ∈ Mr ↔ ∃ i, B k = some i := fun k => by
    show k ∈ (List.range n).filter _ ↔ _
    rw [List.mem_filter, List.mem_range, Option.isSome_iff_exists]
    exact ⟨fun h => h.2, fun ⟨i, hi⟩ => ⟨(hok k i hi).2.1, i, hi⟩⟩
  have hinj : ∀ x ∈ Mr, ∀ y ∈ Mr, get x = get y → x = y := fun x hx y hy e => by
    obtain ⟨i, hi⟩ := (hMr x).1 hx
    obtain ⟨j, hj⟩ := (hMr y).1 hy
    rw [hget hi, hget hj] at e
    subst e
    exact hin x y i hi hj
  have hKM : ∀ k ∈ Kl, k ∈ Mr := fun k hk => by
    obtain ⟨i, hi, _⟩ := hW k ((hKl k).1 hk)
    exact (hMr k).2 ⟨i, hi⟩
  have hUG : ∀ (S : List Nat), S.Nodup → (∀ k ∈ S, k ∈ Mr) → (U ++ S.map get).Nodup := fun S hS hSM => by
    refine List.nodup_append.2 ⟨hU, nmap_nodup hS fun x hx y hy => hinj x (hSM x hx) y (hSM y hy), fun a ha b hb e => ?_⟩
    obtain ⟨k, hk, rfl⟩ := List.mem_map.1 hb
    obtain ⟨i, hi⟩ := (hMr k).1 (hSM k hk)
    rw [hget hi] at e
    subst e
    exact (hUn a ha).2.2 ⟨k, (fun h => h), hi⟩
  constructor
  · -- apart
    let L := U ++ Kl.map get
    have hLn : L.Nodup := hUG Kl hKn hKM
    have hLs : ∀ x ∈ L, x < n ∧ Shut n R K x := fun x hx => by
      rcases List.mem_append.1 hx with h | h
      · exact ⟨(hUn x h).1, (hUn x h).2.1⟩
      · obtain ⟨k, hk, rfl⟩ := List.mem_map.1 h
        obtain ⟨i, hi, hs⟩ := hW k ((hKl k).1 hk)
        rw [hget hi]
        exact ⟨(hok k i hi).1, hs⟩
    have hlen : L.length = U.length + Kl.length := by
      show (U ++ Kl.map get).length = _
      rw [List.length_append, List.length_map]
    have h1 := nfilt_len (p := fun x => decide (K x)) L
    have h2 := nsub_len (l := L.filter fun x => decide (K x)) (m := Kl) (nfilt_nodup hLn) fun x hx => by
      rw [List.mem_filter, decide_eq_true_eq] at hx
      exact (hKl x).2 hx.2
    refine ⟨(L.filter fun x => !decide (K x)).take U.length, List.Nodup.sublist (List.take_sublist _ _) (nfilt_nodup hLn), fun x hx => ?_, fun x hx y hy hr => ?_, by rw [List.length_take]; omega⟩
    · have := List.mem_filter.1 (List.mem_of_mem_take hx)
      exact (hLs x this.1).1
    · have h3 := List.mem_filter.1 (List.mem_of_mem_take hx)
      have h4 := List.mem_filter.1 (List.mem_of_mem_take hy)
      have h5 := (hLs x h3.1).2 y (hLs y h4.1).1 hr
      simp [h5] at h4
  · -- chains
    let Rt := (List.range n).filter fun k => !(B k).isSome
    have hRt : ∀ k, k ∈ Rt ↔ k < n ∧ B k = none := fun k => by
      show k ∈ (List.range n).filter _ ↔ _
      rw [List.mem_filter, List.mem_range]
      cases B k <;> simp
    have hlen : Rt.length = U.length := by
      have h1 := nfilt_len (p := fun k => (B k).isSome) (List.range n)
      have h2 := hUG Mr (nfilt_nodup List.nodup_range) fun _ h => h
      have h3 := nsub_len (m := List.range n) h2 fun x hx => by
        rcases List.mem_append.1 hx with h | h
        · exact List.mem_range.2 (hUn x h).1
        · obtain ⟨k, hk, rfl⟩ := List.mem_map.1 h
          obtain ⟨i, hi⟩ := (hMr k).1 hk
          rw [hget hi]
          exact List.mem_range.2 (hok k i hi).1
      have h4 := nsub_len (l := List.range n) (m := U ++ Mr.map get) List.nodup_range fun x hx => by
        rcases hall x (List.mem_range.1 hx) with h | ⟨k, _, hk⟩
        · exact List.mem_append_left _ h
        · exact List.mem_append_right _ (List.mem_map.2 ⟨k, (hMr k).2 ⟨x, hk⟩, hget hk⟩)
      rw [List.length_append, List.length_map, List.length_range] at h3 h4
      rw [List.length_range] at h1
      have h5 : ((List.range n).filter fun k => (B k).isSome).length = Mr.length := rfl
      have h6 : ((List.range n).filter fun k => !(B k).isSome).length = Rt.length := rfl
      omega
    have hroot : ∀ i, ∃ r, B r = none ∧ Up B r i := fun i => Up.root (rank := rank) (fun k i h => hR _ _ (hok k i h).2.2) (rank i + 1) i (Nat.lt_succ_self _)
    let root : Nat → Nat := fun i => (hroot i).choose
    have hr : ∀ i, B (root i) = none ∧ Up B (root i) i := fun i => (hroot i).choose_spec
    have hrm : ∀ i, i < n → root i ∈ Rt := fun i hi => (hRt _).2 ⟨(hr i).2.lt (fun k i h => (hok k i h).1) hi, (hr i).1⟩
    refine ⟨fun i => Rt.idxOf (root i), fun i hi => by rw [← hlen]; exact List.idxOf_lt_length_of_mem (hrm i hi), fun i j hi hj hne e => ?_⟩
    have e2 : root i = root j := nidx_inj (hrm i hi) (hrm j hj) e
    have h1 := (hr i).2
    have h2 := (hr j).2
    rw [← e2] at h2
    rcases Up.both (hin) h1 h2 with h | h
    · rcases h.rel (fun k i h => (hok k i h).2.2) tr with h | h
      · exact absurd h hne
      · exact .inl h
    · rcases h.rel (fun k i h => (hok k i h).2.2) tr with h | h
      · exact absurd h.symm hne
      · exact .inr h
end
end Go.Proofs.Ytiljpacmkmmlcaa
namespace Go.Proofs.Ytiljpacmkmmlcaa

/-- Behind the searches from all ahead of j: who found none, and the wall of all that they met. -/
structure KuS (n : Nat) (R : Nat → Nat → Prop) (B : Bh) (K : Nat → Prop) (U : List Nat) (j : Nat) : Prop where
  m : MatchB n R B fun _ => False
  w : Wall n R B K
  nd : U.Nodup
  u : ∀ x ∈ U, x < j ∧ Shut n R K x ∧ ¬ Has B (fun _ => False) x
  all : ∀ i, i < j → i ∈ U ∨ Has B (fun _ => False) i
  lt : ∀ i, Has B (fun _ => False) i → i < j
section
variable {n : Nat} {R : Nat → Nat → Prop}
theorem KuS.start : KuS n R (fun _ => none) (fun _ => False) [] 0 :=
  ⟨⟨(fun _ _ _ h => nomatch h), (fun _ _ _ _ _ h => nomatch h)⟩, (fun _ h => h.elim), List.nodup_nil, (fun _ h => (List.not_mem_nil h).elim), (fun _ h => by omega), (fun _ h => by
    obtain ⟨_, _, h⟩ := h
    cases h)⟩
theorem KuS.none {B : Bh} {K : Nat → Prop} {U : List Nat} {j : Nat} {B' : Bh} {m' : Nat → Bool} (h : KuS n R B K U j) (hs : Srch n R B (fun _ => false) j 0 false B' m') : B' = B ∧ KuS n R B (fun l => K l ∨ m' l = true) (U ++ [j]) (j + 1) := by
  obtain ⟨h1, h2, h3⟩ := hs.none rfl
  have hj : ¬ Has B (fun _ => False) j := fun hh => Nat.lt_irrefl _ (h.lt j hh)
  refine ⟨h1, h.m, ?_, ?_, ?_, ?_, ?_⟩
  · rintro k (hk | hk)
    · obtain ⟨i, hi, hsi⟩ := h.w k hk
      exact ⟨i, hi, fun l hl hr => .inl (hsi l hl hr)⟩
    · obtain ⟨i, hi, hsi⟩ := h3 k hk rfl
      exact ⟨i, hi, fun l hl hr => .inr (hsi l hl hr)⟩
  · refine List.nodup_append.2 ⟨h.nd, by simp, fun a ha b hb e => ?_⟩
    have hb' : b = j := by simpa using hb
    subst hb'
    subst e
    exact Nat.lt_irrefl _ (h.u a ha).1
  · intro x hx
    rcases List.mem_append.1 hx with hx | hx
    · obtain ⟨a, b, c⟩ := h.u x hx
      exact ⟨by omega, fun l hl hr => .inl (b l hl hr), c⟩
    · have hx' : x = j := by simpa using hx
      subst hx'
      exact ⟨Nat.lt_succ_self _, fun l hl hr => .inr (h2 l (Nat.zero_le _) hl hr), hj⟩
  · intro i hi
    by_cases e : i = j
    · subst e; exact .inl (by simp)
    · rcases h.all i (by omega) with h4 | h4
      · exact .inl (List.mem_append_left _ h4)
      · exact .inr h4
  · intro i hi
    have := h.lt i hi
    omega
theorem KuS.some {B : Bh} {K : Nat → Prop} {U : List Nat} {j : Nat} {B' : Bh} {m' : Nat → Bool} (h : KuS n R B K U j) (hjn : j < n) (hs : Srch n R B (fun _ => false) j 0 true B' m') : KuS n R B' K U (j + 1) := by
  have hj : ¬ Has B (fun _ => False) j := fun hh => Nat.lt_irrefl _ (h.lt j hh)
  obtain ⟨h1, h2⟩ := hs.more rfl (fun _ => False) (fun _ h => h.elim) h.m hjn hj
  obtain ⟨w1, _⟩ := hs.wall h.w
  refine ⟨h1, fun k hk => ?_, h.nd, fun x hx => ?_, fun i hi => ?_, fun i hi => ?_⟩
  · obtain ⟨i, hi, hsi⟩ := h.w k hk
    exact ⟨i, (w1 k hk).trans hi, hsi⟩
  · obtain ⟨a, b, c⟩ := h.u x hx
    exact ⟨by omega, b, fun hh => by
      rcases (h2 x).1 hh with h3 | h3
      · exact c h3
      · omega⟩
  · by_cases e : i = j
    · exact .inr ((h2 i).2 (.inr e))
    · rcases h.all i (by omega) with h4 | h4
      · exact .inl h4
      · exact .inr ((h2 i).2 (.inl h4))
  · rcases (h2 i).1 hi with h3 | h3
    · have := h.lt i h3; omega
    · omega
theorem KuS.least {B : Bh} {K : Nat → Prop} {U : List Nat} {rank : Nat → Nat} (h : KuS n R B K U n) (hR : ∀ x y, R x y → rank x < rank y) (tr : ∀ x y z, R x y → R y z → R x z) : LeastN n R U.length :=
  least_end h.m h.w h.nd h.u h.all hR tr
/-- With one thing more there are as many chains, or one more. -/
theorem least_grow {a b : Nat} (ha : LeastN n R a) (hb : LeastN (n + 1) R b) : a ≤ b ∧ b ≤ a + 1 := by
  obtain ⟨⟨A, a1, a2, a3, a4⟩, f, f1, f2⟩ := ha
  obtain ⟨⟨C, b1, b2, b3, b4⟩, g, g1, g2⟩ := hb
  constructor
  · have := anti_le (n := n + 1) a1 (fun x hx => by have := a2 x hx; omega) a3 g1 g2
    omega
  · have h1 := anti_le (n := n) (A := C.filter fun x => decide (x < n)) (nfilt_nodup b1) (fun x hx => by
      have := (List.mem_filter.1 hx).2
      exact of_decide_eq_true this) (fun x hx y hy => b3 x (List.mem_filter.1 hx).1 y (List.mem_filter.1 hy).1) f1 f2
    have h2 := nfilt_len (p := fun x => decide (x < n)) C
    have h3 := nsub_len (l := C.filter fun x => !decide (x < n)) (m := [n]) (nfilt_nodup b1) fun x hx => by
      have h4 := List.mem_filter.1 hx
      have h5 := b2 x h4.1
      have h6 : ¬ x < n := by simpa using h4.2
      rw [List.mem_singleton]
      omega
    rw [List.length_singleton] at h3
    omega
/-- Things that change places need as many. -/
theorem least_turn {a : Nat} {p : Nat → Nat} (hp : ∀ i, i < n → p i < n) (hpp : ∀ i, i < n → p (p i) = i) (h : LeastN n R a) : LeastN n (fun x y => R (p x) (p y)) a := by
  obtain ⟨⟨A, a1, a2, a3, a4⟩, f, f1, f2⟩ := h
  refine ⟨⟨A.map p, nmap_nodup a1 fun x hx y hy e => ?_, fun x hx => ?_, fun x hx y hy => ?_, by rw [List.length_map, a4]⟩, fun i => f (p i), fun i hi => f1 _ (hp i hi), fun i j hi hj hne e => ?_⟩
  · rw [← hpp x (a2 x hx), e, hpp y (a2 y hy)]
  · obtain ⟨z, hz, rfl⟩ := List.mem_map.1 hx
    exact hp z (a2 z hz)
  · obtain ⟨z, hz, rfl⟩ := List.mem_map.1 hx
    obtain ⟨w, hw, rfl⟩ := List.mem_map.1 hy
    show ¬ R (p (p z)) (p (p w))
    rw [hpp z (a2 z hz), hpp w (a2 w hw)]
    exact a3 z hz w hw
  · exact f2 _ _ (hp i hi) (hp j hj) (fun h => hne (by rw [← hpp i hi, h, hpp j hj])) e
theorem least_rev {a : Nat} (h : LeastN n R a) : LeastN n (fun x y => R (n - 1 - x) (n - 1 - y)) a := least_turn (p := fun i => n - 1 - i) (fun i hi => by show n - 1 - i < n; omega) (fun i hi => by show n - 1 - (n - 1 - i) = i; omega) h
/-- The relation counts where it is asked alone. -/
theorem least_congr {a : Nat} {R' : Nat → Nat → Prop} (h : LeastN n R a) (hR : ∀ x y, x < n → y < n → (R x y ↔ R' x y)) : LeastN n R' a := by
  obtain ⟨⟨A, a1, a2, a3, a4⟩, f, f1, f2⟩ := h
  exact ⟨⟨A, a1, a2, fun x hx y hy h => a3 x hx y hy ((hR x y (a2 x hx) (a2 y hy)).2 h), a4⟩, f, f1, fun i j hi hj hne e => by
    rcases f2 i j hi hj hne e with h | h
    · exact .inl ((hR _ _ hi hj).1 h)
    · exact .inr ((hR _ _ hj hi).1 h)⟩
/-- All within each other: one chain. -/
theorem least_chain (hn : 0 < n) (hR : ∀ i j, i < n → j < n → i ≠ j → R i j ∨ R j i) (irr : ∀ i, ¬ R i i) : LeastN n R 1 :=
  ⟨⟨[0], by simp, fun x hx => by have : x = 0 := (by simpa using hx); omega, fun x hx y hy => by
    have h1 : x = 0 := by simpa using hx
    have h2 : y = 0 := by simpa using hy
    subst h1; subst h2
    exact irr 0, rfl⟩, fun _ => 0, fun _ _ => Nat.lt_succ_self _, fun i j hi hj hne _ => hR i j hi hj hne⟩
theorem least_pos {a : Nat} (hn : 0 < n) (h : LeastN n R a) : 1 ≤ a := by
  obtain ⟨_, f, f1, _⟩ := h
  have := f1 0 hn
  omega
theorem least_le {a : Nat} (h : LeastN n R a) (irr : ∀ i, ¬ R i i) : a ≤ n := by
  obtain ⟨⟨A, a1, a2, a3, a4⟩, _⟩ := h
  have := nsub_len (m := List.range n) a1 fun x hx => List.mem_range.2 (a2 x hx)
  rw [List.length_range] at this
  omega
end
end Go.Proofs.Ytiljpacmkmmlcaa
namespace Go.Proofs.Ytiljpacmkmmlcaa

def maskN (p : Nat → Bool) : Nat → Nat
  | 0 => 0
  | n + 1 => maskN p n + if p n = true then 2 ^ n else 0
theorem maskN_lt (p : Nat → Bool) : ∀ n, maskN p n < 2 ^ n
  | 0 => Nat.one_pos
  | n + 1 => by
    have := maskN_lt p n
    unfold maskN
    rw [Nat.pow_succ]
    split <;> omega
theorem maskN_bit (p : Nat → Bool) : ∀ (n i : Nat), i < n → (maskN p n).testBit i = p i
  | n + 1, i, h => by
    have hl := maskN_lt p n
    unfold maskN
    by_cases e : i = n
    · subst e
      cases hp : p i with
      | false => rw [if_neg (by decide), Nat.add_zero, Nat.testBit_lt_two_pow hl]
      | true => rw [if_pos rfl, Nat.add_comm, Nat.testBit_two_pow_add_eq, Nat.testBit_lt_two_pow hl]; rfl
    · have ih := maskN_bit p n i (by omega)
      split
      · rw [Nat.add_comm, Nat.testBit_two_pow_add_gt (by omega), ih]
      · rw [Nat.add_zero, ih]
/-- How many are chosen. -/
def cntB (n b : Nat) : Nat := ((List.range n).filter fun i => b.testBit i).length
def apartB (n : Nat) (R : Nat → Nat → Prop) (b : Nat) : Prop := ∀ i k, i < n → k < n → b.testBit i = true → b.testBit k = true → ¬ R i k
section
variable {n : Nat} {R : Nat → Nat → Prop}
theorem cntB_le {a b : Nat} (h : LeastN n R a) (hb : apartB n R b) : cntB n b ≤ a := by
  obtain ⟨_, f, f1, f2⟩ := h
  exact anti_le (nfilt_nodup List.nodup_range) (fun x hx => List.mem_range.1 (List.mem_filter.1 hx).1) (fun x hx y hy => by
    obtain ⟨h1, h2⟩ := List.mem_filter.1 hx
    obtain ⟨h3, h4⟩ := List.mem_filter.1 hy
    exact hb x y (List.mem_range.1 h1) (List.mem_range.1 h3) h2 h4) f1 f2
theorem cntB_some {a : Nat} (h : LeastN n R a) : ∃ b, b < 2 ^ n ∧ apartB n R b ∧ cntB n b = a := by
  obtain ⟨⟨A, a1, a2, a3, a4⟩, _⟩ := h
  have hbit : ∀ i, i < n → (maskN (fun i => decide (i ∈ A)) n).testBit i = decide (i ∈ A) := fun i hi => maskN_bit _ n i hi
  refine ⟨maskN (fun i => decide (i ∈ A)) n, maskN_lt _ n, fun i k hi hk h1 h2 => ?_, ?_⟩
  · rw [hbit i hi, decide_eq_true_eq] at h1
    rw [hbit k hk, decide_eq_true_eq] at h2
    exact a3 i h1 k h2
  · unfold cntB
    have h1 := nsub_len (l := (List.range n).filter fun i => (maskN (fun i => decide (i ∈ A)) n).testBit i) (m := A) (nfilt_nodup List.nodup_range) fun x hx => by
      obtain ⟨h1, h2⟩ := List.mem_filter.1 hx
      rw [hbit x (List.mem_range.1 h1), decide_eq_true_eq] at h2
      exact h2
    have h2 := nsub_len (l := A) (m := (List.range n).filter fun i => (maskN (fun i => decide (i ∈ A)) n).testBit i) a1 fun x hx => by
      refine List.mem_filter.2 ⟨List.mem_range.2 (a2 x hx), ?_⟩
      rw [hbit x (a2 x hx), decide_eq_true_eq]
      exact hx
    omega
/-- The greatest choice apart, from one on. -/
def bestB (f : Nat → Bool) (n : Nat) : Nat → Nat
  | 0 => 1
  | b + 1 => if bestB f n b < cntB n b ∧ f b = true then cntB n b else bestB f n b
theorem bestB_ge {f : Nat → Bool} {n : Nat} : ∀ (m b : Nat), b < m → f b = true → cntB n b ≤ bestB f n m
  | m + 1, b, h, hf => by
    unfold bestB
    by_cases e : b = m
    · subst e
      split
      · exact Nat.le_refl _
      · rename_i h2
        have : ¬ bestB f n b < cntB n b := fun h3 => h2 ⟨h3, hf⟩
        omega
    · have := bestB_ge (f := f) (n := n) m b (by omega) hf
      split <;> omega
theorem bestB_le {f : Nat → Bool} {n a : Nat} (h1 : 1 ≤ a) (h : ∀ b, f b = true → cntB n b ≤ a) : ∀ m, bestB f n m ≤ a
  | 0 => h1
  | m + 1 => by
    unfold bestB
    split
    · rename_i h2
      exact h m h2.2
    · exact bestB_le h1 h m
theorem best_least {a : Nat} {f : Nat → Bool} (hn : 0 < n) (h : LeastN n R a) (hf : ∀ b, f b = true ↔ apartB n R b) : bestB f n (2 ^ n) = a := by
  obtain ⟨b, h1, h2, h3⟩ := cntB_some h
  have := bestB_ge (n := n) (2 ^ n) b h1 ((hf b).2 h2)
  have := bestB_le (f := f) (n := n) (least_pos hn h) (fun b hb => cntB_le h ((hf b).1 hb)) (2 ^ n)
  omega
end
end Go.Proofs.Ytiljpacmkmmlcaa
namespace Go.Proofs.Ytiljpacmkmmlcaa

def withinL (a b : List Int) : Bool := a.all fun x => b.contains x
def insideL (a b : List Int) : Bool := withinL a b && decide (a.length < b.length)
def servesL (o s : List Int) : Bool := decide (s.length ≤ o.length) && (withinL (o.take s.length) s && withinL s (o.take s.length))
theorem within_iff {a b : List Int} : withinL a b = true ↔ ∀ x ∈ a, x ∈ b := by
  unfold withinL
  rw [List.all_eq_true]
  exact ⟨fun h x hx => by simpa using h x hx, fun h x hx => by simpa using h x hx⟩
theorem inside_iff {a b : List Int} : insideL a b = true ↔ (∀ x ∈ a, x ∈ b) ∧ a.length < b.length := by
  unfold insideL
  rw [Bool.and_eq_true, within_iff, decide_eq_true_eq]
/-- Set i comes ahead of set k. -/
def RS (l : List (List Int)) (i k : Nat) : Prop := insideL (l.getD i []) (l.getD k []) = true
theorem RS.rank {l : List (List Int)} {i k : Nat} (h : RS l i k) : (l.getD i []).length < (l.getD k []).length := (inside_iff.1 h).2
theorem RS.trans {l : List (List Int)} {i j k : Nat} (h : RS l i j) (h2 : RS l j k) : RS l i k := by
  obtain ⟨a, b⟩ := inside_iff.1 h
  obtain ⟨c, d⟩ := inside_iff.1 h2
  exact inside_iff.2 ⟨fun x hx => c x (a x hx), by omega⟩
theorem RS.irr {l : List (List Int)} (i : Nat) : ¬ RS l i i := fun h => Nat.lt_irrefl _ h.rank
/-- Do its columns rise, from 0 on, below c? -/
def riseI : List Int → Bool
  | [] => true
  | [_] => true
  | a :: b :: r => decide (a < b) && riseI (b :: r)
def setOk (c : Int) (s : List Int) : Bool := !s.isEmpty && (s.all (fun x => decide (0 ≤ x) && decide (x < c)) && riseI s)
def distinctL : List (List Int) → Bool
  | [] => true
  | s :: l => !(l.any fun t => s == t) && distinctL l
def rightS (c : Int) (l : List (List Int)) : Bool := decide (1 ≤ c) && decide (c ≤ 8) && decide (l.length ≤ 60) && (l.all (setOk c) && distinctL l)
theorem riseI_lt : ∀ {l : List Int} {a : Int}, riseI (a :: l) = true → ∀ x ∈ l, a < x
  | b :: l, a, h, x, hx => by
    unfold riseI at h
    rw [Bool.and_eq_true, decide_eq_true_eq] at h
    rcases List.mem_cons.1 hx with rfl | hx
    · exact h.1
    · have := riseI_lt h.2 x hx
      omega
theorem riseI_tail {l : List Int} {a : Int} (h : riseI (a :: l) = true) : riseI l = true := by
  cases l with
  | nil => rfl
  | cons b l => unfold riseI at h; rw [Bool.and_eq_true] at h; exact h.2
theorem riseI_nodup : ∀ {l : List Int}, riseI l = true → l.Nodup
  | [], _ => List.nodup_nil
  | a :: l, h => List.nodup_cons.2 ⟨fun hm => by have := riseI_lt h a hm; omega, riseI_nodup (riseI_tail h)⟩
/-- Lists that rise and have the same numbers are the same. -/
theorem riseI_ext : ∀ {l m : List Int}, riseI l = true → riseI m = true → (∀ x, x ∈ l ↔ x ∈ m) → l = m
  | [], [], _, _, _ => rfl
  | [], b :: m, _, _, h => by have := (h b).2 (List.mem_cons_self ..); simp at this
  | a :: l, [], _, _, h => by have := (h a).1 (List.mem_cons_self ..); simp at this
  | a :: l, b :: m, hl, hm, h => by
    have e : a = b := by
      rcases List.mem_cons.1 ((h a).1 (List.mem_cons_self ..)) with e | h1
      · exact e
      · rcases List.mem_cons.1 ((h b).2 (List.mem_cons_self ..)) with e | h2
        · exact e.symm
        · have := riseI_lt hm a h1
          have := riseI_lt hl b h2
          omega
    subst e
    rw [riseI_ext (riseI_tail hl) (riseI_tail hm) fun x => by
      have h1 := h x
      have h2 := fun hx => riseI_lt hl x hx
      have h3 := fun hx => riseI_lt hm x hx
      rw [List.mem_cons, List.mem_cons] at h1
      constructor
      · intro hx
        rcases h1.1 (.inr hx) with e | h4
        · have := h2 hx; omega
        · exact h4
      · intro hx
        rcases h1.2 (.inr hx) with e | h4
        · have := h3 hx; omega
        · exact h4]
theorem isub_len : ∀ {l m : List Int}, l.Nodup → (∀ x ∈ l, x ∈ m) → l.length ≤ m.length
  | [], _, _, _ => Nat.zero_le _
  | x :: l, m, hn, hs => by
    have hx := hs x (List.mem_cons_self ..)
    have hn' := List.nodup_cons.1 hn
    have := isub_len (m := m.erase x) hn'.2 (fun y hy => (List.mem_erase_of_ne (by rintro rfl; exact hn'.1 hy)).2 (hs y (List.mem_cons_of_mem _ hy)))
    rw [List.length_erase_of_mem hx] at this
    have := List.length_pos_of_mem hx
    simp only [List.length_cons]
    omega
theorem distinct_at : ∀ {l : List (List Int)}, distinctL l = true → ∀ {i j : Nat} {s : List Int}, l[i]? = some s → l[j]? = some s → i = j
  | t :: l, h, i, j, s, hi, hj => by
    unfold distinctL at h
    rw [Bool.and_eq_true] at h
    have hno : ∀ k, l[k]? = some t → False := fun k hk => by
      have h1 := h.1
      have : (l.any fun u => t == u) = true := List.any_eq_true.2 ⟨t, List.mem_of_getElem? hk, by simp⟩
      rw [this] at h1
      cases h1
    match i, j with
    | 0, 0 => rfl
    | 0, j + 1 =>
      have e : t = s := by simpa using hi
      subst e
      exact (hno j (by simpa using hj)).elim
    | i + 1, 0 =>
      have e : t = s := by simpa using hj
      subst e
      exact (hno i (by simpa using hi)).elim
    | i + 1, j + 1 => rw [distinct_at h.2 (i := i) (j := j) (by simpa using hi) (by simpa using hj)]
theorem rightS_at {c : Int} {l : List (List Int)} (h : rightS c l = true) {i : Nat} {s : List Int} (hi : l[i]? = some s) : s ≠ [] ∧ riseI s = true ∧ ∀ x ∈ s, 0 ≤ x ∧ x < c := by
  unfold rightS at h
  simp only [Bool.and_eq_true, List.all_eq_true] at h
  have := h.2.1 s (List.mem_of_getElem? hi)
  unfold setOk at this
  rw [Bool.and_eq_true, Bool.and_eq_true, List.all_eq_true] at this
  refine ⟨fun e => by rw [e] at this; simp at this, this.2.2, fun x hx => ?_⟩
  have := this.2.1 x hx
  simpa using this
/-- What one order serves lies within each other. -/
theorem serves_chain {c : Int} {l : List (List Int)} (h : rightS c l = true) {o : List Int} {i j : Nat} (hi : i < l.length) (hj : j < l.length) (hne : i ≠ j) (h1 : servesL o (l.getD i []) = true) (h2 : servesL o (l.getD j []) = true) : RS l i j ∨ RS l j i := by
  have gi : l[i]? = some (l.getD i []) := by rw [List.getD_eq_getElem?_getD, List.getElem?_eq_getElem hi]; rfl
  have gj : l[j]? = some (l.getD j []) := by rw [List.getD_eq_getElem?_getD, List.getElem?_eq_getElem hj]; rfl
  obtain ⟨_, ri, _⟩ := rightS_at h gi
  obtain ⟨_, rj, _⟩ := rightS_at h gj
  unfold servesL at h1 h2
  simp only [Bool.and_eq_true, decide_eq_true_eq, within_iff] at h1 h2
  obtain ⟨a1, a2, a3⟩ := h1
  obtain ⟨b1, b2, b3⟩ := h2
  have pre : ∀ {m n : Nat}, m ≤ n → ∀ x ∈ o.take m, x ∈ o.take n := fun {m n} hmn x hx => by
    have : o.take m = (o.take n).take m := by rw [List.take_take, Nat.min_eq_left hmn]
    rw [this] at hx
    exact List.mem_of_mem_take hx
  rcases Nat.lt_trichotomy (l.getD i []).length (l.getD j []).length with hlt | heq | hlt
  · exact .inl (inside_iff.2 ⟨fun x hx => b2 x (pre (Nat.le_of_lt hlt) x (a3 x hx)), hlt⟩)
  · have e : l.getD i [] = l.getD j [] := riseI_ext ri rj fun x => ⟨fun hx => b2 x (by rw [← heq]; exact a3 x hx), fun hx => a2 x (by rw [heq]; exact b3 x hx)⟩
    have hd : distinctL l = true := by
      unfold rightS at h
      simp only [Bool.and_eq_true] at h
      exact h.2.2
    rw [e] at gi
    exact absurd (distinct_at hd gi gj) hne
  · exact .inr (inside_iff.2 ⟨fun x hx => a2 x (pre (Nat.le_of_lt hlt) x (b3 x hx)), hlt⟩)
end Go.Proofs.Ytiljpacmkmmlcaa
namespace Go.Proofs.Ytiljpacmkmmlcaa

theorem riseI_iff : ∀ {l : List Int}, riseI l = true ↔ ∀ (j : Nat) (x y : Int), l[j]? = some x → l[j + 1]? = some y → x < y
  | [] => ⟨fun _ j x y h => by simp at h, fun _ => rfl⟩
  | [a] => ⟨fun _ j x y _ h => by simp at h, fun _ => rfl⟩
  | a :: b :: l => by
    have ih := riseI_iff (l := b :: l)
    unfold riseI
    rw [Bool.and_eq_true, decide_eq_true_eq, ih]
    constructor
    · rintro ⟨h1, h2⟩ j x y hx hy
      match j with
      | 0 =>
        have ex : a = x := by simpa using hx
        have ey : b = y := by simpa using hy
        omega
      | j + 1 => exact h2 j x y (by simpa using hx) (by simpa using hy)
    · intro h
      exact ⟨h 0 a b rfl rfl, fun j x y hx hy => h (j + 1) x y (by simpa using hx) (by simpa using hy)⟩
/-- The first k columns of a set may be. -/
def colsTo (c : Int) (s : List Int) (k : Nat) : Prop := (∀ j x, j < k → s[j]? = some x → 0 ≤ x ∧ x < c) ∧ ∀ j x y, j + 1 < k → s[j]? = some x → s[j + 1]? = some y → x < y
theorem colsTo_zero (c : Int) (s : List Int) : colsTo c s 0 := ⟨fun j x h => by omega, fun j x y h => by omega⟩
theorem colsTo_first {c : Int} {s : List Int} {x : Int} (hx : s[0]? = some x) (h0 : 0 ≤ x) (h1 : x < c) : colsTo c s 1 :=
  ⟨fun j y hj hy => by
    have : j = 0 := by omega
    subst this
    rw [hx] at hy
    cases hy
    exact ⟨h0, h1⟩, fun j x y h => by omega⟩
theorem colsTo_next {c : Int} {s : List Int} {k : Nat} {y x : Int} (h : colsTo c s (k + 1)) (hy : s[k]? = some y) (hx : s[k + 1]? = some x) (h0 : 0 ≤ x) (h1 : x < c) (hlt : y < x) : colsTo c s (k + 2) :=
  ⟨fun j z hj hz => by
    by_cases e : j = k + 1
    · subst e
      rw [hx] at hz
      cases hz
      exact ⟨h0, h1⟩
    · exact h.1 j z (by omega) hz, fun j z u hj hz hu => by
    by_cases e : j = k
    · subst e
      rw [hy] at hz
      rw [hx] at hu
      cases hz; cases hu
      exact hlt
    · exact h.2 j z u (by omega) hz hu⟩
theorem setOk_iff {c : Int} {s : List Int} : setOk c s = true ↔ s ≠ [] ∧ colsTo c s s.length := by
  unfold setOk colsTo
  rw [Bool.and_eq_true, Bool.and_eq_true, List.all_eq_true, riseI_iff]
  constructor
  · rintro ⟨h1, h2, h3⟩
    refine ⟨fun e => by rw [e] at h1; simp at h1, fun j x _ hx => ?_, fun j x y _ hx hy => h3 j x y hx hy⟩
    have := h2 x (List.mem_of_getElem? hx)
    simpa using this
  · rintro ⟨h1, h2, h3⟩
    refine ⟨by cases s with | nil => exact absurd rfl h1 | cons => rfl, fun x hx => ?_, fun j x y hx hy => h3 j x y (List.getElem?_eq_some_iff.1 hy).1 hx hy⟩
    obtain ⟨j, hj⟩ := List.mem_iff_getElem?.1 hx
    have := h2 j x (List.getElem?_eq_some_iff.1 hj).1 hj
    simpa using this
/-- The first k sets may be, and none is there twice. -/
def setsTo (c : Int) (l : List (List Int)) (k : Nat) : Prop := ∀ (i : Nat) (s : List Int), i < k → l[i]? = some s → setOk c s = true ∧ ∀ (j : Nat) (t : List Int), j < i → l[j]? = some t → t ≠ s
theorem distinct_of : ∀ {l : List (List Int)}, (∀ (i j : Nat) (s : List Int), l[i]? = some s → l[j]? = some s → i = j) → distinctL l = true
  | [], _ => rfl
  | t :: l, h => by
    unfold distinctL
    rw [Bool.and_eq_true]
    refine ⟨?_, distinct_of fun i j s hi hj => by
      have := h (i + 1) (j + 1) s (by simpa using hi) (by simpa using hj)
      omega⟩
    cases ha : l.any fun u => t == u with
    | false => rfl
    | true =>
      obtain ⟨u, hu, e⟩ := List.any_eq_true.1 ha
      have e : t = u := by simpa using e
      subst e
      obtain ⟨j, hj⟩ := List.mem_iff_getElem?.1 hu
      have := h 0 (j + 1) t rfl (by simpa using hj)
      omega
theorem rightS_iff {c : Int} {l : List (List Int)} : rightS c l = true ↔ (1 ≤ c ∧ c ≤ 8 ∧ l.length ≤ 60) ∧ setsTo c l l.length := by
  unfold rightS setsTo
  simp only [Bool.and_eq_true, decide_eq_true_eq, List.all_eq_true]
  constructor
  · rintro ⟨⟨⟨h1, h2⟩, h3⟩, h4, h5⟩
    refine ⟨⟨h1, h2, h3⟩, fun i s _ hi => ⟨h4 s (List.mem_of_getElem? hi), fun j t hj ht e => ?_⟩⟩
    subst e
    have := distinct_at h5 ht hi
    omega
  · rintro ⟨⟨h1, h2, h3⟩, h⟩
    refine ⟨⟨⟨h1, h2⟩, h3⟩, fun s hs => ?_, distinct_of fun i j s hi hj => ?_⟩
    · obtain ⟨i, hi⟩ := List.mem_iff_getElem?.1 hs
      exact (h i s (List.getElem?_eq_some_iff.1 hi).1 hi).1
    · rcases Nat.lt_trichotomy i j with h4 | h4 | h4
      · exact absurd rfl ((h j s (List.getElem?_eq_some_iff.1 hj).1 hj).2 i s h4 hi)
      · exact h4
      · exact absurd rfl ((h i s (List.getElem?_eq_some_iff.1 hi).1 hi).2 j s h4 hj)
end Go.Proofs.Ytiljpacmkmmlcaa
