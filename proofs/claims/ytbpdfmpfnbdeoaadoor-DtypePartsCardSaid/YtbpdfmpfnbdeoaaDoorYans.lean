/- What Types and Check of dtype answer, as plain data, and what that is worth whatever the order of parts. What dtype.Check answers, as plain data; a program's first rules. -/
import Derived.Test.YtbpdfmpfnbdeoaaDoorYmem
import Derived.Test.YtbpdfmpfnbdeoaaDoorTsp
namespace Go.Proofs.YtbpdfmpfnbdeoaaDoor
open Go.RowKit

/-! ### The variables -/
theorem cntV_zero {ts : List Tm} {s : List UInt8} : cntV ts s = 0 ↔ ∀ t ∈ ts, t.op = 1 → nm t ≠ s := by
  induction ts with
  | nil => simp [cntV]
  | cons t ts ih =>
    unfold cntV
    by_cases h : t.op = 1 ∧ nm t = s
    · rw [if_pos h]
      exact ⟨fun e => by omega, fun e => absurd h.2 (e t (List.mem_cons_self ..) h.1)⟩
    · rw [if_neg h, Nat.add_zero, ih]
      refine ⟨fun e x hx h1 => ?_, fun e x hx => e x (List.mem_cons_of_mem _ hx)⟩
      rcases List.mem_cons.1 hx with rfl | hx
      · exact fun h2 => h ⟨h1, h2⟩
      · exact e x hx h1
theorem bytes_ext {s t : ByteArray} (h : s.data.toList = t.data.toList) : s = t := by
  cases s; cases t; congr 1; exact Array.toList_inj.1 h
theorem rev_ind {α : Type} {P : List α → Prop} (h0 : P []) (h1 : ∀ l x, P l → P (l ++ [x])) (l : List α) : P l := by
  have : ∀ m : List α, P m.reverse := by
    intro m
    induction m with
    | nil => exact h0
    | cons x m ih => rw [List.reverse_cons]; exact h1 _ _ ih
  rw [← List.reverse_reverse l]
  exact this _
theorem mem_varsV (ts : List Tm) : ∀ s : ByteArray, s ∈ varsV ts ↔ ∃ t ∈ ts, t.op = 1 ∧ t.s = s := by
  refine rev_ind (P := fun ts => ∀ s : ByteArray, s ∈ varsV ts ↔ ∃ t ∈ ts, t.op = 1 ∧ t.s = s) (fun s => ?_) (fun l t ih s => ?_) ts
  · exact ⟨fun h => (by cases h), fun ⟨t, h, _⟩ => by cases h⟩
  · rw [varsV_snoc]
    unfold stepV
    by_cases h : t.op = 1 ∧ cntV l (nm t) = 0
    · rw [if_pos h, List.mem_append, ih, List.mem_singleton]
      refine ⟨?_, ?_⟩
      · rintro (⟨u, h1, h2⟩ | rfl)
        · exact ⟨u, List.mem_append_left _ h1, h2⟩
        · exact ⟨t, List.mem_append_right _ (List.mem_cons_self ..), h.1, rfl⟩
      · rintro ⟨u, h1, h2, h3⟩
        rcases List.mem_append.1 h1 with h1 | h1
        · exact .inl ⟨u, h1, h2, h3⟩
        · rw [List.mem_singleton.1 h1] at h3; exact .inr h3.symm
    · rw [if_neg h, ih]
      refine ⟨fun ⟨u, h1, h2⟩ => ⟨u, List.mem_append_left _ h1, h2⟩, ?_⟩
      rintro ⟨u, h1, h2, h3⟩
      rcases List.mem_append.1 h1 with h1 | h1
      · exact ⟨u, h1, h2, h3⟩
      · have e := List.mem_singleton.1 h1
        subst e
        have hc : ¬ cntV l (nm u) = 0 := fun hz => h ⟨h2, hz⟩
        rw [cntV_zero] at hc
        have : ∃ x ∈ l, x.op = 1 ∧ nm x = nm u := by
          refine Classical.byContradiction fun hn => hc fun x hx h1 h2 => hn ⟨x, hx, h1, h2⟩
        obtain ⟨x, hx, x1, x2⟩ := this
        exact ⟨x, hx, x1, (bytes_ext x2).trans h3⟩
theorem nodup_varsV (ts : List Tm) : (varsV ts).Nodup := by
  refine rev_ind (P := fun ts => (varsV ts).Nodup) List.nodup_nil (fun l t ih => ?_) ts
  rw [varsV_snoc]
  unfold stepV
  by_cases h : t.op = 1 ∧ cntV l (nm t) = 0
  · rw [if_pos h]
    refine List.nodup_append.2 ⟨ih, by simp, ?_⟩
    rintro a ha b hb rfl
    rw [List.mem_singleton] at hb
    subst hb
    obtain ⟨u, h1, h2, h3⟩ := (mem_varsV l _).1 ha
    exact cntV_zero.1 h.2 u h1 h2 (by unfold nm; rw [h3])
  · rw [if_neg h]; exact ih
theorem nodup_sub' : ∀ {l m : List ByteArray}, l.Nodup → (∀ x ∈ l, x ∈ m) → l.length ≤ m.length
  | [], _, _, _ => Nat.zero_le _
  | x :: l, m, hn, hs => by
    obtain ⟨m1, m2, rfl⟩ := List.append_of_mem (hs x (List.mem_cons_self ..))
    have hn' := List.nodup_cons.1 hn
    have := nodup_sub' (m := m1 ++ m2) hn'.2 (fun y hy => by
      have := hs y (List.mem_cons_of_mem _ hy)
      rcases List.mem_append.1 this with h | h
      · exact List.mem_append_left _ h
      · rcases List.mem_cons.1 h with rfl | h
        · exact absurd hy hn'.1
        · exact List.mem_append_right _ h)
    simp only [List.length_append, List.length_cons] at this ⊢
    omega
theorem vars_len {a b : List Tm} (h : ∀ t, t ∈ a ↔ t ∈ b) : (varsV a).length = (varsV b).length := by
  refine Nat.le_antisymm (nodup_sub' (nodup_varsV _) fun s hs => ?_) (nodup_sub' (nodup_varsV _) fun s hs => ?_)
  · obtain ⟨t, h1, h2⟩ := (mem_varsV _ _).1 hs; exact (mem_varsV _ _).2 ⟨t, (h t).1 h1, h2⟩
  · obtain ⟨t, h1, h2⟩ := (mem_varsV _ _).1 hs; exact (mem_varsV _ _).2 ⟨t, (h t).2 h1, h2⟩

/-! ### Rules with fewer parts -/
structure Sub (r r' : Ru) : Prop where
  head : r.head = r'.head
  body : ∀ l ∈ r.body, l ∈ r'.body
theorem mem_atomsL {t : Am} {l : List Lt} : t ∈ atomsL l ↔ ∃ x ∈ l, duoB x = false ∧ x.a = t := by
  induction l with
  | nil => exact ⟨fun h => (by cases h), fun ⟨_, h, _⟩ => by cases h⟩
  | cons y l ih =>
    unfold atomsL
    cases hd : duoB y with
    | true =>
      simp only [if_true]
      rw [ih]
      refine ⟨fun ⟨x, h1, h2⟩ => ⟨x, List.mem_cons_of_mem _ h1, h2⟩, fun ⟨x, h1, h2, h3⟩ => ?_⟩
      rcases List.mem_cons.1 h1 with rfl | h1
      · rw [hd] at h2; cases h2
      · exact ⟨x, h1, h2, h3⟩
    | false =>
      simp only [Bool.false_eq_true, if_false]
      rw [List.mem_cons, ih]
      refine ⟨?_, fun ⟨x, h1, h2, h3⟩ => ?_⟩
      · rintro (rfl | ⟨x, h1, h2⟩)
        · exact ⟨y, List.mem_cons_self .., hd, rfl⟩
        · exact ⟨x, List.mem_cons_of_mem _ h1, h2⟩
      · rcases List.mem_cons.1 h1 with rfl | h1
        · exact .inl h3.symm
        · exact .inr ⟨x, h1, h2, h3⟩
theorem mem_prsL {p : Tm × Tm} {l : List Lt} : p ∈ prsL l ↔ ∃ x ∈ l, duoB x = true ∧ (x.x, x.y) = p := by
  induction l with
  | nil => exact ⟨fun h => (by cases h), fun ⟨_, h, _⟩ => by cases h⟩
  | cons y l ih =>
    unfold prsL
    cases hd : duoB y with
    | false =>
      simp only [Bool.false_eq_true, if_false]
      rw [ih]
      refine ⟨fun ⟨x, h1, h2⟩ => ⟨x, List.mem_cons_of_mem _ h1, h2⟩, fun ⟨x, h1, h2, h3⟩ => ?_⟩
      rcases List.mem_cons.1 h1 with rfl | h1
      · rw [hd] at h2; cases h2
      · exact ⟨x, h1, h2, h3⟩
    | true =>
      simp only [if_true]
      rw [List.mem_cons, ih]
      refine ⟨?_, fun ⟨x, h1, h2, h3⟩ => ?_⟩
      · rintro (rfl | ⟨x, h1, h2⟩)
        · exact ⟨y, List.mem_cons_self .., hd, rfl⟩
        · exact ⟨x, List.mem_cons_of_mem _ h1, h2⟩
      · rcases List.mem_cons.1 h1 with rfl | h1
        · exact .inl h3.symm
        · exact .inr ⟨x, h1, h2, h3⟩
theorem Sub.atoms {r r' : Ru} (h : Sub r r') : ∀ t ∈ atomsR r, t ∈ atomsR r' := fun t ht => by
  rcases List.mem_cons.1 ht with rfl | ht
  · rw [h.head]; exact List.mem_cons_self ..
  · obtain ⟨x, h1, h2⟩ := mem_atomsL.1 ht
    exact List.mem_cons_of_mem _ (mem_atomsL.2 ⟨x, h.body x h1, h2⟩)
theorem Sub.prs {r r' : Ru} (h : Sub r r') : ∀ t ∈ prsL r.body, t ∈ prsL r'.body := fun t ht => by
  obtain ⟨x, h1, h2⟩ := mem_prsL.1 ht
  exact mem_prsL.2 ⟨x, h.body x h1, h2⟩
theorem Sub.terms {r r' : Ru} (h : Sub r r') : ∀ t ∈ termsR r, t ∈ termsR r' := fun t ht => by
  rcases List.mem_append.1 ht with ht | ht
  · rw [h.head] at ht; exact List.mem_append_left _ ht
  · obtain ⟨l, h1, h2⟩ := List.mem_flatMap.1 ht
    exact List.mem_append_right _ (List.mem_flatMap.2 ⟨l, h.body l h1, h2⟩)
theorem mem_nums {l m : List Tm} (h : ∀ t ∈ l, t ∈ m) : ∀ x ∈ nums l, x ∈ nums m := fun x hx => by
  unfold nums at hx ⊢
  obtain ⟨t, h1, h2⟩ := List.mem_map.1 hx
  exact List.mem_map.2 ⟨t, h t h1, h2⟩
theorem Sub.base {r r' : Ru} (h : Sub r r') (ds : List De) : ∀ t ∈ baseL ds r, t ∈ baseL ds r' := fun t ht => by
  unfold baseL at ht ⊢
  rcases List.mem_append.1 ht with ht | ht
  · obtain ⟨a, h1, h2⟩ := List.mem_flatMap.1 ht
    exact List.mem_append_left _ (List.mem_flatMap.2 ⟨a, h.atoms a h1, h2⟩)
  · refine List.mem_append_right _ ?_
    rcases List.mem_append.1 ht with ht | ht
    · refine List.mem_append_left _ (mem_nums (fun u hu => ?_) t ht)
      obtain ⟨l, h1, h2⟩ := List.mem_flatMap.1 hu
      exact List.mem_flatMap.2 ⟨l, h.body l h1, h2⟩
    · refine List.mem_append_right _ (mem_nums (fun u hu => ?_) t ht)
      obtain ⟨l, h1, h2⟩ := List.mem_flatMap.1 hu
      exact List.mem_flatMap.2 ⟨l, h.terms l h1, h2⟩
theorem chkA_iff {ds : List De} {l : List Am} : chkA ds l = 0 ↔ ∀ t ∈ l, badA ds t = 0 := by
  refine ⟨fun h => ?_, chkA_all⟩
  induction l with
  | nil => intro t ht; cases ht
  | cons x l ih =>
    unfold chkA at h
    by_cases hx : badA ds x = 0
    · rw [if_pos hx] at h
      intro t ht
      rcases List.mem_cons.1 ht with rfl | ht
      · exact hx
      · exact ih h t ht
    · rw [if_neg hx] at h; exact absurd h hx
theorem Sub.chk {r r' : Ru} (h : Sub r r') {ds : List De} (hc : chkA ds (atomsR r') = 0) : chkA ds (atomsR r) = 0 := chkA_iff.2 fun t ht => chkA_iff.1 hc t (h.atoms t ht)

/-! ### What Types answers -/
abbrev DerR (ds : List De) (r : Ru) : List UInt8 → Int → Prop := Der (baseL ds r) (prsL r.body)
def Fits (ds : List De) (r : Ru) : Prop := NoConf (baseL ds r) (prsL r.body) ∧ ∀ t ∈ termsR r, t.op = 1 → ∃ k, k ≠ 0 ∧ DerR ds r (nm t) k
def atE : Nat → Int
  | 0 => 0
  | 1 => 51
  | _ => 52
theorem atE_ne {n : Nat} (h : n ≠ 0) : atE n = 51 ∨ atE n = 52 := by
  cases n with
  | zero => exact absurd rfl h
  | succ n => cases n with
    | zero => exact .inl rfl
    | succ n => exact .inr rfl
inductive TyA (ds : List De) (r : Ru) : List Int → Int → Prop
  | tree : rightP ⟨ds, [r]⟩ = false → TyA ds r [] 30
  | atom : rightP ⟨ds, [r]⟩ = true → chkA ds (atomsR r) ≠ 0 → TyA ds r [] (atE (chkA ds (atomsR r)))
  | none : rightP ⟨ds, [r]⟩ = true → chkA ds (atomsR r) = 0 → ¬ Fits ds r → TyA ds r [] 53
  | some {K : Kn} : rightP ⟨ds, [r]⟩ = true → chkA ds (atomsR r) = 0 → Fits ds r → (∀ s k, k ≠ 0 → (look K s = k ↔ DerR ds r s k)) → (∀ s, look K s = 0 ∨ look K s = 1 ∨ look K s = 2) → TyA ds r ((varsV (termsR r)).map fun s => look K s.data.toList) 0
theorem rightTy_or {n : Int} (h : rightTy n = true) : n = 1 ∨ n = 2 := by
  unfold rightTy at h
  simpa using h
theorem right_types {ds : List De} {l : List Ru} (h : rightP ⟨ds, l⟩ = true) : ∀ e ∈ ds, ∀ k ∈ e.types, k = 1 ∨ k = 2 := by
  intro e he k hk
  unfold rightP at h
  simp only [Bool.and_eq_true, List.all_eq_true] at h
  have := h.1.2 e he
  unfold rightD at this
  simp only [Bool.and_eq_true, List.all_eq_true] at this
  exact rightTy_or (this.2 k hk)
theorem base_ne {ds : List De} {r : Ru} (hty : ∀ e ∈ ds, ∀ k ∈ e.types, k = 1 ∨ k = 2) : ∀ x ∈ baseL ds r, x.2 ≠ 0 := fun x hx => by
  have one : ∀ l : List Tm, x ∈ nums l → x.2 ≠ 0 := fun l h => by
    unfold nums at h
    obtain ⟨t, _, rfl⟩ := List.mem_map.1 h
    show (1 : Int) ≠ 0
    decide
  unfold baseL at hx
  rcases List.mem_append.1 hx with hx | hx
  · obtain ⟨a, _, h2⟩ := List.mem_flatMap.1 hx
    unfold plc at h2
    split at h2
    · cases h2
    · split at h2
      · cases h2
      · rename_i d hd
        obtain ⟨t, k⟩ := x
        have hk := (List.of_mem_zip h2).2
        rcases hty d (List.mem_of_getElem? hd) k hk with rfl | rfl
        · show (1 : Int) ≠ 0
          decide
        · show (2 : Int) ≠ 0
          decide
  · rcases List.mem_append.1 hx with hx | hx
    · exact one _ hx
    · exact one _ hx

theorem TyA.len {ds : List De} {r : Ru} {l : List Int} (h : TyA ds r l 0) : l.length = (varsV (termsR r)).length := by
  generalize he : (0 : Int) = e at h
  cases h with
  | tree h => cases he
  | atom h1 h2 => rcases atE_ne h2 with h | h <;> rw [h] at he <;> cases he
  | none h1 h2 h3 => cases he
  | some h1 h2 h3 h4 h5 => simp
/-- The numbers of errors. -/
theorem TyA.errs {ds : List De} {r : Ru} {l : List Int} {e : Int} (h : TyA ds r l e) : (e = 30 ∧ rightP ⟨ds, [r]⟩ = false) ∨ (rightP ⟨ds, [r]⟩ = true ∧ ((e = atE (chkA ds (atomsR r)) ∧ (e = 51 ∨ e = 52) ∧ chkA ds (atomsR r) ≠ 0) ∨ (e = 53 ∧ chkA ds (atomsR r) = 0 ∧ ¬ Fits ds r) ∨ (e = 0 ∧ chkA ds (atomsR r) = 0 ∧ Fits ds r))) := by
  cases h with
  | tree h => exact .inl ⟨rfl, h⟩
  | atom h1 h2 => exact .inr ⟨h1, .inl ⟨rfl, atE_ne h2, h2⟩⟩
  | none h1 h2 h3 => exact .inr ⟨h1, .inr (.inl ⟨rfl, h2, h3⟩)⟩
  | some h1 h2 h3 h4 h5 => exact .inr ⟨h1, .inr (.inr ⟨rfl, h2, h3⟩)⟩
theorem TyA.nil {ds : List De} {r : Ru} {l : List Int} {e : Int} (h : TyA ds r l e) (he : e ≠ 0) : l = [] := by
  cases h with
  | tree h => rfl
  | atom h1 h2 => rfl
  | none h1 h2 h3 => rfl
  | some h1 h2 h3 h4 h5 => exact absurd rfl he
/-- One rule, one error. -/
theorem TyA.det {ds : List De} {r : Ru} {l l' : List Int} {e e' : Int} (h : TyA ds r l e) (k : TyA ds r l' e') : e = e' := by
  rcases h.errs with ⟨rfl, h1⟩ | ⟨h1, h2⟩ <;> rcases k.errs with ⟨rfl, k1⟩ | ⟨k1, k2⟩
  · rfl
  · rw [h1] at k1; cases k1
  · rw [h1] at k1; cases k1
  · rcases h2 with ⟨rfl, _, h2⟩ | ⟨rfl, h2, h3⟩ | ⟨rfl, h2, h3⟩ <;> rcases k2 with ⟨rfl, _, k2⟩ | ⟨rfl, k2, k3⟩ | ⟨rfl, k2, k3⟩
    · rfl
    · exact absurd k2 h2
    · exact absurd k2 h2
    · exact absurd h2 k2
    · rfl
    · exact absurd k3 h3
    · exact absurd h2 k2
    · exact absurd h3 k3
    · rfl
/-- The place of a name, and the type that stands there. -/
def placeV (l : List ByteArray) (s : ByteArray) : Int :=
  match l.findIdx? fun x => x.toList == s.toList with
  | none => -1
  | some i => i
def typedV (vars : List ByteArray) (types : List Int) (s : ByteArray) : Int := if placeV vars s < 0 ∨ (types.length : Int) ≤ placeV vars s then 0 else types.getD (placeV vars s).toNat 0
theorem place_mem {l : List ByteArray} {s : ByteArray} (h : s ∈ l) : ∃ i : Nat, placeV l s = i ∧ l[i]? = some s := by
  unfold placeV
  cases hf : l.findIdx? fun x => x.toList == s.toList with
  | none =>
    rw [List.findIdx?_eq_none_iff] at hf
    have := hf s h
    simp at this
  | some i =>
    obtain ⟨hi, h1, _⟩ := List.findIdx?_eq_some_iff_getElem.1 hf
    refine ⟨i, rfl, ?_⟩
    rw [List.getElem?_eq_getElem hi]
    congr 1
    have h1 : l[i].toList = s.toList := by simpa using h1
    rw [ByteArray.toList_eq, ByteArray.toList_eq] at h1
    exact bytes_ext h1
theorem typed_map {l : List ByteArray} {f : ByteArray → Int} {s : ByteArray} (h : s ∈ l) : typedV l (l.map f) s = f s := by
  obtain ⟨i, h1, h2⟩ := place_mem h
  have hi := (List.getElem?_eq_some_iff.1 h2).1
  unfold typedV
  rw [h1, if_neg (by rw [List.length_map]; omega)]
  simp [List.getD, h2]
theorem vars_ne {ds : List De} {r : Ru} {K : Kn} (hf : Fits ds r) (hK : ∀ s k, k ≠ 0 → (look K s = k ↔ DerR ds r s k)) {s : ByteArray} (hs : s ∈ varsV (termsR r)) : look K s.data.toList ≠ 0 ∧ DerR ds r s.data.toList (look K s.data.toList) := by
  obtain ⟨t, h1, h2, rfl⟩ := (mem_varsV _ _).1 hs
  obtain ⟨k, hk, hd⟩ := hf.2 t h1 h2
  have := (hK _ _ hk).2 hd
  show look K (nm t) ≠ 0 ∧ DerR ds r (nm t) (look K (nm t))
  rw [this]
  exact ⟨hk, hd⟩
/-- What is known of a rule is known of it with more parts. -/
theorem types_sub {ds : List De} {r r' : Ru} (hs : Sub r r') {l l' : List Int} (h : TyA ds r l 0) (h' : TyA ds r' l' 0) {s : ByteArray} (hv : s ∈ varsV (termsR r)) : typedV (varsV (termsR r)) l s = typedV (varsV (termsR r')) l' s ∧ (typedV (varsV (termsR r)) l s = 1 ∨ typedV (varsV (termsR r)) l s = 2) := by
  have hv' : s ∈ varsV (termsR r') := by
    obtain ⟨t, h1, h2⟩ := (mem_varsV _ _).1 hv
    exact (mem_varsV _ _).2 ⟨t, hs.terms t h1, h2⟩
  generalize he : (0 : Int) = e at h
  generalize he' : (0 : Int) = e' at h'
  cases h with
  | tree h => cases he
  | atom h1 h2 => rcases atE_ne h2 with h | h <;> rw [h] at he <;> cases he
  | none h1 h2 h3 => cases he
  | some h1 h2 h3 h4 h5 =>
    cases h' with
    | tree h => cases he'
    | atom h1 h2 => rcases atE_ne h2 with h | h <;> rw [h] at he' <;> cases he'
    | none h1 h2 h3 => cases he'
    | some g1 g2 g3 g4 g5 =>
      rw [typed_map hv, typed_map hv']
      obtain ⟨n1, d1⟩ := vars_ne h3 h4 hv
      exact ⟨((g4 _ _ n1).2 (d1.sub (hs.base ds) hs.prs)).symm, (h5 s.data.toList).resolve_left n1⟩
theorem Fits.of {ds : List De} {r r' : Ru} (h : Sub r r') (k : Sub r' r) (hf : Fits ds r') : Fits ds r :=
  ⟨hf.1.sub (h.base ds) h.prs, fun t ht hv => by
    obtain ⟨n, h1, h2⟩ := hf.2 t (h.terms t ht) hv
    exact ⟨n, h1, h2.sub (k.base ds) k.prs⟩⟩
/-- Parts in another order. -/
theorem types_moved {ds : List De} {r r' : Ru} (h : Sub r r') (k : Sub r' r) (hr : rightP ⟨ds, [r]⟩ = rightP ⟨ds, [r']⟩) {l l' : List Int} {e e' : Int} (a : TyA ds r l e) (a' : TyA ds r' l' e') : ((e = 51 ∨ e = 52) → (e' = 51 ∨ e' = 52)) ∧ (¬ (e = 51 ∨ e = 52) → e = e') := by
  rcases a.errs with ⟨rfl, h1⟩ | ⟨h1, h2⟩ <;> rcases a'.errs with ⟨rfl, k1⟩ | ⟨k1, k2⟩
  · exact ⟨fun h => by omega, fun _ => rfl⟩
  · rw [hr, k1] at h1; cases h1
  · rw [hr, k1] at h1; cases h1
  · rcases h2 with ⟨he, e1, h2⟩ | ⟨rfl, h2, h3⟩ | ⟨rfl, h2, h3⟩ <;> rcases k2 with ⟨he', e2, k2⟩ | ⟨rfl, k2, k3⟩ | ⟨rfl, k2, k3⟩
    · exact ⟨fun _ => e2, fun h => absurd e1 h⟩
    · exact absurd (h.chk k2) h2
    · exact absurd (h.chk k2) h2
    · exact absurd (k.chk h2) k2
    · exact ⟨fun h => by omega, fun _ => rfl⟩
    · exact absurd (k3.of h k) h3
    · exact absurd (k.chk h2) k2
    · exact absurd (h3.of k h) k3
    · exact ⟨fun h => by omega, fun _ => rfl⟩
/-- Parts taken away. -/
theorem types_less {ds : List De} {r r' : Ru} (h : Sub r r') (hr : rightP ⟨ds, [r]⟩ = true) {l l' : List Int} {e : Int} (a : TyA ds r l e) (a' : TyA ds r' l' 0) : e = 0 ∨ e = 53 := by
  have hc : chkA ds (atomsR r') = 0 := by
    rcases a'.errs with ⟨h, _⟩ | ⟨_, ⟨h, h', _⟩ | ⟨h, _⟩ | ⟨_, h, _⟩⟩
    · omega
    · omega
    · omega
    · exact h
  rcases a.errs with ⟨_, h1⟩ | ⟨_, ⟨_, _, h2⟩ | ⟨rfl, _⟩ | ⟨rfl, _⟩⟩
  · rw [hr] at h1; cases h1
  · exact absurd (h.chk hc) h2
  · exact .inr rfl
  · exact .inl rfl
end Go.Proofs.YtbpdfmpfnbdeoaaDoor
namespace Go.Proofs.YtbpdfmpfnbdeoaaDoor
open Go.RowKit

/-- No two of the first n relations have one name. -/
def NoTw (ds : List De) (n : Nat) : Prop := ∀ (i : Nat) (d : De), i < n → ds[i]? = some d → findY d.rel ds = some i
/-- A relation's name is found where it stands, or ahead. -/
theorem find_le {ds : List De} {i : Nat} {d : De} (h : ds[i]? = some d) : ∃ j : Nat, findY d.rel ds = some j ∧ j ≤ i := by
  have key : ∀ (l : List De) (k i : Nat), l[i]? = some d → ∃ j : Nat, ixY d.rel k l = ((k + j : Nat) : Int) ∧ j ≤ i := by
    intro l
    induction l with
    | nil => intro k i h; cases h
    | cons x l ih =>
      intro k i h
      unfold ixY
      cases hx : relY d.rel x with
      | true => exact ⟨0, by simp, Nat.zero_le _⟩
      | false =>
        cases i with
        | zero =>
          have e : x = d := by simpa using h
          subst e
          simp [relY] at hx
        | succ i =>
          obtain ⟨j, h1, h2⟩ := ih (k + 1) i (by simpa using h)
          exact ⟨j + 1, by simp only [Bool.false_eq_true, if_false]; rw [h1]; congr 1; omega, by omega⟩
  obtain ⟨j, h1, h2⟩ := key ds 0 i h
  refine ⟨j, ?_, h2⟩
  unfold findY
  rw [h1, Nat.zero_add, if_neg (by omega)]
  simp
inductive ChA (p : Pg) : Int → Int → Prop
  | tree : rightP p = false → ChA p 0 30
  | twice {i : Nat} {d : De} : rightP p = true → p.decls[i]? = some d → findY d.rel p.decls ≠ some i → NoTw p.decls i → ChA p d.line 50
  | rule {k : Nat} {r : Ru} {l : List Int} {e : Int} : rightP p = true → NoTw p.decls p.decls.length → p.rules[k]? = some r → (∀ (j : Nat) (r' : Ru), j < k → p.rules[j]? = some r' → ∃ l, TyA p.decls r' l 0) → TyA p.decls r l e → e ≠ 0 → ChA p r.line e
  | ok : rightP p = true → NoTw p.decls p.decls.length → (∀ r ∈ p.rules, ∃ l, TyA p.decls r l 0) → ChA p 0 0
theorem rightP_less {p : Pg} (h : rightP p = true) {l : List Ru} (hl : l.length ≤ p.rules.length) (hm : ∀ r ∈ l, r ∈ p.rules) : rightP ⟨p.decls, l⟩ = true := by
  unfold rightP at h ⊢
  simp only [Bool.and_eq_true, decide_eq_true_eq, List.all_eq_true] at h ⊢
  exact ⟨⟨⟨h.1.1.1, by omega⟩, h.1.2⟩, fun r hr => h.2 r (hm r hr)⟩
theorem rightP_one {p : Pg} (h : rightP p = true) {r : Ru} (hr : r ∈ p.rules) : rightP ⟨p.decls, [r]⟩ = true :=
  rightP_less h (by have := List.length_pos_of_mem hr; simp; omega) (fun x hx => by rw [List.mem_singleton.1 hx]; exact hr)
theorem ChA.right {p : Pg} {ln e : Int} (h : ChA p ln e) (he : e ≠ 30) : rightP p = true := by
  cases h with
  | tree h => exact absurd rfl he
  | twice h => exact h
  | rule h => exact h
  | ok h => exact h
/-- The first rules, and one alone. -/
theorem cha_parts {p : Pg} {i : Nat} {r : Ru} (hi : p.rules[i]? = some r) {ln e ln1 f ln2 g : Int} (h : ChA p ln e) (h1 : ChA ⟨p.decls, p.rules.take i⟩ ln1 f) (h2 : ChA ⟨p.decls, [r]⟩ ln2 g) :
    (e = 0 → f = 0 ∧ g = 0) ∧ (e ≠ 0 → f = 0 ∨ e = 30 ∨ f = e) := by
  have hm := List.mem_of_getElem? hi
  have ht : rightP p = true → rightP ⟨p.decls, p.rules.take i⟩ = true := fun hr => rightP_less hr (by simp; omega) (fun r hr => List.mem_of_mem_take hr)
  have ho : rightP p = true → rightP ⟨p.decls, [r]⟩ = true := fun hr => rightP_one hr hm
  have take_at : ∀ {j : Nat} {x : Ru}, (p.rules.take i)[j]? = some x → j < i ∧ p.rules[j]? = some x := by
    intro j x hj
    rw [List.getElem?_take] at hj
    split at hj
    · rename_i hlt; exact ⟨hlt, hj⟩
    · cases hj
  cases h with
  | tree hr => exact ⟨fun h => by omega, fun _ => .inr (.inl rfl)⟩
  | @twice k d hr hd hf hn =>
    refine ⟨fun h => by omega, fun _ => .inr (.inr ?_)⟩
    have hk := (List.getElem?_eq_some_iff.1 hd).1
    cases h1 with
    | tree h => rw [ht hr] at h; cases h
    | twice => rfl
    | rule _ h => exact absurd (h k d hk hd) hf
    | ok _ h => exact absurd (h k d hk hd) hf
  | @rule k x l e hr hn hk hb ha he =>
    refine ⟨fun h => absurd h he, fun _ => ?_⟩
    cases h1 with
    | tree h => rw [ht hr] at h; cases h
    | @twice k d _ hd hf => exact absurd (hn k d (List.getElem?_eq_some_iff.1 hd).1 hd) hf
    | @rule k' x' l' e' _ _ hk' hb' ha' he' =>
      obtain ⟨hlt, hk'⟩ := take_at hk'
      rcases Nat.lt_trichotomy k k' with h | h | h
      · obtain ⟨l2, h2⟩ := hb' k x h (by show (p.rules.take i)[k]? = some x; rw [List.getElem?_take, if_pos (by omega)]; exact hk)
        exact absurd (ha.det h2) he
      · subst h
        rw [hk] at hk'
        cases hk'
        exact .inr (.inr (ha'.det ha))
      · obtain ⟨l2, h2⟩ := hb k' x' h hk'
        exact absurd (TyA.det ha' h2) he'
    | ok => exact .inl rfl
  | ok hr hn ha =>
    refine ⟨fun _ => ⟨?_, ?_⟩, fun h => absurd rfl h⟩
    · cases h1 with
      | tree h => rw [ht hr] at h; cases h
      | @twice k d _ hd hf => exact absurd (hn k d (List.getElem?_eq_some_iff.1 hd).1 hd) hf
      | @rule k' x' l' e' _ _ hk' hb' ha' he' =>
        obtain ⟨l2, h2⟩ := ha x' (List.mem_of_getElem? (take_at hk').2)
        exact absurd (TyA.det ha' h2) he'
      | ok => rfl
    · cases h2 with
      | tree h => rw [ho hr] at h; cases h
      | @twice k d _ hd hf => exact absurd (hn k d (List.getElem?_eq_some_iff.1 hd).1 hd) hf
      | @rule k' x' l' e' _ _ hk' hb' ha' he' =>
        have hx : x' ∈ [r] := List.mem_of_getElem? hk'
        obtain ⟨l2, h2⟩ := ha x' (by rw [List.mem_singleton.1 hx]; exact hm)
        exact absurd (TyA.det ha' h2) he'
      | ok => rfl
end Go.Proofs.YtbpdfmpfnbdeoaaDoor
