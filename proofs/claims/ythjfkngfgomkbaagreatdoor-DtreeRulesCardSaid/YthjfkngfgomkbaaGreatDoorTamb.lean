/- Right programs of one text are alike, and alike ones have one text. Plain facts, no program here. -/
import Derived.Test.YthjfkngfgomkbaaGreatDoorTtext
import Derived.Test.YthjfkngfgomkbaaGreatDoorLists
import Derived.Test.YthjfkngfgomkbaaGreatDoorTdig
namespace Go.Proofs.YthjfkngfgomkbaaGreatDoor
open Go.RowKit

/-- The signs that words and numbers are made of. -/
def wordB (c : UInt8) : Bool := letB (c.toNat : Int) || digB (c.toNat : Int) || (c == 45)
def Stop (p : UInt8 → Bool) (r : List UInt8) : Prop := ∀ c t, r = c :: t → p c = false
theorem stop_cons {p : UInt8 → Bool} {c : UInt8} {r : List UInt8} (h : p c = false) : Stop p (c :: r) := by
  intro d t e
  obtain ⟨rfl, _⟩ := List.cons.inj e
  exact h
theorem span {p : UInt8 → Bool} : ∀ {u v r s : List UInt8}, u.all p = true → v.all p = true → Stop p r → Stop p s → u ++ r = v ++ s → u = v ∧ r = s
  | [], [], _, _, _, _, _, _, h => ⟨rfl, by simpa using h⟩
  | [], d :: v, r, s, _, hv, hr, _, h => by
    simp only [List.nil_append, List.cons_append] at h
    have h1 := hr d _ h
    simp only [List.all_cons, Bool.and_eq_true] at hv
    rw [hv.1] at h1; cases h1
  | c :: u, [], r, s, hu, _, _, hs, h => by
    simp only [List.nil_append, List.cons_append] at h
    have h1 := hs c _ h.symm
    simp only [List.all_cons, Bool.and_eq_true] at hu
    rw [hu.1] at h1; cases h1
  | c :: u, d :: v, r, s, hu, hv, hr, hs, h => by
    simp only [List.cons_append, List.cons.injEq] at h
    simp only [List.all_cons, Bool.and_eq_true] at hu hv
    obtain ⟨e1, e2⟩ := span hu.2 hv.2 hr hs h.2
    exact ⟨by rw [h.1, e1], e2⟩
theorem w32 : wordB 32 = false := by decide
theorem w40 : wordB 40 = false := by decide
theorem w41 : wordB 41 = false := by decide
theorem w44 : wordB 44 = false := by decide
theorem w46 : wordB 46 = false := by decide
theorem w58 : wordB 58 = false := by decide
theorem w34 : wordB 34 = false := by decide
theorem w33 : wordB 33 = false := by decide

theorem okFrom_all : ∀ (i : Nat) (l : List UInt8), okFrom i l = true → l.all wordB = true
  | _, [], _ => rfl
  | i, c :: l, h => by
    unfold okFrom at h
    rw [Bool.and_eq_true] at h
    rw [List.all_cons, okFrom_all (i + 1) l h.2, Bool.and_true]
    have h1 := h.1
    unfold okAt at h1
    unfold wordB
    cases hl : letB (c.toNat : Int) with
    | true => rfl
    | false => rw [hl, Bool.false_or, Bool.and_eq_true] at h1; rw [h1.2]; rfl
theorem name_all {l : List UInt8} (h : nameB l = true) : l.all wordB = true := by
  unfold nameB at h
  rw [Bool.and_eq_true] at h
  exact okFrom_all 0 l h.2
theorem name_head {l : List UInt8} (h : nameB l = true) : ∃ c t, l = c :: t ∧ letB (c.toNat : Int) = true := by
  cases l with
  | nil => simp [nameB] at h
  | cons c t =>
    unfold nameB okFrom okAt at h
    simp only [Bool.and_eq_true, Bool.or_eq_true] at h
    rcases h.2.1 with h1 | h1
    · exact ⟨c, t, rfl, h1⟩
    · simp at h1
theorem name_ne {l : List UInt8} (h : nameB l = true) : l ≠ [95] := by
  unfold nameB at h
  simp only [Bool.and_eq_true, decide_eq_true_eq] at h
  exact h.1.2.2
theorem name_len {l : List UInt8} (h : nameB l = true) : l.length ≤ 40 := by
  unfold nameB at h
  simp only [Bool.and_eq_true, decide_eq_true_eq] at h
  exact h.1.2.1
theorem dig_word {c : UInt8} (h : 48 ≤ c.toNat ∧ c.toNat ≤ 57) : wordB c = true := by
  unfold wordB digB
  rw [decide_eq_true (show (48 : Int) ≤ (c.toNat : Int) ∧ (c.toNat : Int) ≤ 57 by omega)]
  simp
theorem itoa_all (n : Int) : (Lib.itoa n).all wordB = true := by
  rw [List.all_eq_true]
  intro c hc
  unfold Lib.itoa at hc
  split at hc
  · rcases List.mem_cons.1 hc with rfl | hc
    · decide
    · exact dig_word (dec_digits _ c hc)
  · exact dig_word (dec_digits _ c hc)
/-- A number's text does not begin as a name does. -/
theorem itoa_head (n : Int) : ∃ c t, Lib.itoa n = c :: t ∧ letB (c.toNat : Int) = false ∧ c ≠ 33 := by
  unfold Lib.itoa
  split
  · exact ⟨45, _, rfl, by decide, by decide⟩
  · cases hd : Lib.decDigits n.toNat with
    | nil => exact absurd hd (dec_ne _)
    | cons c t =>
      have h1 := dec_digits n.toNat c (by rw [hd]; simp)
      refine ⟨c, t, rfl, ?_, ?_⟩
      · unfold letB
        rw [decide_eq_false_iff_not]
        omega
      · rintro rfl
        simp at h1
theorem sign34 : ∀ c : Fin 256, ∀ t ∈ (sign (UInt8.ofNat c.1)).head?, t ≠ 34 := by decide +kernel
theorem sign_head (c : UInt8) : ∃ d t, sign c = d :: t ∧ d ≠ 34 := by
  have h1 := sign34 ⟨c.toNat, c.toNat_lt⟩
  simp only [ofNat_toNat] at h1
  cases hs : sign c with
  | nil => exact absurd hs (sign_ne c)
  | cons d t => exact ⟨d, t, rfl, h1 d (by rw [hs]; rfl)⟩
theorem flat_amb : ∀ (s t r q : List UInt8), s.flatMap sign ++ 34 :: r = t.flatMap sign ++ 34 :: q → s = t ∧ r = q
  | [], [], r, q, h => ⟨rfl, by simpa using h⟩
  | [], d :: t, r, q, h => by
    obtain ⟨e, l, hs, he⟩ := sign_head d
    rw [List.flatMap_cons, hs] at h
    simp only [List.flatMap_nil, List.nil_append, List.cons_append, List.cons.injEq] at h
    exact absurd h.1.symm he
  | c :: s, [], r, q, h => by
    obtain ⟨e, l, hs, he⟩ := sign_head c
    rw [List.flatMap_cons, hs] at h
    simp only [List.flatMap_nil, List.nil_append, List.cons_append, List.cons.injEq] at h
    exact absurd h.1 he
  | c :: s, d :: t, r, q, h => by
    simp only [List.flatMap_cons, List.append_assoc] at h
    have e : c = d := by
      rcases List.append_eq_append_iff.1 h with ⟨l, h1, _⟩ | ⟨l, h1, _⟩
      · exact sign_prefix h1
      · exact (sign_prefix h1).symm
    subst e
    obtain ⟨e1, e2⟩ := flat_amb s t r q (List.append_cancel_left h)
    exact ⟨by rw [e1], e2⟩
theorem quote_amb {s t r q : List UInt8} (h : quoteL s ++ r = quoteL t ++ q) : s = t ∧ r = q := by
  unfold quoteL at h
  simp only [List.cons_append, List.append_assoc, List.nil_append, List.cons.injEq, true_and] at h
  exact flat_amb s t r q h

/-! ### Terms -/
theorem rightT_cases {h : Nat} {t : Tm} (hr : rightT (h + 1) t = true) :
    (t.op = 1 ∧ nameB t.s.data.toList = true ∧ t.n = 0 ∧ t.l = []) ∨ (t.op = 2 ∧ t.s.toList = [] ∧ t.l = []) ∨ (t.op = 3 ∧ t.n = 0 ∧ t.l = []) ∨ (t.op = 4 ∧ t.s.toList = [] ∧ t.n = 0 ∧ t.l = []) ∨
    ((t.op = 5 ∨ t.op = 6 ∨ t.op = 7) ∧ t.s.toList = [] ∧ t.n = 0 ∧ ∃ a b, t.l = [a, b] ∧ rightT h a = true ∧ rightT h b = true) := by
  unfold rightT at hr
  split at hr
  · rename_i h2
    right; right; right; right
    simp only [Bool.and_eq_true, beq_iff_eq, List.isEmpty_iff] at hr
    refine ⟨by simpa [twoB, or_assoc] using h2, hr.1.1, hr.1.2, ?_⟩
    have h3 := hr.2
    split at h3
    · rename_i a b hl
      simp only [Bool.and_eq_true] at h3
      exact ⟨a, b, hl, h3.1.2, h3.2.2⟩
    · cases h3
  · unfold leafB at hr
    split at hr
    · rename_i h1
      simp only [Bool.and_eq_true, beq_iff_eq, List.isEmpty_iff] at hr
      exact .inl ⟨h1, hr.1.1, hr.1.2, hr.2⟩
    · split at hr
      · rename_i h1
        simp only [Bool.and_eq_true, List.isEmpty_iff] at hr
        exact .inr (.inl ⟨h1, hr.1, hr.2⟩)
      · split at hr
        · rename_i h1
          simp only [Bool.and_eq_true, beq_iff_eq, List.isEmpty_iff] at hr
          exact .inr (.inr (.inl ⟨h1, hr.1, hr.2⟩))
        · split at hr
          · rename_i h1
            simp only [Bool.and_eq_true, beq_iff_eq, List.isEmpty_iff] at hr
            exact .inr (.inr (.inr (.inl ⟨h1, hr.1.1, hr.1.2, hr.2⟩)))
          · cases hr
theorem showT1 {h : Nat} {t : Tm} (ht : t.op = 1) : showT (h + 1) t = t.s.data.toList := by simp [showT, ht]
theorem showT2 {h : Nat} {t : Tm} (ht : t.op = 2) : showT (h + 1) t = Lib.itoa t.n := by simp [showT, ht]
theorem showT3 {h : Nat} {t : Tm} (ht : t.op = 3) : showT (h + 1) t = quoteL t.s.data.toList := by simp [showT, ht]
theorem showT4 {h : Nat} {t : Tm} (ht : t.op = 4) : showT (h + 1) t = [95] := by simp [showT, ht]
theorem showT5 {h : Nat} {t a b : Tm} (ht : t.op = 5 ∨ t.op = 6 ∨ t.op = 7) (hl : t.l = [a, b]) (r : List UInt8) : showT (h + 1) t ++ r = 40 :: (showT h a ++ 32 :: sgnT t.op :: 32 :: (showT h b ++ 41 :: r)) := by
  rcases ht with ht | ht | ht <;> simp [showT, ht, hl]
theorem sgn_inj {a b : Int} (ha : a = 5 ∨ a = 6 ∨ a = 7) (hb : b = 5 ∨ b = 6 ∨ b = 7) (h : sgnT a = sgnT b) : a = b := by
  rcases ha with rfl | rfl | rfl <;> rcases hb with rfl | rfl | rfl <;> first | rfl | (revert h; decide)
theorem sameT_mk {t u : Tm} (h1 : t.op = u.op) (h2 : t.s.toList = u.s.toList) (h3 : t.n = u.n) (h4 : allS sameT t.l u.l = true) : sameT t u = true := by
  rw [sameT_eq, h1, h2, h3, h4]
  simp
/-- A term's text: a word, or a symbol, or of two parts. -/
theorem term_kind {h : Nat} {t : Tm} (hr : rightT (h + 1) t = true) :
    ((t.op = 1 ∨ t.op = 2 ∨ t.op = 4) ∧ (showT (h + 1) t).all wordB = true ∧ showT (h + 1) t ≠ []) ∨ (t.op = 3 ∧ ∃ x, showT (h + 1) t = 34 :: x) ∨ ((t.op = 5 ∨ t.op = 6 ∨ t.op = 7) ∧ ∃ x, showT (h + 1) t = 40 :: x) := by
  rcases rightT_cases hr with ⟨h1, h2, _⟩ | ⟨h1, _⟩ | ⟨h1, _⟩ | ⟨h1, _⟩ | ⟨h1, _, _, a, b, hl, _⟩
  · obtain ⟨c, x, e, _⟩ := name_head h2
    exact .inl ⟨.inl h1, by rw [showT1 h1]; exact name_all h2, by rw [showT1 h1, e]; simp⟩
  · obtain ⟨c, x, e, _⟩ := itoa_head t.n
    exact .inl ⟨.inr (.inl h1), by rw [showT2 h1]; exact itoa_all _, by rw [showT2 h1, e]; simp⟩
  · exact .inr (.inl ⟨h1, _, showT3 h1⟩)
  · exact .inl ⟨.inr (.inr h1), by rw [showT4 h1]; decide, by rw [showT4 h1]; simp⟩
  · have := showT5 (h := h) h1 hl []
    rw [List.append_nil] at this
    exact .inr (.inr ⟨h1, _, this⟩)
theorem head_no {u : List UInt8} {c : UInt8} {r x s : List UInt8} (hu : u.all wordB = true) (hne : u ≠ []) (hc : wordB c = false) (h : u ++ r = (c :: x) ++ s) : False := by
  cases u with
  | nil => exact hne rfl
  | cons d u =>
    simp only [List.cons_append, List.cons.injEq] at h
    simp only [List.all_cons, Bool.and_eq_true] at hu
    rw [h.1, hc] at hu
    cases hu.1
theorem head_no' {u : List UInt8} {c : UInt8} {r x : List UInt8} (hu : u.all wordB = true) (hne : u ≠ []) (hc : wordB c = false) (h : u ++ r = c :: x) : False :=
  head_no (s := []) (x := x) (r := r) hu hne hc (h.trans (List.append_nil _).symm)
theorem nil_eq {l m : List Tm} (h1 : l = []) (h2 : m = []) : allS sameT l m = true := by rw [h1, h2]; rfl
theorem same_words {h : Nat} {t u : Tm} (ht : rightT (h + 1) t = true) (hu : rightT (h + 1) u = true) (k : t.op = 1 ∨ t.op = 2 ∨ t.op = 4) (k' : u.op = 1 ∨ u.op = 2 ∨ u.op = 4) (e : showT (h + 1) t = showT (h + 1) u) : sameT t u = true := by
  rcases rightT_cases ht with ⟨h1, h2, h3, h4⟩ | ⟨h1, h2, h3⟩ | ⟨h1, _⟩ | ⟨h1, h2, h3, h4⟩ | ⟨h1, _⟩
  · rw [showT1 h1] at e
    rcases rightT_cases hu with ⟨g1, g2, g3, g4⟩ | ⟨g1, g2, g3⟩ | ⟨g1, _⟩ | ⟨g1, g2, g3, g4⟩ | ⟨g1, _⟩
    · rw [showT1 g1] at e
      exact sameT_mk (h1.trans g1.symm) (by rw [Lib.toList_data, Lib.toList_data, e]) (h3.trans g3.symm) (nil_eq h4 g4)
    · rw [showT2 g1] at e
      obtain ⟨c, x, e1, hc⟩ := name_head h2
      obtain ⟨d, y, e2, hd, _⟩ := itoa_head u.n
      rw [e1, e2] at e
      rw [(List.cons.inj e).1, hd] at hc
      cases hc
    · omega
    · rw [showT4 g1] at e
      exact absurd e (name_ne h2)
    · omega
  · rw [showT2 h1] at e
    rcases rightT_cases hu with ⟨g1, g2, g3, g4⟩ | ⟨g1, g2, g3⟩ | ⟨g1, _⟩ | ⟨g1, g2, g3, g4⟩ | ⟨g1, _⟩
    · rw [showT1 g1] at e
      obtain ⟨c, x, e1, hc⟩ := name_head g2
      obtain ⟨d, y, e2, hd, _⟩ := itoa_head t.n
      rw [e1, e2] at e
      rw [← (List.cons.inj e).1, hd] at hc
      cases hc
    · rw [showT2 g1] at e
      exact sameT_mk (h1.trans g1.symm) (h2.trans g2.symm) (itoa_inj e) (nil_eq h3 g3)
    · omega
    · rw [showT4 g1] at e
      obtain ⟨d, y, e2, hd, _⟩ := itoa_head t.n
      rw [e2] at e
      rw [(List.cons.inj e).1] at hd
      exact absurd hd (by decide)
    · omega
  · omega
  · rw [showT4 h1] at e
    rcases rightT_cases hu with ⟨g1, g2, g3, g4⟩ | ⟨g1, g2, g3⟩ | ⟨g1, _⟩ | ⟨g1, g2, g3, g4⟩ | ⟨g1, _⟩
    · rw [showT1 g1] at e
      exact absurd e.symm (name_ne g2)
    · rw [showT2 g1] at e
      obtain ⟨d, y, e2, hd, _⟩ := itoa_head u.n
      rw [e2] at e
      rw [← (List.cons.inj e).1] at hd
      exact absurd hd (by decide)
    · omega
    · exact sameT_mk (h1.trans g1.symm) (h2.trans g2.symm) (h3.trans g3.symm) (nil_eq h4 g4)
    · omega
  · omega
theorem term_amb : ∀ (h : Nat) (t u : Tm) (r s : List UInt8), rightT h t = true → rightT h u = true → Stop wordB r → Stop wordB s → showT h t ++ r = showT h u ++ s → sameT t u = true ∧ r = s
  | 0, t, u, r, s, ht, _, _, _, _ => by unfold rightT at ht; cases ht
  | h + 1, t, u, r, s, ht, hu, hr, hs, e => by
    rcases term_kind ht with ⟨k, a1, a2⟩ | ⟨k, x, a1⟩ | ⟨k, x, a1⟩
    · rcases term_kind hu with ⟨k', b1, b2⟩ | ⟨k', y, b1⟩ | ⟨k', y, b1⟩
      · obtain ⟨e1, e2⟩ := span a1 b1 hr hs e
        exact ⟨same_words ht hu k k' e1, e2⟩
      · rw [b1] at e; exact (head_no a1 a2 w34 e).elim
      · rw [b1] at e; exact (head_no a1 a2 w40 e).elim
    · rcases term_kind hu with ⟨k', b1, b2⟩ | ⟨k', y, b1⟩ | ⟨k', y, b1⟩
      · rw [a1] at e; exact (head_no b1 b2 w34 e.symm).elim
      · rw [showT3 k, showT3 k'] at e
        obtain ⟨e1, e2⟩ := quote_amb e
        rcases rightT_cases ht with ⟨h1, _⟩ | ⟨h1, _⟩ | ⟨h1, h2, h3⟩ | ⟨h1, _⟩ | ⟨h1, _⟩ <;> first | omega | skip
        rcases rightT_cases hu with ⟨g1, _⟩ | ⟨g1, _⟩ | ⟨g1, g2, g3⟩ | ⟨g1, _⟩ | ⟨g1, _⟩ <;> first | omega | skip
        exact ⟨sameT_mk (h1.trans g1.symm) (by rw [Lib.toList_data, Lib.toList_data, e1]) (h2.trans g2.symm) (nil_eq h3 g3), e2⟩
      · rw [a1, b1] at e
        simp at e
    · rcases term_kind hu with ⟨k', b1, b2⟩ | ⟨k', y, b1⟩ | ⟨k', y, b1⟩
      · rw [a1] at e; exact (head_no b1 b2 w40 e.symm).elim
      · rw [a1, b1] at e
        simp at e
      · rcases rightT_cases ht with ⟨h1, _⟩ | ⟨h1, _⟩ | ⟨h1, _⟩ | ⟨h1, _⟩ | ⟨_, h2, h3, a, b, h4, ha, hb⟩ <;> first | omega | skip
        rcases rightT_cases hu with ⟨g1, _⟩ | ⟨g1, _⟩ | ⟨g1, _⟩ | ⟨g1, _⟩ | ⟨_, g2, g3, c, d, g4, hc, hd⟩ <;> first | omega | skip
        rw [showT5 k h4, showT5 k' g4] at e
        have e0 := (List.cons.inj e).2
        obtain ⟨s1, e1⟩ := term_amb h a c _ _ ha hc (stop_cons w32) (stop_cons w32) e0
        simp only [List.cons.injEq, true_and] at e1
        obtain ⟨s2, e2⟩ := term_amb h b d _ _ hb hd (stop_cons w41) (stop_cons w41) e1.2
        refine ⟨sameT_mk (sgn_inj k k' e1.1) (h2.trans g2.symm) (h3.trans g3.symm) ?_, (List.cons.inj e2).2⟩
        rw [h4, g4]
        simp [allS, s1, s2]

/-! ### Lists -/
theorem join_cons (f : List UInt8) (g : List UInt8) (r : List (List UInt8)) (z : List UInt8) : joinL [44, 32] (f :: g :: r) ++ z = f ++ 44 :: 32 :: (joinL [44, 32] (g :: r) ++ z) := by
  simp [joinL]
theorem join_one (f : List UInt8) : joinL [44, 32] [f] = f := rfl
theorem join_amb {α : Type} {P : α → Prop} {Q : List UInt8 → Prop} {f : α → List UInt8} {e : α → α → Bool} {z : UInt8} (hz : z ≠ 44) (hQ : ∀ r, Q (44 :: r)) (hQz : ∀ r, Q (z :: r))
    (hf : ∀ x y r s, P x → P y → Q r → Q s → f x ++ r = f y ++ s → e x y = true ∧ r = s) :
    ∀ (l m : List α) (r s : List UInt8), (∀ x ∈ l, P x) → (∀ x ∈ m, P x) → l ≠ [] → m ≠ [] → joinL [44, 32] (l.map f) ++ z :: r = joinL [44, 32] (m.map f) ++ z :: s → allS e l m = true ∧ r = s
  | [], _, _, _, _, _, h, _, _ => absurd rfl h
  | _ :: _, [], _, _, _, _, _, h, _ => absurd rfl h
  | [x], [y], r, s, hl, hm, _, _, h => by
    obtain ⟨e1, e2⟩ := hf x y _ _ (hl x (by simp)) (hm y (by simp)) (hQz r) (hQz s) h
    exact ⟨by simp [allS, e1], (List.cons.inj e2).2⟩
  | [x], y :: y2 :: m, r, s, hl, hm, _, _, h => by
    simp only [List.map_cons, List.map_nil, join_cons, join_one] at h
    obtain ⟨_, e2⟩ := hf x y _ _ (hl x (by simp)) (hm y (by simp)) (hQz r) (hQ _) h
    exact absurd (List.cons.inj e2).1 hz
  | x :: x2 :: l, [y], r, s, hl, hm, _, _, h => by
    simp only [List.map_cons, List.map_nil, join_cons, join_one] at h
    obtain ⟨_, e2⟩ := hf x y _ _ (hl x (by simp)) (hm y (by simp)) (hQ _) (hQz s) h
    exact absurd (List.cons.inj e2).1.symm hz
  | x :: x2 :: l, y :: y2 :: m, r, s, hl, hm, _, _, h => by
    simp only [List.map_cons, join_cons] at h
    obtain ⟨e1, e2⟩ := hf x y _ _ (hl x (by simp)) (hm y (by simp)) (hQ _) (hQ _) h
    simp only [List.cons.injEq, true_and] at e2
    obtain ⟨e3, e4⟩ := join_amb hz hQ hQz hf (x2 :: l) (y2 :: m) r s (fun a ha => hl a (List.mem_cons_of_mem _ ha)) (fun a ha => hm a (List.mem_cons_of_mem _ ha)) (by simp) (by simp) (by simpa only [List.map_cons] using e2)
    refine ⟨?_, e4⟩
    unfold allS
    rw [e1, e3]
    rfl

/-! ### Atoms, parts, rules -/
theorem rightA_parts {a : Am} (h : rightA a = true) : nameB a.rel.data.toList = true ∧ a.l ≠ [] ∧ a.l.length ≤ 8 ∧ ∀ t ∈ a.l, rightT 20 t = true := by
  unfold rightA at h
  simp only [Bool.and_eq_true, decide_eq_true_eq, List.all_eq_true] at h
  exact ⟨h.1.1.1, by intro e; rw [e] at h; simp at h, h.1.2, h.2⟩
theorem showA_app (a : Am) (r : List UInt8) : showA a ++ r = a.rel.data.toList ++ 40 :: (joinL [44, 32] (a.l.map (showT 20)) ++ 41 :: r) := by simp [showA]
theorem atom_amb {a b : Am} {r s : List UInt8} (ha : rightA a = true) (hb : rightA b = true) (h : showA a ++ r = showA b ++ s) : sameA a b = true ∧ r = s := by
  obtain ⟨a1, a2, _, a3⟩ := rightA_parts ha
  obtain ⟨b1, b2, _, b3⟩ := rightA_parts hb
  rw [showA_app, showA_app] at h
  obtain ⟨e1, e2⟩ := span (name_all a1) (name_all b1) (stop_cons w40) (stop_cons w40) h
  obtain ⟨e3, e4⟩ := join_amb (P := fun t => rightT 20 t = true) (Q := Stop wordB) (z := 41) (by decide) (fun _ => stop_cons w44) (fun _ => stop_cons w41) (fun x y r s hx hy hr hs e => term_amb 20 x y r s hx hy hr hs e) a.l b.l r s a3 b3 a2 b2 (List.cons.inj e2).2
  refine ⟨?_, e4⟩
  unfold sameA
  rw [sameTs_all, e3, Lib.toList_data, Lib.toList_data, e1]
  simp
theorem noT_parts {t : Tm} (h : noT t = true) : t.op = 0 ∧ t.s.toList = [] ∧ t.n = 0 ∧ t.l = [] := by
  unfold noT at h
  simp only [Bool.and_eq_true, beq_iff_eq, List.isEmpty_iff] at h
  exact ⟨h.1.1.1, h.1.1.2, h.1.2, h.2⟩
theorem noT_same {t u : Tm} (h : noT t = true) (g : noT u = true) : sameT t u = true := by
  obtain ⟨h1, h2, h3, h4⟩ := noT_parts h
  obtain ⟨g1, g2, g3, g4⟩ := noT_parts g
  exact sameT_mk (h1.trans g1.symm) (h2.trans g2.symm) (h3.trans g3.symm) (nil_eq h4 g4)
theorem noA_same {a b : Am} (h : noA a = true) (g : noA b = true) : sameA a b = true := by
  unfold noA at h g
  simp only [Bool.and_eq_true, List.isEmpty_iff] at h g
  unfold sameA
  rw [sameTs_all, h.1, g.1, h.2, g.2]
  rfl
theorem sameL_mk {l m : Lt} (h1 : l.op = m.op) (h2 : sameA l.a m.a = true) (h3 : sameT l.x m.x = true) (h4 : sameT l.y m.y = true) : sameL l m = true := by
  unfold sameL
  rw [h1, h2, h3, h4]
  simp
theorem rightL_cases {l : Lt} (h : rightL l = true) :
    (l.op = 1 ∧ rightA l.a = true ∧ noT l.x = true ∧ noT l.y = true) ∨ (l.op = 2 ∧ rightA l.a = true ∧ noT l.x = true ∧ noT l.y = true) ∨
    ((3 ≤ l.op ∧ l.op ≤ 6) ∧ noA l.a = true ∧ rightT 20 l.x = true ∧ rightT 20 l.y = true ∧ l.x.op ≠ 4 ∧ l.y.op ≠ 4) ∨
    (l.op = 7 ∧ rightA l.a = true ∧ rightT 20 l.x = true ∧ l.x.op ≠ 4 ∧ noT l.y = true) ∨
    ((8 ≤ l.op ∧ l.op ≤ 10) ∧ rightA l.a = true ∧ rightT 20 l.x = true ∧ l.x.op ≠ 4 ∧ rightT 20 l.y = true ∧ l.y.op = 1) := by
  unfold rightL at h
  split at h
  · rename_i h1
    simp only [Bool.and_eq_true] at h
    rcases h1 with h1 | h1
    · exact .inl ⟨h1, h.1.1, h.1.2, h.2⟩
    · exact .inr (.inl ⟨h1, h.1.1, h.1.2, h.2⟩)
  · split at h
    · rename_i h1
      simp only [Bool.and_eq_true, bne_iff_ne] at h
      exact .inr (.inr (.inl ⟨h1, h.1.1.1.1, h.1.1.1.2, h.1.1.2, h.1.2, h.2⟩))
    · split at h
      · rename_i h1
        simp only [Bool.and_eq_true, Bool.or_eq_true, beq_iff_eq] at h
        exact .inr (.inr (.inr (.inl ⟨h1, h.1.1.1, h.1.1.2, by omega, h.2⟩)))
      · split at h
        · rename_i h1
          simp only [Bool.and_eq_true, Bool.or_eq_true, beq_iff_eq] at h
          exact .inr (.inr (.inr (.inr ⟨h1, h.1.1.1.1, h.1.1.1.2, by omega, h.1.2, h.2⟩)))
        · cases h
theorem showL1 {l : Lt} (h : l.op = 1) (r : List UInt8) : showL l ++ r = showA l.a ++ r := by simp [showL, h]
theorem showL2 {l : Lt} (h : l.op = 2) (r : List UInt8) : showL l ++ r = 33 :: (showA l.a ++ r) := by simp [showL, h]
theorem showL3 {l : Lt} (h : 3 ≤ l.op ∧ l.op ≤ 6) (r : List UInt8) : showL l ++ r = showT 20 l.x ++ 32 :: (wordL l.op ++ 32 :: (showT 20 l.y ++ r)) := by
  unfold showL
  rw [if_neg (by omega), if_neg (by omega), if_pos (by omega)]
  simp
theorem showL7 {l : Lt} (h : l.op = 7) (r : List UInt8) : showL l ++ r = showT 20 l.x ++ 32 :: ([61] ++ 32 :: (wordL l.op ++ 32 :: 58 :: 32 :: 123 :: 32 :: (showA l.a ++ 32 :: 125 :: r))) := by
  unfold showL
  rw [if_neg (by omega), if_neg (by omega), if_neg (by omega), if_pos h]
  simp
theorem showL8 {l : Lt} (h : 8 ≤ l.op ∧ l.op ≤ 10) (r : List UInt8) : showL l ++ r = showT 20 l.x ++ 32 :: ([61] ++ 32 :: (wordL l.op ++ 32 :: (showT 20 l.y ++ 32 :: 58 :: 32 :: 123 :: 32 :: (showA l.a ++ 32 :: 125 :: r)))) := by
  unfold showL
  rw [if_neg (by omega), if_neg (by omega), if_neg (by omega), if_neg (by omega)]
  simp
def no32 (c : UInt8) : Bool := c != 32
theorem n32 : no32 32 = false := by decide
theorem op_cases {n : Int} (h : 3 ≤ n ∧ n ≤ 10) : n = 3 ∨ n = 4 ∨ n = 5 ∨ n = 6 ∨ n = 7 ∨ n = 8 ∨ n = 9 ∨ n = 10 := by omega
theorem word_32 {n : Int} (h : 3 ≤ n ∧ n ≤ 10) : (wordL n).all no32 = true := by
  rcases op_cases h with rfl | rfl | rfl | rfl | rfl | rfl | rfl | rfl <;> decide
theorem word_word {n : Int} (h : 7 ≤ n ∧ n ≤ 10) : (wordL n).all wordB = true ∧ wordL n ≠ [] := by
  rcases op_cases (n := n) (by omega) with rfl | rfl | rfl | rfl | rfl | rfl | rfl | rfl <;> first | omega | decide
theorem word_inj {n m : Int} (h : 3 ≤ n ∧ n ≤ 10) (g : 3 ≤ m ∧ m ≤ 10) (e : wordL n = wordL m) : n = m := by
  rcases op_cases h with rfl | rfl | rfl | rfl | rfl | rfl | rfl | rfl <;> rcases op_cases g with rfl | rfl | rfl | rfl | rfl | rfl | rfl | rfl <;> first | rfl | (revert e; decide)
/-- What stands behind a part of a body. -/
def EndL (r : List UInt8) : Prop := ∃ c t, r = c :: t ∧ (c = 44 ∨ c = 46)
theorem EndL.stop {r : List UInt8} (h : EndL r) : Stop wordB r := by
  obtain ⟨c, t, rfl, h | h⟩ := h <;> subst h
  · exact stop_cons w44
  · exact stop_cons w46
/-- A name with a bracket behind is no term with a blank behind. -/
theorem name_term {u r s : List UInt8} {t : Tm} (hu : nameB u = true) (ht : rightT 20 t = true) (h : u ++ 40 :: r = showT 20 t ++ 32 :: s) : False := by
  obtain ⟨c, x, e, _⟩ := name_head hu
  rcases term_kind ht with ⟨_, b1, b2⟩ | ⟨_, y, b1⟩ | ⟨_, y, b1⟩
  · obtain ⟨_, e2⟩ := span (name_all hu) b1 (stop_cons w40) (stop_cons w32) h
    simp at e2
  · rw [b1] at h; exact head_no (name_all hu) (by rw [e]; simp) w34 h
  · rw [b1] at h; exact head_no (name_all hu) (by rw [e]; simp) w40 h
theorem term_33 {s r : List UInt8} {t : Tm} (ht : rightT 20 t = true) (h : 33 :: r = showT 20 t ++ s) : False := by
  rcases term_kind ht with ⟨_, b1, b2⟩ | ⟨_, y, b1⟩ | ⟨_, y, b1⟩
  · exact head_no' b1 b2 w33 h.symm
  · rw [b1] at h; simp at h
  · rw [b1] at h; simp at h
theorem atom_33 {s r : List UInt8} {a : Am} (ha : rightA a = true) (h : 33 :: r = showA a ++ s) : False := by
  obtain ⟨a1, _⟩ := rightA_parts ha
  obtain ⟨c, x, e, _⟩ := name_head a1
  rw [showA_app] at h
  exact head_no' (name_all a1) (by rw [e]; simp) w33 h.symm
/-- A comparison is no aggregate. -/
theorem comp_agg {x y x' : Tm} {n m : Int} {r s : List UInt8} (hn : 3 ≤ n ∧ n ≤ 6) (hm : 7 ≤ m ∧ m ≤ 10) (hx : rightT 20 x = true) (hx' : rightT 20 x' = true) (hy : rightT 20 y = true) (hr : EndL r)
    (h : showT 20 x ++ 32 :: (wordL n ++ 32 :: (showT 20 y ++ r)) = showT 20 x' ++ 32 :: ([61] ++ 32 :: (wordL m ++ 32 :: s))) : False := by
  obtain ⟨_, e1⟩ := term_amb 20 x x' _ _ hx hx' (stop_cons w32) (stop_cons w32) h
  obtain ⟨_, e2⟩ := span (p := no32) (word_32 (n := n) (by omega)) (by decide) (stop_cons n32) (stop_cons n32) (List.cons.inj e1).2
  have e3 := (List.cons.inj e2).2
  obtain ⟨m1, m2⟩ := word_word hm
  rcases term_kind hy with ⟨_, b1, b2⟩ | ⟨_, z, b1⟩ | ⟨_, z, b1⟩
  · obtain ⟨_, e4⟩ := span b1 m1 hr.stop (stop_cons w32) e3
    obtain ⟨c, t, rfl, hc⟩ := hr
    rw [(List.cons.inj e4).1] at hc
    revert hc; decide
  · rw [b1] at e3; exact head_no m1 m2 w34 e3.symm
  · rw [b1] at e3; exact head_no m1 m2 w40 e3.symm
/-- Two aggregates have one word, and then the same things. -/
theorem agg_agg {x x' : Tm} {n m : Int} {r s : List UInt8} (hn : 7 ≤ n ∧ n ≤ 10) (hm : 7 ≤ m ∧ m ≤ 10) (hx : rightT 20 x = true) (hx' : rightT 20 x' = true)
    (h : showT 20 x ++ 32 :: ([61] ++ 32 :: (wordL n ++ 32 :: r)) = showT 20 x' ++ 32 :: ([61] ++ 32 :: (wordL m ++ 32 :: s))) : sameT x x' = true ∧ n = m ∧ r = s := by
  obtain ⟨s1, e1⟩ := term_amb 20 x x' _ _ hx hx' (stop_cons w32) (stop_cons w32) h
  have e2 : wordL n ++ 32 :: r = wordL m ++ 32 :: s := by simpa using e1
  obtain ⟨e3, e4⟩ := span (p := no32) (word_32 (n := n) (by omega)) (word_32 (n := m) (by omega)) (stop_cons n32) (stop_cons n32) e2
  exact ⟨s1, word_inj (by omega) (by omega) e3, (List.cons.inj e4).2⟩
theorem lit_amb {l m : Lt} {r s : List UInt8} (hl : rightL l = true) (hm : rightL m = true) (hr : EndL r) (hs : EndL s) (h : showL l ++ r = showL m ++ s) : sameL l m = true ∧ r = s := by
  rcases rightL_cases hl with ⟨h1, h2, h3, h4⟩ | ⟨h1, h2, h3, h4⟩ | ⟨h1, h2, h3, h4, h5, h6⟩ | ⟨h1, h2, h3, h4, h5⟩ | ⟨h1, h2, h3, h4, h5, h6⟩
  · rw [showL1 h1] at h
    rcases rightL_cases hm with ⟨g1, g2, g3, g4⟩ | ⟨g1, g2, g3, g4⟩ | ⟨g1, g2, g3, g4, g5, g6⟩ | ⟨g1, g2, g3, g4, g5⟩ | ⟨g1, g2, g3, g4, g5, g6⟩
    · rw [showL1 g1] at h
      obtain ⟨e1, e2⟩ := atom_amb h2 g2 h
      exact ⟨sameL_mk (h1.trans g1.symm) e1 (noT_same h3 g3) (noT_same h4 g4), e2⟩
    · rw [showL2 g1] at h; exact (atom_33 h2 h.symm).elim
    · rw [showL3 g1, showA_app l.a] at h; exact (name_term (rightA_parts h2).1 g3 h).elim
    · rw [showL7 g1, showA_app l.a] at h; exact (name_term (rightA_parts h2).1 g3 h).elim
    · rw [showL8 g1, showA_app l.a] at h; exact (name_term (rightA_parts h2).1 g3 h).elim
  · rw [showL2 h1] at h
    rcases rightL_cases hm with ⟨g1, g2, g3, g4⟩ | ⟨g1, g2, g3, g4⟩ | ⟨g1, g2, g3, g4, g5, g6⟩ | ⟨g1, g2, g3, g4, g5⟩ | ⟨g1, g2, g3, g4, g5, g6⟩
    · rw [showL1 g1] at h; exact (atom_33 g2 h).elim
    · rw [showL2 g1] at h
      obtain ⟨e1, e2⟩ := atom_amb h2 g2 (List.cons.inj h).2
      exact ⟨sameL_mk (h1.trans g1.symm) e1 (noT_same h3 g3) (noT_same h4 g4), e2⟩
    · rw [showL3 g1] at h; exact (term_33 g3 h).elim
    · rw [showL7 g1] at h; exact (term_33 g3 h).elim
    · rw [showL8 g1] at h; exact (term_33 g3 h).elim
  · rw [showL3 h1] at h
    rcases rightL_cases hm with ⟨g1, g2, g3, g4⟩ | ⟨g1, g2, g3, g4⟩ | ⟨g1, g2, g3, g4, g5, g6⟩ | ⟨g1, g2, g3, g4, g5⟩ | ⟨g1, g2, g3, g4, g5, g6⟩
    · rw [showL1 g1, showA_app m.a] at h; exact (name_term (rightA_parts g2).1 h3 h.symm).elim
    · rw [showL2 g1] at h; exact (term_33 h3 h.symm).elim
    · rw [showL3 g1] at h
      obtain ⟨s1, e1⟩ := term_amb 20 l.x m.x _ _ h3 g3 (stop_cons w32) (stop_cons w32) h
      obtain ⟨e2, e3⟩ := span (p := no32) (word_32 (n := l.op) (by omega)) (word_32 (n := m.op) (by omega)) (stop_cons n32) (stop_cons n32) (List.cons.inj e1).2
      obtain ⟨s2, e4⟩ := term_amb 20 l.y m.y _ _ h4 g4 hr.stop hs.stop (List.cons.inj e3).2
      exact ⟨sameL_mk (word_inj (by omega) (by omega) e2) (noA_same h2 g2) s1 s2, e4⟩
    · rw [showL7 g1] at h; exact (comp_agg h1 (by omega) h3 g3 h4 hr h).elim
    · rw [showL8 g1] at h; exact (comp_agg h1 (by omega) h3 g3 h4 hr h).elim
  · rw [showL7 h1] at h
    rcases rightL_cases hm with ⟨g1, g2, g3, g4⟩ | ⟨g1, g2, g3, g4⟩ | ⟨g1, g2, g3, g4, g5, g6⟩ | ⟨g1, g2, g3, g4, g5⟩ | ⟨g1, g2, g3, g4, g5, g6⟩
    · rw [showL1 g1, showA_app m.a] at h; exact (name_term (rightA_parts g2).1 h3 h.symm).elim
    · rw [showL2 g1] at h; exact (term_33 h3 h.symm).elim
    · rw [showL3 g1] at h; exact (comp_agg g1 (by omega) g3 h3 g4 hs h.symm).elim
    · rw [showL7 g1] at h
      obtain ⟨s1, e1, e2⟩ := agg_agg (by omega) (by omega) h3 g3 h
      simp only [List.cons.injEq, true_and] at e2
      obtain ⟨s2, e3⟩ := atom_amb h2 g2 e2
      simp only [List.cons.injEq, true_and] at e3
      exact ⟨sameL_mk e1 s2 s1 (noT_same h5 g5), e3⟩
    · rw [showL8 g1] at h
      obtain ⟨_, e1, _⟩ := agg_agg (by omega) (by omega) h3 g3 h
      omega
  · rw [showL8 h1] at h
    rcases rightL_cases hm with ⟨g1, g2, g3, g4⟩ | ⟨g1, g2, g3, g4⟩ | ⟨g1, g2, g3, g4, g5, g6⟩ | ⟨g1, g2, g3, g4, g5⟩ | ⟨g1, g2, g3, g4, g5, g6⟩
    · rw [showL1 g1, showA_app m.a] at h; exact (name_term (rightA_parts g2).1 h3 h.symm).elim
    · rw [showL2 g1] at h; exact (term_33 h3 h.symm).elim
    · rw [showL3 g1] at h; exact (comp_agg g1 (by omega) g3 h3 g4 hs h.symm).elim
    · rw [showL7 g1] at h
      obtain ⟨_, e1, _⟩ := agg_agg (by omega) (by omega) h3 g3 h
      omega
    · rw [showL8 g1] at h
      obtain ⟨s1, e1, e2⟩ := agg_agg (by omega) (by omega) h3 g3 h
      obtain ⟨s3, e3⟩ := term_amb 20 l.y m.y _ _ h5 g5 (stop_cons w32) (stop_cons w32) e2
      simp only [List.cons.injEq, true_and] at e3
      obtain ⟨s2, e4⟩ := atom_amb h2 g2 e3
      simp only [List.cons.injEq, true_and] at e4
      exact ⟨sameL_mk e1 s2 s1 s3, e4⟩
theorem rightR_parts {r : Ru} (h : rightR r = true) : rightA r.head = true ∧ ∀ l ∈ r.body, rightL l = true := by
  unfold rightR at h
  simp only [Bool.and_eq_true, List.all_eq_true] at h
  exact ⟨h.1.1.1, h.2⟩
theorem showR0 {r : Ru} (h : r.body = []) (x : List UInt8) : showR r ++ x = showA r.head ++ 46 :: x := by simp [showR, h]
theorem showRn {r : Ru} (h : r.body ≠ []) (x : List UInt8) : showR r ++ x = showA r.head ++ 32 :: 58 :: 45 :: 32 :: (joinL [44, 32] (r.body.map showL) ++ 46 :: x) := by simp [showR, h]
theorem rule_amb {r q : Ru} {x y : List UInt8} (hr : rightR r = true) (hq : rightR q = true) (h : showR r ++ x = showR q ++ y) : sameR r q = true ∧ x = y := by
  obtain ⟨r1, r2⟩ := rightR_parts hr
  obtain ⟨q1, q2⟩ := rightR_parts hq
  unfold sameR
  by_cases b1 : r.body = []
  · rw [showR0 b1] at h
    by_cases b2 : q.body = []
    · rw [showR0 b2] at h
      obtain ⟨e1, e2⟩ := atom_amb r1 q1 h
      refine ⟨?_, (List.cons.inj e2).2⟩
      rw [e1, b1, b2]; rfl
    · rw [showRn b2] at h
      obtain ⟨_, e2⟩ := atom_amb r1 q1 h
      simp at e2
  · rw [showRn b1] at h
    by_cases b2 : q.body = []
    · rw [showR0 b2] at h
      obtain ⟨_, e2⟩ := atom_amb r1 q1 h
      simp at e2
    · rw [showRn b2] at h
      obtain ⟨e1, e2⟩ := atom_amb r1 q1 h
      simp only [List.cons.injEq, true_and] at e2
      obtain ⟨e3, e4⟩ := join_amb (P := fun l => rightL l = true) (Q := EndL) (z := 46) (by decide) (fun r => ⟨44, r, rfl, .inl rfl⟩) (fun r => ⟨46, r, rfl, .inr rfl⟩) (fun x y r s hx hy hr hs e => lit_amb hx hy hr hs e) r.body q.body x y r2 q2 b1 b2 e2
      refine ⟨?_, e4⟩
      rw [e1, e3]; rfl
/-- A rule's text begins as a name does. -/
theorem rule_head {r : Ru} (h : rightR r = true) : ∃ c t, showR r = c :: t ∧ letB (c.toNat : Int) = true := by
  obtain ⟨r1, _⟩ := rightR_parts h
  obtain ⟨c, t, e, hc⟩ := name_head (rightA_parts r1).1
  have e1 : ∃ y, showR r = showA r.head ++ y := by
    unfold showR
    exact ⟨_, List.append_assoc _ _ _⟩
  obtain ⟨y, e1⟩ := e1
  exact ⟨c, _, by rw [e1, showA_app, e]; rfl, hc⟩
def rulesT (l : List Ru) : List UInt8 := l.flatMap fun r => showR r ++ [10]
theorem rules_cons (r : Ru) (l : List Ru) : rulesT (r :: l) = showR r ++ 10 :: rulesT l := by simp [rulesT]
theorem rules_amb : ∀ (l m : List Ru), (∀ r ∈ l, rightR r = true) → (∀ r ∈ m, rightR r = true) → rulesT l = rulesT m → allS sameR l m = true
  | [], [], _, _, _ => rfl
  | [], q :: m, _, hm, h => by
    obtain ⟨c, t, e, _⟩ := rule_head (hm q (by simp))
    rw [rules_cons, e] at h
    simp [rulesT] at h
  | r :: l, [], hl, _, h => by
    obtain ⟨c, t, e, _⟩ := rule_head (hl r (by simp))
    rw [rules_cons, e] at h
    simp [rulesT] at h
  | r :: l, q :: m, hl, hm, h => by
    rw [rules_cons, rules_cons] at h
    obtain ⟨e1, e2⟩ := rule_amb (hl r (by simp)) (hm q (by simp)) h
    have := rules_amb l m (fun x hx => hl x (by simp [hx])) (fun x hx => hm x (by simp [hx])) (List.cons.inj e2).2
    unfold allS
    rw [e1, this]; rfl
/-- Rules' texts begin as names do. -/
def Head (r : List UInt8) : Prop := ∀ c t, r = c :: t → letB (c.toNat : Int) = true
theorem rules_head (l : List Ru) (h : ∀ r ∈ l, rightR r = true) : Head (rulesT l) := by
  intro c t e
  cases l with
  | nil => simp [rulesT] at e
  | cons r l =>
    obtain ⟨d, x, e1, hd⟩ := rule_head (h r (by simp))
    rw [rules_cons, e1] at e
    rw [← (List.cons.inj e).1]
    exact hd

/-! ### Relations, programs -/
theorem rightD_parts {d : De} (h : rightD d = true) : nameB d.rel.data.toList = true ∧ d.names ≠ [] ∧ d.names.length ≤ 8 ∧ d.types.length = d.names.length ∧ (∀ s ∈ d.names, nameB s.data.toList = true) ∧ ∀ n ∈ d.types, n = 1 ∨ n = 2 := by
  unfold rightD at h
  simp only [Bool.and_eq_true, decide_eq_true_eq, List.all_eq_true, rightTy, Bool.or_eq_true, beq_iff_eq] at h
  exact ⟨h.1.1.1.1.1, by intro e; rw [e] at h; simp at h, h.1.1.1.2, h.1.1.2, h.1.2, h.2⟩
def inT (d : De) : List UInt8 := if d.inn = true then [46, 105, 110, 112, 117, 116, 32] ++ d.rel.data.toList ++ [10] else []
def outT (d : De) : List UInt8 := if d.out = true then [46, 111, 117, 116, 112, 117, 116, 32] ++ d.rel.data.toList ++ [10] else []
theorem showD_app (d : De) (r : List UInt8) : showD d ++ r = [46, 100, 101, 99, 108, 32] ++ (d.rel.data.toList ++ 40 :: (joinL [44, 32] ((d.names.zip d.types).map colL) ++ 41 :: (10 :: (inT d ++ (outT d ++ r))))) := by
  unfold showD inT outT
  simp
theorem type_inj {n m : Int} (h : n = 1 ∨ n = 2) (g : m = 1 ∨ m = 2) (e : typeL n = typeL m) : n = m := by
  rcases h with rfl | rfl <;> rcases g with rfl | rfl <;> first | rfl | (revert e; decide)
theorem type_word {n : Int} (h : n = 1 ∨ n = 2) : (typeL n).all wordB = true := by
  rcases h with rfl | rfl <;> decide
def sameC (x y : ByteArray × Int) : Bool := strE x.1 y.1 && intE x.2 y.2
def okC (x : ByteArray × Int) : Prop := nameB x.1.data.toList = true ∧ (x.2 = 1 ∨ x.2 = 2)
theorem col_amb (x y : ByteArray × Int) (r s : List UInt8) (hx : okC x) (hy : okC y) (hr : Stop wordB r) (hs : Stop wordB s) (h : colL x ++ r = colL y ++ s) : sameC x y = true ∧ r = s := by
  have h' : x.1.data.toList ++ 58 :: 32 :: (typeL x.2 ++ r) = y.1.data.toList ++ 58 :: 32 :: (typeL y.2 ++ s) := by simpa [colL] using h
  obtain ⟨e1, e2⟩ := span (name_all hx.1) (name_all hy.1) (stop_cons w58) (stop_cons w58) h'
  simp only [List.cons.injEq, true_and] at e2
  obtain ⟨e3, e4⟩ := span (type_word hx.2) (type_word hy.2) hr hs e2
  refine ⟨?_, e4⟩
  unfold sameC strE intE
  rw [Lib.toList_data, Lib.toList_data, e1, type_inj hx.2 hy.2 e3]
  simp
theorem zip_same : ∀ (l m : List ByteArray) (p q : List Int), p.length = l.length → q.length = m.length → allS sameC (l.zip p) (m.zip q) = true → allS strE l m = true ∧ allS intE p q = true
  | [], [], [], [], _, _, _ => ⟨rfl, rfl⟩
  | [], _ :: _, [], _ :: _, _, _, h => by simp [allS] at h
  | _ :: _, [], _ :: _, [], _, _, h => by simp [allS] at h
  | a :: l, b :: m, c :: p, d :: q, h1, h2, h => by
    simp only [List.zip_cons_cons, allS, sameC, Bool.and_eq_true] at h
    obtain ⟨e1, e2⟩ := zip_same l m p q (by simpa using h1) (by simpa using h2) h.2
    simp only [allS, Bool.and_eq_true]
    exact ⟨⟨h.1.1, e1⟩, h.1.2, e2⟩
  | _ :: _, _, [], _, h1, _, _ => by simp at h1
  | [], _, _ :: _, _, h1, _, _ => by simp at h1
  | _, _ :: _, _, [], _, h1, _ => by simp at h1
  | _, [], _, _ :: _, _, h1, _ => by simp at h1
theorem zip_ok {d : De} (h : rightD d = true) : (∀ x ∈ d.names.zip d.types, okC x) ∧ d.names.zip d.types ≠ [] := by
  obtain ⟨_, h2, _, h4, h5, h6⟩ := rightD_parts h
  refine ⟨fun x hx => ⟨h5 _ (List.of_mem_zip hx).1, h6 _ (List.of_mem_zip hx).2⟩, ?_⟩
  intro e
  have := congrArg List.length e
  rw [List.length_zip, h4, Nat.min_self] at this
  exact h2 (List.length_eq_zero_iff.1 this)
/-- What stands behind a relation is not that it is read or written. -/
def Next (r : List UInt8) : Prop := ∀ t, r ≠ 46 :: 105 :: t ∧ r ≠ 46 :: 111 :: t
theorem marks_amb {i j o p : Bool} {x r s : List UInt8} (hr : Next r) (hs : Next s)
    (h : (if i = true then [46, 105, 110, 112, 117, 116, 32] ++ x ++ [10] else []) ++ ((if o = true then [46, 111, 117, 116, 112, 117, 116, 32] ++ x ++ [10] else []) ++ r) =
      (if j = true then [46, 105, 110, 112, 117, 116, 32] ++ x ++ [10] else []) ++ ((if p = true then [46, 111, 117, 116, 112, 117, 116, 32] ++ x ++ [10] else []) ++ s)) : i = j ∧ o = p ∧ r = s := by
  have key : ∀ {o p : Bool}, (if o = true then [46, 111, 117, 116, 112, 117, 116, 32] ++ x ++ [10] else []) ++ r = (if p = true then [46, 111, 117, 116, 112, 117, 116, 32] ++ x ++ [10] else []) ++ s → o = p ∧ r = s := by
    intro o p h
    cases o <;> cases p
    · exact ⟨rfl, by simpa using h⟩
    · exact absurd (by simpa using h) (hr _).2
    · exact absurd (by simpa using h.symm) (hs _).2
    · exact ⟨rfl, by simpa using h⟩
  have no : ∀ {o : Bool} {t y : List UInt8}, Next y → (if o = true then [46, 111, 117, 116, 112, 117, 116, 32] ++ x ++ [10] else []) ++ y ≠ 46 :: 105 :: t := by
    intro o t y hy e
    cases o
    · exact (hy t).1 (by simpa using e)
    · simp at e
  cases i <;> cases j
  · exact ⟨rfl, key (by simpa only [Bool.false_eq_true, if_false, List.nil_append] using h)⟩
  · exact absurd (by simpa only [Bool.false_eq_true, if_false, if_true, List.nil_append, List.cons_append] using h) (no hr)
  · exact absurd (by simpa only [Bool.false_eq_true, if_false, if_true, List.nil_append, List.cons_append] using h.symm) (no hs)
  · exact ⟨rfl, key (List.append_cancel_left h)⟩
theorem decl_amb {d e : De} {r s : List UInt8} (hd : rightD d = true) (he : rightD e = true) (hr : Next r) (hs : Next s) (h : showD d ++ r = showD e ++ s) : sameD d e = true ∧ r = s := by
  obtain ⟨d1, _, _, d4, _⟩ := rightD_parts hd
  obtain ⟨e1, _, _, e4, _⟩ := rightD_parts he
  rw [showD_app, showD_app] at h
  obtain ⟨x1, x2⟩ := span (name_all d1) (name_all e1) (stop_cons w40) (stop_cons w40) (List.append_cancel_left h)
  obtain ⟨x3, x4⟩ := join_amb (P := okC) (Q := Stop wordB) (z := 41) (by decide) (fun _ => stop_cons w44) (fun _ => stop_cons w41) col_amb (d.names.zip d.types) (e.names.zip e.types) _ _ (zip_ok hd).1 (zip_ok he).1 (zip_ok hd).2 (zip_ok he).2 (List.cons.inj x2).2
  obtain ⟨x5, x6⟩ := zip_same _ _ _ _ d4 e4 x3
  have x7 := (List.cons.inj x4).2
  unfold inT outT at x7
  rw [x1] at x7
  obtain ⟨x8, x9, x10⟩ := marks_amb hr hs x7
  refine ⟨?_, x10⟩
  unfold sameD
  rw [x5, x6, x8, x9]
  unfold strE
  rw [Lib.toList_data, Lib.toList_data, x1]
  simp
theorem showD_head (d : De) (r : List UInt8) : ∃ t, showD d ++ r = 46 :: 100 :: t := ⟨_, by rw [showD_app]; rfl⟩
theorem next_decls {l : List De} {r : List UInt8} (hr : Head r) : Next (l.flatMap showD ++ r) := by
  cases l with
  | nil =>
    intro t
    constructor <;> (intro e; have := hr _ _ (by simpa using e); revert this; decide)
  | cons d l =>
    intro t
    rw [List.flatMap_cons, List.append_assoc]
    obtain ⟨x, e⟩ := showD_head d (l.flatMap showD ++ r)
    rw [e]
    simp
theorem decls_amb : ∀ (l m : List De) (r s : List UInt8), (∀ d ∈ l, rightD d = true) → (∀ d ∈ m, rightD d = true) → Head r → Head s → l.flatMap showD ++ r = m.flatMap showD ++ s → allS sameD l m = true ∧ r = s
  | [], [], r, s, _, _, _, _, h => ⟨rfl, by simpa using h⟩
  | [], d :: m, r, s, _, _, hr, _, h => by
    rw [List.flatMap_cons, List.append_assoc] at h
    obtain ⟨x, e⟩ := showD_head d (m.flatMap showD ++ s)
    rw [e] at h
    exact absurd (hr _ _ (by simpa using h)) (by decide)
  | d :: l, [], r, s, _, _, _, hs, h => by
    rw [List.flatMap_cons, List.append_assoc] at h
    obtain ⟨x, e⟩ := showD_head d (l.flatMap showD ++ r)
    rw [e] at h
    exact absurd (hs _ _ (by simpa using h.symm)) (by decide)
  | d :: l, e :: m, r, s, hl, hm, hr, hs, h => by
    rw [List.flatMap_cons, List.append_assoc, List.flatMap_cons, List.append_assoc] at h
    obtain ⟨e1, e2⟩ := decl_amb (hl d (by simp)) (hm e (by simp)) (next_decls hr) (next_decls hs) h
    obtain ⟨e3, e4⟩ := decls_amb l m r s (fun x hx => hl x (by simp [hx])) (fun x hx => hm x (by simp [hx])) hr hs e2
    refine ⟨?_, e4⟩
    unfold allS
    rw [e1, e3]; rfl
theorem rightP_parts {p : Pg} (h : rightP p = true) : p.decls.length ≤ 60 ∧ p.rules.length ≤ 200 ∧ (∀ d ∈ p.decls, rightD d = true) ∧ ∀ r ∈ p.rules, rightR r = true := by
  unfold rightP at h
  simp only [Bool.and_eq_true, decide_eq_true_eq, List.all_eq_true] at h
  exact ⟨h.1.1.1, h.1.1.2, h.1.2, h.2⟩
theorem showP_eq (p : Pg) : showP p = p.decls.flatMap showD ++ rulesT p.rules := rfl
theorem prog_amb {p q : Pg} (hp : rightP p = true) (hq : rightP q = true) (h : showP p = showP q) : sameP p q = true := by
  obtain ⟨_, _, p1, p2⟩ := rightP_parts hp
  obtain ⟨_, _, q1, q2⟩ := rightP_parts hq
  rw [showP_eq, showP_eq] at h
  obtain ⟨e1, e2⟩ := decls_amb _ _ _ _ p1 q1 (rules_head _ p2) (rules_head _ q2) h
  have e3 := rules_amb _ _ p2 q2 e2
  unfold sameP
  rw [e1, e3]; rfl

/-! ### Alike ones have one text -/
theorem allS_map {α β : Type} {e : α → α → Bool} {f : α → β} : ∀ {l m : List α}, (∀ x ∈ l, ∀ y, e x y = true → f x = f y) → allS e l m = true → l.map f = m.map f
  | [], [], _, _ => rfl
  | [], _ :: _, _, h => by simp [allS] at h
  | _ :: _, [], _, h => by simp [allS] at h
  | x :: l, y :: m, hf, h => by
    simp only [allS, Bool.and_eq_true] at h
    rw [List.map_cons, List.map_cons, hf x (by simp) y h.1, allS_map (fun a ha => hf a (by simp [ha])) h.2]
theorem data_eq {s t : ByteArray} (h : s.toList = t.toList) : s.data.toList = t.data.toList := by rw [← Lib.toList_data, h, Lib.toList_data]
theorem sameT_parts {t u : Tm} (h : sameT t u = true) : t.op = u.op ∧ t.s.data.toList = u.s.data.toList ∧ t.n = u.n ∧ allS sameT t.l u.l = true := by
  rw [sameT_eq] at h
  simp only [Bool.and_eq_true, beq_iff_eq] at h
  exact ⟨h.1.1.1, data_eq h.1.1.2, h.1.2, h.2⟩
theorem allS_two {α : Type} {e : α → α → Bool} {l m : List α} {a b : α} (hl : l = [a, b]) (h : allS e l m = true) : ∃ c d, m = [c, d] ∧ e a c = true ∧ e b d = true := by
  subst hl
  match m, h with
  | [c, d], h =>
    simp only [allS, Bool.and_eq_true, and_true] at h
    exact ⟨c, d, rfl, h.1, h.2⟩
  | [], h => simp [allS] at h
  | [_], h => simp [allS] at h
  | _ :: _ :: _ :: _, h => simp [allS] at h
theorem sameT_text : ∀ (h : Nat) (t u : Tm), sameT t u = true → showT h t = showT h u
  | 0, _, _, _ => rfl
  | h + 1, t, u, e => by
    obtain ⟨e1, e2, e3, e4⟩ := sameT_parts e
    unfold showT
    rw [e1, e2, e3]
    split
    · rfl
    · split
      · rfl
      · split
        · rfl
        · split
          · rfl
          · match ht : t.l with
            | [a, b] =>
              obtain ⟨c, d, hu, s1, s2⟩ := allS_two ht e4
              rw [hu]
              simp only [sameT_text h a c s1, sameT_text h b d s2]
            | [] =>
              rw [ht] at e4
              match hu : u.l with
              | [] => rfl
              | _ :: _ => rw [hu] at e4 <;> simp [allS] at e4
            | [a] =>
              rw [ht] at e4
              match hu : u.l with
              | [_] => rfl
              | [] => rw [hu] at e4 <;> simp [allS] at e4
              | _ :: _ :: _ => rw [hu] at e4 <;> simp [allS] at e4
            | a :: b :: c :: l =>
              rw [ht] at e4
              match hu : u.l with
              | _ :: _ :: _ :: _ => rfl
              | [] => rw [hu] at e4 <;> simp [allS] at e4
              | [_] => rw [hu] at e4 <;> simp [allS] at e4
              | [_, _] => rw [hu] at e4 <;> simp [allS] at e4
theorem sameA_text {a b : Am} (h : sameA a b = true) : showA a = showA b := by
  unfold sameA at h
  rw [sameTs_all] at h
  simp only [Bool.and_eq_true, beq_iff_eq] at h
  unfold showA
  rw [data_eq h.1, allS_map (fun x _ y e => sameT_text 20 x y e) h.2]
theorem sameL_text {l m : Lt} (h : sameL l m = true) : showL l = showL m := by
  unfold sameL at h
  simp only [Bool.and_eq_true, beq_iff_eq] at h
  unfold showL
  rw [h.1.1.1, sameA_text h.1.1.2, sameT_text 20 _ _ h.1.2, sameT_text 20 _ _ h.2]
theorem allS_nil {α : Type} {e : α → α → Bool} {l m : List α} (h : allS e l m = true) : (l = []) = (m = []) := by
  cases l <;> cases m <;> simp_all [allS]
theorem sameR_text {r q : Ru} (h : sameR r q = true) : showR r = showR q := by
  unfold sameR at h
  simp only [Bool.and_eq_true] at h
  unfold showR
  rw [sameA_text h.1, allS_map (fun x _ y e => sameL_text e) h.2]
  simp only [allS_nil h.2]
theorem zip_text : ∀ (l m : List ByteArray) (p q : List Int), allS strE l m = true → allS intE p q = true → (l.zip p).map colL = (m.zip q).map colL
  | [], [], _, _, _, _ => rfl
  | [], _ :: _, _, _, h, _ => by simp [allS] at h
  | _ :: _, [], _, _, h, _ => by simp [allS] at h
  | _ :: _, _ :: _, [], [], _, _ => rfl
  | _ :: _, _ :: _, [], _ :: _, _, h => by simp [allS] at h
  | _ :: _, _ :: _, _ :: _, [], _, h => by simp [allS] at h
  | a :: l, b :: m, c :: p, d :: q, h1, h2 => by
    simp only [allS, Bool.and_eq_true] at h1 h2
    simp only [List.zip_cons_cons, List.map_cons]
    rw [zip_text l m p q h1.2 h2.2]
    have e1 := h1.1
    have e2 := h2.1
    unfold strE at e1
    unfold intE at e2
    simp only [beq_iff_eq] at e1 e2
    unfold colL
    rw [data_eq e1, e2]
theorem sameD_text {d e : De} (h : sameD d e = true) : showD d = showD e := by
  unfold sameD at h
  simp only [Bool.and_eq_true, beq_iff_eq] at h
  have h1 := h.1.1.1.1
  unfold strE at h1
  simp only [beq_iff_eq] at h1
  unfold showD
  rw [data_eq h1, h.1.1.1.2, h.1.1.2, zip_text _ _ _ _ h.1.2 h.2]
theorem sameP_text {p q : Pg} (h : sameP p q = true) : showP p = showP q := by
  unfold sameP at h
  simp only [Bool.and_eq_true] at h
  unfold showP
  rw [List.flatMap_def, List.flatMap_def, List.flatMap_def, List.flatMap_def, allS_map (fun x _ y e => sameD_text e) h.1, allS_map (f := fun r => showR r ++ [10]) (fun x _ y e => by rw [sameR_text e]) h.2]

/-! ### Each is like itself -/
theorem allS_refl {α : Type} {e : α → α → Bool} : ∀ {l : List α}, (∀ x ∈ l, e x x = true) → allS e l l = true
  | [], _ => rfl
  | x :: l, h => by
    unfold allS
    rw [h x (by simp), allS_refl (fun a ha => h a (by simp [ha]))]; rfl
theorem sameT_refl (t : Tm) : sameT t t = true := by
  induction t using Tm.rec (motive_2 := fun l => ∀ x ∈ l, sameT x x = true) with
  | mk op s n l ih => exact sameT_mk rfl rfl rfl (allS_refl ih)
  | nil x hx => simp at hx
  | cons t ts ih ihs x hx =>
    rcases List.mem_cons.1 hx with rfl | hx
    · exact ih
    · exact ihs x hx
theorem sameA_refl (a : Am) : sameA a a = true := by
  unfold sameA
  rw [sameTs_all, allS_refl (fun x _ => sameT_refl x)]
  simp
theorem sameL_refl (l : Lt) : sameL l l = true := sameL_mk rfl (sameA_refl _) (sameT_refl _) (sameT_refl _)
theorem sameR_refl (r : Ru) : sameR r r = true := by
  unfold sameR
  rw [sameA_refl, allS_refl (fun x _ => sameL_refl x)]; rfl
theorem sameR_line (r q : Ru) (h1 : r.head = q.head) (h2 : r.body = q.body) : sameR r q = true := by
  have := sameR_refl q
  unfold sameR at this ⊢
  rw [h1, h2]; exact this
theorem sameD_refl (d : De) : sameD d d = true := by
  unfold sameD strE intE
  rw [allS_refl (fun x _ => by simp), allS_refl (fun x _ => by simp)]
  simp
theorem sameP_refl (p : Pg) : sameP p p = true := by
  unfold sameP
  rw [allS_refl (fun x _ => sameD_refl x), allS_refl (fun x _ => sameR_refl x)]; rfl
/-- DtreeApart's last comparison. -/
theorem apart_beq {p q : Pg} (hp : rightP p = true) (hq : rightP q = true) : (showP p == showP q) = sameP p q := by
  rw [Bool.eq_iff_iff, beq_iff_eq]
  exact ⟨prog_amb hp hq, sameP_text⟩
end Go.Proofs.YthjfkngfgomkbaaGreatDoor
