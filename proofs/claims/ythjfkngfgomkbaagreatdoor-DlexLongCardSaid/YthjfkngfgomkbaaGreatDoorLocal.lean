/- A token is the same whatever stands behind a blank behind it: facts of lists alone. -/
import Derived.Test.YthjfkngfgomkbaaGreatDoorLexA
namespace Go.Proofs.YthjfkngfgomkbaaGreatDoor
open Go.RowKit

theorem symN_sign (c : UInt8) (l : List UInt8) : symN false (sign c ++ l) = (sign c).length + symN false l := by
  have hk := sign_kinds_fin ⟨c.toNat, c.toNat_lt⟩
  simp only [ofNat_toNat] at hk
  have hx : ∀ k, k < 16 → hexL.getD k 0 ≠ 92 ∧ hexL.getD k 0 ≠ 34 := by decide
  rcases hk with ⟨hs, h1, h2, h3⟩ | ⟨hs, h1⟩ | ⟨hs, h1⟩ | ⟨hs, h1⟩ | ⟨hs, _⟩
  · rw [hs]; simp [symN, h1, h2]
  · rw [hs]; simp [symN]; omega
  · rw [hs]; simp [symN]; omega
  · rw [hs]; simp [symN]; omega
  · have ha := hx (c.toNat / 16) (by have := c.toNat_lt; omega)
    have hb := hx (c.toNat % 16) (by omega)
    rw [hs]
    generalize hexL.getD (c.toNat / 16) 0 = a at *
    generalize hexL.getD (c.toNat % 16) 0 = b at *
    simp [symN, ha.1, ha.2, hb.1, hb.2]
    omega
theorem symN_flat (r : List UInt8) : ∀ s : List UInt8, symN false (s.flatMap sign ++ 34 :: r) = (s.flatMap sign).length + 1
  | [] => by simp [symN]
  | c :: s => by
    rw [List.flatMap_cons, List.append_assoc, symN_sign, symN_flat r s, List.length_append]
    omega
theorem quoteL_length (s : List UInt8) : (quoteL s).length = (s.flatMap sign).length + 2 := by simp [quoteL]
theorem not34 : digB ((34 : UInt8).toNat : Int) = false ∧ partB 34 = false := by decide
theorem shape_34 (t : List UInt8) : shapeL (34 :: t) = (3, 1 + symN false t) := by
  rw [shapeL_cons]
  rw [if_neg (by rw [not34.1]; decide), if_neg (by rw [not34.2]; decide), if_pos rfl]
theorem shape_quote (s r : List UInt8) : shapeL (quoteL s ++ r) = (3, (quoteL s).length) := by
  have e : quoteL s ++ r = 34 :: (s.flatMap sign ++ 34 :: r) := by simp [quoteL]
  rw [e, shape_34, symN_flat, quoteL_length]
  congr 1
  omega
theorem tok_quote (s r : List UInt8) : tokL (quoteL s ++ r) = some (3, s, (quoteL s).length) := by
  unfold tokL
  rw [shape_quote]
  have h : meanL 3 ((quoteL s ++ r).take (quoteL s).length) = some s := by
    rw [List.take_left']
    · unfold meanL
      rw [if_pos rfl, unqL_quote]
    · rfl
  simp only [h, Option.map_some]
theorem tok_34 {t s : List UInt8} {k z : Nat} (h : tokL (34 :: t) = some (k, s, z)) : k = 3 ∧ quoteL s = (34 :: t).take z := by
  unfold tokL at h
  rw [shape_34, Option.map_eq_some_iff] at h
  obtain ⟨a, ha, h⟩ := h
  simp only [Prod.mk.injEq] at h
  obtain ⟨rfl, rfl, rfl⟩ := h
  unfold meanL at ha
  rw [if_pos rfl] at ha
  exact ⟨rfl, unqL_back ha⟩
theorem sign_no10_fin : ∀ c : Fin 256, (10 : UInt8) ∉ sign (UInt8.ofNat c.1) := by decide +kernel
theorem sign_no10 (c : UInt8) : (10 : UInt8) ∉ sign c := by
  have := sign_no10_fin ⟨c.toNat, c.toNat_lt⟩
  simpa only [ofNat_toNat] using this
theorem quote_no10 (s : List UInt8) : (10 : UInt8) ∉ quoteL s := by
  unfold quoteL
  simp only [List.mem_cons, List.mem_append, List.mem_flatMap, List.not_mem_nil, or_false, not_or, not_exists, not_and]
  exact ⟨by decide, fun c _ => sign_no10 c, by decide⟩

theorem runN_more (p : UInt8 → Bool) (x : UInt8) (r : List UInt8) (hx : p x = false) : ∀ l : List UInt8, runN p (l ++ x :: r) = runN p l
  | [] => by simp [runN, hx]
  | c :: l => by
    have ih := runN_more p x r hx l
    simp only [List.cons_append, runN, ih]
theorem runN_cut (p : UInt8 → Bool) : ∀ l : List UInt8, runN p (l.take (runN p l)) = runN p l
  | [] => by simp [runN]
  | c :: l => by
    by_cases h : p c = true
    · have ih := runN_cut p l
      have e : runN p (c :: l) = runN p l + 1 := by simp [runN, h]; omega
      rw [e, List.take_succ_cons]
      simp only [runN, h, if_true, ih]
      omega
    · simp [runN, h]

theorem blank_no {x : UInt8} (hx : blankB x = true) : partB x = false ∧ smallB x = false ∧ x ≠ 34 ∧ x ≠ 45 ∧ x ≠ 61 := by
  simp only [blankB, decide_eq_true_eq] at hx
  rcases hx with rfl | rfl | rfl <;> decide
theorem long_blank {c x : UInt8} (hx : blankB x = true) : longB [c, x] = false := by
  obtain ⟨_, _, _, h4, h5⟩ := blank_no hx
  simp [longB, h4, h5]
theorem long_one (c : UInt8) : longB [c] = false := by simp [longB]
theorem signN_more (c x : UInt8) (t r : List UInt8) (hx : blankB x = true) : signN (c :: t ++ x :: r) = signN (c :: t) := by
  cases t with
  | nil => simp [signN, long_blank hx, long_one]
  | cons => rfl

theorem shape_more (c x : UInt8) (t r : List UInt8) (hx : blankB x = true) (hc : c ≠ 34) : shapeL (c :: t ++ x :: r) = shapeL (c :: t) := by
  obtain ⟨h1, h2, _⟩ := blank_no hx
  have e1 := runN_more partB x r h1 (c :: t)
  have e2 := runN_more smallB x r h2 t
  have e3 := signN_more c x t r hx
  simp only [List.cons_append] at e1 e2 e3 ⊢
  rw [shapeL_cons, shapeL_cons, e1, e3]
  by_cases a1 : digB (c.toNat : Int) = true
  · rw [if_pos a1, if_pos a1]
  by_cases a2 : partB c = true
  · rw [if_neg a1, if_pos a2, if_neg a1, if_pos a2]
  rw [if_neg a1, if_neg a2, if_neg hc, if_neg a1, if_neg a2, if_neg hc]
  by_cases a3 : c = 46 ∧ 0 < runN smallB t
  · rw [if_pos a3, if_pos (by rw [e2]; exact a3), e2]
  · rw [if_neg a3, if_neg (by rw [e2]; exact a3)]
theorem tok_more10 (l r : List UInt8) (hl : l ≠ []) : tokL (l ++ 10 :: r) = tokL l := by
  cases l with
  | nil => exact absurd rfl hl
  | cons c t =>
    by_cases hc : c = 34
    · subst hc
      have key : ∀ s, quoteL s <+: (34 :: t) → tokL (34 :: t ++ 10 :: r) = tokL (34 :: t) := by
        rintro s ⟨u, hu⟩
        rw [← hu, List.append_assoc, tok_quote, tok_quote]
      cases h1 : tokL (34 :: t) with
      | some a =>
        obtain ⟨k, s, z⟩ := a
        rw [← h1]
        exact key s (by rw [(tok_34 h1).2]; exact List.take_prefix _ _)
      | none =>
        cases h2 : tokL (34 :: t ++ 10 :: r) with
        | none => rfl
        | some a =>
          obtain ⟨k, s, z⟩ := a
          exfalso
          have hq := (tok_34 (t := t ++ 10 :: r) h2).2
          have hp : quoteL s <+: (34 :: t) ++ 10 :: r := by rw [hq]; exact List.take_prefix _ _
          have hp2 : quoteL s <+: (34 :: t) := by
            rcases List.prefix_or_prefix_of_prefix hp (List.prefix_append (34 :: t) (10 :: r)) with h | h
            · exact h
            · obtain ⟨u, hu⟩ := h
              rw [← hu] at hp
              rw [List.prefix_append_right_inj] at hp
              cases u with
              | nil => rw [← hu]; simp
              | cons d u =>
                rw [List.cons_prefix_cons] at hp
                obtain ⟨rfl, _⟩ := hp
                exact absurd (by rw [← hu]; simp) (quote_no10 s)
          have := key s hp2
          rw [h1, h2] at this
          cases this
    · have hs := shape_more c 10 t r (by decide) hc
      have hp := shape_pos (l := c :: t) (by simp)
      unfold tokL
      rw [hs, List.take_append_of_le_length hp.2.1]
theorem shape_cut (c : UInt8) (t : List UInt8) (hc : c ≠ 34) : shapeL ((c :: t).take (shapeL (c :: t)).2) = shapeL (c :: t) := by
  by_cases h1 : digB (c.toNat : Int) = true
  · have e : shapeL (c :: t) = (2, runN partB (c :: t)) := by rw [shapeL_cons]; rw [if_pos h1]
    have hp : partB c = true := by unfold partB; rw [h1]; simp
    have er : runN partB (c :: t) = runN partB t + 1 := by simp [runN, hp]; omega
    have ec := runN_cut partB (c :: t)
    rw [e]
    simp only
    rw [er, List.take_succ_cons] at ec ⊢
    rw [shapeL_cons]
    rw [if_pos h1, ec]
  by_cases h2 : partB c = true
  · have e : shapeL (c :: t) = (1, runN partB (c :: t)) := by rw [shapeL_cons]; rw [if_neg h1, if_pos h2]
    have er : runN partB (c :: t) = runN partB t + 1 := by simp [runN, h2]; omega
    have ec := runN_cut partB (c :: t)
    rw [e]
    simp only
    rw [er, List.take_succ_cons] at ec ⊢
    rw [shapeL_cons]
    rw [if_neg h1, if_pos h2, ec]
  by_cases h4 : c = 46 ∧ 0 < runN smallB t
  · have e : shapeL (c :: t) = (5, 1 + runN smallB t) := by rw [shapeL_cons]; rw [if_neg h1, if_neg h2, if_neg hc, if_pos h4]
    have ec := runN_cut smallB t
    rw [e]
    simp only
    rw [show 1 + runN smallB t = runN smallB t + 1 by omega, List.take_succ_cons]
    rw [shapeL_cons]
    rw [if_neg h1, if_neg h2, if_neg hc, ec, if_pos h4]
    congr 1
    omega
  have e : shapeL (c :: t) = (4, signN (c :: t)) := by rw [shapeL_cons]; rw [if_neg h1, if_neg h2, if_neg hc, if_neg h4]
  rw [e]
  simp only
  by_cases h5 : longB ((c :: t).take 2) = true
  · have e2 : signN (c :: t) = 2 := by unfold signN; rw [if_pos h5]
    rw [e2]
    cases t with
    | nil => simp [long_one] at h5
    | cons d t =>
      simp only [List.take_succ_cons, List.take_zero] at h5 ⊢
      have h6 : ¬ (c = 46 ∧ 0 < runN smallB [d]) := by
        rintro ⟨rfl, _⟩
        simp [longB] at h5
      rw [shapeL_cons]
      rw [if_neg h1, if_neg h2, if_neg hc, if_neg h6]
      simp [signN, h5]
  · have e2 : signN (c :: t) = 1 := by unfold signN; rw [if_neg h5]
    rw [e2]
    simp only [List.take_succ_cons, List.take_zero]
    rw [shapeL_cons]
    rw [if_neg h1, if_neg h2, if_neg hc, if_neg (by simp [runN])]
    simp [signN, long_one]
theorem tok_cut {l s : List UInt8} {k z : Nat} (hl : l ≠ []) (h : tokL l = some (k, s, z)) (x : UInt8) (r : List UInt8) (hx : blankB x = true) : tokL (l.take z ++ x :: r) = some (k, s, z) := by
  have hz := tok_pos hl h
  cases l with
  | nil => exact absurd rfl hl
  | cons c t =>
    by_cases hc : c = 34
    · subst hc
      obtain ⟨rfl, hq⟩ := tok_34 h
      rw [← hq, tok_quote]
      have hlen : (quoteL s).length = z := by rw [hq]; simp at hz ⊢; omega
      rw [hlen]
    · have h0 := h
      unfold tokL at h
      rw [Option.map_eq_some_iff] at h
      obtain ⟨a, ha, h⟩ := h
      simp only [Prod.mk.injEq] at h
      obtain ⟨rfl, rfl, rfl⟩ := h
      have hcut := shape_cut c t hc
      obtain ⟨y, hy⟩ : ∃ y, (shapeL (c :: t)).2 = y + 1 := ⟨(shapeL (c :: t)).2 - 1, by omega⟩
      have hm : shapeL ((c :: t).take (shapeL (c :: t)).2 ++ x :: r) = shapeL (c :: t) := by
        have := shape_more c x (t.take y) r hx hc
        rw [hy, List.take_succ_cons] at hcut ⊢
        rw [this, hcut]
      unfold tokL
      rw [hm]
      rw [List.take_append_of_le_length (by simp; simp at hz; omega), List.take_take, Nat.min_self, ha]
      rfl
/-- A token's text. -/
def textL (k : Nat) (s : List UInt8) : List UInt8 := if k = 3 then quoteL s else s
theorem tok_text {l s : List UInt8} {k z : Nat} (h : tokL l = some (k, s, z)) : textL k s = l.take z := by
  unfold tokL at h
  rw [Option.map_eq_some_iff] at h
  obtain ⟨a, ha, h⟩ := h
  simp only [Prod.mk.injEq] at h
  obtain ⟨rfl, rfl, rfl⟩ := h
  unfold meanL at ha
  unfold textL
  by_cases h3 : (shapeL l).1 = 3
  · rw [if_pos h3] at ha ⊢
    exact unqL_back ha
  · rw [if_neg h3] at ha ⊢
    rw [Option.ite_none_right_eq_some] at ha
    exact (Option.some.inj ha.2).symm
theorem tok_head {c : UInt8} {t s : List UInt8} {k z : Nat} (h : tokL (c :: t) = some (k, s, z)) : c ≠ 47 ∧ blankB c = false := by
  have h47 : ∀ t, tokL (47 :: t) = none := by
    intro t
    have e : shapeL (47 :: t) = (4, 1) := by
      rw [shapeL_cons]
      rw [if_neg (by decide), if_neg (by decide), if_neg (by decide), if_neg (by simp)]
      have : signN (47 :: t) = 1 := by unfold signN; rw [if_neg]; cases t <;> simp [longB]
      rw [this]
    unfold tokL
    rw [e]
    rfl
  constructor
  · rintro rfl
    rw [h47] at h
    cases h
  · cases hb : blankB c with
    | false => rfl
    | true =>
      exfalso
      have e : shapeL (c :: t) = (4, 1) := by
        simp only [blankB, decide_eq_true_eq] at hb
        rw [shapeL_cons]
        rcases hb with rfl | rfl | rfl
        all_goals
          rw [if_neg (by decide), if_neg (by decide), if_neg (by decide), if_neg (by simp)]
          have : ∀ x, x ∈ ([9, 10, 32] : List UInt8) → signN (x :: t) = 1 := by
            intro x hx
            unfold signN
            rw [if_neg]
            simp at hx
            cases t <;> rcases hx with rfl | rfl | rfl <;> simp [longB]
          rw [this _ (by simp)]
      unfold tokL at h
      rw [e] at h
      simp only [blankB, decide_eq_true_eq] at hb
      rcases hb with rfl | rfl | rfl
      all_goals
        simp [meanL, longB, shortB, shortL] at h
end Go.Proofs.YthjfkngfgomkbaaGreatDoor
