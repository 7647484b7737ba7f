/- What Lex answers to short texts, to tokens' texts, to texts behind each other: facts of lists. -/
import Derived.Test.YthjfkngfgomkbaaGreatDoorDlaws
namespace Go.Proofs.YthjfkngfgomkbaaGreatDoor
open Go.RowKit

theorem lexU_fst (l : List UInt8) : (lexU l).1 = (lexL l).1.map fun t => (t.kind, t.s) := by rw [← pairs_lexL]; rfl
theorem lexU_snd (l : List UInt8) : (lexU l).2 = (lexL l).2.isSome := by rw [← pairs_lexL]; rfl
theorem lexL_len (l : List UInt8) : (lexL l).1.length ≤ l.length := by
  have h1 := lexU_len l
  have h2 := congrArg List.length (lexU_fst l)
  simp only [List.length_map] at h2
  omega
theorem lexR_ok {l : List UInt8} (hl : l.length ≤ 20000) (h : (lexL l).2 = none) : lexR l = ((lexL l).1, 0, 0) := by
  have := lexL_len l
  unfold lexR
  rw [if_neg (by omega), if_neg (by omega), h]
theorem lexR_err {l : List UInt8} (hl : l.length ≤ 20000) {n : Nat} (h : (lexL l).2 = some n) : lexR l = ([], n, 20) := by
  have := lexL_len l
  unfold lexR
  rw [if_neg (by omega), if_neg (by omega), h]

theorem textI_tok (t : Tk) : textI (tokI t) = textL t.kind t.s := by
  unfold textI textL tokI
  simp only
  by_cases h : t.kind = 3
  · rw [if_pos h, if_pos (by omega)]
  · rw [if_neg h, if_neg (by omega)]
theorem showI_tok (ts : List Tk) : showI (ts.map tokI) = showU (ts.map fun t => (t.kind, t.s)) := by
  induction ts with
  | nil => rfl
  | cons t ts ih => simp only [showI, showU, List.map_cons, List.flatMap_cons, textI_tok] at ih ⊢; rw [ih]
theorem alike_of : ∀ {ts us : List Tk}, (ts.map fun t => (t.kind, t.s)) = (us.map fun t => (t.kind, t.s)) → alikeB (ts.map tokI) (us.map tokI) = true
  | [], [], _ => rfl
  | [], _ :: _, h => by cases h
  | _ :: _, [], h => by cases h
  | t :: ts, u :: us, h => by
    simp only [List.map_cons, List.cons.injEq, Prod.mk.injEq] at h
    simp only [List.map_cons, alikeB, alike_of h.2, tokI, h.1.1, h.1.2, Lib.toList_data, beq_self_eq_true, Bool.and_self]
theorem tok_short {l s : List UInt8} {k z : Nat} (h : tokL l = some (k, s, z)) : s.length ≤ l.length := by
  have h1 := congrArg List.length (tok_text h)
  have h2 : s.length ≤ (textL k s).length := by
    unfold textL
    split
    · rw [quoteL_length]
      have h3 : ∀ t : List UInt8, t.length ≤ (t.flatMap sign).length := by
        intro t
        induction t with
        | nil => simp
        | cons c t ih =>
          have hc := sign_ne c
          have h1 : 1 ≤ (sign c).length := by
            cases h : sign c with
            | nil => exact absurd h hc
            | cons => simp
          simp only [List.flatMap_cons, List.length_append, List.length_cons]
          omega
      have := h3 s
      omega
    · exact Nat.le_refl _
  rw [List.length_take] at h1
  omega
theorem lexF_short : ∀ (f n : Nat) (l : List UInt8), ∀ t ∈ (lexF f n l).1, t.s.length ≤ l.length
  | 0, n, l => by simp [lexF]
  | f + 1, n, l => by
    by_cases h : l.drop (gap false l) = []
    · rw [lexF_nil f n l h]; simp
    cases ht : tokL (l.drop (gap false l)) with
    | none => rw [lexF_bad f n l h ht]; simp
    | some a =>
      obtain ⟨k, s, z⟩ := a
      rw [lexF_tok f n l h ht]
      intro t hm
      rcases List.mem_cons.1 hm with rfl | hm
      · have := tok_short ht
        simp only [List.length_drop] at this ⊢
        omega
      · have := lexF_short f _ _ t hm
        have hr := rest_len h ht
        omega
theorem lexL_short (l : List UInt8) : ∀ t ∈ (lexL l).1.map tokI, t.s.size ≤ l.length := by
  intro t ht
  obtain ⟨u, hu, rfl⟩ := List.mem_map.1 ht
  have := lexF_short _ _ _ u hu
  show u.s.toArray.size ≤ _
  rw [List.size_toArray]
  exact this

/-- Tokens' texts are lexed again. -/
theorem back_math (l : List UInt8) (hl : l.length ≤ 3000) :
    (showI ((lexL l).1.map tokI)).length ≤ 6000 ∧ ∃ ms, lexR (showI ((lexL l).1.map tokI)) = (ms, 0, 0) ∧ alikeB ((lexL l).1.map tokI) (ms.map tokI) = true := by
  rw [showI_tok, ← lexU_fst]
  have h1 := lexU_show (lexU l).1 (lexU_good l)
  have h2 := show_len l
  have h3 := lexU_fst (showU (lexU l).1)
  have h4 := lexU_snd (showU (lexU l).1)
  rw [h1] at h3 h4
  simp only at h3 h4
  refine ⟨by omega, _, lexR_ok (by omega) (by simpa using h4.symm), alike_of ?_⟩
  rw [← h3, lexU_fst]
end Go.Proofs.YthjfkngfgomkbaaGreatDoor
