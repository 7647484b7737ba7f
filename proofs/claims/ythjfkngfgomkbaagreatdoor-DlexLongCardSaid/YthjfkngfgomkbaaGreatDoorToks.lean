/- The tokens of texts that stand behind each other, of what tokens are shown as, and their lines: facts of lists alone. -/
import Derived.Test.YthjfkngfgomkbaaGreatDoorLocal
namespace Go.Proofs.YthjfkngfgomkbaaGreatDoor
open Go.RowKit

theorem lexF_nil (f n : Nat) (l : List UInt8) (h : l.drop (gap false l) = []) : lexF (f + 1) n l = ([], none) := by
  unfold lexF
  rw [if_pos h]
theorem lexF_bad (f n : Nat) (l : List UInt8) (h : l.drop (gap false l) ≠ []) (ht : tokL (l.drop (gap false l)) = none) : lexF (f + 1) n l = ([], some (n + lines (l.take (gap false l)))) := by
  unfold lexF
  rw [if_neg h, ht]
theorem lexF_tok (f n : Nat) (l : List UInt8) (h : l.drop (gap false l) ≠ []) {k : Nat} {s : List UInt8} {z : Nat} (ht : tokL (l.drop (gap false l)) = some (k, s, z)) :
    lexF (f + 1) n l = (⟨k, s, n + lines (l.take (gap false l))⟩ :: (lexF f (n + lines (l.take (gap false l))) ((l.drop (gap false l)).drop z)).1,
      (lexF f (n + lines (l.take (gap false l))) ((l.drop (gap false l)).drop z)).2) := by
  unfold lexF
  rw [if_neg h, ht]
  cases f <;> rfl
theorem rest_len {l s : List UInt8} {k z : Nat} (h : l.drop (gap false l) ≠ []) (ht : tokL (l.drop (gap false l)) = some (k, s, z)) : ((l.drop (gap false l)).drop z).length < l.length := by
  have := tok_pos h ht
  simp only [List.length_drop] at this ⊢
  omega
theorem lexF_more : ∀ (f g n : Nat) (l : List UInt8), l.length < f → l.length < g → lexF f n l = lexF g n l
  | 0, _, _, _, h, _ => by omega
  | _, 0, _, _, _, h => by omega
  | f + 1, g + 1, n, l, hf, hg => by
    by_cases h : l.drop (gap false l) = []
    · rw [lexF_nil f n l h, lexF_nil g n l h]
    cases ht : tokL (l.drop (gap false l)) with
    | none => rw [lexF_bad f n l h ht, lexF_bad g n l h ht]
    | some a =>
      obtain ⟨k, s, z⟩ := a
      have hr := rest_len h ht
      rw [lexF_tok f n l h ht, lexF_tok g n l h ht, lexF_more f g _ _ (by omega) (by omega)]

/-- The tokens without their lines, and whether something is wrong behind them. -/
def pairs (x : List Tk × Option Nat) : List (Nat × List UInt8) × Bool := (x.1.map fun t => (t.kind, t.s), x.2.isSome)
def lexU (l : List UInt8) : List (Nat × List UInt8) × Bool := pairs (lexF (l.length + 1) 0 l)
theorem pairs_line : ∀ (f n m : Nat) (l : List UInt8), pairs (lexF f n l) = pairs (lexF f m l)
  | 0, _, _, _ => rfl
  | f + 1, n, m, l => by
    by_cases h : l.drop (gap false l) = []
    · rw [lexF_nil f n l h, lexF_nil f m l h]
    cases ht : tokL (l.drop (gap false l)) with
    | none => rw [lexF_bad f n l h ht, lexF_bad f m l h ht]; rfl
    | some a =>
      obtain ⟨k, s, z⟩ := a
      have ih := pairs_line f (n + lines (l.take (gap false l))) (m + lines (l.take (gap false l))) ((l.drop (gap false l)).drop z)
      rw [lexF_tok f n l h ht, lexF_tok f m l h ht]
      simp only [pairs, Prod.mk.injEq, List.map_cons] at ih ⊢
      rw [ih.1, ih.2]
      exact ⟨rfl, rfl⟩
theorem pairs_lexL (l : List UInt8) : pairs (lexL l) = lexU l := pairs_line _ _ _ _
theorem lexU_nil (l : List UInt8) (h : l.drop (gap false l) = []) : lexU l = ([], false) := by
  unfold lexU
  rw [lexF_nil _ _ l h]
  rfl
theorem lexU_bad (l : List UInt8) (h : l.drop (gap false l) ≠ []) (ht : tokL (l.drop (gap false l)) = none) : lexU l = ([], true) := by
  unfold lexU
  rw [lexF_bad _ _ l h ht]
  rfl
theorem lexU_tok (l : List UInt8) (h : l.drop (gap false l) ≠ []) {k : Nat} {s : List UInt8} {z : Nat} (ht : tokL (l.drop (gap false l)) = some (k, s, z)) :
    lexU l = ((k, s) :: (lexU ((l.drop (gap false l)).drop z)).1, (lexU ((l.drop (gap false l)).drop z)).2) := by
  have hr := rest_len h ht
  have e := pairs_line l.length (0 + lines (l.take (gap false l))) 0 ((l.drop (gap false l)).drop z)
  rw [lexF_more l.length (((l.drop (gap false l)).drop z).length + 1) 0 _ hr (by omega)] at e
  change _ = lexU _ at e
  unfold lexU at *
  rw [lexF_tok _ _ l h ht, ← e]
  rfl
theorem lexU_len (l : List UInt8) : (lexU l).1.length ≤ l.length := by
  induction h : l.length using Nat.strongRecOn generalizing l with
  | _ n ih =>
    subst h
    by_cases h : l.drop (gap false l) = []
    · rw [lexU_nil l h]; simp
    cases ht : tokL (l.drop (gap false l)) with
    | none => rw [lexU_bad l h ht]; simp
    | some a =>
      obtain ⟨k, s, z⟩ := a
      have hr := rest_len h ht
      have := ih _ hr ((l.drop (gap false l)).drop z) rfl
      rw [lexU_tok l h ht]
      simp only [List.length_cons]
      omega

theorem lexU_blank (c : UInt8) (l : List UInt8) (hc : blankB c = true) : lexU (c :: l) = lexU l := by
  have e : (c :: l).drop (gap false (c :: l)) = l.drop (gap false l) := by
    have : gap false (c :: l) = gap false l + 1 := by simp [gap, hc]; omega
    rw [this, List.drop_succ_cons]
  by_cases h : l.drop (gap false l) = []
  · rw [lexU_nil l h, lexU_nil _ (e.trans h)]
  cases ht : tokL (l.drop (gap false l)) with
  | none => rw [lexU_bad l h ht, lexU_bad (c :: l) (by rw [e]; exact h) (by rw [e]; exact ht)]
  | some a =>
    obtain ⟨k, s, z⟩ := a
    rw [lexU_tok l h ht, lexU_tok (c :: l) (by rw [e]; exact h) (by rw [e]; exact ht), e]
theorem lexU_blanks (l : List UInt8) : ∀ b : List UInt8, b.all blankB = true → lexU (b ++ l) = lexU l
  | [], _ => rfl
  | c :: b, h => by
    simp only [List.all_cons, Bool.and_eq_true] at h
    rw [List.cons_append, lexU_blank c _ h.1, lexU_blanks l b h.2]

theorem gap_more (r : List UInt8) : ∀ (m : Bool) (l : List UInt8), gap m (l ++ 10 :: r) = if gap m l = l.length then l.length + 1 + gap false r else gap m l
  | m, [] => by cases m <;> simp [gap, blankB]
  | true, c :: l => by
    have h1 := gap_more r false l
    have h2 := gap_more r true l
    by_cases hc : c = 10
    · simp only [List.cons_append, gap, if_pos hc, h1, List.length_cons]
      split <;> split <;> omega
    · simp only [List.cons_append, gap, if_neg hc, h2, List.length_cons]
      split <;> split <;> omega
  | false, c :: l => by
    have h1 := gap_more r false l
    have h2 := gap_more r true l
    by_cases hc : blankB c = true
    · simp only [List.cons_append, gap, if_pos hc, h1, List.length_cons]
      split <;> split <;> omega
    · have e : (l ++ 10 :: r).head? = some 47 ↔ l.head? = some 47 := by cases l <;> simp
      simp only [List.cons_append, gap, if_neg hc, e, List.length_cons]
      by_cases hd : c = 47 ∧ l.head? = some 47
      · rw [if_pos hd, if_pos hd, h2]
        split <;> split <;> omega
      · rw [if_neg hd, if_neg hd, if_neg (by omega)]

/-- Two texts parted by a line's end. -/
theorem lexU_join (s r : List UInt8) : lexU (s ++ 10 :: r) = if (lexU s).2 = true then ((lexU s).1, true) else ((lexU s).1 ++ (lexU r).1, (lexU r).2) := by
  induction h : s.length using Nat.strongRecOn generalizing s with
  | _ n ih =>
    subst h
    have hg := gap_more r false s
    have hl := gap_len false s
    by_cases h : gap false s = s.length
    · rw [if_pos h] at hg
      have e : s.drop (gap false s) = [] := by rw [h]; simp
      rw [lexU_nil s e]
      have e2 : (s ++ 10 :: r).drop (gap false (s ++ 10 :: r)) = r.drop (gap false r) := by
        rw [hg, show s.length + 1 + gap false r = s.length + (gap false r + 1) by omega, List.drop_length_add_append, List.drop_succ_cons]
      simp only [List.nil_append, Bool.false_eq_true, if_false]
      by_cases h3 : r.drop (gap false r) = []
      · rw [lexU_nil r h3, lexU_nil _ (e2.trans h3)]
      cases ht : tokL (r.drop (gap false r)) with
      | none => rw [lexU_bad r h3 ht, lexU_bad _ (by rw [e2]; exact h3) (by rw [e2]; exact ht)]
      | some a =>
        obtain ⟨k, t, z⟩ := a
        rw [lexU_tok r h3 ht, lexU_tok _ (by rw [e2]; exact h3) (by rw [e2]; exact ht), e2]
    · rw [if_neg h] at hg
      have hne : s.drop (gap false s) ≠ [] := by
        intro e
        have := congrArg List.length e
        simp at this
        omega
      have e2 : (s ++ 10 :: r).drop (gap false (s ++ 10 :: r)) = s.drop (gap false s) ++ 10 :: r := by
        rw [hg, List.drop_append_of_le_length hl]
      have hm := tok_more10 (s.drop (gap false s)) r hne
      cases ht : tokL (s.drop (gap false s)) with
      | none =>
        rw [lexU_bad s hne ht, lexU_bad _ (by rw [e2]; simp) (by rw [e2, hm]; exact ht)]
        rfl
      | some a =>
        obtain ⟨k, t, z⟩ := a
        have hz := tok_pos hne ht
        have hr := rest_len hne ht
        have hi := ih _ hr ((s.drop (gap false s)).drop z) rfl
        rw [lexU_tok s hne ht, lexU_tok _ (by rw [e2]; simp) (by rw [e2, hm]; exact ht), e2, List.drop_append_of_le_length hz.2.1, hi]
        split <;> rfl
theorem lexU_comment (c : List UInt8) (h : (10 : UInt8) ∉ c) : lexU (47 :: 47 :: c) = ([], false) := by
  have ht : ∀ c : List UInt8, (10 : UInt8) ∉ c → gap true c = c.length := by
    intro c
    induction c with
    | nil => simp [gap]
    | cons d c ih =>
      intro h
      simp only [List.mem_cons, not_or] at h
      simp only [gap, List.length_cons, if_neg (Ne.symm h.1), ih h.2]
      omega
  have hg : gap false (47 :: 47 :: c) = c.length + 2 := by
    have h1 : gap true (47 :: c) = c.length + 1 := ht (47 :: c) (by simp [h])
    have h0 : blankB 47 = false := by decide
    simp only [gap, h0, List.head?_cons, and_self, if_true] at h1 ⊢
    simp at h1 ⊢
    omega
  exact lexU_nil _ (by rw [hg]; simp)

/-- Tokens' texts, a blank behind each. -/
def showU (ts : List (Nat × List UInt8)) : List UInt8 := ts.flatMap fun t => textL t.1 t.2 ++ [32]
def Good (t : Nat × List UInt8) : Prop := ∃ l z, l ≠ [] ∧ tokL l = some (t.1, t.2, z)
theorem lexU_good (l : List UInt8) : ∀ t ∈ (lexU l).1, Good t := by
  induction h : l.length using Nat.strongRecOn generalizing l with
  | _ n ih =>
    subst h
    by_cases h : l.drop (gap false l) = []
    · rw [lexU_nil l h]; simp
    cases ht : tokL (l.drop (gap false l)) with
    | none => rw [lexU_bad l h ht]; simp
    | some a =>
      obtain ⟨k, s, z⟩ := a
      have hr := rest_len h ht
      rw [lexU_tok l h ht]
      intro t hm
      rcases List.mem_cons.1 hm with rfl | hm
      · exact ⟨_, z, h, ht⟩
      · exact ih _ hr _ rfl t hm
theorem lexU_show : ∀ ts : List (Nat × List UInt8), (∀ t ∈ ts, Good t) → lexU (showU ts) = (ts, false)
  | [], _ => lexU_nil _ rfl
  | (k, s) :: ts, h => by
    obtain ⟨l, z, hl, ht⟩ := h (k, s) (by simp)
    simp only at ht
    have ih := lexU_show ts fun t hm => h t (by simp [hm])
    have hz := tok_pos hl ht
    have e : showU ((k, s) :: ts) = l.take z ++ 32 :: showU ts := by simp [showU, tok_text ht]
    have hc := tok_cut hl ht 32 (showU ts) (by decide)
    cases l with
    | nil => exact absurd rfl hl
    | cons c t =>
      obtain ⟨y, rfl⟩ : ∃ y, z = y + 1 := ⟨z - 1, by omega⟩
      have hh := tok_head ht
      have hg : gap false ((c :: t).take (y + 1) ++ 32 :: showU ts) = 0 := by
        simp only [List.take_succ_cons, List.cons_append, gap, hh.2, Bool.false_eq_true, if_false, hh.1, false_and]
      have hlen : ((c :: t).take (y + 1)).length = y + 1 := by simp at hz ⊢; omega
      rw [e]
      have e0 : ((c :: t).take (y + 1) ++ 32 :: showU ts).drop (gap false ((c :: t).take (y + 1) ++ 32 :: showU ts)) = (c :: t).take (y + 1) ++ 32 :: showU ts := by rw [hg, List.drop_zero]
      rw [lexU_tok _ (by rw [e0]; simp) (by rw [e0]; exact hc), e0]
      have e3 : ((c :: t).take (y + 1) ++ 32 :: showU ts).drop (y + 1) = 32 :: showU ts := by
        rw [List.drop_append_of_le_length (by omega), List.drop_of_length_le (by omega)]
        rfl
      rw [e3, lexU_blank 32 _ (by decide), ih]
theorem show_len (l : List UInt8) : (showU (lexU l).1).length ≤ 2 * l.length := by
  induction h : l.length using Nat.strongRecOn generalizing l with
  | _ n ih =>
    subst h
    by_cases h : l.drop (gap false l) = []
    · rw [lexU_nil l h]; simp [showU]
    cases ht : tokL (l.drop (gap false l)) with
    | none => rw [lexU_bad l h ht]; simp [showU]
    | some a =>
      obtain ⟨k, s, z⟩ := a
      have hr := rest_len h ht
      have hi := ih _ hr _ rfl
      have hz := tok_pos h ht
      have hx := tok_text ht
      rw [lexU_tok l h ht]
      have e : showU ((k, s) :: (lexU ((l.drop (gap false l)).drop z)).1) = (l.drop (gap false l)).take z ++ 32 :: showU (lexU ((l.drop (gap false l)).drop z)).1 := by simp [showU, hx]
      rw [e]
      simp only [List.length_append, List.length_cons, List.length_take, List.length_drop] at hi hz ⊢
      omega

theorem lines_app (a b : List UInt8) : lines (a ++ b) = lines a + lines b := by simp [lines]
theorem lines_split (l : List UInt8) (g z : Nat) : lines (l.take g) + lines ((l.drop g).drop z) ≤ lines l := by
  have h1 : lines l = lines (l.take g) + lines (l.drop g) := by rw [← lines_app, List.take_append_drop]
  have h2 : lines (l.drop g) = lines ((l.drop g).take z) + lines ((l.drop g).drop z) := by rw [← lines_app, List.take_append_drop]
  omega
/-- Lines rise, and stay within the text's. -/
def Rise : Nat → Nat → List Tk → Prop
  | _, _, [] => True
  | n, m, t :: ts => n ≤ t.line ∧ t.line ≤ m ∧ Rise t.line m ts
theorem Rise.le {n k m : Nat} (h : k ≤ n) : ∀ {ts : List Tk}, Rise n m ts → Rise k m ts
  | [], _ => trivial
  | _ :: _, ⟨h1, h2, h3⟩ => ⟨Nat.le_trans h h1, h2, h3⟩
theorem Rise.max {n m k : Nat} (h : m ≤ k) : ∀ {ts : List Tk}, Rise n m ts → Rise n k ts
  | [], _ => trivial
  | _ :: _, ⟨h1, h2, h3⟩ => ⟨h1, Nat.le_trans h2 h, Rise.max h h3⟩
theorem lexF_rise : ∀ (f n : Nat) (l : List UInt8), Rise n (n + lines l) (lexF f n l).1 ∧ ∀ e, (lexF f n l).2 = some e → n ≤ e ∧ e ≤ n + lines l
  | 0, n, l => ⟨trivial, fun e h => by cases h⟩
  | f + 1, n, l => by
    by_cases h : l.drop (gap false l) = []
    · rw [lexF_nil f n l h]
      exact ⟨trivial, fun e h => by cases h⟩
    have hs := lines_split l (gap false l)
    cases ht : tokL (l.drop (gap false l)) with
    | none =>
      rw [lexF_bad f n l h ht]
      have := hs 0
      exact ⟨trivial, fun e h => by cases h; omega⟩
    | some a =>
      obtain ⟨k, s, z⟩ := a
      rw [lexF_tok f n l h ht]
      have := hs z
      obtain ⟨h1, h2⟩ := lexF_rise f (n + lines (l.take (gap false l))) ((l.drop (gap false l)).drop z)
      refine ⟨⟨by simp, by simp; omega, h1.max (by omega)⟩, fun e he => ?_⟩
      have := h2 e he
      omega
theorem lexF_kinds : ∀ (f n : Nat) (l : List UInt8), ∀ t ∈ (lexF f n l).1, 1 ≤ t.kind ∧ t.kind ≤ 5
  | 0, n, l => by simp [lexF]
  | f + 1, n, l => by
    by_cases h : l.drop (gap false l) = []
    · rw [lexF_nil f n l h]; simp
    cases ht : tokL (l.drop (gap false l)) with
    | none => rw [lexF_bad f n l h ht]; simp
    | some a =>
      obtain ⟨k, s, z⟩ := a
      rw [lexF_tok f n l h ht]
      intro t hm
      rcases List.mem_cons.1 hm with rfl | hm
      · have := tok_pos h ht
        exact ⟨this.2.2.1, this.2.2.2⟩
      · exact lexF_kinds f _ _ t hm
end Go.Proofs.YthjfkngfgomkbaaGreatDoor
