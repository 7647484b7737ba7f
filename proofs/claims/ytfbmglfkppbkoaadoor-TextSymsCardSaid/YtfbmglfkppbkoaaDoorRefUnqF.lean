/- Facts for soritesref01.Unquote: a symbol's text taken apart sign by sign, and a slice of bytes of one's own turned into a text. -/
import Derived.Test.YtfbmglfkppbkoaaDoorNext
import Derived.Laws.BytesArg
namespace Go.Proofs.YtfbmglfkppbkoaaDoor
open Go.RowKit

def unqU (l : List UInt8) : Option (List UInt8) := unqS (seqS l.length l)
theorem seqS_fuel : ∀ (f g : Nat) (l : List UInt8), l.length ≤ f → l.length ≤ g → seqS f l = seqS g l
  | 0, g, l, hf, _ => by
    have : l = [] := List.eq_nil_of_length_eq_zero (by omega)
    subst this
    rw [seqS_nil, seqS_nil]
  | f + 1, g, l, hf, hg => by
    by_cases hne : l = []
    · subst hne; rw [seqS_nil, seqS_nil]
    have hpos : 1 ≤ l.length := by cases l with | nil => exact absurd rfl hne | cons => simp
    obtain ⟨g', rfl⟩ : ∃ g', g = g' + 1 := ⟨g - 1, by omega⟩
    cases hr : firstS l with
    | none => rw [seqS_none f l hne hr, seqS_none g' l hne hr]
    | some x =>
      obtain ⟨c, n⟩ := x
      have hn := firstS_len l c n hne hr
      rw [seqS_some f l c n hne hr, seqS_some g' l c n hne hr, seqS_fuel f g' (l.drop n) (by simp; omega) (by simp; omega)]
theorem unqU_nil : unqU [] = some [] := rfl
theorem unqU_none (l : List UInt8) (hne : l ≠ []) (h : firstS l = none) : unqU l = none := by
  unfold unqU
  have hpos : 1 ≤ l.length := by cases l with | nil => exact absurd rfl hne | cons => simp
  obtain ⟨g, hg⟩ : ∃ g, l.length = g + 1 := ⟨l.length - 1, by omega⟩
  rw [hg, seqS_none g l hne h]
  rfl
theorem unqU_some (l : List UInt8) (c : UInt8) (n : Nat) (hne : l ≠ []) (h : firstS l = some (c, n)) : unqU l = (unqU (l.drop n)).map (c :: ·) := by
  unfold unqU
  have hn := firstS_len l c n hne h
  obtain ⟨g, hg⟩ : ∃ g, l.length = g + 1 := ⟨l.length - 1, by omega⟩
  rw [hg, seqS_some g l c n hne h, seqS_fuel g (l.drop n).length (l.drop n) (by simp; omega) (Nat.le_refl _)]
  unfold unqS
  simp only [List.all_cons, Bool.not_false, Bool.true_and, List.map_cons]
  split <;> rfl

theorem unqL_short {l : List UInt8} (h : l.length < 2) : unqL l = none := by
  cases hq : unqL l with
  | none => rfl
  | some t =>
    have e := unqL_back hq
    have : (quoteL t).length = l.length := by rw [e]
    unfold quoteL at this
    simp only [List.length_cons, List.length_append, List.length_nil] at this
    omega
theorem unqL_first {l : List UInt8} (h : l.getD 0 0 ≠ 34) : unqL l = none := by
  cases hq : unqL l with
  | none => rfl
  | some t =>
    have e := unqL_back hq
    exact absurd (by rw [← e]; rfl) h
theorem unqL_last {l : List UInt8} (h : l.getD (l.length - 1) 0 ≠ 34) : unqL l = none := by
  cases hq : unqL l with
  | none => rfl
  | some t =>
    have e := unqL_back hq
    refine absurd ?_ h
    rw [← e]
    unfold quoteL
    rw [show (34 :: (t.flatMap sign ++ [34])).length - 1 = (34 :: t.flatMap sign).length by simp, ← List.cons_append]
    simp [List.getD_eq_getElem?_getD]
theorem unqL_mid {l : List UInt8} (h2 : 2 ≤ l.length) (h0 : l.getD 0 0 = 34) (h1 : l.getD (l.length - 1) 0 = 34) : unqL l = unqU ((l.drop 1).take (l.length - 2)) := by
  have e : l = 34 :: ((l.drop 1).take (l.length - 2) ++ [34]) := by
    cases l with
    | nil => simp at h2
    | cons x r =>
      simp only [List.getD_cons_zero] at h0
      subst h0
      simp only [List.drop_succ_cons, List.drop_zero, List.length_cons] at h2 h1 ⊢
      congr 1
      have hr : 1 ≤ r.length := by omega
      have h3 : r.drop (r.length - 1) = [34] := by
        rw [List.drop_eq_getElem_cons (by omega)]
        have h4 : r[r.length - 1]'(by omega) = 34 := by
          rw [List.getD_eq_getElem?_getD, show r.length + 1 - 1 = (r.length - 1) + 1 by omega, List.getElem?_cons_succ, List.getElem?_eq_getElem (by omega)] at h1
          simpa using h1
        rw [h4, List.drop_of_length_le (by omega)]
      rw [show r.length + 1 - 2 = r.length - 1 by omega, ← h3, List.take_append_drop]
  obtain ⟨m, hm⟩ : ∃ m, (l.drop 1).take (l.length - 2) = m := ⟨_, rfl⟩
  rw [hm] at e ⊢
  unfold unqL
  rw [e, betw_quote]
  rfl

theorem conv_own {W : World} {B : Nat} {v : Value} {n : Nat} {bs : List UInt8} (h : W.ownsRow B 5 1 v n (Lib.byteCells bs)) : (convert 46 9 v).run Tryd.prog W = .ok (.string ⟨bs.toArray⟩) W := by
  have h0 := h
  obtain ⟨hl, h⟩ := h
  rcases h with ⟨rfl, rfl⟩ | ⟨g, cap, cur, rfl, _, hg, hn, _, hc, ht⟩
  · have : bs = [] := by
      cases bs with
      | nil => rfl
      | cons => simp [Lib.byteCells] at hl
    subst this
    rw [run_convert_bytes_string _ 46 9 5 _ _ _ Tryd.underlying46 Tryd.underlying5 Tryd.underlying9]
    simp [Conv.bytesToString, Sem.run_pure]
    rfl
  · have hl2 : (loadCells ⟨g, 0, none⟩ n).run Tryd.prog W = .ok ((bs.map fun b => (b.toNat : Int)).map (Value.int .u8)).toArray W := by
      have := run_loadCells_list (P := Tryd.prog) W ⟨g, 0, none⟩ (Lib.byteCells bs) (h0.cells rfl)
      rw [hl, Nat.mul_one] at this
      simpa [Lib.byteCells, Function.comp_def] using this
    rw [run_convert_bytes_string _ 46 9 5 _ _ _ Tryd.underlying46 Tryd.underlying5 Tryd.underlying9, run_bytesToString W _ n cap _ hl2, foldl_push_bytes]
    simp [ByteArray.empty, ByteArray.emptyWithCapacity, Function.comp_def]
    rfl
end Go.Proofs.YtfbmglfkppbkoaaDoor
