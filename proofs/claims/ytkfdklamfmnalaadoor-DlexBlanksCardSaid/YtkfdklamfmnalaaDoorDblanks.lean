/- The law DlexBlanks answers true, in every world that holds the listed variables. -/
import Derived.Test.YtkfdklamfmnalaaDoorDmath
import Derived.Test.YtkfdklamfmnalaaDoorDalike
import Derived.Test.YtkfdklamfmnalaaDoorConv
namespace Go.Proofs.YtkfdklamfmnalaaDoor
open Go.RowKit

theorem wpList_unguard {P : Program} {ops : Array Oper} {Q : Exit → Act → World → Prop} {a : Act} {w : World} {rest : List Oper} {o : Oper}
    (hw : Region.wanted o (yielded ops a.tmps) = true) (h : wpList P ops Q ({ o with guard := none } :: rest) a w) : wpList P ops Q (o :: rest) a w := by
  unfold wpList at h ⊢
  rw [if_pos hw]
  rw [if_pos (by simp [Region.wanted])] at h
  exact h

def cellsAll (ts : List TokI) : List Value := ts.flatMap fun t => (cellsI t).toList
theorem cellsAll_len (ts : List TokI) : (cellsAll ts).length = ts.length * 3 := by
  induction ts with
  | nil => rfl
  | cons t ts ih => simp only [cellsAll, List.flatMap_cons, List.length_append, List.length_cons] at ih ⊢; rw [ih]; simp [cellsI]; omega
theorem cellsAll_tok (ts : List Tk) : tokCells ts = cellsAll (ts.map tokI) := by
  induction ts with
  | nil => rfl
  | cons t ts ih => simp only [tokCells, cellsAll, List.map_cons, List.flatMap_cons] at ih ⊢; rw [ih]; rfl
theorem cellsAll_one (ts : List TokI) : ∀ u ∈ cellsAll ts, u.oneCell' = true := by
  intro u hu
  simp only [cellsAll, List.mem_flatMap] at hu
  obtain ⟨t, _, hu⟩ := hu
  simp only [cellsI, List.mem_cons, List.not_mem_nil, or_false] at hu
  rcases hu with rfl | rfl | rfl <;> rfl
theorem cellsAll_at : ∀ (ts : List TokI) (i : Nat) (t : TokI), ts[i]? = some t → (cellsAll ts)[i * 3]? = some (.int .i64 t.kind) ∧ (cellsAll ts)[i * 3 + 1]? = some (.string t.s) ∧ (cellsAll ts)[i * 3 + 2]? = some (.int .i64 t.line)
  | [], i, t, h => by simp at h
  | u :: ts, 0, t, h => by
    simp only [List.getElem?_cons_zero, Option.some.injEq] at h
    subst h
    simp [cellsAll, cellsI]
  | u :: ts, i + 1, t, h => by
    have ih := cellsAll_at ts i t (by simpa using h)
    have e : cellsAll (u :: ts) = (cellsI u).toList ++ cellsAll ts := by simp [cellsAll]
    have hl : (cellsI u).toList.length = 3 := rfl
    rw [e]
    refine ⟨?_, ?_, ?_⟩
    · rw [List.getElem?_append_right (by omega), hl, show (i + 1) * 3 - 3 = i * 3 by omega]; exact ih.1
    · rw [List.getElem?_append_right (by omega), hl, show (i + 1) * 3 + 1 - 3 = i * 3 + 1 by omega]; exact ih.2.1
    · rw [List.getElem?_append_right (by omega), hl, show (i + 1) * 3 + 2 - 3 = i * 3 + 2 by omega]; exact ih.2.2
theorem SliceOf.of_ownI {w : World} {base n : Nat} {v : Value} {xs : List Value} {ts : List TokI} (h : w.ownsRow base 43 3 v n xs) (en : n = ts.length) (ex : xs = cellsAll ts) : SliceOf w w.heap.size v ts := by
  subst en
  subst ex
  rcases h.2 with ⟨rfl, h0⟩ | ⟨g, cap, cur, hv, hb, hg, hn, hc, hcur, ht⟩
  · exact .inl ⟨rfl, List.eq_nil_of_length_eq_zero h0⟩
  · refine .inr ⟨⟨g, 0, none⟩, cap, hv, hn, hc, (Array.getElem?_eq_some_iff.1 hg).1, fun i t hi => ?_⟩
    have hcs := h.cells (g := g) (by rw [hv]; rfl)
    obtain ⟨c0, c1, c2⟩ := cellsAll_at ts i t hi
    exact ⟨hcs _ _ c0, hcs _ _ c1, hcs _ _ c2⟩
/-- What Lex answers as a source of an append: nil or not. -/
theorem src_of_own {w : World} {base : Nat} {v : Value} {ts : List Tk} (h : w.ownsRow base 43 3 v ts.length (tokCells ts)) :
    ∃ (ao : Option Addr) (cp : Nat), v = .slice ao ts.length cp ∧ (ao = none → ts.length = 0 ∧ cp = 0) ∧ ∀ w', Below w.heap.size w w' → ∀ ad, ao = some ad → ∀ j u, (cellsAll (ts.map tokI))[j]? = some u → w'.cell? (ad.add j) = some u := by
  rcases h.2 with ⟨rfl, h0⟩ | ⟨g, cap, cur, hv, hb, hg, hn, hc, hcur, ht⟩
  · exact ⟨none, 0, by rw [h0], fun _ => ⟨h0, rfl⟩, (fun _ _ ad h => by cases h)⟩
  · refine ⟨some ⟨g, 0, none⟩, cap, hv, (fun h => by cases h), fun w' hb ad had j u hu => ?_⟩
    cases had
    rw [← cellsAll_tok] at hu
    exact (hb.cell (by rw [add_block]; exact (Array.getElem?_eq_some_iff.1 hg).1)).trans (h.cells (g := g) (by rw [hv]; rfl) j u hu)

/-- Blanks and comments ahead, and between two texts. -/
theorem blanks_math (b s t cc : List UInt8) (hb : b.all blankB = true) (hc : (10 : UInt8) ∉ cc) :
    lexU (b ++ (s ++ 10 :: (47 :: 47 :: cc ++ 10 :: (b ++ (t ++ 10 :: 47 :: 47 :: cc))))) = if (lexU s).2 = true then ((lexU s).1, true) else if (lexU t).2 = true then ((lexU s).1 ++ (lexU t).1, true) else ((lexU s).1 ++ (lexU t).1, false) := by
  rw [lexU_blanks _ b hb, lexU_join, lexU_join, lexU_comment cc hc, lexU_blanks _ b hb, lexU_join, lexU_comment cc hc]
  by_cases h1 : (lexU s).2 = true
  · rw [if_pos h1, if_pos h1]
  · rw [if_neg h1, if_neg h1]
    by_cases h2 : (lexU t).2 = true
    · simp [h2]
    · simp [h2]

/-- The whole text. -/
def allT (B s C t : ByteArray) : ByteArray := B ++ s ++ ⟨#[10]⟩ ++ C ++ ⟨#[10]⟩ ++ B ++ t ++ ⟨#[10]⟩ ++ C
theorem allT_data (B s C t : ByteArray) (cc : List UInt8) (hC : C.data.toList = 47 :: 47 :: cc) :
    (allT B s C t).data.toList = B.data.toList ++ (s.data.toList ++ 10 :: (47 :: 47 :: cc ++ 10 :: (B.data.toList ++ (t.data.toList ++ 10 :: 47 :: 47 :: cc)))) := by
  simp [allT, ByteArray.data_append, hC]
theorem allT_size (B s C t : ByteArray) (h1 : B.size ≤ 101) (h2 : s.size ≤ 3000) (h3 : C.size ≤ 102) (h4 : t.size ≤ 3000) : (allT B s C t).size ≤ 7000 := by
  have e : ∀ x : UInt8, (⟨#[x]⟩ : ByteArray).size = 1 := fun _ => rfl
  simp only [allT, ByteArray.size_append, e]
  omega
theorem all_err {B s C t : ByteArray} {cc : List UInt8} (h1 : B.size ≤ 101) (h2 : s.size ≤ 3000) (h3 : C.size ≤ 102) (h4 : t.size ≤ 3000) (hC : C.data.toList = 47 :: 47 :: cc) (hb : B.data.toList.all blankB = true) (hc : (10 : UInt8) ∉ cc)
    (h : (lexL s.data.toList).2.isSome = true ∨ (lexL t.data.toList).2.isSome = true) : ∃ m, lexR (allT B s C t).data.toList = ([], m, 20) := by
  have hm := blanks_math B.data.toList s.data.toList t.data.toList cc hb hc
  rw [← allT_data B s C t cc hC] at hm
  have hz := allT_size B s C t h1 h2 h3 h4
  have h5 : (lexU (allT B s C t).data.toList).2 = true := by
    rw [hm]
    rcases h with h | h
    · rw [← lexU_snd] at h
      rw [if_pos h]
    · rw [← lexU_snd] at h
      split <;> simp
  rw [lexU_snd] at h5
  obtain ⟨m, he⟩ := Option.isSome_iff_exists.1 h5
  exact ⟨m, lexR_err (by rw [data_len]; omega) he⟩
theorem all_ok {B s C t : ByteArray} {cc : List UInt8} (h1 : B.size ≤ 101) (h2 : s.size ≤ 3000) (h3 : C.size ≤ 102) (h4 : t.size ≤ 3000) (hC : C.data.toList = 47 :: 47 :: cc) (hb : B.data.toList.all blankB = true) (hc : (10 : UInt8) ∉ cc)
    (hs : (lexL s.data.toList).2 = none) (ht : (lexL t.data.toList).2 = none) : ∃ zs, lexR (allT B s C t).data.toList = (zs, 0, 0) ∧ alikeB (zs.map tokI) ((lexL s.data.toList).1.map tokI ++ (lexL t.data.toList).1.map tokI) = true := by
  have hm := blanks_math B.data.toList s.data.toList t.data.toList cc hb hc
  rw [← allT_data B s C t cc hC] at hm
  have hz := allT_size B s C t h1 h2 h3 h4
  rw [if_neg (by rw [lexU_snd, hs]; simp), if_neg (by rw [lexU_snd, ht]; simp)] at hm
  have h5 := lexU_snd (allT B s C t).data.toList
  have h6 := lexU_fst (allT B s C t).data.toList
  rw [hm] at h5 h6
  refine ⟨_, lexR_ok (by rw [data_len]; omega) (by simpa using h5.symm), ?_⟩
  rw [← List.map_append]
  refine alike_of ?_
  rw [← h6, List.map_append, ← lexU_fst, ← lexU_fst]

end Go.Proofs.YtkfdklamfmnalaaDoor
