/- How a slice of tokens lies in memory. -/
import Derived.Test.YthjfkngfgomkbaaGreatDoorDlex
namespace Go.Proofs.YthjfkngfgomkbaaGreatDoor
open Go.RowKit Go.Shelf

/-- A token of whatever kind. -/
structure TokI where
  kind : Int
  s : ByteArray
  line : Int
def cellsI (t : TokI) : Array Value := #[.int .i64 t.kind, .string t.s, .int .i64 t.line]
def textI (t : TokI) : List UInt8 := if t.kind = 3 then quoteL t.s.data.toList else t.s.data.toList
def showI (ts : List TokI) : List UInt8 := ts.flatMap fun t => textI t ++ [32]
/-- A slice, nil or not, that lies below block B and holds the tokens ts. -/
def SliceOf (w : World) (B : Nat) (v : Value) (ts : List TokI) : Prop :=
  (v = .slice none 0 0 ∧ ts = []) ∨ ∃ (a : Addr) (cap : Nat), v = .slice (some a) ts.length cap ∧ ts.length ≤ cap ∧ cap ≤ maxLen ∧ a.block < B ∧
    ∀ (i : Nat) (t : TokI), ts[i]? = some t → w.cell? (a.add (i * 3)) = some (.int .i64 t.kind) ∧ w.cell? (a.add (i * 3 + 1)) = some (.string t.s) ∧ w.cell? (a.add (i * 3 + 2)) = some (.int .i64 t.line)
theorem add_block (a : Addr) (n : Nat) : (a.add n).block = a.block := by unfold Addr.add; split <;> rfl
theorem add_next (a : Addr) (i j : Nat) (hj : 0 < j) : a.add (i + j) = ⟨(a.add i).block, (a.add i).off + j, none⟩ := by
  unfold Addr.add
  by_cases hi : i = 0
  · subst hi
    rw [Nat.zero_add, if_neg (by omega), if_pos rfl]
  · rw [if_neg (by omega), if_neg hi]
    simp [Nat.add_assoc]
/-- What the walk reads of the i-th token. -/
theorem SliceOf.cells {w : World} {B : Nat} {a : Addr} {ts : List TokI} (h : ∀ (i : Nat) (t : TokI), ts[i]? = some t → w.cell? (a.add (i * 3)) = some (.int .i64 t.kind) ∧ w.cell? (a.add (i * 3 + 1)) = some (.string t.s) ∧ w.cell? (a.add (i * 3 + 2)) = some (.int .i64 t.line))
    (hB : a.block < B) {w' : World} (hb : Below B w w') {i : Nat} {t : TokI} (ht : ts[i]? = some t) : w'.cell? (a.add (i * 3)) = some (.int .i64 t.kind) ∧ w'.cell? ⟨(a.add (i * 3)).block, (a.add (i * 3)).off + 1, none⟩ = some (.string t.s) ∧ w'.cell? ⟨(a.add (i * 3)).block, (a.add (i * 3)).off + 2, none⟩ = some (.int .i64 t.line) := by
  obtain ⟨c0, c1, c2⟩ := h i t ht
  rw [← add_next a (i * 3) 1 (by omega), ← add_next a (i * 3) 2 (by omega)]
  exact ⟨(hb.cell (by rw [add_block]; exact hB)).trans c0, (hb.cell (by rw [add_block]; exact hB)).trans c1, (hb.cell (by rw [add_block]; exact hB)).trans c2⟩
theorem SliceOf.below {w w' : World} {B : Nat} {v : Value} {ts : List TokI} (h : SliceOf w B v ts) (hb : Below B w w') : SliceOf w' B v ts := by
  rcases h with h | ⟨a, cap, h1, h2, h3, h4, h5⟩
  · exact .inl h
  · refine .inr ⟨a, cap, h1, h2, h3, h4, fun i t ht => ?_⟩
    obtain ⟨c0, c1, c2⟩ := h5 i t ht
    exact ⟨(hb.cell (by rw [add_block]; exact h4)).trans c0, (hb.cell (by rw [add_block]; exact h4)).trans c1, (hb.cell (by rw [add_block]; exact h4)).trans c2⟩
theorem SliceOf.more {w : World} {B B' : Nat} {v : Value} {ts : List TokI} (h : SliceOf w B v ts) (hB : B ≤ B') : SliceOf w B' v ts := by
  rcases h with h | ⟨a, cap, h1, h2, h3, h4, h5⟩
  · exact .inl h
  · exact .inr ⟨a, cap, h1, h2, h3, by omega, h5⟩
def tokI (t : Tk) : TokI := ⟨t.kind, ⟨t.s.toArray⟩, t.line⟩
theorem tokCells_at : ∀ (ts : List Tk) (i : Nat) (t : Tk), ts[i]? = some t → (tokCells ts)[i * 3]? = some (.int .i64 (t.kind : Int)) ∧ (tokCells ts)[i * 3 + 1]? = some (.string ⟨t.s.toArray⟩) ∧ (tokCells ts)[i * 3 + 2]? = some (.int .i64 (t.line : Int))
  | [], i, t, h => by simp at h
  | u :: ts, 0, t, h => by
    simp only [List.getElem?_cons_zero, Option.some.injEq] at h
    subst h
    simp [tokCells, tokRow]
  | u :: ts, i + 1, t, h => by
    have ih := tokCells_at ts i t (by simpa using h)
    have e : tokCells (u :: ts) = tokRow u ++ tokCells ts := by simp [tokCells]
    have hl : (tokRow u).length = 3 := rfl
    rw [e]
    refine ⟨?_, ?_, ?_⟩
    · rw [List.getElem?_append_right (by omega), hl, show (i + 1) * 3 - 3 = i * 3 by omega]; exact ih.1
    · rw [List.getElem?_append_right (by omega), hl, show (i + 1) * 3 + 1 - 3 = i * 3 + 1 by omega]; exact ih.2.1
    · rw [List.getElem?_append_right (by omega), hl, show (i + 1) * 3 + 2 - 3 = i * 3 + 2 by omega]; exact ih.2.2
theorem SliceOf.of_own {w : World} {base : Nat} {v : Value} {ts : List Tk} (h : w.ownsRow base 50 3 v ts.length (tokCells ts)) : SliceOf w w.heap.size v (ts.map tokI) := by
  rcases h.2 with ⟨rfl, h0⟩ | ⟨g, cap, cur, hv, hb, hg, hn, hc, hcur, ht⟩
  · exact .inl ⟨rfl, by rw [List.eq_nil_of_length_eq_zero h0]; rfl⟩
  · refine .inr ⟨⟨g, 0, none⟩, cap, by rw [hv, List.length_map], by rw [List.length_map]; exact hn, hc, (Array.getElem?_eq_some_iff.1 hg).1, fun i t hi => ?_⟩
    rw [List.getElem?_map, Option.map_eq_some_iff] at hi
    obtain ⟨u, hu, rfl⟩ := hi
    have hcs := h.cells (g := g) (by rw [hv]; rfl)
    obtain ⟨c0, c1, c2⟩ := tokCells_at ts i u hu
    exact ⟨hcs _ _ c0, hcs _ _ c1, hcs _ _ c2⟩

end Go.Proofs.YthjfkngfgomkbaaGreatDoor
