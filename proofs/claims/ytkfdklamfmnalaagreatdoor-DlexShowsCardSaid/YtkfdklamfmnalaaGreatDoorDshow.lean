/- dlex.textOf and Show answer tokens' texts, a blank behind each; and how a slice of tokens lies in memory. -/
import Derived.Test.YtkfdklamfmnalaaGreatDoorDlex
namespace Go.Proofs.YtkfdklamfmnalaaGreatDoor
open Go.RowKit Go.Shelf

/-- A token of whatever kind. -/
structure TokI where
  kind : Int
  s : ByteArray
  line : Int
def cellsI (t : TokI) : Array Value := #[.int .i64 t.kind, .string t.s, .int .i64 t.line]
def textI (t : TokI) : List UInt8 := if t.kind = 3 then quoteL t.s.data.toList else t.s.data.toList
def showI (ts : List TokI) : List UInt8 := ts.flatMap fun t => textI t ++ [32]
/-- A slice, nil or not, that lies below block B and holds the tokens ts. -/
def SliceOf (w : World) (B : Nat) (v : Value) (ts : List TokI) : Prop :=
  (v = .slice none 0 0 ∧ ts = []) ∨ ∃ (a : Addr) (cap : Nat), v = .slice (some a) ts.length cap ∧ ts.length ≤ cap ∧ cap ≤ maxLen ∧ a.block < B ∧
    ∀ (i : Nat) (t : TokI), ts[i]? = some t → w.cell? (a.add (i * 3)) = some (.int .i64 t.kind) ∧ w.cell? (a.add (i * 3 + 1)) = some (.string t.s) ∧ w.cell? (a.add (i * 3 + 2)) = some (.int .i64 t.line)
theorem add_block (a : Addr) (n : Nat) : (a.add n).block = a.block := by unfold Addr.add; split <;> rfl
theorem add_next (a : Addr) (i j : Nat) (hj : 0 < j) : a.add (i + j) = ⟨(a.add i).block, (a.add i).off + j, none⟩ := by
  unfold Addr.add
  by_cases hi : i = 0
  · subst hi
    rw [Nat.zero_add, if_neg (by omega), if_pos rfl]
  · rw [if_neg (by omega), if_neg hi]
    simp [Nat.add_assoc]
/-- What the walk reads of the i-th token. -/
theorem SliceOf.cells {w : World} {B : Nat} {a : Addr} {ts : List TokI} (h : ∀ (i : Nat) (t : TokI), ts[i]? = some t → w.cell? (a.add (i * 3)) = some (.int .i64 t.kind) ∧ w.cell? (a.add (i * 3 + 1)) = some (.string t.s) ∧ w.cell? (a.add (i * 3 + 2)) = some (.int .i64 t.line))
    (hB : a.block < B) {w' : World} (hb : Below B w w') {i : Nat} {t : TokI} (ht : ts[i]? = some t) : w'.cell? (a.add (i * 3)) = some (.int .i64 t.kind) ∧ w'.cell? ⟨(a.add (i * 3)).block, (a.add (i * 3)).off + 1, none⟩ = some (.string t.s) ∧ w'.cell? ⟨(a.add (i * 3)).block, (a.add (i * 3)).off + 2, none⟩ = some (.int .i64 t.line) := by
  obtain ⟨c0, c1, c2⟩ := h i t ht
  rw [← add_next a (i * 3) 1 (by omega), ← add_next a (i * 3) 2 (by omega)]
  exact ⟨(hb.cell (by rw [add_block]; exact hB)).trans c0, (hb.cell (by rw [add_block]; exact hB)).trans c1, (hb.cell (by rw [add_block]; exact hB)).trans c2⟩
theorem SliceOf.below {w w' : World} {B : Nat} {v : Value} {ts : List TokI} (h : SliceOf w B v ts) (hb : Below B w w') : SliceOf w' B v ts := by
  rcases h with h | ⟨a, cap, h1, h2, h3, h4, h5⟩
  · exact .inl h
  · refine .inr ⟨a, cap, h1, h2, h3, h4, fun i t ht => ?_⟩
    obtain ⟨c0, c1, c2⟩ := h5 i t ht
    exact ⟨(hb.cell (by rw [add_block]; exact h4)).trans c0, (hb.cell (by rw [add_block]; exact h4)).trans c1, (hb.cell (by rw [add_block]; exact h4)).trans c2⟩
theorem SliceOf.more {w : World} {B B' : Nat} {v : Value} {ts : List TokI} (h : SliceOf w B v ts) (hB : B ≤ B') : SliceOf w B' v ts := by
  rcases h with h | ⟨a, cap, h1, h2, h3, h4, h5⟩
  · exact .inl h
  · exact .inr ⟨a, cap, h1, h2, h3, by omega, h5⟩
def tokI (t : Tk) : TokI := ⟨t.kind, ⟨t.s.toArray⟩, t.line⟩
theorem tokCells_at : ∀ (ts : List Tk) (i : Nat) (t : Tk), ts[i]? = some t → (tokCells ts)[i * 3]? = some (.int .i64 (t.kind : Int)) ∧ (tokCells ts)[i * 3 + 1]? = some (.string ⟨t.s.toArray⟩) ∧ (tokCells ts)[i * 3 + 2]? = some (.int .i64 (t.line : Int))
  | [], i, t, h => by simp at h
  | u :: ts, 0, t, h => by
    simp only [List.getElem?_cons_zero, Option.some.injEq] at h
    subst h
    simp [tokCells, tokRow]
  | u :: ts, i + 1, t, h => by
    have ih := tokCells_at ts i t (by simpa using h)
    have e : tokCells (u :: ts) = tokRow u ++ tokCells ts := by simp [tokCells]
    have hl : (tokRow u).length = 3 := rfl
    rw [e]
    refine ⟨?_, ?_, ?_⟩
    · rw [List.getElem?_append_right (by omega), hl, show (i + 1) * 3 - 3 = i * 3 by omega]; exact ih.1
    · rw [List.getElem?_append_right (by omega), hl, show (i + 1) * 3 + 1 - 3 = i * 3 + 1 by omega]; exact ih.2.1
    · rw [List.getElem?_append_right (by omega), hl, show (i + 1) * 3 + 2 - 3 = i * 3 + 2 by omega]; exact ih.2.2
theorem SliceOf.of_own {w : World} {base : Nat} {v : Value} {ts : List Tk} (h : w.ownsRow base 33 3 v ts.length (tokCells ts)) : SliceOf w w.heap.size v (ts.map tokI) := by
  rcases h.2 with ⟨rfl, h0⟩ | ⟨g, cap, cur, hv, hb, hg, hn, hc, hcur, ht⟩
  · exact .inl ⟨rfl, by rw [List.eq_nil_of_length_eq_zero h0]; rfl⟩
  · refine .inr ⟨⟨g, 0, none⟩, cap, by rw [hv, List.length_map], by rw [List.length_map]; exact hn, hc, (Array.getElem?_eq_some_iff.1 hg).1, fun i t hi => ?_⟩
    rw [List.getElem?_map, Option.map_eq_some_iff] at hi
    obtain ⟨u, hu, rfl⟩ := hi
    have hcs := h.cells (g := g) (by rw [hv]; rfl)
    obtain ⟨c0, c1, c2⟩ := tokCells_at ts i u hu
    exact ⟨hcs _ _ c0, hcs _ _ c1, hcs _ _ c2⟩

set_option maxHeartbeats 1000000 in
theorem textOf_c (t : TokI) (w : World) (hs : t.s.size ≤ 1073741824) :
    Calls Tryz.prog 19 #[.agg #[.int .i64 t.kind, .string t.s, .int .i64 t.line]] w fun e w' => e = .returned (.string ⟨(textI t).toArray⟩) ∧ Below w.heap.size w w' := by
  obtain ⟨k, s, n⟩ := t
  simp only at hs ⊢
  by_cases hk : k = 3
  · subst hk
    have Ht : Hid (textI ⟨3, s, n⟩ = quoteL s.data.toList) := Lib.hid (by unfold textI; rw [if_pos rfl])
    go_enter Tryz.func19, Tryz.ntmps19
    go_wp2_with fail
    refine (quote_c s hs _).mono ?_
    rintro e w1 ⟨rfl, b1⟩
    go_wp2
    go_ret
    exact ⟨by rw [Ht.out]; rfl, ((Below.refl _ _).alloc (Nat.le_refl _) _).trans (b1.mono (by simp))⟩
  · have Ht : Hid (textI ⟨k, s, n⟩ = s.data.toList) := Lib.hid (by unfold textI; rw [if_neg hk])
    have hk' : (k == 3) = false := by simp [hk]
    clear hk
    go_enter Tryz.func19, Tryz.ntmps19
    go_wp2
    go_ret
    exact ⟨by rw [Ht.out, str_eta]; rfl, (Below.refl _ _).alloc (Nat.le_refl _) _⟩

theorem showI_take (ts : List TokI) (k : Nat) (t : TokI) (h : ts[k]? = some t) : showI (ts.take (k + 1)) = showI (ts.take k) ++ textI t ++ [32] := by
  have hk : k < ts.length := (List.getElem?_eq_some_iff.1 h).1
  have e : ts[k] = t := (List.getElem?_eq_some_iff.1 h).2
  rw [List.take_succ_eq_append_getElem hk, e]
  simp [showI]

set_option maxHeartbeats 4000000 in
theorem show_c (v : Value) (ts : List TokI) (w : World) (hv : SliceOf w w.heap.size v ts) (hs : ∀ t ∈ ts, t.s.size ≤ 1073741824) (hl : (showI ts).length ≤ 1073741824) :
    Calls Tryz.prog 11 #[v] w fun e w' => e = .returned (.string ⟨(showI ts).toArray⟩) ∧ Below w.heap.size w w' := by
  rcases hv with ⟨rfl, rfl⟩ | ⟨a, cap, rfl, h1, h2, h3, h4⟩
  · have hb : Bd w.heap.size w.heap.size [] (w.alloc (.cells #[.pointer none, .slice none 0 0] 52)) := Lib.IsBuilderF.of (Lib.fresh_isBuilder 52 5 w)
    go_enter Tryz.func11, Tryz.ntmps11
    go_wp2
    go_loopw [8] (fun i wr => i = .int .i64 0 ∧ Bd w.heap.size w.heap.size [] wr ∧ Below w.heap.size w wr) (fun _ _ => 0)
    case atStart => exact ⟨rfl, hb, (Below.refl _ _).alloc (Nat.le_refl _) _⟩
    case round =>
      obtain ⟨rfl, hb', hB⟩ := hrel
      go_wp2_with fail
      refine (bstr_c _ _ _ wr hb' hB.size).mono ?_
      rintro e w5 ⟨rfl, b5, k5⟩
      go_wp2
      go_ret
      exact ⟨rfl, hB.trans k5.below⟩
  · have hb : Bd w.heap.size w.heap.size [] (w.alloc (.cells #[.pointer none, .slice none 0 0] 52)) := Lib.IsBuilderF.of (Lib.fresh_isBuilder 52 5 w)
    have H4 := Lib.hid h4
    have Hs := Lib.hid hs
    have Hl := Lib.hid hl
    unfold maxLen at h2
    clear h4 hs hl
    go_enter Tryz.func11, Tryz.ntmps11
    go_wp2
    go_loopw [8] (fun i wr => ∃ k : Nat, k ≤ ts.length ∧ i = .int .i64 k ∧ Bd w.heap.size w.heap.size (showI (ts.take k)) wr ∧ Below w.heap.size w wr) (fun i _ => ts.length - (intOf i).toNat)
    case atStart => exact ⟨0, Nat.zero_le _, rfl, hb, (Below.refl _ _).alloc (Nat.le_refl _) _⟩
    case round =>
      obtain ⟨k, hk, rfl, hb', hB⟩ := hrel
      by_cases hlt : k < ts.length
      · obtain ⟨t, ht⟩ : ∃ t, ts[k]? = some t := ⟨ts[k], List.getElem?_eq_getElem hlt⟩
        obtain ⟨d0, d1, d2⟩ := SliceOf.cells H4.out h3 hB ht
        have hts : t.s.size ≤ 1073741824 := Hs.out t (List.mem_of_getElem? ht)
        have Hn := Lib.hid (showI_take ts k t ht)
        have hlen : (showI (ts.take k)).length + (textI t).length + 1 ≤ 1073741824 := by
          have h1 := Hl.out
          have h2 : (showI (ts.take (k + 1))).length ≤ (showI ts).length := by
            have : showI ts = showI (ts.take (k + 1)) ++ showI (ts.drop (k + 1)) := by rw [showI, showI, showI, ← List.flatMap_append, List.take_append_drop]
            rw [this, List.length_append]
            omega
          rw [Hn.out] at h2
          simp only [List.length_append, List.length_cons, List.length_nil] at h2
          omega
        have hBs := hB.size
        clear ht
        go_wp2_with fail
        refine (textOf_c t _ hts).mono ?_
        rintro e w1 ⟨rfl, b1⟩
        have hbd1 : Bd w.heap.size w.heap.size (showI (ts.take k)) w1 := (hb'.kept (World.grownBy_alloc wr (.cells (cellsI t) 33) none) (fun r e => by cases e)).kept (grownBy_below b1) (fun r e => by cases e)
        have hB1 : Below w.heap.size w w1 := (hB.alloc hBs _).trans (b1.mono (by simp; omega))
        have hlt1 : (textI t).length ≤ 1073741824 := by omega
        go_wp2_with fail
        refine (writeString_c _ _ _ ⟨(textI t).toArray⟩ w1 hbd1 (by show _ + (textI t).toArray.size ≤ _; rw [List.size_toArray]; omega) hB1.size).mono ?_
        rintro e w2 ⟨rfl, b2, k2⟩
        go_wp2_with fail
        refine (writeByte_c _ _ _ 32 _ rfl w2 b2 (by show (_ ++ (textI t)).length + 1 ≤ _; rw [List.length_append]; omega) (Nat.le_trans hB1.size k2.below.size)).mono ?_
        rintro e w3 ⟨rfl, b3, k3⟩
        go_wp2
        go_roundw
        case rel => exact ⟨k + 1, hlt, by go_num, by rw [Hn.out]; exact b3, (hB1.trans k2.below).trans k3.below⟩
        case measure => simp [intOf]; omega
      · obtain rfl : k = ts.length := by omega
        have hk' : ¬ ((ts.length : Int) < (ts.length : Int)) := by omega
        go_wp2_with fail
        refine (bstr_c _ _ _ wr hb' hB.size).mono ?_
        rintro e w5 ⟨rfl, b5, k5⟩
        go_wp2
        go_ret
        exact ⟨rfl, hB.trans k5.below⟩
end Go.Proofs.YtkfdklamfmnalaaGreatDoor
