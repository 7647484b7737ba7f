/- dtree.hasShape, canBeReckoned, isCountOfColumns. -/
import Derived.Test.YtbpdfmpfnbdeoaaDoorTsmall
namespace Go.Proofs.YtbpdfmpfnbdeoaaDoor
open Go.RowKit

theorem kept {W w1 : World} {B : Nat} (hb : Below B W w1) : (∀ b o, b < B → w1.cell? ⟨b, o, none⟩ = W.cell? ⟨b, o, none⟩) ∧ (∀ b o, b < B → w1.frozen? ⟨b, o, none⟩ = W.frozen? ⟨b, o, none⟩) :=
  ⟨fun b o h => hb.cell (p := ⟨b, o, none⟩) h, fun b o h => hb.frozen (p := ⟨b, o, none⟩) h⟩
theorem count_c (n : Int) (w : World) : Calls Tryd.prog 125 #[.int .i64 n] w fun e w' => e = .returned (.bool (decide (1 ≤ n) && decide (n ≤ 8))) ∧ w = w' := by
  by_cases h1 : 1 ≤ n
  · by_cases h2 : n ≤ 8
    · go_enter Tryd.func125, Tryd.ntmps125
      go_wp2
      go_ret
      exact ⟨retB (by simp <;> omega), rfl⟩
    · go_enter Tryd.func125, Tryd.ntmps125
      go_wp2
      go_ret
      exact ⟨retB (by simp <;> omega), rfl⟩
  · go_enter Tryd.func125, Tryd.ntmps125
    go_wp2
    go_ret
    exact ⟨retB (by simp <;> omega), rfl⟩
theorem rec_c (t : Tm) (w : World) (cs : List Value) (hc : TmC w w.heap.size t cs) :
    Calls Tryd.prog 142 #[.agg cs.toArray] w fun e w' => e = .returned (.bool (recB t)) ∧ Below w.heap.size w w' := by
  obtain ⟨p1, q1, rfl, _, _, _, _⟩ := hc.look
  have Hz : Hid (recB t = ((t.op != 3) && (t.op != 4))) := Lib.hid rfl
  clear hc
  obtain ⟨b1, hb1⟩ : ∃ b, (t.op != 3) = b := ⟨_, rfl⟩
  obtain ⟨b2, hb2⟩ : ∃ b, (t.op != 4) = b := ⟨_, rfl⟩
  cases b1
  · go_enter Tryd.func142, Tryd.ntmps142
    go_wp2
    go_ret
    exact ⟨retB (by rw [Hz.out, hb1]; rfl), (Below.refl _ _).alloc (Nat.le_refl _) _⟩
  · cases b2
    · go_enter Tryd.func142, Tryd.ntmps142
      go_wp2
      go_ret
      exact ⟨retB (by rw [Hz.out, hb1, hb2]; rfl), (Below.refl _ _).alloc (Nat.le_refl _) _⟩
    · go_enter Tryd.func142, Tryd.ntmps142
      go_wp2
      go_ret
      exact ⟨retB (by rw [Hz.out, hb1, hb2]; rfl), (Below.refl _ _).alloc (Nat.le_refl _) _⟩

theorem empty_int (l : List Tm) : l.isEmpty = ((l.length : Int) == 0) := by cases l <;> simp <;> omega

set_option maxRecDepth 100000 in
set_option maxHeartbeats 4000000 in
theorem shape_leaf (op : Int) (s : ByteArray) (n : Int) (l : List Tm) (hop : twoB op = false) (w : World) (cs : List Value) (hc : TmC w w.heap.size (.mk op s n l) cs) :
    Calls Tryd.prog 133 #[.agg cs.toArray] w fun e w' => e = .returned (.bool (shapeB (.mk op s n l))) ∧ Below w.heap.size w w' := by
  obtain ⟨p1, q1, rfl, _, hz, _, t1⟩ := hc.look
  simp only [Tm.op_mk, Tm.s_mk, Tm.n_mk, Tm.l_mk] at hz t1 ⊢
  clear hc t1
  have hs0 : shapeB (.mk op s n l) = leafB (.mk op s n l) := by unfold shapeB; simp [hop]
  have h5 : (op == 5) = false := by unfold twoB at hop; simp at hop ⊢; exact hop.1.1
  have h6 : (op == 6) = false := by unfold twoB at hop; simp at hop ⊢; exact hop.1.2
  have h7 : (op == 7) = false := by unfold twoB at hop; simp at hop ⊢; exact hop.2
  obtain ⟨bn, hbn⟩ : ∃ b, (n == 0) = b := ⟨_, rfl⟩
  obtain ⟨bl, hbl⟩ : ∃ b, ((l.length : Int) == 0) = b := ⟨_, rfl⟩
  have hle := empty_int l
  rw [hbl] at hle
  have A0 : Hid (Below w.heap.size w (w.alloc (.cells #[.int .i64 op, .string s, .int .i64 n, .slice p1 l.length q1] 43))) := Lib.hid ((Below.refl _ _).alloc (Nat.le_refl _) _)
  by_cases o1 : op = 1
  · subst o1
    have Hz : Hid (shapeB (.mk 1 s n l) = (nameB s.data.toList && bn && bl)) := Lib.hid (by rw [hs0, ← hle, ← hbn]; rfl)
    have HN := Lib.hid (fun w => isName_any s w hz)
    clear hs0 hle
    go_enter Tryd.func133, Tryd.ntmps133
    go_wp2_with fail
    refine (HN.out _).mono ?_
    rintro e w1 ⟨rfl, b1⟩
    have B1 := A0.out.trans (b1.mono (by simp))
    obtain ⟨hc, hf⟩ := kept b1
    have hz1 : w.heap.size < w1.heap.size := by have := b1.size; simp at this; omega
    cases hnm : nameB s.data.toList
    · have Hz1 : Hid (shapeB (.mk 1 s n l) = false) := Lib.hid (by rw [Hz.out, hnm]; rfl)
      clear hnm
      go_wp2
      go_ret
      exact ⟨by rw [Hz1.out]; rfl, B1⟩
    · have Hz1 : Hid (shapeB (.mk 1 s n l) = (bn && bl)) := Lib.hid (by rw [Hz.out, hnm]; rfl)
      clear hnm
      cases bn <;> cases bl
      all_goals
        go_wp2
        go_ret
        exact ⟨by rw [Hz1.out]; rfl, B1⟩
  have e1 : (op == 1) = false := by simpa using o1
  by_cases o2 : op = 2
  · subst o2
    by_cases h0 : s.toList = []
    · have Hz : Hid (shapeB (.mk 2 s n l) = bl) := Lib.hid (by rw [hs0, ← hle]; show (s.toList.isEmpty && l.isEmpty) = _; rw [h0]; rfl)
      clear hs0 hle
      cases bl
      all_goals
        go_enter Tryd.func133, Tryd.ntmps133
        go_wp2
        go_ret
        exact ⟨by rw [Hz.out]; rfl, A0.out⟩
    · have Hz : Hid (shapeB (.mk 2 s n l) = false) := Lib.hid (by rw [hs0]; show (s.toList.isEmpty && l.isEmpty) = _; simp [h0])
      clear hs0 hle
      go_enter Tryd.func133, Tryd.ntmps133
      go_wp2
      go_ret
      exact ⟨by rw [Hz.out]; rfl, A0.out⟩
  have e2 : (op == 2) = false := by simpa using o2
  by_cases o3 : op = 3
  · subst o3
    have Hz : Hid (shapeB (.mk 3 s n l) = (bn && bl)) := Lib.hid (by rw [hs0, ← hle, ← hbn]; rfl)
    clear hs0 hle
    cases bn <;> cases bl
    all_goals
      go_enter Tryd.func133, Tryd.ntmps133
      go_wp2
      go_ret
      exact ⟨by rw [Hz.out]; rfl, A0.out⟩
  have e3 : (op == 3) = false := by simpa using o3
  by_cases o4 : op = 4
  · subst o4
    by_cases h0 : s.toList = []
    · have Hz : Hid (shapeB (.mk 4 s n l) = (bn && bl)) := Lib.hid (by rw [hs0, ← hle, ← hbn]; show (s.toList.isEmpty && (n == 0) && l.isEmpty) = _; rw [h0]; rfl)
      clear hs0 hle
      cases bn <;> cases bl
      all_goals
        go_enter Tryd.func133, Tryd.ntmps133
        go_wp2
        go_ret
        exact ⟨by rw [Hz.out]; rfl, A0.out⟩
    · have Hz : Hid (shapeB (.mk 4 s n l) = false) := Lib.hid (by rw [hs0]; show (s.toList.isEmpty && (n == 0) && l.isEmpty) = _; simp [h0])
      clear hs0 hle
      go_enter Tryd.func133, Tryd.ntmps133
      go_wp2
      go_ret
      exact ⟨by rw [Hz.out]; rfl, A0.out⟩
  have e4 : (op == 4) = false := by simpa using o4
  have Hz : Hid (shapeB (.mk op s n l) = false) := Lib.hid (by rw [hs0]; unfold leafB; simp [o1, o2, o3, o4])
  clear hs0 hle o1 o2 o3 o4 hop
  go_enter Tryd.func133, Tryd.ntmps133
  go_wp2
  go_ret
  exact ⟨by rw [Hz.out]; rfl, A0.out⟩
end Go.Proofs.YtbpdfmpfnbdeoaaDoor
