/- soritesref03: noTerm, noAtom, RightAtom. -/
import Derived.Test.YtbpdfmpfnbdeoaaGreatDoorKTsize
namespace Go.Proofs.YtbpdfmpfnbdeoaaGreatDoor
open Go.RowKit

set_option maxRecDepth 100000 in
set_option maxHeartbeats 4000000 in
theorem rnoTerm_c (t : Tm) (w : World) (cs : List Value) (hc : TmC w w.heap.size t cs) :
    Calls Tryz.prog 116 #[.agg cs.toArray] w fun e w' => e = .returned (.bool (noT t)) ∧ Below w.heap.size w w' := by
  obtain ⟨op, s, n, l⟩ := t
  obtain ⟨p1, q1, rfl, _, hz, _, t1⟩ := hc.look
  simp only [Tm.op_mk, Tm.s_mk, Tm.n_mk, Tm.l_mk] at hz t1 ⊢
  clear hc t1
  obtain ⟨bo, hbo⟩ : ∃ b, (op == 0) = b := ⟨_, rfl⟩
  obtain ⟨bn, hbn⟩ : ∃ b, (n == 0) = b := ⟨_, rfl⟩
  obtain ⟨bl, hbl⟩ : ∃ b, ((l.length : Int) == 0) = b := ⟨_, rfl⟩
  have hle := empty_int l
  rw [hbl] at hle
  have A0 : Hid (Below w.heap.size w (w.alloc (.cells #[.int .i64 op, .string s, .int .i64 n, .slice p1 l.length q1] 51))) := Lib.hid ((Below.refl _ _).alloc (Nat.le_refl _) _)
  have HL : Hid (noT (.mk op s n l) = (bo && s.toList.isEmpty && bn && bl)) := Lib.hid (by rw [← hle, ← hbn, ← hbo]; rfl)
  clear hle
  by_cases h0 : s.toList = []
  · have Hz : Hid (noT (.mk op s n l) = (bo && bn && bl)) := Lib.hid (by rw [HL.out, h0]; cases bo <;> rfl)
    cases bo <;> cases bn <;> cases bl
    all_goals
      go_enter Tryz.func116, Tryz.ntmps116
      go_wp2
      go_ret
      exact ⟨by rw [Hz.out]; rfl, A0.out⟩
  · have Hz : Hid (noT (.mk op s n l) = false) := Lib.hid (by rw [HL.out]; simp [h0])
    cases bo
    all_goals
      go_enter Tryz.func116, Tryz.ntmps116
      go_wp2
      go_ret
      exact ⟨by rw [Hz.out]; rfl, A0.out⟩

set_option maxRecDepth 100000 in
set_option maxHeartbeats 4000000 in
theorem rnoAtom_c (t : Am) (w : World) (cs : List Value) (hc : AmC w w.heap.size t cs) :
    Calls Tryz.prog 117 #[.agg cs.toArray] w fun e w' => e = .returned (.bool (noA t)) ∧ Below w.heap.size w w' := by
  obtain ⟨s, l⟩ := t
  obtain ⟨p1, q1, rfl, hz, t1⟩ := hc.look
  clear hc t1
  simp only at hz ⊢
  obtain ⟨bl, hbl⟩ : ∃ b, ((l.length : Int) == 0) = b := ⟨_, rfl⟩
  have hle := empty_int l
  rw [hbl] at hle
  have A0 : Hid (Below w.heap.size w (w.alloc (.cells #[.string s, .slice p1 l.length q1] 34))) := Lib.hid ((Below.refl _ _).alloc (Nat.le_refl _) _)
  have HL : Hid (noA ⟨s, l⟩ = (s.toList.isEmpty && bl)) := Lib.hid (by rw [← hle]; rfl)
  clear hle
  by_cases h0 : s.toList = []
  · have Hz : Hid (noA ⟨s, l⟩ = bl) := Lib.hid (by rw [HL.out, h0]; rfl)
    cases bl
    all_goals
      go_enter Tryz.func117, Tryz.ntmps117
      go_wp2
      go_ret
      exact ⟨by rw [Hz.out]; rfl, A0.out⟩
  · have Hz : Hid (noA ⟨s, l⟩ = false) := Lib.hid (by rw [HL.out]; simp [h0])
    go_enter Tryz.func117, Tryz.ntmps117
    go_wp2
    go_ret
    exact ⟨by rw [Hz.out]; rfl, A0.out⟩

set_option maxRecDepth 100000 in
set_option maxHeartbeats 4000000 in
theorem rrightAtom_c (t : Am) (w : World) (cs : List Value) (hc : AmC w w.heap.size t cs) :
    Calls Tryz.prog 73 #[.agg cs.toArray] w fun e w' => e = .returned (.bool (rightA t)) ∧ Below w.heap.size w w' := by
  obtain ⟨s, l⟩ := t
  obtain ⟨p1, q1, rfl, hz, t1⟩ := hc.look
  simp only at hz t1 ⊢
  obtain ⟨o1, cap1, e1, hc1, hm1, S1⟩ := SlOf.open t1
  cases e1
  clear hc t1
  have HN := Lib.hid (fun w => refName_any s w hz)
  have HB0 : Hid (∀ (x : Obj), Below w.heap.size w (w.alloc x)) := Lib.hid fun x => (Below.refl _ _).alloc (Nat.le_refl _) _
  have Hz0 : Hid (rightA ⟨s, l⟩ = (nameB s.data.toList && decide (1 ≤ l.length) && decide (l.length ≤ 8) && l.all (rightT 20))) := Lib.hid rfl
  cases hnm : nameB s.data.toList with
  | false =>
    have Hz : Hid (rightA ⟨s, l⟩ = false) := Lib.hid (by rw [Hz0.out, hnm]; rfl)
    rw [hnm] at HN
    clear hnm
    go_enter Tryz.func73, Tryz.ntmps73
    go_wp2_with fail
    refine (HN.out _).mono ?_
    rintro e w1 ⟨rfl, rfl⟩
    go_wp2
    go_ret
    exact ⟨by rw [Hz.out]; rfl, HB0.out _⟩
  | true =>
  rw [hnm] at HN
  by_cases g1 : (l.length : Int) < 1
  · have Hz : Hid (rightA ⟨s, l⟩ = false) := Lib.hid (by rw [Hz0.out, decide_eq_false (show ¬ 1 ≤ l.length by omega)]; simp)
    clear hnm
    go_enter Tryz.func73, Tryz.ntmps73
    go_wp2_with fail
    refine (HN.out _).mono ?_
    rintro e w1 ⟨rfl, rfl⟩
    go_wp2
    go_ret
    exact ⟨by rw [Hz.out]; rfl, HB0.out _⟩
  by_cases g2 : (8 : Int) < (l.length : Int)
  · have Hz : Hid (rightA ⟨s, l⟩ = false) := Lib.hid (by rw [Hz0.out, decide_eq_false (show ¬ l.length ≤ 8 by omega)]; simp)
    clear hnm
    go_enter Tryz.func73, Tryz.ntmps73
    go_wp2_with fail
    refine (HN.out _).mono ?_
    rintro e w1 ⟨rfl, rfl⟩
    go_wp2
    go_ret
    exact ⟨by rw [Hz.out]; rfl, HB0.out _⟩
  have Hz : Hid (rightA ⟨s, l⟩ = l.all (rightT 20)) := Lib.hid (by rw [Hz0.out, hnm, decide_eq_true (show 1 ≤ l.length by omega), decide_eq_true (show l.length ≤ 8 by omega)]; rfl)
  clear hnm Hz0
  go_enter Tryz.func73, Tryz.ntmps73
  go_wp2_with fail
  refine (HN.out _).mono ?_
  rintro e w1 ⟨rfl, rfl⟩
  go_wp2
  go_loopw [4] (fun i wr => ∃ k : Nat, k ≤ l.length ∧ i = .int .i64 k ∧ l.all (rightT 20) = (l.drop k).all (rightT 20) ∧ Below (w.heap.size + 1) (w.alloc (.cells #[.string s, .slice p1 l.length q1] 34)) wr) (fun i _ => l.length - (intOf i).toNat)
  case atStart => exact ⟨0, Nat.zero_le _, rfl, rfl, Below.refl _ _⟩
  case round =>
    obtain ⟨k, hk, rfl, hr, hB2⟩ := hrel
    have hB : Below w.heap.size w wr := (HB0.out _).trans (hB2.mono (by omega))
    have Hr := Lib.hid hr
    clear hr
    have hBs := hB2.size
    simp only [World.size_alloc] at hBs
    have hz0 : w.heap.size < wr.heap.size := by omega
    have x0 : wr.cell? ⟨w.heap.size, 1, none⟩ = some (.slice p1 l.length q1) := (hB2.cell (p := ⟨w.heap.size, 1, none⟩) (by show w.heap.size < _; omega)).trans (by go_simp)
    by_cases hlt : k < l.length
    · have hlt' : (k : Int) < (l.length : Int) := by omega
      obtain ⟨t, ht⟩ : ∃ t, l[k]? = some t := ⟨l[k], List.getElem?_eq_getElem hlt⟩
      obtain ⟨a, p3, q3, rfl, ha, Hc, c0, c1, c2, c3⟩ := tm_at S1 hB ht
      have hal : (a.add (k * 4)).block < wr.heap.size := by rw [addBlock]; omega
      have Hst := Lib.hid (Hr.out.trans (all_drop' (f := rightT 20) ht))
      clear ht
      have HI := Lib.hid (fun (W : World) (hb : Below wr.heap.size wr W) => rrightTerm_c 20 20 t W _ rfl (by omega) ((Hc.out.under hb).more hb.size))
      go_wp2_with fail
      refine (HI.out _ (Below.refl _ _)).mono ?_
      rintro e w1 ⟨rfl, b1⟩
      have hB3 := hB2.trans (b1.mono (by omega))
      cases hs : rightT 20 t with
      | false =>
        have Hz2 := Lib.hid (Hz.out.trans (Hst.out.trans (by rw [hs, Bool.false_and])))
        clear hs
        go_wp2
        go_ret
        exact ⟨by rw [Hz2.out]; rfl, (HB0.out _).trans (hB3.mono (by omega))⟩
      | true =>
        have Hz2 := Lib.hid (Hst.out.trans (by rw [hs, Bool.true_and]))
        clear hs
        go_wp2
        go_roundw
        case rel => exact ⟨k + 1, hlt, by go_num, Hz2.out, hB3⟩
        case measure => simp [intOf]; omega
    · have hlt' : ¬ (k : Int) < (l.length : Int) := by omega
      have Hz2 := Lib.hid (Hz.out.trans (Hr.out.trans (by rw [List.drop_of_length_le (by omega)]; rfl : _ = true)))
      go_wp2
      go_ret
      exact ⟨by rw [Hz2.out]; rfl, hB⟩
end Go.Proofs.YtbpdfmpfnbdeoaaGreatDoor
