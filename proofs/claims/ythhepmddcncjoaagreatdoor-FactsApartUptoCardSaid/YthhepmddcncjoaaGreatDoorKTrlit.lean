/- soritesref03.RightLit. -/
import Derived.Test.YthhepmddcncjoaaGreatDoorKTsmall
set_option linter.unusedSimpArgs false
set_option linter.unusedVariables false
namespace Go.Proofs.YthhepmddcncjoaaGreatDoor
open Go.RowKit

theorem rightL_12 {l : Lt} (h : l.op = 1 ∨ l.op = 2) : rightL l = (rightA l.a && noT l.x && noT l.y) := by unfold rightL; rw [if_pos h]
theorem rightL_36 {l : Lt} (h : 3 ≤ l.op ∧ l.op ≤ 6) : rightL l = (noA l.a && rightT 20 l.x && rightT 20 l.y && (l.x.op != 4) && (l.y.op != 4)) := by unfold rightL; rw [if_neg (by omega), if_pos h]
theorem rightL_7 {l : Lt} (h : l.op = 7) : rightL l = (rightA l.a && rightT 20 l.x && ((l.x.op == 1) || (l.x.op == 2)) && noT l.y) := by unfold rightL; rw [if_neg (by omega), if_neg (by omega), if_pos h]
theorem rightL_8 {l : Lt} (h : 8 ≤ l.op ∧ l.op ≤ 10) : rightL l = (rightA l.a && rightT 20 l.x && ((l.x.op == 1) || (l.x.op == 2)) && rightT 20 l.y && (l.y.op == 1)) := by unfold rightL; rw [if_neg (by omega), if_neg (by omega), if_neg (by omega), if_pos h]
theorem rightL_no {l : Lt} (h : l.op < 1 ∨ 10 < l.op) : rightL l = false := by unfold rightL; rw [if_neg (by omega), if_neg (by omega), if_neg (by omega), if_neg (by omega)]

set_option maxRecDepth 100000 in
set_option maxHeartbeats 8000000 in
theorem rrightLit_c (t : Lt) (w : World) (cs : List Value) (hc : LtC w w.heap.size t cs) :
    Calls Tryz.prog 98 #[.agg cs.toArray] w fun e w' => e = .returned (.bool (rightL t)) ∧ Below w.heap.size w w' := by
  obtain ⟨op, ta, tx, ty⟩ := t
  obtain ⟨o0, k0, o1, k1, o2, k2, rfl, _, H0, H1, H2⟩ := hc.look
  simp only at H0 H1 H2 ⊢
  obtain ⟨ba, hba⟩ : ∃ b, rightA ta = b := ⟨_, rfl⟩
  obtain ⟨bx, hbx⟩ : ∃ b, rightT 20 tx = b := ⟨_, rfl⟩
  obtain ⟨bY, hbY⟩ : ∃ b, rightT 20 ty = b := ⟨_, rfl⟩
  have HX := Lib.hid (fun (W : World) (hb : Below w.heap.size w W) => rrightTerm_c 20 20 tx W _ rfl (by omega) ((H1.under hb).more hb.size))
  have HY := Lib.hid (fun (W : World) (hb : Below w.heap.size w W) => rrightTerm_c 20 20 ty W _ rfl (by omega) ((H2.under hb).more hb.size))
  have HA := Lib.hid (fun (W : World) (hb : Below w.heap.size w W) => rrightAtom_c ta W _ ((H0.below hb).more hb.size))
  have HNX := Lib.hid (fun (W : World) (hb : Below w.heap.size w W) => rnoTerm_c tx W _ ((H1.under hb).more hb.size))
  have HNY := Lib.hid (fun (W : World) (hb : Below w.heap.size w W) => rnoTerm_c ty W _ ((H2.under hb).more hb.size))
  have HNA := Lib.hid (fun (W : World) (hb : Below w.heap.size w W) => rnoAtom_c ta W _ ((H0.below hb).more hb.size))
  rw [hba] at HA
  rw [hbx] at HX
  rw [hbY] at HY
  clear hc H0 H1 H2
  have HB0 : Hid (∀ (x : Obj), Below w.heap.size w (w.alloc x)) := Lib.hid fun x => (Below.refl _ _).alloc (Nat.le_refl _) _
  have Q12 : Hid (op = 1 ∨ op = 2 → rightL ⟨op, ta, tx, ty⟩ = (ba && noT tx && noT ty)) := Lib.hid fun h => by rw [rightL_12 h]; simp only; rw [hba]
  have Q36 : Hid (3 ≤ op ∧ op ≤ 6 → rightL ⟨op, ta, tx, ty⟩ = (noA ta && bx && bY && (tx.op != 4) && (ty.op != 4))) := Lib.hid fun h => by rw [rightL_36 h]; simp only; rw [hbx, hbY]
  have Q7 : Hid (op = 7 → rightL ⟨op, ta, tx, ty⟩ = (ba && bx && ((tx.op == 1) || (tx.op == 2)) && noT ty)) := Lib.hid fun h => by rw [rightL_7 h]; simp only; rw [hba, hbx]
  have Q8 : Hid (8 ≤ op ∧ op ≤ 10 → rightL ⟨op, ta, tx, ty⟩ = (ba && bx && ((tx.op == 1) || (tx.op == 2)) && bY && (ty.op == 1))) := Lib.hid fun h => by rw [rightL_8 h]; simp only; rw [hba, hbx, hbY]
  have Q0 : Hid (op < 1 ∨ 10 < op → rightL ⟨op, ta, tx, ty⟩ = false) := Lib.hid fun h => rightL_no h
  clear hba hbx hbY
  go_enter Tryz.func98, Tryz.ntmps98
  go_wp2_with fail
  refine (HX.out _ (HB0.out _)).mono ?_
  rintro e w1 ⟨rfl, b1⟩
  have K1 := Lib.hid (b1.mono (show w.heap.size + 1 ≤ _ by simp))
  have B1 := (HB0.out _).trans (K1.out.mono (by omega))
  obtain ⟨hc1, hf1⟩ := boxq w.heap.size b1 (by simp)
  have hz1 : w.heap.size < w1.heap.size := by have := b1.size; simp at this; omega
  clear b1
  go_wp2_with fail
  refine (HY.out _ B1).mono ?_
  rintro e w2 ⟨rfl, b2⟩
  have K2 := Lib.hid (K1.out.trans (b2.mono (by omega)))
  have B2 := (HB0.out _).trans (K2.out.mono (by omega))
  have hz2 : w.heap.size < w2.heap.size := by have := b2.size; omega
  clear hc1 hf1 B1 b2
  obtain ⟨hc1, hf1⟩ := boxq w.heap.size K2.out (by omega)
  go_wp2_with fail
  refine (HA.out _ B2).mono ?_
  rintro e w3 ⟨rfl, b3⟩
  have K3 := Lib.hid (K2.out.trans (b3.mono (by omega)))
  have B3 := (HB0.out _).trans (K3.out.mono (by omega))
  have hz3 : w.heap.size < w3.heap.size := by have := b3.size; omega
  clear hc1 hf1 B2 b3
  obtain ⟨hc1, hf1⟩ := boxq w.heap.size K3.out (by omega)
  by_cases o1 : op = 1
  · subst o1
    have Hz := Lib.hid (Q12.out (by omega))
    clear Q12 Q36 Q7 Q8 Q0
    cases ba with
    | false =>
      have Hz1 := Lib.hid (Hz.out.trans (by rfl : _ = false))
      go_wp2
      go_ret
      exact ⟨by rw [Hz1.out]; rfl, B3⟩
    | true =>
    go_wp2_with fail
    refine (HNX.out _ B3).mono ?_
    rintro e w4 ⟨rfl, b4⟩
    have K4 := Lib.hid (K3.out.trans (b4.mono (by omega)))
    have B4 := (HB0.out _).trans (K4.out.mono (by omega))
    have hz4 : w.heap.size < w4.heap.size := by have := b4.size; omega
    clear hc1 hf1 b4
    obtain ⟨hc1, hf1⟩ := boxq w.heap.size K4.out (by omega)
    cases hn : noT tx with
    | false =>
      have Hz1 := Lib.hid (Hz.out.trans (by rw [hn]; rfl : _ = false))
      clear hn
      go_wp2
      go_ret
      exact ⟨by rw [Hz1.out]; rfl, B4⟩
    | true =>
    have Hz1 := Lib.hid (Hz.out.trans (by rw [hn]; rfl : _ = noT ty))
    clear hn
    go_wp2_with fail
    refine (HNY.out _ B4).mono ?_
    rintro e w5 ⟨rfl, b5⟩
    have K5 := Lib.hid (K4.out.trans (b5.mono (by omega)))
    have B5 := (HB0.out _).trans (K5.out.mono (by omega))
    have hz5 : w.heap.size < w5.heap.size := by have := b5.size; omega
    clear hc1 hf1 b5
    obtain ⟨hc1, hf1⟩ := boxq w.heap.size K5.out (by omega)
    go_wp2
    go_ret
    exact ⟨by rw [Hz1.out]; rfl, B5⟩
  have e1 : (op == 1) = false := by simpa using o1
  by_cases o2 : op = 2
  · subst o2
    have Hz := Lib.hid (Q12.out (by omega))
    clear Q12 Q36 Q7 Q8 Q0
    cases ba with
    | false =>
      have Hz1 := Lib.hid (Hz.out.trans (by rfl : _ = false))
      go_wp2
      go_ret
      exact ⟨by rw [Hz1.out]; rfl, B3⟩
    | true =>
    go_wp2_with fail
    refine (HNX.out _ B3).mono ?_
    rintro e w4 ⟨rfl, b4⟩
    have K4 := Lib.hid (K3.out.trans (b4.mono (by omega)))
    have B4 := (HB0.out _).trans (K4.out.mono (by omega))
    have hz4 : w.heap.size < w4.heap.size := by have := b4.size; omega
    clear hc1 hf1 b4
    obtain ⟨hc1, hf1⟩ := boxq w.heap.size K4.out (by omega)
    cases hn : noT tx with
    | false =>
      have Hz1 := Lib.hid (Hz.out.trans (by rw [hn]; rfl : _ = false))
      clear hn
      go_wp2
      go_ret
      exact ⟨by rw [Hz1.out]; rfl, B4⟩
    | true =>
    have Hz1 := Lib.hid (Hz.out.trans (by rw [hn]; rfl : _ = noT ty))
    clear hn
    go_wp2_with fail
    refine (HNY.out _ B4).mono ?_
    rintro e w5 ⟨rfl, b5⟩
    have K5 := Lib.hid (K4.out.trans (b5.mono (by omega)))
    have B5 := (HB0.out _).trans (K5.out.mono (by omega))
    have hz5 : w.heap.size < w5.heap.size := by have := b5.size; omega
    clear hc1 hf1 b5
    obtain ⟨hc1, hf1⟩ := boxq w.heap.size K5.out (by omega)
    go_wp2
    go_ret
    exact ⟨by rw [Hz1.out]; rfl, B5⟩
  have e2 : (op == 2) = false := by simpa using o2
  by_cases o3 : op = 3
  · subst o3
    have Hz := Lib.hid (Q36.out (by omega))
    clear Q12 Q36 Q7 Q8 Q0
    go_wp2_with fail
    refine (HNA.out _ B3).mono ?_
    rintro e w4 ⟨rfl, b4⟩
    have K4 := Lib.hid (K3.out.trans (b4.mono (by omega)))
    have B4 := (HB0.out _).trans (K4.out.mono (by omega))
    have hz4 : w.heap.size < w4.heap.size := by have := b4.size; omega
    clear hc1 hf1 b4
    obtain ⟨hc1, hf1⟩ := boxq w.heap.size K4.out (by omega)
    obtain ⟨x4, hx4⟩ : ∃ b, (tx.op != 4) = b := ⟨_, rfl⟩
    obtain ⟨y4, hy4⟩ : ∃ b, (ty.op != 4) = b := ⟨_, rfl⟩
    rw [hx4, hy4] at Hz
    obtain ⟨na, hna⟩ : ∃ b, noA ta = b := ⟨_, rfl⟩
    rw [hna] at Hz ⊢
    clear hna
    cases na with
    | false =>
      have Hz1 := Lib.hid (Hz.out.trans (by simp : _ = false))
      go_wp2
      go_ret
      exact ⟨by rw [Hz1.out]; rfl, B4⟩
    | true =>
    cases bx with
    | false =>
      have Hz1 := Lib.hid (Hz.out.trans (by simp : _ = false))
      go_wp2
      go_ret
      exact ⟨by rw [Hz1.out]; rfl, B4⟩
    | true =>
    cases bY with
    | false =>
      have Hz1 := Lib.hid (Hz.out.trans (by simp : _ = false))
      go_wp2
      go_ret
      exact ⟨by rw [Hz1.out]; rfl, B4⟩
    | true =>
    cases x4 with
    | false =>
      have Hz1 := Lib.hid (Hz.out.trans (by simp : _ = false))
      go_wp2
      go_ret
      exact ⟨by rw [Hz1.out]; rfl, B4⟩
    | true =>
    cases y4 with
    | false =>
      have Hz1 := Lib.hid (Hz.out.trans (by simp : _ = false))
      go_wp2
      go_ret
      exact ⟨by rw [Hz1.out]; rfl, B4⟩
    | true =>
    have Hz1 := Lib.hid (Hz.out.trans (by rfl : _ = true))
    go_wp2
    go_ret
    exact ⟨by rw [Hz1.out]; rfl, B4⟩
  have e3 : (op == 3) = false := by simpa using o3
  by_cases o4 : op = 4
  · subst o4
    have Hz := Lib.hid (Q36.out (by omega))
    clear Q12 Q36 Q7 Q8 Q0
    go_wp2_with fail
    refine (HNA.out _ B3).mono ?_
    rintro e w4 ⟨rfl, b4⟩
    have K4 := Lib.hid (K3.out.trans (b4.mono (by omega)))
    have B4 := (HB0.out _).trans (K4.out.mono (by omega))
    have hz4 : w.heap.size < w4.heap.size := by have := b4.size; omega
    clear hc1 hf1 b4
    obtain ⟨hc1, hf1⟩ := boxq w.heap.size K4.out (by omega)
    obtain ⟨x4, hx4⟩ : ∃ b, (tx.op != 4) = b := ⟨_, rfl⟩
    obtain ⟨y4, hy4⟩ : ∃ b, (ty.op != 4) = b := ⟨_, rfl⟩
    rw [hx4, hy4] at Hz
    obtain ⟨na, hna⟩ : ∃ b, noA ta = b := ⟨_, rfl⟩
    rw [hna] at Hz ⊢
    clear hna
    cases na with
    | false =>
      have Hz1 := Lib.hid (Hz.out.trans (by simp : _ = false))
      go_wp2
      go_ret
      exact ⟨by rw [Hz1.out]; rfl, B4⟩
    | true =>
    cases bx with
    | false =>
      have Hz1 := Lib.hid (Hz.out.trans (by simp : _ = false))
      go_wp2
      go_ret
      exact ⟨by rw [Hz1.out]; rfl, B4⟩
    | true =>
    cases bY with
    | false =>
      have Hz1 := Lib.hid (Hz.out.trans (by simp : _ = false))
      go_wp2
      go_ret
      exact ⟨by rw [Hz1.out]; rfl, B4⟩
    | true =>
    cases x4 with
    | false =>
      have Hz1 := Lib.hid (Hz.out.trans (by simp : _ = false))
      go_wp2
      go_ret
      exact ⟨by rw [Hz1.out]; rfl, B4⟩
    | true =>
    cases y4 with
    | false =>
      have Hz1 := Lib.hid (Hz.out.trans (by simp : _ = false))
      go_wp2
      go_ret
      exact ⟨by rw [Hz1.out]; rfl, B4⟩
    | true =>
    have Hz1 := Lib.hid (Hz.out.trans (by rfl : _ = true))
    go_wp2
    go_ret
    exact ⟨by rw [Hz1.out]; rfl, B4⟩
  have e4 : (op == 4) = false := by simpa using o4
  by_cases o5 : op = 5
  · subst o5
    have Hz := Lib.hid (Q36.out (by omega))
    clear Q12 Q36 Q7 Q8 Q0
    go_wp2_with fail
    refine (HNA.out _ B3).mono ?_
    rintro e w4 ⟨rfl, b4⟩
    have K4 := Lib.hid (K3.out.trans (b4.mono (by omega)))
    have B4 := (HB0.out _).trans (K4.out.mono (by omega))
    have hz4 : w.heap.size < w4.heap.size := by have := b4.size; omega
    clear hc1 hf1 b4
    obtain ⟨hc1, hf1⟩ := boxq w.heap.size K4.out (by omega)
    obtain ⟨x4, hx4⟩ : ∃ b, (tx.op != 4) = b := ⟨_, rfl⟩
    obtain ⟨y4, hy4⟩ : ∃ b, (ty.op != 4) = b := ⟨_, rfl⟩
    rw [hx4, hy4] at Hz
    obtain ⟨na, hna⟩ : ∃ b, noA ta = b := ⟨_, rfl⟩
    rw [hna] at Hz ⊢
    clear hna
    cases na with
    | false =>
      have Hz1 := Lib.hid (Hz.out.trans (by simp : _ = false))
      go_wp2
      go_ret
      exact ⟨by rw [Hz1.out]; rfl, B4⟩
    | true =>
    cases bx with
    | false =>
      have Hz1 := Lib.hid (Hz.out.trans (by simp : _ = false))
      go_wp2
      go_ret
      exact ⟨by rw [Hz1.out]; rfl, B4⟩
    | true =>
    cases bY with
    | false =>
      have Hz1 := Lib.hid (Hz.out.trans (by simp : _ = false))
      go_wp2
      go_ret
      exact ⟨by rw [Hz1.out]; rfl, B4⟩
    | true =>
    cases x4 with
    | false =>
      have Hz1 := Lib.hid (Hz.out.trans (by simp : _ = false))
      go_wp2
      go_ret
      exact ⟨by rw [Hz1.out]; rfl, B4⟩
    | true =>
    cases y4 with
    | false =>
      have Hz1 := Lib.hid (Hz.out.trans (by simp : _ = false))
      go_wp2
      go_ret
      exact ⟨by rw [Hz1.out]; rfl, B4⟩
    | true =>
    have Hz1 := Lib.hid (Hz.out.trans (by rfl : _ = true))
    go_wp2
    go_ret
    exact ⟨by rw [Hz1.out]; rfl, B4⟩
  have e5 : (op == 5) = false := by simpa using o5
  by_cases o6 : op = 6
  · subst o6
    have Hz := Lib.hid (Q36.out (by omega))
    clear Q12 Q36 Q7 Q8 Q0
    go_wp2_with fail
    refine (HNA.out _ B3).mono ?_
    rintro e w4 ⟨rfl, b4⟩
    have K4 := Lib.hid (K3.out.trans (b4.mono (by omega)))
    have B4 := (HB0.out _).trans (K4.out.mono (by omega))
    have hz4 : w.heap.size < w4.heap.size := by have := b4.size; omega
    clear hc1 hf1 b4
    obtain ⟨hc1, hf1⟩ := boxq w.heap.size K4.out (by omega)
    obtain ⟨x4, hx4⟩ : ∃ b, (tx.op != 4) = b := ⟨_, rfl⟩
    obtain ⟨y4, hy4⟩ : ∃ b, (ty.op != 4) = b := ⟨_, rfl⟩
    rw [hx4, hy4] at Hz
    obtain ⟨na, hna⟩ : ∃ b, noA ta = b := ⟨_, rfl⟩
    rw [hna] at Hz ⊢
    clear hna
    cases na with
    | false =>
      have Hz1 := Lib.hid (Hz.out.trans (by simp : _ = false))
      go_wp2
      go_ret
      exact ⟨by rw [Hz1.out]; rfl, B4⟩
    | true =>
    cases bx with
    | false =>
      have Hz1 := Lib.hid (Hz.out.trans (by simp : _ = false))
      go_wp2
      go_ret
      exact ⟨by rw [Hz1.out]; rfl, B4⟩
    | true =>
    cases bY with
    | false =>
      have Hz1 := Lib.hid (Hz.out.trans (by simp : _ = false))
      go_wp2
      go_ret
      exact ⟨by rw [Hz1.out]; rfl, B4⟩
    | true =>
    cases x4 with
    | false =>
      have Hz1 := Lib.hid (Hz.out.trans (by simp : _ = false))
      go_wp2
      go_ret
      exact ⟨by rw [Hz1.out]; rfl, B4⟩
    | true =>
    cases y4 with
    | false =>
      have Hz1 := Lib.hid (Hz.out.trans (by simp : _ = false))
      go_wp2
      go_ret
      exact ⟨by rw [Hz1.out]; rfl, B4⟩
    | true =>
    have Hz1 := Lib.hid (Hz.out.trans (by rfl : _ = true))
    go_wp2
    go_ret
    exact ⟨by rw [Hz1.out]; rfl, B4⟩
  have e6 : (op == 6) = false := by simpa using o6
  by_cases o7 : op = 7
  · subst o7
    have Hz := Lib.hid (Q7.out rfl)
    clear Q12 Q36 Q7 Q8 Q0
    obtain ⟨x1, hx1⟩ : ∃ b, (tx.op == 1) = b := ⟨_, rfl⟩
    obtain ⟨x2, hx2⟩ : ∃ b, (tx.op == 2) = b := ⟨_, rfl⟩
    rw [hx1, hx2] at Hz
    cases ba with
    | false =>
      have Hz1 := Lib.hid (Hz.out.trans (by simp : _ = false))
      go_wp2
      go_ret
      exact ⟨by rw [Hz1.out]; rfl, B3⟩
    | true =>
    cases bx with
    | false =>
      have Hz1 := Lib.hid (Hz.out.trans (by simp : _ = false))
      go_wp2
      go_ret
      exact ⟨by rw [Hz1.out]; rfl, B3⟩
    | true =>
    cases x1 <;> cases x2
    · have Hz1 := Lib.hid (Hz.out.trans (by simp : _ = false))
      go_wp2
      go_ret
      exact ⟨by rw [Hz1.out]; rfl, B3⟩
    all_goals
      have Hz1 := Lib.hid (Hz.out.trans (by rfl : _ = noT ty))
      go_wp2_with fail
      refine (HNY.out _ B3).mono ?_
      rintro e w5 ⟨rfl, b5⟩
      have K5 := Lib.hid (K3.out.trans (b5.mono (by omega)))
      have B5 := (HB0.out _).trans (K5.out.mono (by omega))
      have hz5 : w.heap.size < w5.heap.size := by have := b5.size; omega
      clear hc1 hf1 b5
      obtain ⟨hc1, hf1⟩ := boxq w.heap.size K5.out (by omega)
      go_wp2
      go_ret
      exact ⟨by rw [Hz1.out]; rfl, B5⟩
  have e7 : (op == 7) = false := by simpa using o7
  by_cases o8 : op = 8
  · subst o8
    have Hz := Lib.hid (Q8.out (by omega))
    clear Q12 Q36 Q7 Q8 Q0
    obtain ⟨x1, hx1⟩ : ∃ b, (tx.op == 1) = b := ⟨_, rfl⟩
    obtain ⟨x2, hx2⟩ : ∃ b, (tx.op == 2) = b := ⟨_, rfl⟩
    obtain ⟨y1, hy1⟩ : ∃ b, (ty.op == 1) = b := ⟨_, rfl⟩
    rw [hx1, hx2, hy1] at Hz
    cases ba with
    | false =>
      have Hz1 := Lib.hid (Hz.out.trans (by simp : _ = false))
      go_wp2
      go_ret
      exact ⟨by rw [Hz1.out]; rfl, B3⟩
    | true =>
    cases bx with
    | false =>
      have Hz1 := Lib.hid (Hz.out.trans (by simp : _ = false))
      go_wp2
      go_ret
      exact ⟨by rw [Hz1.out]; rfl, B3⟩
    | true =>
    cases x1 <;> cases x2
    · have Hz1 := Lib.hid (Hz.out.trans (by simp : _ = false))
      go_wp2
      go_ret
      exact ⟨by rw [Hz1.out]; rfl, B3⟩
    all_goals
      cases bY <;> cases y1
      all_goals
        go_wp2
        go_ret
        exact ⟨by rw [Hz.out]; rfl, B3⟩
  have e8 : (op == 8) = false := by simpa using o8
  by_cases o9 : op = 9
  · subst o9
    have Hz := Lib.hid (Q8.out (by omega))
    clear Q12 Q36 Q7 Q8 Q0
    obtain ⟨x1, hx1⟩ : ∃ b, (tx.op == 1) = b := ⟨_, rfl⟩
    obtain ⟨x2, hx2⟩ : ∃ b, (tx.op == 2) = b := ⟨_, rfl⟩
    obtain ⟨y1, hy1⟩ : ∃ b, (ty.op == 1) = b := ⟨_, rfl⟩
    rw [hx1, hx2, hy1] at Hz
    cases ba with
    | false =>
      have Hz1 := Lib.hid (Hz.out.trans (by simp : _ = false))
      go_wp2
      go_ret
      exact ⟨by rw [Hz1.out]; rfl, B3⟩
    | true =>
    cases bx with
    | false =>
      have Hz1 := Lib.hid (Hz.out.trans (by simp : _ = false))
      go_wp2
      go_ret
      exact ⟨by rw [Hz1.out]; rfl, B3⟩
    | true =>
    cases x1 <;> cases x2
    · have Hz1 := Lib.hid (Hz.out.trans (by simp : _ = false))
      go_wp2
      go_ret
      exact ⟨by rw [Hz1.out]; rfl, B3⟩
    all_goals
      cases bY <;> cases y1
      all_goals
        go_wp2
        go_ret
        exact ⟨by rw [Hz.out]; rfl, B3⟩
  have e9 : (op == 9) = false := by simpa using o9
  by_cases o10 : op = 10
  · subst o10
    have Hz := Lib.hid (Q8.out (by omega))
    clear Q12 Q36 Q7 Q8 Q0
    obtain ⟨x1, hx1⟩ : ∃ b, (tx.op == 1) = b := ⟨_, rfl⟩
    obtain ⟨x2, hx2⟩ : ∃ b, (tx.op == 2) = b := ⟨_, rfl⟩
    obtain ⟨y1, hy1⟩ : ∃ b, (ty.op == 1) = b := ⟨_, rfl⟩
    rw [hx1, hx2, hy1] at Hz
    cases ba with
    | false =>
      have Hz1 := Lib.hid (Hz.out.trans (by simp : _ = false))
      go_wp2
      go_ret
      exact ⟨by rw [Hz1.out]; rfl, B3⟩
    | true =>
    cases bx with
    | false =>
      have Hz1 := Lib.hid (Hz.out.trans (by simp : _ = false))
      go_wp2
      go_ret
      exact ⟨by rw [Hz1.out]; rfl, B3⟩
    | true =>
    cases x1 <;> cases x2
    · have Hz1 := Lib.hid (Hz.out.trans (by simp : _ = false))
      go_wp2
      go_ret
      exact ⟨by rw [Hz1.out]; rfl, B3⟩
    all_goals
      cases bY <;> cases y1
      all_goals
        go_wp2
        go_ret
        exact ⟨by rw [Hz.out]; rfl, B3⟩
  have e10 : (op == 10) = false := by simpa using o10
  have Hz := Lib.hid (Q0.out (by omega))
  clear Q12 Q36 Q7 Q8 Q0 o1 o2 o3 o4 o5 o6 o7 o8 o9 o10
  go_wp2
  go_ret
  exact ⟨by rw [Hz.out]; rfl, B3⟩
end Go.Proofs.YthhepmddcncjoaaGreatDoor
