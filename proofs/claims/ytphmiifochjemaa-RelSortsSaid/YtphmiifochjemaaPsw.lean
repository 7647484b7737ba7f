/- slices.swapRangeCmpFunc, at rows. -/
import Derived.Test.YtphmiifochjemaaPs
namespace Go.Proofs.Ytphmiifochjemaa
open Go.RowKit

set_option linter.unusedSimpArgs false in
set_option maxRecDepth 100000 in
set_option maxHeartbeats 8000000 in
theorem swapRange_c (P X M Y S : List Hd) (a b n c : Nat) (tl : List Value) (w0 W : World) (g : Nat) (u : Value) (hP : P.length = a) (hX : X.length = n) (hY : Y.length = n) (hb : a + n + M.length = b) (hN : (P ++ X ++ M ++ Y ++ S).length ≤ 1000000) (h : SrW w0 g tl (P ++ X ++ M ++ Y ++ S) W) :
    Calls Try.prog 49 #[.slice (some ⟨g, 0, none⟩) (P ++ X ++ M ++ Y ++ S).length c, .int .i64 a, .int .i64 b, .int .i64 n, u] W fun e w' => e = .returned (.tuple #[]) ∧ SrW w0 g tl (P ++ Y ++ M ++ X ++ S) w' := by
  have HH := Lib.hid h
  obtain ⟨L, hL⟩ : ∃ L, (P ++ X ++ M ++ Y ++ S).length = L := ⟨_, rfl⟩
  rw [hL] at hN ⊢
  have hL' : L = a + n + M.length + n + S.length := by rw [← hL]; simp; omega
  have hbn : b + n ≤ L := by omega
  have HP := Lib.hid hP
  have HX := Lib.hid hX
  have HY := Lib.hid hY
  have Hb := Lib.hid hb
  clear h hL hP hX hY hb hL'
  go_enter Try.func49, Try.ntmps49
  go_wp2
  go_loopw [10] (fun i wr => ∃ (k : Nat) (X1 X2 Y1 Y2 : List Hd), k ≤ n ∧ i = .int .i64 k ∧ X = X1 ++ X2 ∧ Y = Y1 ++ Y2 ∧ X1.length = k ∧ Y1.length = k ∧ SrW w0 g tl (P ++ (Y1 ++ X2) ++ M ++ (X1 ++ Y2) ++ S) wr) (fun i _ => n - (intOf i).toNat)
  case atStart => exact ⟨0, [], X, [], Y, Nat.zero_le _, rfl, rfl, rfl, rfl, rfl, HH.out⟩
  case round =>
    obtain ⟨k, X1, X2, Y1, Y2, hk, rfl, hX, hY, hX1, hY1, hS⟩ := hrel
    have HS := Lib.hid hS
    have HXe := Lib.hid hX
    have HYe := Lib.hid hY
    clear hS hX hY
    by_cases hlt : k < n
    · have hlt' : (k : Int) < (n : Int) := by omega
      obtain ⟨x, X3, hX2⟩ : ∃ x X3, X2 = x :: X3 := by
        cases X2 with
        | nil => exfalso; have := congrArg List.length HXe.out; simp [HX.out] at this; omega
        | cons x X3 => exact ⟨x, X3, rfl⟩
      obtain ⟨y, Y3, hY2⟩ : ∃ y Y3, Y2 = y :: Y3 := by
        cases Y2 with
        | nil => exfalso; have := congrArg List.length HYe.out; simp [HY.out] at this; omega
        | cons y Y3 => exact ⟨y, Y3, rfl⟩
      subst hX2; subst hY2
      obtain ⟨rx, vx⟩ := x
      obtain ⟨ry, vy⟩ := y
      obtain ⟨ox, cx', hvx, _⟩ := SlOf.uni (HS.out.see (rx, vx) (by simp))
      obtain ⟨oy, cy', hvy, _⟩ := SlOf.uni (HS.out.see (ry, vy) (by simp))
      simp only at hvx hvy
      subst hvx; subst hvy
      have hX3 : X3.length = n - k - 1 := by have := congrArg List.length HXe.out; simp [HX.out, hX1] at this; omega
      have e1 : P ++ (Y1 ++ (rx, Value.slice ox rx.length cx') :: X3) ++ M ++ (X1 ++ (ry, Value.slice oy ry.length cy') :: Y3) ++ S = (P ++ Y1) ++ (rx, Value.slice ox rx.length cx') :: ((X3 ++ M ++ X1) ++ (ry, Value.slice oy ry.length cy') :: (Y3 ++ S)) := by simp [List.append_assoc]
      have e2 : P ++ ((Y1 ++ [(ry, Value.slice oy ry.length cy')]) ++ X3) ++ M ++ ((X1 ++ [(rx, Value.slice ox rx.length cx')]) ++ Y3) ++ S = (P ++ Y1) ++ (ry, Value.slice oy ry.length cy') :: ((X3 ++ M ++ X1) ++ (rx, Value.slice ox rx.length cx') :: (Y3 ++ S)) := by simp [List.append_assoc]
      have hi : (P ++ Y1).length = a + k := by rw [List.length_append, HP.out, hY1]
      have hj : (P ++ Y1).length + 1 + (X3 ++ M ++ X1).length = b + k := by
        rw [hi]; simp only [List.length_append]; rw [hX3, hX1, ← Hb.out]; omega
      have hS := HS.out
      rw [e1] at hS
      have gx : ((P ++ Y1) ++ (rx, Value.slice ox rx.length cx') :: ((X3 ++ M ++ X1) ++ (ry, Value.slice oy ry.length cy') :: (Y3 ++ S)))[a + k]? = some (rx, Value.slice ox rx.length cx') := by rw [← hi, List.getElem?_append_right (Nat.le_refl _), Nat.sub_self]; rfl
      have gy : ((P ++ Y1) ++ (rx, Value.slice ox rx.length cx') :: ((X3 ++ M ++ X1) ++ (ry, Value.slice oy ry.length cy') :: (Y3 ++ S)))[b + k]? = some (ry, Value.slice oy ry.length cy') := by
        rw [← hj, List.getElem?_append_right (by omega), show (P ++ Y1).length + 1 + (X3 ++ M ++ X1).length - (P ++ Y1).length = (X3 ++ M ++ X1).length + 1 by omega, List.getElem?_cons_succ, List.getElem?_append_right (Nat.le_refl _), Nat.sub_self]; rfl
      have HE2 := Lib.hid e2
      obtain ⟨i, hai⟩ : ∃ i, a + k = i := ⟨_, rfl⟩
      obtain ⟨j, hbj⟩ : ∃ j, b + k = j := ⟨_, rfl⟩
      rw [hai] at gx hi
      rw [hbj] at gy hj
      have hij : i ≠ j := by have := Hb.out; omega
      have cx := hS.cell gx
      have cy := hS.cell gy
      have fx := hS.froz i
      have fy := hS.froz j
      obtain ⟨c3, f3⟩ := hS.drew.after hij gy (.slice oy ry.length cy')
      obtain ⟨c4, f4⟩ := hS.drew.after (Ne.symm hij) gx (.slice ox rx.length cx')
      have hiL : (i : Int) < (L : Int) := by omega
      have hjL : (j : Int) < (L : Int) := by omega
      have hiz : (0 : Int) ≤ (i : Int) := by omega
      have hjz : (0 : Int) ≤ (j : Int) := by omega
      have zi : (a : Int) + (k : Int) = (i : Int) := by omega
      have zj : (b : Int) + (k : Int) = (j : Int) := by omega
      have wi : IntKind.i64.wrap (i : Int) = (i : Int) := by rw [IntKind.wrap_i64]; omega
      have wj : IntKind.i64.wrap (j : Int) = (j : Int) := by rw [IntKind.wrap_i64]; omega
      have hS5 := (hS.swap hi hj).drew
      rw [← HE2.out] at hS5
      have HS5 := Lib.hid hS5
      clear hS gx gy hi hj e1 e2 hX3 hS5
      go_wp2_with fail
      go_region
      clear c3 f3 c4 f4 cx cy fx fy
      go_wp2
      go_roundw
      case rel => exact ⟨k + 1, X1 ++ [(rx, Value.slice ox rx.length cx')], X3, Y1 ++ [(ry, Value.slice oy ry.length cy')], Y3, hlt, by go_num, by rw [HXe.out]; simp, by rw [HYe.out]; simp, by simp [hX1], by simp [hY1], HS5.out⟩
      case measure => simp [intOf]; omega
    · have hlt' : ¬ (k : Int) < (n : Int) := by omega
      have hX2 : X2 = [] := by cases X2 with | nil => rfl | cons x X3 => (exfalso; have := congrArg List.length HXe.out; simp [HX.out] at this; omega)
      have hY2 : Y2 = [] := by cases Y2 with | nil => rfl | cons x X3 => (exfalso; have := congrArg List.length HYe.out; simp [HY.out] at this; omega)
      subst hX2; subst hY2
      have HF : Hid (SrW w0 g tl (P ++ (Y ++ (M ++ (X ++ S)))) wr) := Lib.hid (by rw [HXe.out, HYe.out]; simpa using HS.out)
      go_wp2
      go_end0
      exact ⟨rfl, HF.out⟩
end Go.Proofs.Ytphmiifochjemaa
