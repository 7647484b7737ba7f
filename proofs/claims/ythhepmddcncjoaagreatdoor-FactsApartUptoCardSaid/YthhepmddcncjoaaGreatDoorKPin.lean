/- slices.insertionSortCmpFunc, at rows. slices.swapRangeCmpFunc, at rows. slices.rotateCmpFunc, at rows. slices.symMergeCmpFunc at rows: where one side is one row. slices.symMergeCmpFunc at rows: where the second side is one row. -/
import Derived.Test.YthhepmddcncjoaaGreatDoorKPri
import Derived.StillTailTactics
set_option linter.unusedSimpArgs false
set_option linter.unusedVariables false
namespace Go.Proofs.YthhepmddcncjoaaGreatDoor
open Go.RowKit

/-- Rows held against each other, wherever they lie. -/
def hdC (x y : Hd) : Int := rwC x.1 y.1
theorem hdC_tot : TotC hdC := ⟨fun a b => rwC_tot.range a.1 b.1, fun a b => rwC_tot.anti a.1 b.1, fun a b d => rwC_tot.trans a.1 b.1 d.1⟩
theorem srw_slice {w0 W : World} {g : Nat} {tl : List Value} {hs : List Hd} (h : SrW w0 g tl hs W) {x : Hd} (hx : x ∈ hs) : ∃ o c, x.2 = .slice o x.1.length c := by
  obtain ⟨o, c, e, _⟩ := SlOf.uni (h.see x hx)
  exact ⟨o, c, e⟩
theorem get_mid {α : Type} (A B : List α) (x : α) {i : Nat} (h : A.length = i) : (A ++ x :: B)[i]? = some x := by
  subst h
  rw [List.getElem?_append_right (Nat.le_refl _), Nat.sub_self]; rfl

set_option linter.unusedSimpArgs false in
set_option maxRecDepth 100000 in
set_option maxHeartbeats 8000000 in
theorem insertion_c (P X S : List Hd) (a b N c : Nat) (tl : List Value) (w0 W : World) (g : Nat) (hP : P.length = a) (hb : a + X.length = b) (hN : (P ++ (X ++ S)).length = N) (hmax : N ≤ 1000000) (h : SrW w0 g tl (P ++ (X ++ S)) W) :
    Calls Tryz.prog 122 #[.slice (some ⟨g, 0, none⟩) N c, .int .i64 a, .int .i64 b, .func (.func 58) #[] #[]] W fun e w' => e = .returned (.tuple #[]) ∧ ∃ X', X'.Perm X ∧ upL hdC X' ∧ SrW w0 g tl (P ++ (X' ++ S)) w' := by
  have HH := Lib.hid h
  have eg : ∀ args w, (callFunc 58 args).run Tryz.prog w = .ok (.enter 58 args) w := enters_of Tryz.func58 (by kernel_rfl) rfl
  have hbN : b ≤ N := by rw [← hN, ← hb, ← hP]; simp only [List.length_append]; omega
  have Hb := Lib.hid hb
  have HP := Lib.hid hP
  have HN := Lib.hid hN
  have hab : a ≤ b := by omega
  have hstart : ∃ Y Z : List Hd, X = Y ++ Z ∧ upL hdC Y ∧ (Y.length = 1 ∨ (Y = [] ∧ Z = [])) := by
    cases X with
    | nil => exact ⟨[], [], rfl, up_nil, .inr ⟨rfl, rfl⟩⟩
    | cons x X => exact ⟨[x], X, rfl, up_one x, .inl rfl⟩
  have HSt := Lib.hid hstart
  clear h hb hP hN hstart
  go_enter Tryz.func122, Tryz.ntmps122
  go_wp2
  go_loopw [8] (fun vi wr => ∃ (i k : Nat) (Y Z : List Hd), vi = .int .i64 i ∧ Hid (i = a + k) ∧ 1 ≤ k ∧ i ≤ b + 1 ∧ Hid ((Y ++ Z).Perm X) ∧ Hid (upL hdC Y) ∧ Hid (Y.length = k ∨ (Y = [] ∧ Z = [])) ∧ Hid (SrW w0 g tl (P ++ (Y ++ (Z ++ S))) wr)) (fun vi _ => b + 1 - (intOf vi).toNat)
  case atStart =>
    obtain ⟨Y, Z, h1, h2, h3⟩ := HSt.out
    refine ⟨a + 1, 1, Y, Z, by go_num, Lib.hid rfl, Nat.le_refl _, by omega, Lib.hid (by rw [h1]), Lib.hid h2, Lib.hid h3, Lib.hid ?_⟩
    have := HH.out
    rw [h1] at this
    simpa only [List.append_assoc] using this
  case round =>
    obtain ⟨i, k, Y, Z, rfl, hik, hk1, hib, HPm, HU, HLn, HS⟩ := hrel
    clear HSt
    by_cases hlt : i < b
    · have hlt' : (i : Int) < (b : Int) := by omega
      have hYk : Y.length = k := by
        rcases HLn.out with h | ⟨h1, h2⟩
        · exact h
        · exfalso
          have h3 := HPm.out.length_eq
          rw [h1, h2] at h3
          have := Hb.out
          have := hik.out
          simp at h3
          omega
      obtain ⟨x, Z1, hZ⟩ : ∃ x Z1, Z = x :: Z1 := by
        cases Z with
        | nil =>
          exfalso
          have h3 := HPm.out.length_eq
          rw [List.append_nil, hYk] at h3
          have := Hb.out
          have := hik.out
          omega
        | cons x Z1 => exact ⟨x, Z1, rfl⟩
      subst hZ
      have HYk := Lib.hid hYk
      have hHS : Hid (SrW w0 g tl (P ++ (Y ++ (x :: ([] ++ (Z1 ++ S))))) wr) := Lib.hid (by have := HS.out; simpa using this)
      clear hYk HLn
      go_wp2
      go_loopw [9] (fun vj wx => ∃ (j : Nat) (Y1 Y2 : List Hd), vj = .int .i64 j ∧ a ≤ j ∧ j ≤ i ∧ Hid (Y = Y1 ++ Y2) ∧ Hid (P.length + Y1.length = j) ∧ Hid (∀ y ∈ Y2, hdC x y ≤ 0) ∧ Hid (SrW w0 g tl (P ++ (Y1 ++ (x :: (Y2 ++ (Z1 ++ S))))) wx)) (fun vj _ => (intOf vj).toNat)
      case atStart => exact ⟨i, Y, [], rfl, by have := hik.out; omega, Nat.le_refl _, Lib.hid (by simp), Lib.hid (by rw [HP.out, HYk.out]; exact hik.out.symm), Lib.hid (by simp), hHS⟩
      case round =>
        obtain ⟨j, Y1, Y2, rfl, haj, hji, HY, HJ, HLe, HX⟩ := hrel
        clear hHS
        have OUT : Hid ((∀ y, Y1.getLast? = some y → hdC y x ≤ 0) → ∀ wz, Hid (SrW w0 g tl (P ++ (Y1 ++ (x :: (Y2 ++ (Z1 ++ S))))) wz) → ∃ (i' k' : Nat) (Y' Z' : List Hd), Value.int .i64 ((i : Int) + 1) = .int .i64 i' ∧ Hid (i' = a + k') ∧ 1 ≤ k' ∧ i' ≤ b + 1 ∧ Hid ((Y' ++ Z').Perm X) ∧ Hid (upL hdC Y') ∧ Hid (Y'.length = k' ∨ (Y' = [] ∧ Z' = [])) ∧ Hid (SrW w0 g tl (P ++ (Y' ++ (Z' ++ S))) wz)) := Lib.hid (fun hlast wz hz => by
          refine ⟨i + 1, k + 1, Y1 ++ x :: Y2, Z1, by go_num, Lib.hid (by have := hik.out; omega), by omega, by omega, Lib.hid ?_, Lib.hid ?_, Lib.hid (.inl ?_), Lib.hid ?_⟩
          · refine List.Perm.trans ?_ HPm.out
            rw [HY.out, List.append_assoc, List.append_assoc, List.cons_append]
            exact List.Perm.append_left _ (List.perm_middle.symm)
          · have hu := HU.out
            rw [HY.out] at hu
            exact up_put hdC_tot hu HLe.out hlast
          · have := HYk.out
            rw [HY.out] at this
            simp only [List.length_append, List.length_cons] at this ⊢
            omega
          · have := hz.out
            simpa only [List.append_assoc, List.cons_append] using this)
        by_cases hja : a < j
        · obtain ⟨Y0, y, hY1⟩ : ∃ Y0 y, Y1 = Y0 ++ [y] := by
            rcases List.eq_nil_or_concat Y1 with h | ⟨Y0, y, h⟩
            · exfalso; have := HJ.out; rw [h, HP.out] at this; simp at this; omega
            · exact ⟨Y0, y, by rw [h, List.concat_eq_append]⟩
          subst hY1
          obtain ⟨rx, vx⟩ := x
          obtain ⟨ry, vy⟩ := y
          obtain ⟨ox, cx', hvx⟩ := srw_slice HX.out (x := (rx, vx)) (by simp)
          obtain ⟨oy, cy', hvy⟩ := srw_slice HX.out (x := (ry, vy)) (by simp)
          simp only at hvx hvy
          subst hvx; subst hvy
          obtain ⟨q, hq⟩ : ∃ q, j = q + 1 := ⟨j - 1, by omega⟩
          subst hq
          have hjq : (P ++ Y0).length = q := by have := HJ.out; simp only [List.length_append, List.length_cons, List.length_nil] at this ⊢; omega
          have el : P ++ ((Y0 ++ [(ry, Value.slice oy ry.length cy')]) ++ ((rx, Value.slice ox rx.length cx') :: (Y2 ++ (Z1 ++ S)))) = (P ++ Y0) ++ (ry, Value.slice oy ry.length cy') :: ([] ++ (rx, Value.slice ox rx.length cx') :: (Y2 ++ (Z1 ++ S))) := by simp
          have er : P ++ (Y0 ++ ((rx, Value.slice ox rx.length cx') :: (((ry, Value.slice oy ry.length cy') :: Y2) ++ (Z1 ++ S)))) = (P ++ Y0) ++ (rx, Value.slice ox rx.length cx') :: ([] ++ (ry, Value.slice oy ry.length cy') :: (Y2 ++ (Z1 ++ S))) := by simp
          have hX := HX.out
          rw [el] at hX
          have HER := Lib.hid er
          have gy := get_mid (P ++ Y0) ([] ++ (rx, Value.slice ox rx.length cx') :: (Y2 ++ (Z1 ++ S))) (ry, Value.slice oy ry.length cy') hjq
          have gx : ((P ++ Y0) ++ (ry, Value.slice oy ry.length cy') :: ([] ++ (rx, Value.slice ox rx.length cx') :: (Y2 ++ (Z1 ++ S))))[q + 1]? = some (rx, Value.slice ox rx.length cx') := by
            rw [← hjq, List.getElem?_append_right (by omega), show (P ++ Y0).length + 1 - (P ++ Y0).length = 1 by omega]; rfl
          have hqN : q + 1 < N := by omega
          have hqN' : (q : Int) + 1 < (N : Int) := by omega
          have hqN2 : (q : Int) < (N : Int) := by omega
          have hq0 : (0 : Int) ≤ (q : Int) := by omega
          have hq1 : (0 : Int) ≤ (q : Int) + 1 := by omega
          have zq : (q : Int) + 1 - 1 = (q : Int) := by omega
          have wq : IntKind.i64.wrap (q : Int) = (q : Int) := by rw [IntKind.wrap_i64]; omega
          have hgt : decide ((q : Int) + 1 > (a : Int)) = true := decide_eq_true (by omega)
          have hgt' : (a : Int) < (q : Int) + 1 := by omega
          have HCm := Lib.hid (fun (W' : World) (hb : Below wr.heap.size wr W') => hX.cmp (x := (rx, Value.slice ox rx.length cx')) (y := (ry, Value.slice oy ry.length cy')) (by simp) (by simp) hb)
          have cx := hX.cell gx
          have cy := hX.cell gy
          have hglt := hX.lt
          have HXX := Lib.hid hX
          have HQ := Lib.hid (And.intro hjq (And.intro gx gy))
          obtain ⟨z, hz⟩ : ∃ z, hdC (rx, Value.slice ox rx.length cx') (ry, Value.slice oy ry.length cy') = z := ⟨_, rfl⟩
          have hz' : rwC rx ry = z := hz
          have Hz := Lib.hid hz
          simp only [hz'] at HCm
          clear hX el er gx gy hjq hz hz'
          by_cases hz0 : z < 0
          · have hz1 : decide (z < 0) = true := decide_eq_true hz0
            go_wp2_with fail
            go_still_tail 14, (by kernel_rfl)
            go_wp2_with (go_at_fn 58; refine (HCm.out _ (Below.refl _ _).drew).mono ?_; rintro e w2 ⟨rfl, b2⟩; have HX2 := Lib.hid (HXX.out.drew.below b2); clear b2 HXX HCm cx cy)
            have hX := HX2.out
            have gx := HQ.out.2.1
            have gy := HQ.out.2.2
            have cx := hX.cell gx
            have cy := hX.cell gy
            have fx := hX.froz (q + 1)
            have fy := hX.froz q
            obtain ⟨c3, f3⟩ := hX.drew.after (show q + 1 ≠ q by omega) gy (.slice oy ry.length cy')
            obtain ⟨c4, f4⟩ := hX.drew.after (show q ≠ q + 1 by omega) gx (.slice ox rx.length cx')
            have hS5 := (hX.swap' (i := q) (j := q + 1) HQ.out.1 (by have := HQ.out.1; simp only [List.length_nil]; omega)).drew
            rw [← HER.out] at hS5
            have HS5 := Lib.hid hS5
            have hglt2 := hX.lt
            clear hX gx gy hS5
            go_wp2_with fail
            go_region
            clear c3 f3 c4 f4 cx cy fx fy
            go_wp2
            go_roundw
            case rel => exact ⟨q, Y0, (ry, Value.slice oy ry.length cy') :: Y2, by go_num, by omega, by omega, Lib.hid (by rw [HY.out]; simp), Lib.hid (by have := HQ.out.1; simp only [List.length_append] at this; exact this), Lib.hid (fun y hy => by
              rcases List.mem_cons.1 hy with rfl | hy
              · rw [Hz.out]; omega
              · exact HLe.out y hy), HS5⟩
            case measure => simp [intOf]
          · have hz1 : decide (z < 0) = false := decide_eq_false hz0
            go_wp2_with fail
            go_still_tail 14, (by kernel_rfl)
            go_wp2_with (go_at_fn 58; refine (HCm.out _ (Below.refl _ _).drew).mono ?_; rintro e w2 ⟨rfl, b2⟩; have HX2 := Lib.hid (HXX.out.drew.below b2); clear b2 HXX HCm cx cy)
            have HO := Lib.hid (OUT.out (fun y hy => by
              rw [List.getLast?_append] at hy
              simp at hy
              subst hy
              have := hdC_tot.anti (rx, Value.slice ox rx.length cx') (ry, Value.slice oy ry.length cy')
              rw [Hz.out] at this
              omega) w2 (by have := HX2; exact Lib.hid (by have := HX2.out; simpa using this)))
            clear OUT
            all_goals first
              | (exfalso; omega)
              | (go_roundw
                 case rel => exact HO.out
                 case measure => simp [intOf]; omega)
        · have hje : j = a := by omega
          have hgt : decide ((j : Int) > (a : Int)) = false := decide_eq_false (by omega)
          have hgt' : ¬ (a : Int) < (j : Int) := by omega
          have HO := Lib.hid (OUT.out (fun y hy => by
            have : Y1 = [] := List.eq_nil_of_length_eq_zero (by have := HJ.out; rw [HP.out] at this; omega)
            rw [this] at hy; simp at hy))
          clear OUT
          go_wp2_with fail
          go_region
          have HO2 := Lib.hid (HO.out _ (Lib.hid HX.out.drew))
          clear HO
          go_wp2
          go_roundw
          case rel => exact HO2.out
          case measure => simp [intOf]; omega
    · have hlt' : ¬ (i : Int) < (b : Int) := by omega
      have HZ : Hid (Z = []) := Lib.hid (by
        rcases HLn.out with h | ⟨_, h⟩
        · have h3 := HPm.out.length_eq
          rw [List.length_append, h] at h3
          have := Hb.out
          have := hik.out
          exact List.eq_nil_of_length_eq_zero (by omega)
        · exact h)
      have HF : Hid (∃ X', X'.Perm X ∧ upL hdC X' ∧ SrW w0 g tl (P ++ (X' ++ S)) wr) := Lib.hid ⟨Y, by have := HPm.out; rw [HZ.out, List.append_nil] at this; exact this, HU.out, by have := HS.out; rw [HZ.out] at this; simpa using this⟩
      go_wp2
      go_end0
      exact ⟨rfl, HF.out⟩
end Go.Proofs.YthhepmddcncjoaaGreatDoor
namespace Go.Proofs.YthhepmddcncjoaaGreatDoor
open Go.RowKit

set_option linter.unusedSimpArgs false in
set_option maxRecDepth 100000 in
set_option maxHeartbeats 8000000 in
theorem swapRange_c (P X M Y S : List Hd) (a b n c : Nat) (tl : List Value) (w0 W : World) (g : Nat) (u : Value) (hP : P.length = a) (hX : X.length = n) (hY : Y.length = n) (hb : a + n + M.length = b) (hN : (P ++ X ++ M ++ Y ++ S).length ≤ 1000000) (h : SrW w0 g tl (P ++ X ++ M ++ Y ++ S) W) :
    Calls Tryz.prog 175 #[.slice (some ⟨g, 0, none⟩) (P ++ X ++ M ++ Y ++ S).length c, .int .i64 a, .int .i64 b, .int .i64 n, u] W fun e w' => e = .returned (.tuple #[]) ∧ SrW w0 g tl (P ++ Y ++ M ++ X ++ S) w' := by
  have HH := Lib.hid h
  obtain ⟨L, hL⟩ : ∃ L, (P ++ X ++ M ++ Y ++ S).length = L := ⟨_, rfl⟩
  rw [hL] at hN ⊢
  have hL' : L = a + n + M.length + n + S.length := by rw [← hL]; simp; omega
  have hbn : b + n ≤ L := by omega
  have HP := Lib.hid hP
  have HX := Lib.hid hX
  have HY := Lib.hid hY
  have Hb := Lib.hid hb
  clear h hL hP hX hY hb hL'
  go_enter Tryz.func175, Tryz.ntmps175
  go_wp2
  go_loopw [10] (fun i wr => ∃ (k : Nat) (X1 X2 Y1 Y2 : List Hd), k ≤ n ∧ i = .int .i64 k ∧ X = X1 ++ X2 ∧ Y = Y1 ++ Y2 ∧ X1.length = k ∧ Y1.length = k ∧ SrW w0 g tl (P ++ (Y1 ++ X2) ++ M ++ (X1 ++ Y2) ++ S) wr) (fun i _ => n - (intOf i).toNat)
  case atStart => exact ⟨0, [], X, [], Y, Nat.zero_le _, rfl, rfl, rfl, rfl, rfl, HH.out⟩
  case round =>
    obtain ⟨k, X1, X2, Y1, Y2, hk, rfl, hX, hY, hX1, hY1, hS⟩ := hrel
    have HS := Lib.hid hS
    have HXe := Lib.hid hX
    have HYe := Lib.hid hY
    clear hS hX hY
    by_cases hlt : k < n
    · have hlt' : (k : Int) < (n : Int) := by omega
      obtain ⟨x, X3, hX2⟩ : ∃ x X3, X2 = x :: X3 := by
        cases X2 with
        | nil => exfalso; have := congrArg List.length HXe.out; simp [HX.out] at this; omega
        | cons x X3 => exact ⟨x, X3, rfl⟩
      obtain ⟨y, Y3, hY2⟩ : ∃ y Y3, Y2 = y :: Y3 := by
        cases Y2 with
        | nil => exfalso; have := congrArg List.length HYe.out; simp [HY.out] at this; omega
        | cons y Y3 => exact ⟨y, Y3, rfl⟩
      subst hX2; subst hY2
      obtain ⟨rx, vx⟩ := x
      obtain ⟨ry, vy⟩ := y
      obtain ⟨ox, cx', hvx, _⟩ := SlOf.uni (HS.out.see (rx, vx) (by simp))
      obtain ⟨oy, cy', hvy, _⟩ := SlOf.uni (HS.out.see (ry, vy) (by simp))
      simp only at hvx hvy
      subst hvx; subst hvy
      have hX3 : X3.length = n - k - 1 := by have := congrArg List.length HXe.out; simp [HX.out, hX1] at this; omega
      have e1 : P ++ (Y1 ++ (rx, Value.slice ox rx.length cx') :: X3) ++ M ++ (X1 ++ (ry, Value.slice oy ry.length cy') :: Y3) ++ S = (P ++ Y1) ++ (rx, Value.slice ox rx.length cx') :: ((X3 ++ M ++ X1) ++ (ry, Value.slice oy ry.length cy') :: (Y3 ++ S)) := by simp [List.append_assoc]
      have e2 : P ++ ((Y1 ++ [(ry, Value.slice oy ry.length cy')]) ++ X3) ++ M ++ ((X1 ++ [(rx, Value.slice ox rx.length cx')]) ++ Y3) ++ S = (P ++ Y1) ++ (ry, Value.slice oy ry.length cy') :: ((X3 ++ M ++ X1) ++ (rx, Value.slice ox rx.length cx') :: (Y3 ++ S)) := by simp [List.append_assoc]
      have hi : (P ++ Y1).length = a + k := by rw [List.length_append, HP.out, hY1]
      have hj : (P ++ Y1).length + 1 + (X3 ++ M ++ X1).length = b + k := by
        rw [hi]; simp only [List.length_append]; rw [hX3, hX1, ← Hb.out]; omega
      have hS := HS.out
      rw [e1] at hS
      have gx : ((P ++ Y1) ++ (rx, Value.slice ox rx.length cx') :: ((X3 ++ M ++ X1) ++ (ry, Value.slice oy ry.length cy') :: (Y3 ++ S)))[a + k]? = some (rx, Value.slice ox rx.length cx') := by rw [← hi, List.getElem?_append_right (Nat.le_refl _), Nat.sub_self]; rfl
      have gy : ((P ++ Y1) ++ (rx, Value.slice ox rx.length cx') :: ((X3 ++ M ++ X1) ++ (ry, Value.slice oy ry.length cy') :: (Y3 ++ S)))[b + k]? = some (ry, Value.slice oy ry.length cy') := by
        rw [← hj, List.getElem?_append_right (by omega), show (P ++ Y1).length + 1 + (X3 ++ M ++ X1).length - (P ++ Y1).length = (X3 ++ M ++ X1).length + 1 by omega, List.getElem?_cons_succ, List.getElem?_append_right (Nat.le_refl _), Nat.sub_self]; rfl
      have HE2 := Lib.hid e2
      obtain ⟨i, hai⟩ : ∃ i, a + k = i := ⟨_, rfl⟩
      obtain ⟨j, hbj⟩ : ∃ j, b + k = j := ⟨_, rfl⟩
      rw [hai] at gx hi
      rw [hbj] at gy hj
      have hij : i ≠ j := by have := Hb.out; omega
      have cx := hS.cell gx
      have cy := hS.cell gy
      have fx := hS.froz i
      have fy := hS.froz j
      obtain ⟨c3, f3⟩ := hS.drew.after hij gy (.slice oy ry.length cy')
      obtain ⟨c4, f4⟩ := hS.drew.after (Ne.symm hij) gx (.slice ox rx.length cx')
      have hiL : (i : Int) < (L : Int) := by omega
      have hjL : (j : Int) < (L : Int) := by omega
      have hiz : (0 : Int) ≤ (i : Int) := by omega
      have hjz : (0 : Int) ≤ (j : Int) := by omega
      have zi : (a : Int) + (k : Int) = (i : Int) := by omega
      have zj : (b : Int) + (k : Int) = (j : Int) := by omega
      have wi : IntKind.i64.wrap (i : Int) = (i : Int) := by rw [IntKind.wrap_i64]; omega
      have wj : IntKind.i64.wrap (j : Int) = (j : Int) := by rw [IntKind.wrap_i64]; omega
      have hS5 := (hS.swap hi hj).drew
      rw [← HE2.out] at hS5
      have HS5 := Lib.hid hS5
      clear hS gx gy hi hj e1 e2 hX3 hS5
      go_wp2_with fail
      go_region
      clear c3 f3 c4 f4 cx cy fx fy
      go_wp2
      go_roundw
      case rel => exact ⟨k + 1, X1 ++ [(rx, Value.slice ox rx.length cx')], X3, Y1 ++ [(ry, Value.slice oy ry.length cy')], Y3, hlt, by go_num, by rw [HXe.out]; simp, by rw [HYe.out]; simp, by simp [hX1], by simp [hY1], HS5.out⟩
      case measure => simp [intOf]; omega
    · have hlt' : ¬ (k : Int) < (n : Int) := by omega
      have hX2 : X2 = [] := by cases X2 with | nil => rfl | cons x X3 => (exfalso; have := congrArg List.length HXe.out; simp [HX.out] at this; omega)
      have hY2 : Y2 = [] := by cases Y2 with | nil => rfl | cons x X3 => (exfalso; have := congrArg List.length HYe.out; simp [HY.out] at this; omega)
      subst hX2; subst hY2
      have HF : Hid (SrW w0 g tl (P ++ (Y ++ (M ++ (X ++ S)))) wr) := Lib.hid (by rw [HXe.out, HYe.out]; simpa using HS.out)
      go_wp2
      go_end0
      exact ⟨rfl, HF.out⟩
end Go.Proofs.YthhepmddcncjoaaGreatDoor
namespace Go.Proofs.YthhepmddcncjoaaGreatDoor
open Go.RowKit

set_option linter.unusedSimpArgs false in
set_option maxRecDepth 100000 in
set_option maxHeartbeats 8000000 in
theorem rotate_c (P L R S : List Hd) (a m b N c : Nat) (tl : List Value) (w0 W : World) (g : Nat) (u : Value) (hP : P.length = a) (hL : a + L.length = m) (hR : m + R.length = b) (hl : L ≠ []) (hr : R ≠ []) (hN : (P ++ (L ++ (R ++ S))).length = N) (hmax : N ≤ 1000000) (h : SrW w0 g tl (P ++ (L ++ (R ++ S))) W) :
    Calls Tryz.prog 154 #[.slice (some ⟨g, 0, none⟩) N c, .int .i64 a, .int .i64 m, .int .i64 b, u] W fun e w' => e = .returned (.tuple #[]) ∧ SrW w0 g tl (P ++ (R ++ (L ++ S))) w' := by
  have HH := Lib.hid h
  have hN' : N = a + L.length + R.length + S.length := by rw [← hN]; simp only [List.length_append]; omega
  have hl0 : 0 < L.length := List.length_pos_iff.2 hl
  have hr0 : 0 < R.length := List.length_pos_iff.2 hr
  obtain ⟨i0, hi0⟩ : ∃ i, L.length = i := ⟨_, rfl⟩
  obtain ⟨j0, hj0⟩ : ∃ j, R.length = j := ⟨_, rfl⟩
  rw [hi0] at hl0 hL hN'
  rw [hj0] at hr0 hR hN'
  have HP := Lib.hid hP
  have HI := Lib.hid hi0
  have HJ := Lib.hid hj0
  have HN := Lib.hid hN
  have e1 : (m : Int) - (a : Int) = (i0 : Int) := by omega
  have e2 : (b : Int) - (m : Int) = (j0 : Int) := by omega
  have hi1 : 1 ≤ i0 := hl0
  have hj1 : 1 ≤ j0 := hr0
  have hmN : m + j0 ≤ N := by omega
  have him : a + i0 = m := hL
  have wi0 : IntKind.i64.wrap (i0 : Int) = (i0 : Int) := by rw [IntKind.wrap_i64]; omega
  have wj0 : IntKind.i64.wrap (j0 : Int) = (j0 : Int) := by rw [IntKind.wrap_i64]; omega
  clear h hN hP hi0 hj0 hl hr hl0 hr0 hL hR hN'
  go_enter Tryz.func154, Tryz.ntmps154
  go_wp2
  clear e1 e2
  go_loopw [10, 11] (fun vi vj wr => ∃ (i j : Nat) (P1 L1 R1 S1 : List Hd), vi = .int .i64 i ∧ vj = .int .i64 j ∧ 1 ≤ i ∧ 1 ≤ j ∧ m + j ≤ N ∧ P1.length + i = m ∧ L1.length = i ∧ R1.length = j ∧ Hid (P1 ++ (R1 ++ (L1 ++ S1)) = P ++ (R ++ (L ++ S))) ∧ Hid ((P1 ++ (L1 ++ (R1 ++ S1))).length = N) ∧ Hid (SrW w0 g tl (P1 ++ (L1 ++ (R1 ++ S1))) wr)) (fun vi vj _ => (intOf vi).toNat + (intOf vj).toNat)
  case atStart => exact ⟨i0, j0, P, L, R, S, rfl, rfl, hi1, hj1, hmN, by rw [HP.out]; exact him, HI.out, HJ.out, Lib.hid rfl, HN, HH⟩
  case round =>
    obtain ⟨i, j, P1, L1, R1, S1, rfl, rfl, hi, hj, hmj, hp1, hl1, hr1, HT, HNN, HS⟩ := hrel
    clear wi0 wj0 hi1 hj1 hmN him
    by_cases hij : i = j
    · subst hij
      have hne : ((i : Int) != (i : Int)) = false := by simp
      have z1 : (m : Int) - (i : Int) = (P1.length : Int) := by omega
      have w1 : IntKind.i64.wrap (P1.length : Int) = (P1.length : Int) := by rw [IntKind.wrap_i64]; omega
      have HSW := Lib.hid (swapRange_c P1 L1 [] R1 S1 P1.length m i c tl w0 wr g u rfl hl1 hr1 (by simp; omega) (by have := HNN.out; simp only [List.length_append, List.length_nil] at this ⊢; omega) (by have := HS.out; simpa only [List.append_assoc, List.nil_append] using this))
      have e3 : (P1 ++ L1 ++ [] ++ R1 ++ S1).length = N := by have := HNN.out; simp only [List.length_append, List.length_nil] at this ⊢; omega
      rw [e3] at HSW
      have HE : Hid (P1 ++ R1 ++ [] ++ L1 ++ S1 = P ++ (R ++ (L ++ S))) := Lib.hid (by rw [← HT.out]; simp only [List.append_assoc, List.nil_append])
      clear e3 hp1 hl1 hr1
      go_wp2_with (go_at_call 175; refine HSW.out.mono ?_; rintro e w2 ⟨rfl, hs⟩; have HS2 := Lib.hid hs; clear hs)
      go_end0
      exact ⟨rfl, by rw [← HE.out]; exact HS2.out⟩
    · have hne : ((i : Int) != (j : Int)) = true := by simp; omega
      have z1 : (m : Int) - (i : Int) = (P1.length : Int) := by omega
      have w1 : IntKind.i64.wrap (P1.length : Int) = (P1.length : Int) := by rw [IntKind.wrap_i64]; omega
      by_cases hgt : j < i
      · have hgt' : (i : Int) > (j : Int) := by omega
        have hgt2 : (j : Int) < (i : Int) := by omega
        have hlt1 : (L1.take j).length = j := by rw [List.length_take]; omega
        have hlt2 : (L1.drop j).length = i - j := by rw [List.length_drop]; omega
        have HLL : Hid (L1 = L1.take j ++ L1.drop j) := Lib.hid (List.take_append_drop j L1).symm
        obtain ⟨A, hA⟩ : ∃ A, L1.take j = A := ⟨_, rfl⟩
        obtain ⟨B, hB⟩ : ∃ B, L1.drop j = B := ⟨_, rfl⟩
        rw [hA] at hlt1 HLL
        rw [hB] at hlt2 HLL
        have hPm : P1.length + j + B.length = m := by omega
        have e3 : (P1 ++ A ++ B ++ R1 ++ S1).length = N := by have := HNN.out; rw [HLL.out] at this; simp only [List.length_append] at this ⊢; omega
        have HSW := Lib.hid (swapRange_c P1 A B R1 S1 P1.length m j c tl w0 wr g u rfl hlt1 hr1 hPm (by rw [e3]; exact hmax) (by have := HS.out; rw [HLL.out] at this; simpa only [List.append_assoc] using this))
        rw [e3] at HSW
        have HE : Hid ((P1 ++ R1) ++ (A ++ (B ++ S1)) = P ++ (R ++ (L ++ S))) := Lib.hid (by rw [← HT.out, HLL.out]; simp only [List.append_assoc])
        have HNN2 : Hid (((P1 ++ R1) ++ (B ++ (A ++ S1))).length = N) := Lib.hid (by rw [← e3]; simp only [List.length_append]; omega)
        have z2 : (i : Int) - (j : Int) = ((i - j : Nat) : Int) := by omega
        have w2' : IntKind.i64.wrap (((i - j : Nat)) : Int) = ((i - j : Nat) : Int) := by rw [IntKind.wrap_i64]; omega
        have hp2 : (P1 ++ R1).length + (i - j) = m := by rw [List.length_append]; omega
        have Hx := Lib.hid (And.intro hlt1 (And.intro hlt2 hp2))
        obtain ⟨d, hd⟩ : ∃ d, i - j = d := ⟨_, rfl⟩
        rw [hd] at z2 w2' Hx
        have hd1 : 1 ≤ d := by omega
        have hdi : d + j = i := by omega
        clear e3 hp1 hl1 hr1 hA hB hPm hlt1 hlt2 hp2 hd
        go_wp2_with (go_at_call 175; refine HSW.out.mono ?_; rintro e w2 ⟨rfl, hs⟩; have HS2 := Lib.hid hs; clear hs)
        go_roundw
        case rel => exact ⟨d, j, P1 ++ R1, B, A, S1, rfl, rfl, hd1, hj, hmj, Hx.out.2.2, Hx.out.2.1, Hx.out.1, HE, HNN2, Lib.hid (by have := HS2.out; simpa only [List.append_assoc] using this)⟩
        case measure => simp [intOf]; omega
      · have hgt' : ¬ (i : Int) > (j : Int) := by omega
        have hgt2 : ¬ (j : Int) < (i : Int) := by omega
        have hij2 : i < j := by omega
        have hlt1 : (R1.take (j - i)).length = j - i := by rw [List.length_take]; omega
        have hlt2 : (R1.drop (j - i)).length = i := by rw [List.length_drop]; omega
        have HLL : Hid (R1 = R1.take (j - i) ++ R1.drop (j - i)) := Lib.hid (List.take_append_drop (j - i) R1).symm
        obtain ⟨A, hA⟩ : ∃ A, R1.take (j - i) = A := ⟨_, rfl⟩
        obtain ⟨B, hB⟩ : ∃ B, R1.drop (j - i) = B := ⟨_, rfl⟩
        rw [hA] at hlt1 HLL
        rw [hB] at hlt2 HLL
        obtain ⟨d, hd⟩ : ∃ d, j - i = d := ⟨_, rfl⟩
        rw [hd] at hlt1
        have hd1 : 1 ≤ d := by omega
        have hdi : d + i = j := by omega
        have z3 : (m : Int) + (j : Int) = ((m + j : Nat) : Int) := by omega
        have w3 : IntKind.i64.wrap ((m : Int) + (j : Int)) = (m : Int) + (j : Int) := by rw [IntKind.wrap_i64]; omega
        have z4 : (m : Int) + (j : Int) - (i : Int) = ((m + d : Nat) : Int) := by omega
        have w4 : IntKind.i64.wrap ((m + d : Nat) : Int) = ((m + d : Nat) : Int) := by rw [IntKind.wrap_i64]; omega
        have hPm : P1.length + i + A.length = m + d := by omega
        have e3 : (P1 ++ L1 ++ A ++ B ++ S1).length = N := by have := HNN.out; rw [HLL.out] at this; simp only [List.length_append] at this ⊢; omega
        have HSW := Lib.hid (swapRange_c P1 L1 A B S1 P1.length (m + d) i c tl w0 wr g u rfl hl1 hlt2 hPm (by rw [e3]; exact hmax) (by have := HS.out; rw [HLL.out] at this; simpa only [List.append_assoc] using this))
        rw [e3] at HSW
        have HE : Hid (P1 ++ (A ++ (B ++ (L1 ++ S1))) = P ++ (R ++ (L ++ S))) := Lib.hid (by rw [← HT.out, HLL.out]; simp only [List.append_assoc])
        have HNN2 : Hid ((P1 ++ (B ++ (A ++ (L1 ++ S1)))).length = N) := Lib.hid (by rw [← e3]; simp only [List.length_append]; omega)
        have z2 : (j : Int) - (i : Int) = (d : Int) := by omega
        have w2' : IntKind.i64.wrap (d : Int) = (d : Int) := by rw [IntKind.wrap_i64]; omega
        have Hx := Lib.hid (And.intro hlt1 (And.intro hlt2 hp1))
        obtain ⟨md, hmd⟩ : ∃ md, m + d = md := ⟨_, rfl⟩
        have hmd2 : md ≤ N := by omega
        rw [hmd] at z4 w4 HSW
        clear e3 hp1 hl1 hr1 hA hB hPm hlt1 hlt2 hd z3 hmd
        go_wp2_with (go_at_call 175; refine HSW.out.mono ?_; rintro e w2 ⟨rfl, hs⟩; have HS2 := Lib.hid hs; clear hs)
        go_roundw
        case rel => exact ⟨i, d, P1, B, A, L1 ++ S1, rfl, rfl, hi, hd1, by omega, Hx.out.2.2, Hx.out.2.1, Hx.out.1, HE, HNN2, Lib.hid (by have := HS2.out; simpa only [List.append_assoc] using this)⟩
        case measure => simp [intOf]; omega
end Go.Proofs.YthhepmddcncjoaaGreatDoor
namespace Go.Proofs.YthhepmddcncjoaaGreatDoor
open Go.RowKit

section
variable {α : Type} {c : α → α → Int}
theorem up_last (hc : TotC c) {X : List α} {x : α} (u : upL c X) (h : X = [] ∨ ∃ l, X.getLast? = some l ∧ c l x ≤ 0) : ∀ y ∈ X, c y x ≤ 0 := by
  intro y hy
  rcases h with rfl | ⟨l, hl, h⟩
  · cases hy
  · rcases List.eq_nil_or_concat X with rfl | ⟨X', z, rfl⟩
    · cases hy
    · rw [List.concat_eq_append] at *
      simp at hl
      subst hl
      rcases List.mem_append.1 hy with hy | hy
      · exact hc.trans y z x ((up_app.1 u).2.2 y hy z (by simp)) h
      · rw [List.mem_singleton.1 hy]; exact h
theorem up_first (hc : TotC c) {Y : List α} {x : α} (u : upL c Y) (h : Y = [] ∨ ∃ f, Y.head? = some f ∧ c x f ≤ 0) : ∀ y ∈ Y, c x y ≤ 0 := by
  intro y hy
  rcases h with rfl | ⟨f, hf, h⟩
  · cases hy
  · cases Y with
    | nil => cases hy
    | cons f' Y' =>
      simp at hf
      subst hf
      rcases List.mem_cons.1 hy with rfl | hy
      · exact h
      · exact hc.trans x f' y h ((up_cons.1 u).1 y hy)
end
theorem get_third {α : Type} (P A B S : List α) {i t : Nat} (hi : P.length + A.length + t = i) (ht : t < B.length) : (P ++ (A ++ (B ++ S)))[i]? = B[t]? := by
  subst hi
  rw [List.getElem?_append_right (by omega), List.getElem?_append_right (by omega), List.getElem?_append_left (by omega)]
  congr 1; omega
theorem get_second {α : Type} (P A R : List α) {i t : Nat} (hi : P.length + t = i) (ht : t < A.length) : (P ++ (A ++ R))[i]? = A[t]? := by
  subst hi
  rw [List.getElem?_append_right (by omega), List.getElem?_append_left (by omega)]
  congr 1; omega
theorem take_last {α : Type} {l : List α} {k : Nat} {x : α} (h : l[k]? = some x) : (l.take (k + 1)).getLast? = some x := by
  rw [List.take_add_one, h]; simp
theorem drop_head {α : Type} {l : List α} {k : Nat} {x : α} (h : l[k]? = some x) : (l.drop k).head? = some x := by
  rw [List.head?_drop]; exact h
def SymP (w0 : World) (g : Nat) (tl : List Value) (P A B S : List Hd) (e : Ending) (w' : World) : Prop := e = .returned (.tuple #[]) ∧ ∃ M : List Hd, M.Perm (A ++ B) ∧ upL hdC M ∧ SrW w0 g tl (P ++ (M ++ S)) w'

set_option linter.unusedSimpArgs false in
set_option maxRecDepth 100000 in
set_option maxHeartbeats 16000000 in
theorem sym_a (P : List Hd) (x : Hd) (B S : List Hd) (a m b N c : Nat) (tl : List Value) (w0 W : World) (g : Nat) (hP : P.length = a) (hm : a + 1 = m) (hb : m + B.length = b) (hN : (P ++ ([x] ++ (B ++ S))).length = N) (hmax : N ≤ 1000000) (uB : upL hdC B) (h : SrW w0 g tl (P ++ ([x] ++ (B ++ S))) W) :
    Calls Tryz.prog 123 #[.slice (some ⟨g, 0, none⟩) N c, .int .i64 a, .int .i64 m, .int .i64 b, .func (.func 58) #[] #[]] W (SymP w0 g tl P [x] B S) := by
  have HH := Lib.hid h
  have eg : ∀ args w, (callFunc 58 args).run Tryz.prog w = .ok (.enter 58 args) w := enters_of Tryz.func58 (by kernel_rfl) rfl
  have hbN : b ≤ N := by rw [← hN, ← hb, ← hm, ← hP]; simp only [List.length_append, List.length_cons, List.length_nil]; omega
  have Hb := Lib.hid hb
  have HP := Lib.hid hP
  have Hm := Lib.hid hm
  have HU := Lib.hid uB
  have hone : ((m : Int) - (a : Int) == 1) = true := by simp; omega
  have hone' : (m : Int) - (a : Int) = 1 := by omega
  have ham : a < m := by omega
  have hmb : m ≤ b := by omega
  clear h hb hP hN hm uB
  go_enter Tryz.func123, Tryz.ntmps123
  go_wp2
  clear hone hone'
  go_loopw [10, 11] (fun vi vj wr => ∃ (i j : Nat), vi = .int .i64 i ∧ vj = .int .i64 j ∧ m ≤ i ∧ i ≤ j ∧ j ≤ b ∧ Hid (i = m ∨ ∃ t y, i = m + t + 1 ∧ B[t]? = some y ∧ hdC y x < 0) ∧ Hid (j = b ∨ ∃ t y, j = m + t ∧ B[t]? = some y ∧ 0 ≤ hdC y x) ∧ Hid (SrW w0 g tl (P ++ ([x] ++ (B ++ S))) wr)) (fun vi vj _ => (intOf vj).toNat - (intOf vi).toNat)
  case atStart => exact ⟨m, b, rfl, rfl, Nat.le_refl _, hmb, Nat.le_refl _, Lib.hid (.inl rfl), Lib.hid (.inl rfl), HH⟩
  case round =>
    obtain ⟨i, j, rfl, rfl, hmi, hij, hjb, HLo, HHi, HS⟩ := hrel
    by_cases hlt : i < j
    · have hlt' : (i : Int) < (j : Int) := by omega
      obtain ⟨h, hh⟩ : ∃ h : Nat, ((i : Int) + (j : Int)) / 2 = (h : Int) := ⟨(i + j) / 2, by omega⟩
      have hih : i ≤ h := by omega
      have hhj : h < j := by omega
      have hhN : (h : Int) < (N : Int) := by omega
      have hh0 : (0 : Int) ≤ (h : Int) := by omega
      have haN : (a : Int) < (N : Int) := by omega
      have ha0 : (0 : Int) ≤ (a : Int) := by omega
      obtain ⟨t, ht⟩ : ∃ t, h = m + t := ⟨h - m, by omega⟩
      have htB : t < B.length := by have := Hb.out; omega
      obtain ⟨y, hy⟩ : ∃ y, B[t]? = some y := ⟨B[t], List.getElem?_eq_getElem htB⟩
      have gy : (P ++ ([x] ++ (B ++ S)))[h]? = some y := by rw [get_third P [x] B S (t := t) (by have := Hm.out; have := HP.out; simp; omega) htB]; exact hy
      have gx : (P ++ ([x] ++ (B ++ S)))[a]? = some x := by rw [get_second P [x] (B ++ S) (t := 0) (by have := HP.out; omega) (by simp)]; rfl
      have cy := HS.out.cell gy
      have cx := HS.out.cell gx
      have hglt := HS.out.lt
      have HC := Lib.hid (fun (W' : World) (hb : Below wr.heap.size wr W') => HS.out.cmp (x := y) (y := x) (List.mem_of_getElem? gy) (List.mem_of_getElem? gx) hb)
      have HY := Lib.hid hy
      have Ht := Lib.hid ht
      obtain ⟨z, hz⟩ : ∃ z, hdC y x = z := ⟨_, rfl⟩
      have hz' : rwC y.1 x.1 = z := hz
      have Hz := Lib.hid hz
      simp only [hz'] at HC
      clear hy gy gx ht hz hz'
      by_cases hz0 : z < 0
      · have hz1 : decide (z < 0) = true := decide_eq_true hz0
        go_wp2_with fail
        go_still_tail 9, (by kernel_rfl)
        go_wp2_with (go_at_fn 58; refine (HC.out _ (Below.refl _ _).drew).mono ?_; rintro e w2 ⟨rfl, b2⟩; have HS2 := Lib.hid (HS.out.drew.below b2); clear b2 HC cx cy)
        go_roundw
        case rel => exact ⟨h + 1, j, by go_num, rfl, by omega, by omega, hjb, Lib.hid (.inr ⟨t, y, by have := Ht.out; omega, HY.out, by rw [Hz.out]; exact hz0⟩), HHi, HS2⟩
        case measure => simp [intOf]; omega
      · have hz1 : decide (z < 0) = false := decide_eq_false hz0
        go_wp2_with fail
        go_still_tail 9, (by kernel_rfl)
        go_wp2_with (go_at_fn 58; refine (HC.out _ (Below.refl _ _).drew).mono ?_; rintro e w2 ⟨rfl, b2⟩; have HS2 := Lib.hid (HS.out.drew.below b2); clear b2 HC cx cy)
        all_goals first
          | (exfalso; omega)
          | (go_roundw
             case rel => exact ⟨i, h, rfl, rfl, hmi, hih, by omega, HLo, Lib.hid (.inr ⟨t, y, Ht.out, HY.out, by rw [Hz.out]; omega⟩), HS2⟩
             case measure => simp [intOf]; omega)
    · have hlt' : ¬ (i : Int) < (j : Int) := by omega
      have hij2 : j = i := by omega
      subst hij2
      obtain ⟨p, hp⟩ : ∃ p, j = m + p := ⟨j - m, by omega⟩
      have hpB : p ≤ B.length := by have := Hb.out; omega
      obtain ⟨B1, hB1⟩ : ∃ B1, B.take p = B1 := ⟨_, rfl⟩
      obtain ⟨B2, hB2⟩ : ∃ B2, B.drop p = B2 := ⟨_, rfl⟩
      have hBB : B = B1 ++ B2 := by rw [← hB1, ← hB2, List.take_append_drop]
      have hlB1 : B1.length = p := by rw [← hB1, List.length_take]; omega
      have HUp : Hid (upL hdC (B1 ++ x :: B2)) := Lib.hid (by
        have u := HU.out
        rw [hBB] at u
        refine up_ins hdC_tot u (up_last hdC_tot (up_app.1 u).1 ?_) (up_first hdC_tot (up_app.1 u).2.1 ?_)
        · rcases HLo.out with h | ⟨t, y, h1, h2, h3⟩
          · left; exact List.eq_nil_of_length_eq_zero (by omega)
          · right
            have : p = t + 1 := by omega
            exact ⟨y, by rw [← hB1, this]; exact take_last h2, by omega⟩
        · rcases HHi.out with h | ⟨t, y, h1, h2, h3⟩
          · left; rw [← hB2]; exact List.drop_of_length_le (by have := Hb.out; omega)
          · right
            have : p = t := by omega
            have ha := hdC_tot.anti y x
            exact ⟨y, by rw [← hB2, this]; exact drop_head h2, by omega⟩)
      have HPm : Hid ((B1 ++ x :: B2).Perm ([x] ++ B)) := Lib.hid (by rw [hBB]; exact List.perm_middle)
      have HS0 : Hid (SrW w0 g tl (P ++ ([] ++ (x :: (B1 ++ (B2 ++ S))))) wr) := Lib.hid (by have := HS.out; rw [hBB] at this; simpa using this)
      obtain ⟨E, hE⟩ : ∃ E : Nat, (j : Int) - 1 = (E : Int) := ⟨j - 1, by omega⟩
      have hEp : E = a + p := by have := Hm.out; omega
      have wE : IntKind.i64.wrap (E : Int) = (E : Int) := by rw [IntKind.wrap_i64]; omega
      have HEp := Lib.hid hEp
      have HlB := Lib.hid hlB1
      have hEN : E + 1 ≤ N := by omega
      have haE : a ≤ E := by omega
      clear HLo HHi hp hB1 hB2 hBB hEp hlB1 hpB HS
      go_wp2
      go_loopw [13] (fun vk wx => ∃ (k : Nat) (C1 C2 : List Hd), vk = .int .i64 k ∧ a ≤ k ∧ k ≤ E ∧ Hid (B1 = C1 ++ C2) ∧ Hid (P.length + C1.length = k) ∧ Hid (SrW w0 g tl (P ++ (C1 ++ (x :: (C2 ++ (B2 ++ S))))) wx)) (fun vk _ => E - (intOf vk).toNat)
      case atStart => exact ⟨a, [], B1, rfl, Nat.le_refl _, haE, Lib.hid rfl, Lib.hid (by rw [HP.out]; rfl), HS0⟩
      case round =>
        obtain ⟨k, C1, C2, rfl, hak, hkE, HC12, HK, HX⟩ := hrel
        clear HS0
        by_cases hkl : k < E
        · have hkl' : (k : Int) < (E : Int) := by omega
          obtain ⟨y, C3, hC2⟩ : ∃ y C3, C2 = y :: C3 := by
            cases C2 with
            | nil =>
              exfalso
              have h1 := congrArg List.length HC12.out
              have h2 := HlB.out
              have h3 := HK.out
              have h4 := HP.out
              have h5 := HEp.out
              simp at h1
              omega
            | cons y C3 => exact ⟨y, C3, rfl⟩
          subst hC2
          obtain ⟨rx, vx⟩ := x
          obtain ⟨ry, vy⟩ := y
          obtain ⟨ox, cx', hvx⟩ := srw_slice HX.out (x := (rx, vx)) (by simp)
          obtain ⟨oy, cy', hvy⟩ := srw_slice HX.out (x := (ry, vy)) (by simp)
          simp only at hvx hvy
          subst hvx; subst hvy
          have hjk : (P ++ C1).length = k := by have := HK.out; simp only [List.length_append]; exact this
          have el : P ++ (C1 ++ ((rx, Value.slice ox rx.length cx') :: (((ry, Value.slice oy ry.length cy') :: C3) ++ (B2 ++ S)))) = (P ++ C1) ++ (rx, Value.slice ox rx.length cx') :: ([] ++ (ry, Value.slice oy ry.length cy') :: (C3 ++ (B2 ++ S))) := by simp
          have er : P ++ ((C1 ++ [(ry, Value.slice oy ry.length cy')]) ++ ((rx, Value.slice ox rx.length cx') :: (C3 ++ (B2 ++ S)))) = (P ++ C1) ++ (ry, Value.slice oy ry.length cy') :: ([] ++ (rx, Value.slice ox rx.length cx') :: (C3 ++ (B2 ++ S))) := by simp
          have hX := HX.out
          rw [el] at hX
          have gx := get_mid (P ++ C1) ([] ++ (ry, Value.slice oy ry.length cy') :: (C3 ++ (B2 ++ S))) (rx, Value.slice ox rx.length cx') hjk
          have gy : ((P ++ C1) ++ (rx, Value.slice ox rx.length cx') :: ([] ++ (ry, Value.slice oy ry.length cy') :: (C3 ++ (B2 ++ S))))[k + 1]? = some (ry, Value.slice oy ry.length cy') := by
            rw [← hjk, List.getElem?_append_right (by omega), show (P ++ C1).length + 1 - (P ++ C1).length = 1 by omega]; rfl
          have hkN' : (k : Int) + 1 < (N : Int) := by omega
          have hkN2 : (k : Int) < (N : Int) := by omega
          have hk0 : (0 : Int) ≤ (k : Int) := by omega
          have hk1 : (0 : Int) ≤ (k : Int) + 1 := by omega
          have wk : IntKind.i64.wrap ((k : Int) + 1) = (k : Int) + 1 := by rw [IntKind.wrap_i64]; omega
          have cx := hX.cell gx
          have cy := hX.cell gy
          have fx := hX.froz (k + 1)
          have fy := hX.froz k
          obtain ⟨c3, f3⟩ := hX.drew.after (show k ≠ k + 1 by omega) gy (.slice oy ry.length cy')
          obtain ⟨c4, f4⟩ := hX.drew.after (show k + 1 ≠ k by omega) gx (.slice ox rx.length cx')
          have hS5 := (hX.swap (i := k) (j := k + 1) hjk (by simp only [List.length_nil]; omega)).drew
          rw [← er] at hS5
          have HS5 := Lib.hid hS5
          have hglt2 := hX.lt
          clear hX gx gy hS5 el er
          go_wp2_with fail
          go_region
          clear c3 f3 c4 f4 cx cy fx fy
          go_wp2
          go_roundw
          case rel => exact ⟨k + 1, C1 ++ [(ry, Value.slice oy ry.length cy')], C3, by go_num, by omega, hkl, Lib.hid (by rw [HC12.out]; simp), Lib.hid (by have := HK.out; simp only [List.length_append, List.length_cons, List.length_nil]; omega), HS5⟩
          case measure => simp [intOf]; omega
        · have hkl' : ¬ (k : Int) < (E : Int) := by omega
          have hC2 : C2 = [] := List.eq_nil_of_length_eq_zero (by
            have h1 := congrArg List.length HC12.out
            have h2 := HlB.out
            have h3 := HK.out
            have h4 := HP.out
            have h5 := HEp.out
            simp only [List.length_append] at h1
            omega)
          subst hC2
          have HF : Hid (SrW w0 g tl (P ++ ((B1 ++ x :: B2) ++ S)) wr) := Lib.hid (by have := HX.out; rw [HC12.out]; simpa using this)
          go_wp2
          go_end0
          exact ⟨rfl, B1 ++ x :: B2, HPm.out, HUp.out, HF.out⟩
end Go.Proofs.YthhepmddcncjoaaGreatDoor
namespace Go.Proofs.YthhepmddcncjoaaGreatDoor
open Go.RowKit

set_option linter.unusedSimpArgs false in
set_option maxRecDepth 100000 in
set_option maxHeartbeats 16000000 in
theorem sym_b (P A : List Hd) (y : Hd) (S : List Hd) (a m b N c : Nat) (tl : List Value) (w0 W : World) (g : Nat) (hP : P.length = a) (hm : a + A.length = m) (hb : m + 1 = b) (hA : 2 ≤ A.length) (hN : (P ++ (A ++ ([y] ++ S))).length = N) (hmax : N ≤ 1000000) (uA : upL hdC A) (h : SrW w0 g tl (P ++ (A ++ ([y] ++ S))) W) :
    Calls Tryz.prog 123 #[.slice (some ⟨g, 0, none⟩) N c, .int .i64 a, .int .i64 m, .int .i64 b, .func (.func 58) #[] #[]] W (SymP w0 g tl P A [y] S) := by
  have HH := Lib.hid h
  have eg : ∀ args w, (callFunc 58 args).run Tryz.prog w = .ok (.enter 58 args) w := enters_of Tryz.func58 (by kernel_rfl) rfl
  have hbN : b ≤ N := by rw [← hN, ← hb, ← hm, ← hP]; simp only [List.length_append, List.length_cons, List.length_nil]; omega
  have HP := Lib.hid hP
  have Hm := Lib.hid hm
  have HU := Lib.hid uA
  have ham : a + 2 ≤ m := by omega
  have hmb : m < b := by omega
  have hone : ((m : Int) - (a : Int) == 1) = false := by simp; omega
  have hone' : ¬ (m : Int) - (a : Int) = 1 := by omega
  have htwo : ((b : Int) - (m : Int) == 1) = true := by simp; omega
  have htwo' : (b : Int) - (m : Int) = 1 := by omega
  have wma : IntKind.i64.wrap ((m : Int) - (a : Int)) = (m : Int) - (a : Int) := by rw [IntKind.wrap_i64]; omega
  clear h hb hP hN hm uA hA
  go_enter Tryz.func123, Tryz.ntmps123
  go_wp2
  clear hone hone' htwo htwo' wma
  go_loopw [14, 15] (fun vi vj wr => ∃ (i j : Nat), vi = .int .i64 i ∧ vj = .int .i64 j ∧ a ≤ i ∧ i ≤ j ∧ j ≤ m ∧ Hid (i = a ∨ ∃ t x, i = a + t + 1 ∧ A[t]? = some x ∧ 0 ≤ hdC y x) ∧ Hid (j = m ∨ ∃ t x, j = a + t ∧ A[t]? = some x ∧ hdC y x < 0) ∧ Hid (SrW w0 g tl (P ++ (A ++ ([y] ++ S))) wr)) (fun vi vj _ => (intOf vj).toNat - (intOf vi).toNat)
  case atStart => exact ⟨a, m, rfl, rfl, Nat.le_refl _, by omega, Nat.le_refl _, Lib.hid (.inl rfl), Lib.hid (.inl rfl), HH⟩
  case round =>
    obtain ⟨i, j, rfl, rfl, hmi, hij, hjb, HLo, HHi, HS⟩ := hrel
    by_cases hlt : i < j
    · have hlt' : (i : Int) < (j : Int) := by omega
      obtain ⟨h, hh⟩ : ∃ h : Nat, ((i : Int) + (j : Int)) / 2 = (h : Int) := ⟨(i + j) / 2, by omega⟩
      have hih : i ≤ h := by omega
      have hhj : h < j := by omega
      have hhN : (h : Int) < (N : Int) := by omega
      have hh0 : (0 : Int) ≤ (h : Int) := by omega
      have hmN : (m : Int) < (N : Int) := by omega
      have hm0 : (0 : Int) ≤ (m : Int) := by omega
      obtain ⟨t, ht⟩ : ∃ t, h = a + t := ⟨h - a, by omega⟩
      have htA : t < A.length := by have := Hm.out; omega
      obtain ⟨x, hx⟩ : ∃ x, A[t]? = some x := ⟨A[t], List.getElem?_eq_getElem htA⟩
      have gx : (P ++ (A ++ ([y] ++ S)))[h]? = some x := by rw [get_second P A ([y] ++ S) (t := t) (by have := HP.out; omega) htA]; exact hx
      have gy : (P ++ (A ++ ([y] ++ S)))[m]? = some y := by rw [get_third P A [y] S (t := 0) (by have := HP.out; have := Hm.out; omega) (by simp)]; rfl
      have cy := HS.out.cell gy
      have cx := HS.out.cell gx
      have hglt := HS.out.lt
      have HC := Lib.hid (fun (W' : World) (hb : Below wr.heap.size wr W') => HS.out.cmp (x := y) (y := x) (List.mem_of_getElem? gy) (List.mem_of_getElem? gx) hb)
      have HY := Lib.hid hx
      have Ht := Lib.hid ht
      obtain ⟨z, hz⟩ : ∃ z, hdC y x = z := ⟨_, rfl⟩
      have hz' : rwC y.1 x.1 = z := hz
      have Hz := Lib.hid hz
      simp only [hz'] at HC
      clear hx gy gx ht hz hz'
      by_cases hz0 : z < 0
      · have hz1 : decide (z < 0) = true := decide_eq_true hz0
        go_wp2_with fail
        go_still_tail 9, (by kernel_rfl)
        go_wp2_with (go_at_fn 58; refine (HC.out _ (Below.refl _ _).drew).mono ?_; rintro e w2 ⟨rfl, b2⟩; have HS2 := Lib.hid (HS.out.drew.below b2); clear b2 HC cx cy)
        all_goals first
          | (exfalso; omega)
          | (go_roundw
             case rel => exact ⟨i, h, rfl, rfl, hmi, hih, by omega, HLo, Lib.hid (.inr ⟨t, x, Ht.out, HY.out, by rw [Hz.out]; exact hz0⟩), HS2⟩
             case measure => simp [intOf]; omega)
      · have hz1 : decide (z < 0) = false := decide_eq_false hz0
        go_wp2_with fail
        go_still_tail 9, (by kernel_rfl)
        go_wp2_with (go_at_fn 58; refine (HC.out _ (Below.refl _ _).drew).mono ?_; rintro e w2 ⟨rfl, b2⟩; have HS2 := Lib.hid (HS.out.drew.below b2); clear b2 HC cx cy)
        all_goals first
          | (exfalso; omega)
          | (go_roundw
             case rel => exact ⟨h + 1, j, by go_num, rfl, by omega, by omega, hjb, Lib.hid (.inr ⟨t, x, by have := Ht.out; omega, HY.out, by rw [Hz.out]; omega⟩), HHi, HS2⟩
             case measure => simp [intOf]; omega)
    · have hlt' : ¬ (i : Int) < (j : Int) := by omega
      have hij2 : j = i := by omega
      subst hij2
      obtain ⟨p, hp⟩ : ∃ p, j = a + p := ⟨j - a, by omega⟩
      have hpA : p ≤ A.length := by have := Hm.out; omega
      obtain ⟨A1, hA1⟩ : ∃ A1, A.take p = A1 := ⟨_, rfl⟩
      obtain ⟨A2, hA2⟩ : ∃ A2, A.drop p = A2 := ⟨_, rfl⟩
      have hAA : A = A1 ++ A2 := by rw [← hA1, ← hA2, List.take_append_drop]
      have hlA1 : A1.length = p := by rw [← hA1, List.length_take]; omega
      have HUp : Hid (upL hdC (A1 ++ y :: A2)) := Lib.hid (by
        have u := HU.out
        rw [hAA] at u
        refine up_ins hdC_tot u (up_last hdC_tot (up_app.1 u).1 ?_) (up_first hdC_tot (up_app.1 u).2.1 ?_)
        · rcases HLo.out with h | ⟨t, x, h1, h2, h3⟩
          · left; exact List.eq_nil_of_length_eq_zero (by omega)
          · right
            have : p = t + 1 := by omega
            have ha := hdC_tot.anti x y
            exact ⟨x, by rw [← hA1, this]; exact take_last h2, by omega⟩
        · rcases HHi.out with h | ⟨t, x, h1, h2, h3⟩
          · left; rw [← hA2]; exact List.drop_of_length_le (by have := Hm.out; omega)
          · right
            have : p = t := by omega
            exact ⟨x, by rw [← hA2, this]; exact drop_head h2, by omega⟩)
      have HPm : Hid ((A1 ++ y :: A2).Perm (A ++ [y])) := Lib.hid (by
        rw [hAA, List.append_assoc]
        exact List.Perm.append_left _ (List.perm_append_comm (l₁ := [y]) (l₂ := A2)))
      have HS0 : Hid (SrW w0 g tl (P ++ (A1 ++ (A2 ++ (y :: ([] ++ S))))) wr) := Lib.hid (by have := HS.out; rw [hAA] at this; simpa using this)
      have HlA : Hid (P.length + A1.length = j) := Lib.hid (by have := HP.out; omega)
      have HlAA : Hid (P.length + A1.length + A2.length = m) := Lib.hid (by have := congrArg List.length hAA; have := HP.out; have := Hm.out; simp only [List.length_append] at *; omega)
      clear HLo HHi hp hA1 hA2 hAA hlA1 hpA HS
      go_wp2
      go_loopw [17] (fun vk wx => ∃ (k : Nat) (C1 C2 : List Hd), vk = .int .i64 k ∧ j ≤ k ∧ k ≤ m ∧ Hid (A2 = C1 ++ C2) ∧ Hid (P.length + A1.length + C1.length = k) ∧ Hid (SrW w0 g tl (P ++ (A1 ++ (C1 ++ (y :: (C2 ++ S))))) wx)) (fun vk _ => (intOf vk).toNat)
      case atStart => exact ⟨m, A2, [], rfl, by omega, Nat.le_refl _, Lib.hid (by simp), HlAA, HS0⟩
      case round =>
        obtain ⟨k, C1, C2, rfl, hak, hkm, HC12, HK, HX⟩ := hrel
        clear HS0
        by_cases hkl : j < k
        · have hkl' : (k : Int) > (j : Int) := by omega
          have hkl'' : (j : Int) < (k : Int) := by omega
          obtain ⟨C0, x, hC1⟩ : ∃ C0 x, C1 = C0 ++ [x] := by
            rcases List.eq_nil_or_concat C1 with h | ⟨C0, x, h⟩
            · exfalso
              have h3 := HK.out
              have h4 := HlA.out
              rw [h] at h3
              simp at h3
              omega
            · exact ⟨C0, x, by rw [h, List.concat_eq_append]⟩
          subst hC1
          obtain ⟨rx, vx⟩ := x
          obtain ⟨ry, vy⟩ := y
          obtain ⟨ox, cx', hvx⟩ := srw_slice HX.out (x := (rx, vx)) (by simp)
          obtain ⟨oy, cy', hvy⟩ := srw_slice HX.out (x := (ry, vy)) (by simp)
          simp only at hvx hvy
          subst hvx; subst hvy
          obtain ⟨q, hq⟩ : ∃ q, k = q + 1 := ⟨k - 1, by omega⟩
          subst hq
          have hjq : (P ++ (A1 ++ C0)).length = q := by have := HK.out; simp only [List.length_append, List.length_cons, List.length_nil] at this ⊢; omega
          have el : P ++ (A1 ++ ((C0 ++ [(rx, Value.slice ox rx.length cx')]) ++ ((ry, Value.slice oy ry.length cy') :: (C2 ++ S)))) = (P ++ (A1 ++ C0)) ++ (rx, Value.slice ox rx.length cx') :: ([] ++ (ry, Value.slice oy ry.length cy') :: (C2 ++ S)) := by simp
          have er : P ++ (A1 ++ (C0 ++ ((ry, Value.slice oy ry.length cy') :: (((rx, Value.slice ox rx.length cx') :: C2) ++ S)))) = (P ++ (A1 ++ C0)) ++ (ry, Value.slice oy ry.length cy') :: ([] ++ (rx, Value.slice ox rx.length cx') :: (C2 ++ S)) := by simp
          have hX := HX.out
          rw [el] at hX
          have gx := get_mid (P ++ (A1 ++ C0)) ([] ++ (ry, Value.slice oy ry.length cy') :: (C2 ++ S)) (rx, Value.slice ox rx.length cx') hjq
          have gy : ((P ++ (A1 ++ C0)) ++ (rx, Value.slice ox rx.length cx') :: ([] ++ (ry, Value.slice oy ry.length cy') :: (C2 ++ S)))[q + 1]? = some (ry, Value.slice oy ry.length cy') := by
            rw [← hjq, List.getElem?_append_right (by omega), show (P ++ (A1 ++ C0)).length + 1 - (P ++ (A1 ++ C0)).length = 1 by omega]; rfl
          have hqN' : (q : Int) + 1 < (N : Int) := by omega
          have hqN2 : (q : Int) < (N : Int) := by omega
          have hq0 : (0 : Int) ≤ (q : Int) := by omega
          have hq1 : (0 : Int) ≤ (q : Int) + 1 := by omega
          have zq : (q : Int) + 1 - 1 = (q : Int) := by omega
          have wq : IntKind.i64.wrap (q : Int) = (q : Int) := by rw [IntKind.wrap_i64]; omega
          have cx := hX.cell gx
          have cy := hX.cell gy
          have fx := hX.froz (q + 1)
          have fy := hX.froz q
          obtain ⟨c3, f3⟩ := hX.drew.after (show q + 1 ≠ q by omega) gx (.slice ox rx.length cx')
          obtain ⟨c4, f4⟩ := hX.drew.after (show q ≠ q + 1 by omega) gy (.slice oy ry.length cy')
          have hS5 := (hX.swap' (i := q) (j := q + 1) hjq (by simp only [List.length_nil]; omega)).drew
          rw [← er] at hS5
          have HS5 := Lib.hid hS5
          have hglt2 := hX.lt
          clear hX gx gy hS5 el er
          go_wp2_with fail
          go_region
          clear c3 f3 c4 f4 cx cy fx fy
          go_wp2
          go_roundw
          case rel => exact ⟨q, C0, (rx, Value.slice ox rx.length cx') :: C2, by go_num, by omega, by omega, Lib.hid (by rw [HC12.out]; simp), Lib.hid (by have := hjq; simp only [List.length_append] at this; omega), HS5⟩
          case measure => simp [intOf]
        · have hkl' : ¬ (k : Int) > (j : Int) := by omega
          have hkl'' : ¬ (j : Int) < (k : Int) := by omega
          have hC1 : C1 = [] := List.eq_nil_of_length_eq_zero (by
            have h3 := HK.out
            have h4 := HlA.out
            omega)
          subst hC1
          have HF : Hid (SrW w0 g tl (P ++ ((A1 ++ y :: A2) ++ S)) wr) := Lib.hid (by have := HX.out; rw [HC12.out]; simpa using this)
          go_wp2
          go_end0
          exact ⟨rfl, A1 ++ y :: A2, HPm.out, HUp.out, HF.out⟩
end Go.Proofs.YthhepmddcncjoaaGreatDoor
