/- slices.insertionSortCmpFunc, at rows. -/
import Derived.Test.YtphmiifochjemaaPs
import Derived.StillTailTactics
namespace Go.Proofs.Ytphmiifochjemaa
open Go.RowKit

/-- Rows held against each other, wherever they lie. -/
def hdC (x y : Hd) : Int := rwC x.1 y.1
theorem hdC_tot : TotC hdC := ⟨fun a b => rwC_tot.range a.1 b.1, fun a b => rwC_tot.anti a.1 b.1, fun a b d => rwC_tot.trans a.1 b.1 d.1⟩
theorem srw_slice {w0 W : World} {g : Nat} {tl : List Value} {hs : List Hd} (h : SrW w0 g tl hs W) {x : Hd} (hx : x ∈ hs) : ∃ o c, x.2 = .slice o x.1.length c := by
  obtain ⟨o, c, e, _⟩ := SlOf.uni (h.see x hx)
  exact ⟨o, c, e⟩
theorem get_mid {α : Type} (A B : List α) (x : α) {i : Nat} (h : A.length = i) : (A ++ x :: B)[i]? = some x := by
  subst h
  rw [List.getElem?_append_right (Nat.le_refl _), Nat.sub_self]; rfl

set_option linter.unusedSimpArgs false in
set_option maxRecDepth 100000 in
set_option maxHeartbeats 8000000 in
theorem insertion_c (P X S : List Hd) (a b N c : Nat) (tl : List Value) (w0 W : World) (g : Nat) (hP : P.length = a) (hb : a + X.length = b) (hN : (P ++ (X ++ S)).length = N) (hmax : N ≤ 1000000) (h : SrW w0 g tl (P ++ (X ++ S)) W) :
    Calls Try.prog 41 #[.slice (some ⟨g, 0, none⟩) N c, .int .i64 a, .int .i64 b, .func (.func 15) #[] #[]] W fun e w' => e = .returned (.tuple #[]) ∧ ∃ X', X'.Perm X ∧ upL hdC X' ∧ SrW w0 g tl (P ++ (X' ++ S)) w' := by
  have HH := Lib.hid h
  have eg : ∀ args w, (callFunc 15 args).run Try.prog w = .ok (.enter 15 args) w := enters_of Try.func15 (by kernel_rfl) rfl
  have hbN : b ≤ N := by rw [← hN, ← hb, ← hP]; simp only [List.length_append]; omega
  have Hb := Lib.hid hb
  have HP := Lib.hid hP
  have HN := Lib.hid hN
  have hab : a ≤ b := by omega
  have hstart : ∃ Y Z : List Hd, X = Y ++ Z ∧ upL hdC Y ∧ (Y.length = 1 ∨ (Y = [] ∧ Z = [])) := by
    cases X with
    | nil => exact ⟨[], [], rfl, up_nil, .inr ⟨rfl, rfl⟩⟩
    | cons x X => exact ⟨[x], X, rfl, up_one x, .inl rfl⟩
  have HSt := Lib.hid hstart
  clear h hb hP hN hstart
  go_enter Try.func41, Try.ntmps41
  go_wp2
  go_loopw [8] (fun vi wr => ∃ (i k : Nat) (Y Z : List Hd), vi = .int .i64 i ∧ Hid (i = a + k) ∧ 1 ≤ k ∧ i ≤ b + 1 ∧ Hid ((Y ++ Z).Perm X) ∧ Hid (upL hdC Y) ∧ Hid (Y.length = k ∨ (Y = [] ∧ Z = [])) ∧ Hid (SrW w0 g tl (P ++ (Y ++ (Z ++ S))) wr)) (fun vi _ => b + 1 - (intOf vi).toNat)
  case atStart =>
    obtain ⟨Y, Z, h1, h2, h3⟩ := HSt.out
    refine ⟨a + 1, 1, Y, Z, by go_num, Lib.hid rfl, Nat.le_refl _, by omega, Lib.hid (by rw [h1]), Lib.hid h2, Lib.hid h3, Lib.hid ?_⟩
    have := HH.out
    rw [h1] at this
    simpa only [List.append_assoc] using this
  case round =>
    obtain ⟨i, k, Y, Z, rfl, hik, hk1, hib, HPm, HU, HLn, HS⟩ := hrel
    clear HSt
    by_cases hlt : i < b
    · have hlt' : (i : Int) < (b : Int) := by omega
      have hYk : Y.length = k := by
        rcases HLn.out with h | ⟨h1, h2⟩
        · exact h
        · exfalso
          have h3 := HPm.out.length_eq
          rw [h1, h2] at h3
          have := Hb.out
          have := hik.out
          simp at h3
          omega
      obtain ⟨x, Z1, hZ⟩ : ∃ x Z1, Z = x :: Z1 := by
        cases Z with
        | nil =>
          exfalso
          have h3 := HPm.out.length_eq
          rw [List.append_nil, hYk] at h3
          have := Hb.out
          have := hik.out
          omega
        | cons x Z1 => exact ⟨x, Z1, rfl⟩
      subst hZ
      have HYk := Lib.hid hYk
      have hHS : Hid (SrW w0 g tl (P ++ (Y ++ (x :: ([] ++ (Z1 ++ S))))) wr) := Lib.hid (by have := HS.out; simpa using this)
      clear hYk HLn
      go_wp2
      go_loopw [9] (fun vj wx => ∃ (j : Nat) (Y1 Y2 : List Hd), vj = .int .i64 j ∧ a ≤ j ∧ j ≤ i ∧ Hid (Y = Y1 ++ Y2) ∧ Hid (P.length + Y1.length = j) ∧ Hid (∀ y ∈ Y2, hdC x y ≤ 0) ∧ Hid (SrW w0 g tl (P ++ (Y1 ++ (x :: (Y2 ++ (Z1 ++ S))))) wx)) (fun vj _ => (intOf vj).toNat)
      case atStart => exact ⟨i, Y, [], rfl, by have := hik.out; omega, Nat.le_refl _, Lib.hid (by simp), Lib.hid (by rw [HP.out, HYk.out]; exact hik.out.symm), Lib.hid (by simp), hHS⟩
      case round =>
        obtain ⟨j, Y1, Y2, rfl, haj, hji, HY, HJ, HLe, HX⟩ := hrel
        clear hHS
        have OUT : Hid ((∀ y, Y1.getLast? = some y → hdC y x ≤ 0) → ∀ wz, Hid (SrW w0 g tl (P ++ (Y1 ++ (x :: (Y2 ++ (Z1 ++ S))))) wz) → ∃ (i' k' : Nat) (Y' Z' : List Hd), Value.int .i64 ((i : Int) + 1) = .int .i64 i' ∧ Hid (i' = a + k') ∧ 1 ≤ k' ∧ i' ≤ b + 1 ∧ Hid ((Y' ++ Z').Perm X) ∧ Hid (upL hdC Y') ∧ Hid (Y'.length = k' ∨ (Y' = [] ∧ Z' = [])) ∧ Hid (SrW w0 g tl (P ++ (Y' ++ (Z' ++ S))) wz)) := Lib.hid (fun hlast wz hz => by
          refine ⟨i + 1, k + 1, Y1 ++ x :: Y2, Z1, by go_num, Lib.hid (by have := hik.out; omega), by omega, by omega, Lib.hid ?_, Lib.hid ?_, Lib.hid (.inl ?_), Lib.hid ?_⟩
          · refine List.Perm.trans ?_ HPm.out
            rw [HY.out, List.append_assoc, List.append_assoc, List.cons_append]
            exact List.Perm.append_left _ (List.perm_middle.symm)
          · have hu := HU.out
            rw [HY.out] at hu
            exact up_put hdC_tot hu HLe.out hlast
          · have := HYk.out
            rw [HY.out] at this
            simp only [List.length_append, List.length_cons] at this ⊢
            omega
          · have := hz.out
            simpa only [List.append_assoc, List.cons_append] using this)
        by_cases hja : a < j
        · obtain ⟨Y0, y, hY1⟩ : ∃ Y0 y, Y1 = Y0 ++ [y] := by
            rcases List.eq_nil_or_concat Y1 with h | ⟨Y0, y, h⟩
            · exfalso; have := HJ.out; rw [h, HP.out] at this; simp at this; omega
            · exact ⟨Y0, y, by rw [h, List.concat_eq_append]⟩
          subst hY1
          obtain ⟨rx, vx⟩ := x
          obtain ⟨ry, vy⟩ := y
          obtain ⟨ox, cx', hvx⟩ := srw_slice HX.out (x := (rx, vx)) (by simp)
          obtain ⟨oy, cy', hvy⟩ := srw_slice HX.out (x := (ry, vy)) (by simp)
          simp only at hvx hvy
          subst hvx; subst hvy
          obtain ⟨q, hq⟩ : ∃ q, j = q + 1 := ⟨j - 1, by omega⟩
          subst hq
          have hjq : (P ++ Y0).length = q := by have := HJ.out; simp only [List.length_append, List.length_cons, List.length_nil] at this ⊢; omega
          have el : P ++ ((Y0 ++ [(ry, Value.slice oy ry.length cy')]) ++ ((rx, Value.slice ox rx.length cx') :: (Y2 ++ (Z1 ++ S)))) = (P ++ Y0) ++ (ry, Value.slice oy ry.length cy') :: ([] ++ (rx, Value.slice ox rx.length cx') :: (Y2 ++ (Z1 ++ S))) := by simp
          have er : P ++ (Y0 ++ ((rx, Value.slice ox rx.length cx') :: (((ry, Value.slice oy ry.length cy') :: Y2) ++ (Z1 ++ S)))) = (P ++ Y0) ++ (rx, Value.slice ox rx.length cx') :: ([] ++ (ry, Value.slice oy ry.length cy') :: (Y2 ++ (Z1 ++ S))) := by simp
          have hX := HX.out
          rw [el] at hX
          have HER := Lib.hid er
          have gy := get_mid (P ++ Y0) ([] ++ (rx, Value.slice ox rx.length cx') :: (Y2 ++ (Z1 ++ S))) (ry, Value.slice oy ry.length cy') hjq
          have gx : ((P ++ Y0) ++ (ry, Value.slice oy ry.length cy') :: ([] ++ (rx, Value.slice ox rx.length cx') :: (Y2 ++ (Z1 ++ S))))[q + 1]? = some (rx, Value.slice ox rx.length cx') := by
            rw [← hjq, List.getElem?_append_right (by omega), show (P ++ Y0).length + 1 - (P ++ Y0).length = 1 by omega]; rfl
          have hqN : q + 1 < N := by omega
          have hqN' : (q : Int) + 1 < (N : Int) := by omega
          have hqN2 : (q : Int) < (N : Int) := by omega
          have hq0 : (0 : Int) ≤ (q : Int) := by omega
          have hq1 : (0 : Int) ≤ (q : Int) + 1 := by omega
          have zq : (q : Int) + 1 - 1 = (q : Int) := by omega
          have wq : IntKind.i64.wrap (q : Int) = (q : Int) := by rw [IntKind.wrap_i64]; omega
          have hgt : decide ((q : Int) + 1 > (a : Int)) = true := decide_eq_true (by omega)
          have hgt' : (a : Int) < (q : Int) + 1 := by omega
          have HCm := Lib.hid (fun (W' : World) (hb : Below wr.heap.size wr W') => hX.cmp (x := (rx, Value.slice ox rx.length cx')) (y := (ry, Value.slice oy ry.length cy')) (by simp) (by simp) hb)
          have cx := hX.cell gx
          have cy := hX.cell gy
          have hglt := hX.lt
          have HXX := Lib.hid hX
          have HQ := Lib.hid (And.intro hjq (And.intro gx gy))
          obtain ⟨z, hz⟩ : ∃ z, hdC (rx, Value.slice ox rx.length cx') (ry, Value.slice oy ry.length cy') = z := ⟨_, rfl⟩
          have hz' : rwC rx ry = z := hz
          have Hz := Lib.hid hz
          simp only [hz'] at HCm
          clear hX el er gx gy hjq hz hz'
          by_cases hz0 : z < 0
          · have hz1 : decide (z < 0) = true := decide_eq_true hz0
            go_wp2_with fail
            go_still_tail 14, (by kernel_rfl)
            go_wp2_with (go_at_fn 15; refine (HCm.out _ (Below.refl _ _).drew).mono ?_; rintro e w2 ⟨rfl, b2⟩; have HX2 := Lib.hid (HXX.out.drew.below b2); clear b2 HXX HCm cx cy)
            have hX := HX2.out
            have gx := HQ.out.2.1
            have gy := HQ.out.2.2
            have cx := hX.cell gx
            have cy := hX.cell gy
            have fx := hX.froz (q + 1)
            have fy := hX.froz q
            obtain ⟨c3, f3⟩ := hX.drew.after (show q + 1 ≠ q by omega) gy (.slice oy ry.length cy')
            obtain ⟨c4, f4⟩ := hX.drew.after (show q ≠ q + 1 by omega) gx (.slice ox rx.length cx')
            have hS5 := (hX.swap' (i := q) (j := q + 1) HQ.out.1 (by have := HQ.out.1; simp only [List.length_nil]; omega)).drew
            rw [← HER.out] at hS5
            have HS5 := Lib.hid hS5
            have hglt2 := hX.lt
            clear hX gx gy hS5
            go_wp2_with fail
            go_region
            clear c3 f3 c4 f4 cx cy fx fy
            go_wp2
            go_roundw
            case rel => exact ⟨q, Y0, (ry, Value.slice oy ry.length cy') :: Y2, by go_num, by omega, by omega, Lib.hid (by rw [HY.out]; simp), Lib.hid (by have := HQ.out.1; simp only [List.length_append] at this; exact this), Lib.hid (fun y hy => by
              rcases List.mem_cons.1 hy with rfl | hy
              · rw [Hz.out]; omega
              · exact HLe.out y hy), HS5⟩
            case measure => simp [intOf]
          · have hz1 : decide (z < 0) = false := decide_eq_false hz0
            go_wp2_with fail
            go_still_tail 14, (by kernel_rfl)
            go_wp2_with (go_at_fn 15; refine (HCm.out _ (Below.refl _ _).drew).mono ?_; rintro e w2 ⟨rfl, b2⟩; have HX2 := Lib.hid (HXX.out.drew.below b2); clear b2 HXX HCm cx cy)
            have HO := Lib.hid (OUT.out (fun y hy => by
              rw [List.getLast?_append] at hy
              simp at hy
              subst hy
              have := hdC_tot.anti (rx, Value.slice ox rx.length cx') (ry, Value.slice oy ry.length cy')
              rw [Hz.out] at this
              omega) w2 (by have := HX2; exact Lib.hid (by have := HX2.out; simpa using this)))
            clear OUT
            all_goals first
              | (exfalso; omega)
              | (go_roundw
                 case rel => exact HO.out
                 case measure => simp [intOf]; omega)
        · have hje : j = a := by omega
          have hgt : decide ((j : Int) > (a : Int)) = false := decide_eq_false (by omega)
          have hgt' : ¬ (a : Int) < (j : Int) := by omega
          have HO := Lib.hid (OUT.out (fun y hy => by
            have : Y1 = [] := List.eq_nil_of_length_eq_zero (by have := HJ.out; rw [HP.out] at this; omega)
            rw [this] at hy; simp at hy))
          clear OUT
          go_wp2_with fail
          go_region
          have HO2 := Lib.hid (HO.out _ (Lib.hid HX.out.drew))
          clear HO
          go_wp2
          go_roundw
          case rel => exact HO2.out
          case measure => simp [intOf]; omega
    · have hlt' : ¬ (i : Int) < (b : Int) := by omega
      have HZ : Hid (Z = []) := Lib.hid (by
        rcases HLn.out with h | ⟨_, h⟩
        · have h3 := HPm.out.length_eq
          rw [List.length_append, h] at h3
          have := Hb.out
          have := hik.out
          exact List.eq_nil_of_length_eq_zero (by omega)
        · exact h)
      have HF : Hid (∃ X', X'.Perm X ∧ upL hdC X' ∧ SrW w0 g tl (P ++ (X' ++ S)) wr) := Lib.hid ⟨Y, by have := HPm.out; rw [HZ.out, List.append_nil] at this; exact this, HU.out, by have := HS.out; rw [HZ.out] at this; simpa using this⟩
      go_wp2
      go_end0
      exact ⟨rfl, HF.out⟩
end Go.Proofs.Ytphmiifochjemaa
