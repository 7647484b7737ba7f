/- slices.rotateCmpFunc, at rows. -/
import Derived.Test.YtphmiifochjemaaPsw
namespace Go.Proofs.Ytphmiifochjemaa
open Go.RowKit

set_option linter.unusedSimpArgs false in
set_option maxRecDepth 100000 in
set_option maxHeartbeats 8000000 in
theorem rotate_c (P L R S : List Hd) (a m b N c : Nat) (tl : List Value) (w0 W : World) (g : Nat) (u : Value) (hP : P.length = a) (hL : a + L.length = m) (hR : m + R.length = b) (hl : L ≠ []) (hr : R ≠ []) (hN : (P ++ (L ++ (R ++ S))).length = N) (hmax : N ≤ 1000000) (h : SrW w0 g tl (P ++ (L ++ (R ++ S))) W) :
    Calls Try.prog 48 #[.slice (some ⟨g, 0, none⟩) N c, .int .i64 a, .int .i64 m, .int .i64 b, u] W fun e w' => e = .returned (.tuple #[]) ∧ SrW w0 g tl (P ++ (R ++ (L ++ S))) w' := by
  have HH := Lib.hid h
  have hN' : N = a + L.length + R.length + S.length := by rw [← hN]; simp only [List.length_append]; omega
  have hl0 : 0 < L.length := List.length_pos_iff.2 hl
  have hr0 : 0 < R.length := List.length_pos_iff.2 hr
  obtain ⟨i0, hi0⟩ : ∃ i, L.length = i := ⟨_, rfl⟩
  obtain ⟨j0, hj0⟩ : ∃ j, R.length = j := ⟨_, rfl⟩
  rw [hi0] at hl0 hL hN'
  rw [hj0] at hr0 hR hN'
  have HP := Lib.hid hP
  have HI := Lib.hid hi0
  have HJ := Lib.hid hj0
  have HN := Lib.hid hN
  have e1 : (m : Int) - (a : Int) = (i0 : Int) := by omega
  have e2 : (b : Int) - (m : Int) = (j0 : Int) := by omega
  have hi1 : 1 ≤ i0 := hl0
  have hj1 : 1 ≤ j0 := hr0
  have hmN : m + j0 ≤ N := by omega
  have him : a + i0 = m := hL
  have wi0 : IntKind.i64.wrap (i0 : Int) = (i0 : Int) := by rw [IntKind.wrap_i64]; omega
  have wj0 : IntKind.i64.wrap (j0 : Int) = (j0 : Int) := by rw [IntKind.wrap_i64]; omega
  clear h hN hP hi0 hj0 hl hr hl0 hr0 hL hR hN'
  go_enter Try.func48, Try.ntmps48
  go_wp2
  clear e1 e2
  go_loopw [10, 11] (fun vi vj wr => ∃ (i j : Nat) (P1 L1 R1 S1 : List Hd), vi = .int .i64 i ∧ vj = .int .i64 j ∧ 1 ≤ i ∧ 1 ≤ j ∧ m + j ≤ N ∧ P1.length + i = m ∧ L1.length = i ∧ R1.length = j ∧ Hid (P1 ++ (R1 ++ (L1 ++ S1)) = P ++ (R ++ (L ++ S))) ∧ Hid ((P1 ++ (L1 ++ (R1 ++ S1))).length = N) ∧ Hid (SrW w0 g tl (P1 ++ (L1 ++ (R1 ++ S1))) wr)) (fun vi vj _ => (intOf vi).toNat + (intOf vj).toNat)
  case atStart => exact ⟨i0, j0, P, L, R, S, rfl, rfl, hi1, hj1, hmN, by rw [HP.out]; exact him, HI.out, HJ.out, Lib.hid rfl, HN, HH⟩
  case round =>
    obtain ⟨i, j, P1, L1, R1, S1, rfl, rfl, hi, hj, hmj, hp1, hl1, hr1, HT, HNN, HS⟩ := hrel
    clear wi0 wj0 hi1 hj1 hmN him
    by_cases hij : i = j
    · subst hij
      have hne : ((i : Int) != (i : Int)) = false := by simp
      have z1 : (m : Int) - (i : Int) = (P1.length : Int) := by omega
      have w1 : IntKind.i64.wrap (P1.length : Int) = (P1.length : Int) := by rw [IntKind.wrap_i64]; omega
      have HSW := Lib.hid (swapRange_c P1 L1 [] R1 S1 P1.length m i c tl w0 wr g u rfl hl1 hr1 (by simp; omega) (by have := HNN.out; simp only [List.length_append, List.length_nil] at this ⊢; omega) (by have := HS.out; simpa only [List.append_assoc, List.nil_append] using this))
      have e3 : (P1 ++ L1 ++ [] ++ R1 ++ S1).length = N := by have := HNN.out; simp only [List.length_append, List.length_nil] at this ⊢; omega
      rw [e3] at HSW
      have HE : Hid (P1 ++ R1 ++ [] ++ L1 ++ S1 = P ++ (R ++ (L ++ S))) := Lib.hid (by rw [← HT.out]; simp only [List.append_assoc, List.nil_append])
      clear e3 hp1 hl1 hr1
      go_wp2_with (go_at_call 49; refine HSW.out.mono ?_; rintro e w2 ⟨rfl, hs⟩; have HS2 := Lib.hid hs; clear hs)
      go_end0
      exact ⟨rfl, by rw [← HE.out]; exact HS2.out⟩
    · have hne : ((i : Int) != (j : Int)) = true := by simp; omega
      have z1 : (m : Int) - (i : Int) = (P1.length : Int) := by omega
      have w1 : IntKind.i64.wrap (P1.length : Int) = (P1.length : Int) := by rw [IntKind.wrap_i64]; omega
      by_cases hgt : j < i
      · have hgt' : (i : Int) > (j : Int) := by omega
        have hgt2 : (j : Int) < (i : Int) := by omega
        have hlt1 : (L1.take j).length = j := by rw [List.length_take]; omega
        have hlt2 : (L1.drop j).length = i - j := by rw [List.length_drop]; omega
        have HLL : Hid (L1 = L1.take j ++ L1.drop j) := Lib.hid (List.take_append_drop j L1).symm
        obtain ⟨A, hA⟩ : ∃ A, L1.take j = A := ⟨_, rfl⟩
        obtain ⟨B, hB⟩ : ∃ B, L1.drop j = B := ⟨_, rfl⟩
        rw [hA] at hlt1 HLL
        rw [hB] at hlt2 HLL
        have hPm : P1.length + j + B.length = m := by omega
        have e3 : (P1 ++ A ++ B ++ R1 ++ S1).length = N := by have := HNN.out; rw [HLL.out] at this; simp only [List.length_append] at this ⊢; omega
        have HSW := Lib.hid (swapRange_c P1 A B R1 S1 P1.length m j c tl w0 wr g u rfl hlt1 hr1 hPm (by rw [e3]; exact hmax) (by have := HS.out; rw [HLL.out] at this; simpa only [List.append_assoc] using this))
        rw [e3] at HSW
        have HE : Hid ((P1 ++ R1) ++ (A ++ (B ++ S1)) = P ++ (R ++ (L ++ S))) := Lib.hid (by rw [← HT.out, HLL.out]; simp only [List.append_assoc])
        have HNN2 : Hid (((P1 ++ R1) ++ (B ++ (A ++ S1))).length = N) := Lib.hid (by rw [← e3]; simp only [List.length_append]; omega)
        have z2 : (i : Int) - (j : Int) = ((i - j : Nat) : Int) := by omega
        have w2' : IntKind.i64.wrap (((i - j : Nat)) : Int) = ((i - j : Nat) : Int) := by rw [IntKind.wrap_i64]; omega
        have hp2 : (P1 ++ R1).length + (i - j) = m := by rw [List.length_append]; omega
        have Hx := Lib.hid (And.intro hlt1 (And.intro hlt2 hp2))
        obtain ⟨d, hd⟩ : ∃ d, i - j = d := ⟨_, rfl⟩
        rw [hd] at z2 w2' Hx
        have hd1 : 1 ≤ d := by omega
        have hdi : d + j = i := by omega
        clear e3 hp1 hl1 hr1 hA hB hPm hlt1 hlt2 hp2 hd
        go_wp2_with (go_at_call 49; refine HSW.out.mono ?_; rintro e w2 ⟨rfl, hs⟩; have HS2 := Lib.hid hs; clear hs)
        go_roundw
        case rel => exact ⟨d, j, P1 ++ R1, B, A, S1, rfl, rfl, hd1, hj, hmj, Hx.out.2.2, Hx.out.2.1, Hx.out.1, HE, HNN2, Lib.hid (by have := HS2.out; simpa only [List.append_assoc] using this)⟩
        case measure => simp [intOf]; omega
      · have hgt' : ¬ (i : Int) > (j : Int) := by omega
        have hgt2 : ¬ (j : Int) < (i : Int) := by omega
        have hij2 : i < j := by omega
        have hlt1 : (R1.take (j - i)).length = j - i := by rw [List.length_take]; omega
        have hlt2 : (R1.drop (j - i)).length = i := by rw [List.length_drop]; omega
        have HLL : Hid (R1 = R1.take (j - i) ++ R1.drop (j - i)) := Lib.hid (List.take_append_drop (j - i) R1).symm
        obtain ⟨A, hA⟩ : ∃ A, R1.take (j - i) = A := ⟨_, rfl⟩
        obtain ⟨B, hB⟩ : ∃ B, R1.drop (j - i) = B := ⟨_, rfl⟩
        rw [hA] at hlt1 HLL
        rw [hB] at hlt2 HLL
        obtain ⟨d, hd⟩ : ∃ d, j - i = d := ⟨_, rfl⟩
        rw [hd] at hlt1
        have hd1 : 1 ≤ d := by omega
        have hdi : d + i = j := by omega
        have z3 : (m : Int) + (j : Int) = ((m + j : Nat) : Int) := by omega
        have w3 : IntKind.i64.wrap ((m : Int) + (j : Int)) = (m : Int) + (j : Int) := by rw [IntKind.wrap_i64]; omega
        have z4 : (m : Int) + (j : Int) - (i : Int) = ((m + d : Nat) : Int) := by omega
        have w4 : IntKind.i64.wrap ((m + d : Nat) : Int) = ((m + d : Nat) : Int) := by rw [IntKind.wrap_i64]; omega
        have hPm : P1.length + i + A.length = m + d := by omega
        have e3 : (P1 ++ L1 ++ A ++ B ++ S1).length = N := by have := HNN.out; rw [HLL.out] at this; simp only [List.length_append] at this ⊢; omega
        have HSW := Lib.hid (swapRange_c P1 L1 A B S1 P1.length (m + d) i c tl w0 wr g u rfl hl1 hlt2 hPm (by rw [e3]; exact hmax) (by have := HS.out; rw [HLL.out] at this; simpa only [List.append_assoc] using this))
        rw [e3] at HSW
        have HE : Hid (P1 ++ (A ++ (B ++ (L1 ++ S1))) = P ++ (R ++ (L ++ S))) := Lib.hid (by rw [← HT.out, HLL.out]; simp only [List.append_assoc])
        have HNN2 : Hid ((P1 ++ (B ++ (A ++ (L1 ++ S1)))).length = N) := Lib.hid (by rw [← e3]; simp only [List.length_append]; omega)
        have z2 : (j : Int) - (i : Int) = (d : Int) := by omega
        have w2' : IntKind.i64.wrap (d : Int) = (d : Int) := by rw [IntKind.wrap_i64]; omega
        have Hx := Lib.hid (And.intro hlt1 (And.intro hlt2 hp1))
        obtain ⟨md, hmd⟩ : ∃ md, m + d = md := ⟨_, rfl⟩
        have hmd2 : md ≤ N := by omega
        rw [hmd] at z4 w4 HSW
        clear e3 hp1 hl1 hr1 hA hB hPm hlt1 hlt2 hd z3 hmd
        go_wp2_with (go_at_call 49; refine HSW.out.mono ?_; rintro e w2 ⟨rfl, hs⟩; have HS2 := Lib.hid hs; clear hs)
        go_roundw
        case rel => exact ⟨i, d, P1, B, A, L1 ++ S1, rfl, rfl, hi, hd1, by omega, Hx.out.2.2, Hx.out.2.1, Hx.out.1, HE, HNN2, Lib.hid (by have := HS2.out; simpa only [List.append_assoc] using this)⟩
        case measure => simp [intOf]; omega
end Go.Proofs.Ytphmiifochjemaa
