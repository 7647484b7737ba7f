/- cmp.Compare of numbers and texts, rel.compareVals. -/
import Derived.Test.YtphmiifochjemaaRel8
namespace Go.Proofs.Ytphmiifochjemaa
open Go.RowKit

set_option maxRecDepth 100000 in
set_option maxHeartbeats 4000000 in
theorem cmpInt_c (a b : Int) (w : World) : Calls Try.prog 36 #[.int .i64 a, .int .i64 b] w fun e w' => e = .returned (.int .i64 (intC a b)) ∧ Below w.heap.size w w' := by
  have Hz : Hid (intC a b = if a < b then -1 else if b < a then 1 else 0) := Lib.hid rfl
  by_cases h1 : a < b
  · have Hz2 := Lib.hid (Hz.out.trans (if_pos h1))
    go_enter Try.func36, Try.ntmps36
    go_wp2
    go_ret
    exact ⟨retI' Hz2.out.symm, Below.refl _ _⟩
  · by_cases h2 : b < a
    · have Hz2 := Lib.hid (Hz.out.trans ((if_neg h1).trans (if_pos h2)))
      go_enter Try.func36, Try.ntmps36
      go_wp2
      go_ret
      exact ⟨retI' Hz2.out.symm, Below.refl _ _⟩
    · have Hz2 := Lib.hid (Hz.out.trans ((if_neg h1).trans (if_neg h2)))
      go_enter Try.func36, Try.ntmps36
      go_wp2
      go_ret
      exact ⟨retI' Hz2.out.symm, Below.refl _ _⟩
set_option maxRecDepth 100000 in
set_option maxHeartbeats 4000000 in
theorem cmpI64_c (a b : Int) (w : World) : Calls Try.prog 38 #[.int .i64 a, .int .i64 b] w fun e w' => e = .returned (.int .i64 (intC a b)) ∧ Below w.heap.size w w' := by
  have Hz : Hid (intC a b = if a < b then -1 else if b < a then 1 else 0) := Lib.hid rfl
  by_cases h1 : a < b
  · have Hz2 := Lib.hid (Hz.out.trans (if_pos h1))
    go_enter Try.func38, Try.ntmps38
    go_wp2
    go_ret
    exact ⟨retI' Hz2.out.symm, Below.refl _ _⟩
  · by_cases h2 : b < a
    · have Hz2 := Lib.hid (Hz.out.trans ((if_neg h1).trans (if_pos h2)))
      go_enter Try.func38, Try.ntmps38
      go_wp2
      go_ret
      exact ⟨retI' Hz2.out.symm, Below.refl _ _⟩
    · have Hz2 := Lib.hid (Hz.out.trans ((if_neg h1).trans (if_neg h2)))
      go_enter Try.func38, Try.ntmps38
      go_wp2
      go_ret
      exact ⟨retI' Hz2.out.symm, Below.refl _ _⟩
theorem bytes_lex : ∀ (x y : List UInt8), lexC byteC x y = if Op.bytesLess x y = true then -1 else if (!x == y) = true then 1 else 0
  | [], [] => by simp [lexC, Op.bytesLess]
  | [], _ :: _ => by simp [lexC, Op.bytesLess]
  | _ :: _, [] => by simp [lexC, Op.bytesLess]
  | a :: x, b :: y => by
    have ih := bytes_lex x y
    unfold lexC Op.bytesLess
    rw [ih]
    unfold byteC
    by_cases h1 : a < b
    · simp [h1]
    · by_cases h2 : b < a
      · have hne : a ≠ b := by rintro rfl; exact h1 h2
        simp [h1, h2, hne]
      · have he : a = b := by
          simp only [UInt8.lt_iff_toNat_lt] at h1 h2
          exact UInt8.toNat_inj.1 (by omega)
        subst he
        simp [h1]
set_option maxRecDepth 100000 in
set_option maxHeartbeats 4000000 in
theorem cmpStr_c (a b : ByteArray) (w : World) : Calls Try.prog 37 #[.string a, .string b] w fun e w' => e = .returned (.int .i64 (textC a b)) ∧ Below w.heap.size w w' := by
  have Hz : Hid (textC a b = if Op.bytesLess a.toList b.toList = true then -1 else if (!a.toList == b.toList) = true then 1 else 0) := Lib.hid (by
    rw [Lib.toList_data, Lib.toList_data]
    exact bytes_lex _ _)
  cases h1 : Op.bytesLess a.toList b.toList with
  | true =>
    have Hz2 := Lib.hid (Hz.out.trans (if_pos h1))
    go_enter Try.func37, Try.ntmps37
    go_wp2
    go_ret
    exact ⟨retI' Hz2.out.symm, Below.refl _ _⟩
  | false =>
    have h1' : ¬ Op.bytesLess a.toList b.toList = true := by rw [h1]; simp
    cases h2 : (!a.toList == b.toList) with
    | true =>
      have Hz2 := Lib.hid (Hz.out.trans ((if_neg h1').trans (if_pos h2)))
      clear h1'
      go_enter Try.func37, Try.ntmps37
      go_wp2
      go_ret
      exact ⟨retI' Hz2.out.symm, Below.refl _ _⟩
    | false =>
      have Hz2 := Lib.hid (Hz.out.trans ((if_neg h1').trans (if_neg (by rw [h2]; simp))))
      clear h1'
      go_enter Try.func37, Try.ntmps37
      go_wp2
      go_ret
      exact ⟨retI' Hz2.out.symm, Below.refl _ _⟩
/-- A value's cells, as an aggregate. -/
abbrev vlV (x : Vl) : Value := .agg #[.bool x.sym, .int .i64 x.n, .string x.s]
set_option maxRecDepth 100000 in
set_option maxHeartbeats 4000000 in
theorem pvals_c (a b : Vl) (w : World) : Calls Try.prog 29 #[.agg #[.bool a.sym, .int .i64 a.n, .string a.s], .agg #[.bool b.sym, .int .i64 b.n, .string b.s]] w fun e w' => e = .returned (.int .i64 (vlC a b)) ∧ Below w.heap.size w w' := by
  obtain ⟨sa, na, ta⟩ := a
  obtain ⟨sb, nb, tb⟩ := b
  have HT := Lib.hid (fun w => cmpStr_c ta tb w)
  have HN := Lib.hid (fun w => cmpI64_c na nb w)
  have HB0 : Hid (∀ (x y : Obj), Below w.heap.size w ((w.alloc x).alloc y)) := Lib.hid fun x y => ((Below.refl _ _).alloc (Nat.le_refl _) x).alloc (by simp) y
  have HZ : Hid (vlC ⟨sa, na, ta⟩ ⟨sb, nb, tb⟩ = if (sa != sb) = true then (if sb = true then -1 else 1) else if sa = true then textC ta tb else intC na nb) := Lib.hid rfl
  simp only
  cases sa with
  | false =>
    cases sb with
    | false =>
      have Hz : Hid (vlC ⟨false, na, ta⟩ ⟨false, nb, tb⟩ = intC na nb) := Lib.hid (by rw [HZ.out]; simp)
      go_enter Try.func29, Try.ntmps29
      go_wp2_with fail
      refine (HN.out _).mono ?_
      rintro e w1 ⟨rfl, b1⟩
      go_wp2
      go_ret
      exact ⟨retI' Hz.out.symm, (HB0.out _ _).trans (b1.mono (by simp; omega))⟩
    | true =>
      have Hz : Hid (vlC ⟨false, na, ta⟩ ⟨true, nb, tb⟩ = -1) := Lib.hid (by rw [HZ.out]; simp)
      go_enter Try.func29, Try.ntmps29
      go_wp2
      go_ret
      exact ⟨retI' Hz.out.symm, HB0.out _ _⟩
  | true =>
    cases sb with
    | false =>
      have Hz : Hid (vlC ⟨true, na, ta⟩ ⟨false, nb, tb⟩ = 1) := Lib.hid (by rw [HZ.out]; simp)
      go_enter Try.func29, Try.ntmps29
      go_wp2
      go_ret
      exact ⟨retI' Hz.out.symm, HB0.out _ _⟩
    | true =>
      have Hz : Hid (vlC ⟨true, na, ta⟩ ⟨true, nb, tb⟩ = textC ta tb) := Lib.hid (by rw [HZ.out]; simp)
      go_enter Try.func29, Try.ntmps29
      go_wp2_with fail
      refine (HT.out _).mono ?_
      rintro e w1 ⟨rfl, b1⟩
      go_wp2
      go_ret
      exact ⟨retI' Hz.out.symm, (HB0.out _ _).trans (b1.mono (by simp; omega))⟩
end Go.Proofs.Ytphmiifochjemaa
