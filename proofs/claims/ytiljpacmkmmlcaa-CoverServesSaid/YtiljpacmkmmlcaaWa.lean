/- cover's sets of columns: bits; one within another one; one column. -/
import Derived.Test.YtiljpacmkmmlcaaSl
import Derived.Test.YtiljpacmkmmlcaaKb
set_option linter.unusedSimpArgs false
set_option linter.unusedVariables false
namespace Go.Proofs.Ytiljpacmkmmlcaa
open Go.RowKit

theorem u64_small {n : Nat} (h : n < 18446744073709551616) : IntKind.u64.wrap (n : Int) = (n : Int) := by
  unfold IntKind.wrap
  simp [IntKind.bits, IntKind.signed]
  omega
theorem ofIntN (n : Nat) : BitVec.ofInt 64 (n : Int) = BitVec.ofNat 64 n := BitVec.ofInt_natCast 64 n
theorem bv_bit {n i : Nat} (h : n < 256) : (BitVec.ofNat 64 n).getLsbD i = n.testBit i := by
  rw [BitVec.getLsbD_ofNat]
  by_cases hi : i < 64
  · rw [decide_eq_true hi, Bool.true_and]
  · rw [decide_eq_false hi, Bool.false_and]
    exact (Nat.testBit_lt_two_pow (Nat.lt_of_lt_of_le h (Nat.le_trans (by decide : 256 ≤ 2 ^ 64) (Nat.pow_le_pow_right (by decide) (by omega))))).symm
theorem andnot_zero {a b : Nat} (ha : a < 256) (hb : b < 256) : bits .andNot .u64 (a : Int) (b : Int) = 0 ↔ a &&& b = a := by
  have e : bits .andNot .u64 (a : Int) (b : Int) = IntKind.u64.wrap (((BitVec.ofNat 64 a &&& ~~~ BitVec.ofNat 64 b).toNat : Nat) : Int) := by
    rw [← ofIntN, ← ofIntN]; rfl
  rw [e, u64_small (BitVec.isLt _), and_sub]
  constructor
  · intro h j hj
    have h0 : (BitVec.ofNat 64 a &&& ~~~ BitVec.ofNat 64 b) = 0#64 := by
      apply BitVec.eq_of_toNat_eq
      rw [BitVec.toNat_ofNat]
      omega
    have h1 := congrArg (fun v : BitVec 64 => v.getLsbD j) h0
    simp only [BitVec.getLsbD_and, BitVec.getLsbD_not, bv_bit ha, bv_bit hb, BitVec.getLsbD_zero, hj, Bool.true_and] at h1
    have hj64 : j < 64 := by
      rcases Nat.lt_or_ge j 64 with h | h
      · exact h
      · rw [Nat.testBit_lt_two_pow (Nat.lt_of_lt_of_le ha (Nat.le_trans (by decide : 256 ≤ 2 ^ 64) (Nat.pow_le_pow_right (by decide) h)))] at hj
        cases hj
    rw [decide_eq_true hj64, Bool.true_and] at h1
    simpa using h1
  · intro h
    have h0 : (BitVec.ofNat 64 a &&& ~~~ BitVec.ofNat 64 b) = 0#64 := by
      apply BitVec.eq_of_getLsbD_eq
      intro j hj
      rw [BitVec.getLsbD_and, BitVec.getLsbD_not, bv_bit ha, bv_bit hb, BitVec.getLsbD_zero]
      cases hja : a.testBit j with
      | false => rfl
      | true => rw [h j hja]; simp
    rw [h0]
    rfl
theorem or_bits {a b : Nat} (ha : a < 256) (hb : b < 256) : bits .or .u64 (a : Int) (b : Int) = ((a ||| b : Nat) : Int) := by
  have e : bits .or .u64 (a : Int) (b : Int) = IntKind.u64.wrap (((BitVec.ofNat 64 a ||| BitVec.ofNat 64 b).toNat : Nat) : Int) := by
    rw [← ofIntN, ← ofIntN]; rfl
  rw [e, u64_small (BitVec.isLt _), BitVec.toNat_or, BitVec.toNat_ofNat, BitVec.toNat_ofNat, Nat.mod_eq_of_lt (by omega), Nat.mod_eq_of_lt (by omega)]
theorem u64_and1 (n : Nat) : bits .and .u64 (n : Int) 1 = ((n % 2 : Nat) : Int) := by
  have e : bits .and .u64 (n : Int) 1 = IntKind.u64.wrap (((BitVec.ofNat 64 n &&& BitVec.ofNat 64 1).toNat : Nat) : Int) := by
    rw [← ofIntN]; rfl
  rw [e, u64_small (BitVec.isLt _), BitVec.toNat_and, BitVec.toNat_ofNat, show (BitVec.ofNat 64 1).toNat = 2 ^ 1 - 1 from rfl, Nat.and_two_pow_sub_one_eq_mod]
  omega
theorem bitu_at (b i : Nat) : bits .and .u64 ((b : Int) / 2 ^ i) 1 = if b.testBit i = true then 1 else 0 := by
  have e : (b : Int) / 2 ^ i = ((b / 2 ^ i : Nat) : Int) := by simp
  rw [e, u64_and1, Nat.testBit_eq_decide_div_mod_eq]
  by_cases h : b / 2 ^ i % 2 = 1
  · rw [if_pos (by simpa using h), h]; rfl
  · rw [if_neg (by simpa using h)]
    have : b / 2 ^ i % 2 = 0 := by omega
    rw [this]; rfl

set_option maxRecDepth 100000 in
set_option maxHeartbeats 4000000 in
theorem isBelow_c (a b : Nat) (w : World) (ha : a < 256) (hb : b < 256) :
    Calls Try.prog 45 #[.int .u64 (a : Int), .int .u64 (b : Int)] w fun e w' => e = .returned (.bool (belowN a b)) ∧ w' = w := by
  by_cases hab : a = b
  · subst hab
    have Hz : Hid (belowN a a = false) := Lib.hid (by unfold belowN; simp)
    go_enter Try.func45, Try.ntmps45
    go_wp2
    go_ret
    exact ⟨by rw [Hz.out]; rfl, rfl⟩
  · have hz : ¬ (a : Int) = (b : Int) := by omega
    have hz2 : ((a : Int) != (b : Int)) = true := by rw [bne_iff_ne]; exact hz
    obtain ⟨c, hc⟩ : ∃ c, bits .andNot .u64 (a : Int) (b : Int) = c := ⟨_, rfl⟩
    have hk := andnot_zero ha hb
    rw [hc] at hk
    by_cases hc0 : c = 0
    · subst hc0
      have Hz : Hid (belowN a b = true) := Lib.hid (by unfold belowN; rw [hk.1 rfl]; simp [hab])
      clear hab hk
      go_enter Try.func45, Try.ntmps45
      go_wp2
      go_ret
      exact ⟨by rw [Hz.out]; rfl, rfl⟩
    · have hcz : (c == 0) = false := by rw [beq_eq_false_iff_ne]; exact hc0
      have Hz : Hid (belowN a b = false) := Lib.hid (by unfold belowN; have : ¬ (a &&& b = a) := fun h => hc0 (hk.2 h); simp [this])
      clear hab hk hc0
      go_enter Try.func45, Try.ntmps45
      go_wp2
      go_ret
      exact ⟨by rw [Hz.out]; rfl, rfl⟩
set_option maxRecDepth 100000 in
set_option maxHeartbeats 4000000 in
theorem has_c (a i : Nat) (w : World) (hi : i < 8) :
    Calls Try.prog 36 #[.int .u64 (a : Int), .int .i64 (i : Int)] w fun e w' => e = .returned (.bool (a.testBit i)) ∧ w' = w := by
  have hbi := bitu_at a i
  have hi0 : (0 : Int) ≤ (i : Int) := by omega
  cases hti : a.testBit i with
  | true =>
    rw [hti, if_pos rfl] at hbi
    clear hti
    go_enter Try.func36, Try.ntmps36
    go_wp2
    go_ret
    exact ⟨rfl, rfl⟩
  | false =>
    rw [hti, if_neg (by decide)] at hbi
    clear hti
    go_enter Try.func36, Try.ntmps36
    go_wp2
    go_ret
    exact ⟨rfl, rfl⟩
end Go.Proofs.Ytiljpacmkmmlcaa
