/- soritesref01.ParseNum answers what the reader numL says of the bytes. -/
import Derived.Test.YtfbmglfkppbkoaaDoorRead
import Derived.Test.YtfbmglfkppbkoaaDoorRefNum
namespace Go.Proofs.YtfbmglfkppbkoaaDoor
open Go.RowKit

def refRun : Nat → List UInt8 → Option Nat
  | n, [] => some n
  | n, c :: l => if 48 ≤ c.toNat ∧ c.toNat ≤ 57 ∧ n ≤ 1152921504606846976 then refRun (10 * n + (c.toNat - 48)) l else none
theorem refRun_go (n : Nat) (c : UInt8) (l : List UInt8) (h : 48 ≤ c.toNat ∧ c.toNat ≤ 57 ∧ n ≤ 1152921504606846976) : refRun n (c :: l) = refRun (10 * n + (c.toNat - 48)) l := by
  rw [refRun, if_pos h]
theorem refRun_stop (n : Nat) (c : UInt8) (l : List UInt8) (h : ¬ (48 ≤ c.toNat ∧ c.toNat ≤ 57 ∧ n ≤ 1152921504606846976)) : refRun n (c :: l) = none := by
  rw [refRun, if_neg h]
theorem refRun_append : ∀ (l l' : List UInt8) (n : Nat), refRun n (l ++ l') = (refRun n l).bind fun m => refRun m l'
  | [], l', n => rfl
  | c :: l, l', n => by
    by_cases h : 48 ≤ c.toNat ∧ c.toNat ≤ 57 ∧ n ≤ 1152921504606846976
    · rw [List.cons_append, refRun_go n c _ h, refRun_go n c _ h, refRun_append l l']
    · rw [List.cons_append, refRun_stop n c _ h, refRun_stop n c _ h]
      rfl
theorem refRun_dec (u : Nat) : u ≤ 9223372036854775808 → refRun 0 (Lib.decDigits u) = some u := by
  induction u using Nat.strongRecOn with
  | ind u ih =>
    intro hu
    by_cases h : u < 10
    · rw [dec_one u h, refRun_go _ _ _ (by rw [dig_toNat u h]; omega), dig_toNat u h]
      simp [refRun]
    · rw [dec_more u h, refRun_append, ih (u / 10) (by omega) (by omega)]
      have hd := dig_toNat (u % 10) (by omega)
      rw [Option.bind_some, refRun_go _ _ _ (by rw [hd]; omega), hd]
      simp [refRun]
      omega
/-- What the reference makes of a text, n being what its digits run to. -/
def refV (l : List UInt8) (n : Nat) : Int := if l.head? = some 45 then wrap64 (-wrap64 (n : Int)) else wrap64 (n : Int)
def refL (l : List UInt8) : Option Int :=
  if 20 < l.length then none else
    match refRun 0 (if l.head? = some 45 then l.drop 1 else l) with
    | none => none
    | some n => if Lib.itoa (refV l n) = l then some (refV l n) else none
theorem wrap_in (n : Int) : -9223372036854775808 ≤ wrap64 n ∧ wrap64 n ≤ 9223372036854775807 := by
  unfold wrap64
  omega
theorem refV_in (l : List UInt8) (n : Nat) : -9223372036854775808 ≤ refV l n ∧ refV l n ≤ 9223372036854775807 := by
  unfold refV
  split <;> exact wrap_in _
theorem nDigits_le : ∀ (k u : Nat), u < 10 ^ (k + 1) → Lib.nDigits u ≤ k + 1
  | 0, u, h => by rw [Lib.nDigits_small (by omega)]; omega
  | k + 1, u, h => by
    by_cases h10 : u < 10
    · rw [Lib.nDigits_small h10]; omega
    · rw [Lib.nDigits_big h10]
      have := nDigits_le k (u / 10) (by rw [Nat.pow_succ] at h; omega)
      omega
theorem itoa_len (n : Int) (h0 : -9223372036854775808 ≤ n) (h1 : n ≤ 9223372036854775807) : (Lib.itoa n).length ≤ 20 := by
  have h19 : ∀ u : Nat, u ≤ 9223372036854775808 → (Lib.decDigits u).length ≤ 19 := by
    intro u hu
    rw [Lib.decDigits_length]
    exact nDigits_le 18 u (by omega)
  unfold Lib.itoa
  split
  · have := h19 n.natAbs (by omega)
    simp only [List.length_cons]
    omega
  · have := h19 n.toNat (by omega)
    omega
theorem refL_numL (l : List UInt8) : refL l = numL l := by
  cases hn : numL l with
  | some k =>
    obtain ⟨hl, h0, h1⟩ := numL_back hn
    have hlen := itoa_len k h0 h1
    rw [hl] at hlen
    unfold refL
    rw [if_neg (by omega)]
    by_cases hk : k < 0
    · have e : l = 45 :: Lib.decDigits k.natAbs := by rw [← hl]; unfold Lib.itoa; rw [if_pos hk]
      have hh : l.head? = some 45 := by rw [e]; rfl
      have hd : l.drop 1 = Lib.decDigits k.natAbs := by rw [e]; rfl
      rw [if_pos hh, hd, refRun_dec _ (by omega)]
      have hv : refV l k.natAbs = k := by
        unfold refV
        rw [if_pos hh, wrap_neg _ (by omega) (by omega)]
        omega
      simp only [hv, hl, if_true]
    · have e : l = Lib.decDigits k.toNat := by rw [← hl]; unfold Lib.itoa; rw [if_neg hk]
      have hh : ¬ l.head? = some 45 := by
        intro hc
        cases hx : l with
        | nil => rw [hx] at hc; cases hc
        | cons c t =>
          rw [hx] at hc
          obtain rfl : c = 45 := Option.some.inj hc
          have := dec_digits k.toNat 45 (by rw [← e, hx]; simp)
          simp at this
      rw [if_neg hh, e, refRun_dec _ (by omega), ← e]
      have hv : refV l k.toNat = k := by
        unfold refV
        rw [if_neg hh]
        unfold wrap64
        omega
      simp only [hv, hl, if_true]
  | none =>
    unfold refL
    split
    · rfl
    · split
      · rfl
      · rename_i n _
        split
        · rename_i he
          have := numL_itoa (refV l n) (refV_in l n).1 (refV_in l n).2
          rw [he, hn] at this
          cases this
        · rfl
end Go.Proofs.YtfbmglfkppbkoaaDoor
