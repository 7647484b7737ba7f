/- soritesref01.ParseNum answers what the reader numL says of the bytes. soritesref01.ParseNum answers what the reader numL says of the bytes, in every world. -/
import Derived.Test.YthjfkngfgomkbaaGreatDoorRead
import Derived.Test.YthjfkngfgomkbaaGreatDoorRefNum
namespace Go.Proofs.YthjfkngfgomkbaaGreatDoor
open Go.RowKit

def refRun : Nat → List UInt8 → Option Nat
  | n, [] => some n
  | n, c :: l => if 48 ≤ c.toNat ∧ c.toNat ≤ 57 ∧ n ≤ 1152921504606846976 then refRun (10 * n + (c.toNat - 48)) l else none
theorem refRun_go (n : Nat) (c : UInt8) (l : List UInt8) (h : 48 ≤ c.toNat ∧ c.toNat ≤ 57 ∧ n ≤ 1152921504606846976) : refRun n (c :: l) = refRun (10 * n + (c.toNat - 48)) l := by
  rw [refRun, if_pos h]
theorem refRun_stop (n : Nat) (c : UInt8) (l : List UInt8) (h : ¬ (48 ≤ c.toNat ∧ c.toNat ≤ 57 ∧ n ≤ 1152921504606846976)) : refRun n (c :: l) = none := by
  rw [refRun, if_neg h]
theorem refRun_append : ∀ (l l' : List UInt8) (n : Nat), refRun n (l ++ l') = (refRun n l).bind fun m => refRun m l'
  | [], l', n => rfl
  | c :: l, l', n => by
    by_cases h : 48 ≤ c.toNat ∧ c.toNat ≤ 57 ∧ n ≤ 1152921504606846976
    · rw [List.cons_append, refRun_go n c _ h, refRun_go n c _ h, refRun_append l l']
    · rw [List.cons_append, refRun_stop n c _ h, refRun_stop n c _ h]
      rfl
theorem refRun_dec (u : Nat) : u ≤ 9223372036854775808 → refRun 0 (Lib.decDigits u) = some u := by
  induction u using Nat.strongRecOn with
  | ind u ih =>
    intro hu
    by_cases h : u < 10
    · rw [dec_one u h, refRun_go _ _ _ (by rw [dig_toNat u h]; omega), dig_toNat u h]
      simp [refRun]
    · rw [dec_more u h, refRun_append, ih (u / 10) (by omega) (by omega)]
      have hd := dig_toNat (u % 10) (by omega)
      rw [Option.bind_some, refRun_go _ _ _ (by rw [hd]; omega), hd]
      simp [refRun]
      omega
/-- What the reference makes of a text, n being what its digits run to. -/
def refV (l : List UInt8) (n : Nat) : Int := if l.head? = some 45 then wrap64 (-wrap64 (n : Int)) else wrap64 (n : Int)
def refL (l : List UInt8) : Option Int :=
  if 20 < l.length then none else
    match refRun 0 (if l.head? = some 45 then l.drop 1 else l) with
    | none => none
    | some n => if Lib.itoa (refV l n) = l then some (refV l n) else none
theorem wrap_in (n : Int) : -9223372036854775808 ≤ wrap64 n ∧ wrap64 n ≤ 9223372036854775807 := by
  unfold wrap64
  omega
theorem refV_in (l : List UInt8) (n : Nat) : -9223372036854775808 ≤ refV l n ∧ refV l n ≤ 9223372036854775807 := by
  unfold refV
  split <;> exact wrap_in _
theorem nDigits_le : ∀ (k u : Nat), u < 10 ^ (k + 1) → Lib.nDigits u ≤ k + 1
  | 0, u, h => by rw [Lib.nDigits_small (by omega)]; omega
  | k + 1, u, h => by
    by_cases h10 : u < 10
    · rw [Lib.nDigits_small h10]; omega
    · rw [Lib.nDigits_big h10]
      have := nDigits_le k (u / 10) (by rw [Nat.pow_succ] at h; omega)
      omega
theorem itoa_len (n : Int) (h0 : -9223372036854775808 ≤ n) (h1 : n ≤ 9223372036854775807) : (Lib.itoa n).length ≤ 20 := by
  have h19 : ∀ u : Nat, u ≤ 9223372036854775808 → (Lib.decDigits u).length ≤ 19 := by
    intro u hu
    rw [Lib.decDigits_length]
    exact nDigits_le 18 u (by omega)
  unfold Lib.itoa
  split
  · have := h19 n.natAbs (by omega)
    simp only [List.length_cons]
    omega
  · have := h19 n.toNat (by omega)
    omega
theorem refL_numL (l : List UInt8) : refL l = numL l := by
  cases hn : numL l with
  | some k =>
    obtain ⟨hl, h0, h1⟩ := numL_back hn
    have hlen := itoa_len k h0 h1
    rw [hl] at hlen
    unfold refL
    rw [if_neg (by omega)]
    by_cases hk : k < 0
    · have e : l = 45 :: Lib.decDigits k.natAbs := by rw [← hl]; unfold Lib.itoa; rw [if_pos hk]
      have hh : l.head? = some 45 := by rw [e]; rfl
      have hd : l.drop 1 = Lib.decDigits k.natAbs := by rw [e]; rfl
      rw [if_pos hh, hd, refRun_dec _ (by omega)]
      have hv : refV l k.natAbs = k := by
        unfold refV
        rw [if_pos hh, wrap_neg _ (by omega) (by omega)]
        omega
      simp only [hv, hl, if_true]
    · have e : l = Lib.decDigits k.toNat := by rw [← hl]; unfold Lib.itoa; rw [if_neg hk]
      have hh : ¬ l.head? = some 45 := by
        intro hc
        cases hx : l with
        | nil => rw [hx] at hc; cases hc
        | cons c t =>
          rw [hx] at hc
          obtain rfl : c = 45 := Option.some.inj hc
          have := dec_digits k.toNat 45 (by rw [← e, hx]; simp)
          simp at this
      rw [if_neg hh, e, refRun_dec _ (by omega), ← e]
      have hv : refV l k.toNat = k := by
        unfold refV
        rw [if_neg hh]
        unfold wrap64
        omega
      simp only [hv, hl, if_true]
  | none =>
    unfold refL
    split
    · rfl
    · split
      · rfl
      · rename_i n _
        split
        · rename_i he
          have := numL_itoa (refV l n) (refV_in l n).1 (refV_in l n).2
          rw [he, hn] at this
          cases this
        · rfl
end Go.Proofs.YthjfkngfgomkbaaGreatDoor
namespace Go.Proofs.YthjfkngfgomkbaaGreatDoor
open Go.RowKit

def refFin (b : Bool) (l : List UInt8) : Option Nat → Option Int
  | none => none
  | some n => if Lib.itoa (if b then wrap64 (-wrap64 (n : Int)) else wrap64 (n : Int)) = l then some (if b then wrap64 (-wrap64 (n : Int)) else wrap64 (n : Int)) else none
theorem refL_neg (l : List UInt8) (h : l.length ≤ 20) (hh : l.head? = some 45) : refL l = refFin true l (refRun 0 (l.drop 1)) := by
  unfold refL
  rw [if_neg (by omega), if_pos hh]
  cases refRun 0 (l.drop 1) with
  | none => rfl
  | some n => simp only [refFin, refV, hh, if_true]
theorem refL_pos (l : List UInt8) (h : l.length ≤ 20) (hh : ¬ l.head? = some 45) : refL l = refFin false l (refRun 0 (l.drop 0)) := by
  unfold refL
  rw [if_neg (by omega), if_neg hh, List.drop_zero]
  cases refRun 0 l with
  | none => rfl
  | some n => simp only [refFin, refV, hh, if_false, Bool.false_eq_true]

set_option maxRecDepth 100000 in
set_option maxHeartbeats 4000000 in
theorem refParse_c (s : ByteArray) (w : World) (hs : s.size ≤ maxLen) :
    Calls Tryz.prog 97 #[.string s] w fun e w' => e = .returned (parseV (refL s.data.toList)) ∧ Below w.heap.size w w' := by
  unfold maxLen at hs
  have hlen : s.data.toList.length = s.size := by simp
  by_cases h20 : 20 < s.size
  · have Hf := Lib.hid (show refL s.data.toList = none by unfold refL; rw [if_pos (by omega)])
    clear hlen
    go_enter Tryz.func97, Tryz.ntmps97
    go_wp2
    go_ret2
    exact ⟨by rw [Hf.out]; rfl, Below.refl _ _⟩
  have h20' : ¬ 20 < (s.size : Int) := by omega
  by_cases h0 : s.size = 0
  · have HL := Lib.hid (refL_pos s.data.toList (by omega) (by rw [show s.data.toList = [] from List.eq_nil_of_length_eq_zero (by omega)]; simp))
    have hz : ¬ 0 < (s.size : Int) := by omega
    clear hlen h0
    go_enter Tryz.func97, Tryz.ntmps97
    go_wp2
    go_loop [6, 7] (fun n i => ∃ pos m : Nat, 0 ≤ pos ∧ pos ≤ s.size ∧ i = .int .i64 pos ∧ n = .int .u64 (m : Int) ∧ m ≤ 11529215046068469769 ∧ refRun m (s.data.toList.drop pos) = refRun 0 (s.data.toList.drop 0)) (fun _ i => s.size - (intOf i).toNat)
    case atStart => exact ⟨0, 0, Nat.le_refl _, by omega, rfl, rfl, by omega, rfl⟩
    case round =>
      obtain ⟨pos, m, hp0, hp, rfl, rfl, hm, hok⟩ := hrel
      have Hok := Lib.hid hok
      clear hok
      by_cases hlt : pos < s.size
      · have Hc := Lib.hid (drop_cons s pos hlt)
        have hin : pos + 1 ≤ s.size := hlt
        have hcl := (s[pos]'hlt).toNat_lt
        by_cases hd1 : (s[pos]'hlt).toNat < 48
        · have Hf := Lib.hid (refRun_stop m (s[pos]'hlt) (s.data.toList.drop (pos + 1)) (by omega))
          have hd1' : ((s[pos]'hlt).toNat : Int) < 48 := by omega
          clear hd1
          go_wp2
          go_ret2
          exact ⟨by rw [HL.out, ← Hok.out, Hc.out, Hf.out]; rfl, Below.refl _ _⟩
        have hd1' : ¬ ((s[pos]'hlt).toNat : Int) < 48 := by omega
        by_cases hd2 : 57 < (s[pos]'hlt).toNat
        · have Hf := Lib.hid (refRun_stop m (s[pos]'hlt) (s.data.toList.drop (pos + 1)) (by omega))
          have hd2' : 57 < ((s[pos]'hlt).toNat : Int) := by omega
          clear hd1 hd2
          go_wp2
          go_ret2
          exact ⟨by rw [HL.out, ← Hok.out, Hc.out, Hf.out]; rfl, Below.refl _ _⟩
        have hd2' : ¬ 57 < ((s[pos]'hlt).toNat : Int) := by omega
        by_cases hd3 : 1152921504606846976 < m
        · have Hf := Lib.hid (refRun_stop m (s[pos]'hlt) (s.data.toList.drop (pos + 1)) (by omega))
          have hd3' : 1152921504606846976 < (m : Int) := by omega
          clear hd1 hd2 hd3
          go_wp2
          go_ret2
          exact ⟨by rw [HL.out, ← Hok.out, Hc.out, Hf.out]; rfl, Below.refl _ _⟩
        have hd3' : ¬ 1152921504606846976 < (m : Int) := by omega
        have Hf := Lib.hid (refRun_go m (s[pos]'hlt) (s.data.toList.drop (pos + 1)) (by omega))
        have hb3 : 10 * m + ((s[pos]'hlt).toNat - 48) ≤ 11529215046068469769 := by omega
        have hb4 : 10 * (m : Int) + (((s[pos]'hlt).toNat : Int) - 48) ≤ 11529215046068469769 := by omega
        clear hd1 hd2 hd3
        go_wp2
        go_round
        case rel => exact ⟨pos + 1, 10 * m + ((s[pos]'hlt).toNat - 48), by omega, hin, by go_num, int_u64 (by omega), hb3, by rw [← Hok.out, Hc.out, Hf.out]⟩
        case measure => simp [intOf]; omega
      · obtain rfl : pos = s.size := by omega
        have he : refRun 0 (s.data.toList.drop 0) = some m := by
          rw [← Hok.out, List.drop_of_length_le (by simp)]
          rfl
        have HL2 := Lib.hid (HL.out.trans (congrArg (refFin false s.data.toList) he))
        clear he
        have hv := wrap_in (m : Int)
        have hv2 := wrap_in (-wrap64 (m : Int))
        go_wp2_with fail
        refine (refNum_c (wrap64 (m : Int)) (by omega) (by omega) _).mono ?_
        rintro e w1 ⟨rfl, b1⟩
        by_cases hq : Lib.itoa (wrap64 (m : Int)) = s.data.toList
        · have hq' : (Lib.itoa (wrap64 (m : Int)) == s.toList) = true := by rw [Lib.toList_data, hq]; simp
          have Hr := Lib.hid (show refFin false s.data.toList (some m) = some (wrap64 (m : Int)) by unfold refFin; simp [hq])
          clear hq
          go_wp2
          go_ret2
          exact ⟨by rw [HL2.out, Hr.out]; rfl, b1⟩
        · have hq' : (Lib.itoa (wrap64 (m : Int)) == s.toList) = false := by rw [Lib.toList_data]; simp [hq]
          have Hr := Lib.hid (show refFin false s.data.toList (some m) = none by unfold refFin; simp [hq])
          clear hq
          go_wp2
          go_ret2
          exact ⟨by rw [HL2.out, Hr.out]; rfl, b1⟩
  have hpos : 0 < s.size := by omega
  have hpos' : 0 < (s.size : Int) := by omega
  have hd := drop_cons s 0 hpos
  rw [List.drop_zero] at hd
  by_cases h45 : (s[0]'hpos) = 45
  · have HL := Lib.hid (refL_neg s.data.toList (by omega) (by rw [hd, h45]; rfl))
    have e45 : (((s[0]'hpos).toNat : Int) == 45) = true := by rw [h45]; rfl
    clear hlen h0 hd h45
    go_enter Tryz.func97, Tryz.ntmps97
    go_wp2
    go_loop [6, 7] (fun n i => ∃ pos m : Nat, 1 ≤ pos ∧ pos ≤ s.size ∧ i = .int .i64 pos ∧ n = .int .u64 (m : Int) ∧ m ≤ 11529215046068469769 ∧ refRun m (s.data.toList.drop pos) = refRun 0 (s.data.toList.drop 1)) (fun _ i => s.size - (intOf i).toNat)
    case atStart => exact ⟨1, 0, Nat.le_refl _, by omega, rfl, rfl, by omega, rfl⟩
    case round =>
      obtain ⟨pos, m, hp0, hp, rfl, rfl, hm, hok⟩ := hrel
      have Hok := Lib.hid hok
      clear hok
      by_cases hlt : pos < s.size
      · have Hc := Lib.hid (drop_cons s pos hlt)
        have hin : pos + 1 ≤ s.size := hlt
        have hcl := (s[pos]'hlt).toNat_lt
        by_cases hd1 : (s[pos]'hlt).toNat < 48
        · have Hf := Lib.hid (refRun_stop m (s[pos]'hlt) (s.data.toList.drop (pos + 1)) (by omega))
          have hd1' : ((s[pos]'hlt).toNat : Int) < 48 := by omega
          clear hd1
          go_wp2
          go_ret2
          exact ⟨by rw [HL.out, ← Hok.out, Hc.out, Hf.out]; rfl, Below.refl _ _⟩
        have hd1' : ¬ ((s[pos]'hlt).toNat : Int) < 48 := by omega
        by_cases hd2 : 57 < (s[pos]'hlt).toNat
        · have Hf := Lib.hid (refRun_stop m (s[pos]'hlt) (s.data.toList.drop (pos + 1)) (by omega))
          have hd2' : 57 < ((s[pos]'hlt).toNat : Int) := by omega
          clear hd1 hd2
          go_wp2
          go_ret2
          exact ⟨by rw [HL.out, ← Hok.out, Hc.out, Hf.out]; rfl, Below.refl _ _⟩
        have hd2' : ¬ 57 < ((s[pos]'hlt).toNat : Int) := by omega
        by_cases hd3 : 1152921504606846976 < m
        · have Hf := Lib.hid (refRun_stop m (s[pos]'hlt) (s.data.toList.drop (pos + 1)) (by omega))
          have hd3' : 1152921504606846976 < (m : Int) := by omega
          clear hd1 hd2 hd3
          go_wp2
          go_ret2
          exact ⟨by rw [HL.out, ← Hok.out, Hc.out, Hf.out]; rfl, Below.refl _ _⟩
        have hd3' : ¬ 1152921504606846976 < (m : Int) := by omega
        have Hf := Lib.hid (refRun_go m (s[pos]'hlt) (s.data.toList.drop (pos + 1)) (by omega))
        have hb3 : 10 * m + ((s[pos]'hlt).toNat - 48) ≤ 11529215046068469769 := by omega
        have hb4 : 10 * (m : Int) + (((s[pos]'hlt).toNat : Int) - 48) ≤ 11529215046068469769 := by omega
        clear hd1 hd2 hd3
        go_wp2
        go_round
        case rel => exact ⟨pos + 1, 10 * m + ((s[pos]'hlt).toNat - 48), by omega, hin, by go_num, int_u64 (by omega), hb3, by rw [← Hok.out, Hc.out, Hf.out]⟩
        case measure => simp [intOf]; omega
      · obtain rfl : pos = s.size := by omega
        have he : refRun 0 (s.data.toList.drop 1) = some m := by
          rw [← Hok.out, List.drop_of_length_le (by simp)]
          rfl
        have HL2 := Lib.hid (HL.out.trans (congrArg (refFin true s.data.toList) he))
        clear he
        have hv := wrap_in (m : Int)
        have hv2 := wrap_in (-wrap64 (m : Int))
        go_wp2_with fail
        refine (refNum_c (wrap64 (-wrap64 (m : Int))) (by omega) (by omega) _).mono ?_
        rintro e w1 ⟨rfl, b1⟩
        by_cases hq : Lib.itoa (wrap64 (-wrap64 (m : Int))) = s.data.toList
        · have hq' : (Lib.itoa (wrap64 (-wrap64 (m : Int))) == s.toList) = true := by rw [Lib.toList_data, hq]; simp
          have Hr := Lib.hid (show refFin true s.data.toList (some m) = some (wrap64 (-wrap64 (m : Int))) by unfold refFin; simp [hq])
          clear hq
          go_wp2
          go_ret2
          exact ⟨by rw [HL2.out, Hr.out]; rfl, b1⟩
        · have hq' : (Lib.itoa (wrap64 (-wrap64 (m : Int))) == s.toList) = false := by rw [Lib.toList_data]; simp [hq]
          have Hr := Lib.hid (show refFin true s.data.toList (some m) = none by unfold refFin; simp [hq])
          clear hq
          go_wp2
          go_ret2
          exact ⟨by rw [HL2.out, Hr.out]; rfl, b1⟩
  · have HL := Lib.hid (refL_pos s.data.toList (by omega) (by rw [hd]; simpa using h45))
    have e45 : (((s[0]'hpos).toNat : Int) == 45) = false := by
      rw [beq_eq_false_iff_ne]
      intro e
      exact h45 (UInt8.toNat_inj.1 (show (s[0]'hpos).toNat = 45 by omega))
    clear hlen h0 hd h45
    go_enter Tryz.func97, Tryz.ntmps97
    go_wp2
    go_loop [6, 7] (fun n i => ∃ pos m : Nat, 0 ≤ pos ∧ pos ≤ s.size ∧ i = .int .i64 pos ∧ n = .int .u64 (m : Int) ∧ m ≤ 11529215046068469769 ∧ refRun m (s.data.toList.drop pos) = refRun 0 (s.data.toList.drop 0)) (fun _ i => s.size - (intOf i).toNat)
    case atStart => exact ⟨0, 0, Nat.le_refl _, by omega, rfl, rfl, by omega, rfl⟩
    case round =>
      obtain ⟨pos, m, hp0, hp, rfl, rfl, hm, hok⟩ := hrel
      have Hok := Lib.hid hok
      clear hok
      by_cases hlt : pos < s.size
      · have Hc := Lib.hid (drop_cons s pos hlt)
        have hin : pos + 1 ≤ s.size := hlt
        have hcl := (s[pos]'hlt).toNat_lt
        by_cases hd1 : (s[pos]'hlt).toNat < 48
        · have Hf := Lib.hid (refRun_stop m (s[pos]'hlt) (s.data.toList.drop (pos + 1)) (by omega))
          have hd1' : ((s[pos]'hlt).toNat : Int) < 48 := by omega
          clear hd1
          go_wp2
          go_ret2
          exact ⟨by rw [HL.out, ← Hok.out, Hc.out, Hf.out]; rfl, Below.refl _ _⟩
        have hd1' : ¬ ((s[pos]'hlt).toNat : Int) < 48 := by omega
        by_cases hd2 : 57 < (s[pos]'hlt).toNat
        · have Hf := Lib.hid (refRun_stop m (s[pos]'hlt) (s.data.toList.drop (pos + 1)) (by omega))
          have hd2' : 57 < ((s[pos]'hlt).toNat : Int) := by omega
          clear hd1 hd2
          go_wp2
          go_ret2
          exact ⟨by rw [HL.out, ← Hok.out, Hc.out, Hf.out]; rfl, Below.refl _ _⟩
        have hd2' : ¬ 57 < ((s[pos]'hlt).toNat : Int) := by omega
        by_cases hd3 : 1152921504606846976 < m
        · have Hf := Lib.hid (refRun_stop m (s[pos]'hlt) (s.data.toList.drop (pos + 1)) (by omega))
          have hd3' : 1152921504606846976 < (m : Int) := by omega
          clear hd1 hd2 hd3
          go_wp2
          go_ret2
          exact ⟨by rw [HL.out, ← Hok.out, Hc.out, Hf.out]; rfl, Below.refl _ _⟩
        have hd3' : ¬ 1152921504606846976 < (m : Int) := by omega
        have Hf := Lib.hid (refRun_go m (s[pos]'hlt) (s.data.toList.drop (pos + 1)) (by omega))
        have hb3 : 10 * m + ((s[pos]'hlt).toNat - 48) ≤ 11529215046068469769 := by omega
        have hb4 : 10 * (m : Int) + (((s[pos]'hlt).toNat : Int) - 48) ≤ 11529215046068469769 := by omega
        clear hd1 hd2 hd3
        go_wp2
        go_round
        case rel => exact ⟨pos + 1, 10 * m + ((s[pos]'hlt).toNat - 48), by omega, hin, by go_num, int_u64 (by omega), hb3, by rw [← Hok.out, Hc.out, Hf.out]⟩
        case measure => simp [intOf]; omega
      · obtain rfl : pos = s.size := by omega
        have he : refRun 0 (s.data.toList.drop 0) = some m := by
          rw [← Hok.out, List.drop_of_length_le (by simp)]
          rfl
        have HL2 := Lib.hid (HL.out.trans (congrArg (refFin false s.data.toList) he))
        clear he
        have hv := wrap_in (m : Int)
        have hv2 := wrap_in (-wrap64 (m : Int))
        go_wp2_with fail
        refine (refNum_c (wrap64 (m : Int)) (by omega) (by omega) _).mono ?_
        rintro e w1 ⟨rfl, b1⟩
        by_cases hq : Lib.itoa (wrap64 (m : Int)) = s.data.toList
        · have hq' : (Lib.itoa (wrap64 (m : Int)) == s.toList) = true := by rw [Lib.toList_data, hq]; simp
          have Hr := Lib.hid (show refFin false s.data.toList (some m) = some (wrap64 (m : Int)) by unfold refFin; simp [hq])
          clear hq
          go_wp2
          go_ret2
          exact ⟨by rw [HL2.out, Hr.out]; rfl, b1⟩
        · have hq' : (Lib.itoa (wrap64 (m : Int)) == s.toList) = false := by rw [Lib.toList_data]; simp [hq]
          have Hr := Lib.hid (show refFin false s.data.toList (some m) = none by unfold refFin; simp [hq])
          clear hq
          go_wp2
          go_ret2
          exact ⟨by rw [HL2.out, Hr.out]; rfl, b1⟩
end Go.Proofs.YthjfkngfgomkbaaGreatDoor
