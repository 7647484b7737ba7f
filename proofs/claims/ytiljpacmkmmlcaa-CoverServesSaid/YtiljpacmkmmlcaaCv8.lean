/- soriteslaw12.CoverDual, given that the program's Least is the reference's and that what is shown is so. -/
import Derived.Test.YtiljpacmkmmlcaaCv5
import Derived.Test.YtiljpacmkmmlcaaCv7
set_option linter.unusedSimpArgs false
set_option linter.unusedVariables false
namespace Go.Proofs.Ytiljpacmkmmlcaa
open Go.RowKit

noncomputable def apF (l : List (List Int)) (b : Nat) : Bool := @decide (apartB l.length (RS l) b) (Classical.propDecidable _)
theorem apF_iff {l : List (List Int)} {b : Nat} : apF l b = true ↔ apartB l.length (RS l) b := by unfold apF; exact @decide_eq_true_iff _ (Classical.propDecidable _)
theorem apR_val {l : List (List Int)} {b : Nat} {e : Ending} (h : ApR l b e) : e = .returned (.bool (apF l b)) := by
  obtain ⟨r, rfl, h⟩ := h
  rw [show r = apF l b by rw [Bool.eq_iff_iff, h, apF_iff]]
def cntTo (b k : Nat) : Nat := cntB k b
theorem cntB_succ (b k : Nat) : cntB (k + 1) b = cntB k b + (if b.testBit k = true then 1 else 0) := by
  unfold cntB
  rw [List.range_succ, List.filter_append, List.length_append]
  congr 1
  by_cases h : b.testBit k = true
  · rw [if_pos h]; simp [h]
  · rw [if_neg h]; simp [h]
theorem cntB_bound (b k : Nat) : cntB k b ≤ k := by
  have := List.length_filter_le (fun i => b.testBit i) (List.range k)
  unfold cntB
  rw [List.length_range] at this
  exact this
theorem bestB_small {f : Nat → Bool} {n : Nat} (hn : 1 ≤ n) : ∀ m, 1 ≤ bestB f n m ∧ bestB f n m ≤ n
  | 0 => ⟨Nat.le_refl _, hn⟩
  | m + 1 => by
    have h := bestB_small (f := f) hn m
    have h2 := cntB_bound m n
    unfold bestB
    split
    · rename_i h3; omega
    · exact h
theorem least_dual {c : Int} {l : List (List Int)} {n : Nat} (h : (l = [] ∧ n = 1) ∨ (l ≠ [] ∧ LeastN l.length (RS l) n)) : bestB (apF l) l.length (2 ^ l.length) = n := by
  rcases h with ⟨rfl, rfl⟩ | ⟨h1, h2⟩
  · show bestB (apF []) 0 1 = 1
    unfold bestB
    rw [if_neg (fun h => by
      have := cntB_bound 0 0
      have h1 := h.1
      unfold bestB at h1
      omega)]
    rfl
  · exact best_least (by cases l with | nil => exact absurd rfl h1 | cons => simp) h2 (fun b => apF_iff)
set_option linter.unusedVariables false in
set_option maxRecDepth 100000 in
set_option maxHeartbeats 8000000 in
theorem dual12_of (c : Int) (l : List (List Int)) (v : Value) (w : World) (h : SetsS w w.heap.size l v)
    (HS : Calls Try.prog 9 #[] w fun e w' => e = .returned (.bool true) ∧ Below w.heap.size w w')
    (HL : ∀ w', SetsS w' w'.heap.size l v → Calls Try.prog 16 #[.int .i64 c, v] w' fun e w'' => LeastR c l e ∧ Below w'.heap.size w' w'') :
    Calls Try.prog 6 #[.int .i64 c, v] w fun e w' => e = .returned (.bool true) ∧ Below w.heap.size w w' := by
  have hset := h
  obtain ⟨o1, cap1, rfl, hc1, hm1, _⟩ := SlOf.open h
  have HSet := Lib.hid hset
  have HSh := Lib.hid HS
  have HLe := Lib.hid HL
  clear h hset HS HL
  by_cases hl8 : l.length > 8
  · have hl8' : (l.length : Int) > 8 := by omega
    go_enter Try.func6, Try.ntmps6
    go_wp2_with fail
    refine HSh.out.mono ?_
    rintro e w1 ⟨rfl, hB1⟩
    have HB1 := Lib.hid hB1
    clear hB1
    go_wp2
    go_ret
    exact ⟨rfl, HB1.out⟩
  · have hl8' : ¬ (l.length : Int) > 8 := by omega
    have h8 : l.length ≤ 8 := by omega
    clear hl8
    go_enter Try.func6, Try.ntmps6
    go_wp2_with fail
    refine HSh.out.mono ?_
    rintro e w1 ⟨rfl, hB1⟩
    have HL1 := Lib.hid (HLe.out w1 (HSet.out.past hB1))
    have HB1 := Lib.hid hB1
    clear hB1
    go_wp2_with fail
    refine HL1.out.mono ?_
    rintro e2 w2 ⟨hR, hB2⟩
    have HB2 := Lib.hid (HB1.out.trans (hB2.mono HB1.out.size))
    clear hB2
    rcases hR with ⟨_, rfl⟩ | ⟨n, hr, rfl, hn⟩
    · go_wp2
      go_ret
      exact ⟨rfl, HB2.out⟩
    · obtain ⟨M, hM⟩ : ∃ M, 2 ^ l.length = M := ⟨_, rfl⟩
      have hM2 : M ≤ 256 := by rw [← hM]; exact Nat.pow_le_pow_right (n := 2) (by decide) h8
      have hsh : wrap64 ((2 : Int) ^ l.length) = (M : Int) := by
        have e : ((2 : Int) ^ l.length) = ((2 ^ l.length : Nat) : Int) := by simp
        rw [e, hM]
        unfold wrap64
        omega
      have hd := least_dual (c := c) hn
      rw [hM] at hd
      have Hd := Lib.hid hd
      clear hr hn hM hd
      go_wp2
      go_loopw [8, 9] (fun tv bv wr => ∃ (b t : Nat), b ≤ M ∧ bv = .int .i64 (b : Int) ∧ tv = .int .i64 (t : Int) ∧ Hid (t = bestB (apF l) l.length b) ∧ Hid (Below w.heap.size w wr)) (fun _ bv _ => M - (intOf bv).toNat)
      case atStart => exact ⟨0, 1, Nat.zero_le _, rfl, rfl, Lib.hid rfl, HB2⟩
      case round =>
        obtain ⟨b, t, hb, rfl, rfl, HT, HB⟩ := hrel
        by_cases hbm : b < M
        · have hbm' : (b : Int) < (M : Int) := by omega
          go_wp2
          go_loopw [10, 11] (fun cv kv wr => ∃ (k z : Nat), k ≤ l.length ∧ kv = .int .i64 (k : Int) ∧ cv = .int .i64 (z : Int) ∧ z ≤ k ∧ Hid (z = cntB k b) ∧ Hid (Below w.heap.size w wr)) (fun _ kv _ => l.length - (intOf kv).toNat)
          case atStart => exact ⟨0, 0, Nat.zero_le _, rfl, rfl, Nat.le_refl _, Lib.hid rfl, HB⟩
          case round =>
            obtain ⟨k, z, hk, rfl, rfl, hzk, HZ, HBk⟩ := hrel
            by_cases hkl : k < l.length
            · have hkl' : (k : Int) < (l.length : Int) := by omega
              have hk0 : (0 : Int) ≤ (k : Int) := by omega
              have hbk := bit_at b k
              cases htk : b.testBit k with
              | true =>
                rw [htk, if_pos rfl] at hbk
                have HZ2 : Hid (z + 1 = cntB (k + 1) b) := Lib.hid (by rw [cntB_succ, if_pos htk, HZ.out])
                clear htk
                go_wp2
                go_roundw
                case rel => exact ⟨k + 1, z + 1, hkl, by go_num, by go_num, by omega, HZ2, HBk⟩
                case measure => simp [intOf]; omega
              | false =>
                rw [htk, if_neg (by decide)] at hbk
                have HZ2 : Hid (z = cntB (k + 1) b) := Lib.hid (by rw [cntB_succ, if_neg (by rw [htk]; decide), HZ.out]; rfl)
                clear htk
                go_wp2
                go_roundw
                case rel => exact ⟨k + 1, z, hkl, by go_num, by go_num, by omega, HZ2, HBk⟩
                case measure => simp [intOf]; omega
            · have hkl' : ¬ (k : Int) < (l.length : Int) := by omega
              obtain rfl : k = l.length := by omega
              by_cases hzt : t < z
              · have hzt' : (z : Int) > (t : Int) := by omega
                have HAp := Lib.hid (apart12_c l b _ wr h8 (by omega) (HSet.out.past HBk.out))
                go_wp2_with fail
                refine HAp.out.mono ?_
                rintro e3 w3 ⟨hR, hB3⟩
                have he := apR_val hR
                subst he
                have HB3 := Lib.hid (HBk.out.trans (hB3.mono HBk.out.size))
                clear hB3 hR
                cases hap : apF l b with
                | true =>
                  have HT2 : Hid (z = bestB (apF l) l.length (b + 1)) := Lib.hid (by unfold bestB; rw [← HT.out, ← HZ.out, if_pos ⟨hzt, hap⟩])
                  clear hap
                  go_wp2
                  go_roundw
                  case rel => exact ⟨b + 1, z, hbm, by go_num, rfl, HT2, HB3⟩
                  case measure => simp [intOf]; omega
                | false =>
                  have HT2 : Hid (t = bestB (apF l) l.length (b + 1)) := Lib.hid (by unfold bestB; rw [← HT.out, ← HZ.out, if_neg (fun h => by rw [hap] at h; exact absurd h.2 (by decide))])
                  clear hap
                  go_wp2
                  go_roundw
                  case rel => exact ⟨b + 1, t, hbm, by go_num, rfl, HT2, HB3⟩
                  case measure => simp [intOf]; omega
              · have hzt' : ¬ (z : Int) > (t : Int) := by omega
                have HT2 : Hid (t = bestB (apF l) l.length (b + 1)) := Lib.hid (by unfold bestB; rw [← HT.out, ← HZ.out, if_neg (fun h => hzt h.1)])
                go_wp2
                go_roundw
                case rel => exact ⟨b + 1, t, hbm, by go_num, rfl, HT2, HBk⟩
                case measure => simp [intOf]; omega
        · have hbm' : ¬ (b : Int) < (M : Int) := by omega
          obtain rfl : b = M := by omega
          obtain rfl : t = n := HT.out.trans Hd.out
          go_wp2
          go_ret
          exact ⟨rfl, HB.out⟩
end Go.Proofs.Ytiljpacmkmmlcaa
