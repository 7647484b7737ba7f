/- soritesref02: run, small, sign: where letters and digits end, where small letters end, how long the sign is that stands there. -/
import Derived.Test.YthjfkngfgomkbaaGreatDoorDmath
import Derived.Deep.QuietTactic
import Derived.BigQuiet
namespace Go.Proofs.YthjfkngfgomkbaaGreatDoor
open Go.RowKit

theorem part_yes {c : UInt8} (h : partB c = true) : letB (c.toNat : Int) = true ∨ letB (c.toNat : Int) = false ∧ digB (c.toNat : Int) = true := by
  unfold partB at h
  cases h1 : letB (c.toNat : Int)
  · rw [h1] at h; exact .inr ⟨rfl, h⟩
  · exact .inl rfl
theorem part_no {c : UInt8} (h : partB c = false) : letB (c.toNat : Int) = false ∧ digB (c.toNat : Int) = false := by
  unfold partB at h
  simpa using h

set_option maxHeartbeats 1000000 in
theorem rrun_c (s : ByteArray) (i0 : Nat) (hi : i0 ≤ s.size) (hs : s.size ≤ 1073741824) (w : World) :
    Calls Tryz.prog 96 #[.string s, .int .i64 (i0 : Int)] w fun e w' => e = .returned (.int .i64 ((i0 + runN partB (s.data.toList.drop i0) : Nat) : Int)) ∧ w = w' := by
  go_enter Tryz.func96, Tryz.ntmps96
  go_wp2
  go_loop [1] (fun i => ∃ k : Nat, k ≤ s.size ∧ i = .int .i64 k ∧ i0 + runN partB (s.data.toList.drop i0) = k + runN partB (s.data.toList.drop k)) (fun i => s.size - (intOf i).toNat)
  case atStart => exact ⟨i0, hi, rfl, rfl⟩
  case round =>
    obtain ⟨k, hk, rfl, hr⟩ := hrel
    have Hr := Lib.hid hr
    clear hr
    by_cases hlt : k < s.size
    · have hin : k + 1 ≤ s.size := hlt
      have Hc := Lib.hid (drop_cons s k hlt)
      have H1 : Calls Tryz.prog 52 #[.int .u8 (s[k].toNat : Int)] w fun e w' => e = .returned (.bool (letB (s[k].toNat : Int))) ∧ w = w' := letter_any _ _
      have H2 : Calls Tryz.prog 53 #[.int .u8 (s[k].toNat : Int)] w fun e w' => e = .returned (.bool (digB (s[k].toNat : Int))) ∧ w = w' := digit_any _ _
      by_cases hp : partB (s[k]'hlt) = true
      · have Hn : Hid (runN partB (s.data.toList.drop k) = 1 + runN partB (s.data.toList.drop (k + 1))) := Lib.hid (by rw [Hc.out]; simp [runN, hp])
        rcases part_yes hp with hl | ⟨hl, hd⟩
        · rw [hl] at H1
          obtain ⟨d, hd⟩ : ∃ d, digB (s[k].toNat : Int) = d := ⟨_, rfl⟩
          rw [hd] at H2
          have G1 := Lib.hid H1
          have G2 := Lib.hid H2
          clear H1 H2 hp hl hd
          go_wp2_with (first | (go_at_call 52; refine G1.out.mono ?_; rintro e w' ⟨rfl, rfl⟩) | (go_at_call 53; refine G2.out.mono ?_; rintro e w' ⟨rfl, rfl⟩))
          go_round
          case rel => exact ⟨k + 1, hin, by go_num, by rw [Hr.out, Hn.out]; omega⟩
          case measure => simp [intOf]; omega
        · rw [hl] at H1
          rw [hd] at H2
          have G1 := Lib.hid H1
          have G2 := Lib.hid H2
          clear H1 H2 hp hl hd
          go_wp2_with (first | (go_at_call 52; refine G1.out.mono ?_; rintro e w' ⟨rfl, rfl⟩) | (go_at_call 53; refine G2.out.mono ?_; rintro e w' ⟨rfl, rfl⟩))
          go_round
          case rel => exact ⟨k + 1, hin, by go_num, by rw [Hr.out, Hn.out]; omega⟩
          case measure => simp [intOf]; omega
      · have hp' : partB (s[k]'hlt) = false := by simpa using hp
        have Hn : Hid (runN partB (s.data.toList.drop k) = 0) := Lib.hid (by rw [Hc.out]; simp [runN, hp'])
        obtain ⟨hl, hd⟩ := part_no hp'
        rw [hl] at H1
        rw [hd] at H2
        have G1 := Lib.hid H1
        have G2 := Lib.hid H2
        clear H1 H2 hp hp' hl hd
        go_wp2_with (first | (go_at_call 52; refine G1.out.mono ?_; rintro e w' ⟨rfl, rfl⟩) | (go_at_call 53; refine G2.out.mono ?_; rintro e w' ⟨rfl, rfl⟩))
        go_ret
        exact ⟨ret_int (by have h1 := Hr.out; have h2 := Hn.out; omega), rfl⟩
    · go_wp2
      go_ret
      obtain rfl : k = s.size := by omega
      exact ⟨ret_int (by have h1 := Hr.out; rw [List.drop_of_length_le (i := s.size) (by simp)] at h1; simp only [runN] at h1; omega), rfl⟩

set_option maxHeartbeats 1000000 in
theorem rsmall_c (s : ByteArray) (i0 : Nat) (hi : i0 ≤ s.size) (hs : s.size ≤ 1073741824) (w : World) :
    Calls Tryz.prog 58 #[.string s, .int .i64 (i0 : Int)] w fun e w' => e = .returned (.int .i64 ((i0 + runN smallB (s.data.toList.drop i0) : Nat) : Int)) ∧ w = w' := by
  go_enter Tryz.func58, Tryz.ntmps58
  go_wp2
  go_loop [1] (fun i => ∃ k : Nat, k ≤ s.size ∧ i = .int .i64 k ∧ i0 + runN smallB (s.data.toList.drop i0) = k + runN smallB (s.data.toList.drop k)) (fun i => s.size - (intOf i).toNat)
  case atStart => exact ⟨i0, hi, rfl, rfl⟩
  case round =>
    obtain ⟨k, hk, rfl, hr⟩ := hrel
    have Hr := Lib.hid hr
    clear hr
    by_cases hlt : k < s.size
    · have hin : k + 1 ≤ s.size := hlt
      have Hc := Lib.hid (drop_cons s k hlt)
      by_cases hp : smallB (s[k]'hlt) = true
      · have Hn : Hid (runN smallB (s.data.toList.drop k) = 1 + runN smallB (s.data.toList.drop (k + 1))) := Lib.hid (by rw [Hc.out]; simp [runN, hp])
        have h1 : (97 : Int) ≤ (s[k].toNat : Int) := by unfold smallB at hp; simp at hp; omega
        have h2 : (s[k].toNat : Int) ≤ 122 := by unfold smallB at hp; simp at hp; omega
        clear hp
        go_wp2
        go_round
        case rel => exact ⟨k + 1, hin, by go_num, by rw [Hr.out, Hn.out]; omega⟩
        case measure => simp [intOf]; omega
      · have hp' : smallB (s[k]'hlt) = false := by simpa using hp
        have Hn : Hid (runN smallB (s.data.toList.drop k) = 0) := Lib.hid (by rw [Hc.out]; simp [runN, hp'])
        by_cases h1 : (97 : Int) ≤ (s[k].toNat : Int)
        · have h2 : ¬ (s[k].toNat : Int) ≤ 122 := by unfold smallB at hp; simp at hp; omega
          clear hp hp'
          go_wp2
          go_ret
          exact ⟨ret_int (by have h1 := Hr.out; have h2 := Hn.out; omega), rfl⟩
        · clear hp hp'
          go_wp2
          go_ret
          exact ⟨ret_int (by have h1 := Hr.out; have h2 := Hn.out; omega), rfl⟩
    · have hlt' : ¬ (k : Int) < (s.size : Int) := by omega
      go_wp2
      go_ret
      obtain rfl : k = s.size := by omega
      exact ⟨ret_int (by have h1 := Hr.out; rw [List.drop_of_length_le (i := s.size) (by simp)] at h1; simp only [runN] at h1; omega), rfl⟩

/-- The sign that stands there: 2, 1 or 0 bytes. -/
def signZ (l : List UInt8) : Nat := if longB (l.take 2) = true then 2 else if shortB (l.getD 0 0) = true then 1 else 0

set_option maxRecDepth 100000 in
set_option maxHeartbeats 4000000 in
theorem rsign_c (s : ByteArray) (i0 : Nat) (hi : i0 < s.size) (hs : s.size ≤ 1073741824) (w : World) :
    Calls Tryz.prog 59 #[.string s, .int .i64 (i0 : Int)] w fun e w' => e = .returned (.int .i64 ((signZ (s.data.toList.drop i0) : Nat) : Int)) ∧ w = w' := by
  obtain ⟨t, ht⟩ : ∃ t, s.extract i0 (min (s.size : Int) (i0 + 2)).toNat = t := ⟨_, rfl⟩
  have htl : t.data.toList = (s.data.toList.drop i0).take 2 := by
    rw [← ht, Lib.extract_data]
    have hl : (s.data.toList.drop i0).length = s.size - i0 := by simp
    rcases Nat.lt_or_ge s.size (i0 + 2) with h | h
    · rw [show (min (s.size : Int) (i0 + 2)).toNat = s.size by omega, List.take_of_length_le (by omega), List.take_of_length_le (by omega)]
    · rw [show (min (s.size : Int) (i0 + 2)).toNat = i0 + 2 by omega]
      congr 1
      omega
  have hg : (s.data.toList.drop i0).getD 0 0 = s[i0] := by rw [drop_cons s i0 hi]; rfl
  have Hz : Hid (signZ (s.data.toList.drop i0) = if longB t.data.toList = true then 2 else if shortB s[i0] = true then 1 else 0) := Lib.hid (by unfold signZ; rw [htl, hg])
  have g2 : ∀ w : World, (Instr.slice 9 (.string s) (some (.int .i64 (i0 : Int))) (some (.int .i64 (min (s.size : Int) ((i0 : Int) + 2)))) none).run Tryz.prog w = .ok (.string t) w := fun w => by
    have h := run_slice_string (P := Tryz.prog) (w := w) 9 s .i64 .i64 (i0 : Int) (min (s.size : Int) ((i0 : Int) + 2)) Tryz.underlying9 (by omega) (by omega) (by omega)
    rwa [Int.toNat_natCast, ht] at h
  have Hl : Hid (t.toList = t.data.toList) := Lib.hid (Lib.toList_data t)
  clear htl hg ht
  go_enter Tryz.func59, Tryz.ntmps59
  go_wp2
  all_goals go_ret
  all_goals (refine ⟨ret_int ?_, rfl⟩; rw [Hz.out, ← Hl.out])
  all_goals (try simp only [beq_iff_eq, beq_eq_false_iff_ne, ne_eq] at *)
  all_goals first
    | (simp [longB, shortB, shortL, u8_eq, *]; done)
    | (rename_i h; rcases h with ((h | h) | h) | h <;> simp [longB, h])
end Go.Proofs.YthjfkngfgomkbaaGreatDoor
