/- dlex: how many bytes of a name, of a symbol stand ahead; what the first bytes of a text can be. -/
import Derived.Test.YthjfkngfgomkbaaGreatDoorDsmall
namespace Go.Proofs.YthjfkngfgomkbaaGreatDoor
open Go.RowKit

theorem ret_int {k : IntKind} {a b : Int} (h : a = b) : Ending.returned (.int k a) = .returned (.int k b) := by rw [h]

set_option maxHeartbeats 400000 in
theorem runSize_part (s : ByteArray) (w : World) (hs : s.size ≤ maxLen) :
    Calls Tryz.prog 84 #[.string s, .func (.func 85) #[] #[]] w fun e w' => e = .returned (.int .i64 (runN partB s.data.toList : Nat)) ∧ w = w' := by
  unfold maxLen at hs
  go_enter Tryz.func84, Tryz.ntmps84
  go_wp2
  go_loop [5] (fun i => ∃ k : Nat, k ≤ s.size ∧ i = .int .i64 k ∧ runN partB s.data.toList = k + runN partB (s.data.toList.drop k)) (fun i => s.size - (intOf i).toNat)
  case atStart => exact ⟨0, Nat.zero_le _, rfl, by simp⟩
  case round =>
    obtain ⟨k, hk, rfl, hr⟩ := hrel
    have Hr := Lib.hid hr
    clear hr
    by_cases hlt : k < s.size
    · have hin : k + 1 ≤ s.size := hlt
      have Hc := Lib.hid (drop_cons s k hlt)
      by_cases hp : partB (s[k]'hlt) = true
      · have Hn : Hid (runN partB (s.data.toList.drop k) = 1 + runN partB (s.data.toList.drop (k + 1))) := Lib.hid (by rw [Hc.out]; simp [runN, hp])
        go_wp2_with (go_at_call 85; refine (dpart_c _ _).mono ?_; rintro e w' ⟨rfl, rfl⟩)
        go_round
        case rel => exact ⟨k + 1, hin, by go_num, by rw [Hr.out, Hn.out]; omega⟩
        case measure => simp [intOf]; omega
      · have hp' : partB (s[k]'hlt) = false := by simpa using hp
        clear hp
        have Hn : Hid (runN partB (s.data.toList.drop k) = 0) := Lib.hid (by rw [Hc.out]; simp [runN, hp'])
        go_wp2_with (go_at_call 85; refine (dpart_c _ _).mono ?_; rintro e w' ⟨rfl, rfl⟩)
        go_ret
        exact ⟨ret_int (by rw [Hr.out, Hn.out]; omega), rfl⟩
    · go_wp2
      go_ret
      obtain rfl : k = s.size := by omega
      exact ⟨ret_int (by rw [Hr.out, List.drop_of_length_le (by simp)]; simp [runN]), rfl⟩

set_option maxHeartbeats 400000 in
theorem runSize_small (s : ByteArray) (w : World) (hs : s.size ≤ maxLen) :
    Calls Tryz.prog 84 #[.string s, .func (.func 87) #[] #[]] w fun e w' => e = .returned (.int .i64 (runN smallB s.data.toList : Nat)) ∧ w = w' := by
  unfold maxLen at hs
  go_enter Tryz.func84, Tryz.ntmps84
  go_wp2
  go_loop [5] (fun i => ∃ k : Nat, k ≤ s.size ∧ i = .int .i64 k ∧ runN smallB s.data.toList = k + runN smallB (s.data.toList.drop k)) (fun i => s.size - (intOf i).toNat)
  case atStart => exact ⟨0, Nat.zero_le _, rfl, by simp⟩
  case round =>
    obtain ⟨k, hk, rfl, hr⟩ := hrel
    have Hr := Lib.hid hr
    clear hr
    by_cases hlt : k < s.size
    · have hin : k + 1 ≤ s.size := hlt
      have Hc := Lib.hid (drop_cons s k hlt)
      by_cases hp : smallB (s[k]'hlt) = true
      · have Hn : Hid (runN smallB (s.data.toList.drop k) = 1 + runN smallB (s.data.toList.drop (k + 1))) := Lib.hid (by rw [Hc.out]; simp [runN, hp])
        go_wp2_with (go_at_call 87; refine (dsmall_c _ _).mono ?_; rintro e w' ⟨rfl, rfl⟩)
        go_round
        case rel => exact ⟨k + 1, hin, by go_num, by rw [Hr.out, Hn.out]; omega⟩
        case measure => simp [intOf]; omega
      · have hp' : smallB (s[k]'hlt) = false := by simpa using hp
        clear hp
        have Hn : Hid (runN smallB (s.data.toList.drop k) = 0) := Lib.hid (by rw [Hc.out]; simp [runN, hp'])
        go_wp2_with (go_at_call 87; refine (dsmall_c _ _).mono ?_; rintro e w' ⟨rfl, rfl⟩)
        go_ret
        exact ⟨ret_int (by rw [Hr.out, Hn.out]; omega), rfl⟩
    · go_wp2
      go_ret
      obtain rfl : k = s.size := by omega
      exact ⟨ret_int (by rw [Hr.out, List.drop_of_length_le (by simp)]; simp [runN]), rfl⟩

set_option maxHeartbeats 400000 in
theorem symbolSize_c (s : ByteArray) (w : World) (hpos : 1 ≤ s.size) (hs : s.size ≤ maxLen) :
    Calls Tryz.prog 86 #[.string s] w fun e w' => e = .returned (.int .i64 (1 + symN false (s.data.toList.tail) : Nat)) ∧ w = w' := by
  unfold maxLen at hs
  go_enter Tryz.func86, Tryz.ntmps86
  go_wp2
  go_loop [3, 4] (fun esc i => ∃ (k : Nat) (m : Bool), 1 ≤ k ∧ k ≤ s.size ∧ esc = .bool m ∧ i = .int .i64 k ∧ 1 + symN false (s.data.toList.tail) = k + symN m (s.data.toList.drop k)) (fun _ i => s.size - (intOf i).toNat)
  case atStart => exact ⟨1, false, by omega, hpos, rfl, rfl, by simp⟩
  case round =>
    obtain ⟨k, m, hk1, hk, rfl, rfl, hr⟩ := hrel
    have Hr := Lib.hid hr
    clear hr
    by_cases hlt : k < s.size
    · have hin : k + 1 ≤ s.size := hlt
      have Hc := Lib.hid (drop_cons s k hlt)
      cases m with
      | true =>
        have Hn : Hid (symN true (s.data.toList.drop k) = 1 + symN false (s.data.toList.drop (k + 1))) := Lib.hid (by rw [Hc.out]; simp [symN])
        go_wp2
        go_round
        case rel => exact ⟨k + 1, false, by omega, hin, rfl, by go_num, by rw [Hr.out, Hn.out]; omega⟩
        case measure => simp [intOf]; omega
      | false =>
        by_cases h1 : s[k]'hlt = 92
        · have Hn : Hid (symN false (s.data.toList.drop k) = 1 + symN true (s.data.toList.drop (k + 1))) := Lib.hid (by rw [Hc.out]; simp [symN, h1])
          have e1 : (((s[k]'hlt).toNat : Int) == 92) = true := by rw [h1]; rfl
          clear h1
          go_wp2
          go_round
          case rel => exact ⟨k + 1, true, by omega, hin, rfl, by go_num, by rw [Hr.out, Hn.out]; omega⟩
          case measure => simp [intOf]; omega
        have e1 : (((s[k]'hlt).toNat : Int) == 92) = false := by rw [beq_eq_false_iff_ne]; intro e; exact h1 ((u8_eq _ 92).2 e)
        by_cases h2 : s[k]'hlt = 34
        · have Hn : Hid (symN false (s.data.toList.drop k) = 1) := Lib.hid (by rw [Hc.out]; simp [symN, h2])
          have e2 : (((s[k]'hlt).toNat : Int) == 34) = true := by rw [h2]; rfl
          clear h1 h2
          go_wp2
          go_ret
          exact ⟨ret_int (by have h := Hr.out; rw [Hn.out] at h; omega), rfl⟩
        · have Hn : Hid (symN false (s.data.toList.drop k) = 1 + symN false (s.data.toList.drop (k + 1))) := Lib.hid (by rw [Hc.out]; simp [symN, h1, h2])
          have e2 : (((s[k]'hlt).toNat : Int) == 34) = false := by rw [beq_eq_false_iff_ne]; intro e; exact h2 ((u8_eq _ 34).2 e)
          clear h1 h2
          go_wp2
          go_round
          case rel => exact ⟨k + 1, false, by omega, hin, rfl, by go_num, by rw [Hr.out, Hn.out]; omega⟩
          case measure => simp [intOf]; omega
    · go_wp2
      go_ret
      obtain rfl : k = s.size := by omega
      exact ⟨ret_int (by have h := Hr.out; rw [List.drop_of_length_le (by simp)] at h; cases m <;> simp [symN] at h <;> omega), rfl⟩

theorem dlong_c (s : ByteArray) (w : World) : Calls Tryz.prog 114 #[.string s] w fun e w' => e = .returned (.bool (longB s.data.toList)) ∧ w = w' := by
  have Hl : Hid (s.toList = s.data.toList) := Lib.hid (Lib.toList_data s)
  go_enter Tryz.func114, Tryz.ntmps114
  go_wp2
  all_goals go_ret
  all_goals exact ⟨ret_bool (by rw [← Hl.out]; unfold longB; rw [Bool.eq_iff_iff]; simp [*]), rfl⟩

theorem signSize_c (s : ByteArray) (w : World) (hs : s.size ≤ maxLen) : Calls Tryz.prog 88 #[.string s] w fun e w' => e = .returned (.int .i64 (signN s.data.toList : Nat)) ∧ w = w' := by
  unfold maxLen at hs
  have hlen : s.data.toList.length = s.size := by simp
  by_cases h2 : 1 < s.size
  · clear hlen
    go_enter Tryz.func88, Tryz.ntmps88
    go_wp2_with (go_at_call 114; refine (dlong_c _ _).mono ?_; rintro e w' ⟨rfl, rfl⟩)
    all_goals go_ret
    all_goals
      rename_i hb
      exact ⟨ret_int (by unfold signN; simp [hb]), rfl⟩
  · have Hn : Hid (signN s.data.toList = 1) := Lib.hid (by
      unfold signN
      rw [if_neg]
      intro h
      simp only [longB, decide_eq_true_eq] at h
      have : (s.data.toList.take 2).length = 2 := by rcases h with h | h | h | h <;> rw [h] <;> rfl
      simp at this
      omega)
    clear hlen
    go_enter Tryz.func88, Tryz.ntmps88
    go_wp2
    go_ret
    exact ⟨ret_int (by rw [Hn.out]; rfl), rfl⟩
end Go.Proofs.YthjfkngfgomkbaaGreatDoor
