/- soritesref02.skipped: where blanks and comments end, and how many lines they have. -/
import Derived.Test.YthjfkngfgomkbaaGreatDoorRleaf
namespace Go.Proofs.YthjfkngfgomkbaaGreatDoor
open Go.RowKit

theorem lines_add (l m : List UInt8) : lines (l ++ m) = lines l + lines m := by simp [lines]
theorem com_no10 : ∀ l : List UInt8, lines (l.take (comN l)) = 0
  | [] => by simp [comN, lines]
  | c :: l => by
    have ih := com_no10 l
    unfold comN
    by_cases h : c = 10
    · rw [if_pos h]; simp [lines]
    · rw [if_neg h, show 1 + comN l = comN l + 1 by omega, List.take_succ_cons]
      unfold lines at ih ⊢
      rw [List.count_cons, ih]
      simp [h]
/-- How many lines are gone by in the gap that stands ahead. -/
def gapLn (l : List UInt8) : Nat := lines (l.take (gap false l))
theorem gapLn_blank (c : UInt8) (l : List UInt8) (h : blankB c = true) : gapLn (c :: l) = (if c = 10 then 1 else 0) + gapLn l := by
  unfold gapLn
  rw [gap_blank c l h, show 1 + gap false l = gap false l + 1 by omega, List.take_succ_cons]
  unfold lines
  rw [List.count_cons]
  by_cases hc : c = 10
  · simp [hc]; omega
  · simp [hc]
theorem gapLn_pre {l : List UInt8} (h : Lib.hasPrefix l [47, 47] = true) : gapLn l = gapLn (l.drop (comN l)) := by
  unfold gapLn
  rw [gap_pre h, List.take_add, lines_add, com_no10]
  omega
theorem gapLn_nil : gapLn [] = 0 := by simp [gapLn, lines]
theorem com_at (s : ByteArray) (k : Nat) (h : k < s.size) : comN (s.data.toList.drop k) = if s[k] = 10 then 0 else 1 + comN (s.data.toList.drop (k + 1)) := by rw [drop_cons s k h]; rfl
theorem pre_take {l : List UInt8} : Lib.hasPrefix l [47, 47] = true ↔ l.take 2 = [47, 47] := by
  unfold Lib.hasPrefix
  rw [List.isPrefixOf_iff_prefix, List.prefix_iff_eq_take]
  exact eq_comm

def skipV (i n : Nat) : Value := .tuple #[.int .i64 (i : Int), .int .i64 (n : Int)]

set_option maxRecDepth 100000 in
set_option maxHeartbeats 4000000 in
theorem rskip_c (s : ByteArray) (i0 : Nat) (hi : i0 ≤ s.size) (hs : s.size ≤ 1073741824) (w : World) :
    Calls Tryz.prog 24 #[.string s, .int .i64 (i0 : Int)] w fun e w' => e = .returned (skipV (i0 + gap false (s.data.toList.drop i0)) (gapLn (s.data.toList.drop i0))) ∧ w = w' := by
  go_enter Tryz.func24, Tryz.ntmps24
  go_wp2
  go_loop [1, 6] (fun i n => ∃ k m : Nat, k ≤ s.size ∧ m ≤ k ∧ i = .int .i64 k ∧ n = .int .i64 m ∧ i0 + gap false (s.data.toList.drop i0) = k + gap false (s.data.toList.drop k) ∧ gapLn (s.data.toList.drop i0) = m + gapLn (s.data.toList.drop k)) (fun i _ => s.size - (intOf i).toNat)
  case atStart => exact ⟨i0, 0, hi, Nat.zero_le _, rfl, rfl, rfl, by omega⟩
  case round =>
    obtain ⟨k, m, hk, hm, rfl, rfl, hr, hn⟩ := hrel
    have Hr := Lib.hid hr
    have Hn := Lib.hid hn
    clear hr hn
    have stop : gap false (s.data.toList.drop k) = 0 → Ending.returned (.tuple #[.int .i64 (k : Int), .int .i64 (m : Int)]) = .returned (skipV (i0 + gap false (s.data.toList.drop i0)) (gapLn (s.data.toList.drop i0))) := by
      intro h
      have h1 := Hr.out
      have h2 := Hn.out
      rw [h, Nat.add_zero] at h1
      have h3 : gapLn (s.data.toList.drop k) = 0 := by unfold gapLn; rw [h]; simp [lines]
      rw [h3, Nat.add_zero] at h2
      rw [h1, h2]
      rfl
    have Stop := Lib.hid stop
    clear stop
    by_cases hlt : k < s.size
    · have hlt' : (k : Int) < (s.size : Int) := by omega
      have hin : k + 1 ≤ s.size := hlt
      have Hc := Lib.hid (drop_cons s k hlt)
      have blank : blankB s[k] = true → (i0 + gap false (s.data.toList.drop i0) = k + 1 + gap false (s.data.toList.drop (k + 1)) ∧ gapLn (s.data.toList.drop i0) = m + (if s[k] = 10 then 1 else 0) + gapLn (s.data.toList.drop (k + 1))) := by
        intro hb
        have h1 := Hr.out
        have h2 := Hn.out
        rw [Hc.out, gap_blank _ _ hb] at h1
        rw [Hc.out, gapLn_blank _ _ hb] at h2
        exact ⟨by omega, by omega⟩
      have Blank := Lib.hid blank
      clear blank
      by_cases c32 : s[k] = 32
      · have e1 : (s[k].toNat : Int) = 32 := by rw [c32]; rfl
        have e2 : ¬ (s[k].toNat : Int) = 10 := by omega
        obtain ⟨B1, B2⟩ := Blank.out (by rw [c32]; decide)
        rw [if_neg (by rw [c32]; decide)] at B2
        have B1 := Lib.hid B1
        have B2 := Lib.hid B2
        clear c32
        go_wp2
        go_round
        case rel => exact ⟨k + 1, m, hin, by omega, by go_num, by go_num, B1.out, B2.out⟩
        case measure => simp [intOf]; omega
      by_cases c9 : s[k] = 9
      · have e0 : ¬ (s[k].toNat : Int) = 32 := by rw [c9]; decide
        have e1 : (s[k].toNat : Int) = 9 := by rw [c9]; rfl
        have e2 : ¬ (s[k].toNat : Int) = 10 := by omega
        obtain ⟨B1, B2⟩ := Blank.out (by rw [c9]; decide)
        rw [if_neg (by rw [c9]; decide)] at B2
        have B1 := Lib.hid B1
        have B2 := Lib.hid B2
        clear c9 c32
        go_wp2
        go_round
        case rel => exact ⟨k + 1, m, hin, by omega, by go_num, by go_num, B1.out, B2.out⟩
        case measure => simp [intOf]; omega
      by_cases c10 : s[k] = 10
      · have e0 : ¬ (s[k].toNat : Int) = 32 := by rw [c10]; decide
        have e1 : ¬ (s[k].toNat : Int) = 9 := by rw [c10]; decide
        have e2 : (s[k].toNat : Int) = 10 := by rw [c10]; rfl
        obtain ⟨B1, B2⟩ := Blank.out (by rw [c10]; decide)
        rw [if_pos c10] at B2
        have B1 := Lib.hid B1
        have B2 := Lib.hid B2
        clear c9 c32 c10
        go_wp2
        go_round
        case rel => exact ⟨k + 1, m + 1, hin, by omega, by go_num, by go_num, B1.out, B2.out⟩
        case measure => simp [intOf]; omega
      have e0 : ((s[k].toNat : Int) == 32) = false := by rw [beq_eq_false_iff_ne]; exact fun e => c32 ((u8_eq _ 32).2 e)
      have e1 : ((s[k].toNat : Int) == 9) = false := by rw [beq_eq_false_iff_ne]; exact fun e => c9 ((u8_eq _ 9).2 e)
      have e2 : ((s[k].toNat : Int) == 10) = false := by rw [beq_eq_false_iff_ne]; exact fun e => c10 ((u8_eq _ 10).2 e)
      have hb : blankB s[k] = false := by unfold blankB; simp [c9, c10, c32]
      by_cases h2 : k + 1 < s.size
      · have h2' : ¬ (s.size : Int) ≤ (k : Int) + 1 := by omega
        obtain ⟨t, ht⟩ : ∃ t, s.extract k (k + 2) = t := ⟨_, rfl⟩
        have htl : t.toList = (s.data.toList.drop k).take 2 := by
          rw [Lib.toList_data, ← ht, Lib.extract_data]
          congr 1
          omega
        have gs : ∀ w : World, (Instr.slice 9 (.string s) (some (.int .i64 (k : Int))) (some (.int .i64 ((k : Int) + 2))) none).run Tryz.prog w = .ok (.string t) w := fun w => by
          have h := run_slice_string (P := Tryz.prog) (w := w) 9 s .i64 .i64 (k : Int) ((k : Int) + 2) Tryz.underlying9 (by omega) (by omega) (by omega)
          rwa [show ((k : Int) + 2).toNat = k + 2 by omega, Int.toNat_natCast, ht] at h
        by_cases hp : (s.data.toList.drop k).take 2 = [47, 47]
        · have q : (!t.toList == [47, 47]) = false := by rw [htl, hp]; rfl
          have Hp := Lib.hid (gap_pre (pre_take.2 hp))
          have Hl := Lib.hid (gapLn_pre (pre_take.2 hp))
          have hc1 : 1 ≤ comN (s.data.toList.drop k) := by rw [com_at s k hlt, if_neg c10]; omega
          have hcl := comN_len (s.data.toList.drop k)
          clear ht htl hp hb c32 c9 c10
          go_wp2
          go_loop [1] (fun i => ∃ j : Nat, j ≤ s.size ∧ i = .int .i64 j ∧ k + comN (s.data.toList.drop k) = j + comN (s.data.toList.drop j)) (fun i => s.size - (intOf i).toNat)
          case atStart => exact ⟨k, hk, rfl, rfl⟩
          case round =>
            obtain ⟨j, hj, rfl, hjr⟩ := hrel
            have Hj := Lib.hid hjr
            clear hjr
            by_cases hjl : j < s.size
            · have hjl' : (j : Int) < (s.size : Int) := by omega
              have hca := com_at s j hjl
              by_cases d10 : s[j] = 10
              · have f1 : ((s[j].toNat : Int) != 10) = false := by rw [d10]; rfl
                rw [if_pos d10] at hca
                have Hca := Lib.hid hca
                clear hca d10
                go_wp2
                go_round
                case rel =>
                  have h1 := Hj.out
                  rw [Hca.out, Nat.add_zero] at h1
                  have h2 := Hr.out
                  have h3 := Hn.out
                  rw [Hp.out, List.drop_drop, h1] at h2
                  rw [Hl.out, List.drop_drop, h1] at h3
                  exact ⟨j, m, hj, by omega, by go_num, by go_num, by omega, h3⟩
                case measure => have h1 := Hj.out; rw [Hca.out] at h1; simp [intOf]; omega
              · have f1 : ((s[j].toNat : Int) != 10) = true := by rw [bne_iff_ne]; exact fun e => d10 ((u8_eq _ 10).2 e)
                rw [if_neg d10] at hca
                have Hca := Lib.hid hca
                clear hca d10
                go_wp2
                go_round
                case rel => exact ⟨j + 1, hjl, by go_num, by have := Hj.out; have := Hca.out; omega⟩
                case measure => simp [intOf]; omega
            · have hjl' : ¬ (j : Int) < (s.size : Int) := by omega
              have hd : comN (s.data.toList.drop j) = 0 := by rw [List.drop_of_length_le (by simp; omega)]; rfl
              have Hca := Lib.hid hd
              clear hd
              go_wp2
              go_round
              case rel =>
                have h1 := Hj.out
                rw [Hca.out, Nat.add_zero] at h1
                have h2 := Hr.out
                have h3 := Hn.out
                rw [Hp.out, List.drop_drop, h1] at h2
                rw [Hl.out, List.drop_drop, h1] at h3
                exact ⟨j, m, hj, by omega, by go_num, by go_num, by omega, h3⟩
              case measure => have h1 := Hj.out; rw [Hca.out] at h1; simp [intOf]; omega
        · have q : (!t.toList == [47, 47]) = true := by rw [htl]; exact bne_iff_ne.2 hp
          have Hz : Hid (gap false (s.data.toList.drop k) = 0) := Lib.hid (by
            have hp' : Lib.hasPrefix (s.data.toList.drop k) [47, 47] = false := by
              cases h : Lib.hasPrefix (s.data.toList.drop k) [47, 47]
              · rfl
              · exact absurd (pre_take.1 h) hp
            rw [Hc.out] at hp' ⊢
            exact gap_stop hb hp')
          clear ht htl hp hb c32 c9 c10
          go_wp2
          go_ret2
          exact ⟨Stop.out Hz.out, rfl⟩
      · have h2' : (s.size : Int) ≤ (k : Int) + 1 := by omega
        have Hz : Hid (gap false (s.data.toList.drop k) = 0) := Lib.hid (by
          rw [Hc.out, List.drop_of_length_le (by simp; omega)]
          exact gap_stop hb (by simp [Lib.hasPrefix, List.isPrefixOf]))
        clear hb c32 c9 c10
        go_wp2
        go_ret2
        exact ⟨Stop.out Hz.out, rfl⟩
    · have hlt' : ¬ (k : Int) < (s.size : Int) := by omega
      have Hz : Hid (gap false (s.data.toList.drop k) = 0) := Lib.hid (by rw [List.drop_of_length_le (by simp; omega)]; rfl)
      go_wp2
      go_ret2
      exact ⟨Stop.out Hz.out, rfl⟩
end Go.Proofs.YthjfkngfgomkbaaGreatDoor
