/- dlex.commentSize and gapSize answer how many bytes a comment has, and how many bytes of blanks and comments stand ahead. -/
import Derived.Test.YthjfkngfgomkbaaGreatDoorDshape
namespace Go.Proofs.YthjfkngfgomkbaaGreatDoor
open Go.RowKit

theorem hasPrefix_c (s p : ByteArray) (b : Bool) (h : Lib.hasPrefix s.data.toList p.data.toList = b) (w : World) :
    Calls Tryz.prog 78 #[.string s, .string p] w fun e w' => e = .returned (.bool b) ∧ w = w' :=
  (Tryz.strings_HasPrefix s p w).mono fun _ _ ⟨h1, h2⟩ => ⟨by rw [h1, h], h2.symm⟩
theorem index10_c (s : ByteArray) (n : Int) (h : Lib.indexByte s.data.toList 10 = n) (w : World) :
    Calls Tryz.prog 112 #[.string s, .int .u8 10] w fun e w' => e = .returned (.int .i64 n) ∧ w = w' :=
  (Tryz.strings_IndexByte s 10 w).mono fun _ _ ⟨h1, h2⟩ => ⟨by rw [h1, ← h]; rfl, h2.symm⟩

theorem index_com : ∀ l : List UInt8, Lib.indexByte l 10 = if comN l < l.length then (comN l : Int) else -1
  | [] => by simp [Lib.indexByte, comN]
  | c :: l => by
    have ih := index_com l
    by_cases hc : c = 10
    · simp [Lib.indexByte, comN, hc]
    · have hb : (c == 10) = false := by simp [hc]
      simp only [Lib.indexByte, comN, if_neg hc, hb, List.length_cons, Bool.false_eq_true, if_false]
      rw [ih]
      by_cases h : comN l < l.length
      · have h2 : ((comN l : Int) == -1) = false := by simp
        rw [if_pos h, h2, if_neg (by decide), if_pos (by omega)]
        omega
      · rw [if_neg h, if_neg (show ¬ 1 + comN l < l.length + 1 by omega)]
        rfl

set_option maxHeartbeats 400000 in
theorem commentSize_c (s : ByteArray) (w : World) (_hs : s.size ≤ maxLen) :
    Calls Tryz.prog 79 #[.string s] w fun e w' => e = .returned (.int .i64 (comN s.data.toList : Nat)) ∧ w = w' := by
  unfold maxLen at _hs
  have hi := index_com s.data.toList
  have hl := comN_len s.data.toList
  have hlen : s.data.toList.length = s.size := by simp
  by_cases h : comN s.data.toList < s.data.toList.length
  · rw [if_pos h] at hi
    obtain ⟨k, hk⟩ : ∃ k, comN s.data.toList = k := ⟨_, rfl⟩
    rw [hk] at hi h ⊢
    have Hi := Lib.hid hi
    have h0 : (0 : Int) ≤ (k : Int) := by omega
    clear hi hl hlen h hk
    go_enter Tryz.func79, Tryz.ntmps79
    go_wp2_with (go_at_call 112; refine (index10_c _ _ Hi.out _).mono ?_; rintro e w' ⟨rfl, rfl⟩)
    go_ret
    exact ⟨rfl, rfl⟩
  · rw [if_neg h] at hi
    have Hi := Lib.hid hi
    have Hk : Hid (comN s.data.toList = s.size) := Lib.hid (by omega)
    clear hi hl hlen h
    go_enter Tryz.func79, Tryz.ntmps79
    go_wp2_with (go_at_call 112; refine (index10_c _ _ Hi.out _).mono ?_; rintro e w' ⟨rfl, rfl⟩)
    go_ret
    exact ⟨ret_int (by rw [Hk.out]), rfl⟩

theorem gap_blank (c : UInt8) (l : List UInt8) (h : blankB c = true) : gap false (c :: l) = 1 + gap false l := by simp [gap, h]
theorem gap_pre {l : List UInt8} (h : Lib.hasPrefix l [47, 47] = true) : gap false l = comN l + gap false (l.drop (comN l)) := by
  unfold Lib.hasPrefix at h
  rw [List.isPrefixOf_iff_prefix] at h
  obtain ⟨r, rfl⟩ := h
  have h1 := gap_com (47 :: 47 :: r)
  have h2 : gap false (47 :: 47 :: r) = gap true (47 :: 47 :: r) := by
    have hb : blankB 47 = false := by decide
    simp [gap, hb]
  exact h2.trans h1
theorem gap_stop {c : UInt8} {l : List UInt8} (h1 : blankB c = false) (h2 : Lib.hasPrefix (c :: l) [47, 47] = false) : gap false (c :: l) = 0 := by
  unfold gap
  rw [if_neg (by rw [h1]; decide), if_neg]
  rintro ⟨rfl, hh⟩
  cases l with
  | nil => simp at hh
  | cons d l =>
    simp at hh
    subst hh
    simp [Lib.hasPrefix] at h2

set_option maxHeartbeats 1000000 in
theorem gapSize_c (s : ByteArray) (w : World) (hs : s.size ≤ maxLen) :
    Calls Tryz.prog 44 #[.string s] w fun e w' => e = .returned (.int .i64 (gap false s.data.toList : Nat)) ∧ w = w' := by
  have Hs := Lib.hid hs
  unfold maxLen at hs
  go_enter Tryz.func44, Tryz.ntmps44
  go_wp2
  go_loop [3] (fun i => ∃ k : Nat, k ≤ s.size ∧ i = .int .i64 k ∧ gap false s.data.toList = k + gap false (s.data.toList.drop k)) (fun i => s.size - (intOf i).toNat)
  case atStart => exact ⟨0, Nat.zero_le _, rfl, by simp⟩
  case round =>
    obtain ⟨k, hk, rfl, hr⟩ := hrel
    have Hr := Lib.hid hr
    clear hr
    by_cases hlt : k < s.size
    · have hin : k + 1 ≤ s.size := hlt
      have Hc := Lib.hid (drop_cons s k hlt)
      have Hx := Lib.hid (Lib.extract_to_end s k)
      cases hb : blankB (s[k]'hlt) with
      | true =>
        have Hn := Lib.hid (gap_blank (s[k]'hlt) (s.data.toList.drop (k + 1)) hb)
        go_wp2_with (go_at_call 77; refine (dblank_c _ _).mono ?_; rintro e w' ⟨rfl, rfl⟩)
        go_round
        case rel => exact ⟨k + 1, hin, by go_num, by rw [Hr.out, Hc.out, Hn.out]; omega⟩
        case measure => simp [intOf]; omega
      | false =>
        cases hp : Lib.hasPrefix (s.data.toList.drop k) [47, 47] with
        | true =>
          have Hp : Hid (Lib.hasPrefix (s.extract k s.size).data.toList (⟨#[47, 47]⟩ : ByteArray).data.toList = true) := Lib.hid (by rw [Hx.out]; exact hp)
          have hcl := comN_len (s.data.toList.drop k)
          have hg := gap_pre hp
          have hc1 : 1 ≤ comN (s.data.toList.drop k) := by
            rw [Hc.out] at hp ⊢
            unfold comN
            rw [if_neg]
            · omega
            · intro e
              rw [e] at hp
              simp [Lib.hasPrefix] at hp
          rw [List.drop_drop] at hg
          have Hcs : Hid (comN (s.extract k s.size).data.toList = comN (s.data.toList.drop k)) := Lib.hid (by rw [Hx.out])
          obtain ⟨m, hm⟩ : ∃ m, comN (s.data.toList.drop k) = m := ⟨_, rfl⟩
          rw [hm] at hg hcl hc1 Hcs
          rw [List.length_drop] at hcl
          have hkm : k + m ≤ s.size := by
            have : s.data.toList.length = s.size := by simp
            omega
          have Hg := Lib.hid hg
          clear hg hcl hm hp
          go_wp2_with (first | (go_at_call 77; refine (dblank_c _ _).mono ?_; rintro e w' ⟨rfl, rfl⟩) | (go_at_call 78; refine (hasPrefix_c _ _ _ Hp.out _).mono ?_; rintro e w' ⟨rfl, rfl⟩) | (go_at_call 79; refine (commentSize_c _ _ ?_).mono ?_; (unfold maxLen; simp; omega); rw [Hcs.out]; rintro e w' ⟨rfl, rfl⟩))
          go_round
          case rel => exact ⟨k + m, hkm, by go_num, by rw [Hr.out, Hg.out]; omega⟩
          case measure => simp [intOf]; omega
        | false =>
          have Hp : Hid (Lib.hasPrefix (s.extract k s.size).data.toList (⟨#[47, 47]⟩ : ByteArray).data.toList = false) := Lib.hid (by rw [Hx.out]; exact hp)
          have Hn : Hid (gap false (s.data.toList.drop k) = 0) := Lib.hid (by rw [Hc.out] at hp ⊢; exact gap_stop hb hp)
          clear hp
          go_wp2_with (first | (go_at_call 77; refine (dblank_c _ _).mono ?_; rintro e w' ⟨rfl, rfl⟩) | (go_at_call 78; refine (hasPrefix_c _ _ _ Hp.out _).mono ?_; rintro e w' ⟨rfl, rfl⟩))
          go_ret
          exact ⟨ret_int (by rw [Hr.out, Hn.out]; omega), rfl⟩
    · go_wp2
      go_ret
      obtain rfl : k = s.size := by omega
      exact ⟨ret_int (by rw [Hr.out, List.drop_of_length_le (by simp)]; simp [gap]), rfl⟩
end Go.Proofs.YthjfkngfgomkbaaGreatDoor
