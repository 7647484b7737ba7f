/- The law DlexBlanks where the first text has something wrong. -/
import Derived.Test.YtkfdklamfmnalaaDoorDblanks
namespace Go.Proofs.YtkfdklamfmnalaaDoor
open Go.RowKit

set_option maxHeartbeats 8000000 in
theorem dlexBlanks_a (s0 t0 bl cm : ByteArray) (a b c : Addr) (w : World) (hs : s0.size ≤ maxLen) (ht : t0.size ≤ maxLen) (_hbl : bl.size ≤ maxLen) (_hcm : cm.size ≤ maxLen) (E : LEnv a b c w) {n : Nat} (hes : (lexL (cutS s0).data.toList).2 = some n) :
    Calls Tryd.prog 10 #[.string s0, .string t0, .string bl, .string cm] w fun e w' => e = .returned (.bool true) ∧ Below w.heap.size w w' := by
  have HE := Lib.hid E
  have Hs := Lib.hid hs
  have Ht := Lib.hid ht
  unfold maxLen at _hbl _hcm
  clear E hs ht
  obtain ⟨s, hsd⟩ : ∃ s, cutS s0 = s := ⟨_, rfl⟩
  obtain ⟨t, htd⟩ : ∃ t, cutS t0 = t := ⟨_, rfl⟩
  have hsz : s.size ≤ 3000 := by rw [← hsd]; exact cutS_size s0
  have htz : t.size ≤ 3000 := by rw [← htd]; exact cutS_size t0
  have Hsd := Lib.hid hsd
  have Htd := Lib.hid htd
  rw [hsd] at hes
  have Hhes := Lib.hid hes
  clear hsd htd hes
  go_enter Tryd.func10, Tryd.ntmps10
  go_wp2_with fail
  refine (dshown_c a b c _ HE.out).mono ?_
  rintro e w1 ⟨rfl, b1⟩
  go_wp2_with fail
  refine (cut_c s0 _ Hs.out).mono ?_
  rintro e w' ⟨rfl, rfl⟩
  rw [Hsd.out]
  go_wp2_with fail
  refine (cut_c t0 _ Ht.out).mono ?_
  rintro e w' ⟨rfl, rfl⟩
  rw [Htd.out]
  go_wp2
  go_loop [10, 11] (fun bv i => ∃ (k : Nat) (B : ByteArray), k ≤ 100 ∧ i = .int .i64 k ∧ bv = .string B ∧ B.size ≤ k + 1 ∧ B.data.toList.all blankB = true) (fun _ i => 100 - (intOf i).toNat)
  case atStart => exact ⟨0, ⟨#[32]⟩, by omega, rfl, rfl, by decide, by decide⟩
  case round =>
    obtain ⟨k, B, hk, rfl, rfl, hBz, hBb⟩ := hrel
    by_cases hlt : k < bl.size ∧ k < 100
    · obtain ⟨hlt1, hlt2⟩ := hlt
      have hlt2' : (k : Int) < 100 := by omega
      have HBb := Lib.hid hBb
      have HBz := Lib.hid hBz
      clear hBb hBz
      have key : ∀ x : UInt8, blankB x = true → (B ++ ⟨#[x]⟩).size ≤ k + 1 + 1 ∧ (B ++ ⟨#[x]⟩).data.toList.all blankB = true := by
        intro x hx
        have h1 := HBz.out
        have h2 := HBb.out
        refine ⟨by rw [ByteArray.size_append]; show B.size + 1 ≤ _; omega, ?_⟩
        rw [ByteArray.data_append, Array.toList_append, List.all_append, h2]
        simp [hx]
      have Key := Lib.hid key
      clear key
      have hBm : B.size ≤ 101 := by have := HBz.out; omega
      go_wp2
      all_goals
        go_round
        case rel => exact ⟨k + 1, _, by omega, by go_num, rfl, (Key.out _ (by decide)).1, (Key.out _ (by decide)).2⟩
        case measure => simp [intOf]; omega
    · have hB101 : B.size ≤ 101 := by omega
      have HBb := Lib.hid hBb
      have HB101 := Lib.hid hB101
      clear hBb hBz hB101
      have tail : ∀ K : Prop, (¬ (k : Int) < (bl.size : Int) → K) → ((k : Int) < (bl.size : Int) → ¬ (k : Int) < 100 → K) → K := by
        intro K h1 h2
        by_cases h3 : k < bl.size
        · exact h2 (by omega) (by omega)
        · exact h1 (by omega)
      clear hlt
      refine tail _ (fun h1 => ?_) (fun h1 h2 => ?_)
      all_goals
        go_wp2
        go_loopw [12, 13] (fun cv i wr => ∃ (k : Nat) (C : ByteArray) (cc : List UInt8), k ≤ 100 ∧ i = .int .i64 k ∧ cv = .string C ∧ C.data.toList = 47 :: 47 :: cc ∧ (10 : UInt8) ∉ cc ∧ C.size ≤ k + 2 ∧ Below w1.heap.size w1 wr) (fun _ i _ => 100 - (intOf i).toNat)
        case atStart => exact ⟨0, ⟨#[47, 47]⟩, [], by omega, rfl, rfl, rfl, by simp, by decide, Below.refl _ _⟩
        case round =>
          obtain ⟨k, C, cc, hk, rfl, rfl, hCd, hCn, hCz, hB1⟩ := hrel
          have HCd := Lib.hid hCd
          have HCn := Lib.hid hCn
          have hC102 : C.size ≤ 102 := by omega
          clear hCd hCn
          by_cases hlt : k < cm.size ∧ k < 100
          · obtain ⟨hlt1, hlt2⟩ := hlt
            have hlt2' : (k : Int) < 100 := by omega
            have HCz := Lib.hid hCz
            have HB1 := Lib.hid hB1
            clear hCz hB1
            by_cases h10 : ((cm[k]'hlt1).toNat : Int) = 10
            · have t1 : (((cm[k]'hlt1).toNat : Int) != 10) = false := by simp [h10]
              clear h10
              go_wp2
              go_roundw
              case rel => exact ⟨k + 1, C, cc, by omega, by go_num, rfl, HCd.out, HCn.out, by have := HCz.out; omega, HB1.out⟩
              case measure => simp [intOf]; omega
            · have t1 : (((cm[k]'hlt1).toNat : Int) != 10) = true := by simp [h10]
              have hx10 : cm[k]'hlt1 ≠ 10 := fun e => h10 ((u8_eq _ 10).1 e)
              have HX := Lib.hid hx10
              have cv := conv1 wr ((cm[k]'hlt1).toNat : Int)
              have hone : (⟨#[UInt8.ofNat ((cm[k]'hlt1).toNat : Int).toNat]⟩ : ByteArray) = ⟨#[cm[k]'hlt1]⟩ := by simp
              rw [hone] at cv
              clear h10 hx10 hone
              go_wp2
              go_roundw
              case rel =>
                refine ⟨k + 1, C ++ ⟨#[cm[k]'hlt1]⟩, cc ++ [cm[k]'hlt1], by omega, by go_num, rfl, ?_, ?_, ?_, HB1.out.alloc HB1.out.size _⟩
                · rw [ByteArray.data_append, Array.toList_append, HCd.out]; rfl
                · intro hm
                  rcases List.mem_append.1 hm with hm | hm
                  · exact HCn.out hm
                  · exact HX.out (List.mem_singleton.1 hm).symm
                · rw [ByteArray.size_append]
                  have := HCz.out
                  show C.size + 1 ≤ _
                  omega
              case measure => simp [intOf]; omega
          · have hE1 : LEnv a b c wr := (HE.out.below b1).below hB1
            have HE1 := Lib.hid hE1
            have HB1 := Lib.hid hB1
            have hB2 := HB101.out
            have hall : (allT B s C t).size ≤ 1073741823 := Nat.le_trans (allT_size B s C t hB2 hsz hC102 htz) (by omega)
            have Hall := Lib.hid hall
            have tail2 : ∀ K : Prop, (¬ (k : Int) < (cm.size : Int) → K) → ((k : Int) < (cm.size : Int) → ¬ (k : Int) < 100 → K) → K := by
              intro K h1 h2
              by_cases h3 : k < cm.size
              · exact h2 (by omega) (by omega)
              · exact h1 (by omega)
            clear hlt hE1 hB1 hCz hall
            refine tail2 _ (fun g1 => ?_) (fun g1 g2 => ?_)
            all_goals
              have hes := Hhes.out
              obtain ⟨m, hm⟩ := all_err hB2 hsz hC102 htz HCd.out HBb.out HCn.out (.inl (by rw [hes]; rfl))
              have Hr := Lib.hid (lexR_err (l := s.data.toList) (by rw [data_len]; omega) hes)
              have Hm := Lib.hid hm
              clear hes hm
              go_wp2_with fail
              refine (lexE_c s a b c _ (by omega) HE1.out).mono ?_
              rw [Hr.out]
              rintro e w2 ⟨v1, rfl, hown1, b2⟩
              go_wp2_with fail
              refine (lexE_c t a b c _ (by omega) (HE1.out.below b2)).mono ?_
              rintro e w3 ⟨v2, rfl, hown2, b3⟩
              clear hown1 hown2
              go_wp2_with fail
              refine (lexE_c (allT B s C t) a b c _ Hall.out ((HE1.out.below b2).below b3)).mono ?_
              rw [Hm.out]
              rintro e w4 ⟨v3, rfl, hown3, b4⟩
              clear hown3
              go_wp2
              go_ret
              exact ⟨rfl, chain2 b1 (chain2 HB1.out (chain2 b2 (chain2 b3 b4)))⟩
end Go.Proofs.YtkfdklamfmnalaaDoor
