/- The law DlexLong answers true, in every world that holds the listed variables. -/
import Derived.Test.YthjfkngfgomkbaaGreatDoorDlexes
namespace Go.Proofs.YthjfkngfgomkbaaGreatDoor
open Go.RowKit

theorem rep_no (cb : UInt8) (n : Nat) (h : cb ≠ 34) (s : ByteArray) (hs : s = ⟨(List.replicate n cb).toArray⟩) : ∀ (i : Nat) (hi : i < s.size), s[i] = 34 → s.size ≤ 5000 := by
  intro i hi h34
  exfalso
  have hm : s[i] ∈ s.data.toList.drop i := by rw [drop_cons s i hi]; simp
  have hm2 := List.mem_of_mem_drop hm
  have hd : s.data.toList = List.replicate n cb := by rw [hs]
  rw [hd] at hm2
  have := List.eq_of_mem_replicate hm2
  rw [this] at h34
  exact h h34

set_option maxRecDepth 100000 in
set_option maxHeartbeats 8000000 in
theorem dlexLong_c (ci n : Int) (a b c : Addr) (w : World) (c0 : 0 ≤ ci) (c1 : ci ≤ 255) (_n0 : -9223372036854775808 ≤ n) (_n1 : n ≤ 9223372036854775807) (E : LEnv a b c w) :
    Calls Tryz.prog 4 #[.int .u8 ci, .int .i64 n] w fun e w' => e = .returned (.bool true) ∧ Below w.heap.size w w' := by
  have HE := Lib.hid E
  clear E _n0 _n1
  by_cases h1 : n < 0
  · go_enter Tryz.func4, Tryz.ntmps4
    go_wp2_with fail
    refine (dshown_c a b c _ HE.out).mono ?_
    rintro e w1 ⟨rfl, b1⟩
    go_wp2
    go_ret
    exact ⟨rfl, b1⟩
  by_cases h2 : 70000 < n
  · go_enter Tryz.func4, Tryz.ntmps4
    go_wp2_with fail
    refine (dshown_c a b c _ HE.out).mono ?_
    rintro e w1 ⟨rfl, b1⟩
    go_wp2
    go_ret
    exact ⟨rfl, b1⟩
  by_cases h3 : ci = 34 ∨ (48 ≤ ci ∧ ci ≤ 57) ∨ (97 ≤ ci ∧ ci ≤ 122) ∨ (65 ≤ ci ∧ ci ≤ 90) ∨ ci = 95
  · rcases h3 with rfl | ⟨p, q⟩ | ⟨p, q⟩ | ⟨p, q⟩ | rfl
    · go_enter Tryz.func4, Tryz.ntmps4
      go_wp2_with fail
      refine (dshown_c a b c _ HE.out).mono ?_
      rintro e w1 ⟨rfl, b1⟩
      go_wp2
      go_ret
      exact ⟨rfl, b1⟩
    all_goals
      try have e34 : (ci == 34) = false := by rw [beq_eq_false_iff_ne]; omega
      try have g57 : 57 < ci ∨ ci ≤ 57 := by omega
      try have e95 : (ci == 95) = false := by rw [beq_eq_false_iff_ne]; omega
      try clear g57
      try have f57 : ¬ ci ≤ 57 := by omega
      try have f48 : 48 ≤ ci := by omega
      try have f97 : ¬ 97 ≤ ci := by omega
      go_enter Tryz.func4, Tryz.ntmps4
      go_wp2_with fail
      refine (dshown_c a b c _ HE.out).mono ?_
      rintro e w1 ⟨rfl, b1⟩
      go_wp2
      go_ret
      exact ⟨rfl, b1⟩
  obtain ⟨m, rfl⟩ : ∃ m : Nat, n = (m : Int) := ⟨n.toNat, by omega⟩
  have hm : m ≤ 70000 := by omega
  obtain ⟨cb, rfl⟩ : ∃ cb : UInt8, ci = (cb.toNat : Int) := ⟨UInt8.ofNat ci.toNat, by simp; omega⟩
  have h34 : cb ≠ 34 := fun e => h3 (.inl (by rw [e]; rfl))
  obtain ⟨t, ht⟩ : ∃ t : ByteArray, t = ⟨(List.replicate m cb).toArray⟩ := ⟨_, rfl⟩
  have hts : t.size = m := by rw [ht]; simp [ByteArray.size]
  have Hlex := Lib.hid (fun (W : World) (EW : LEnv a b c W) => lexE_c t a b c W (by omega) EW)
  have Href := Lib.hid (fun (W : World) => rlex_c t W (by unfold maxLen; omega) (rep_no cb m h34 t ht))
  obtain ⟨r, hr⟩ : ∃ r, lexR t.data.toList = r := ⟨_, rfl⟩
  rw [hr] at Hlex Href
  obtain ⟨ts, ln, e0⟩ := r
  obtain ⟨i0, hi, hz0, hz1, hz2⟩ := info_parts Tryz.info5b
  have Ht := Lib.hid ht
  have e34 : ((cb.toNat : Int) == 34) = false := by rw [beq_eq_false_iff_ne]; intro e; exact h3 (.inl e)
  have e95 : ((cb.toNat : Int) == 95) = false := by rw [beq_eq_false_iff_ne]; intro e; exact h3 (.inr (.inr (.inr (.inr e))))
  have k1 : ¬ (48 ≤ (cb.toNat : Int) ∧ (cb.toNat : Int) ≤ 57) := fun e => h3 (.inr (.inl e))
  have k2 : ¬ (97 ≤ (cb.toNat : Int) ∧ (cb.toNat : Int) ≤ 122) := fun e => h3 (.inr (.inr (.inl e)))
  have k3 : ¬ (65 ≤ (cb.toNat : Int) ∧ (cb.toNat : Int) ≤ 90) := fun e => h3 (.inr (.inr (.inr (.inl e))))
  have ways : (¬ 48 ≤ (cb.toNat : Int) ∧ ¬ 65 ≤ (cb.toNat : Int) ∧ ¬ 97 ≤ (cb.toNat : Int)) ∨ (48 ≤ (cb.toNat : Int) ∧ ¬ (cb.toNat : Int) ≤ 57 ∧ ¬ 65 ≤ (cb.toNat : Int) ∧ ¬ 97 ≤ (cb.toNat : Int)) ∨
      (48 ≤ (cb.toNat : Int) ∧ ¬ (cb.toNat : Int) ≤ 57 ∧ 65 ≤ (cb.toNat : Int) ∧ ¬ (cb.toNat : Int) ≤ 90 ∧ ¬ 97 ≤ (cb.toNat : Int)) ∨
      (48 ≤ (cb.toNat : Int) ∧ ¬ (cb.toNat : Int) ≤ 57 ∧ 65 ≤ (cb.toNat : Int) ∧ ¬ (cb.toNat : Int) ≤ 90 ∧ 97 ≤ (cb.toNat : Int) ∧ ¬ (cb.toNat : Int) ≤ 122) := by omega
  clear hr ht h3 h34 k1 k2 k3 hts
  rcases ways with ⟨p1, p2, p3⟩ | ⟨p1, p2, p3, p4⟩ | ⟨p1, p2, p3, p4, p5⟩ | ⟨p1, p2, p3, p4, p5, p6⟩
  all_goals
    go_enter Tryz.func4, Tryz.ntmps4
    go_wp2_with fail
    refine (dshown_c a b c _ HE.out).mono ?_
    rintro e w1 ⟨rfl, b1⟩
    go_wp2
    go_loopw [6, 7] (fun v i wr => ∃ k : Nat, k ≤ m ∧ i = .int .i64 k ∧ wr.ownsRow w.heap.size 5 1 v k (Lib.byteCells (List.replicate k cb)) ∧ Below w.heap.size w wr) (fun _ i _ => m - (intOf i).toNat)
    case atStart => exact ⟨0, Nat.zero_le _, rfl, World.ownsRow_nil _ _ _ _, b1⟩
    case round =>
      obtain ⟨k, hk, rfl, hown, hb⟩ := hrel
      have hbs := hb.size
      by_cases hlt : k < m
      · have hlt' : (k : Int) < (m : Int) := by omega
        go_wp2_with (at_builtin; refine wpList_append_own _ rfl (.tmp 59) (.tmp 61) 30 rfl w.heap.size 5 i0 (.int .u8 0) 1 1 Tryz.underlying30 hi hz0 hz1 hz2 rfl (by decide) _ _ _ rfl (hown.alloc _) ⟨wr.heap.size, 0, none⟩ 1 1 [.int .u8 (cb.toNat : Int)] rfl rfl (cell_one_new _ _ _) (fun u hu => by simp at hu; subst hu; rfl) (by unfold maxLen; omega) (by omega) (by simp; omega) ?_)
        intro v' w2 hown' hgrow' _
        go_wp2
        go_roundw
        case rel =>
          refine ⟨k + 1, hlt, by go_num, ?_, (hb.alloc (by omega) _).grown hgrow' (by simp; omega) (fun j hj => (hown.lt j hj).1)⟩
          rw [List.replicate_succ', byteCells_snoc]
          exact hown'
        case measure => simp [intOf]; omega
      · obtain rfl : k = m := by omega
        have hlt' : ¬ ((k : Int) < (k : Int)) := by omega
        have g1 := conv_own hown
        rw [← Ht.out] at g1
        go_wp2_with fail
        refine (Hlex.out _ (HE.out.below hb)).mono ?_
        rintro e w2 ⟨v, rfl, hown2, b2⟩
        have S2 := Lib.hid (SliceOf.of_own hown2)
        clear hown2 g1
        have g2 := conv_own (row_past hown b2)
        rw [← Ht.out] at g2
        go_wp2_with fail
        refine (Href.out _).mono ?_
        rintro e w3 ⟨u, rfl, hown3, b3⟩
        have S3 := Lib.hid (SliceOf.of_own hown3)
        clear hown3 g2
        have S2' := Lib.hid ((S2.out.below b3).more b3.size)
        go_wp2_with fail
        refine (r2same_c v u _ w3 S2'.out S3.out).mono ?_
        rintro e w4 ⟨rfl, b4⟩
        go_wp2
        go_ret
        exact ⟨rfl, hb.trans ((chain3 b2 b3 b4).mono hbs)⟩
end Go.Proofs.YthjfkngfgomkbaaGreatDoor
