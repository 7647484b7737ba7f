/- The law DlexShows answers true, in every world that holds the listed variables. -/
import Derived.Test.YtkfdklamfmnalaaGreatDoorDlaws
import Derived.Test.YtkfdklamfmnalaaGreatDoorDopen
import Derived.Test.YtkfdklamfmnalaaGreatDoorRshow
namespace Go.Proofs.YtkfdklamfmnalaaGreatDoor
open Go.RowKit

set_option maxRecDepth 100000 in
set_option maxHeartbeats 4000000 in
theorem dlexShows_c (v : Value) (ts : List TokI) (a b c : Addr) (w : World) (hv : SliceOf w w.heap.size v ts ∧ ∀ t ∈ ts, t.s.size ≤ maxLen) (E : LEnv a b c w) :
    Calls Tryz.prog 5 #[v] w fun e w' => e = .returned (.bool true) ∧ Below w.heap.size w w' := by
  obtain ⟨hv, hz⟩ := hv
  have HE := Lib.hid E
  clear E
  rcases hv with ⟨rfl, rfl⟩ | ⟨g, cap, rfl, h1, h2, h3, h4⟩
  · go_enter Tryz.func5, Tryz.ntmps5
    go_wp2_with fail
    refine (dshown_c a b c _ HE.out).mono ?_
    rintro e w1 ⟨rfl, b1⟩
    go_wp2
    go_loopw [4] (fun i wr => i = .int .i64 0 ∧ Below w.heap.size w wr) (fun _ _ => 0)
    case atStart => exact ⟨rfl, b1⟩
    case round =>
      obtain ⟨rfl, hB⟩ := hrel
      go_wp2_with fail
      refine (show_c (.slice none 0 0) [] _ (.inl ⟨rfl, rfl⟩) (by simp) (by simp [showI])).mono ?_
      rintro e w2 ⟨rfl, b2⟩
      go_wp2_with fail
      refine (refShow_c (.slice none 0 0) [] _ (.inl ⟨rfl, rfl⟩) (by simp) (by simp)).mono ?_
      rintro e w3 ⟨rfl, b3⟩
      go_wp2
      go_ret
      exact ⟨rfl, hB.trans ((b2.mono hB.size).trans (b3.mono (Nat.le_trans hB.size b2.size)))⟩
  · unfold maxLen at h2
    have HZ := Lib.hid hz
    obtain ⟨us, hu⟩ : ∃ us, ts.take 200 = us := ⟨_, rfl⟩
    have hul : us.length ≤ 200 := by rw [← hu, List.length_take]; omega
    have hul2 : us.length ≤ ts.length := by rw [← hu, List.length_take]; omega
    have hmin : (min (ts.length : Int) 200).toNat = us.length := by rw [← hu, List.length_take]; omega
    have hcap : us.length ≤ cap := by omega
    have hz' : ∀ t ∈ us, t.s.size ≤ maxLen := fun t ht => hz t (List.mem_of_mem_take (hu ▸ ht))
    have S0 : ∀ (i : Nat) (t : TokI), us[i]? = some t → w.cell? (g.add (i * 3)) = some (.int .i64 t.kind) ∧ w.cell? (g.add (i * 3 + 1)) = some (.string t.s) ∧ w.cell? (g.add (i * 3 + 2)) = some (.int .i64 t.line) := by
      intro i t hi
      rw [← hu, List.getElem?_take] at hi
      split at hi
      · exact h4 i t hi
      · cases hi
    have H4 := Lib.hid S0
    have Hmin := Lib.hid hmin
    have HZ := Lib.hid hz'
    clear h4 hz hz' hu S0 hmin
    go_enter Tryz.func5, Tryz.ntmps5
    go_wp2_with fail
    refine (dshown_c a b c _ HE.out).mono ?_
    rintro e w1 ⟨rfl, b1⟩
    go_wp2
    trace_state
    rw [Hmin.out]
    go_loopw [4] (fun i wr => ∃ k : Nat, k ≤ us.length ∧ i = .int .i64 k ∧ (∀ t ∈ us.take k, t.s.size ≤ 200) ∧ Below w.heap.size w wr) (fun i _ => us.length - (intOf i).toNat)
    case atStart => exact ⟨0, Nat.zero_le _, rfl, by simp, b1⟩
    case round =>
      obtain ⟨k, hk, rfl, hall, hB⟩ := hrel
      have Hall := Lib.hid hall
      clear hall
      by_cases hlt : k < us.length
      · obtain ⟨t, ht⟩ : ∃ t, us[k]? = some t := ⟨us[k], List.getElem?_eq_getElem hlt⟩
        obtain ⟨d0, d1, d2⟩ := SliceOf.cells H4.out h3 hB ht
        have hts : t.s.size ≤ maxLen := HZ.out t (List.mem_of_getElem? ht)
        unfold maxLen at hts
        have Ht := Lib.hid ht
        clear ht
        by_cases hbig : 200 < t.s.size
        · go_wp2
          go_ret
          exact ⟨rfl, hB⟩
        · go_wp2
          go_roundw
          case rel =>
            refine ⟨k + 1, hlt, by go_num, ?_, hB⟩
            intro u hu
            have e : us[k]'hlt = t := (List.getElem?_eq_some_iff.1 Ht.out).2
            rw [List.take_succ_eq_append_getElem hlt, e, List.mem_append, List.mem_singleton] at hu
            rcases hu with hu | rfl
            · exact Hall.out u hu
            · omega
          case measure => simp [intOf]; omega
      · obtain rfl : k = us.length := by omega
        have hk' : ¬ ((us.length : Int) < (us.length : Int)) := by omega
        have Hall2 : Hid (∀ t ∈ us, t.s.size ≤ 200) := Lib.hid (by have := Hall.out; rwa [List.take_length] at this)
        have hsl := showI_len 200 us Hall2.out
        have hm := Nat.mul_le_mul_right (4 * 200 + 3) hul
        have S : Hid (SliceOf w w.heap.size (.slice (some g) us.length cap) us) := Lib.hid (.inr ⟨g, cap, rfl, hcap, by unfold maxLen; omega, h3, H4.out⟩)
        have S1 := Lib.hid ((S.out.below hB).more hB.size)
        go_wp2_with fail
        refine (show_c _ us _ S1.out (fun t ht => Nat.le_trans (Hall2.out t ht) (by decide)) (by omega)).mono ?_
        rintro e w2 ⟨rfl, b2⟩
        have S2 := Lib.hid ((S1.out.below b2).more b2.size)
        go_wp2_with fail
        refine (refShow_c _ us _ S2.out Hall2.out hul).mono ?_
        rintro e w3 ⟨rfl, b3⟩
        go_wp2
        go_ret
        exact ⟨rfl, hB.trans ((b2.mono hB.size).trans (b3.mono (Nat.le_trans hB.size b2.size)))⟩
end Go.Proofs.YtkfdklamfmnalaaGreatDoor
