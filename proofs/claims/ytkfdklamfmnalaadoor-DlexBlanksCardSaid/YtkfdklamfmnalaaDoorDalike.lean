/- soritesref02.Alike answers whether two slices of tokens are alike. -/
import Derived.Test.YtkfdklamfmnalaaDoorDlaws
namespace Go.Proofs.YtkfdklamfmnalaaDoor
open Go.RowKit

set_option maxHeartbeats 4000000 in
theorem alike_c (v1 v2 : Value) (ts us : List TokI) (w : World) (h1 : SliceOf w w.heap.size v1 ts) (h2 : SliceOf w w.heap.size v2 us) :
    Calls Tryd.prog 27 #[v1, v2] w fun e w' => e = .returned (.bool (alikeB ts us)) ∧ Below w.heap.size w w' := by
  by_cases hne : ts.length = us.length
  · rcases h1 with ⟨rfl, rfl⟩ | ⟨a1, cap1, rfl, n1, m1, l1, c1⟩
    · have hu : us = [] := List.eq_nil_of_length_eq_zero (by simpa using hne.symm)
      subst hu
      rcases h2 with ⟨rfl, _⟩ | ⟨a2, cap2, rfl, n2, m2, l2, c2⟩
      all_goals
        go_enter Tryd.func27, Tryd.ntmps27
        go_wp2
        go_loop [5] (fun i => i = .int .i64 0) (fun _ => 0)
        case atStart => rfl
        case round =>
          obtain rfl := hrel
          go_wp2
          go_ret
          exact ⟨rfl, Below.refl _ _⟩
    rcases h2 with ⟨rfl, rfl⟩ | ⟨a2, cap2, rfl, n2, m2, l2, c2⟩
    · have hu : ts = [] := List.eq_nil_of_length_eq_zero (by simpa using hne)
      subst hu
      go_enter Tryd.func27, Tryd.ntmps27
      go_wp2
      go_loop [5] (fun i => i = .int .i64 0) (fun _ => 0)
      case atStart => rfl
      case round =>
        obtain rfl := hrel
        go_wp2
        go_ret
        exact ⟨rfl, Below.refl _ _⟩
    have C1 := Lib.hid c1
    have C2 := Lib.hid c2
    have Hne := Lib.hid hne
    unfold maxLen at m1 m2
    have hbne : ((ts.length : Int) != (us.length : Int)) = false := by simp; omega
    clear c1 c2 hne
    go_enter Tryd.func27, Tryd.ntmps27
    go_wp2
    go_loopw [5] (fun i wr => ∃ k : Nat, k ≤ ts.length ∧ i = .int .i64 k ∧ alikeB ts us = alikeB (ts.drop k) (us.drop k) ∧ Below w.heap.size w wr) (fun i _ => ts.length - (intOf i).toNat)
    case atStart => exact ⟨0, Nat.zero_le _, rfl, by simp, Below.refl _ _⟩
    case round =>
      obtain ⟨k, hk, rfl, hal, hB⟩ := hrel
      have Hal := Lib.hid hal
      clear hal
      by_cases hlt : k < ts.length
      · have hlt2 : k < us.length := by rw [← Hne.out]; exact hlt
        obtain ⟨t, ht⟩ : ∃ t, ts[k]? = some t := ⟨ts[k], List.getElem?_eq_getElem hlt⟩
        obtain ⟨u, hu⟩ : ∃ u, us[k]? = some u := ⟨us[k], List.getElem?_eq_getElem hlt2⟩
        obtain ⟨d0, d1, d2⟩ := SliceOf.cells C1.out l1 hB ht
        obtain ⟨e0, e1, e2⟩ := SliceOf.cells C2.out l2 hB hu
        have Hd := Lib.hid (alikeB_drop ht hu)
        clear ht hu d2 e2
        by_cases hkk : t.kind = u.kind
        · have q1 : (t.kind != u.kind) = false := by simp [hkk]
          have Hk : Hid ((t.kind == u.kind) = true) := Lib.hid (by simp [hkk])
          clear hkk
          cases hss : (t.s.toList == u.s.toList) with
          | true =>
            go_wp2
            go_quiet (fail)
            go_wp2
            go_roundw
            case rel => exact ⟨k + 1, hlt, by go_num, by rw [Hal.out, Hd.out, Hk.out, hss]; rfl, hB.trans (below_drewN (Below.refl _ _) _)⟩
            case measure => simp [intOf]; omega
          | false =>
            go_wp2
            go_quiet (fail)
            go_wp2
            go_ret
            exact ⟨ret_bool (by rw [Hal.out, Hd.out, Hk.out, hss]; rfl), hB.trans (below_drewN (Below.refl _ _) _)⟩
        · have q1 : (t.kind != u.kind) = true := by simp [hkk]
          have Hk : Hid ((t.kind == u.kind) = false) := Lib.hid (by simp [hkk])
          clear hkk
          go_wp2
          go_quiet (fail)
          go_wp2
          go_ret
          exact ⟨ret_bool (by rw [Hal.out, Hd.out, Hk.out]; rfl), hB.trans (below_drewN (Below.refl _ _) _)⟩
      · obtain rfl : k = ts.length := by omega
        have hx : ¬ ((ts.length : Int) < (ts.length : Int)) := by omega
        go_wp2
        go_ret
        exact ⟨ret_bool (by rw [Hal.out, List.drop_length, Hne.out, List.drop_length]; rfl), hB⟩
  · have Hf := Lib.hid (alikeB_len hne)
    rcases h1 with ⟨rfl, rfl⟩ | ⟨a1, cap1, rfl, n1, m1, l1, c1⟩ <;> rcases h2 with ⟨rfl, rfl⟩ | ⟨a2, cap2, rfl, n2, m2, l2, c2⟩
    · exact absurd rfl hne
    · have hlen : ((0 : Int) != (us.length : Int)) = true := by simp at hne ⊢; omega
      clear c2 hne
      go_enter Tryd.func27, Tryd.ntmps27
      go_wp2
      go_ret
      exact ⟨ret_bool Hf.out.symm, Below.refl _ _⟩
    · have hlen : ((ts.length : Int) != (0 : Int)) = true := by simp at hne ⊢; omega
      clear c1 hne
      go_enter Tryd.func27, Tryd.ntmps27
      go_wp2
      go_ret
      exact ⟨ret_bool Hf.out.symm, Below.refl _ _⟩
    · have hlen : ((ts.length : Int) != (us.length : Int)) = true := by simp; omega
      clear c1 c2 hne
      go_enter Tryd.func27, Tryd.ntmps27
      go_wp2
      go_ret
      exact ⟨ret_bool Hf.out.symm, Below.refl _ _⟩
end Go.Proofs.YtkfdklamfmnalaaDoor
