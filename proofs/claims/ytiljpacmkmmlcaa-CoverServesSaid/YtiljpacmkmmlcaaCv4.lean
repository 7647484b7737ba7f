/- soritesref12.right. -/
import Derived.Test.YtiljpacmkmmlcaaCv1
import Derived.Test.YtiljpacmkmmlcaaKa
import Derived.Test.YtiljpacmkmmlcaaCsm
import Derived.Deep.RegionHeld3
set_option linter.unusedSimpArgs false
set_option linter.unusedVariables false
namespace Go.Proofs.Ytiljpacmkmmlcaa
open Go.RowKit

theorem set_all {w : World} {l : List (List Int)} {o : Option Addr} {k : Nat} {s : List Int} (S : Hid (SlIn w w.heap.size 1 (IntsC w w.heap.size) l o)) (ht : l[k]? = some s) :
    ∃ a o' cap', o = some a ∧ a.block < w.heap.size ∧ s.length ≤ cap' ∧ cap' ≤ 9223372036854775807 ∧ ∀ wr, Below w.heap.size w wr → SlOf wr wr.heap.size 1 IntC s (.slice o' s.length cap') ∧ wr.cell? (a.add k) = some (.slice o' s.length cap') := by
  obtain ⟨a, cs, rfl, ha, _, ⟨v, rfl, h1⟩, h2⟩ := S.out k s ht
  obtain ⟨o', cap', rfl, hc, hm, _⟩ := SlOf.open h1
  refine ⟨a, o', cap', rfl, ha, hc, hm, fun wr hB => ?_⟩
  have h3 := (h2.below ha hB).n1
  rw [Nat.mul_one] at h3
  exact ⟨SlOf.int h1 hB hB.size, h3⟩
theorem right_bad {c : Int} {l : List (List Int)} {k : Nat} {s : List Int} (hs : l[k]? = some s) (h : setOk c s = false) : rightS c l = false := by
  cases hr : rightS c l with
  | false => rfl
  | true =>
    have := ((rightS_iff.1 hr).2 k s (List.getElem?_eq_some_iff.1 hs).1 hs).1
    rw [h] at this
    cases this
theorem right_twice {c : Int} {l : List (List Int)} {k j : Nat} {s : List Int} (hs : l[k]? = some s) (hj : j < k) (ht : l[j]? = some s) : rightS c l = false := by
  cases hr : rightS c l with
  | false => rfl
  | true => exact absurd rfl (((rightS_iff.1 hr).2 k s (List.getElem?_eq_some_iff.1 hs).1 hs).2 j s hj ht)
theorem set_badx {c : Int} {s : List Int} {j : Nat} {x : Int} (hx : s[j]? = some x) (h : x < 0 ∨ c ≤ x) : setOk c s = false := by
  cases hr : setOk c s with
  | false => rfl
  | true =>
    have := (setOk_iff.1 hr).2.1 j x (List.getElem?_eq_some_iff.1 hx).1 hx
    omega
theorem set_bady {c : Int} {s : List Int} {j : Nat} {x y : Int} (hx : s[j + 1]? = some x) (hy : s[j]? = some y) (h : x ≤ y) : setOk c s = false := by
  cases hr : setOk c s with
  | false => rfl
  | true =>
    have := (setOk_iff.1 hr).2.2 j y x (List.getElem?_eq_some_iff.1 hx).1 hy hx
    omega
theorem sets_next {c : Int} {l : List (List Int)} {k : Nat} {s : List Int} (hs : l[k]? = some s) (h : setsTo c l k) (h1 : setOk c s = true) (h2 : ∀ (j : Nat) (t : List Int), j < k → l[j]? = some t → t ≠ s) : setsTo c l (k + 1) := by
  intro i u hi hu
  by_cases e : i = k
  · subst e
    rw [hs] at hu
    cases hu
    exact ⟨h1, h2⟩
  · exact h i u (by omega) hu
set_option linter.unusedVariables false in
set_option maxRecDepth 100000 in
set_option maxHeartbeats 8000000 in
theorem right12_c (c : Int) (l : List (List Int)) (v : Value) (w : World) (h : SetsS w w.heap.size l v) :
    Calls Try.prog 26 #[.int .i64 c, v] w fun e w' => e = .returned (.bool (rightS c l)) ∧ Below w.heap.size w w' := by
  obtain ⟨o1, cap1, rfl, hc1, hm1, S1⟩ := SlOf.open h
  clear h
  by_cases hg1 : c < 1
  · have Hz : Hid (rightS c l = false) := Lib.hid (by cases hr : rightS c l with | false => rfl | true => have := (rightS_iff.1 hr).1; omega)
    go_enter Try.func26, Try.ntmps26
    go_wp2
    go_ret
    exact ⟨by rw [Hz.out]; rfl, Below.refl _ _⟩
  · by_cases hg2 : c > 8
    · have Hz : Hid (rightS c l = false) := Lib.hid (by cases hr : rightS c l with | false => rfl | true => have := (rightS_iff.1 hr).1; omega)
      go_enter Try.func26, Try.ntmps26
      go_wp2
      go_ret
      exact ⟨by rw [Hz.out]; rfl, Below.refl _ _⟩
    · by_cases hg3 : l.length > 60
      · have hg3' : (l.length : Int) > 60 := by omega
        have Hz : Hid (rightS c l = false) := Lib.hid (by cases hr : rightS c l with | false => rfl | true => have := (rightS_iff.1 hr).1; omega)
        go_enter Try.func26, Try.ntmps26
        go_wp2
        go_ret
        exact ⟨by rw [Hz.out]; rfl, Below.refl _ _⟩
      · have hg3' : ¬ (l.length : Int) > 60 := by omega
        have HG : Hid (1 ≤ c ∧ c ≤ 8 ∧ l.length ≤ 60) := Lib.hid ⟨by omega, by omega, by omega⟩
        go_enter Try.func26, Try.ntmps26
        go_wp2
        go_loopw [5] (fun i wr => ∃ k : Nat, k ≤ l.length ∧ i = .int .i64 (k : Int) ∧ Hid (setsTo c l k) ∧ Hid (Below w.heap.size w wr)) (fun i _ => l.length - (intOf i).toNat)
        case atStart => exact ⟨0, Nat.zero_le _, rfl, Lib.hid (fun i s hi => by omega), Lib.hid (Below.refl _ _)⟩
        case round =>
          obtain ⟨k, hk, rfl, hr, HB⟩ := hrel
          by_cases hlt : k < l.length
          · have hlt' : (k : Int) < (l.length : Int) := by omega
            have hk0 : (0 : Int) ≤ (k : Int) := by omega
            obtain ⟨s, hs⟩ : ∃ s, l[k]? = some s := ⟨l[k], List.getElem?_eq_getElem hlt⟩
            have Hs := Lib.hid hs
            obtain ⟨a, o', cap', rfl, ha, hcs, hcm, hW⟩ := set_all S1 hs
            have hal : (a.add k).block < w.heap.size := by rw [addBlock]; exact ha
            have HW := Lib.hid hW
            have c0 := (hW wr HB.out).2
            have HR := Lib.hid hr
            clear hs hW hr
            by_cases he : s.length = 0
            · have he' : (s.length : Int) = 0 := by omega
              have Hz : Hid (rightS c l = false) := Lib.hid (right_bad Hs.out (by rw [List.length_eq_zero_iff.1 he]; rfl))
              go_wp2
              go_ret
              exact ⟨by rw [Hz.out]; rfl, HB.out⟩
            · have he' : ((s.length : Int) == 0) = false := by rw [beq_eq_false_iff_ne]; omega
              have Hne : Hid (s ≠ []) := Lib.hid (fun e => he (by rw [e]; rfl))
              go_wp2
              clear c0
              have HB1 := HB
              go_loopw [6] (fun jv wj => ∃ j : Nat, j ≤ s.length ∧ jv = .int .i64 (j : Int) ∧ Hid (colsTo c s j) ∧ Hid (Below w.heap.size w wj)) (fun jv _ => s.length - (intOf jv).toNat)
              case atStart => exact ⟨0, Nat.zero_le _, rfl, Lib.hid (colsTo_zero c s), HB⟩
              case round =>
                obtain ⟨j, hj, rfl, HCt, HBj⟩ := hrel
                have c1 := (HW.out _ HBj.out).2
                by_cases hjl : j < s.length
                · have hjl' : (j : Int) < (s.length : Int) := by omega
                  have hj0 : (0 : Int) ≤ (j : Int) := by omega
                  obtain ⟨x, hx⟩ : ∃ x, s[j]? = some x := ⟨s[j], List.getElem?_eq_getElem hjl⟩
                  obtain ⟨o5, c5, e5, _, _, S5⟩ := SlOf.open (HW.out _ HBj.out).1
                  injection e5 with e5 _ e6
                  subst e5
                  subst e6
                  obtain ⟨f, rfl, hf, hI, d0⟩ := int_at S5 (Below.refl _ _) hx
                  have hfl : (f.add j).block < wr.heap.size := by rw [addBlock]; exact hf
                  have Hx := Lib.hid hx
                  have g1 : decide (0 ≤ (j : Int)) = true := by simp
                  have g2 : decide ((j : Int) < (s.length : Int)) = true := by simpa using hjl
                  have g3 : decide (0 ≤ (k : Int)) = true := by simp
                  have g4 : decide ((k : Int) < (l.length : Int)) = true := by simpa using hlt
                  clear hx
                  by_cases hx0 : x < 0
                  · have Hz : Hid (rightS c l = false) := Lib.hid (right_bad Hs.out (set_badx Hx.out (.inl hx0)))
                    have q1 : decide (x < 0) = true := decide_eq_true hx0
                    go_wp2_with fail
                    go_quiet (fail)
                    go_wp2
                    go_ret
                    exact ⟨by rw [Hz.out]; rfl, below_drewNC HBj.out⟩
                  · have q1 : decide (x < 0) = false := decide_eq_false hx0
                    by_cases hxc : x ≥ c
                    · have Hz : Hid (rightS c l = false) := Lib.hid (right_bad Hs.out (set_badx Hx.out (.inr hxc)))
                      have q2 : decide (x ≥ c) = true := decide_eq_true hxc
                      have q3 : decide (c ≤ x) = true := decide_eq_true hxc
                      go_wp2_with fail
                      go_quiet (fail)
                      go_wp2
                      go_ret
                      exact ⟨by rw [Hz.out]; rfl, below_drewNC HBj.out⟩
                    · have q2 : decide (x ≥ c) = false := decide_eq_false hxc
                      have q3 : decide (c ≤ x) = false := decide_eq_false hxc
                      by_cases hjz : j = 0
                      · have HN : Hid (colsTo c s (j + 1)) := Lib.hid (by subst hjz; exact colsTo_first Hx.out (by omega) (by omega))
                        have z1 : decide ((j : Int) > 0) = false := decide_eq_false (by omega)
                        have z2 : decide (0 < (j : Int)) = false := decide_eq_false (by omega)
                        have z3 : decide (0 < j) = false := decide_eq_false (by omega)
                        clear hjz
                        go_wp2_with fail
                        go_quiet (fail)
                        go_wp2
                        go_roundw
                        case rel => first | exact ⟨j + 1, hjl, by go_num, HN, Lib.hid (below_drewNC HBj.out)⟩ | ((repeat apply Exists.intro); exact ⟨⟨j + 1, hjl, by go_num, HN, Lib.hid (below_drewNC HBj.out)⟩, rfl⟩)
                        case measure => simp [intOf]; omega
                      · obtain ⟨q, hq⟩ : ∃ q, q + 1 = j := ⟨j - 1, by omega⟩
                        have z1 : decide ((j : Int) > 0) = true := decide_eq_true (by omega)
                        have z2 : decide (0 < (j : Int)) = true := decide_eq_true (by omega)
                        have z3 : decide (0 < j) = true := decide_eq_true (by omega)
                        have hql : q < s.length := by omega
                        obtain ⟨y, hy⟩ : ∃ y, s[q]? = some y := ⟨s[q], List.getElem?_eq_getElem hql⟩
                        obtain ⟨f', e7, _, _, d1⟩ := int_at S5 (Below.refl _ _) hy
                        injection e7 with e7
                        subst e7
                        have hfq : (f.add q).block < wr.heap.size := by rw [addBlock]; exact hf
                        have g5 : decide (0 ≤ (q : Int)) = true := by simp
                        have g6 : decide ((q : Int) < (s.length : Int)) = true := by simpa using hql
                        have hx1 : s[q + 1]? = some x := by rw [hq]; exact Hx.out
                        by_cases hyx : y ≥ x
                        · have Hz : Hid (rightS c l = false) := Lib.hid (right_bad Hs.out (set_bady hx1 hy hyx))
                          have q5 : decide (y ≥ x) = true := decide_eq_true hyx
                          have q6 : decide (x ≤ y) = true := decide_eq_true hyx
                          have wk : IntKind.i64.wrap ((j : Int) - 1) = (q : Int) := by rw [IntKind.wrap_i64]; omega
                          clear hjz hq hx1 hy
                          go_wp2_with fail
                          go_quiet (fail)
                          go_wp2
                          go_ret
                          exact ⟨by rw [Hz.out]; rfl, below_drewNC HBj.out⟩
                        · have HN : Hid (colsTo c s (j + 1)) := Lib.hid (by
                            have h1 := HCt.out
                            rw [← hq] at h1 ⊢
                            exact colsTo_next h1 hy hx1 (by omega) (by omega) (by omega))
                          have q5 : decide (y ≥ x) = false := decide_eq_false hyx
                          have q6 : decide (x ≤ y) = false := decide_eq_false hyx
                          have wk : IntKind.i64.wrap ((j : Int) - 1) = (q : Int) := by rw [IntKind.wrap_i64]; omega
                          clear hjz hq hx1 hy
                          go_wp2_with fail
                          go_quiet (fail)
                          clear wk
                          go_wp2
                          go_roundw
                          case rel => first | exact ⟨j + 1, hjl, by go_num, HN, Lib.hid (below_drewNC HBj.out)⟩ | ((repeat apply Exists.intro); exact ⟨⟨j + 1, hjl, by go_num, HN, Lib.hid (below_drewNC HBj.out)⟩, rfl⟩)
                          case measure => simp [intOf]; omega
                · have hjl' : ¬ (j : Int) < (s.length : Int) := by omega
                  obtain rfl : j = s.length := by omega
                  have Hok : Hid (setOk c s = true) := Lib.hid (setOk_iff.2 ⟨Hne.out, HCt.out⟩)
                  go_wp2
                  clear c1
                  go_loopw [7] (fun jv wj => ∃ j : Nat, j ≤ k ∧ jv = .int .i64 (j : Int) ∧ Hid (∀ (i : Nat) (t : List Int), i < j → l[i]? = some t → t ≠ s) ∧ Hid (Below w.heap.size w wj)) (fun jv _ => k - (intOf jv).toNat)
                  case atStart => exact ⟨0, Nat.zero_le _, rfl, Lib.hid (fun i t hi => by omega), HBj⟩
                  case round =>
                    obtain ⟨j, hj, rfl, HD, HBx⟩ := hrel
                    by_cases hjk : j < k
                    · have hjk' : (j : Int) < (k : Int) := by omega
                      have hj0 : (0 : Int) ≤ (j : Int) := by omega
                      have hjl2 : (j : Int) < (l.length : Int) := by omega
                      obtain ⟨t, ht⟩ : ∃ t, l[j]? = some t := ⟨l[j]'(by omega), List.getElem?_eq_getElem (by omega)⟩
                      have Ht := Lib.hid ht
                      obtain ⟨a2, o2, cap2, e2, _, _, _, hW2⟩ := set_all S1 ht
                      injection e2 with e2
                      subst e2
                      have hal2 : (a.add j).block < w.heap.size := by rw [addBlock]; exact ha
                      obtain ⟨bb, hbb⟩ : ∃ bb, decide (t = s) = bb := ⟨_, rfl⟩
                      have hSm := sameIntsC_c t s _ _ _ (hW2 _ HBx.out.drew).1 (HW.out _ HBx.out.drew).1
                      rw [hbb] at hSm
                      have HSm := Lib.hid hSm
                      have Hbb := Lib.hid hbb
                      clear hSm hbb
                      have hS0 : (World.drew _).cell? (a.add j) = some (.slice o2 t.length cap2) ∧ (World.drew _).cell? (a.add k) = some (.slice o' s.length cap') := ⟨(hW2 _ HBx.out.drew).2, (HW.out _ HBx.out.drew).2⟩
                      have HW2 := Lib.hid hW2
                      clear ht hW2
                      go_wp2_with fail
                      go_region_held3 (fun W => W.cell? (a.add j) = some (.slice o2 t.length cap2) ∧ W.cell? (a.add k) = some (.slice o' s.length cap')) (first | exact hk1 | exact hS0)
                        ((go_at_call 35; refine HSm.out.mono ?_; rintro e3 w3 ⟨rfl, hK3⟩; have hB3 : Below w.heap.size w w3 := HBx.out.drew.trans (hK3.mono HBx.out.drew.size); have hk1 : w3.cell? (a.add j) = some (.slice o2 t.length cap2) ∧ w3.cell? (a.add k) = some (.slice o' s.length cap') := ⟨(HW2.out _ hB3).2, (HW.out _ hB3).2⟩))
                      have HB3 := Lib.hid hB3
                      clear hS0 hk1 hB3 hK3 HSm
                      cases bb with
                      | true =>
                        have Hz : Hid (rightS c l = false) := Lib.hid (right_twice Hs.out hjk (by rw [← of_decide_eq_true Hbb.out]; exact Ht.out))
                        go_wp2
                        go_ret
                        exact ⟨by rw [Hz.out]; rfl, HB3.out⟩
                      | false =>
                        have HD2 : Hid (∀ (i : Nat) (u : List Int), i < j + 1 → l[i]? = some u → u ≠ s) := Lib.hid (fun i u hi hu => by
                          by_cases e : i = j
                          · subst e
                            rw [Ht.out] at hu
                            cases hu
                            exact of_decide_eq_false Hbb.out
                          · exact HD.out i u (by omega) hu)
                        go_wp2
                        go_roundw
                        case rel => exact ⟨j + 1, hjk, by go_num, HD2, HB3⟩
                        case measure => simp [intOf]; omega
                    · have hjk' : ¬ (j : Int) < (k : Int) := by omega
                      obtain rfl : j = k := by omega
                      go_wp2
                      go_roundw
                      case rel => exact ⟨j + 1, hlt, by go_num, Lib.hid (sets_next Hs.out HR.out Hok.out HD.out), HBx⟩
                      case measure => simp [intOf]; omega
          · have hlt' : ¬ (k : Int) < (l.length : Int) := by omega
            obtain rfl : k = l.length := by omega
            have Hz : Hid (rightS c l = true) := Lib.hid (rightS_iff.2 ⟨HG.out, hr.out⟩)
            go_wp2
            go_ret
            exact ⟨by rw [Hz.out]; rfl, HB.out⟩
end Go.Proofs.Ytiljpacmkmmlcaa
