/- soriteslaw12.CoverGrows. -/
import Derived.Test.YtiljpacmkmmlcaaWx
import Derived.Test.YtiljpacmkmmlcaaCv9
set_option linter.unusedSimpArgs false
set_option linter.unusedVariables false
namespace Go.Proofs.Ytiljpacmkmmlcaa
open Go.RowKit

theorem take_rev {l : List (List Int)} {j : Nat} {s : List Int} (hj : j < l.length) (hs : l[j]? = some s) : l.reverse.take (l.length - j) = l.reverse.take (l.length - (j + 1)) ++ [s] := by
  rw [show l.length - j = (l.length - (j + 1)) + 1 by omega, List.take_add_one, rev_at (by omega), show l.length - 1 - (l.length - (j + 1)) = j by omega, hs]
  rfl
set_option linter.unusedVariables false in
set_option maxRecDepth 100000 in
set_option maxHeartbeats 8000000 in
theorem coverGrows_c (c : Int) (l : List (List Int)) (v : Value) (w : World) (hc : -9223372036854775808 ≤ c ∧ c ≤ 9223372036854775807) (h : SetsS w w.heap.size l v) :
    Calls Try.prog 7 #[.int .i64 c, v] w fun e w' => e = .returned (.bool true) ∧ Below w.heap.size w w' := by
  obtain ⟨i1, hi1, hy0, hy1, hy2⟩ := info_parts infoR
  have HSh := Lib.hid (shown12_c w)
  have HL := Lib.hid (fun (l : List (List Int)) (v : Value) (W : World) => least_c c l v W)
  obtain ⟨o1, cap1, rfl, hc1, hm1, _⟩ := SlOf.open h
  obtain ⟨M, hM⟩ : ∃ M, l.take 50 = M := ⟨_, rfl⟩
  have hMs : SetsS w w.heap.size M (.slice o1 M.length cap1) := by rw [← hM]; exact h.cutR
  obtain ⟨n, hn⟩ : ∃ n, M.length = n := ⟨_, rfl⟩
  have hmin : (if (50 : Int) < (l.length : Int) then (50 : Int) else (l.length : Int)) = (n : Int) := by
    rw [← hn, ← hM, List.length_take]
    split <;> omega
  have hnc : (n : Int) ≤ (cap1 : Int) := by
    rw [← hn, ← hM, List.length_take]; omega
  have hn0 : (0 : Int) ≤ (n : Int) := by omega
  have hn50 : n ≤ 50 := by rw [← hn, ← hM, List.length_take]; omega
  rw [hn] at hMs
  have HMs := Lib.hid hMs
  have HN := Lib.hid hn
  clear h hMs hM hn
  go_enter Try.func7, Try.ntmps7
  go_wp2_with fail
  refine HSh.out.mono ?_
  rintro e w1 ⟨rfl, hb⟩
  have HB1 := Lib.hid hb
  clear hb HSh
  go_wp2_with fail
  have HX := Lib.hid (HL.out M (.slice o1 n cap1) w1 (SetsS.past HMs.out HB1.out))
  refine HX.out.mono ?_
  rintro e w2 ⟨hR, hb⟩
  have HB2 := Lib.hid (HB1.out.trans (hb.mono HB1.out.size))
  clear hb HX
  rcases hR with ⟨hr, rfl⟩ | ⟨a, hr, rfl, ha⟩
  · go_wp2
    go_ret
    exact ⟨rfl, HB2.out⟩
  · have Hr := Lib.hid hr
    have Ha := Lib.hid ha
    clear hr ha
    by_cases h0 : n = 0
    · subst h0
      go_wp2
      go_ret
      exact ⟨rfl, HB2.out⟩
    · obtain ⟨m, hm⟩ : ∃ m, n = m + 1 := ⟨n - 1, by omega⟩
      have hsub : (n : Int) - 1 = (m : Int) := by omega
      have hmc : (m : Int) ≤ (cap1 : Int) := by omega
      have hm0 : (0 : Int) ≤ (m : Int) := by omega
      have hne : ((n : Int) == 0) = false := by rw [beq_eq_false_iff_ne]; omega
      have HM1 : Hid (SetsS w w.heap.size (M.take m) (.slice o1 m cap1)) := Lib.hid (by
        have h1 := HMs.out
        rw [← HN.out] at h1
        have h2 := h1.cutR (n := m)
        have e : (M.take m).length = m := by rw [List.length_take, HN.out]; omega
        rwa [e] at h2)
      have HX := Lib.hid (HL.out (M.take m) (.slice o1 m cap1) w2 (SetsS.past HM1.out HB2.out))
      go_wp2_with fail
      refine HX.out.mono ?_
      rintro e w3 ⟨hR, hb⟩
      have HB3 := Lib.hid (HB2.out.trans (hb.mono HB2.out.size))
      clear hb HX
      rcases hR with ⟨hr, rfl⟩ | ⟨b, hr, rfl, hb⟩
      · rw [right_take m Hr.out] at hr; cases hr
      · have Hb := Lib.hid hb
        clear hr hb
        have HS1 : Hid (∀ k, k ≤ n → k + 1 ≤ maxLen ∧ (k + 1) * 24 ≤ 140737488355328) := Lib.hid (fun k hk => ⟨by unfold maxLen; omega, by omega⟩)
        obtain ⟨o2, cap2, e2, hc2, hm2, S2⟩ := SlOf.open (by have h1 := HMs.out; rw [← HN.out] at h1; exact h1)
        injection e2 with e3 _ e4
        subst e3; subst e4
        go_wp2_with fail
        go_loopw [10, 11] (fun av iv wr => ∃ (r : Nat) (tv : Value) (xs : List Value), r ≤ n ∧ iv = .int .i64 ((r : Int) - 1) ∧ tv = av ∧ Hid (TuI w w.heap.size (M.reverse.take (n - r)) tv xs wr)) (fun _ iv _ => (intOf iv + 1).toNat)
        case atStart => exact ⟨n, _, [], Nat.le_refl _, by first | rfl | (rw [hsub]), rfl, Lib.hid (by rw [Nat.sub_self]; exact ⟨World.ownsRow_nil _ _ _ _, (fun i s v hs => by simp at hs), HB3.out⟩)⟩
        case round =>
          obtain ⟨r, av, xs, hrn, rfl, rfl, HI⟩ := hrel
          cases r with
          | succ j =>
            have ej : ((j + 1 : Nat) : Int) - 1 = (j : Int) := by omega
            rw [ej]
            have hj0 : (j : Int) ≥ 0 := by omega
            have hjn : (j : Int) < (n : Int) := by omega
            obtain ⟨s, hs⟩ : ∃ s, M[j]? = some s := ⟨M[j]'(by rw [HN.out]; omega), List.getElem?_eq_getElem _⟩
            obtain ⟨a1, cs1, e1, ha1, _, ⟨vs, e5, hsv⟩, h2⟩ := S2.out j s hs
            subst e1; subst e5
            have c0 : wr.cell? (a1.add j) = some vs := by
              have := (h2.below ha1 HI.out.b).n1
              rwa [Nat.mul_one] at this
            have hbl : a1.block < wr.heap.size := Nat.lt_of_lt_of_le ha1 HI.out.b.size
            have Hsv := Lib.hid hsv
            obtain ⟨os, cps, rfl, _⟩ := SlOf.uni hsv
            have Hs := Lib.hid hs
            have hln : (M.reverse.take (n - (j + 1))).length = n - (j + 1) := by rw [List.length_take, List.length_reverse, HN.out]; omega
            have HO : Hid (wr.ownsRow w.heap.size 23 1 av (n - (j + 1)) xs) := Lib.hid (by have h1 := HI.out.own; rwa [hln] at h1)
            obtain ⟨q, hq⟩ : ∃ q, n - (j + 1) = q := ⟨_, rfl⟩
            have hqn : q ≤ n := by omega
            rw [hq] at HO
            clear hs h2 hsv
            go_wp2_with (at_builtin; refine wpList_append_own _ rfl (.tmp 51) (.tmp 56) 22 rfl w.heap.size 23 i1 _ 1 24 Try.underlying22 hi1 hy0 hy1 hy2 rfl (by decide) av q _ rfl (HO.out.alloc _) _ 1 1 [.slice os s.length cps] rfl rfl (news_new _ _ _ _ rfl) (fun u hu => by simp at hu; subst hu; rfl) (HS1.out q hqn).1 (HS1.out q hqn).2 (by have := HI.out.b.size; simp; omega) ?_; intro v5 w5 hown' hgrow _; have HG5 := Lib.hid hgrow; have HO5 := Lib.hid hown'; clear hgrow hown')
            go_roundw
            case rel =>
              refine ⟨j, _, xs ++ [.slice os s.length cps], by omega, by go_num, rfl, Lib.hid ?_⟩
              have e := take_rev (l := M) (j := j) (by rw [HN.out]; omega) Hs.out
              rw [HN.out] at e
              rw [e]
              refine (HI.out.past ((Below.refl _ wr).alloc (Nat.le_refl _) _)).snoc (Nat.le_refl _) Hsv.out HG5.out ?_
              rw [hln, hq]
              exact HO5.out
            case measure => first | (simp [intOf]; done) | (simp [intOf]; omega)
          | zero =>
            have ej : ((0 : Nat) : Int) - 1 = -1 := rfl
            rw [ej]
            have HQ : Hid (SetsS wr wr.heap.size M.reverse av) := Lib.hid (by
              have h1 := HI.out.sets
              rwa [Nat.sub_zero, List.take_of_length_le (by rw [List.length_reverse, HN.out]; exact Nat.le_refl _)] at h1)
            have HX := Lib.hid (HL.out M.reverse av wr HQ.out)
            go_wp2_with fail
            refine HX.out.mono ?_
            rintro e w6 ⟨hR, hb⟩
            have HB6 := Lib.hid (HI.out.b.trans (hb.mono HI.out.b.size))
            clear hb HX
            rcases hR with ⟨hr, rfl⟩ | ⟨d, hr, rfl, hd⟩
            · rw [right_rev Hr.out] at hr; cases hr
            · have hM0 : M ≠ [] := fun e => by have := HN.out; rw [e] at this; simp at this; omega
              have ha : LeastN M.length (RS M) a := by
                rcases Ha.out with ⟨e, _⟩ | ⟨_, h⟩
                · exact absurd e hM0
                · exact h
              have hd' : LeastN M.reverse.length (RS M.reverse) d := by
                rcases hd with ⟨e, _⟩ | ⟨_, h⟩
                · exact absurd (List.reverse_eq_nil_iff.1 e) hM0
                · exact h
              have hda : d = a := least_rev_eq ha hd'
              have hb2 := Hb.out
              rw [show m = M.length - 1 by rw [HN.out]; omega] at hb2
              obtain ⟨k1, k2⟩ := least_cut hM0 ha (hb2.imp id (fun h => h.2))
              have hpos := least_pos (List.length_pos_iff.2 hM0) ha
              subst hda
              have q1 : (b : Int) ≤ (d : Int) := by omega
              have q2 : (d : Int) ≤ (b : Int) + 1 := by omega
              have q3 : (d : Int) ≥ 1 := by omega
              have hd50 : d ≤ 50 := by
                have := least_le ha (fun i hi => by have h := hi.rank; omega)
                rw [HN.out] at this
                omega
              have q4 : (b : Int) + 1 ≤ 9223372036854775807 := by omega
              have q5 : -9223372036854775808 ≤ (b : Int) + 1 := by omega
              clear ha hd' hb2 hr hd hmin hn50 hnc hn0 hmc hm0 hsub hm1 hc1 hd50 hpos k1 k2 hM0 hne
              go_wp2
              go_ret
              exact ⟨rfl, HB6.out⟩
end Go.Proofs.Ytiljpacmkmmlcaa
