/- soriteslaw12.CoverOrders. -/
import Derived.Test.YtiljpacmkmmlcaaXa
import Derived.Test.YtiljpacmkmmlcaaCv6
import Derived.StillTailTactics
set_option linter.unusedSimpArgs false
set_option linter.unusedVariables false
namespace Go.Proofs.Ytiljpacmkmmlcaa
open Go.RowKit

theorem rise_many {c : Int} : ∀ {s : List Int} {lo : Int}, riseI s = true → (∀ x ∈ s, lo ≤ x ∧ x < c) → s.length ≤ (c - lo).toNat
  | [], _, _, _ => Nat.zero_le _
  | a :: s, lo, h, hx => by
    have h1 := rise_many (c := c) (lo := lo + 1) (riseI_tail h) (fun x hm => by
      have h2 := riseI_lt h x hm
      have h3 := hx a (by simp)
      have h4 := hx x (by simp [hm])
      omega)
    have h3 := hx a (by simp)
    rw [List.length_cons]
    omega
theorem rise_len {c : Int} {s : List Int} (h : riseI s = true) (hx : ∀ x ∈ s, 0 ≤ x ∧ x < c) : s.length ≤ c.toNat := by
  have := rise_many h hx
  rwa [Int.sub_zero] at this
theorem which_some {os : List (List Int)} {s : List Int} (h : ∃ o ∈ os, servesL o s = true) : ∃ q, whichL os s = some q := by
  obtain ⟨o, ho, hs⟩ := h
  cases hw : whichL os s with
  | some q => exact ⟨q, rfl⟩
  | none =>
    unfold whichL at hw
    rw [List.findIdx?_eq_none_iff] at hw
    rw [hw o ho] at hs
    cases hs
set_option linter.unusedVariables false in
set_option linter.unusedSimpArgs false in
set_option maxRecDepth 100000 in
set_option maxHeartbeats 16000000 in
theorem coverOrders_c (c : Int) (l : List (List Int)) (v : Value) (w : World) (hc : -9223372036854775808 ≤ c ∧ c ≤ 9223372036854775807) (h : SetsS w w.heap.size l v) :
    Calls Try.prog 5 #[.int .i64 c, v] w fun e w' => e = .returned (.bool true) ∧ Below w.heap.size w w' := by
  obtain ⟨i1, hi1, hy0, hy1, hy2⟩ := info_parts infoR
  have HK70 : Hid (i1.bytes * 70 ≤ 281474976710656) := Lib.hid (by rw [hy2]; decide)
  have HSh := Lib.hid (shown12_c w)
  have HL := Lib.hid (fun (l : List (List Int)) (v : Value) (W : World) => orders_c c l v W)
  have HL2 := Lib.hid (fun (l : List (List Int)) (v : Value) (W : World) => least12_c c l v W)
  obtain ⟨o1, cap1, rfl, hc1, hm1, _⟩ := SlOf.open h
  have HSet := Lib.hid h
  have hM1 : SetsS w w.heap.size (l.take 70) (.slice o1 (l.take 70).length cap1) := h.cutR
  obtain ⟨M, hM⟩ : ∃ M, l.take 70 = M := ⟨_, rfl⟩
  obtain ⟨n, hn⟩ : ∃ n, M.length = n := ⟨_, rfl⟩
  have hn70 : n ≤ 70 := by rw [← hn, ← hM, List.length_take]; omega
  rw [hM] at hM1
  obtain ⟨news, hnl, hnews, hsp⟩ := sets_spread hM1
  rw [hn] at hM1 hsp hnl
  have HNews := Lib.hid hnews
  have HSp := Lib.hid hsp
  have HN : Hid ((l.take 70).length = n) := Lib.hid (by rw [hM]; exact hn)
  have HNM := Lib.hid hn
  clear h hM1 hM hn hnews hsp
  go_enter Try.func5, Try.ntmps5
  go_wp2_with fail
  refine HSh.out.mono ?_
  rintro e w1 ⟨rfl, hb⟩
  have HB1 := Lib.hid hb
  clear hb HSh
  go_wp2_with fail
  refine wp_region_any (by kernel_rfl) ?_
  (try (change wpAny _ _ _ _ _ _ _ (World.drew _)))
  refine wpAny_chain2 (slotsCp 17 18 19 20) [0, 3, 4] _ _ (factsCp (.slice o1 l.length cap1) (.slice o1 n cap1)) (stateCp w1.heap.size n news) (fun _ => False)
    (by kernel_rfl) (by kernel_rfl) (by kernel_rfl) (by kernel_rfl) (by kernel_rfl) (by decide) (by decide) ?indep trivial
    ⟨.c 0 rfl rfl ?s0, .p rfl ?s1, .p rfl ?s2, .c 1 rfl (by kernel_rfl) ?s3, .c 2 rfl (by kernel_rfl) ?s4, trivial⟩ ?fin
  case indep =>
    intro k val val' w' hv hs
    match k, hs with
    | 0, hs => exact hs
    | 1, hs => exact (show w'.ownsRow w1.heap.size 23 1 (val' 0) 0 [] from by rw [← hv 0 (by decide)]; exact hs)
    | 2, hs => exact (show w'.ownsRow w1.heap.size 23 1 (val' 3) n news from by rw [← hv 3 (by decide)]; exact hs)
    | k + 3, hs => exact ⟨by rw [← hv 3 (by decide)]; exact hs.1, by rw [← hv 3 (by decide), ← hv 4 (by decide)]; exact hs.2⟩
  case s0 =>
    intro A' w' val K' hb hfar hd hs hK
    refine wp_make_any w' _ _ 22 rfl w1.heap.size 23 i1 _ 1 Try.underlying22 hi1 hy0 hy1 .i64 .i64 70 rfl rfl HK70.out (by decide) hb.size fun w4 ho4 hg4 => ?_
    exact hK _ w4 (hb.grown hg4 (fun b e => by cases e)) (factV_mk rfl trivial) (by
      show w4.ownsRow w1.heap.size 23 1 (updV val 0 _ 0) 0 []
      rw [updV_same]; exact ho4)
  case s1 =>
    intro A' w' K' hb hfar hd hK
    have e1 : A'.tmps[1]?.getD undef = .slice o1 l.length cap1 := hfar 1 (by kernel_rfl)
    unfold Oper.wp
    simp [execOp, e1, go_sem, Result.andThen]
    exact hK _ (factV_mk rfl rfl)
  case s2 =>
    intro A' w' K' hb hfar hd hK
    have e1 : A'.tmps[18]?.getD undef = .slice o1 l.length cap1 := hd 1 18 rfl (by kernel_rfl) _ rfl
    have hbl := bel_kp0 (w1 := w1) HB1.out HB1.out.size ⟨hb.os, hb.tape, hb.output, hb.size, hb.block⟩
    unfold Oper.wp
    simp [execOp, e1, go_sem, Result.andThen]
    refine (cut12_c l o1 cap1 w' (SetsS.past HSet.out hbl)).mono ?_
    rintro e4 w4 ⟨⟨rfl, _⟩, rfl⟩
    rw [HN.out]
    exact hK _ (factV_mk rfl rfl)
  case s3 =>
    intro A' w' val K' hb hfar hd hs hK
    have e1 := (hd 0 17 rfl (by kernel_rfl)).2
    have e2 : A'.tmps[19]?.getD undef = .slice o1 n cap1 := (hd 2 19 rfl (by kernel_rfl)).1 _ rfl
    have hbl := bel_kp0 (w1 := w1) HB1.out HB1.out.size ⟨hb.os, hb.tape, hb.output, hb.size, hb.block⟩
    have hsp := HSp.out w' hbl
    refine wp_append_any w' _ _ 22 rfl w1.heap.size 23 i1 _ 1 24 Try.underlying22 hi1 hy0 hy1 hy2 rfl (by decide) (val 0) 0 [] ((evQ _ _).trans e1) hs (.slice o1 n cap1) n news ((evQ _ _).trans e2) hsp (by unfold maxLen; omega) (by omega) hb.size fun v4 w4 ho4 hg4 _ => ?_
    rw [Nat.zero_add, List.nil_append] at ho4
    refine hK v4 w4 (hb.grown hg4 (fun b e => .inl (hs.lt b e).1)) (factV_mk rfl trivial) (by
      show w4.ownsRow w1.heap.size 23 1 (updV val 3 v4 3) n news
      rw [updV_same]; exact ho4)
  case s4 =>
    intro A' w' val K' hb hfar hd hs hK
    have e2 := (hd 3 20 rfl (by kernel_rfl)).2
    unfold Oper.wp
    simp [execOp, e2, go_sem, Result.andThen]
    exact hK _ _ hb (factV_mk rfl trivial) ⟨by rw [updV_other _ _ (by decide)]; exact hs, by rw [updV_same, updV_other _ _ (by decide)]⟩
  case fin =>
    intro val w4 hF hb hs
    obtain ⟨ho4, hv4⟩ := hs
    have HB4 := Lib.hid (bel_kp0 (w1 := w1) HB1.out HB1.out.size ⟨hb.os, hb.tape, hb.output, hb.size, hb.block⟩)
    have HT : Hid (TuI w w1.heap.size M (val 3) news w4) := Lib.hid ⟨by rw [HNM.out]; exact ho4, HNews.out, HB4.out⟩
    simp only [slotsCp, putsA, Nat.zero_add, Nat.reduceAdd]
    have v1 := hF 1 18 rfl _ rfl
    have v2 := hF 2 19 rfl _ rfl
    simp only [v1, v2, hv4]
    obtain ⟨x0, hx0⟩ : ∃ x, val 0 = x := ⟨_, rfl⟩
    obtain ⟨uv, huv⟩ : ∃ x, val 3 = x := ⟨_, rfl⟩
    rw [huv] at HT
    rw [hx0, huv]
    clear v1 v2 hF hb ho4 hv4 hx0 huv
    go_simp
    go_wp2_with fail
    go_loopw [6] (fun iv wr => ∃ (k : Nat) (l' : List (List Int)) (xs : List Value), k ≤ n ∧ iv = .int .i64 (k : Int) ∧ Hid (l'.length = n) ∧ Hid (TuI w w1.heap.size l' uv xs wr)) (fun iv _ => n - (intOf iv).toNat)
    case atStart => exact ⟨0, M, news, Nat.zero_le _, rfl, HNM, HT⟩
    case round =>
      obtain ⟨k, l', xs, hk, rfl, HLn, HI⟩ := hrel
      obtain ⟨ou, cu, euv, hcu, hmu, _⟩ := SlOf.open HI.out.sets
      rw [HLn.out] at euv hcu
      subst euv
      by_cases hlt : k < n
      · have hlt' : (k : Int) < (n : Int) := by omega
        have hk0 : (0 : Int) ≤ (k : Int) := by omega
        have HO : Hid (wr.ownsRow w1.heap.size 23 1 (.slice ou n cu) n xs) := Lib.hid (by have h1 := HI.out.own; rwa [HLn.out] at h1)
        obtain ⟨g, cg, eg, hgb⟩ := own_form HO.out (by omega)
        injection eg with eo _ ec
        subst eo; subst ec
        obtain ⟨s, hs⟩ : ∃ s, l'[k]? = some s := ⟨l'[k]'(by rw [HLn.out]; omega), List.getElem?_eq_getElem _⟩
        obtain ⟨v, hv⟩ : ∃ v, xs[k]? = some v := ⟨xs[k]'(by rw [HI.out.len, HLn.out]; omega), List.getElem?_eq_getElem _⟩
        have hsv := HI.out.set k s v hs hv
        have Hcut := Lib.hid (fun os cps (e : v = .slice os s.length cps) => SlOf.cutR (n := 10) (o := os) (c := cps) (by rw [← e]; exact hsv))
        obtain ⟨os, cps, rfl, hcs, hms, _⟩ := SlOf.open hsv
        have Hcut2 := Lib.hid (Hcut.out os cps rfl)
        have c0 : wr.cell? ⟨g, k, none⟩ = some (.slice os s.length cps) := (HO.out.cellAt k (by omega)).trans hv
        have hf0 : wr.frozen? ⟨g, k, none⟩ = false := HO.out.frozenAt k
        have hgl : g < wr.heap.size := (HO.out.lt g rfl).2
        obtain ⟨p, hp⟩ : ∃ p, (s.take 10).length = p := ⟨_, rfl⟩
        have hmin : (if (10 : Int) < (s.length : Int) then (10 : Int) else (s.length : Int)) = (p : Int) := by
          rw [← hp, List.length_take]
          split <;> omega
        have hpc : (p : Int) ≤ (cps : Int) := by rw [← hp, List.length_take]; omega
        have hp0 : (0 : Int) ≤ (p : Int) := by omega
        have HI2 := Lib.hid (HI.out.put (k := k) (s := s.take 10) (v := .slice os p cps) HLn.out (by omega) HB1.out.size (by have h1 := Hcut2.out; rwa [hp] at h1))
        clear Hcut Hcut2 hsv hs hv hp
        go_wp2_with fail
        go_still_tail 14, (by kernel_rfl)
        go_wp2
        go_roundw
        case rel => exact ⟨k + 1, l'.set k (s.take 10), _, hlt, by go_num, Lib.hid (by rw [List.length_set]; exact HLn.out), Lib.hid (HI2.out.past (Below.refl _ _).drew)⟩
        case measure => simp [intOf]; omega
      · have hlt' : ¬ (k : Int) < (n : Int) := by omega
        obtain rfl : k = n := by omega
        have HQ : Hid (SetsS wr wr.heap.size l' (.slice ou k cu)) := Lib.hid HI.out.sets
        have HX := Lib.hid (HL2.out l' (.slice ou k cu) wr HQ.out)
        go_wp2_with fail
        refine HX.out.mono ?_
        rintro e w6 ⟨hR, hb6⟩
        have HB6 := Lib.hid (HI.out.b.trans (hb6.mono HI.out.b.size))
        have HX2 := Lib.hid (HL.out l' (.slice ou k cu) w6 (SetsS.past HQ.out hb6))
        have HQ6 : Hid (SetsS w6 w6.heap.size l' (.slice ou k cu)) := Lib.hid (SetsS.past HQ.out hb6)
        clear hb6 HX
        rcases hR with ⟨hr, rfl⟩ | ⟨a, hr, rfl, ha⟩
        · have Hr := Lib.hid hr
          clear hr
          go_wp2_with fail
          refine HX2.out.mono ?_
          rintro e w7 ⟨hR2, hb7⟩
          have HB7 := Lib.hid (HB6.out.trans (hb7.mono HB6.out.size))
          clear hb7 HX2
          rcases hR2 with ⟨_, rfl⟩ | ⟨r, os, hr2, _⟩
          · go_wp2
            go_ret
            exact ⟨rfl, HB7.out⟩
          · rw [Hr.out] at hr2; cases hr2
        · have Hr := Lib.hid hr
          have Ha := Lib.hid ha
          clear hr ha
          go_wp2_with fail
          refine HX2.out.mono ?_
          rintro e w7 ⟨hR2, hb7⟩
          have HB7 := Lib.hid (HB6.out.trans (hb7.mono HB6.out.size))
          have HQ7 : Hid (SetsS w7 w7.heap.size l' (.slice ou k cu)) := Lib.hid (SetsS.past HQ6.out hb7)
          clear hb7 HX2
          rcases hR2 with ⟨hr2, rfl⟩ | ⟨r, os, _, rfl, hos, hln, hwh, hsv⟩
          · rw [Hr.out] at hr2; cases hr2
          · have hla : a = os.length := by
              rcases Ha.out with ⟨e1, e2⟩ | ⟨e1, e2⟩ <;> rcases hln with ⟨f1, f2⟩ | ⟨f1, f2⟩
              · rw [e2, f2]
              · exact absurd e1 f1
              · exact absurd f1 e1
              · exact least_one e2 f2
            have h18 := (rightS_iff.1 Hr.out).1
            obtain ⟨cc, hcc⟩ := Int.eq_ofNat_of_zero_le (show 0 ≤ c by omega)
            have hcc8 : cc ≤ 8 := by omega
            have ecc : c.toNat = cc := by omega
            rw [ecc] at hwh
            obtain ⟨o5, cap5, rfl, hc5, hm5, _⟩ := SlOf.open hos
            have HW := Lib.hid (whole12_c cc os _ w7 hcc8 hos)
            rw [hwh] at HW
            have HOs := Lib.hid hos
            have HSv : Hid (∀ s ∈ l', s.length ≤ 8 ∧ ∃ q, whichL os s = some q) := Lib.hid (fun s hs => by
              refine ⟨?_, which_some (hsv s hs)⟩
              obtain ⟨i, hi⟩ := List.mem_iff_getElem?.1 hs
              have hok := ((rightS_iff.1 Hr.out).2 i s (List.getElem?_eq_some_iff.1 hi).1 hi).1
              have h0 := setOk_nn hok
              have := rise_len h0.2 h0.1
              omega)
            subst hcc; subst hla
            clear hos hln hwh hsv h18 ecc
            go_wp2_with fail
            refine HW.out.mono ?_
            rintro e w8 ⟨rfl, hb8⟩
            have HB8 := Lib.hid (HB7.out.trans (hb8.mono HB7.out.size))
            have HQ8 : Hid (SetsS w8 w8.heap.size l' (.slice ou k cu)) := Lib.hid (SetsS.past HQ7.out hb8)
            have HO8 : Hid (SetsS w8 w8.heap.size os (.slice o5 os.length cap5)) := Lib.hid (SetsS.past HOs.out hb8)
            obtain ⟨ou2, cu2, eu2, _, _, S8⟩ := SlOf.open HQ8.out
            rw [HLn.out] at eu2
            injection eu2 with eu3 _ eu4
            subst eu3; subst eu4
            clear hb8 HW
            go_wp2_with fail
            go_loopw [11] (fun iv wr => ∃ (j : Nat), j ≤ k ∧ iv = .int .i64 (j : Int) ∧ Hid (Below w8.heap.size w8 wr)) (fun iv _ => k - (intOf iv).toNat)
            case atStart => exact ⟨0, Nat.zero_le _, rfl, Lib.hid (Below.refl _ _)⟩
            case round =>
              obtain ⟨j, hj, rfl, HBj⟩ := hrel
              by_cases hlt3 : j < k
              · have hlt4 : (j : Int) < (k : Int) := by omega
                have hj0 : (0 : Int) ≤ (j : Int) := by omega
                obtain ⟨s, hs⟩ : ∃ s, l'[j]? = some s := ⟨l'[j]'(by rw [HLn.out]; omega), List.getElem?_eq_getElem _⟩
                obtain ⟨hs8, q, hq⟩ := HSv.out s (List.mem_of_getElem? hs)
                obtain ⟨a9, o9, c9, e9, ha9, hX9, c0⟩ := set_at S8 HBj.out hs
                subst e9
                have hbl9 : a9.block < wr.heap.size := Nat.lt_of_lt_of_le ha9 HBj.out.size
                have HWh := Lib.hid (which_c os s (.slice o5 os.length cap5) (.slice o9 s.length c9) wr (by omega) (SetsS.past HO8.out HBj.out) hX9)
                have HX9 := Lib.hid hX9
                rw [hq] at HWh
                have Hs := Lib.hid hs
                have Hq := Lib.hid hq
                clear hs hX9 hq
                go_wp2_with fail
                refine HWh.out.mono ?_
                rintro e w9 ⟨rfl, hb9⟩
                unfold whichV
                have HB9 := Lib.hid (HBj.out.trans (hb9.mono HBj.out.size))
                have c1 : w9.cell? (a9.add j) = some (.slice o9 s.length c9) := (hb9.cell (by rw [addBlock]; exact hbl9)).trans c0
                have hbl10 : a9.block < w9.heap.size := Nat.lt_of_lt_of_le hbl9 hb9.size
                have HWi := Lib.hid (which12_c os s (.slice o5 os.length cap5) (.slice o9 s.length c9) w9 (SetsS.past HO8.out HB9.out) (SlOf.int HX9.out hb9 hb9.size))
                rw [Hq.out] at HWi
                clear hb9 HWh c0
                go_wp2_with fail
                refine HWi.out.mono ?_
                rintro e w10 ⟨rfl, rfl⟩
                clear HWi
                unfold whichV
                go_wp2
                go_roundw
                case rel => exact ⟨j + 1, hlt3, by go_num, HB9⟩
                case measure => simp [intOf]; omega
              · have hlt4 : ¬ (j : Int) < (k : Int) := by omega
                obtain rfl : j = k := by omega
                go_wp2
                go_ret
                exact ⟨rfl, HB8.out.trans (HBj.out.mono HB8.out.size)⟩
end Go.Proofs.Ytiljpacmkmmlcaa
