/- soriteslaw12.CoverChain. -/
import Derived.Test.YtiljpacmkmmlcaaXc
import Derived.Test.YtiljpacmkmmlcaaCv6
import Derived.StillTailTactics
set_option linter.unusedSimpArgs false
set_option linter.unusedVariables false
namespace Go.Proofs.Ytiljpacmkmmlcaa
open Go.RowKit

set_option linter.unusedVariables false in
set_option linter.unusedSimpArgs false in
set_option maxRecDepth 100000 in
set_option maxHeartbeats 16000000 in
theorem coverChain_c (c : Int) (l : List Int) (v : Value) (w : World) (hc : -9223372036854775808 ≤ c ∧ c ≤ 9223372036854775807) (h : SlOf w w.heap.size 1 IntC l v) :
    Calls Try.prog 8 #[.int .i64 c, v] w fun e w' => e = .returned (.bool true) ∧ Below w.heap.size w w' := by
  obtain ⟨i0, hi, hz0, hz1, hz2⟩ := info_parts infoI
  obtain ⟨i1, hi1, hy0, hy1, hy2⟩ := info_parts infoR
  obtain ⟨y2, hz, hw0, hw1, hw2⟩ : ∃ y, Try.prog.info? 4 = some y ∧ y.zero = some (.bool false) ∧ y.size = 1 ∧ y.bytes ≤ 8 := ⟨_, rfl, rfl, rfl, by decide⟩
  have HSh := Lib.hid (shown12_c w)
  have HL := Lib.hid (fun (l : List (List Int)) (v : Value) (W : World) => least_c c l v W)
  have HO := Lib.hid (fun (l : List (List Int)) (v : Value) (W : World) => orders_c c l v W)
  obtain ⟨o1, cap1, rfl, hc1, hm1, S1⟩ := SlOf.open h
  clear h
  go_enter Try.func8, Try.ntmps8
  go_wp2_with fail
  refine HSh.out.mono ?_
  rintro e w1 ⟨rfl, hb⟩
  have HB1 := Lib.hid hb
  clear hb HSh
  by_cases hc0 : c < 1
  · go_wp2
    go_ret
    exact ⟨rfl, HB1.out⟩
  · by_cases hc8 : c > 8
    · go_wp2
      go_ret
      exact ⟨rfl, HB1.out⟩
    · obtain ⟨cc, hcc⟩ := Int.eq_ofNat_of_zero_le (show 0 ≤ c by omega)
      subst hcc
      have hcc1 : 1 ≤ cc := by omega
      have hcc8 : cc ≤ 8 := by omega
      have hc1' : (1 : Int) ≤ (cc : Int) := by omega
      have hc8' : (cc : Int) ≤ 8 := by omega
      have Kb2 : Hid (y2.bytes * cc ≤ 281474976710656) := Lib.hid (by have := Nat.mul_le_mul hw2 hcc8; omega)
      have Km : Hid (cc ≤ maxLen) := Lib.hid (by unfold maxLen; omega)
      obtain ⟨bm, hbm⟩ : ∃ b, w1.heap.size = b := ⟨_, rfl⟩
      have Hbm := Lib.hid hbm
      have hwb : w.heap.size ≤ bm := by rw [← hbm]; exact HB1.out.size
      clear hbm
      go_wp2_with (first | (at_make; refine wpList_make_full _ rfl _ _ 38 rfl bm 4 y2 _ 1 Try.underlying38 hz hw0 hw1 .i64 .i64 _ _ cc rfl rfl rfl rfl Kb2.out Km.out (by rw [Hbm.out]; exact Nat.le_refl _) ?_; rw [Hbm.out]; intro w2 hown hg; have O2 := Lib.hid hown; have G2 := Lib.hid hg; clear hown hg))
      have HI0 : Hid (ChI w cc bm (fun _ => false) [] 0 (.slice none 0 0) [] w2) := Lib.hid (by
        refine ⟨?_, OrS.nil _ _, HB1.out.grown G2.out HB1.out.size (fun q hq => by cases hq), ChP.nil _ _, Nat.zero_le _⟩
        have h1 := O2.out
        rw [Nat.mul_one] at h1
        have h2 : (madeCells (Value.bool false).cells cc).toList = metCells (fun _ => false) cc := (toList_madeCells_one _ _).trans (met_none _)
        rw [h2] at h1
        exact row_of_own h1)
      clear O2 G2
      go_loopw [6, 8] (fun av iv wr => ∃ (k : Nat) (m : Nat → Bool) (ss : List (List Int)) (sv : Value) (us : List Value), k ≤ l.length ∧ k ≤ 8 ∧ iv = .int .i64 (k : Int) ∧ sv = av ∧ Hid (ChI w cc bm m ss k sv us wr)) (fun _ iv _ => 8 - (intOf iv).toNat)
      case atStart => exact ⟨0, _, _, _, _, Nat.zero_le _, Nat.zero_le _, rfl, rfl, HI0⟩
      case round =>
        obtain ⟨k, m, ss, sv, us, hkl, hk8, rfl, rfl, HI⟩ := hrel
        rename World => W0
        by_cases hend : k < l.length ∧ k < 8
        · have hk1 : (k : Int) < (l.length : Int) := by omega
          have hk2 : (k : Int) < 8 := by omega
          have hk0 : (0 : Int) ≤ (k : Int) := by omega
          obtain ⟨x, hx⟩ : ∃ x, l[k]? = some x := ⟨l[k]'hend.1, List.getElem?_eq_getElem _⟩
          obtain ⟨a, rfl, ha, _, c0⟩ := int_at S1 HI.out.b hx
          have hal : a.block < W0.heap.size := Nat.lt_of_lt_of_le ha HI.out.b.size
          have HSkip : Hid (ChI w cc bm m ss (k + 1) sv us W0) := Lib.hid ⟨HI.out.met, HI.out.os, HI.out.b, HI.out.p, Nat.le_succ_of_le HI.out.n⟩
          by_cases hx0 : x < 0
          · go_wp2
            go_roundw
            case rel => exact ⟨k + 1, m, ss, sv, us, hend.1, hend.2, by go_num, rfl, HSkip⟩
            case measure => simp [intOf]; omega
          · by_cases hxc : x ≥ (cc : Int)
            · go_wp2
              go_roundw
              case rel => exact ⟨k + 1, m, ss, sv, us, hend.1, hend.2, by go_num, rfl, HSkip⟩
              case measure => simp [intOf]; omega
            · obtain ⟨q, rfl⟩ : ∃ q : Nat, x = (q : Int) := ⟨x.toNat, by omega⟩
              have hqc : q < cc := by omega
              have hq1 : (q : Int) < (cc : Int) := by omega
              have hq0 : (0 : Int) ≤ (q : Int) := by omega
              have m0 : W0.cell? ⟨bm, q, none⟩ = some (.bool (m q)) := (row_cellsC HI.out.met q).trans (by rw [List.getElem?_toArray]; exact metCells_at _ hqc)
              have hbl : bm < W0.heap.size := (Array.getElem?_eq_some_iff.1 HI.out.met).1
              cases hm : m q with
              | true =>
                rw [hm] at m0
                clear hm
                go_wp2
                go_roundw
                case rel => exact ⟨k + 1, m, ss, sv, us, hend.1, hend.2, by go_num, rfl, HSkip⟩
                case measure => simp [intOf]; omega
              | false =>
                rw [hm] at m0
                have Hm := Lib.hid hm
                have hf2 := frz_rowC HI.out.met q
                obtain ⟨W1, hW1⟩ : ∃ W1, W0.setCell ⟨bm, q, none⟩ (.bool true) = W1 := ⟨_, rfl⟩
                have HW1 := Lib.hid hW1
                have hmet1 : W1.heap[bm]? = some (.cells (metCells (setB m q) cc).toArray 4 (0, 0)) := by
                  have h1 := set_rowC (i := q) HI.out.met (.bool true)
                  rw [metCells_set _ hqc, hW1] at h1
                  exact h1
                have Hmet1 := Lib.hid hmet1
                clear hm hmet1
                go_wp2_with fail
                try rw [hW1]
                clear hW1
                go_loopw [9, 10] (fun av jv wr => ∃ (j : Nat) (tv : Value), j ≤ cc ∧ jv = .int .i64 (j : Int) ∧ tv = av ∧ Hid (wr.ownsRow W1.heap.size 3 1 tv (metC (setB m q) j).length (ivL (metC (setB m q) j))) ∧ Hid (Below W1.heap.size W1 wr)) (fun _ jv _ => cc - (intOf jv).toNat)
                case atStart => exact ⟨0, _, Nat.zero_le _, rfl, rfl, Lib.hid (World.ownsRow_nil _ _ _ _), Lib.hid (Below.refl _ _)⟩
                case round =>
                  obtain ⟨j, tv, hj, rfl, rfl, HT, HBj⟩ := hrel
                  by_cases hjc : j < cc
                  · have hjc' : (j : Int) < (cc : Int) := by omega
                    have hj0 : (0 : Int) ≤ (j : Int) := by omega
                    have hmj := (HBj.out.block _ (Array.getElem?_eq_some_iff.1 Hmet1.out).1).trans Hmet1.out
                    have mj : wr.cell? ⟨bm, j, none⟩ = some (.bool (setB m q j)) := (row_cellsC hmj j).trans (by rw [List.getElem?_toArray]; exact metCells_at _ hjc)
                    have hblj : bm < wr.heap.size := (Array.getElem?_eq_some_iff.1 hmj).1
                    clear hmj
                    cases hs : setB m q j with
                    | false =>
                      rw [hs] at mj
                      have HT2 : Hid (wr.ownsRow W1.heap.size 3 1 tv (metC (setB m q) (j + 1)).length (ivL (metC (setB m q) (j + 1)))) := Lib.hid (by rw [metC_no hs]; exact HT.out)
                      clear hs
                      go_wp2
                      go_roundw
                      case rel => exact ⟨j + 1, tv, hjc, by go_num, rfl, HT2, HBj⟩
                      case measure => simp [intOf]; omega
                    | true =>
                      rw [hs] at mj
                      have Hs := Lib.hid hs
                      have hml := metC_len (setB m q) j
                      obtain ⟨p, hp⟩ : ∃ p, (metC (setB m q) j).length = p := ⟨_, rfl⟩
                      have Hp := Lib.hid hp
                      rw [hp] at HT hml
                      have HS1 : Hid (p + 1 ≤ maxLen) := Lib.hid (by unfold maxLen; omega)
                      have HS2 : Hid ((p + 1) * 8 ≤ 140737488355328) := Lib.hid (by omega)
                      have HS3 := Lib.hid HBj.out.size
                      clear hs hp
                      go_wp2_with (at_builtin; refine wpList_append_own _ rfl (.tmp 73) (.tmp 75) 23 rfl W1.heap.size 3 i0 _ 1 8 Try.underlying23 hi hz0 hz1 hz2 rfl (by decide) tv p _ rfl (HT.out.alloc _) _ 1 1 [.int .i64 (j : Int)] rfl rfl (news_new _ _ _ _ rfl) (fun u hu => by simp at hu; subst hu; rfl) HS1.out HS2.out (by have := HS3.out; simp; omega) ?_; intro v5 w5 hown' hgrow _; have HG5 := Lib.hid hgrow; have HO5 := Lib.hid hown'; clear hgrow hown')
                      have HB5 : Hid (Below W1.heap.size W1 w5) := Lib.hid (HBj.out.alloc HBj.out.size _ |>.grown HG5.out (by have := HS3.out; simp; omega) (fun b e => (HT.out.lt b e).1))
                      go_roundw
                      case rel =>
                        refine ⟨j + 1, v5, hjc, by go_num, rfl, Lib.hid ?_, HB5⟩
                        rw [metC_yes Hs.out, List.length_append, List.length_singleton, ivL_snoc, Hp.out]
                        exact HO5.out
                      case measure => simp [intOf]; omega
                  · have hjc' : ¬ (j : Int) < (cc : Int) := by omega
                    obtain rfl : j = cc := by omega
                    have hsl := HI.out.n
                    obtain ⟨p, hp⟩ : ∃ p, ss.length = p := ⟨_, rfl⟩
                    have Hp := Lib.hid hp
                    rw [hp] at hsl
                    have HB0 : Hid (Below w.heap.size w W1) := Lib.hid (by rw [← HW1.out]; exact HI.out.b.setCell (p := ⟨bm, q, none⟩) hwb _)
                    have HOw : Hid (wr.ownsRow w.heap.size 23 1 sv p us) := Lib.hid (by
                      have h1 := (HI.out.os.kept (grown_set W0 bm q (.bool true)) (fun j e => by
                        obtain rfl : bm = j := Option.some.inj e
                        exact ⟨_, _, HI.out.met, by decide⟩) (fun j e => by
                        obtain rfl : bm = j := Option.some.inj e
                        exact ⟨_, _, HI.out.met, by decide⟩)).own
                      rw [HW1.out, hp] at h1
                      exact own_past h1 HBj.out)
                    have HS1 : Hid (p + 1 ≤ maxLen) := Lib.hid (by unfold maxLen; omega)
                    have HS2 : Hid ((p + 1) * 24 ≤ 140737488355328) := Lib.hid (by omega)
                    have HS3 : Hid (w.heap.size ≤ wr.heap.size) := Lib.hid (Nat.le_trans HB0.out.size HBj.out.size)
                    obtain ⟨ro, rc, hrs⟩ : ∃ o c, tv = .slice o (metC (setB m q) j).length c := by
                      rcases HT.out.2 with ⟨e, h0⟩ | ⟨g, cap, cur, e, _⟩
                      · exact ⟨none, 0, by rw [e, h0]⟩
                      · exact ⟨_, _, e⟩
                    subst hrs
                    obtain ⟨nr, hnr⟩ : ∃ nr, (metC (setB m q) j).length = nr := ⟨_, rfl⟩
                    have HNr := Lib.hid hnr
                    rw [hnr] at HT
                    rw [hnr]
                    clear hp hnr
                    go_wp2_with (at_builtin; refine wpList_append_own _ rfl (.tmp 77) (.tmp 79) 22 rfl w.heap.size 23 i1 _ 1 24 Try.underlying22 hi1 hy0 hy1 hy2 rfl (by decide) sv p _ rfl (HOw.out.alloc _) _ 1 1 [.slice ro nr rc] rfl rfl (news_new _ _ _ _ rfl) (fun u hu => by simp at hu; subst hu; rfl) HS1.out HS2.out (by have := HS3.out; simp; omega) ?_; intro v5 w5 hown' hgrow _; have HG5 := Lib.hid hgrow; have HO5 := Lib.hid hown'; clear hgrow hown')
                    have HN : Hid (ChI w j bm (setB m q) (ss ++ [metC (setB m q) j]) (k + 1) v5 (us ++ [.slice ro nr rc]) w5) := Lib.hid (HI.out.more hwb hqc Hm.out HW1.out.symm (HBj.out.alloc HBj.out.size _) (own_past (by rw [HNr.out]; exact HT.out) ((Below.refl _ _).alloc (Nat.le_refl _) _)) HG5.out (by rw [Hp.out]; exact HO5.out))
                    go_roundw
                    case rel => exact ⟨k + 1, _, _, v5, _, hend.1, hend.2, by go_num, rfl, HN⟩
                    case measure => simp [intOf]; omega
        · have hI : Hid (SetsS W0 W0.heap.size ss sv) := Lib.hid (HI.out.os.sets fun o ho n hn => by
            have := (HI.out.p.ok o ho).2.2 n hn
            unfold I64
            omega)
          have hn60 : ss.length ≤ 60 := by have := HI.out.n; omega
          have HX := Lib.hid (HL.out ss sv W0 hI.out)
          have hs8 : ∀ s ∈ ss, s.length ≤ 1000000 := fun s hs => by
            have h1 := (HI.out.p.top s hs).2
            have h2 := metC_len m cc
            omega
          have HS8 := Lib.hid hs8
          have Hn60 := Lib.hid hn60
          clear hs8 hn60
          have key : (k : Int) < (l.length : Int) → ¬ (k : Int) < 8 := fun h1 h2 => hend ⟨by omega, by omega⟩
          by_cases hk1 : (k : Int) < (l.length : Int)
          · have hk2 := key hk1
            clear key hend
            go_wp2_with fail
            refine HX.out.mono ?_
            rintro e w6 ⟨hR, hb6⟩
            have HB6 := Lib.hid (HI.out.b.trans (hb6.mono HI.out.b.size))
            have HI6 : Hid (SetsS w6 w6.heap.size ss sv) := Lib.hid (SetsS.past hI.out hb6)
            have HX2 := Lib.hid (HO.out ss sv w6 HI6.out)
            obtain rfl := chain_least HI.out.p hcc1 hcc8 Hn60.out hR
            clear hb6 HX hR
            go_wp2_with fail
            refine HX2.out.mono ?_
            rintro e w7 ⟨hR, hb7⟩
            have HB7 := Lib.hid (HB6.out.trans (hb7.mono HB6.out.size))
            have HI7 : Hid (SetsS w7 w7.heap.size ss sv) := Lib.hid (SetsS.past HI6.out hb7)
            obtain ⟨r, o, rfl, hos, hwh, hsv⟩ := chain_orders HI.out.p hcc1 hcc8 Hn60.out hR
            have HOs := Lib.hid hos
            have HWh := Lib.hid hwh
            have HSv := Lib.hid hsv
            clear hb7 HX2 hR hwh hsv
            obtain ⟨o5, cap5, rfl, hc5, hm5, S5⟩ := SlOf.open hos
            clear hos
            have e51 : ([o] : List (List Int)).length = 1 := rfl
            rw [e51] at HOs hc5
            obtain ⟨ou, cu, rfl, hcu, hmu, S7⟩ := SlOf.open HI7.out
            obtain ⟨p, hp⟩ : ∃ p, ss.length = p := ⟨_, rfl⟩
            have Hp := Lib.hid hp
            rw [hp] at HI7 hcu
            rw [hp]
            clear hp
            go_wp2_with fail
            go_loopw [15] (fun iv wr => ∃ j : Nat, j ≤ p ∧ iv = .int .i64 (j : Int) ∧ Hid (Below w7.heap.size w7 wr)) (fun iv _ => p - (intOf iv).toNat)
            case atStart => exact ⟨0, Nat.zero_le _, rfl, Lib.hid (Below.refl _ _)⟩
            case round =>
              obtain ⟨j, hj, rfl, HBj⟩ := hrel
              by_cases hjp : j < p
              · have hjp' : (j : Int) < (p : Int) := by omega
                have hj0 : (0 : Int) ≤ (j : Int) := by omega
                obtain ⟨s, hs⟩ : ∃ s, ss[j]? = some s := ⟨ss[j]'(by rw [Hp.out]; exact hjp), List.getElem?_eq_getElem _⟩
                obtain ⟨a5, ao, ac, ea, ha5, hX5, d0⟩ := set_at S5 HBj.out (show ([o] : List (List Int))[0]? = some o from rfl)
                subst ea
                obtain ⟨a7, bo, bc, eb, ha7, hX7, d1⟩ := set_at S7 HBj.out hs
                subst eb
                have hadd : a5.add 0 = a5 := by unfold Addr.add; simp
                rw [hadd] at d0
                have hbl5 : a5.block < wr.heap.size := Nat.lt_of_lt_of_le ha5 HBj.out.size
                have hbl7 : a7.block < wr.heap.size := Nat.lt_of_lt_of_le ha7 HBj.out.size
                have HSe := Lib.hid (serves_c o s (.slice ao o.length ac) (.slice bo s.length bc) wr.drew (HS8.out s (List.mem_of_getElem? hs)) (SlOf.int hX5 (Below.refl _ _).drew (Nat.le_refl _)) (SlOf.int hX7 (Below.refl _ _).drew (Nat.le_refl _)))
                rw [HSv.out s (List.mem_of_getElem? hs)] at HSe
                clear hs hX5 hX7 hadd
                go_wp2_with fail
                go_still_tail 7, (by kernel_rfl)
                go_wp2_with fail
                refine HSe.out.mono ?_
                rintro e w8 ⟨rfl, hb8⟩
                have HB8 : Hid (Below w7.heap.size w7 w8) := Lib.hid (HBj.out.drew.trans (hb8.mono HBj.out.size))
                clear hb8 HSe
                go_wp2
                go_roundw
                case rel => exact ⟨j + 1, hjp, by go_num, HB8⟩
                case measure => simp [intOf]; omega
              · have hjp' : ¬ (j : Int) < (p : Int) := by omega
                obtain rfl : j = p := by omega
                have HWx := Lib.hid (whole12_c cc [o] (.slice o5 1 cap5) wr hcc8 (SetsS.past HOs.out HBj.out))
                rw [HWh.out] at HWx
                go_wp2_with fail
                refine HWx.out.mono ?_
                rintro e w9 ⟨rfl, hb9⟩
                have HB9 := Lib.hid (HB7.out.trans ((HBj.out.trans (hb9.mono HBj.out.size)).mono HB7.out.size))
                clear hb9 HWx
                go_wp2
                go_ret
                exact ⟨rfl, HB9.out⟩
          · clear key hend
            go_wp2_with fail
            refine HX.out.mono ?_
            rintro e w6 ⟨hR, hb6⟩
            have HB6 := Lib.hid (HI.out.b.trans (hb6.mono HI.out.b.size))
            have HI6 : Hid (SetsS w6 w6.heap.size ss sv) := Lib.hid (SetsS.past hI.out hb6)
            have HX2 := Lib.hid (HO.out ss sv w6 HI6.out)
            obtain rfl := chain_least HI.out.p hcc1 hcc8 Hn60.out hR
            clear hb6 HX hR
            go_wp2_with fail
            refine HX2.out.mono ?_
            rintro e w7 ⟨hR, hb7⟩
            have HB7 := Lib.hid (HB6.out.trans (hb7.mono HB6.out.size))
            have HI7 : Hid (SetsS w7 w7.heap.size ss sv) := Lib.hid (SetsS.past HI6.out hb7)
            obtain ⟨r, o, rfl, hos, hwh, hsv⟩ := chain_orders HI.out.p hcc1 hcc8 Hn60.out hR
            have HOs := Lib.hid hos
            have HWh := Lib.hid hwh
            have HSv := Lib.hid hsv
            clear hb7 HX2 hR hwh hsv
            obtain ⟨o5, cap5, rfl, hc5, hm5, S5⟩ := SlOf.open hos
            clear hos
            have e51 : ([o] : List (List Int)).length = 1 := rfl
            rw [e51] at HOs hc5
            obtain ⟨ou, cu, rfl, hcu, hmu, S7⟩ := SlOf.open HI7.out
            obtain ⟨p, hp⟩ : ∃ p, ss.length = p := ⟨_, rfl⟩
            have Hp := Lib.hid hp
            rw [hp] at HI7 hcu
            rw [hp]
            clear hp
            go_wp2_with fail
            go_loopw [15] (fun iv wr => ∃ j : Nat, j ≤ p ∧ iv = .int .i64 (j : Int) ∧ Hid (Below w7.heap.size w7 wr)) (fun iv _ => p - (intOf iv).toNat)
            case atStart => exact ⟨0, Nat.zero_le _, rfl, Lib.hid (Below.refl _ _)⟩
            case round =>
              obtain ⟨j, hj, rfl, HBj⟩ := hrel
              by_cases hjp : j < p
              · have hjp' : (j : Int) < (p : Int) := by omega
                have hj0 : (0 : Int) ≤ (j : Int) := by omega
                obtain ⟨s, hs⟩ : ∃ s, ss[j]? = some s := ⟨ss[j]'(by rw [Hp.out]; exact hjp), List.getElem?_eq_getElem _⟩
                obtain ⟨a5, ao, ac, ea, ha5, hX5, d0⟩ := set_at S5 HBj.out (show ([o] : List (List Int))[0]? = some o from rfl)
                subst ea
                obtain ⟨a7, bo, bc, eb, ha7, hX7, d1⟩ := set_at S7 HBj.out hs
                subst eb
                have hadd : a5.add 0 = a5 := by unfold Addr.add; simp
                rw [hadd] at d0
                have hbl5 : a5.block < wr.heap.size := Nat.lt_of_lt_of_le ha5 HBj.out.size
                have hbl7 : a7.block < wr.heap.size := Nat.lt_of_lt_of_le ha7 HBj.out.size
                have HSe := Lib.hid (serves_c o s (.slice ao o.length ac) (.slice bo s.length bc) wr.drew (HS8.out s (List.mem_of_getElem? hs)) (SlOf.int hX5 (Below.refl _ _).drew (Nat.le_refl _)) (SlOf.int hX7 (Below.refl _ _).drew (Nat.le_refl _)))
                rw [HSv.out s (List.mem_of_getElem? hs)] at HSe
                clear hs hX5 hX7 hadd
                go_wp2_with fail
                go_still_tail 7, (by kernel_rfl)
                go_wp2_with fail
                refine HSe.out.mono ?_
                rintro e w8 ⟨rfl, hb8⟩
                have HB8 : Hid (Below w7.heap.size w7 w8) := Lib.hid (HBj.out.drew.trans (hb8.mono HBj.out.size))
                clear hb8 HSe
                go_wp2
                go_roundw
                case rel => exact ⟨j + 1, hjp, by go_num, HB8⟩
                case measure => simp [intOf]; omega
              · have hjp' : ¬ (j : Int) < (p : Int) := by omega
                obtain rfl : j = p := by omega
                have HWx := Lib.hid (whole12_c cc [o] (.slice o5 1 cap5) wr hcc8 (SetsS.past HOs.out HBj.out))
                rw [HWh.out] at HWx
                go_wp2_with fail
                refine HWx.out.mono ?_
                rintro e w9 ⟨rfl, hb9⟩
                have HB9 := Lib.hid (HB7.out.trans ((HBj.out.trans (hb9.mono HBj.out.size)).mono HB7.out.size))
                clear hb9 HWx
                go_wp2
                go_ret
                exact ⟨rfl, HB9.out⟩
end Go.Proofs.Ytiljpacmkmmlcaa
