/- cover.Orders: the walk. -/
import Derived.Test.YtiljpacmkmmlcaaWq
set_option linter.unusedSimpArgs false
set_option linter.unusedVariables false
namespace Go.Proofs.Ytiljpacmkmmlcaa
open Go.RowKit

set_option linter.unusedVariables false in
set_option maxRecDepth 100000 in
set_option maxHeartbeats 8000000 in
theorem orders_c (c : Int) (l : List (List Int)) (v : Value) (w : World) (h : SetsS w w.heap.size l v) :
    Calls Try.prog 18 #[.int .i64 c, v] w fun e w' => OrdersR c l e w' ∧ Below w.heap.size w w' := by
  obtain ⟨i1, hi1, hy0, hy1, hy2⟩ := info_parts infoR
  have HA := Lib.hid (asColumns_c c l v w h)
  obtain ⟨o1, cap1, rfl, hc1, hm1, S1⟩ := SlOf.open h
  clear h
  cases hr : rightS c l with
  | false =>
    have Hr := Lib.hid hr
    clear hr
    go_enter Try.func18, Try.ntmps18
    go_wp2_with fail
    refine HA.out.mono ?_
    rintro e w1 ⟨hR, hb1⟩
    have HB1 := Lib.hid hb1
    clear hb1
    rcases hR with ⟨_, rfl⟩ | ⟨u, hr', _⟩
    · go_wp2
      go_ret2
      exact ⟨.inl ⟨Hr.out, rfl⟩, HB1.out⟩
    · rw [Hr.out] at hr'; cases hr'
  | true =>
    have Hr := Lib.hid hr
    have h18 := (rightS_iff.1 hr).1
    obtain ⟨cc, rfl⟩ := Int.eq_ofNat_of_zero_le (show 0 ≤ c by omega)
    have hcc1 : 1 ≤ cc := by omega
    have hcc8 : cc ≤ 8 := by omega
    clear hr h18
    go_enter Try.func18, Try.ntmps18
    go_wp2_with fail
    refine HA.out.mono ?_
    rintro e w1 ⟨hR, hb1⟩
    have HB1 := Lib.hid hb1
    clear hb1
    rcases hR with ⟨hr', rfl⟩ | ⟨u, hr', rfl, hown, h256⟩
    · rw [Hr.out] at hr'; cases hr'
    · have hms : w1.ownsRow w.heap.size 54 1 u (l.map maskL).length (mvL (l.map maskL)) := by rw [List.length_map]; exact hown
      have HC := Lib.hid (chainsOf_c (l.map maskL) u w1 (rs_60 hr') (masks_nodup hr') h256 (ms_of_own hms h256))
      have H256 := Lib.hid h256
      clear hr' hown h256 hms
      go_wp2_with fail
      refine HC.out.mono ?_
      rintro e w2 ⟨⟨cv, vs, cs, rfl, hch, hcs⟩, hb2⟩
      have HCs := Lib.hid hcs
      have HB2 := Lib.hid (HB1.out.trans (hb2.mono HB1.out.size))
      have HSep := Lib.hid hch.sep
      have hvl := hch.len
      have hcsn : cs.length ≤ 60 := by
        rcases hcs.n with ⟨_, h⟩ | ⟨h0, h⟩
        · omega
        · have h1 := least_le h (fun i hi => by have := below_lt hi; omega)
          have h2 := rs_60 Hr.out
          omega
      have HCl : Hid (∀ ch ∈ cs, ch.length ≤ 1000 ∧ ∀ m ∈ ch, m < 256) := Lib.hid (fun ch hc => by
        have hm : ∀ m ∈ ch, m < 256 := fun m hm => H256.out m (hcs.sub ch hc m hm)
        refine ⟨?_, hm⟩
        have hnd : ch.Nodup := by
          rw [List.nodup_iff_pairwise_ne]
          exact List.Pairwise.imp (fun hab e => by have := below_lt hab; omega) (hcs.up ch hc)
        have := nsub_len (m := List.range 256) hnd fun x hx => List.mem_range.2 (hm x hx)
        rw [List.length_range] at this
        omega)
      have HI0 : Hid (OsI w cc cv vs cs 0 (.slice none 0 0) [] w2) := Lib.hid (by
        refine ⟨OrS.nil _ _, ?_, fun i v c _ h1 h2 => ?_, HB2.out⟩
        · exact ⟨hch.own.1, hch.own.2.imp id fun ⟨g, cap, cur, a1, a2, a3⟩ => ⟨g, cap, cur, a1, Nat.le_trans HB1.out.size a2, a3⟩⟩
        · have := hch.row i v c h1 h2
          exact ⟨this.1, this.2.imp id fun ⟨g, cap, cur, a1, a2, a3⟩ => ⟨g, cap, cur, a1, Nat.le_trans HB1.out.size a2, a3⟩⟩)
      have hcpos : 0 < cs.length := by
        rcases hcs.n with ⟨_, h⟩ | ⟨h0, h⟩
        · omega
        · exact least_pos (List.length_pos_iff.2 h0) h
      obtain ⟨gc, capc, hcv, hgc⟩ := own_form HI0.out.cv hcpos
      subst hcv
      clear hch hcs hb2 HC
      go_wp2_with fail
      go_loopw [8, 22] (fun av iv wr => ∃ (k : Nat) (ov : Value) (us : List Value), k ≤ cs.length ∧ iv = .int .i64 (k : Int) ∧ ov = av ∧ Hid (OsI w cc (.slice (some ⟨gc, 0, none⟩) cs.length capc) vs cs k ov us wr)) (fun _ iv _ => cs.length - (intOf iv).toNat)
      case atStart => exact ⟨0, _, _, Nat.zero_le _, rfl, rfl, HI0⟩
      case round =>
        obtain ⟨k, ov, us, hk, rfl, rfl, HI⟩ := hrel
        by_cases hlt : k < cs.length
        · have hlt' : (k : Int) < (cs.length : Int) := by omega
          have hk0 : (0 : Int) ≤ (k : Int) := by omega
          obtain ⟨ch, hch⟩ : ∃ ch, cs[k]? = some ch := ⟨cs[k], List.getElem?_eq_getElem hlt⟩
          obtain ⟨cu, hcu⟩ : ∃ cu, vs[k]? = some cu := ⟨vs[k]'(by omega), List.getElem?_eq_getElem _⟩
          have c0 : wr.cell? ⟨gc, k, none⟩ = some cu := by
            have := HI.out.cv.cells (g := gc) rfl k _ hcu
            rw [add_none, Nat.zero_add] at this
            exact this
          have hgl := World.block_lt_of_cell? _ _ c0
          obtain ⟨hl1000, hm256⟩ := HCl.out ch (List.mem_of_getElem? hch)
          have HO := Lib.hid (orderOf_c cc w.heap.size ch cu wr hcc1 hcc8 hl1000 hm256 HI.out.b.size (HI.out.row k cu ch (Nat.le_refl _) hcu hch))
          have Hch := Lib.hid hch
          have Hcu := Lib.hid hcu
          have HOrow := Lib.hid (HI.out.row k cu ch (Nat.le_refl _) hcu hch)
          have htk : ((cs.take k).map (orderF cc)).length = k := by rw [List.length_map, List.length_take]; omega
          have HTK := Lib.hid htk
          have HS1 : Hid (k + 1 ≤ maxLen) := Lib.hid (by unfold maxLen; omega)
          have HS2 : Hid ((k + 1) * 24 ≤ 140737488355328) := Lib.hid (by omega)
          clear hch hcu hm256 htk
          go_wp2_with fail
          refine HO.out.mono ?_
          rintro e w3 ⟨⟨r, rfl, hro⟩, hg⟩
          have HRo := Lib.hid hro
          have HG := Lib.hid hg
          obtain ⟨ro, rc, hrs⟩ : ∃ o c, r = .slice o (orderF cc ch).length c := by
            rcases hro.2 with ⟨e, h0⟩ | ⟨g, cap, cur, e, _⟩
            · exact ⟨none, 0, by rw [e, h0]⟩
            · exact ⟨_, _, e⟩
          subst hrs
          have HOv : Hid (w3.ownsRow w.heap.size 23 1 ov k us) := Lib.hid (by
            have h1 := (HI.out.os.kept hg (own_row HOrow.out (by decide)) (own_row HOrow.out (by decide))).own
            rwa [HTK.out] at h1)
          have HS3 : Hid (w.heap.size ≤ w3.heap.size) := Lib.hid (Nat.le_trans HI.out.b.size hg.size)
          obtain ⟨nr, hnr⟩ : ∃ nr, (orderF cc ch).length = nr := ⟨_, rfl⟩
          have HNr := Lib.hid hnr
          rw [hnr] at HRo
          clear hro hg HO
          rw [hnr]
          clear hnr
          go_wp2_with (at_builtin; refine wpList_append_own _ rfl (.tmp 26) (.tmp 30) 22 rfl w.heap.size 23 i1 _ 1 24 Try.underlying22 hi1 hy0 hy1 hy2 rfl (by decide) ov k _ rfl (HOv.out.alloc _) _ 1 1 [.slice ro nr rc] rfl rfl (news_new _ _ _ _ rfl) (fun u hu => by simp at hu; subst hu; rfl) HS1.out HS2.out (by have := HS3.out; simp; omega) ?_; intro v5 w5 hown' hgrow _; have HG5 := Lib.hid hgrow; have HO5 := Lib.hid hown'; clear hgrow hown')
          have HN : Hid (OsI w cc (.slice (some ⟨gc, 0, none⟩) cs.length capc) vs cs (k + 1) v5 (us ++ [.slice ro nr rc]) w5) := Lib.hid (HI.out.step HSep.out Hcu.out Hch.out HG.out (by rw [HNr.out]; exact HRo.out) ((Below.refl _ w3).alloc (Nat.le_refl _) _) HG5.out (by rw [HTK.out]; exact HO5.out))
          go_roundw
          case rel => exact ⟨k + 1, _, _, hlt, by go_num, rfl, HN⟩
          case measure => simp [intOf]; omega
        · have hlt' : ¬ (k : Int) < (cs.length : Int) := by omega
          obtain rfl : k = cs.length := by omega
          go_wp2
          go_ret2
          obtain ⟨m1, m2, m3, m4⟩ := orders_math Hr.out HCs.out
          have e1 : ((cc : Int)).toNat = cc := Int.toNat_natCast cc
          rw [e1] at m1 m2 m3 m4
          have hos := HI.out.os
          rw [List.take_length] at hos
          exact ⟨.inr ⟨_, cs.map (orderF cc), Hr.out, rfl, hos.sets m4, m1, by rw [e1]; exact m2, m3⟩, HI.out.b⟩
end Go.Proofs.Ytiljpacmkmmlcaa
