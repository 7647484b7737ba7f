/- cover.askBelow: the walk. -/
import Derived.Test.YtiljpacmkmmlcaaWg
set_option linter.unusedSimpArgs false
set_option linter.unusedVariables false
namespace Go.Proofs.Ytiljpacmkmmlcaa
open Go.RowKit Go.Shelf

attribute [local go_sem] Oper.semAt_some

theorem zeroU (w : World) : (zeroValue 54).run Try.prog w = .ok (.int .u64 0) w := by kernel_rfl
set_option linter.unusedSimpArgs false in
set_option maxRecDepth 100000 in
set_option maxHeartbeats 16000000 in
theorem askBelow_c (ms : List Nat) (t M n : Nat) (f : Nat → Option Nat) (sv : Value) (wb w : World) (ht : t < 256) (h60 : ms.length ≤ 60) (hnd : ms.Nodup) (hs : MsS wb wb.heap.size ms sv) (hb : Below wb.heap.size wb w) (hwM : wb.heap.size ≤ M) (hn : n ≤ 1000000) (hm : MapU Try.prog w 54 54 M n f) :
    Calls Try.prog 39 #[sv, .int .u64 (t : Int), .map (some M)] w fun e w' => (∃ v, e = .returned v ∧ w'.ownsRow w.heap.size 54 1 v (newsL ms t f).length (mvL (newsL ms t f))) ∧ (∃ c, c ≤ n + ms.length ∧ MapU Try.prog w' 54 54 M c (askF f (newsL ms t f) t)) ∧ w.grownBy w' (some M) := by
  refine callsIn_wide (n := 8).1 ?_
  obtain ⟨i0, hi, hz0, hz1, hz2⟩ := info_parts infoU
  have hMw : M < w.heap.size := hm.lt
  have hwb : wb.heap.size ≤ w.heap.size := hb.size
  obtain ⟨n0, hn0⟩ : ∃ n0, w.heap.size = n0 := ⟨_, rfl⟩
  have Hn0 := Lib.hid hn0
  have HS := Lib.hid hs
  have HB := Lib.hid hb
  have HM := Lib.hid hm
  have HND := Lib.hid hnd
  obtain ⟨o1, cap1, rfl, hc1, hm1, S1⟩ := SlOf.open hs
  obtain ⟨sv, hsv⟩ : ∃ sv, Value.slice o1 ms.length cap1 = sv := ⟨_, rfl⟩
  rw [hsv] at HS
  have Hsv := Lib.hid hsv
  clear hs hb hm hnd hsv hn0
  refine callsIn_of_wp_marks Try.func39 rfl trivial ?_ rfl
  simp only [Try.ntmps39, List.size_toArray, List.length_cons, List.length_nil, Nat.reduceAdd, Nat.reduceSub, Array.replicate_succ, Array.replicate_zero, List.push_toArray, List.append_toArray, List.nil_append, List.cons_append]
  gi_wp2_with fail
  refine ⟨trivial, (each_in 7 _ _ _ _ _).mono ?_⟩
  rintro e WL ⟨rfl, hWL⟩
  have e3 : ((((w.alloc (.cells #[.int .u64 (t : Int)] 54)).alloc (.cells #[.map (some M)] 58)).alloc (.cells #[.slice none 0 0] 44))).heap.size = n0 + 3 := by simp; have := Hn0.out; omega
  have HI0 : Hid (AbI wb w sv ms t M n f 0 WL) := Lib.hid (by
    rw [Hsv.out] at hWL
    have hg : w.grownBy WL (some M) := by
      rw [hWL]
      exact ((((World.grownBy_alloc w _ _).trans (World.grownBy_alloc _ _ _)).trans (World.grownBy_alloc _ _ _)).trans (World.grownBy_alloc _ _ _)).trans (World.grownBy_alloc _ _ _)
    have hbl : Below w.heap.size w WL := by
      rw [hWL]
      exact (((((Below.refl _ w).alloc (Nat.le_refl _) _).alloc (by simp) _).alloc (by simp; omega) _).alloc (by simp; omega) _).alloc (by simp; omega) _
    refine ⟨⟨⟨HB.out.trans (hbl.mono hwb), ?_⟩, ?_⟩, hg, ?_, ?_, ⟨.slice none 0 0, ?_, World.ownsRow_nil _ _ _ _⟩, ⟨n, Nat.le_refl _, ?_⟩, Nat.zero_le _⟩
    · rw [hWL]; exact row_more (newRow (by simp)) _
    · rw [hWL]; exact newRow (by simp)
    · rw [hWL]; exact row_more (row_more (row_more (row_more (newRow rfl) _) _) _) _
    · rw [hWL]; exact row_more (row_more (row_more (newRow (by simp)) _) _) _
    · rw [hWL]; exact row_more (row_more (newRow (by simp)) _) _
    · have : askF f (newsL (ms.take 0) t f) t = f := by funext x; unfold askF newsL; simp
      rw [this]
      exact HM.out.below hbl hMw)
  have HZL : Hid (WL.heap.size = n0 + 5) := Lib.hid (by rw [hWL]; simp; have := Hn0.out; omega)
  rw [e3]
  clear hWL e3
  have q0 := Hn0.out
  have e1 : (w.alloc (.cells #[.int .u64 (t : Int)] 54)).heap.size = n0 + 1 := by simp; omega
  gi_wp2_with fail
  refine range_moves2 rfl (by omega) (gf := 44) (bd := #[]) (lb := #[.pointer (some ⟨n0 + 3, 0, none⟩), .pointer (some ⟨n0 + 3 + 1, 0, none⟩)]) rfl trivial (enters_of Try.func44 (by kernel_rfl) rfl)
    (each_moves 7 (by omega) ms t ht sv wb (n0 + 3) (n0 + 3 + 1) HS.out) (fun _ => rfl)
    (fun x W => ∃ j, x.1 = j + 1 ∧ AbI wb w sv ms t M n f j W ∧ ms[j]? = some x.2 ∧ belowN x.2 t = true)
    (fun x W => AbI wb w sv ms t M n f x.1 W)
    (fun _ _ => False)
    (fun W => AbI wb w sv ms t M n f ms.length W)
    (fun x a' W => ∃ (j : Nat) (t0 t1 t2 t3 t6 t9 t10 t11 t12 t13 t14 t15 t16 t17 t18 t19 t20 t21 t22 t23 t24 t25 t26 t27 t28 t29 t30 : Value), x.1 = j + 1 ∧ AbI wb w sv ms t M n f j W ∧ ms[j]? = some x.2 ∧ belowN x.2 t = true ∧ a' = { tmps := #[t0, t1, t2, t3, .pointer (some ⟨n0, 0, none⟩), .pointer (some ⟨n0 + 1, 0, none⟩), t6, .pointer (some ⟨n0 + 2, 0, none⟩), .int .u64 (x.2 : Int), t9, t10, t11, t12, t13, t14, t15, t16, t17, t18, t19, t20, t21, t22, t23, t24, t25, t26, t27, t28, t29, t30], defers := [] })
    ?fB ?fX ?fZ ?fM ?h0 ?hB ?assign ?body ?done ?stop
  case fB =>
    rintro x W W' hp hI
    exact hI.put hp (by rw [HZL.out, Hn0.out]; omega) (by rw [Hn0.out]; omega) (by rw [Hn0.out]; omega)
  case fX => exact fun _ _ _ _ h => h.elim
  case fZ =>
    rintro W W' hp hI
    exact hI.put hp (by rw [HZL.out, Hn0.out]; omega) (by rw [Hn0.out]; omega) (by rw [Hn0.out]; omega)
  case fM =>
    rintro x a' W W' hp ⟨j, t0, t1, t2, t3, t6, t9, t10, t11, t12, t13, t14, t15, t16, t17, t18, t19, t20, t21, t22, t23, t24, t25, t26, t27, t28, t29, t30, h1, h2, h3, h4, h5⟩
    exact ⟨j, t0, t1, t2, t3, t6, t9, t10, t11, t12, t13, t14, t15, t16, t17, t18, t19, t20, t21, t22, t23, t24, t25, t26, t27, t28, t29, t30, h1, h2.put hp (by rw [HZL.out, Hn0.out]; omega) (by rw [Hn0.out]; omega) (by rw [Hn0.out]; omega), h3, h4, h5⟩
  case h0 =>
    intro o o'
    exact HI0.out.below (((Below.refl _ _).alloc (Nat.le_refl _) _).alloc (by simp) _)
  case hB =>
    rintro x W1 hI
    have hg := hI.g
    rw [Hn0.out] at hg
    refine ⟨⟨hg, hI.le⟩, ?_, ?_⟩
    · rintro x' W2 ⟨j, t1, t2, t3, t4, t5, t6⟩
      exact ⟨keepsB t6 _, j, t2, (hI.below t6).skip t1 (Nat.le_of_lt (List.getElem?_eq_some_iff.1 t3).1) t5, t3, t4⟩
    · rintro W2 ⟨t1, t2⟩
      exact ⟨keepsB t2 _, (hI.below t2).skip hI.le (Nat.le_refl _) t1⟩
  case assign =>
    rintro lp x W ⟨j, h1, h2, h3, h4⟩
    have H2 := Lib.hid h2
    clear h2
    gi_wp2
    exact ⟨KeepsFrom.refl _ _, j, _, _, _, _, _, _, _, _, _, _, _, _, _, _, _, _, _, _, _, _, _, _, _, _, _, _, _, h1, H2.out, h3, h4, by trivial⟩
  case body =>
    rintro lp x a' W ⟨j, t0, t1, t2, t3, t6, t9, t10, t11, t12, t13, t14, t15, t16, t17, t18, t19, t20, t21, t22, t23, t24, t25, t26, t27, t28, t29, t30, h1, h2, h3, h4, rfl⟩
    obtain ⟨xk, y⟩ := x
    simp only at h1 h3 h4
    subst h1
    have H2 := Lib.hid h2
    have H3 := Lib.hid h3
    have H4 := Lib.hid h4
    have hjl : j < ms.length := (List.getElem?_eq_some_iff.1 h3).1
    have hy256 : y < 256 := by
      obtain ⟨a, _, _, h, _⟩ := u64_at S1 (Below.refl _ wb) h3
      exact h
    obtain ⟨c, hc, hmu⟩ := h2.map
    have hyn := news_mem (t := t) (f := f) HND.out h3
    have hlook := (mapU_look W 58 54 54 Try.underlying58 Try.underlying54 Try.underlying54 (zeroU _) M c _ hmu y hy256).1
    have ef : askF f (newsL (ms.take j) t f) t y = f y := if_neg hyn
    rw [ef] at hlook
    have hb4 := h2.b4
    have hb5 := h2.b5
    rw [Hn0.out] at hb4 hb5
    have c4 : W.cell? ⟨n0, 0, none⟩ = some (.int .u64 (t : Int)) := (row_cell hb4 0).1
    have c5 : W.cell? ⟨n0 + 1, 0, none⟩ = some (.map (some M)) := (row_cell hb5 0).1
    have l4 := heapLt hb4
    have l5 := heapLt hb5
    have HMU := Lib.hid hmu
    have Hc := Lib.hid hc
    cases hfy : (f y).isSome with
    | true =>
      rw [hfy] at hlook
      have HE : Hid (AbI wb w sv ms t M n f (j + 1) W) := Lib.hid (h2.old h3 h4 (by cases hq : f y with | none => rw [hq] at hfy; cases hfy | some z => rfl))
      clear h2 h3 h4 hmu hyn ef hb4 hb5 hfy hc
      gi_wp2
      exact ⟨KeepsFrom.refl _ _, HE.out⟩
    | false =>
      rw [hfy] at hlook
      have Hfy : Hid ((f y).isNone = true) := Lib.hid (by cases hq : f y with | none => rfl | some z => rw [hq] at hfy; cases hfy)
      obtain ⟨w1, hr1, hmu1, hg1⟩ := mapU_store W 58 54 54 Try.underlying58 Try.underlying54 Try.underlying54 M c _ hmu (by unfold maxLen; omega) y t hy256 ht
      obtain ⟨v, hrow, hown⟩ := h2.row
      have hlen : (newsL (ms.take j) t f).length ≤ 60 := Nat.le_trans (news_len _ _ _) (by rw [List.length_take]; omega)
      have hrow1 : w1.heap[n0 + 2]? = some (.cells #[v] 44 (0, 0)) := by
        rw [Hn0.out] at hrow
        exact (hg1.block _ (heapLt hrow) (fun e => by have := Option.some.inj e; omega)).trans hrow
      have c7 : w1.cell? ⟨n0 + 2, 0, none⟩ = some v := (row_cell hrow1 0).1
      have l7 := heapLt hrow1
      have Hrow := Lib.hid hrow
      have Hrow1 := Lib.hid hrow1
      have HOW := Lib.hid hown
      have HOW1 : Hid (w1.ownsRow (w.heap.size + 5) 54 1 v (newsL (ms.take j) t f).length (mvL (newsL (ms.take j) t f))) := Lib.hid (hown.kept hg1 (by
        cases hvb : v.ownBlock with
        | none => exact .inl rfl
        | some q => exact .inr (fun e => by have := (hown.lt q hvb).1; have := Option.some.inj e; omega)))
      have HMU1 := Lib.hid hmu1
      have HG1 := Lib.hid hg1
      have HS1 : Hid ((newsL (ms.take j) t f).length + 1 ≤ maxLen) := Lib.hid (by unfold maxLen; omega)
      have HS2 : Hid (((newsL (ms.take j) t f).length + 1) * 8 ≤ 140737488355328) := Lib.hid (by omega)
      have hW5 : w.heap.size + 5 ≤ w1.heap.size := by
        have h5 := heapLt h2.g.two
        have := hg1.size
        omega
      have HW5 := Lib.hid hW5
      obtain ⟨N, hN⟩ : ∃ N, newsL (ms.take j) t f = N := ⟨_, rfl⟩
      have HN := Lib.hid hN
      rw [hN] at HOW HOW1 HS1 HS2 HMU1 HMU
      clear h2 h3 h4 hmu hyn ef hb4 hb5 hfy hmu1 hg1 hrow hown hlen hrow1 hW5 hN
      gi_wp2_with (gi_at_builtin; refine wpListIn_append_own _ rfl (.tmp 26) (.tmp 28) 44 rfl (w.heap.size + 5) 54 i0 _ 1 8 Try.underlying44 hi hz0 hz1 hz2 rfl (by decide) v N.length _ rfl (HOW1.out.alloc _) _ 1 1 [.int .u64 (y : Int)] rfl rfl (news_new _ _ _ _ rfl) (one_u64 _) HS1.out HS2.out (by have := HW5.out; simp; omega) ?_; intro v' w3 hown' hgrow _; obtain ⟨g', cap', rfl, hgb⟩ := own_form hown' (Nat.succ_pos _); have HG3 := Lib.hid (grown_viaC hgrow); have HO3 := Lib.hid hown'; have hrow3 := (HG3.out.block _ (heapLt Hrow1.out) (fun e => by have := (HOW1.out.lt _ e.symm).1; omega)).trans Hrow1.out; have z1 := (row_cell hrow3 0).1; have z2 := (row_cell hrow3 0).2; have z3 := heapLt hrow3; have Hrow3 := Lib.hid hrow3; clear hgrow hown' hrow3)
      have HE : Hid (AbI wb w sv ms t M n f (j + 1) (w3.setCell ⟨w.heap.size + 2, 0, none⟩ (.slice (some ⟨g', 0, none⟩) (N.length + 1) cap'))) := Lib.hid (H2.out.new (c := c + 1) (v := v) (w1 := w1) (w3 := w3) (by rw [Hn0.out]; omega) hwM (by rw [Hn0.out]; omega) H3.out H4.out Hfy.out Hrow.out (by rw [HN.out]; exact HOW.out) (by have := Hc.out; omega) HG1.out (by rw [HN.out]; exact HMU1.out) HG3.out (by rw [HN.out]; exact HO3.out))
      rw [Hn0.out] at HE
      exact ⟨((KeepsFrom.of_grownBy HG1.out (fun q e => by have := Option.some.inj e; have := HZL.out; omega)).trans (keepsC HG3.out (own_cellsB HOW1.out))).trans (KeepsFrom.of_grownBy (grown_set w3 (n0 + 2) 0 (.slice (some ⟨g', 0, none⟩) (N.length + 1) cap')) (fun q e => by have := Option.some.inj e; have := HZL.out; omega)), HE.out⟩
  case done =>
    rintro D W hD hI hd
    obtain ⟨v, hrow, hown⟩ := hI.row
    obtain ⟨c, hc, hmu⟩ := hI.map
    rw [List.take_length] at hown hmu
    rw [Hn0.out] at hrow
    have c7 : W.cell? ⟨n0 + 2, 0, none⟩ = some v := (row_cell hrow 0).1
    have l7 := heapLt hrow
    have Hd := Lib.hid hd
    have HO := Lib.hid hown
    have HMu := Lib.hid hmu
    have HG := Lib.hid hI.gr
    have HD := Lib.hid hD
    have hDl := heapLt hd
    have Hc := Lib.hid hc
    clear hd hrow hown hmu hI hD hc
    gi_wp2
    refine ⟨by simp, .inl ⟨_, _, rfl, run_takeDeferred Hd.out, ?_⟩⟩
    refine ⟨_, results_tmp rfl _ _ _, ⟨v, rfl, ?_⟩, ⟨c, Hc.out, ?_⟩, ?_⟩
    · rw [Hn0.out]
      have h1 : W.ownsRow n0 54 1 v (newsL ms t f).length (mvL (newsL ms t f)) := by
        have h2 := HO.out
        refine ⟨h2.1, h2.2.imp id ?_⟩
        rintro ⟨g, cap, cur, a1, a2, a3⟩
        exact ⟨g, cap, cur, a1, by omega, a3⟩
      refine h1.kept (⟨rfl, rfl, rfl, by simp, fun i hi he => World.putObj_heap_other (fun e => he (by rw [e]))⟩ : W.grownBy (W.putObj D (.deferred none)) (some D)) (.inr fun e => ?_)
      obtain ⟨cs, T, fz, hx⟩ := own_cellsB h1 D e
      rw [Hd.out] at hx
      cases hx
    · exact HMu.out.same (World.putObj_heap_other (by have := HD.out; have := HZL.out; omega))
    · have hg := HG.out
      exact ⟨hg.os, hg.tape, hg.output, by simpa using hg.size, fun i hi hne => (World.putObj_heap_other (by have := HD.out; have := HZL.out; have := Hn0.out; omega)).trans (hg.block i hi hne)⟩
  case stop => exact fun _ _ _ _ h => h.elim
end Go.Proofs.Ytiljpacmkmmlcaa
