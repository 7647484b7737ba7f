/- rel.Add. -/
import Derived.Test.YtphmiifochjemaaPad2
import Derived.OwnWalkIn
namespace Go.Proofs.Ytphmiifochjemaa
open Go.RowKit Go.Shelf

attribute [local go_sem] Oper.semAt_some

set_option linter.unusedSimpArgs false in
set_option maxRecDepth 100000 in
set_option maxHeartbeats 16000000 in
theorem padd_c (a : List Rw) (t : Rw) (v u : Value) (w : World) (hla : a.length ≤ 1000) (h1 : RwsS w w.heap.size a v) (h2 : SlOf w w.heap.size 3 VlC t u) (hfa : ∀ r ∈ a, FitW r) (hft : FitW t) :
    Calls Try.prog 7 #[v, u] w fun e w' => (∃ r, e = .returned (.tuple #[r, .bool (if riseL rwC a = true then newA (bothL rwC a [t]) else false), .int .i64 (if riseL rwC a = true then 0 else 80)]) ∧ RwsS w' w'.heap.size (if riseL rwC a = true then (bothL rwC a [t]).map Prod.snd else []) r) ∧ Below w.heap.size w w' := by
  refine callsIn_wide (n := 8).1 ?_
  obtain ⟨i0, hi, hz0, hz1, hz2⟩ := info_parts infoRow
  have HP1 := Lib.hid (fun (W : World) (hb : Below w.heap.size w W) => prise_c a v W (RwsS.past h1 hb))
  obtain ⟨A, hA, HA0⟩ := HsS.rows h1
  obtain ⟨ot, ct, rfl, _, _, _⟩ := SlOf.open h2
  obtain ⟨B, hB⟩ : ∃ B : List Hd, [((t, .slice ot t.length ct) : Hd)] = B := ⟨_, rfl⟩
  have HA := Lib.hid HA0
  have HT := Lib.hid h2
  have HBq := Lib.hid hB
  have LA : Hid (A.length ≤ 1000) := Lib.hid (by rw [← hA, List.length_map] at hla; exact hla)
  have LB : Hid (B.length = 1) := Lib.hid (by rw [← hB]; rfl)
  have HFit : Hid (∀ x ∈ bothL hdC A B, FitW x.2.1) := Lib.hid (fun x hx => by
    rcases both_seen hx with h | h
    · exact hfa _ (by rw [← hA]; exact List.mem_map_of_mem h)
    · rw [← hB] at h
      rw [List.mem_singleton.1 h]
      exact hft)
  have hmap : (bothL hdC A B).map (fun p => (p.1, p.2.1)) = bothL rwC a [t] := by rw [both_fst, hA, ← hB]; rfl
  have HOut : Hid ((bothL hdC A B).map (fun p => p.2.1) = (bothL rwC a [t]).map Prod.snd) := Lib.hid (by rw [← hmap, List.map_map]; rfl)
  have HNew : Hid (newA (bothL hdC A B) = newA (bothL rwC a [t])) := Lib.hid (by rw [← hmap]; unfold newA; rw [List.any_map]; rfl)
  obtain ⟨ra, hra⟩ : ∃ x, riseL rwC a = x := ⟨_, rfl⟩
  rw [hra] at HP1 ⊢
  generalize (bothL rwC a [t]).map Prod.snd = outs at HOut ⊢
  generalize newA (bothL rwC a [t]) = fresh at HNew ⊢
  obtain ⟨o1, cap1, rfl, hc1, hm1, _⟩ := SlOf.open HA0.1
  clear h1 h2 hla hfa hft hA hB HA0 hra hmap
  have HMk : Hid (i0.bytes * (A.length + 1) ≤ 281474976710656 ∧ A.length + 1 ≤ maxLen) := Lib.hid (by have := LA.out; rw [hz2]; constructor <;> (try unfold maxLen) <;> omega)
  have hw1 : IntKind.i64.wrap ((A.length : Int) + 1) = (A.length : Int) + 1 := by have := LA.out; rw [IntKind.wrap_i64]; omega
  have hLA := LA.out
  refine callsIn_of_wp_marks Try.func7 rfl trivial ?_ rfl
  simp only [Try.ntmps7, List.size_toArray, List.length_cons, List.length_nil, Nat.reduceAdd, Nat.reduceSub, Array.replicate_succ, Array.replicate_zero, List.push_toArray, List.append_toArray, List.nil_append, List.cons_append]
  gi_wp2_with fail
  refine ⟨trivial, (callsIn_wide.2 (HP1.out w (Below.refl _ _))).mono ?_⟩
  rintro e w1 ⟨rfl, b1⟩
  have B1' := Lib.hid b1
  clear b1
  cases ra with
  | false =>
    gi_wp2
    exact ⟨.tuple #[.slice none 0 0, .bool false, .int .i64 80], by simp [results, Try.results7, go_sem], ⟨_, rfl, .inl ⟨rfl, rfl⟩⟩, B1'.out⟩
  | true =>
  gi_wp2_with (refine wpListIn_make_own _ rfl _ _ 22 rfl w1.heap.size 23 i0 _ 1 Try.underlying22 hi hz0 hz1 .i64 .i64 _ (A.length + 1) rfl rfl (by first | omega | rfl) HMk.out.1 HMk.out.2 (Nat.le_refl _) ?_; intro w2 hown2 hg2; have Own2 := Lib.hid hown2; have Hg2 := Lib.hid hg2; clear hown2 hg2)
  obtain ⟨nb, hnb⟩ : ∃ k, w2.heap.size = k := ⟨_, rfl⟩
  obtain ⟨W5, hW5⟩ : ∃ W, ((w2.alloc (.cells #[.slice (some ⟨w1.heap.size, 0, none⟩) 0 (A.length + 1)] 22)).alloc (.cells #[.bool false] 4)).alloc (.cells #[.slice ot t.length ct] 23) = W := ⟨_, rfl⟩
  have z5 : W5.heap.size = nb + 3 := by rw [← hW5, ← hnb]; simp
  have r0 : W5.heap[nb]? = some (.cells #[.slice (some ⟨w1.heap.size, 0, none⟩) 0 (A.length + 1)] 22 (0, 0)) := by rw [← hW5]; exact row_more (row_more (newRow hnb) _) _
  have r1 : W5.heap[nb + 1]? = some (.cells #[.bool false] 4 (0, 0)) := by rw [← hW5]; exact row_more (newRow (by simp [hnb])) _
  have r2 : W5.heap[nb + 1 + 1]? = some (.cells #[.slice ot t.length ct] 23 (0, 0)) := by rw [← hW5]; exact newRow (by simp [hnb])
  have b5 : Below w2.heap.size w2 W5 := by rw [← hW5]; exact (((Below.refl _ _).alloc (Nat.le_refl _) _).alloc (by simp) _).alloc (by simp; omega) _
  have b12 : Below w1.heap.size w1 w2 := (Below.refl _ _).grown Hg2.out (Nat.le_refl _) (fun k hk => by cases hk)
  have hlt12 : w1.heap.size < nb := by rw [← hnb]; exact (Own2.out.lt _ rfl).2
  rw [hW5, hnb]
  have HNB := Lib.hid hnb
  have Z5 := Lib.hid z5
  have R0 := Lib.hid r0
  have R1 := Lib.hid r1
  have R2 := Lib.hid r2
  have B25 := Lib.hid b5
  have B15 := Lib.hid (b12.trans (b5.mono b12.size))
  have HLt := Lib.hid hlt12
  clear z5 r0 r1 r2 b5 b12 hlt12 hW5 hnb
  refine ⟨trivial, (eob_in 7 _ _ _ _ _ _ _).mono ?_⟩
  rintro e WL ⟨rfl, hWL⟩
  have HWA : Hid (∀ W, KA w1 (nb + 1 + 1) (.slice ot t.length ct) W → HsS W W.heap.size A (.slice o1 A.length cap1)) := Lib.hid (fun W hk => by
    have hb := B1'.out.trans (hk.1.mono B1'.out.size)
    exact HA.out.below hb hb.size)
  have HWB : Hid (∀ W, KA w1 (nb + 1 + 1) (.slice ot t.length ct) W → HsS W W.heap.size B (.slice (some ⟨nb + 1 + 1, 0, none⟩) 1 1)) := Lib.hid (fun W hk => by
    rw [← HBq.out]
    exact KA.one (VlS.past HT.out B1'.out) W hk)
  have hbL : Below W5.heap.size W5 WL := by rw [hWL]; exact ((Below.refl _ W5).alloc (Nat.le_refl _) _).alloc (by simp) _
  have HI0 : Hid (AdI w1 (.slice o1 A.length cap1) (.slice (some ⟨nb + 1 + 1, 0, none⟩) 1 1) (nb + 3) (nb + 3 + 1) nb (nb + 1) (nb + 1 + 1) (.slice ot t.length ct) [] false WL) := Lib.hid (by
    have hb1 := B15.out.trans (hbL.mono B15.out.size)
    refine ⟨⟨⟨hb1, (hbL.block _ (heapLt R2.out)).trans R2.out⟩, ?_, ?_⟩, ⟨[], rfl, ⟨⟨_, (hbL.block _ (heapLt R0.out)).trans R0.out, own_past Own2.out (B25.out.trans (hbL.mono B25.out.size))⟩, fun x hx => (by cases hx), hb1⟩⟩, ⟨_, (hbL.block _ (heapLt R0.out)).trans R0.out, ?_⟩, (hbL.block _ (heapLt R1.out)).trans R1.out⟩
    · rw [hWL]
      exact row_more (newRow Z5.out) _
    · rw [hWL]
      exact newRow (by simp; exact Z5.out)
    · intro e
      have e2 : w1.heap.size = nb + 1 + 1 := by simpa [Value.ownBlock] using e
      have := HLt.out
      omega)
  have HZL : Hid (WL.heap.size = nb + 5) := Lib.hid (by rw [hWL]; simp; have := Z5.out; omega)
  rw [Z5.out]
  clear hWL hbL
  gi_wp2_with fail
  refine range_moves2 rfl (by omega) (gf := 31) (bd := #[]) (lb := #[.pointer (some ⟨nb + 3, 0, none⟩), .pointer (some ⟨nb + 3 + 1, 0, none⟩)]) rfl trivial (enters_of Try.func31 (by kernel_rfl) rfl)
    (eobK_moves 7 (by omega) A B _ _ w1.heap.size _ (KA.st w1 (nb + 1 + 1) (.slice ot t.length ct)) (nb + 3) (nb + 3 + 1) HWA.out HWB.out (by have := LA.out; omega) (by have := LB.out; omega)) (fun _ => rfl)
    (fun x W => ∃ n, x.n = n + 1 ∧ (bothL hdC A B)[n]? = some x.e ∧ EbH x W ∧ AdI w1 (.slice o1 A.length cap1) (.slice (some ⟨nb + 1 + 1, 0, none⟩) 1 1) (nb + 3) (nb + 3 + 1) nb (nb + 1) (nb + 1 + 1) (.slice ot t.length ct) (((bothL hdC A B).take n).map (fun p => p.2.1)) (newA ((bothL hdC A B).take n)) W)
    (fun x W => (x.n = 0 ∨ EbH x W) ∧ AdI w1 (.slice o1 A.length cap1) (.slice (some ⟨nb + 1 + 1, 0, none⟩) 1 1) (nb + 3) (nb + 3 + 1) nb (nb + 1) (nb + 1 + 1) (.slice ot t.length ct) (((bothL hdC A B).take x.n).map (fun p => p.2.1)) (newA ((bothL hdC A B).take x.n)) W)
    (fun _ _ => False)
    (fun W => AdI w1 (.slice o1 A.length cap1) (.slice (some ⟨nb + 1 + 1, 0, none⟩) 1 1) (nb + 3) (nb + 3 + 1) nb (nb + 1) (nb + 1 + 1) (.slice ot t.length ct) outs fresh W)
    (fun x a' W => ∃ (n z2 : Nat) (t0 t1 t2 t3 t4 t5 t6 t11 t12 t13 t14 t15 t16 t17 t18 t19 t20 t21 t22 t23 t24 t25 t26 t27 t28 t29 t30 t31 t32 t33 t34 t35 t36 : Value), W.heap[z2]? = some (.cells #[.bool x.e.1.1, .bool x.e.1.2] 42 (0, 0)) ∧ x.n = n + 1 ∧ (bothL hdC A B)[n]? = some x.e ∧ EbH x W ∧ AdI w1 (.slice o1 A.length cap1) (.slice (some ⟨nb + 1 + 1, 0, none⟩) 1 1) (nb + 3) (nb + 3 + 1) nb (nb + 1) (nb + 1 + 1) (.slice ot t.length ct) (((bothL hdC A B).take n).map (fun p => p.2.1)) (newA ((bothL hdC A B).take n)) W ∧ a' = { tmps := #[t0, t1, t2, t3, t4, t5, t6, .pointer (some ⟨nb, 0, none⟩), .pointer (some ⟨nb + 1, 0, none⟩), .pointer (some ⟨z2, 0, none⟩), x.e.2.2, t11, t12, t13, t14, t15, t16, t17, t18, t19, t20, t21, t22, t23, t24, t25, t26, t27, t28, t29, t30, t31, t32, t33, t34, t35, t36], defers := [] })
    ?fB ?fX ?fZ ?fM ?h0 ?hB ?assign ?body ?done ?stop
  case fB =>
    rintro x W W' hp ⟨h1, h2⟩
    exact ⟨h1.imp id fun h => h.put hp, h2.put hp (by have := HZL.out; have := HLt.out; omega)⟩
  case fX =>
    rintro c W W' hp h
    exact h.elim
  case fZ =>
    rintro W W' hp h
    exact h.put hp (by have := HZL.out; have := HLt.out; omega)
  case fM =>
    rintro x a' W W' hp ⟨n, z2, t0, t1, t2, t3, t4, t5, t6, t11, t12, t13, t14, t15, t16, t17, t18, t19, t20, t21, t22, t23, t24, t25, t26, t27, t28, t29, t30, t31, t32, t33, t34, t35, t36, h0, h1, h2, h3, h4, h5⟩
    exact ⟨n, z2, t0, t1, t2, t3, t4, t5, t6, t11, t12, t13, t14, t15, t16, t17, t18, t19, t20, t21, t22, t23, t24, t25, t26, t27, t28, t29, t30, t31, t32, t33, t34, t35, t36, put_block hp h0 (.inl rfl), h1, h2, h3.put hp, h4.put hp (by have := HZL.out; have := HLt.out; omega), h5⟩
  case h0 =>
    intro o o'
    exact ⟨.inl rfl, HI0.out.below (((Below.refl _ _).alloc (Nat.le_refl _) _).alloc (by simp) _)⟩
  case hB =>
    rintro x W1 ⟨h1, h2⟩
    refine ⟨⟨h2.g, h1⟩, ?_, ?_⟩
    · rintro x' W2 ⟨t1, t2, t3, t4⟩
      exact ⟨tm_keeps t3 _, x.n, t1, t2, t4, h2.tm t3⟩
    · rintro W2 ⟨t1, t2⟩
      refine ⟨tm_keeps t2 _, ?_⟩
      have h3 := h2.tm t2
      rw [t1, List.take_length, HOut.out, HNew.out] at h3
      exact h3
  case assign =>
    rintro lp x W ⟨n, h1, h2, h3, h4⟩
    have hb := (Below.refl W.heap.size W).alloc (Nat.le_refl _) (.cells #[.bool x.e.1.1, .bool x.e.1.2] 42)
    have HK := Lib.hid (keepsB hb WL.heap.size)
    have Hr := Lib.hid (World.alloc_heap_new W (.cells #[.bool x.e.1.1, .bool x.e.1.2] 42))
    have H3 := Lib.hid (h3.below hb)
    have H4 := Lib.hid (h4.below hb)
    clear h3 h4 hb
    gi_wp2
    exact ⟨HK.out, n, W.heap.size, _, _, _, _, _, _, _, _, _, _, _, _, _, _, _, _, _, _, _, _, _, _, _, _, _, _, _, _, _, _, _, _, _, Hr.out, h1, h2, H3.out, H4.out, by trivial⟩
  case done =>
    rintro D W hD hI hd
    obtain ⟨hs, hh, hr⟩ := hI.r
    obtain ⟨v, hv, ho⟩ := hr.own
    have hrows : RwsS W W.heap.size outs v := hr.rows hh hv ho
    have n0 : W.cell? ⟨nb + 1, 0, none⟩ = some (.bool fresh) := (row_cell hI.ni 0).1
    have ln := heapLt hI.ni
    have HR : Hid (RwsS W.drew W.drew.heap.size outs v) := Lib.hid (RwsS.past hrows ((Below.refl _ W).drew))
    have HBe := Lib.hid (((B1'.out.trans (hr.b.mono B1'.out.size))).trans (((Below.refl _ W).drew).mono (Nat.le_trans B1'.out.size hr.b.size)))
    have Hd := Lib.hid (show W.drew.heap[D]? = _ from hd)
    have HDn : Hid (w.heap.size ≤ D) := Lib.hid (by have := HZL.out; have := HLt.out; have := B1'.out.size; omega)
    obtain ⟨vo, vn, vc, rfl⟩ : ∃ o n c, v = .slice o n c := by
      rcases hrows with ⟨e, _⟩ | ⟨a, c, e, _⟩
      · exact ⟨_, _, _, e⟩
      · exact ⟨_, _, _, e⟩
    have v0 : W.cell? ⟨nb, 0, none⟩ = some (.slice vo vn vc) := (row_cell hv 0).1
    have lv := heapLt hv
    clear hI hr hv ho hrows hd hh
    gi_wp2_with fail
    refine region_still_wide 4 (by kernel_rfl) (by kernel_rfl) ?_
    simp only [List.take_succ_cons, List.take_zero, List.drop_succ_cons, List.drop_zero]
    repeat still_step
    refine wpStill_nil ?_
    gi_wp2
    exact ⟨by simp, .inl ⟨_, _, rfl, run_takeDeferred Hd.out, .tuple #[.slice vo vn vc, .bool fresh, .int .i64 0], by simp [results, Try.results7, go_sem], ⟨_, rfl, RwsS.put2 HR.out ⟨D, _, _, HDn.out, Hd.out, rfl, rfl, rfl⟩⟩, put_gone HBe.out HDn.out⟩⟩
  case stop =>
    rintro D c W hD h hd
    exact h.elim
  case body =>
    rintro lp x a' W ⟨n, z2, t0, t1, t2, t3, t4, t5, t6, t11, t12, t13, t14, t15, t16, t17, t18, t19, t20, t21, t22, t23, t24, t25, t26, t27, t28, t29, t30, t31, t32, t33, t34, t35, t36, hz, h1, h2, h3, h4, rfl⟩
    obtain ⟨xn, ⟨⟨p, q⟩, ⟨r, rv⟩⟩, xi, xj, xm, xz⟩ := x
    simp only at h1 h2 hz
    subst h1
    have in0 : W.cell? ⟨z2, 0, none⟩ = some (.bool p) := (row_cell hz 0).1
    have in1 : W.cell? ⟨z2, 1, none⟩ = some (.bool q) := (row_cell hz 1).1
    have lz := heapLt hz
    clear hz
    have HSeen : Hid (((r, rv) : Hd) ∈ A ∨ ((r, rv) : Hd) ∈ B) := Lib.hid (both_seen (List.mem_of_getElem? h2))
    have HFr : Hid (FitW r) := Lib.hid (HFit.out ((p, q), (r, rv)) (List.mem_of_getElem? h2))
    have HLn : Hid (((bothL hdC A B).take n).length ≤ 2000) := Lib.hid (by
      have e2 := both_len (c := hdC) A B
      have := LA.out
      have := LB.out
      rw [List.length_take]
      omega)
    have HTk : Hid (((bothL hdC A B).take n).map (fun p => p.2.1) ++ [r] = ((bothL hdC A B).take (n + 1)).map (fun p => p.2.1)) := Lib.hid (by rw [take_snoc h2, List.map_append]; rfl)
    have HNs : Hid (newA ((bothL hdC A B).take (n + 1)) = (newA ((bothL hdC A B).take n) || !p)) := Lib.hid (newA_snoc h2)
    obtain ⟨bn, hbn⟩ : ∃ b, newA ((bothL hdC A B).take n) = b := ⟨_, rfl⟩
    obtain ⟨tk, htk⟩ : ∃ b, (bothL hdC A B).take n = b := ⟨_, rfl⟩
    rw [hbn] at h4 HNs
    rw [htk] at h4 HLn HTk
    have ni0 : W.cell? ⟨nb + 1, 0, none⟩ = some (.bool bn) := (row_cell h4.ni 0).1
    have nif : W.frozen? ⟨nb + 1, 0, none⟩ = false := (row_cell h4.ni 0).2
    have nil := heapLt h4.ni
    have HNi := Lib.hid h4.ni
    have H3 := Lib.hid h3
    have H4 := Lib.hid h4
    clear h3 h4 h2 hbn htk
    cases bn with
    | true =>
      gi_wp2_with fail
      obtain ⟨W7, hW7⟩ : ∃ W', W.setCell ⟨nb + 1, 0, none⟩ (.bool true) = W' := ⟨_, rfl⟩
      have h3 : EbH ⟨n + 1, ((p, q), (r, rv)), xi, xj, xm, xz⟩ W7 := by rw [← hW7]; exact H3.out.set HNi.out
      have h4 : AdI w1 (.slice o1 A.length cap1) (.slice (some ⟨nb + 1 + 1, 0, none⟩) 1 1) (nb + 3) (nb + 3 + 1) nb (nb + 1) (nb + 1 + 1) (.slice ot t.length ct) (tk.map (fun p => p.2.1)) true W7 := by rw [← hW7]; exact H4.out.set _ (by have := HLt.out; omega)
      have HKf : Hid (KeepsFrom WL.heap.size W W7) := Lib.hid (by rw [← hW7]; exact set_keeps HNi.out _)
      have HRw7 : Hid (SlOf W7 W7.heap.size 3 VlC r rv) := Lib.hid (by
        rcases HSeen.out with h | h
        · exact (HWA.out W7 h4.g.b).2 _ h
        · exact (HWB.out W7 h4.g.b).2 _ h)
      rw [hW7]
      clear hW7 in0 in1 lz ni0 nif nil
      obtain ⟨hs, hh, hr⟩ := h4.r
      obtain ⟨v, hv, ho⟩ := hr.own
      obtain ⟨vo, vn, vc, rfl⟩ : ∃ o n c, v = .slice o n c := by
        rcases hr.rows hh hv ho with ⟨e, _⟩ | ⟨a, c, e, _⟩
        · exact ⟨_, _, _, e⟩
        · exact ⟨_, _, _, e⟩
      have HNt : Hid ((Value.slice vo vn vc).ownBlock ≠ some (nb + 1 + 1)) := Lib.hid (by
        obtain ⟨v', hv', hn'⟩ := h4.nt
        rw [hv] at hv'
        cases hv'
        exact hn')
      have v0 : W7.cell? ⟨nb, 0, none⟩ = some (.slice vo vn vc) := (row_cell hv 0).1
      have lv := heapLt hv
      have hle : hs.length ≤ 2000 := by
        have e1 := congrArg List.length hh
        rw [List.length_map, List.length_map] at e1
        have := HLn.out
        omega
      have HS1 : Hid (hs.length + 1 ≤ maxLen) := Lib.hid (by unfold maxLen; omega)
      have HS2 : Hid ((hs.length + 1) * 24 ≤ 140737488355328) := Lib.hid (by omega)
      have Hm : Hid (xm ≠ nb ∧ xz ≠ nb) := Lib.hid ⟨fun e => (by have := h3.at_; simp only at this; rw [e, hv] at this; cases this), fun e => (by have := h3.in_; simp only at this; rw [e, hv] at this; cases this)⟩
      have HTb := Lib.hid h4.g.b.2
      have HH := Lib.hid hh
      have HRo := Lib.hid hr
      have HOw := Lib.hid ho
      have HNv := Lib.hid hv
      have H3 := Lib.hid h3
      have H4 := Lib.hid h4
      clear h3 h4 hh hr hv ho hle
      refine any_region (by kernel_rfl) (by kernel_rfl) (fun ⟨_, _, h⟩ => h) ?_
      (try (change wpAny _ _ _ _ _ _ _ (World.drew _)))
      refine wpAny_say [some 30, some 31, some 32, some 33, some 34, none] _ _ (FT w1 W7.drew nb (nb + 1 + 1) WL.heap.size (.slice vo vn vc) rv hs r) (by kernel_rfl) (by kernel_rfl) (by kernel_rfl) (by kernel_rfl) (by kernel_rfl) ⟨?U0, ?U1, ?U2, ?U3, ?U4, ?U5, trivial⟩ FT.start ?Ufin
      case U0 =>
        intro l val A' w' K hl hn' hd hF hfar hdep hK
        have e1 : A'.tmps[7]?.getD undef = .pointer (some ⟨nb, 0, none⟩) := hfar 7 (by decide)
        have e4 : l.getD 4 false = false := by
          cases h4 : l.getD 4 false with
          | false => rfl
          | true => exact nt hn' (hF.c0 h4)
        have cc : w'.cell? ⟨nb, 0, none⟩ = some (.slice vo vn vc) := ((hF.bel e4).cell (p := ⟨nb, 0, none⟩) lv).trans v0
        unfold Oper.wp
        simp [execOp, e1, cc, go_sem, Result.andThen]
        exact hK _ _ (hF.step0 hl hn')
      case U1 =>
        intro l val A' w' K hl hn' hd hF hfar hdep hK
        have e1 : A'.tmps[10]?.getD undef = rv := hfar 10 (by decide)
        unfold Oper.wp
        simp [execOp, e1, go_sem, Result.andThen]
        exact hK _ _ (hF.step1 hl hn')
      case U2 =>
        intro l val A' w' K hl hn' hd hF hfar hdep hK
        have e1 : A'.tmps[31]?.getD undef = rv := (hdep 1 31 rfl (by kernel_rfl)).trans (hF.f1 (hd 1 (by kernel_rfl)))
        have hb := hF.s1 hn'
        have hcall := copyRow_c r rv w' (VlS.past HRw7.out ((Below.refl _ W7).drew.trans hb)) HFr.out
        unfold Oper.wp
        simp [execOp, e1, go_sem, Result.andThen]
        refine hcall.mono ?_
        rintro e w3 ⟨⟨u, xs, rfl, ho, hlaid⟩, b2⟩
        refine hK _ _ (hF.step2 hl hn' ⟨hb.trans (b2.mono hb.size), ?_, copy_seeV ho hlaid⟩)
        rcases ho.2 with ⟨e, h0⟩ | ⟨g, cap, _, e, _⟩
        · exact ⟨none, 0, by rw [e, h0]⟩
        · exact ⟨_, _, e⟩
      case U3 =>
        intro l val A' w' K hl hn' hd hF hfar hdep hK
        have h2 := hd 2 (by kernel_rfl)
        have hA := hF.s2 h2 hn'
        obtain ⟨o, c, hu⟩ := hA.e
        rw [hu] at hA
        have e1 : A'.tmps[32]?.getD undef = .slice o r.length c := (hdep 2 32 rfl (by kernel_rfl)).trans hu
        have hb : Below w'.heap.size w' (w'.alloc (.cells #[.slice o r.length c] 23)) := (Below.refl _ _).alloc (Nat.le_refl _) _
        unfold Oper.wp
        simp [execOp, e1, go_sem, Result.andThen]
        exact hK _ _ (hF.step3 hl hn' h2 (World.alloc_heap_new w' _) ⟨hA.b.trans (hb.mono hA.b.size), ⟨o, c, rfl⟩, see_keep hA.see (.below hb) hb.size⟩)
      case U4 =>
        intro l val A' w' K hl hn' hd hF hfar hdep hK
        have h0 := hd 0 (by kernel_rfl)
        have h3' := hd 3 (by kernel_rfl)
        obtain ⟨b, u, e3v, hbk, hA⟩ := hF.s3 h3' hn'
        have e0 : A'.tmps[30]?.getD undef = .slice vo vn vc := (hdep 0 30 rfl (by kernel_rfl)).trans (hF.f0 h0)
        have e3 : A'.tmps[33]?.getD undef = .slice (some ⟨b, 0, none⟩) 1 1 := (hdep 3 33 rfl (by kernel_rfl)).trans e3v
        obtain ⟨o, c, rfl⟩ := hA.e
        have hbw : Below W7.heap.size W7 w' := (Below.refl _ W7).drew.trans hA.b
        have hO := HRo.out.below hbw
        have hown := own_past HOw.out hbw
        refine wp_append_any w' (.tmp 30) (.tmp 33) 22 rfl w1.heap.size 23 i0 _ 1 24 Try.underlying22 hi hz0 hz1 hz2 rfl (by decide) (.slice vo vn vc) hs.length _ (by simpa [Act.eval] using e0) hown (.slice (some ⟨b, 0, none⟩) 1 1) 1 [.slice o r.length c] (by simpa [Act.eval] using e3) (.inr ⟨_, _, rfl, rfl, World.news_of_block hbk, one_row _ rfl⟩) HS1.out HS2.out hO.b.size ?_
        intro v' w3 hown' hg hv'
        have hkv : KeepV w' w3 := .grown hg fun g e => by
          obtain ⟨cs, hc⟩ := own_cells hown g e
          exact ⟨cs, _, _, hc, by decide⟩
        refine hK _ _ (hF.step4 hl hn' h0 h3' ⟨?_, ⟨_, hown', see_keep hA.see hkv hkv.1⟩, ?_, fun x hx => see_keep (hO.see x hx) hkv hkv.1, hO.b.grown hg hO.b.size (fun k hk => (hown.lt k hk).1), ?_, ?_⟩)
        · exact grown_block hown hg ((hbw.block _ lv).trans HNv.out) (by decide)
        · have hlt := Nat.lt_of_lt_of_le (heapLt HTb.out) hbw.size
          rcases hv' with e | e
          · rw [e]; exact HNt.out
          · rw [e]
            intro e2
            have := Option.some.inj e2
            omega
        · intro k cs T hk hT _
          have hk' : w'.heap[k]? = some (.cells cs T (0, 0)) := (hbw.block _ (heapLt hk)).trans hk
          rcases hT with hT | hT
          · exact grown_block hown hg hk' hT
          · exact (hg.block k (heapLt hk') (fun e => HNt.out (by rw [← hT]; exact e.symm))).trans hk'
        · exact (keepsB hA.b _).trans (grown_keeps hown hg _)
      case U5 =>
        intro l val A' w' K hl hn' hd hF hfar hdep hK
        have h4' := hd 4 (by kernel_rfl)
        have hA := hF.s4 h4' hn'
        have e6 : A'.tmps[7]?.getD undef = .pointer (some ⟨nb, 0, none⟩) := hfar 7 (by decide)
        obtain ⟨u, hown, hsee⟩ := hA.own
        obtain ⟨g, cap, hv4, _⟩ := own_form hown (Nat.succ_pos _)
        have e4 : A'.tmps[34]?.getD undef = .slice (some ⟨g, 0, none⟩) (hs.length + 1) cap := (hdep 4 34 rfl (by kernel_rfl)).trans hv4
        rw [hv4] at hown
        have hNt4 := hA.nt
        rw [hv4] at hNt4
        have k0 := (row_cell hA.box 0).1
        have f0 := (row_cell hA.box 0).2
        have hkv : KeepV w' (w'.setCell ⟨nb, 0, none⟩ (.slice (some ⟨g, 0, none⟩) (hs.length + 1) cap)) := .grown (grown_set w' nb 0 _) fun g e => by cases e; exact ⟨_, _, _, hA.box, by decide⟩
        unfold Oper.wp
        simp [execOp, e6, e4, k0, f0, go_sem, Result.andThen]
        refine hK undef _ (hF.step5 hl hn' h4' ⟨⟨u, ⟨⟨_, setRow hA.box, own_same (by simpa using hown) (fun g' cs hg' => (setOther (fun e => by subst e; rw [hA.box] at hg'; cases hg')).trans hg')⟩, fun x hx => ?_, hA.b.setCell (by show w1.heap.size ≤ nb; have := HLt.out; omega) _⟩⟩, ⟨_, setRow hA.box, hNt4⟩, ?_, ?_⟩)
        · rcases List.mem_append.1 hx with hx | hx
          · exact see_keep (hA.see x hx) hkv hkv.1
          · rw [List.mem_singleton.1 hx]
            exact see_keep hsee hkv hkv.1
        · intro k cs T hk hT hne
          exact (setOther hne).trans (hA.k k cs T hk hT hne)
        · exact hA.f.trans (set_keeps hA.box _)
      case Ufin =>
        intro l val w3 hall hF
        have h5 := hF.s5 (hall 5 (by decide))
        obtain ⟨u, hro⟩ := h5.rows
        have hk5 := h5.k
        refine ⟨HKf.out.trans ⟨h5.f.size, h5.f.same⟩, .inr (H3.out.keepT hk5 Hm.out.1 Hm.out.2), ⟨⟨⟨hro.b, hk5 _ _ _ HTb.out (.inr rfl) (by omega)⟩, hk5 _ _ _ H4.out.g.one (.inl (by decide)) (by omega), hk5 _ _ _ H4.out.g.two (.inl (by decide)) (by omega)⟩, ⟨hs ++ [(r, u)], ?_, hro⟩, h5.nt, ?_⟩⟩
        · rw [List.map_append, HH.out]
          exact HTk.out
        · rw [HNs.out]
          exact hk5 _ _ _ H4.out.ni (.inl (by decide)) (by omega)
    | false =>
      gi_wp2_with fail
      obtain ⟨W7, hW7⟩ : ∃ W', W.setCell ⟨nb + 1, 0, none⟩ (.bool (!p)) = W' := ⟨_, rfl⟩
      have h3 : EbH ⟨n + 1, ((p, q), (r, rv)), xi, xj, xm, xz⟩ W7 := by rw [← hW7]; exact H3.out.set HNi.out
      have h4 : AdI w1 (.slice o1 A.length cap1) (.slice (some ⟨nb + 1 + 1, 0, none⟩) 1 1) (nb + 3) (nb + 3 + 1) nb (nb + 1) (nb + 1 + 1) (.slice ot t.length ct) (tk.map (fun p => p.2.1)) (!p) W7 := by rw [← hW7]; exact H4.out.set _ (by have := HLt.out; omega)
      have HKf : Hid (KeepsFrom WL.heap.size W W7) := Lib.hid (by rw [← hW7]; exact set_keeps HNi.out _)
      have HRw7 : Hid (SlOf W7 W7.heap.size 3 VlC r rv) := Lib.hid (by
        rcases HSeen.out with h | h
        · exact (HWA.out W7 h4.g.b).2 _ h
        · exact (HWB.out W7 h4.g.b).2 _ h)
      rw [hW7]
      clear hW7 in0 in1 lz ni0 nif nil
      obtain ⟨hs, hh, hr⟩ := h4.r
      obtain ⟨v, hv, ho⟩ := hr.own
      obtain ⟨vo, vn, vc, rfl⟩ : ∃ o n c, v = .slice o n c := by
        rcases hr.rows hh hv ho with ⟨e, _⟩ | ⟨a, c, e, _⟩
        · exact ⟨_, _, _, e⟩
        · exact ⟨_, _, _, e⟩
      have HNt : Hid ((Value.slice vo vn vc).ownBlock ≠ some (nb + 1 + 1)) := Lib.hid (by
        obtain ⟨v', hv', hn'⟩ := h4.nt
        rw [hv] at hv'
        cases hv'
        exact hn')
      have v0 : W7.cell? ⟨nb, 0, none⟩ = some (.slice vo vn vc) := (row_cell hv 0).1
      have lv := heapLt hv
      have hle : hs.length ≤ 2000 := by
        have e1 := congrArg List.length hh
        rw [List.length_map, List.length_map] at e1
        have := HLn.out
        omega
      have HS1 : Hid (hs.length + 1 ≤ maxLen) := Lib.hid (by unfold maxLen; omega)
      have HS2 : Hid ((hs.length + 1) * 24 ≤ 140737488355328) := Lib.hid (by omega)
      have Hm : Hid (xm ≠ nb ∧ xz ≠ nb) := Lib.hid ⟨fun e => (by have := h3.at_; simp only at this; rw [e, hv] at this; cases this), fun e => (by have := h3.in_; simp only at this; rw [e, hv] at this; cases this)⟩
      have HTb := Lib.hid h4.g.b.2
      have HH := Lib.hid hh
      have HRo := Lib.hid hr
      have HOw := Lib.hid ho
      have HNv := Lib.hid hv
      have H3 := Lib.hid h3
      have H4 := Lib.hid h4
      clear h3 h4 hh hr hv ho hle
      refine any_region (by kernel_rfl) (by kernel_rfl) (fun ⟨_, _, h⟩ => h) ?_
      (try (change wpAny _ _ _ _ _ _ _ (World.drew _)))
      refine wpAny_say [some 30, some 31, some 32, some 33, some 34, none] _ _ (FT w1 W7.drew nb (nb + 1 + 1) WL.heap.size (.slice vo vn vc) rv hs r) (by kernel_rfl) (by kernel_rfl) (by kernel_rfl) (by kernel_rfl) (by kernel_rfl) ⟨?U0, ?U1, ?U2, ?U3, ?U4, ?U5, trivial⟩ FT.start ?Ufin
      case U0 =>
        intro l val A' w' K hl hn' hd hF hfar hdep hK
        have e1 : A'.tmps[7]?.getD undef = .pointer (some ⟨nb, 0, none⟩) := hfar 7 (by decide)
        have e4 : l.getD 4 false = false := by
          cases h4 : l.getD 4 false with
          | false => rfl
          | true => exact nt hn' (hF.c0 h4)
        have cc : w'.cell? ⟨nb, 0, none⟩ = some (.slice vo vn vc) := ((hF.bel e4).cell (p := ⟨nb, 0, none⟩) lv).trans v0
        unfold Oper.wp
        simp [execOp, e1, cc, go_sem, Result.andThen]
        exact hK _ _ (hF.step0 hl hn')
      case U1 =>
        intro l val A' w' K hl hn' hd hF hfar hdep hK
        have e1 : A'.tmps[10]?.getD undef = rv := hfar 10 (by decide)
        unfold Oper.wp
        simp [execOp, e1, go_sem, Result.andThen]
        exact hK _ _ (hF.step1 hl hn')
      case U2 =>
        intro l val A' w' K hl hn' hd hF hfar hdep hK
        have e1 : A'.tmps[31]?.getD undef = rv := (hdep 1 31 rfl (by kernel_rfl)).trans (hF.f1 (hd 1 (by kernel_rfl)))
        have hb := hF.s1 hn'
        have hcall := copyRow_c r rv w' (VlS.past HRw7.out ((Below.refl _ W7).drew.trans hb)) HFr.out
        unfold Oper.wp
        simp [execOp, e1, go_sem, Result.andThen]
        refine hcall.mono ?_
        rintro e w3 ⟨⟨u, xs, rfl, ho, hlaid⟩, b2⟩
        refine hK _ _ (hF.step2 hl hn' ⟨hb.trans (b2.mono hb.size), ?_, copy_seeV ho hlaid⟩)
        rcases ho.2 with ⟨e, h0⟩ | ⟨g, cap, _, e, _⟩
        · exact ⟨none, 0, by rw [e, h0]⟩
        · exact ⟨_, _, e⟩
      case U3 =>
        intro l val A' w' K hl hn' hd hF hfar hdep hK
        have h2 := hd 2 (by kernel_rfl)
        have hA := hF.s2 h2 hn'
        obtain ⟨o, c, hu⟩ := hA.e
        rw [hu] at hA
        have e1 : A'.tmps[32]?.getD undef = .slice o r.length c := (hdep 2 32 rfl (by kernel_rfl)).trans hu
        have hb : Below w'.heap.size w' (w'.alloc (.cells #[.slice o r.length c] 23)) := (Below.refl _ _).alloc (Nat.le_refl _) _
        unfold Oper.wp
        simp [execOp, e1, go_sem, Result.andThen]
        exact hK _ _ (hF.step3 hl hn' h2 (World.alloc_heap_new w' _) ⟨hA.b.trans (hb.mono hA.b.size), ⟨o, c, rfl⟩, see_keep hA.see (.below hb) hb.size⟩)
      case U4 =>
        intro l val A' w' K hl hn' hd hF hfar hdep hK
        have h0 := hd 0 (by kernel_rfl)
        have h3' := hd 3 (by kernel_rfl)
        obtain ⟨b, u, e3v, hbk, hA⟩ := hF.s3 h3' hn'
        have e0 : A'.tmps[30]?.getD undef = .slice vo vn vc := (hdep 0 30 rfl (by kernel_rfl)).trans (hF.f0 h0)
        have e3 : A'.tmps[33]?.getD undef = .slice (some ⟨b, 0, none⟩) 1 1 := (hdep 3 33 rfl (by kernel_rfl)).trans e3v
        obtain ⟨o, c, rfl⟩ := hA.e
        have hbw : Below W7.heap.size W7 w' := (Below.refl _ W7).drew.trans hA.b
        have hO := HRo.out.below hbw
        have hown := own_past HOw.out hbw
        refine wp_append_any w' (.tmp 30) (.tmp 33) 22 rfl w1.heap.size 23 i0 _ 1 24 Try.underlying22 hi hz0 hz1 hz2 rfl (by decide) (.slice vo vn vc) hs.length _ (by simpa [Act.eval] using e0) hown (.slice (some ⟨b, 0, none⟩) 1 1) 1 [.slice o r.length c] (by simpa [Act.eval] using e3) (.inr ⟨_, _, rfl, rfl, World.news_of_block hbk, one_row _ rfl⟩) HS1.out HS2.out hO.b.size ?_
        intro v' w3 hown' hg hv'
        have hkv : KeepV w' w3 := .grown hg fun g e => by
          obtain ⟨cs, hc⟩ := own_cells hown g e
          exact ⟨cs, _, _, hc, by decide⟩
        refine hK _ _ (hF.step4 hl hn' h0 h3' ⟨?_, ⟨_, hown', see_keep hA.see hkv hkv.1⟩, ?_, fun x hx => see_keep (hO.see x hx) hkv hkv.1, hO.b.grown hg hO.b.size (fun k hk => (hown.lt k hk).1), ?_, ?_⟩)
        · exact grown_block hown hg ((hbw.block _ lv).trans HNv.out) (by decide)
        · have hlt := Nat.lt_of_lt_of_le (heapLt HTb.out) hbw.size
          rcases hv' with e | e
          · rw [e]; exact HNt.out
          · rw [e]
            intro e2
            have := Option.some.inj e2
            omega
        · intro k cs T hk hT _
          have hk' : w'.heap[k]? = some (.cells cs T (0, 0)) := (hbw.block _ (heapLt hk)).trans hk
          rcases hT with hT | hT
          · exact grown_block hown hg hk' hT
          · exact (hg.block k (heapLt hk') (fun e => HNt.out (by rw [← hT]; exact e.symm))).trans hk'
        · exact (keepsB hA.b _).trans (grown_keeps hown hg _)
      case U5 =>
        intro l val A' w' K hl hn' hd hF hfar hdep hK
        have h4' := hd 4 (by kernel_rfl)
        have hA := hF.s4 h4' hn'
        have e6 : A'.tmps[7]?.getD undef = .pointer (some ⟨nb, 0, none⟩) := hfar 7 (by decide)
        obtain ⟨u, hown, hsee⟩ := hA.own
        obtain ⟨g, cap, hv4, _⟩ := own_form hown (Nat.succ_pos _)
        have e4 : A'.tmps[34]?.getD undef = .slice (some ⟨g, 0, none⟩) (hs.length + 1) cap := (hdep 4 34 rfl (by kernel_rfl)).trans hv4
        rw [hv4] at hown
        have hNt4 := hA.nt
        rw [hv4] at hNt4
        have k0 := (row_cell hA.box 0).1
        have f0 := (row_cell hA.box 0).2
        have hkv : KeepV w' (w'.setCell ⟨nb, 0, none⟩ (.slice (some ⟨g, 0, none⟩) (hs.length + 1) cap)) := .grown (grown_set w' nb 0 _) fun g e => by cases e; exact ⟨_, _, _, hA.box, by decide⟩
        unfold Oper.wp
        simp [execOp, e6, e4, k0, f0, go_sem, Result.andThen]
        refine hK undef _ (hF.step5 hl hn' h4' ⟨⟨u, ⟨⟨_, setRow hA.box, own_same (by simpa using hown) (fun g' cs hg' => (setOther (fun e => by subst e; rw [hA.box] at hg'; cases hg')).trans hg')⟩, fun x hx => ?_, hA.b.setCell (by show w1.heap.size ≤ nb; have := HLt.out; omega) _⟩⟩, ⟨_, setRow hA.box, hNt4⟩, ?_, ?_⟩)
        · rcases List.mem_append.1 hx with hx | hx
          · exact see_keep (hA.see x hx) hkv hkv.1
          · rw [List.mem_singleton.1 hx]
            exact see_keep hsee hkv hkv.1
        · intro k cs T hk hT hne
          exact (setOther hne).trans (hA.k k cs T hk hT hne)
        · exact hA.f.trans (set_keeps hA.box _)
      case Ufin =>
        intro l val w3 hall hF
        have h5 := hF.s5 (hall 5 (by decide))
        obtain ⟨u, hro⟩ := h5.rows
        have hk5 := h5.k
        refine ⟨HKf.out.trans ⟨h5.f.size, h5.f.same⟩, .inr (H3.out.keepT hk5 Hm.out.1 Hm.out.2), ⟨⟨⟨hro.b, hk5 _ _ _ HTb.out (.inr rfl) (by omega)⟩, hk5 _ _ _ H4.out.g.one (.inl (by decide)) (by omega), hk5 _ _ _ H4.out.g.two (.inl (by decide)) (by omega)⟩, ⟨hs ++ [(r, u)], ?_, hro⟩, h5.nt, ?_⟩⟩
        · rw [List.map_append, HH.out]
          exact HTk.out
        · rw [HNs.out]
          exact hk5 _ _ _ H4.out.ni (.inl (by decide)) (by omega)
end Go.Proofs.Ytphmiifochjemaa
