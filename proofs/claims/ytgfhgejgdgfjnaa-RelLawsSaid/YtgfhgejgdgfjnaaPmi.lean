/- rel.Minus. -/
import Derived.Test.YtgfhgejgdgfjnaaPun
namespace Go.Proofs.Ytgfhgejgdgfjnaa
open Go.RowKit Go.Shelf

attribute [local go_sem] Oper.semAt_some

def onlyA {α : Type} (l : List ((Bool × Bool) × α)) : List ((Bool × Bool) × α) := l.filter fun p => !p.1.2
theorem only_snoc {α : Type} {l : List ((Bool × Bool) × α)} {n : Nat} {x : (Bool × Bool) × α} (h : l[n]? = some x) : onlyA (l.take (n + 1)) = onlyA (l.take n) ++ (if x.1.2 = true then [] else [x]) := by
  unfold onlyA
  rw [take_snoc h, List.filter_append, List.filter_cons, List.filter_nil]
  cases x.1.2 <;> rfl
theorem only_len {α : Type} (l : List ((Bool × Bool) × α)) : (onlyA l).length ≤ l.length := List.length_filter_le _ _

set_option linter.unusedSimpArgs false in
set_option maxRecDepth 100000 in
set_option maxHeartbeats 16000000 in
theorem pminus_c (a b : List Rw) (v u : Value) (w : World) (hla : a.length ≤ 1000) (hlb : b.length ≤ 1000) (h1 : RwsS w w.heap.size a v) (h2 : RwsS w w.heap.size b u) (hfa : ∀ r ∈ a, FitW r) (hfb : ∀ r ∈ b, FitW r) :
    Calls Try.prog 26 #[v, u] w fun e w' => (∃ r, e = .returned (.tuple #[r, .int .i64 (if (riseL rwC a && riseL rwC b) = true then 0 else 80)]) ∧ RwsS w' w'.heap.size (if (riseL rwC a && riseL rwC b) = true then (onlyA (bothL rwC a b)).map Prod.snd else []) r) ∧ Below w.heap.size w w' := by
  refine callsIn_wide (n := 8).1 ?_
  obtain ⟨i0, hi, hz0, hz1, hz2⟩ := info_parts infoRow
  have HP1 := Lib.hid (fun (W : World) (hb : Below w.heap.size w W) => prise_c a v W (RwsS.past h1 hb))
  have HP2 := Lib.hid (fun (W : World) (hb : Below w.heap.size w W) => prise_c b u W (RwsS.past h2 hb))
  obtain ⟨A, hA, HA0⟩ := HsS.rows h1
  obtain ⟨B, hB, HB0⟩ := HsS.rows h2
  have HA := Lib.hid HA0
  have HB := Lib.hid HB0
  have LA : Hid (A.length ≤ 1000) := Lib.hid (by rw [← hA, List.length_map] at hla; exact hla)
  have LB : Hid (B.length ≤ 1000) := Lib.hid (by rw [← hB, List.length_map] at hlb; exact hlb)
  have HFit : Hid (∀ x ∈ bothL hdC A B, FitW x.2.1) := Lib.hid (fun x hx => by
    rcases both_seen hx with h | h
    · exact hfa _ (by rw [← hA]; exact List.mem_map_of_mem h)
    · exact hfb _ (by rw [← hB]; exact List.mem_map_of_mem h))
  have HOut : Hid ((onlyA (bothL hdC A B)).map (fun p => p.2.1) = (onlyA (bothL rwC a b)).map Prod.snd) := Lib.hid (by rw [← hA, ← hB, ← both_fst]; unfold onlyA; rw [List.filter_map, List.map_map]; rfl)
  obtain ⟨ra, hra⟩ : ∃ x, riseL rwC a = x := ⟨_, rfl⟩
  obtain ⟨rb, hrb⟩ : ∃ x, riseL rwC b = x := ⟨_, rfl⟩
  rw [hra] at HP1 ⊢
  rw [hrb] at HP2 ⊢
  generalize (onlyA (bothL rwC a b)).map Prod.snd = outs at HOut ⊢
  obtain ⟨o1, cap1, rfl, hc1, hm1, _⟩ := SlOf.open HA0.1
  obtain ⟨o2, cap2, rfl, hc2, hm2, _⟩ := SlOf.open HB0.1
  clear h1 h2 hla hlb hfa hfb hA hB HA0 HB0 hra hrb
  refine callsIn_of_wp_marks Try.func26 rfl trivial ?_ rfl
  simp only [Try.ntmps26, List.size_toArray, List.length_cons, List.length_nil, Nat.reduceAdd, Nat.reduceSub, Array.replicate_succ, Array.replicate_zero, List.push_toArray, List.append_toArray, List.nil_append, List.cons_append]
  gi_wp2_with fail
  refine ⟨trivial, (callsIn_wide.2 (HP1.out w (Below.refl _ _))).mono ?_⟩
  rintro e w1 ⟨rfl, b1⟩
  have B1' := Lib.hid b1
  clear b1
  cases ra with
  | false =>
    gi_wp2_with fail
    refine ⟨trivial, ?_⟩
    gi_wp2
    exact ⟨.tuple #[.slice none 0 0, .int .i64 80], by simp [results, Try.results26, go_sem], ⟨_, rfl, .inl ⟨rfl, rfl⟩⟩, B1'.out⟩
  | true =>
  gi_wp2_with fail
  refine ⟨trivial, (callsIn_wide.2 (HP2.out w1 B1'.out)).mono ?_⟩
  rintro e w2 ⟨rfl, b2⟩
  have B2' := Lib.hid (B1'.out.trans (b2.mono B1'.out.size))
  clear b2
  cases rb with
  | false =>
    gi_wp2
    exact ⟨.tuple #[.slice none 0 0, .int .i64 80], by simp [results, Try.results26, go_sem], ⟨_, rfl, .inl ⟨rfl, rfl⟩⟩, B2'.out⟩
  | true =>
  gi_wp2_with fail
  obtain ⟨W3, hW3⟩ : ∃ W, w2.alloc (.cells #[.slice none 0 0] 23) = W := ⟨_, rfl⟩
  obtain ⟨nb, hnb⟩ : ∃ k, w2.heap.size = k := ⟨_, rfl⟩
  have z3 : W3.heap.size = nb + 1 := by rw [← hW3, ← hnb]; simp
  have r3 : W3.heap[nb]? = some (.cells #[.slice none 0 0] 23 (0, 0)) := by rw [← hW3, ← hnb]; exact World.alloc_heap_new w2 _
  have b3 : Below w2.heap.size w2 W3 := by rw [← hW3]; exact (Below.refl _ _).alloc (Nat.le_refl _) _
  rw [hW3, hnb]
  have HNB := Lib.hid hnb
  have Z3 := Lib.hid z3
  have R3 := Lib.hid r3
  have B3' := Lib.hid b3
  clear z3 r3 b3 hW3 hnb
  refine ⟨trivial, (eob_in 7 _ _ _ _ _ _ _).mono ?_⟩
  rintro e WL ⟨rfl, hWL⟩
  have HWA := Lib.hid (HA.out.below B2'.out B2'.out.size)
  have HWB := Lib.hid (HB.out.below B2'.out B2'.out.size)
  have hbL : Below W3.heap.size W3 WL := by rw [hWL]; exact ((Below.refl _ W3).alloc (Nat.le_refl _) _).alloc (by simp) _
  have HI0 : Hid (UnI w2 w2 (.slice o1 A.length cap1) (.slice o2 B.length cap2) (nb + 1) (nb + 1 + 1) nb [] WL) := Lib.hid (by
    refine ⟨⟨B3'.out.trans (hbL.mono B3'.out.size), ?_, ?_⟩, [], rfl, ⟨⟨.slice none 0 0, (hbL.block _ (heapLt R3.out)).trans R3.out, World.ownsRow_nil _ _ _ _⟩, fun x hx => (by cases hx), B3'.out.trans (hbL.mono B3'.out.size)⟩⟩
    · rw [hWL]
      exact row_more (newRow Z3.out) _
    · rw [hWL]
      exact newRow (by simp; exact Z3.out))
  have HZL : Hid (WL.heap.size = nb + 3) := Lib.hid (by rw [hWL]; simp; have := Z3.out; omega)
  rw [Z3.out]
  clear hWL hbL
  gi_wp2_with fail
  refine range_moves2 rfl (by omega) (gf := 52) (bd := #[]) (lb := #[.pointer (some ⟨nb + 1, 0, none⟩), .pointer (some ⟨nb + 1 + 1, 0, none⟩)]) rfl trivial (enters_of Try.func52 (by kernel_rfl) rfl)
    (eob_moves 7 (by omega) A B _ _ w2 (nb + 1) (nb + 1 + 1) HWA.out HWB.out (by have := LA.out; omega) (by have := LB.out; omega)) (fun _ => rfl)
    (fun x W => ∃ n, x.n = n + 1 ∧ (bothL hdC A B)[n]? = some x.e ∧ EbH x W ∧ UnI w2 w2 (.slice o1 A.length cap1) (.slice o2 B.length cap2) (nb + 1) (nb + 1 + 1) nb ((onlyA ((bothL hdC A B).take n)).map (fun p => p.2.1)) W)
    (fun x W => (x.n = 0 ∨ EbH x W) ∧ UnI w2 w2 (.slice o1 A.length cap1) (.slice o2 B.length cap2) (nb + 1) (nb + 1 + 1) nb ((onlyA ((bothL hdC A B).take x.n)).map (fun p => p.2.1)) W)
    (fun _ _ => False)
    (fun W => UnI w2 w2 (.slice o1 A.length cap1) (.slice o2 B.length cap2) (nb + 1) (nb + 1 + 1) nb outs W)
    (fun x a' W => ∃ (n z2 : Nat) (t0 t1 t2 t3 t4 t5 t9 t10 t11 t12 t13 t14 t15 t16 t17 t18 t19 t20 t21 t22 t23 t24 t25 t26 t27 t28 t29 t30 : Value), W.heap[z2]? = some (.cells #[.bool x.e.1.1, .bool x.e.1.2] 55 (0, 0)) ∧ x.n = n + 1 ∧ (bothL hdC A B)[n]? = some x.e ∧ EbH x W ∧ UnI w2 w2 (.slice o1 A.length cap1) (.slice o2 B.length cap2) (nb + 1) (nb + 1 + 1) nb ((onlyA ((bothL hdC A B).take n)).map (fun p => p.2.1)) W ∧ a' = { tmps := #[t0, t1, t2, t3, t4, t5, .pointer (some ⟨nb, 0, none⟩), .pointer (some ⟨z2, 0, none⟩), x.e.2.2, t9, t10, t11, t12, t13, t14, t15, t16, t17, t18, t19, t20, t21, t22, t23, t24, t25, t26, t27, t28, t29, t30], defers := [] })
    ?fB ?fX ?fZ ?fM ?h0 ?hB ?assign ?body ?done ?stop
  case fB =>
    rintro x W W' hp ⟨h1, h2⟩
    exact ⟨h1.imp id fun h => h.put hp, h2.put hp (by rw [HZL.out, HNB.out]; omega) (Nat.le_refl _)⟩
  case fX =>
    rintro c W W' hp h
    exact h.elim
  case fZ =>
    rintro W W' hp h
    exact h.put hp (by rw [HZL.out, HNB.out]; omega) (Nat.le_refl _)
  case fM =>
    rintro x a' W W' hp ⟨n, z2, t0, t1, t2, t3, t4, t5, t9, t10, t11, t12, t13, t14, t15, t16, t17, t18, t19, t20, t21, t22, t23, t24, t25, t26, t27, t28, t29, t30, h0, h1, h2, h3, h4, h5⟩
    exact ⟨n, z2, t0, t1, t2, t3, t4, t5, t9, t10, t11, t12, t13, t14, t15, t16, t17, t18, t19, t20, t21, t22, t23, t24, t25, t26, t27, t28, t29, t30, put_block hp h0 (.inl rfl), h1, h2, h3.put hp, h4.put hp (by rw [HZL.out, HNB.out]; omega) (Nat.le_refl _), h5⟩
  case h0 =>
    intro o o'
    exact ⟨.inl rfl, HI0.out.below (((Below.refl _ _).alloc (Nat.le_refl _) _).alloc (by simp) _)⟩
  case hB =>
    rintro x W1 ⟨h1, h2⟩
    refine ⟨⟨h2.g, h1⟩, ?_, ?_⟩
    · rintro x' W2 ⟨t1, t2, t3, t4⟩
      exact ⟨tm_keeps t3 _, x.n, t1, t2, t4, h2.tm t3 (Nat.le_refl _)⟩
    · rintro W2 ⟨t1, t2⟩
      refine ⟨tm_keeps t2 _, ?_⟩
      have h3 := h2.tm t2 (Nat.le_refl _)
      rw [t1, List.take_length, HOut.out] at h3
      exact h3
  case assign =>
    rintro lp x W ⟨n, h1, h2, h3, h4⟩
    have hb := (Below.refl W.heap.size W).alloc (Nat.le_refl _) (.cells #[.bool x.e.1.1, .bool x.e.1.2] 55)
    have HK := Lib.hid (keepsB hb WL.heap.size)
    have Hr := Lib.hid (World.alloc_heap_new W (.cells #[.bool x.e.1.1, .bool x.e.1.2] 55))
    have H3 := Lib.hid (h3.below hb)
    have H4 := Lib.hid (h4.below hb)
    clear h3 h4 hb
    gi_wp2
    exact ⟨HK.out, n, W.heap.size, _, _, _, _, _, _, _, _, _, _, _, _, _, _, _, _, _, _, _, _, _, _, _, _, _, _, _, _, Hr.out, h1, h2, H3.out, H4.out, by trivial⟩
  case done =>
    rintro D W hD hI hd
    obtain ⟨hs, hh, hr⟩ := hI.r
    obtain ⟨v, hv, ho⟩ := hr.own
    have hrows : RwsS W W.heap.size outs v := hr.rows hh hv ho
    have HR := Lib.hid hrows
    have HBe := Lib.hid (B2'.out.trans (hr.b.mono B2'.out.size))
    have Hd := Lib.hid hd
    have HDn : Hid (w.heap.size ≤ D) := Lib.hid (by have := HZL.out; have := HNB.out; have := B2'.out.size; omega)
    obtain ⟨vo, vn, vc, rfl⟩ : ∃ o n c, v = .slice o n c := by
      rcases hrows with ⟨e, _⟩ | ⟨a, c, e, _⟩
      · exact ⟨_, _, _, e⟩
      · exact ⟨_, _, _, e⟩
    have v0 : W.cell? ⟨nb, 0, none⟩ = some (.slice vo vn vc) := (row_cell hv 0).1
    have lv := heapLt hv
    clear hI hr hv ho hrows hd hh
    gi_wp2
    exact ⟨by simp, .inl ⟨_, _, rfl, run_takeDeferred Hd.out, .tuple #[.slice vo vn vc, .int .i64 0], by simp [results, Try.results26, go_sem], ⟨_, rfl, RwsS.put2 HR.out ⟨D, _, _, HDn.out, Hd.out, rfl, rfl, rfl⟩⟩, put_gone HBe.out HDn.out⟩⟩
  case stop =>
    rintro D c W hD h hd
    exact h.elim
  case body =>
    rintro lp x a' W ⟨n, z2, t0, t1, t2, t3, t4, t5, t9, t10, t11, t12, t13, t14, t15, t16, t17, t18, t19, t20, t21, t22, t23, t24, t25, t26, t27, t28, t29, t30, hz, h1, h2, h3, h4, rfl⟩
    obtain ⟨xn, ⟨⟨p, q⟩, ⟨r, rv⟩⟩, xi, xj, xm, xz⟩ := x
    simp only at h1 h2 hz
    subst h1
    have in0 : W.cell? ⟨z2, 0, none⟩ = some (.bool p) := (row_cell hz 0).1
    have in1 : W.cell? ⟨z2, 1, none⟩ = some (.bool q) := (row_cell hz 1).1
    have lz := heapLt hz
    clear hz
    have HTq := Lib.hid (only_snoc h2)
    obtain ⟨hs, hh, hr⟩ := h4.r
    obtain ⟨v, hv, ho⟩ := hr.own
    obtain ⟨vo, vn, vc, rfl⟩ : ∃ o n c, v = .slice o n c := by
      rcases hr.rows hh hv ho with ⟨e, _⟩ | ⟨a, c, e, _⟩
      · exact ⟨_, _, _, e⟩
      · exact ⟨_, _, _, e⟩
    have v0 : W.cell? ⟨nb, 0, none⟩ = some (.slice vo vn vc) := (row_cell hv 0).1
    have lv := heapLt hv
    have HRw : Hid (SlOf W W.heap.size 3 VlC r rv) := Lib.hid (by
      rcases both_seen (List.mem_of_getElem? h2) with h | h
      · exact VlS.past (HWA.out.2 _ h) h4.g.b
      · exact VlS.past (HWB.out.2 _ h) h4.g.b)
    have HFr : Hid (FitW r) := Lib.hid (HFit.out ((p, q), (r, rv)) (List.mem_of_getElem? h2))
    have hle : hs.length ≤ 2000 := by
      have e1 := congrArg List.length hh
      have e2 := both_len (c := hdC) A B
      have := LA.out
      have := LB.out
      have e3 := only_len ((bothL hdC A B).take n)
      rw [List.length_map, List.length_map] at e1
      rw [List.length_take] at e3
      omega
    have HS1 : Hid (hs.length + 1 ≤ maxLen) := Lib.hid (by unfold maxLen; omega)
    have HS2 : Hid ((hs.length + 1) * 24 ≤ 140737488355328) := Lib.hid (by omega)
    have Hm : Hid (xm ≠ nb ∧ xz ≠ nb) := Lib.hid ⟨fun e => (by have := h3.at_; simp only at this; rw [e, hv] at this; cases this), fun e => (by have := h3.in_; simp only at this; rw [e, hv] at this; cases this)⟩
    have HH := Lib.hid hh
    have HRo := Lib.hid hr
    have HOw := Lib.hid ho
    have HNv := Lib.hid hv
    have H3 := Lib.hid h3
    have H4 := Lib.hid h4
    clear h2 h3 h4 hh hr hv ho hle
    cases q with
    | true =>
      have HTk : Hid (UnI w2 w2 (.slice o1 A.length cap1) (.slice o2 B.length cap2) (nb + 1) (nb + 1 + 1) nb ((onlyA ((bothL hdC A B).take (n + 1))).map (fun p => p.2.1)) W) := Lib.hid (by rw [HTq.out, if_pos rfl, List.append_nil]; exact H4.out)
      gi_wp2
      exact ⟨KeepsFrom.refl _ _, H3.out, HTk.out⟩
    | false =>
    have HTk : Hid ((onlyA ((bothL hdC A B).take n)).map (fun p => p.2.1) ++ [r] = (onlyA ((bothL hdC A B).take (n + 1))).map (fun p => p.2.1)) := Lib.hid (by rw [HTq.out, if_neg (by simp), List.map_append]; rfl)
    gi_wp2_with fail
    refine any_region (by kernel_rfl) (by kernel_rfl) (fun ⟨_, _, h⟩ => h) ?_
    (try (change wpAny _ _ _ _ _ _ _ (World.drew _)))
    refine wpAny_say [some 25, some 26, some 27, some 28, some 29, none] _ _ (FA w2 W.drew nb WL.heap.size (.slice vo vn vc) rv hs r) (by kernel_rfl) (by kernel_rfl) (by kernel_rfl) (by kernel_rfl) (by kernel_rfl) ⟨?U0, ?U1, ?U2, ?U3, ?U4, ?U5, trivial⟩ FA.start ?Ufin
    case U0 =>
      intro l val A' w' K hl hn' hd hF hfar hdep hK
      have e1 : A'.tmps[6]?.getD undef = .pointer (some ⟨nb, 0, none⟩) := hfar 6 (by decide)
      have e4 : l.getD 4 false = false := by
        cases h4 : l.getD 4 false with
        | false => rfl
        | true => exact nt hn' (hF.c0 h4)
      have cc : w'.cell? ⟨nb, 0, none⟩ = some (.slice vo vn vc) := ((hF.bel e4).cell (p := ⟨nb, 0, none⟩) lv).trans v0
      unfold Oper.wp
      simp [execOp, e1, cc, go_sem, Result.andThen]
      exact hK _ _ (hF.step0 hl hn')
    case U1 =>
      intro l val A' w' K hl hn' hd hF hfar hdep hK
      have e1 : A'.tmps[8]?.getD undef = rv := hfar 8 (by decide)
      unfold Oper.wp
      simp [execOp, e1, go_sem, Result.andThen]
      exact hK _ _ (hF.step1 hl hn')
    case U2 =>
      intro l val A' w' K hl hn' hd hF hfar hdep hK
      have e1 : A'.tmps[26]?.getD undef = rv := (hdep 1 26 rfl (by kernel_rfl)).trans (hF.f1 (hd 1 (by kernel_rfl)))
      have hb := hF.s1 hn'
      have hcall := copyRow_c r rv w' (VlS.past HRw.out ((Below.refl _ W).drew.trans hb)) HFr.out
      unfold Oper.wp
      simp [execOp, e1, go_sem, Result.andThen]
      refine hcall.mono ?_
      rintro e w3 ⟨⟨u, xs, rfl, ho, hlaid⟩, b2⟩
      refine hK _ _ (hF.step2 hl hn' ⟨hb.trans (b2.mono hb.size), ?_, copy_seeV ho hlaid⟩)
      rcases ho.2 with ⟨e, h0⟩ | ⟨g, cap, _, e, _⟩
      · exact ⟨none, 0, by rw [e, h0]⟩
      · exact ⟨_, _, e⟩
    case U3 =>
      intro l val A' w' K hl hn' hd hF hfar hdep hK
      have h2 := hd 2 (by kernel_rfl)
      have hA := hF.s2 h2 hn'
      obtain ⟨o, c, hu⟩ := hA.e
      rw [hu] at hA
      have e1 : A'.tmps[27]?.getD undef = .slice o r.length c := (hdep 2 27 rfl (by kernel_rfl)).trans hu
      have hb : Below w'.heap.size w' (w'.alloc (.cells #[.slice o r.length c] 22)) := (Below.refl _ _).alloc (Nat.le_refl _) _
      unfold Oper.wp
      simp [execOp, e1, go_sem, Result.andThen]
      exact hK _ _ (hF.step3 hl hn' h2 (World.alloc_heap_new w' _) ⟨hA.b.trans (hb.mono hA.b.size), ⟨o, c, rfl⟩, see_keep hA.see (.below hb) hb.size⟩)
    case U4 =>
      intro l val A' w' K hl hn' hd hF hfar hdep hK
      have h0 := hd 0 (by kernel_rfl)
      have h3' := hd 3 (by kernel_rfl)
      obtain ⟨b, u, e3v, hbk, hA⟩ := hF.s3 h3' hn'
      have e0 : A'.tmps[25]?.getD undef = .slice vo vn vc := (hdep 0 25 rfl (by kernel_rfl)).trans (hF.f0 h0)
      have e3 : A'.tmps[28]?.getD undef = .slice (some ⟨b, 0, none⟩) 1 1 := (hdep 3 28 rfl (by kernel_rfl)).trans e3v
      obtain ⟨o, c, rfl⟩ := hA.e
      have hbw : Below W.heap.size W w' := (Below.refl _ W).drew.trans hA.b
      have hO := HRo.out.below hbw
      have hown := own_past HOw.out hbw
      refine wp_append_any w' (.tmp 25) (.tmp 28) 23 rfl w2.heap.size 22 i0 _ 1 24 Try.underlying23 hi hz0 hz1 hz2 rfl (by decide) (.slice vo vn vc) hs.length _ (by simpa [Act.eval] using e0) hown (.slice (some ⟨b, 0, none⟩) 1 1) 1 [.slice o r.length c] (by simpa [Act.eval] using e3) (.inr ⟨_, _, rfl, rfl, World.news_of_block hbk, one_row _ rfl⟩) HS1.out HS2.out hO.b.size ?_
      intro v' w3 hown' hg hv'
      have hkv : KeepV w' w3 := .grown hg fun g e => by
        obtain ⟨cs, hc⟩ := own_cells hown g e
        exact ⟨cs, _, _, hc, by decide⟩
      refine hK _ _ (hF.step4 hl hn' h0 h3' ⟨?_, ⟨_, hown', see_keep hA.see hkv hkv.1⟩, fun x hx => see_keep (hO.see x hx) hkv hkv.1, hO.b.grown hg hO.b.size (fun k hk => (hown.lt k hk).1), ?_, ?_⟩)
      · exact grown_block hown hg ((hbw.block _ lv).trans HNv.out) (by decide)
      · intro k cs T hk hT _
        exact grown_block hown hg ((hbw.block _ (heapLt hk)).trans hk) hT
      · exact (keepsB hA.b _).trans (grown_keeps hown hg _)
    case U5 =>
      intro l val A' w' K hl hn' hd hF hfar hdep hK
      have h4' := hd 4 (by kernel_rfl)
      have hA := hF.s4 h4' hn'
      have e6 : A'.tmps[6]?.getD undef = .pointer (some ⟨nb, 0, none⟩) := hfar 6 (by decide)
      obtain ⟨u, hown, hsee⟩ := hA.own
      obtain ⟨g, cap, hv4, _⟩ := own_form hown (Nat.succ_pos _)
      have e4 : A'.tmps[29]?.getD undef = .slice (some ⟨g, 0, none⟩) (hs.length + 1) cap := (hdep 4 29 rfl (by kernel_rfl)).trans hv4
      rw [hv4] at hown
      have k0 := (row_cell hA.box 0).1
      have f0 := (row_cell hA.box 0).2
      have hkv : KeepV w' (w'.setCell ⟨nb, 0, none⟩ (.slice (some ⟨g, 0, none⟩) (hs.length + 1) cap)) := .grown (grown_set w' nb 0 _) fun g e => by cases e; exact ⟨_, _, _, hA.box, by decide⟩
      unfold Oper.wp
      simp [execOp, e6, e4, k0, f0, go_sem, Result.andThen]
      refine hK undef _ (hF.step5 hl hn' h4' ⟨⟨u, ⟨⟨_, setRow hA.box, own_same (by simpa using hown) (fun g' cs hg' => (setOther (fun e => by subst e; rw [hA.box] at hg'; cases hg')).trans hg')⟩, fun x hx => ?_, hA.b.setCell (by show w2.heap.size ≤ nb; have := HNB.out; omega) _⟩⟩, ?_, ?_⟩)
      · rcases List.mem_append.1 hx with hx | hx
        · exact see_keep (hA.see x hx) hkv hkv.1
        · rw [List.mem_singleton.1 hx]
          exact see_keep hsee hkv hkv.1
      · intro k cs T hk hT hne
        exact (setOther hne).trans (hA.k k cs T hk hT hne)
      · exact hA.f.trans (set_keeps hA.box _)
    case Ufin =>
      intro l val w3 hall hF
      have h5 := hF.s5 (hall 5 (by decide))
      obtain ⟨u, hro⟩ := h5.rows
      refine ⟨⟨h5.f.size, h5.f.same⟩, .inr (H3.out.keepO h5.k Hm.out.1 Hm.out.2), ⟨⟨hro.b, h5.k _ _ _ H4.out.g.one (by decide) (by omega), h5.k _ _ _ H4.out.g.two (by decide) (by omega)⟩, hs ++ [(r, u)], ?_, hro⟩⟩
      rw [List.map_append, HH.out]
      exact HTk.out
end Go.Proofs.Ytgfhgejgdgfjnaa
