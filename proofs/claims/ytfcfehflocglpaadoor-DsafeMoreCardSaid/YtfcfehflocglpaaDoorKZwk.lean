/- dsafe.walkThrough. dsafe.Order, dsafe.Invents. dsafe.Bound. -/
import Derived.Test.YtfcfehflocglpaaDoorKZy4
import Derived.Test.YtfcfehflocglpaaDoorKZn
namespace Go.Proofs.YtfcfehflocglpaaDoor
open Go.RowKit Go.Shelf Go.Maps Go.WideMaps

attribute [local go_sem] Oper.semAt_some

/-- How a rule is gone through. -/
inductive WkR (n0 : Nat) (w : World) (a : Addr) (r : Ru) : Ending → World → Prop
  | tree {w' : World} : rightR r = false → Below n0 w w' → WkR n0 w a r (.returned (.tuple #[.agg #[.slice none 0 0, .map none, .bool false], errV a])) w'
  | ready {w' : World} (k : Int) : rightR r = true → safeZ r = false → Below n0 w w' → WkR n0 w a r (.returned (.tuple #[.agg #[.slice none 0 0, .map none, .bool false], .iface 126 (.agg #[.int .i64 k])])) w'
  | bound {w' : World} (s : ByteArray) : rightR r = true → safeZ r = false → Below n0 w w' → WkR n0 w a r (.returned (.tuple #[.agg #[.slice none 0 0, .map none, .bool false], .iface 131 (.agg #[.string s])])) w'
  | good {w' : World} {v : Value} {M n c : Nat} : rightR r = true → safeZ r = true → SlOf w' w'.heap.size 1 IntC (orderZ r) v → MapI Tryd.prog w' 9 3 M n (boundZ r) c → n0 ≤ M → Below n0 w w' → WkR n0 w a r (.returned (.tuple #[.agg #[v, .map (some M), .bool (invZ r)], .nilIface])) w'
theorem loadVar_walk {W : World} {b : Nat} {c0 c1 c2 : Value} (h : W.heap[b]? = some (.cells #[c0, c1, c2] 95 (0, 0))) : (loadVar 95 ⟨b, 0, none⟩).run Tryd.prog W = .ok (.agg #[c0, c1, c2]) W :=
  run_loadVar_row W b 95 95 _ (0, 0) _ h Tryd.underlying95 rfl (by kernel_rfl)
def slotsS : List (Option Tmp) := [some 15, some 16, some 17, some 18, some 19]
def factsS (r : Ru) (rc : List Value) (n0 nb M : Nat) : List (Value → World → Prop) :=
  [fun v _ => v = .agg rc.toArray, fun v W => ∃ S, nb < S ∧ LeftOk S W v (partsZ r) ∧ (∀ g, v.ownBlock = some g → n0 ≤ g), fun v _ => v = .pointer (some ⟨nb, 1, none⟩), fun v _ => v = .map (some M),
   fun v W => ∃ S Bp v0, nb < S ∧ LeftOk S W v0 (partsZ r) ∧ (∀ g, v0.ownBlock = some g → n0 ≤ g) ∧ SBoxes Bp (Bp + 1) M v0 W ∧ v = .func (.func 101) #[] #[.pointer (some ⟨Bp, 0, none⟩), .pointer (some ⟨Bp + 1, 0, none⟩)]]
theorem factsS_mono (r : Ru) (rc : List Value) (n0 nb M : Nat) : ∀ p ∈ factsS r rc n0 nb M, ∀ v w w', p v w → Below w.heap.size w w' → p v w' := by
  intro p hp v w w' h hb
  unfold factsS at hp
  simp only [List.mem_cons, List.not_mem_nil, or_false] at hp
  rcases hp with rfl | rfl | rfl | rfl | rfl
  · exact h
  · obtain ⟨S, h1, h2, h3⟩ := h; exact ⟨S, h1, h2.below hb, h3⟩
  · exact h
  · exact h
  · obtain ⟨S, Bp, v0, h1, h2, h3, h4, h5⟩ := h; exact ⟨S, Bp, v0, h1, h2.below hb, h3, h4.below hb, h5⟩

set_option linter.unusedSimpArgs false in
set_option maxRecDepth 100000 in
set_option maxHeartbeats 16000000 in
theorem walkThrough_in (r : Ru) (cs : List Value) (t a u : Addr) (n0 : Nat) (w : World) (hn0 : w.heap.size = n0) (hc : RuC w n0 r cs) (hf : FewR r) (hp : FewP' (partsZ r)) (E : ZEnv n0 a u w) (T : TErr t w) :
    CallsIn Fence.wide 8 Tryd.prog 53 #[.agg cs.toArray] w (WkR n0 w a r) := by
  obtain ⟨o0, k0, o1, k1, rfl, _, hh, hbd⟩ := hc.look
  have hmm := @run_makeMap Tryd.prog
  have HC := Lib.hid hc
  have HF := Lib.hid hf
  have HP := Lib.hid hp
  have HE := Lib.hid E
  have HT := Lib.hid T
  have HH := Lib.hid hh
  have Hn0 := Lib.hid hn0
  clear hc hf hp E T hh hbd
  refine callsIn_of_wp_marks Tryd.func53 rfl trivial ?_ rfl
  simp only [Tryd.ntmps53, List.size_toArray, List.length_cons, List.length_nil, Nat.reduceAdd, Nat.reduceSub, Array.replicate_succ, Array.replicate_zero, List.push_toArray, List.append_toArray, List.nil_append, List.cons_append]
  gi_wp2_with fail
  obtain ⟨W3, hW3⟩ : ∃ W3, (((w.alloc (.cells #[.string r.head.rel, .slice o0 r.head.l.length k0, .slice o1 r.body.length k1, .int .i64 r.line] 27)).alloc (.cells #[.slice none 0 0, .map none, .bool false] 95)).alloc (.cells #[.nilIface] 80)) = W3 := ⟨_, rfl⟩
  have hb3 : Below w.heap.size w W3 := by rw [← hW3]; exact (((Below.refl _ _).alloc (Nat.le_refl _) _).alloc (by simp) _).alloc (by simp; omega) _
  have F3 : FxI n0 w [.string r.head.rel, .slice o0 r.head.l.length k0, .slice o1 r.body.length k1, .int .i64 r.line] W3 := by
    rw [← hW3, ← hn0]
    refine ⟨(((Below.refl _ _).alloc (Nat.le_refl _) _).alloc (by simp) _).alloc (by simp; omega) _, ?_, ?_, ?_⟩
    · exact (Below.heap_alloc _ _ _ (by simp; omega)).trans ((Below.heap_alloc _ _ _ (by simp)).trans (World.alloc_heap_new w _))
    · have h1 := World.alloc_heap_new (w.alloc (.cells #[.string r.head.rel, .slice o0 r.head.l.length k0, .slice o1 r.body.length k1, .int .i64 r.line] 27)) (.cells #[.slice none 0 0, .map none, .bool false] 95)
      rw [World.size_alloc] at h1
      exact (Below.heap_alloc _ _ _ (by simp)).trans h1
    · have h1 := World.alloc_heap_new ((w.alloc (.cells #[.string r.head.rel, .slice o0 r.head.l.length k0, .slice o1 r.body.length k1, .int .i64 r.line] 27)).alloc (.cells #[.slice none 0 0, .map none, .bool false] 95)) (.cells #[.nilIface] 80)
      rw [World.size_alloc, World.size_alloc] at h1
      exact h1
  have F3 := Lib.hid F3
  have H1 := Lib.hid (rightRule_c r t W3 _ ((HC.out.below (by rw [← hn0]; exact hb3)).more (by rw [← hn0]; exact F3.out.b.size)) (HT.out.below hb3))
  have HB3 := Lib.hid hb3
  have e0 : w.heap.size = n0 := hn0
  rw [hW3]
  try rw [e0]
  clear hW3 hb3
  refine ⟨trivial, (callsIn_wide.2 H1.out).mono ?_⟩
  rintro e w1 ⟨rfl, b1⟩
  have F1 := Lib.hid (F3.out.below b1)
  have E1 := Lib.hid (HE.out.below F1.out.b)
  have HBw := Lib.hid (HB3.out.trans (b1.mono HB3.out.size))
  obtain ⟨x0, x1, x2, x3⟩ := row4 F1.out.rule
  have l0 := heap_lt F1.out.rule
  clear b1 H1 F3 HB3
  cases hr : rightR r with
  | false =>
    have Hr := Lib.hid hr
    have g0 := E1.out.tr
    have gl : 5 < w1.heap.size := Nat.lt_of_lt_of_le E1.out.big.1 (by rw [← Hn0.out]; exact F1.out.b.size)
    have lk := heap_lt F1.out.wk
    have le := heap_lt F1.out.er
    clear hr
    unfold errV at g0
    obtain ⟨⟨y0, y1, y2⟩, y3, y4, y5⟩ := row3 F1.out.wk
    have q0 : w1.cell? ⟨n0 + 1 + 1, 0, none⟩ = some .nilIface := row_cells F1.out.er 0
    have q1 : w1.frozen? ⟨n0 + 1 + 1, 0, none⟩ = false := frz_row F1.out.er 0
    have hgn : 5 < n0 := E1.out.big.1
    have hn1 : ¬ (n0 = 5 - 1) := by omega
    have hn2 : ¬ (5 - 1 = n0) := by omega
    have hn3 : ¬ (5 = n0 + 1) := by omega
    simp only [Nat.reduceSub] at hn1 hn2
    clear hgn
    gi_wp2_with fail
    refine wpIn_wide.2 ?_
    go_region
    have hx := setW (.slice none 0 0) (.map none) (.bool false) (.iface 193 (.pointer (some a))) (F1.out.b.drew) (by omega) (by omega) (show w1.drew.heap[n0 + 1]? = _ from F1.out.wk) (show w1.drew.heap[n0 + 1 + 1]? = _ from F1.out.er) (by omega)
    have Hx := Lib.hid hx
    clear hx y0 y1 y2 y3 y4 y5 q0 q1
    gi_wp2
    refine ⟨_, results_cell2 rfl _ _ (n0 + 1) (n0 + 1 + 1) _ _ rfl (loadVar_walk Hx.out.1) rfl (loadVar_err (row_cells Hx.out.2.1 0)), ?_⟩
    exact .tree Hr.out Hx.out.2.2
  | true =>
  have Hr := Lib.hid hr
  clear hr
  gi_wp2_with fail
  obtain ⟨M, hM⟩ : ∃ M, w1.heap.size = M := ⟨_, rfl⟩
  obtain ⟨W5, hW5⟩ : ∃ W, ((w1.alloc (.map #[] 0)).alloc (.cells #[.slice none 0 0, .map (some w1.heap.size), .bool false] 95)) = W := ⟨_, rfl⟩
  have hb5 : Below w1.heap.size w1 W5 := by rw [← hW5]; exact ((Below.refl _ _).alloc (Nat.le_refl _) _).alloc (by simp) _
  have F5 := Lib.hid (F1.out.below hb5)
  have HBw := Lib.hid (HBw.out.trans (hb5.mono HBw.out.size))
  have hm5 : MapI Tryd.prog W5 9 3 M 0 (fun _ => 0) 0 := by
    have := (mapI_made Tryd.prog w1 9 3).alloc (.cells #[.slice none 0 0, .map (some w1.heap.size), .bool false] 95)
    rw [hW5, hM] at this
    exact this
  have hr5 : W5.heap[M + 1]? = some (.cells #[.slice none 0 0, .map (some M), .bool false] 95 (0, 0)) := by
    have h1 := World.alloc_heap_new (w1.alloc (.map #[] 0)) (.cells #[.slice none 0 0, .map (some w1.heap.size), .bool false] 95)
    rw [World.size_alloc, hW5, hM] at h1
    exact h1
  have hs5 : W5.heap.size = M + 2 := by rw [← hW5, ← hM]; simp
  rw [hW5, hM]
  have HM5 := Lib.hid hm5
  have HR5 := Lib.hid hr5
  have HS5 := Lib.hid hs5
  have HnM : Hid (n0 + 3 ≤ M) := Lib.hid (by rw [← hM]; have := heap_lt F1.out.er; omega)
  clear hb5 hm5 hr5 hs5 hW5 hM x0 x1 x2 x3 l0
  obtain ⟨x0, x1, x2, x3⟩ := row4 F5.out.rule
  refine wpIn_wide.2 ?_
  refine wp_region_any (by kernel_rfl) ?_
  (try (change wpAny _ _ _ _ _ _ _ (World.drew _)))
  refine wpAny_grow slotsS _ _ (factsS r [.string r.head.rel, .slice o0 r.head.l.length k0, .slice o1 r.body.length k1, .int .i64 r.line] n0 (M + 1) M) (by kernel_rfl) (by kernel_rfl) (by kernel_rfl) (by kernel_rfl) (by kernel_rfl) (factsS_mono _ _ _ _ _) ⟨?s0, ?s1, ?s2, ?s3, ?s4, trivial⟩ ?fin
  case s0 =>
    intro A' w' K hb hfar hd hK
    have e1 : A'.tmps[1]?.getD undef = .pointer (some ⟨n0, 0, none⟩) := hfar 1 (by decide)
    obtain ⟨z0, z1, z2, z3⟩ := row4 ((hb.block _ (heap_lt F5.out.rule)).trans F5.out.rule)
    unfold Oper.wp
    simp [execOp, e1, z0, z1, z2, z3, go_sem, Result.andThen]
    exact hK _ _ (Below.refl _ _) (factG_mk rfl rfl)
  case s1 =>
    intro A' w' K hb hfar hd hK
    have e15 : A'.tmps[15]?.getD undef = .agg ([.string r.head.rel, .slice o0 r.head.l.length k0, .slice o1 r.body.length k1, .int .i64 r.line] : List Value).toArray := hd 0 15 rfl (by kernel_rfl) _ rfl
    have hbw : Below w.heap.size w w' := HBw.out.trans (((Below.refl _ W5).drew.trans hb).mono HBw.out.size)
    have hP := partsOf_c r _ w' ((HC.out.below (by rw [← Hn0.out]; exact hbw)).more (by rw [← Hn0.out]; exact hbw.size)) HF.out
    unfold Oper.wp
    simp [execOp, e15, go_sem, Result.andThen]
    refine hP.mono ?_
    rintro e3 w3 ⟨v, xs, rfl, ho, hl, b3⟩
    refine hK _ _ b3 (factG_mk rfl ⟨w3.heap.size, ?_, ⟨Nat.le_refl _, xs, own_base ho (Nat.zero_le _), hl⟩, fun g hg => ?_⟩)
    · have h1 := hb.size
      have h2 := b3.size
      have h3 := HS5.out
      have h4 : W5.drew.heap.size = W5.heap.size := rfl
      omega
    · have h1 := (ho.lt g hg).1
      have h2 := hb.size
      have h3 := HS5.out
      have h4 : W5.drew.heap.size = W5.heap.size := rfl
      have h5 := HnM.out
      omega
  case s2 =>
    intro A' w' K hb hfar hd hK
    have e4 : A'.tmps[4]?.getD undef = .pointer (some ⟨M + 1, 0, none⟩) := hfar 4 (by decide)
    unfold Oper.wp
    simp [execOp, e4, go_sem, Result.andThen]
    exact hK _ _ (Below.refl _ _) (factG_mk rfl rfl)
  case s3 =>
    intro A' w' K hb hfar hd hK
    have e17 : A'.tmps[17]?.getD undef = .pointer (some ⟨M + 1, 1, none⟩) := hd 2 17 rfl (by kernel_rfl) _ rfl
    have z1 := (row3 ((hb.block _ (heap_lt HR5.out)).trans HR5.out)).1.2.1
    unfold Oper.wp
    simp [execOp, e17, z1, go_sem, Result.andThen]
    exact hK _ _ (Below.refl _ _) (factG_mk rfl rfl)
  case s4 =>
    intro A' w' K hb hfar hd hK
    obtain ⟨v0, e16⟩ : ∃ v, A'.tmps[16]?.getD undef = v := ⟨_, rfl⟩
    obtain ⟨S, hS1, hS2, hS3⟩ : ∃ S, M + 1 < S ∧ LeftOk S w' (A'.tmps[16]?.getD undef) (partsZ r) ∧ (∀ g, (A'.tmps[16]?.getD undef).ownBlock = some g → n0 ≤ g) := hd 1 16 rfl (by kernel_rfl) _ rfl
    have e18 : A'.tmps[18]?.getD undef = .map (some M) := hd 3 18 rfl (by kernel_rfl) _ rfl
    rw [e16] at hS2 hS3
    obtain ⟨o, c, rfl⟩ : ∃ o c, v0 = .slice o (partsZ r).length c := by obtain ⟨_, xs, h1, _⟩ := hS2; exact own_shape h1
    have hst := callsIn_wide.1 (steps_in 8 o (partsZ r).length c M w')
    unfold Oper.wp
    simp [execOp, e16, e18, go_sem, Result.andThen]
    refine hst.mono ?_
    rintro e3 w3 ⟨rfl, rfl⟩
    have hb3 : Below w'.heap.size w' ((w'.alloc (.cells #[.slice o (partsZ r).length c] 119)).alloc (.cells #[.map (some M)] 93)) := ((Below.refl _ _).alloc (Nat.le_refl _) _).alloc (by simp) _
    refine hK _ _ hb3 (factG_mk rfl ⟨S, w'.heap.size, _, hS1, hS2.below hb3, hS3, ⟨?_, ?_⟩, rfl⟩)
    · exact (Below.heap_alloc _ _ _ (by simp)).trans (World.alloc_heap_new w' _)
    · have h1 := World.alloc_heap_new (w'.alloc (.cells #[.slice o (partsZ r).length c] 119)) (.cells #[.map (some M)] 93)
      rwa [World.size_alloc] at h1
  case fin =>
    intro val w6 hF hb
    obtain ⟨S, Bp, v0, hS1, hS2, hS3, hS4, hS5⟩ : ∃ S Bp v0, M + 1 < S ∧ LeftOk S w6 v0 (partsZ r) ∧ (∀ g, v0.ownBlock = some g → n0 ≤ g) ∧ SBoxes Bp (Bp + 1) M v0 w6 ∧ val 4 = .func (.func 101) #[] #[.pointer (some ⟨Bp, 0, none⟩), .pointer (some ⟨Bp + 1, 0, none⟩)] := hF 4 19 rfl _ rfl
    have hb6 : Below W5.heap.size W5 w6 := (Below.refl _ W5).drew.trans hb
    have F6 := Lib.hid (F5.out.below hb6)
    have HR6 := Lib.hid ((hb6.block _ (heap_lt HR5.out)).trans HR5.out)
    have HM6 := Lib.hid (HM5.out.below hb6 HM5.out.lt)
    have HS6 : Hid (M + 2 ≤ w6.heap.size) := Lib.hid (by rw [← HS5.out]; exact hb6.size)
    have HS1 := Lib.hid hS1
    have HS2 := Lib.hid hS2
    have HS3 := Lib.hid hS3
    have HS4 := Lib.hid hS4
    have HBw := Lib.hid (HBw.out.trans (hb6.mono HBw.out.size))
    simp only [slotsS, putsA, Nat.zero_add, Nat.reduceAdd]
    rw [hS5]
    generalize val 0 = v15
    generalize val 1 = v16
    generalize val 2 = v17
    generalize val 3 = v18
    clear hF hb hb6 hS1 hS2 hS3 hS4 hS5 val x0 x1 x2 x3
    go_simp
    gi_wp2_with fail
    have hsh : ∃ o c, v0 = .slice o (partsZ r).length c := by obtain ⟨_, xs, h1, _⟩ := HS2.out; exact own_shape h1
    obtain ⟨i0, hi, hz0, hz1, hz2⟩ := info_parts info_int
    have HI0 := Lib.hid (BSt.start (S := S) (n0 := n0) (Bp := Bp) (nb := M + 1) (base := w6.heap.size) HP.out HS4.out HM6.out HS2.out HS3.out HR6.out F6.out (Nat.le_refl _))
    have HnS : Hid (n0 + 3 ≤ M + 1 ∧ M + 1 < S ∧ n0 ≤ M ∧ M < w6.heap.size ∧ n0 ≤ w6.heap.size ∧ S ≤ w6.heap.size) := Lib.hid (by
      have h1 := HnM.out
      have h2 := HS6.out
      have h3 := HS1.out
      have h4 := HS2.out.1
      omega)
    refine range_moves2 rfl (by omega) (gf := 101) (bd := #[]) (lb := #[.pointer (some ⟨Bp, 0, none⟩), .pointer (some ⟨Bp + 1, 0, none⟩)]) rfl trivial (enters_of Tryd.func101 (by kernel_rfl) rfl)
      (steps_moves 7 (by omega) S Bp (Bp + 1) M v0 (partsZ r) (fun _ => 0) HP.out) (fun _ => rfl)
      (fun x W => ASt r S n0 Bp M (M + 1) w6.heap.size v0 w [.string r.head.rel, .slice o0 r.head.l.length k0, .slice o1 r.body.length k1, .int .i64 r.line] x W)
      (fun x W => BSt r S n0 Bp M (M + 1) w6.heap.size v0 w [.string r.head.rel, .slice o0 r.head.l.length k0, .slice o1 r.body.length k1, .int .i64 r.line] x W)
      (fun _ _ => False)
      (fun W => ZSt r n0 M (M + 1) w6.heap.size w [.string r.head.rel, .slice o0 r.head.l.length k0, .slice o1 r.body.length k1, .int .i64 r.line] W)
      (fun x a' W => ASt r S n0 Bp M (M + 1) w6.heap.size v0 w [.string r.head.rel, .slice o0 r.head.l.length k0, .slice o1 r.body.length k1, .int .i64 r.line] x W ∧ ∃ (zb : Nat) (t6 t7 t8 t9 t10 t11 t12 t13 t14 t15 t16 t17 t18 t19 t20 t21 t22 t23 t24 t25 t26 t27 t28 t29 t30 t31 t32 t33 t34 t35 t36 t37 t38 t39 t40 t41 t42 t43 t44 t45 t46 t47 t48 t49 t50 t51 t52 t53 t54 t55 t56 t57 t58 t59 t60 t61 t62 t63 t64 t65 t66 t67 : Value), W.heap[zb]? = some (.cells x.cs.toArray 122 (0, 0)) ∧ a' = { tmps := #[.agg ([.string r.head.rel, .slice o0 r.head.l.length k0, .slice o1 r.body.length k1, .int .i64 r.line] : List Value).toArray, .pointer (some ⟨n0, 0, none⟩), .pointer (some ⟨n0 + 1, 0, none⟩), .pointer (some ⟨n0 + 1 + 1, 0, none⟩), .pointer (some ⟨M + 1, 0, none⟩), .pointer (some ⟨zb, 0, none⟩), t6, t7, t8, t9, t10, t11, t12, t13, t14, t15, t16, t17, t18, t19, t20, t21, t22, t23, t24, t25, t26, t27, t28, t29, t30, t31, t32, t33, t34, t35, t36, t37, t38, t39, t40, t41, t42, t43, t44, t45, t46, t47, t48, t49, t50, t51, t52, t53, t54, t55, t56, t57, t58, t59, t60, t61, t62, t63, t64, t65, t66, t67], defers := [] })
      ?fB ?fX ?fZ ?fM ?h0 ?hB ?assign ?body ?done ?stop
    case fB =>
      rintro x W W' hp h
      exact h.put hp HnS.out.2.2.2.1 HnS.out.2.2.2.2.1
    case fX =>
      rintro c W W' hp h
      exact h.elim
    case fZ =>
      rintro W W' hp h
      exact h.put hp HnS.out.2.2.2.1 HnS.out.2.2.2.2.1
    case fM =>
      rintro x a' W W' hp ⟨h, zb, t6, t7, t8, t9, t10, t11, t12, t13, t14, t15, t16, t17, t18, t19, t20, t21, t22, t23, t24, t25, t26, t27, t28, t29, t30, t31, t32, t33, t34, t35, t36, t37, t38, t39, t40, t41, t42, t43, t44, t45, t46, t47, t48, t49, t50, t51, t52, t53, t54, t55, t56, t57, t58, t59, t60, t61, t62, t63, t64, t65, t66, t67, h1, h2⟩
      exact ⟨h.put hp HnS.out.2.2.2.1 HnS.out.2.2.2.2.1, zb, t6, t7, t8, t9, t10, t11, t12, t13, t14, t15, t16, t17, t18, t19, t20, t21, t22, t23, t24, t25, t26, t27, t28, t29, t30, t31, t32, t33, t34, t35, t36, t37, t38, t39, t40, t41, t42, t43, t44, t45, t46, t47, t48, t49, t50, t51, t52, t53, t54, t55, t56, t57, t58, t59, t60, t61, t62, t63, t64, t65, t66, t67, put_block hp h1 (.inl rfl), h2⟩
    case h0 =>
      intro o o'
      exact HI0.out.below (((Below.refl _ _).alloc (Nat.le_refl _) _).alloc (by simp) _)
    case hB =>
      rintro x W1 h
      refine ⟨h.g, ?_, ?_⟩
      · rintro x' W2 ht
        have hw : n0 ≤ W1.heap.size := by rw [← Hn0.out]; exact h.fx.b.size
        exact ⟨fr_keeps ht.fr HnS.out.2.2.2.1 h.g.left, h.nextA ht HnS.out.2.2.1 hw⟩
      · rintro W2 he
        exact ⟨fr_keeps he.fr HnS.out.2.2.2.1 h.g.left, h.over he HnS.out.2.2.1⟩
    case assign =>
      rintro lp x W h
      obtain ⟨i, p, hch⟩ := h.ch
      obtain ⟨q0, q1, q2, q3, q4, q5, q6, q7, q8, q9, q10, q11, q12, q13, q14, q15, e17, _⟩ := (h.g.box i p hch).2.1.look
      obtain ⟨cs, hcs⟩ : ∃ cs, x.cs = cs := ⟨_, rfl⟩
      rw [hcs] at e17
      have Hcs := Lib.hid hcs
      rw [hcs]
      subst e17
      have hb := fun o => (Below.refl W.heap.size W).alloc (Nat.le_refl _) o
      have HK := Lib.hid (fun o => KeepsFrom.of_grownBy (B := w6.heap.size) (row := none) ⟨(hb o).os, (hb o).tape, (hb o).output, (hb o).size, fun k hk _ => (hb o).block k hk⟩ (fun j e => by cases e))
      have H := Lib.hid (fun o => h.below (hb o))
      have HR := Lib.hid (fun o => World.alloc_heap_new W o)
      clear h hb hch hcs
      gi_wp2
      refine ⟨HK.out _, H.out _, W.heap.size, _, _, _, _, _, _, _, _, _, _, _, _, _, _, _, _, _, _, _, _, _, _, _, _, _, _, _, _, _, _, _, _, _, _, _, _, _, _, _, _, _, _, _, _, _, _, _, _, _, _, _, _, _, _, _, _, _, _, _, _, _, _, ?_, by trivial⟩
      exact HR.out _
    case stop =>
      rintro D c W hD h hd
      exact h.elim
    case body =>
      rintro lp x a' W ⟨hA, zb, t6, t7, t8, t9, t10, t11, t12, t13, t14, t15, t16, t17, t18, t19, t20, t21, t22, t23, t24, t25, t26, t27, t28, t29, t30, t31, t32, t33, t34, t35, t36, t37, t38, t39, t40, t41, t42, t43, t44, t45, t46, t47, t48, t49, t50, t51, t52, t53, t54, t55, t56, t57, t58, t59, t60, t61, t62, t63, t64, t65, t66, t67, hz, rfl⟩
      obtain ⟨i, p, hch⟩ := hA.ch
      obtain ⟨l, hl, hwk⟩ := hA.l
      obtain ⟨v, hv, ho⟩ := hwk.row
      obtain ⟨ov, cv, rfl⟩ := own_shape ho
      have hpt := (hA.g.box i p hch).2.1
      obtain ⟨n5, c5, _, hmp⟩ := hA.g.m
      have hll := hA.few hl
      have hp2 := HP.out.n
      have hS1 : l.length + 1 ≤ maxLen := by unfold maxLen; omega
      have hS2 : (l.length + 1) * 8 ≤ 140737488355328 := by omega
      obtain ⟨X, hX⟩ : ∃ X : Obj, .cells #[.int .i64 (p.place : Int)] 3 = X := ⟨_, rfl⟩
      have hbX : Below W.heap.size W (W.alloc X) := (Below.refl _ _).alloc (Nat.le_refl _) _
      have hsp : Spread (W.alloc X) 1 (.slice (some ⟨W.heap.size, 0, none⟩) 1 1) 1 [.int .i64 (p.place : Int)] := .inr ⟨⟨W.heap.size, 0, none⟩, 1, rfl, rfl, fun j u hj => by rw [← hX]; exact World.news_of_block (World.alloc_heap_new W _) j u (by simpa using hj), by simp [Value.oneCell']⟩
      have hbase : w6.heap.size ≤ (W.alloc X).heap.size := Nat.le_trans hA.sz hbX.size
      have hl17 : x.cs.length = 17 := hpt.len
      have hzn : zb ≠ M + 1 := fun e => by
        rw [e, hv] at hz
        injection hz with h1
        injection h1 with _ h2 _
        exact absurd h2 (by decide)
      have hpl : W.cell? ⟨zb, 0, none⟩ = some (.int .i64 (p.place : Int)) := by
        obtain ⟨q0, q1, q2, q3, q4, q5, q6, q7, q8, q9, q10, q11, q12, q13, q14, q15, e17, _⟩ := hpt.look
        have := row_cells hz 0
        rw [e17] at this
        exact this
      obtain ⟨bn, hbn⟩ : ∃ b, (l.any fun x => inventsZ x.2 x.1) = b := ⟨_, rfl⟩
      rw [hbn] at hv
      obtain ⟨⟨y0, y1, y2⟩, f0, f1, f2⟩ := row3 hv
      have lv := heap_lt hv
      have lz := heap_lt hz
      have HA := Lib.hid hA
      have HO := Lib.hid ho
      have HOX := Lib.hid (own_below ho hbX)
      have HX := Lib.hid hbX
      have Hz := Lib.hid hz
      have Hv := Lib.hid hv
      have Hl := Lib.hid hl
      have Hch := Lib.hid hch
      have Hbn := Lib.hid hbn
      have Hpt := Lib.hid hpt
      have Hmp := Lib.hid hmp
      have Hsp := Lib.hid hsp
      have HS12 := Lib.hid (And.intro hS1 hS2)
      have Hbase := Lib.hid hbase
      subst hX
      clear hA hz hv hl hwk ho hpt hmp hch hbX hsp hS1 hS2 hbase hbn hll hp2
      cases bn with
      | true =>
        gi_wp2_with (gi_at_builtin; refine wpListIn_append_any _ rfl (.tmp 22) (.tmp 25) 37 rfl w6.heap.size 3 i0 _ 1 8 Tryd.underlying37 hi hz0 hz1 hz2 rfl (by decide) (.slice ov l.length cv) l.length _ (by simp [Act.eval, Act.put]) HOX.out (.slice (some ⟨W.heap.size, 0, none⟩) 1 1) 1 _ (by simp [Act.eval, Act.put]) Hsp.out HS12.out.1 HS12.out.2 Hbase.out ?_; intro v5 W5 hown5 hg5 _; obtain ⟨o5, c5', rfl⟩ := own_shape hown5; have hv5 := (hg5.block _ (Nat.lt_of_lt_of_le lv HX.out.size) (fun e => row_obj HO.out Hv.out (by decide) e.symm)).trans ((HX.out.block _ lv).trans Hv.out); have hz5 := (hg5.block _ (Nat.lt_of_lt_of_le lz HX.out.size) (fun e => row_obj HO.out Hz.out (by decide) e.symm)).trans ((HX.out.block _ lz).trans Hz.out); obtain ⟨⟨y0', y1', y2'⟩, f0', f1', f2'⟩ := row3 hv5; have lv5 := heap_lt hv5; have lz5 := heap_lt hz5; have HOwn5 := Lib.hid hown5; have HG5 := Lib.hid hg5; have Hv5 := Lib.hid hv5; have Hz5 := Lib.hid hz5; clear hown5 hg5 hv5 hz5)
        refine ⟨trivial, ?_⟩
        gi_wp2
        have hk8 : KeepW S (M + 1) W ((W5.setCell ⟨M + 1, 0, none⟩ (.slice o5 (l.length + 1) c5')).setCell ⟨M + 1, 2, none⟩ (.bool true)) := (((KeepW.below HX.out).trans (KeepW.row HOX.out HnS.out.2.2.2.2.2 HG5.out)).trans .set).trans .set
        have hnb : ∀ c ∈ (#[.slice ov l.length cv, .map (some M), .bool true] : Array Value).toList, ∀ s, c ≠ .string s := by
          intro c hc s e
          subst e
          simp at hc
        have hr8 := rowSet (rowSet Hv5.out 0 (.slice o5 (l.length + 1) c5')) 2 (.bool true)
        have ho8 := own_set (own_set HOwn5.out (b := M + 1) (k := 0) (u := .slice o5 (l.length + 1) c5') (row_obj HOwn5.out Hv5.out (by decide))) (b := M + 1) (k := 2) (u := .bool true) (row_obj HOwn5.out Hv5.out (by decide))
        exact ⟨hk8.keeps Hv.out, HA.out.took Hch.out Hl.out hk8 Hv.out hnb HnS.out.1 HnS.out.2.1 (WkI.mk' (bn := true) (by simpa using hr8) (by rw [Hbn.out, Bool.true_or]) ho8)⟩
      | false =>
        gi_wp2_with (first | (gi_at_builtin; refine wpListIn_append_any _ rfl (.tmp 22) (.tmp 25) 37 rfl w6.heap.size 3 i0 _ 1 8 Tryd.underlying37 hi hz0 hz1 hz2 rfl (by decide) (.slice ov l.length cv) l.length _ (by simp [Act.eval, Act.put]) HOX.out (.slice (some ⟨W.heap.size, 0, none⟩) 1 1) 1 _ (by simp [Act.eval, Act.put]) Hsp.out HS12.out.1 HS12.out.2 Hbase.out ?_; intro v5 W5 hown5 hg5 _; obtain ⟨o5, c5', rfl⟩ := own_shape hown5; have hv5 := (hg5.block _ (Nat.lt_of_lt_of_le lv HX.out.size) (fun e => row_obj HO.out Hv.out (by decide) e.symm)).trans ((HX.out.block _ lv).trans Hv.out); have hz5 := (hg5.block _ (Nat.lt_of_lt_of_le lz HX.out.size) (fun e => row_obj HO.out Hz.out (by decide) e.symm)).trans ((HX.out.block _ lz).trans Hz.out); obtain ⟨⟨y0', y1', y2'⟩, f0', f1', f2'⟩ := row3 hv5; have lv5 := heap_lt hv5; have lz5 := heap_lt hz5; have HOwn5 := Lib.hid hown5; have HG5 := Lib.hid hg5; have Hv5 := Lib.hid hv5; have Hz5 := Lib.hid hz5; clear hown5 hg5 hv5 hz5) | (refine wpListIn_load17 (by first | (simp [Region.wanted]; done) | (simp [Region.wanted, yielded]; done) | kernel_rfl) (.tmp 5) rfl ⟨zb, 0, none⟩ (by simp [Act.eval, Act.put]) hl17 (row_at ((set_oth hzn).trans Hz5.out)) ?_))
        have hk5 : KeepW S (M + 1) W (W5.setCell ⟨M + 1, 0, none⟩ (.slice o5 (l.length + 1) c5')) := ((KeepW.below HX.out).trans (KeepW.row HOX.out HnS.out.2.2.2.2.2 HG5.out)).trans .set
        have hnb : ∀ c ∈ (#[.slice ov l.length cv, .map (some M), .bool false] : Array Value).toList, ∀ s, c ≠ .string s := by
          intro c hc s e
          subst e
          simp at hc
        have hg6 := HA.out.g.keepW hk5 Hv.out hnb
        obtain ⟨n6, c6, _, hm6⟩ := hg6.m
        have hp6 : PtC (W5.setCell ⟨M + 1, 0, none⟩ (.slice o5 (l.length + 1) c5')) S p x.cs := (hg6.box i p Hch.out).2.1
        have hiv := invents_c p x.cs M n6 c6 x.st.B _ (hp6.cells (fun _ _ h => h) hg6.left.1) hm6
        refine ⟨trivial, (CallsIn.inRound lp (callsIn_wide.2 hiv)).mono ?_⟩
        rintro e7 W7 ⟨rfl, b7⟩
        have hv6 : (W5.setCell ⟨M + 1, 0, none⟩ (.slice o5 (l.length + 1) c5')).heap[M + 1]? = some (.cells #[.slice o5 (l.length + 1) c5', .map (some M), .bool false] 95 (0, 0)) := by simpa using rowSet Hv5.out 0 (.slice o5 (l.length + 1) c5')
        have hv7 := (b7.block _ (heap_lt hv6)).trans hv6
        have HK7 := Lib.hid (hk5.trans (.below b7))
        have hown7 := own_below (own_set HOwn5.out (b := M + 1) (k := 0) (u := .slice o5 (l.length + 1) c5') (row_obj HOwn5.out Hv5.out (by decide))) b7
        obtain ⟨⟨z0', z1', z2'⟩, g0', g1', g2'⟩ := row3 hv7
        have lv7 := heap_lt hv7
        have Hv7 := Lib.hid hv7
        have HOwn7 := Lib.hid hown7
        have Hnb := Lib.hid hnb
        clear hk5 hg6 hm6 hp6 hiv b7 hv6 hv7 hown7 hnb
        gi_wp2
        have hk8 : KeepW S (M + 1) W (W7.setCell ⟨M + 1, 2, none⟩ (.bool (inventsZ x.st.B p))) := HK7.out.trans .set
        have hr8 := rowSet Hv7.out 2 (.bool (inventsZ x.st.B p))
        have ho8 := own_set HOwn7.out (b := M + 1) (k := 2) (u := .bool (inventsZ x.st.B p)) (row_obj HOwn7.out Hv7.out (by decide))
        exact ⟨hk8.keeps Hv.out, HA.out.took Hch.out Hl.out hk8 Hv.out Hnb.out HnS.out.1 HnS.out.2.1 (WkI.mk' (bn := inventsZ x.st.B p) (by simpa using hr8) (by rw [Hbn.out, Bool.false_or]) ho8)⟩
    case done =>
      rintro D W hD h hd
      obtain ⟨v, hv, ho⟩ := h.l.row
      obtain ⟨ov, cv, rfl⟩ := own_shape ho
      obtain ⟨⟨y0, y1, y2⟩, _, _, _⟩ := row3 hv
      obtain ⟨x0, x1, x2, x3⟩ := row4 h.fx.rule
      obtain ⟨⟨p0, p1, p2⟩, p3, p4, p5⟩ := row3 h.fx.wk
      have q0 : W.cell? ⟨n0 + 1 + 1, 0, none⟩ = some .nilIface := row_cells h.fx.er 0
      have q1 : W.frozen? ⟨n0 + 1 + 1, 0, none⟩ = false := frz_row h.fx.er 0
      have lv := heap_lt hv
      have lr := heap_lt h.fx.rule
      have lk := heap_lt h.fx.wk
      have le : n0 + 1 + 1 < W.heap.size := heap_lt h.fx.er
      have HBl : Hid (r.body.length ≤ 2000) := Lib.hid (by have := HP.out.n; unfold partsZ at this; rw [List.length_mapIdx] at this; exact this)
      have hbl := HBl.out
      have hsl := order_sl ho (by omega)
      have hlen : (orderZ r).length = (walkZ r).1.length := by unfold orderZ; rw [List.length_map]
      have HSl := Lib.hid hsl
      have HZ := Lib.hid h
      have HO := Lib.hid ho
      have Hv := Lib.hid hv
      obtain ⟨dd, hdd⟩ : ∃ dd : List Deferred, [{ target := .collected D, args := #[] }] = dd := ⟨_, rfl⟩
      have Hdd := Lib.hid hdd
      have HMk : Hid (MksW w6.heap.size [D] W) := Lib.hid ⟨(by simp), fun E hE => by rw [List.mem_singleton.1 hE]; exact ⟨hD, hd⟩⟩
      rw [hdd]
      clear h hv ho hd hsl hdd
      gi_wp2_with fail
      refine wpIn_loop (fun a wr => ∃ (k : Nat) (u6 u41 u42 u43 u44 u45 u46 u47 u52 : Value), k ≤ r.body.length ∧ wr = W ∧ Hid (∀ j : Nat, j < k → memI (orderZ r) (j : Int) = true) ∧ a = { tmps := #[.agg ([.string r.head.rel, .slice o0 r.head.l.length k0, .slice o1 r.body.length k1, .int .i64 r.line] : List Value).toArray, .pointer (some ⟨n0, 0, none⟩), .pointer (some ⟨n0 + 1, 0, none⟩), .pointer (some ⟨n0 + 1 + 1, 0, none⟩), .pointer (some ⟨M + 1, 0, none⟩), undef, u6, undef, .agg ([.string r.head.rel, .slice o0 r.head.l.length k0, .slice o1 r.body.length k1, .int .i64 r.line] : List Value).toArray, .bool true, .bool false, undef, undef, .map (some M), .agg #[.slice none 0 0, .map (some M), .bool false], v15, v16, v17, v18, .func (.func 101) #[] #[.pointer (some ⟨Bp, 0, none⟩), .pointer (some ⟨Bp + 1, 0, none⟩)], undef, undef, undef, undef, undef, undef, undef, undef, undef, undef, undef, undef, undef, undef, undef, undef, undef, .pointer (some ⟨n0, 2, none⟩), .slice o1 r.body.length k1, .int .i64 r.body.length, .int .i64 k, u41, u42, u43, u44, u45, u46, u47, undef, undef, undef, undef, u52, undef, undef, undef, undef, undef, undef, undef, undef, undef, undef, undef, undef, undef, undef, undef], defers := dd }) (fun a _ => r.body.length - (intOf (a.tmps.getD 40 undef)).toNat) ?start ?round
      case start => exact ⟨0, _, _, _, _, _, _, _, _, _, Nat.zero_le _, rfl, Lib.hid (fun j h => absurd h (Nat.not_lt_zero _)), rfl⟩
      case round =>
        rintro a wr ⟨k, u6, u41, u42, u43, u44, u45, u46, u47, u52, hk, rfl, Hin, rfl⟩
        by_cases hlt : k < r.body.length
        · have hlt' : (k : Int) < (r.body.length : Int) := by omega
          have wk1 : IntKind.i64.wrap ((k : Int) + 1) = (k : Int) + 1 := by rw [IntKind.wrap_i64]; omega
          have HCo := Lib.hid (containsI_c (orderZ r) (k : Int) _ wr HSl.out)
          gi_wp2_with fail
          refine ⟨trivial, (callsIn_wide.2 HCo.out).mono ?_⟩
          rintro e8 w8 ⟨rfl, rfl⟩
          cases hm : memI (orderZ r) (k : Int) with
          | true =>
            have Hin2 : Hid (∀ j : Nat, j < k + 1 → memI (orderZ r) (j : Int) = true) := Lib.hid (fun j hj => by
              by_cases e : j = k
              · rw [e]; exact hm
              · exact Hin.out j (by omega))
            clear hm
            gi_wp2
            refine ⟨⟨k + 1, _, _, _, _, _, _, _, _, _, hlt, by first | trivial | rfl, Hin2, by go_num⟩, ?_⟩
            simp [intOf]
            omega
          | false =>
            have HN := Lib.hid (come_no hlt hm)
            have HF := Lib.hid (FinI.of HZ.out.fx (.slice none 0 0) (.map none) (.bool false) (.iface 126 (.agg #[.int .i64 k])))
            clear hm
            gi_wp2
            rw [← Hdd.out]
            refine leave_marks (B := w6.heap.size) (S := FinI n0 w (.slice none 0 0) (.map none) (.bool false) (.iface 126 (.agg #[.int .i64 k]))) (fun W W' hp h => h.put hp HnS.out.2.2.2.2.1) [D] _ ⟨(by simp), fun E hE => ⟨(HMk.out.at_ E hE).1, (setW_oth (by have := (HMk.out.at_ E hE).1; have := HnS.out; omega) (by have := (HMk.out.at_ E hE).1; have := HnS.out; omega)).trans (HMk.out.at_ E hE).2⟩⟩ HF.out ?_
            intro W' h
            exact ⟨_, results_cell2 rfl _ _ (n0 + 1) (n0 + 1 + 1) _ _ rfl (loadVar_walk h.wk) rfl (loadVar_err (row_cells h.er 0)), .ready (k : Int) Hr.out HN.out h.b⟩
        · have hlt' : ¬ (k : Int) < (r.body.length : Int) := by omega
          have hke : k = r.body.length := by omega
          subst hke
          have HCome := Lib.hid (come_yes Hin.out)
          gi_wp2_with fail
          refine ⟨trivial, (zeach_in 7 _ _ _ _).mono ?_⟩
          rintro e9 W9 ⟨rfl, hW9⟩
          have hb9 : Below wr.heap.size wr W9 := by rw [hW9]; exact (Below.refl _ _).alloc (Nat.le_refl _) _
          have hbx9 : W9.heap[wr.heap.size]? = some (.cells #[.slice o0 r.head.l.length k0] 22 (0, 0)) := by rw [hW9]; exact World.alloc_heap_new wr _
          have hs9 : W9.heap.size = wr.heap.size + 1 := by rw [hW9]; simp
          have hB9 : W9.cell? ⟨wr.heap.size, 0, none⟩ = some (.slice o0 r.head.l.length k0) := row_cells hbx9 0
          have hw9 : Below w.heap.size w W9 := by
            have h1 : Below w.heap.size w wr := by rw [Hn0.out]; exact HZ.out.fx.b
            exact h1.trans (hb9.mono h1.size)
          have hh9 : TmS W9 n0 r.head.l (.slice o0 r.head.l.length k0) := by
            obtain ⟨vv, e, _, h⟩ := HH.out
            cases e
            exact h.below (by rw [← Hn0.out]; exact hw9)
          have safe9 : Safe (fun _ _ => False) W9 W9 := fun p c hp => ⟨hp, World.block_lt_of_cell? _ _ hp, id⟩
          obtain ⟨nB, cB, _, hmB⟩ := HZ.out.m
          have hm9 := hmB.below hb9 hmB.lt
          have F9 := Lib.hid (HZ.out.fx.below hb9)
          have Hv9 := Lib.hid ((hb9.block _ (heap_lt Hv.out)).trans Hv.out)
          have HO9 := Lib.hid (own_below HO.out hb9)
          have HM9 := Lib.hid hm9
          have HMk9 : Hid (MksW w6.heap.size [D] W9) := Lib.hid ⟨HMk.out.nd, fun E hE => ⟨(HMk.out.at_ E hE).1, (hb9.block _ (heap_lt (HMk.out.at_ E hE).2)).trans (HMk.out.at_ E hE).2⟩⟩
          have hGd : ∀ s ∈ occ (subTs r.head.l), s.size ≤ 281474976710656 := (HF.out.p _ (List.mem_cons_self ..)).s
          have HGd := Lib.hid hGd
          have hs9l : wr.heap.size + 1 ≤ W9.heap.size := by omega
          clear hW9 hmB hm9 hbx9 y0 y1 y2 x0 x1 x2 x3 p0 p1 p2 p3 p4 p5 q0 q1 lv lr lk le
          gi_wp2_with fail
          refine wpIn_rangeFunc_ownH rfl (by omega) (gf := 115) (lb := #[.pointer (some ⟨wr.heap.size, 0, none⟩)]) rfl trivial (enters_of Tryd.func115 (by kernel_rfl) rfl)
            (zeach_stops 7 wr.heap.size n0 r.head.l (.slice o0 r.head.l.length k0) W9 W9 (fun _ _ => False) (fun _ _ _ _ _ h => h) safe9 (fun _ h => h.elim) hB9 hh9 (G := fun s => s.size ≤ 281474976710656) hGd) (fun h k => h.trans k) ?hKb (Below.refl _ _) (fun _ => rfl)
            (fun pre W => (∀ x ∈ pre, hasZ (boundZ r) x.s = true) ∧ Below W9.heap.size W9 W)
            (fun cd pre W => (cd = .ret ∧ ∃ x ∈ pre, hasZ (boundZ r) x.s = false ∧ FinI n0 w (.slice none 0 0) (.map none) (.bool false) (.iface 131 (.agg #[.string x.s])) W) ∧ MksW w6.heap.size [D] W) ?hI ?hIx ⟨by simp, Below.refl _ _⟩
            (fun x a' W => a' = { tmps := #[.agg ([.string r.head.rel, .slice o0 r.head.l.length k0, .slice o1 r.body.length k1, .int .i64 r.line] : List Value).toArray, .pointer (some ⟨n0, 0, none⟩), .pointer (some ⟨n0 + 1, 0, none⟩), .pointer (some ⟨n0 + 1 + 1, 0, none⟩), .pointer (some ⟨M + 1, 0, none⟩), undef, u6, .string x.s, .agg ([.string r.head.rel, .slice o0 r.head.l.length k0, .slice o1 r.body.length k1, .int .i64 r.line] : List Value).toArray, .bool true, .bool false, undef, undef, .map (some M), .agg #[.slice none 0 0, .map (some M), .bool false], v15, v16, v17, v18, .func (.func 101) #[] #[.pointer (some ⟨Bp, 0, none⟩), .pointer (some ⟨Bp + 1, 0, none⟩)], undef, undef, undef, undef, undef, undef, undef, undef, undef, undef, undef, undef, undef, undef, undef, undef, undef, .pointer (some ⟨n0, 2, none⟩), .slice o1 r.body.length k1, .int .i64 r.body.length, .int .i64 r.body.length, .bool false, u42, u43, u44, u45, u46, u47, undef, undef, undef, undef, u52, .pointer (some ⟨n0, 0, none⟩), .pointer (some ⟨n0, 1, none⟩), .slice o0 r.head.l.length k0, .func (.func 115) #[] #[.pointer (some ⟨wr.heap.size, 0, none⟩)], .string x.s, undef, undef, undef, undef, undef, undef, undef, undef, undef, undef], defers := [] })
            ?hAx ?assign ?body2 ?done2 ?stop2
          case hKb =>
            intro W l o o' hl ho hc _
            exact ⟨by simp, fun i x hi hx _ => (World.putObj_heap_other (by rintro rfl; rw [ho] at hi; cases hi; rw [hc] at hx; cases hx)).trans hi, fun _ h => h.elim, fun _ _ h => h.elim⟩
          case hI =>
            rintro pre A B1 row ⟨h1, h2⟩ hg hr
            exact ⟨h1, ownFrom_below (β := Unit) (Nat.le_refl _) (Nat.le_refl _) () A B1 row h2 hg hr⟩
          case hIx =>
            rintro cd pre A B1 row ⟨⟨h0, x, h1, h2, h3⟩, h4⟩ hg hr
            have hk : ∀ i, i < W9.heap.size → i < A.heap.size → B1.heap[i]? = A.heap[i]? := fun i hi hA => hg.block i hA (fun e => by have h := (hr _ e.symm).1; change W9.heap.size ≤ i at h; omega)
            have hl3 := heap_lt F9.out.er
            refine ⟨⟨h0, x, h1, h2, ⟨⟨hg.os.trans h3.b.os, hg.tape.trans h3.b.tape, hg.output.trans h3.b.output, Nat.le_trans h3.b.size hg.size, fun i hi => (hk i (by omega) (by have := heap_lt h3.wk; omega)).trans (h3.b.block i hi)⟩, (hk _ (by omega) (heap_lt h3.wk)).trans h3.wk, (hk _ (by omega) (heap_lt h3.er)).trans h3.er⟩⟩, h4.nd, fun E hE => ⟨(h4.at_ E hE).1, (hk E (heap_lt (HMk9.out.at_ E hE).2) (heap_lt (h4.at_ E hE).2)).trans (h4.at_ E hE).2⟩⟩
          case hAx => exact fun x a' _ A B row h _ _ => h
          case assign =>
            rintro lp pre ⟨s, gd'⟩ W K hI hK
            have HK := Lib.hid (hK _ W (KeepsFrom.refl _ _) (KO.refl _ _) hI rfl)
            clear hK hI
            simp only [Ns.enc]
            gi_wp2
            exact HK.out
          case body2 =>
            rintro lp pre ⟨s, gd'⟩ a' W hlp hrec ⟨h1, h2⟩ rfl hlen2
            have hsz : s.size ≤ maxLen := Nat.le_trans gd' (by decide)
            have hvW := (h2.block _ (heap_lt Hv9.out)).trans Hv9.out
            have hfW := F9.out.below h2
            have HC := Lib.hid (has_c s hsz M nB cB (boundZ r) W (HM9.out.below h2 HM9.out.lt))
            obtain ⟨⟨y0, y1, y2⟩, _, _, _⟩ := row3 hvW
            obtain ⟨⟨p0, p1, p2⟩, p3, p4, p5⟩ := row3 hfW.wk
            have q0 : W.cell? ⟨n0 + 1 + 1, 0, none⟩ = some .nilIface := row_cells hfW.er 0
            have q1 : W.frozen? ⟨n0 + 1 + 1, 0, none⟩ = false := frz_row hfW.er 0
            have lv := heap_lt hvW
            have lk := heap_lt hfW.wk
            have le : n0 + 1 + 1 < W.heap.size := heap_lt hfW.er
            have H1 := Lib.hid h1
            have H2 := Lib.hid h2
            have HFW := Lib.hid hfW
            clear h1 h2 hvW hfW
            gi_wp2_with fail
            refine ⟨trivial, (CallsIn.inRound lp (callsIn_wide.2 HC.out)).mono ?_⟩
            rintro e8 w8 ⟨rfl, rfl⟩
            cases hh : hasZ (boundZ r) s with
            | true =>
              have Hh := Lib.hid hh
              clear hh
              gi_wp2
              refine ⟨KeepsFrom.refl _ _, KO.refl _ _, fun x hx => ?_, H2.out⟩
              rcases List.mem_append.1 hx with hx | hx
              · exact H1.out x hx
              · rw [List.mem_singleton.1 hx]
                exact Hh.out
            | false =>
              have Hh := Lib.hid hh
              clear hh
              gi_wp2
              have kf := ((((KeepsOthers.setCell w8 ⟨n0 + 1, 0, none⟩ (.slice none 0 0)).trans (KeepsOthers.setCell _ ⟨n0 + 1, 1, none⟩ (.map none))).trans (KeepsOthers.setCell _ ⟨n0 + 1, 2, none⟩ (.bool false))).trans (KeepsOthers.setCell _ ⟨n0 + 1 + 1, 0, none⟩ (.iface 131 (.agg #[.string s])))).from W9.heap.size
              refine ⟨⟨kf.size, kf.same⟩, ⟨rfl, ⟨s, gd'⟩, List.mem_append_right _ (List.mem_cons_self ..), Hh.out, FinI.of HFW.out _ _ _ _⟩, HMk9.out.nd, fun E hE => ⟨(HMk9.out.at_ E hE).1, ?_⟩⟩
              have hE1 := (HMk9.out.at_ E hE).1
              have hn := HnS.out
              exact (setW_oth (by omega) (by omega)).trans ((H2.out.block _ (heap_lt (HMk9.out.at_ E hE).2)).trans (HMk9.out.at_ E hE).2)
          case done2 =>
            rintro D2 ys W hD2 hys ⟨h1, h2⟩ hK
            have hvW := (h2.block _ (heap_lt Hv9.out)).trans Hv9.out
            have hfW := F9.out.below h2
            have HSafe : Hid (safeZ r = true) := Lib.hid (safe_yes HCome.out fun s hs => by
              rw [← hys] at hs
              obtain ⟨y, hy, rfl⟩ := List.mem_map.1 hs
              exact h1 y hy)
            obtain ⟨⟨y0, y1, y2⟩, _, _, _⟩ := row3 hvW
            obtain ⟨⟨p0, p1, p2⟩, p3, p4, p5⟩ := row3 hfW.wk
            have q0 : W.cell? ⟨n0 + 1 + 1, 0, none⟩ = some .nilIface := row_cells hfW.er 0
            have q1 : W.frozen? ⟨n0 + 1 + 1, 0, none⟩ = false := frz_row hfW.er 0
            have lv := heap_lt hvW
            have lk := heap_lt hfW.wk
            have le : n0 + 1 + 1 < W.heap.size := heap_lt hfW.er
            have HG := Lib.hid (GdI.of (v := .slice ov (walkZ r).1.length cv) hfW (own_below HO9.out h2) (show MapI Tryd.prog W 9 3 M nB (boundZ r) cB from HM9.out.below h2 HM9.out.lt) HnM.out)
            have HMk2 : Hid (MksW w6.heap.size [D2, D] W) := Lib.hid ⟨by
              refine List.nodup_cons.2 ⟨fun hm => ?_, HMk9.out.nd⟩
              have := heap_lt (HMk9.out.at_ D2 hm).2
              omega, fun E hE => by
              rcases List.mem_cons.1 hE with rfl | hE
              · exact ⟨by have := (HMk9.out.at_ D (List.mem_cons_self ..)).1; have := heap_lt (HMk9.out.at_ D (List.mem_cons_self ..)).2; omega, hK⟩
              · exact ⟨(HMk9.out.at_ E hE).1, (h2.block _ (heap_lt (HMk9.out.at_ E hE).2)).trans (HMk9.out.at_ E hE).2⟩⟩
            have hinv : ((walkZ r).1.any fun x => inventsZ x.2 x.1) = invZ r := rfl
            rw [hinv] at y2
            clear h1 h2 hvW hfW hK hinv
            gi_wp2
            rw [← Hdd.out]
            refine leave_marks (B := w6.heap.size) (S := GdI r n0 w6.heap.size M nB cB w (.slice ov (walkZ r).1.length cv)) (fun W W' hp h => h.put hp HnS.out.2.2.2.2.1 HnS.out.2.2.2.1) [D2, D] _ ⟨HMk2.out.nd, fun E hE => ⟨(HMk2.out.at_ E hE).1, (setW_oth (by have := (HMk2.out.at_ E hE).1; have := HnS.out; omega) (by have := (HMk2.out.at_ E hE).1; have := HnS.out; omega)).trans (HMk2.out.at_ E hE).2⟩⟩ HG.out ?_
            intro W' h
            exact ⟨_, results_cell2 rfl _ _ (n0 + 1) (n0 + 1 + 1) _ _ rfl (loadVar_walk h.f.wk) rfl (loadVar_err (row_cells h.f.er 0)), .good Hr.out HSafe.out (order_sl h.o (by have := HBl.out; omega)) h.m HnS.out.2.2.1 h.f.b⟩
          case stop2 =>
            rintro D2 cd pre W hD2 ⟨r1, hr1⟩ ⟨⟨rfl, x, hx, hx2, hfi⟩, hmk⟩ hK
            have HU : Hid (safeZ r = false) := Lib.hid (bound_no (s := x.s) (by rw [← hr1]; exact List.mem_append_left _ (List.mem_map.2 ⟨x, hx, rfl⟩)) hx2)
            have HMk2 : Hid (MksW w6.heap.size [D2, D] W) := Lib.hid ⟨by
              refine List.nodup_cons.2 ⟨fun hm => ?_, HMk9.out.nd⟩
              have := heap_lt (HMk9.out.at_ D2 hm).2
              omega, fun E hE => by
              rcases List.mem_cons.1 hE with rfl | hE
              · exact ⟨by have := (HMk9.out.at_ D (List.mem_cons_self ..)).1; have := heap_lt (HMk9.out.at_ D (List.mem_cons_self ..)).2; omega, hK⟩
              · exact hmk.at_ E hE⟩
            have HFi := Lib.hid hfi
            clear hfi hmk hK hx hx2 hr1
            gi_wp2
            rw [← Hdd.out]
            refine leave_marks (B := w6.heap.size) (S := FinI n0 w (.slice none 0 0) (.map none) (.bool false) (.iface 131 (.agg #[.string x.s]))) (fun W W' hp h => h.put hp HnS.out.2.2.2.2.1) [D2, D] _ HMk2.out HFi.out ?_
            intro W' h
            exact ⟨_, results_cell2 rfl _ _ (n0 + 1) (n0 + 1 + 1) _ _ rfl (loadVar_walk h.wk) rfl (loadVar_err (row_cells h.er 0)), .bound x.s Hr.out HU.out h.b⟩
end Go.Proofs.YtfcfehflocglpaaDoor
namespace Go.Proofs.YtfcfehflocglpaaDoor
open Go.RowKit Go.Shelf

attribute [local go_sem] Oper.semAt_some

structure EnvZ (t a u : Addr) (w : World) : Prop where
  tr : TErr t w
  z : ZEnv w.heap.size a u w
theorem EnvZ.below {t a u : Addr} {w w' : World} (h : EnvZ t a u w) (hb : Below w.heap.size w w') : EnvZ t a u w' := ⟨h.tr.below hb, (h.z.below hb).more hb.size⟩
theorem ordE_tree {r : Ru} (h : rightR r = false) : ordE r = 30 := by unfold ordE; rw [if_neg (by rw [h]; decide)]
theorem ordE_un {r : Ru} (h : rightR r = true) (h2 : safeZ r = false) : ordE r = 60 := by unfold ordE; rw [if_pos h, if_neg (by rw [h2]; decide)]
theorem ordE_ok {r : Ru} (h : rightR r = true) (h2 : safeZ r = true) : ordE r = 0 := by unfold ordE; rw [if_pos h, if_pos h2]
inductive OrdR (n0 : Nat) (w : World) (r : Ru) : Ending → World → Prop
  | bad {w' : World} : ordE r ≠ 0 → Below n0 w w' → OrdR n0 w r (.returned (.tuple #[.slice none 0 0, .int .i64 (ordE r)])) w'
  | good {w' : World} {v : Value} : ordE r = 0 → SlOf w' w'.heap.size 1 IntC (orderZ r) v → Below n0 w w' → OrdR n0 w r (.returned (.tuple #[v, .int .i64 0])) w'
inductive InvR (n0 : Nat) (w : World) (r : Ru) : Ending → World → Prop
  | bad {w' : World} : ordE r ≠ 0 → Below n0 w w' → InvR n0 w r (.returned (.tuple #[.bool false, .int .i64 (ordE r)])) w'
  | good {w' : World} : ordE r = 0 → Below n0 w w' → InvR n0 w r (.returned (.tuple #[.bool (invZ r), .int .i64 0])) w'

set_option linter.unusedSimpArgs false in
set_option maxRecDepth 100000 in
set_option maxHeartbeats 8000000 in
theorem order_c (r : Ru) (cs : List Value) (t a u : Addr) (w : World) (hc : RuC w w.heap.size r cs) (hf : FewR r) (hp : FewP' (partsZ r)) (E : EnvZ t a u w) :
    Calls Tryd.prog 26 #[.agg cs.toArray] w (OrdR w.heap.size w r) := by
  obtain ⟨o0, k0, o1, k1, rfl, _⟩ := hc.look
  obtain ⟨W1, hW1⟩ : ∃ W, w.alloc (.cells #[.string r.head.rel, .slice o0 r.head.l.length k0, .slice o1 r.body.length k1, .int .i64 r.line] 27) = W := ⟨_, rfl⟩
  have b1 : Below w.heap.size w W1 := by rw [← hW1]; exact (Below.refl _ _).alloc (Nat.le_refl _) _
  have HK := Lib.hid (callsIn_wide.1 (walkThrough_in r _ t a u W1.heap.size W1 rfl ((hc.below b1).more b1.size) hf hp (E.below b1).z (E.below b1).tr))
  have HE := Lib.hid (E.below b1)
  have B1 := Lib.hid b1
  have HW1 := Lib.hid hW1
  clear hc hf hp E b1 hW1
  go_enter Tryd.func26, Tryd.ntmps26
  go_wp2_with fail
  rw [HW1.out]
  refine HK.out.mono ?_
  clear HK
  intro e2 w2 hT
  cases hT with
    | tree h1 h2 =>
      have hbA : Below w2.heap.size w2 (w2.alloc (.cells #[.slice none 0 0, .map none, .bool false] 95)) := (Below.refl _ _).alloc (Nat.le_refl _) _
      have HN := Lib.hid (numT_c _ a u _ ((HE.out.below h2).below hbA).z)
      have B2 := Lib.hid ((B1.out.trans (h2.mono B1.out.size)).trans (hbA.mono (Nat.le_trans B1.out.size h2.size)))
      have HO := Lib.hid (ordE_tree h1)
      clear hbA
      clear h1 h2
      unfold errV at *
      go_wp2_with fail
      refine HN.out.mono ?_
      rintro e3 w3 ⟨rfl, b3⟩
      have B3 := Lib.hid (B2.out.trans (b3.mono B2.out.size))
      clear b3
      go_wp2
      go_ret2
      have hfin : OrdR w.heap.size w r (.returned (.tuple #[.slice none 0 0, .int .i64 (ordE r)])) w3 := .bad (by rw [HO.out]; decide) B3.out
      rw [HO.out] at hfin
      exact hfin
    | ready k h1 h0 h2 =>
      have hbA : Below w2.heap.size w2 (w2.alloc (.cells #[.slice none 0 0, .map none, .bool false] 95)) := (Below.refl _ _).alloc (Nat.le_refl _) _
      have HN := Lib.hid (numR_c k _ a u _ ((HE.out.below h2).below hbA).z (Nat.le_refl _))
      have B2 := Lib.hid ((B1.out.trans (h2.mono B1.out.size)).trans (hbA.mono (Nat.le_trans B1.out.size h2.size)))
      have HO := Lib.hid (ordE_un h1 h0)
      clear hbA
      clear h1 h2 h0
      go_wp2_with fail
      refine HN.out.mono ?_
      rintro e3 w3 ⟨rfl, b3⟩
      have B3 := Lib.hid (B2.out.trans (b3.mono B2.out.size))
      clear b3
      go_wp2
      go_ret2
      have hfin : OrdR w.heap.size w r (.returned (.tuple #[.slice none 0 0, .int .i64 (ordE r)])) w3 := .bad (by rw [HO.out]; decide) B3.out
      rw [HO.out] at hfin
      exact hfin
    | bound s h1 h0 h2 =>
      have hbA : Below w2.heap.size w2 (w2.alloc (.cells #[.slice none 0 0, .map none, .bool false] 95)) := (Below.refl _ _).alloc (Nat.le_refl _) _
      have HN := Lib.hid (numB_c s _ a u _ ((HE.out.below h2).below hbA).z (Nat.le_refl _))
      have B2 := Lib.hid ((B1.out.trans (h2.mono B1.out.size)).trans (hbA.mono (Nat.le_trans B1.out.size h2.size)))
      have HO := Lib.hid (ordE_un h1 h0)
      clear hbA
      clear h1 h2 h0
      go_wp2_with fail
      refine HN.out.mono ?_
      rintro e3 w3 ⟨rfl, b3⟩
      have B3 := Lib.hid (B2.out.trans (b3.mono B2.out.size))
      clear b3
      go_wp2
      go_ret2
      have hfin : OrdR w.heap.size w r (.returned (.tuple #[.slice none 0 0, .int .i64 (ordE r)])) w3 := .bad (by rw [HO.out]; decide) B3.out
      rw [HO.out] at hfin
      exact hfin
    | @good _ v M n c h1 h0 hs hm hM h2 =>
      obtain ⟨ov, cv, rfl, _, _, _⟩ := SlOf.open hs
      have B2 := Lib.hid (B1.out.trans (h2.mono B1.out.size))
      have HO := Lib.hid (ordE_ok h1 h0)
      have HS := Lib.hid hs
      have hb3 : Below w2.heap.size w2 (w2.alloc (.cells #[.slice ov (orderZ r).length cv, .map (some M), .bool (invZ r)] 95)) := (Below.refl _ _).alloc (Nat.le_refl _) _
      have HB3 := Lib.hid hb3
      clear h1 h2 h0 hs hm hM hb3
      go_wp2
      go_ret2
      exact .good HO.out (SlOf.more (SlOf.below HS.out HB3.out fun _ _ _ h => h) HB3.out.size fun _ _ _ h => h) (B2.out.trans (HB3.out.mono B2.out.size))

set_option linter.unusedSimpArgs false in
set_option maxRecDepth 100000 in
set_option maxHeartbeats 8000000 in
theorem invents6_c (r : Ru) (cs : List Value) (t a u : Addr) (w : World) (hc : RuC w w.heap.size r cs) (hf : FewR r) (hp : FewP' (partsZ r)) (E : EnvZ t a u w) :
    Calls Tryd.prog 30 #[.agg cs.toArray] w (InvR w.heap.size w r) := by
  obtain ⟨o0, k0, o1, k1, rfl, _⟩ := hc.look
  obtain ⟨W1, hW1⟩ : ∃ W, w.alloc (.cells #[.string r.head.rel, .slice o0 r.head.l.length k0, .slice o1 r.body.length k1, .int .i64 r.line] 27) = W := ⟨_, rfl⟩
  have b1 : Below w.heap.size w W1 := by rw [← hW1]; exact (Below.refl _ _).alloc (Nat.le_refl _) _
  have HK := Lib.hid (callsIn_wide.1 (walkThrough_in r _ t a u W1.heap.size W1 rfl ((hc.below b1).more b1.size) hf hp (E.below b1).z (E.below b1).tr))
  have HE := Lib.hid (E.below b1)
  have B1 := Lib.hid b1
  have HW1 := Lib.hid hW1
  clear hc hf hp E b1 hW1
  go_enter Tryd.func30, Tryd.ntmps30
  go_wp2_with fail
  rw [HW1.out]
  refine HK.out.mono ?_
  clear HK
  intro e2 w2 hT
  cases hT with
    | tree h1 h2 =>
      have hbA : Below w2.heap.size w2 (w2.alloc (.cells #[.slice none 0 0, .map none, .bool false] 95)) := (Below.refl _ _).alloc (Nat.le_refl _) _
      have HN := Lib.hid (numT_c _ a u _ ((HE.out.below h2).below hbA).z)
      have B2 := Lib.hid ((B1.out.trans (h2.mono B1.out.size)).trans (hbA.mono (Nat.le_trans B1.out.size h2.size)))
      have HO := Lib.hid (ordE_tree h1)
      clear hbA
      clear h1 h2
      unfold errV at *
      go_wp2_with fail
      refine HN.out.mono ?_
      rintro e3 w3 ⟨rfl, b3⟩
      have B3 := Lib.hid (B2.out.trans (b3.mono B2.out.size))
      clear b3
      go_wp2
      go_ret2
      have hfin : InvR w.heap.size w r (.returned (.tuple #[.bool false, .int .i64 (ordE r)])) w3 := .bad (by rw [HO.out]; decide) B3.out
      rw [HO.out] at hfin
      exact hfin
    | ready k h1 h0 h2 =>
      have hbA : Below w2.heap.size w2 (w2.alloc (.cells #[.slice none 0 0, .map none, .bool false] 95)) := (Below.refl _ _).alloc (Nat.le_refl _) _
      have HN := Lib.hid (numR_c k _ a u _ ((HE.out.below h2).below hbA).z (Nat.le_refl _))
      have B2 := Lib.hid ((B1.out.trans (h2.mono B1.out.size)).trans (hbA.mono (Nat.le_trans B1.out.size h2.size)))
      have HO := Lib.hid (ordE_un h1 h0)
      clear hbA
      clear h1 h2 h0
      go_wp2_with fail
      refine HN.out.mono ?_
      rintro e3 w3 ⟨rfl, b3⟩
      have B3 := Lib.hid (B2.out.trans (b3.mono B2.out.size))
      clear b3
      go_wp2
      go_ret2
      have hfin : InvR w.heap.size w r (.returned (.tuple #[.bool false, .int .i64 (ordE r)])) w3 := .bad (by rw [HO.out]; decide) B3.out
      rw [HO.out] at hfin
      exact hfin
    | bound s h1 h0 h2 =>
      have hbA : Below w2.heap.size w2 (w2.alloc (.cells #[.slice none 0 0, .map none, .bool false] 95)) := (Below.refl _ _).alloc (Nat.le_refl _) _
      have HN := Lib.hid (numB_c s _ a u _ ((HE.out.below h2).below hbA).z (Nat.le_refl _))
      have B2 := Lib.hid ((B1.out.trans (h2.mono B1.out.size)).trans (hbA.mono (Nat.le_trans B1.out.size h2.size)))
      have HO := Lib.hid (ordE_un h1 h0)
      clear hbA
      clear h1 h2 h0
      go_wp2_with fail
      refine HN.out.mono ?_
      rintro e3 w3 ⟨rfl, b3⟩
      have B3 := Lib.hid (B2.out.trans (b3.mono B2.out.size))
      clear b3
      go_wp2
      go_ret2
      have hfin : InvR w.heap.size w r (.returned (.tuple #[.bool false, .int .i64 (ordE r)])) w3 := .bad (by rw [HO.out]; decide) B3.out
      rw [HO.out] at hfin
      exact hfin
    | @good _ v M n c h1 h0 hs hm hM h2 =>
      obtain ⟨ov, cv, rfl, _, _, _⟩ := SlOf.open hs
      have B2 := Lib.hid (B1.out.trans (h2.mono B1.out.size))
      have HO := Lib.hid (ordE_ok h1 h0)
      have HS := Lib.hid hs
      have hb3 : Below w2.heap.size w2 (w2.alloc (.cells #[.slice ov (orderZ r).length cv, .map (some M), .bool (invZ r)] 95)) := (Below.refl _ _).alloc (Nat.le_refl _) _
      have HB3 := Lib.hid hb3
      clear h1 h2 h0 hs hm hM hb3
      go_wp2
      go_ret2
      exact .good HO.out (B2.out.trans (HB3.out.mono B2.out.size))
end Go.Proofs.YtfcfehflocglpaaDoor
namespace Go.Proofs.YtfcfehflocglpaaDoor
open Go.RowKit Go.Shelf

attribute [local go_sem] Oper.semAt_some

theorem stepV_len (past : List Tm) (acc : List ByteArray) (t : Tm) : (stepV past acc t).length ≤ acc.length + 1 := by
  unfold stepV
  split <;> simp
theorem namesV_len : ∀ (ts past : List Tm) (acc : List ByteArray), (namesV past ts acc).length ≤ acc.length + ts.length
  | [], _, _ => by simp [namesV]
  | t :: ts, past, acc => by
    have h1 := namesV_len ts (past ++ [t]) (stepV past acc t)
    have h2 := stepV_len past acc t
    show (namesV (past ++ [t]) ts (stepV past acc t)).length ≤ _
    rw [List.length_cons]
    omega
theorem varsA_len6 (r : Ru) : (varsA r).length ≤ (termsR r).length := by
  unfold varsA varsV
  split
  · have := namesV_len (termsR r) [] []
    simpa using this
  · exact Nat.zero_le _
/-- Is a name bound by then? -/
def byZ (B : Bd) (k : Int) (s : ByteArray) : Bool := hasZ B s && decide (B s.data.toList ≤ k)
set_option maxRecDepth 100000 in
set_option maxHeartbeats 8000000 in
theorem bound1_c (s : ByteArray) (hs : s.size ≤ maxLen) (q kb M n c : Nat) (k : Int) (B : Bd) (v : Value) (bb : Bool) (w : World) (hq : w.heap[q]? = some (.cells #[v, .map (some M), .bool bb] 95 (0, 0))) (hk : w.heap[kb]? = some (.cells #[.int .i64 k] 3 (0, 0))) (hM : MapI Tryd.prog w 9 3 M n B c) :
    Calls Tryd.prog 56 #[.string s, .pointer (some ⟨q, 0, none⟩), .pointer (some ⟨kb, 0, none⟩)] w fun e w' => e = .returned (.bool (byZ B k s)) ∧ w' = w := by
  have zE : ∀ w : World, (zeroValue 3).run Tryd.prog w = .ok (.int .i64 0) w := fun w => by kernel_rfl
  have hrun := mapI_run hM 93 Tryd.underlying93 Tryd.underlying9 Tryd.underlying3 (zE _) s hs
  have HC := Lib.hid (has_c s hs M n c B w hM)
  obtain ⟨⟨_, y1, _⟩, _⟩ := row3 hq
  have z0 := row_cells hk 0
  have lq := heap_lt hq
  have lk := heap_lt hk
  clear hM hq hk
  unfold byZ
  go_enter Tryd.func56, Tryd.ntmps56
  go_wp2_with fail
  refine HC.out.mono ?_
  rintro e1 w1 ⟨rfl, rfl⟩
  cases hh : hasZ B s with
  | false =>
    go_wp2
    go_ret
    exact ⟨by simp [hh], rfl⟩
  | true =>
    go_wp2
    go_ret
    exact ⟨by simp [hh], rfl⟩
set_option linter.unusedSimpArgs false in
set_option maxRecDepth 100000 in
set_option maxHeartbeats 8000000 in
theorem pick_c (r : Ru) (cs : List Value) (t : Addr) (q kb M n c : Nat) (k : Int) (B : Bd) (v : Value) (bb : Bool) (w : World) (hc : RuC w w.heap.size r cs) (hlen : (termsR r).length ≤ 300000) (hS : ∀ t ∈ termsR r, t.s.size ≤ 1000000) (E : TErr t w)
    (hq : w.heap[q]? = some (.cells #[v, .map (some M), .bool bb] 95 (0, 0))) (hk : w.heap[kb]? = some (.cells #[.int .i64 k] 3 (0, 0))) (hM : MapI Tryd.prog w 9 3 M n B c) :
    Calls Tryd.prog 55 #[.agg cs.toArray, .func (.func 56) #[] #[.pointer (some ⟨q, 0, none⟩), .pointer (some ⟨kb, 0, none⟩)]] w (VarsR ((varsA r).filter (byZ B k)) w.heap.size w) := by
  obtain ⟨o0, k0, o1, k1, rfl, _⟩ := hc.look
  obtain ⟨i0, hi, hz0, hz1, hz2⟩ := info_parts info_str
  obtain ⟨W1, hW1⟩ : ∃ W, w.alloc (.cells #[.string r.head.rel, .slice o0 r.head.l.length k0, .slice o1 r.body.length k1, .int .i64 r.line] 27) = W := ⟨_, rfl⟩
  have b1 : Below w.heap.size w W1 := by rw [← hW1]; exact (Below.refl _ _).alloc (Nat.le_refl _) _
  have HV := Lib.hid (vars_c r _ t W1 ((hc.below b1).more b1.size) (by omega) hS (E.below b1))
  have HF := Lib.hid (fun (W : World) (hb : Below w.heap.size w W) (s : ByteArray) (hs : s.size ≤ maxLen) => bound1_c s hs q kb M n c k B v bb W ((hb.block _ (heap_lt hq)).trans hq) ((hb.block _ (heap_lt hk)).trans hk) (hM.below hb hM.lt))
  have HLn : Hid ((varsA r).length ≤ 300000) := Lib.hid (Nat.le_trans (varsA_len6 r) hlen)
  have HB1 := Lib.hid b1
  have HW1 := Lib.hid hW1
  obtain ⟨N, hN⟩ : ∃ N, varsA r = N := ⟨_, rfl⟩
  rw [hN] at HV HLn ⊢
  clear hc hlen hS E hq hk hM b1 hW1 hN
  go_enter Tryd.func55, Tryd.ntmps55
  go_wp2_with fail
  rw [HW1.out]
  refine HV.out.mono ?_
  rintro e2 w2 ⟨v2, rfl, hS2, b2⟩
  have HB2 := Lib.hid (HB1.out.trans (b2.mono HB1.out.size))
  have hz1' := HB2.out.size
  obtain ⟨o3, k3, rfl, _, _, S3⟩ := SlOf.open hS2
  have HSm : Hid (∀ s ∈ N, s.size ≤ maxLen) := Lib.hid (str_sizes hS2)
  clear b2 hS2 HV
  go_wp2_with fail
  go_loopw [5, 7, 11] (fun lv _ i wr => ∃ (j : Nat) (acc : List ByteArray), j ≤ N.length ∧ i = .int .i64 j ∧ (N.take j).filter (byZ B k) = acc ∧ wr.ownsRow w2.heap.size 9 1 lv acc.length (acc.map Value.string) ∧ Below w2.heap.size w2 wr) (fun _ _ i _ => N.length - (intOf i).toNat)
  case atStart => exact ⟨0, [], Nat.zero_le _, rfl, rfl, World.ownsRow_nil _ _ _ _, Below.refl _ _⟩
  case round =>
    obtain ⟨j, acc, hj, rfl, hacc, hO, hB⟩ := hrel
    have Hacc := Lib.hid hacc
    have HO := Lib.hid hO
    have HB := Lib.hid hB
    have hsz := hB.size
    clear hacc hO
    by_cases hlt : j < N.length
    · have hlt' : (j : Int) < (N.length : Int) := by omega
      have hj0 : (0 : Int) ≤ (j : Int) := by omega
      obtain ⟨x, hx⟩ : ∃ x, N[j]? = some x := ⟨N[j], List.getElem?_eq_getElem hlt⟩
      obtain ⟨p, rfl, hp, hxs, c0⟩ := str_at S3 hB hx
      have hpl : (p.add j).block < wr.heap.size := by rw [addBlock]; omega
      have Hst := Lib.hid (fil_take (f := byZ B k) hx)
      have hle : acc.length ≤ j := by
        rw [← Hacc.out]
        exact Nat.le_trans (List.length_filter_le _ _) (by rw [List.length_take]; omega)
      have HCl := Lib.hid (HF.out wr (HB2.out.trans (hB.mono hz1')) x hxs)
      have HS1 : Hid (acc.length + 1 ≤ maxLen) := Lib.hid (by have := HLn.out; unfold maxLen; omega)
      have HS2 : Hid ((acc.length + 1) * 16 ≤ 140737488355328) := Lib.hid (by have := HLn.out; omega)
      clear hx hB
      go_wp2_with fail
      refine HCl.out.mono ?_
      rintro e4 w4 ⟨rfl, rfl⟩
      cases hb : byZ B k x with
      | true =>
        have Hst2 : Hid ((N.take (j + 1)).filter (byZ B k) = acc ++ [x]) := Lib.hid (by rw [Hst.out, Hacc.out, if_pos hb])
        clear hb
        go_wp2_with (at_builtin; refine wpList_append_own _ rfl (.tmp 18) (.tmp 20) 34 rfl w2.heap.size 9 i0 _ 1 16 Tryd.underlying34 hi hz0 hz1 hz2 rfl (by decide) _ acc.length _ rfl (HO.out.alloc _) _ 1 1 [.string x] rfl rfl (news_one _ _ _) (one_str _) HS1.out HS2.out (by simp; omega) ?_; intro v' w6 hown' hgrow _; have HG := Lib.hid (grown_past hgrow); have HO6 := Lib.hid hown'; clear hgrow hown')
        go_roundw
        case rel =>
          refine ⟨j + 1, acc ++ [x], hlt, by go_num, Hst2.out, ?_, ?_⟩
          · rw [List.length_append, List.map_append]; exact HO6.out
          · exact HB.out.grown HG.out hsz (fun q hq => (HO.out.lt q hq).1)
        case measure => simp [intOf]; omega
      | false =>
        have Hst2 : Hid ((N.take (j + 1)).filter (byZ B k) = acc) := Lib.hid (by rw [Hst.out, Hacc.out, if_neg (by rw [hb]; decide), List.append_nil])
        clear hb
        go_wp2
        go_roundw
        case rel => exact ⟨j + 1, acc, hlt, by go_num, Hst2.out, HO.out, HB.out⟩
        case measure => simp [intOf]; omega
    · have hlt' : ¬ (j : Int) < (N.length : Int) := by omega
      have hN2 : N.filter (byZ B k) = acc := by rw [← Hacc.out, List.take_of_length_le (by omega)]
      have hS := sl_row (R := StrC) (l := acc) HO.out (fun s hs => ⟨rfl, HSm.out s (by rw [← hN2] at hs; exact (List.mem_filter.1 hs).1)⟩)
      rw [← hN2] at hS
      have HS := Lib.hid hS
      have HBz := Lib.hid (HB2.out.trans (HB.out.mono hz1'))
      obtain ⟨oq, kq, rfl⟩ := own_shape HO.out
      clear hS hN2 hB
      go_wp2
      go_ret
      exact ⟨_, rfl, HS.out, HBz.out⟩
end Go.Proofs.YtfcfehflocglpaaDoor
