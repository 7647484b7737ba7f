/- dtype.checkAtoms: the first atom whose relation is not there, or has another number of columns. -/
import Derived.Test.YtbpdfmpfnbdeoaaGreatDoorKYlearn2
import Derived.Test.YtbpdfmpfnbdeoaaGreatDoorKTvisit
import Derived.RangeFuncNested
import Derived.BigQuiet
import Derived.Test.YtbpdfmpfnbdeoaaGreatDoorKAny
namespace Go.Proofs.YtbpdfmpfnbdeoaaGreatDoor
open Go.RowKit Go.Shelf

attribute [local go_sem] Oper.semAt_some

/-- A drawn region that only reads, in a round: as outside. -/
theorem region_quiet_round {lp n id : Nat} {P : Program} {Q : Exit → Act → World → Prop} {a : Act} {w : World} {l : List Oper} (hm : P.follows .mixedOrders = true) (hd : noDefer l.toArray = true) (hQ : ¬ LetsOut Q) (hB : Region.lexB .any l.toArray = true)
    (h : wpQuiet P l.toArray (fun w' => ∃ n, w' = w.drewN n) (fun a' => ∀ w', (∃ n, w' = w.drewN n) → Q .normal a' w') l a) : (Code.region id l.toArray true).wpIn (Fence.wide.inRound lp) n P Q a w := by
  simp only [Region.lexB, Bool.and_eq_true] at hB
  refine any_region hm hd hQ (wpAny_of_quiet (C := fun w' => ∃ n, w' = w.drewN n) (Q := fun a' => ∀ w', (∃ n, w' = w.drewN n) → Q .normal a' w') (fun _ w' hw' h => h w' hw') _ _ _ _ ⟨1, rfl⟩ ?_)
  have := wpAnyQ_lex (C := fun w' => ∃ n, w' = w.drewN n) (md := .any) hB.1 l 0 (Array.replicate l.toArray.size false) a (by simp) (by simpa using hB.2) h
  simpa using this
theorem loadVar_err {W : World} {b : Nat} {v : Value} (h : W.cell? ⟨b, 0, none⟩ = some v) : (loadVar 62 ⟨b, 0, none⟩).run Tryz.prog W = .ok v W := by
  have ha : ∀ w : World, (isAgg 62).run Tryz.prog w = .ok false w := fun w => by kernel_rfl
  have hl : b < W.heap.size := World.block_lt_of_cell? _ _ h
  unfold loadVar
  go_simp
theorem keepsFrom_drewN {B n : Nat} {W W' : World} (h : KeepsFrom B W W') : KeepsFrom B W (W'.drewN n) := ⟨h.size, h.same⟩
theorem koF_drewN {n : Nat} {W W' : World} (h : KO (fun _ _ => False) W W') : KO (fun _ _ => False) W (W'.drewN n) := ⟨h.size, h.same, fun _ h => h.elim, fun _ _ h => h.elim⟩
theorem below_drewN {B n : Nat} {W W' : World} (h : Below B W W') : Below B W (W'.drewN n) := ⟨h.os, h.tape, h.output, h.size, h.block⟩
/-- What is wrong with an atom: 0 nothing, 1 no relation, 2 another number. -/
def badA (ds : List De) (t : Am) : Nat :=
  match findY t.rel ds with
  | none => 1
  | some i => match ds[i]? with
    | none => 1
    | some d => if d.types.length = t.l.length then 0 else 2
def badV (c d : Addr) : Nat → Value
  | 0 => .nilIface
  | 1 => errV c
  | _ => errV d
def chkA (ds : List De) : List Am → Nat
  | [] => 0
  | t :: l => if badA ds t = 0 then chkA ds l else badA ds t
theorem chkA_all {ds : List De} : ∀ {l : List Am}, (∀ t ∈ l, badA ds t = 0) → chkA ds l = 0
  | [], _ => rfl
  | t :: l, h => by
    unfold chkA
    rw [if_pos (h t (List.mem_cons_self ..))]
    exact chkA_all fun x hx => h x (List.mem_cons_of_mem _ hx)
theorem chkA_first {ds : List De} {t : Am} (ht : badA ds t ≠ 0) : ∀ {l m : List Am}, (∀ t ∈ l, badA ds t = 0) → chkA ds (l ++ t :: m) = badA ds t
  | [], m, _ => by
    show (if badA ds t = 0 then chkA ds m else badA ds t) = _
    rw [if_neg ht]
  | u :: l, m, h => by
    show (if badA ds u = 0 then chkA ds (l ++ t :: m) else badA ds u) = _
    rw [if_pos (h u (List.mem_cons_self ..))]
    exact chkA_first ht fun x hx => h x (List.mem_cons_of_mem _ hx)
theorem findY_some {s : ByteArray} {l : List De} {i : Nat} (h : findY s l = some i) : ∃ d, l[i]? = some d ∧ relY s d = true := by
  unfold findY at h
  rcases ixY_cases s l 0 with ⟨h1, _⟩ | ⟨j, d, h1, h2, h3⟩
  · rw [h1] at h; simp at h
  · rw [h1, Nat.zero_add, if_neg (by omega)] at h
    have : j = i := by simpa using h
    subst this
    exact ⟨d, h2, h3⟩
theorem results_cell1 {P : Program} {fn : Func} {p : Tmp} {ty : TypeId} (h : fn.results = #[.cell p ty]) (tmps : Array Value) (w : World) (b : Nat) (v : Value) (hp : tmps.getD p undef = .pointer (some ⟨b, 0, none⟩)) (hr : (loadVar ty ⟨b, 0, none⟩).run P w = .ok v w) :
    (results fn tmps).run P w = .ok v w := by
  have hp' : tmps[p]?.getD undef = .pointer (some ⟨b, 0, none⟩) := by simpa using hp
  simp [results, h, hp', asAddr, hr, Sem.run_bind, Result.andThen]

set_option linter.unusedSimpArgs false in
set_option maxRecDepth 100000 in
set_option maxHeartbeats 4000000 in
theorem checkAtoms_in (ds : List De) (v : Value) (r : Ru) (cs : List Value) (n₀ : Nat) (a b' c d : Addr) (w : World) (hd : SlOf w n₀ 6 (DeC w n₀) ds v) (hc : RuC w n₀ r cs) (hn : n₀ ≤ w.heap.size) (E : YEnv n₀ a b' c d w) :
    CallsIn Fence.wide 6 Tryz.prog 88 #[v, .agg cs.toArray] w fun e w' => e = .returned (badV c d (chkA ds (atomsR r))) ∧ Below w.heap.size w w' := by
  obtain ⟨o0, k0, o1, k1, rfl, _⟩ := hc.look
  obtain ⟨od, kd, rfl, hdc, hdm, SD⟩ := SlOf.open hd
  have HC := Lib.hid hc
  have HD := Lib.hid hd
  have HE := Lib.hid E
  clear hc hd E
  refine callsIn_of_wp_marks Tryz.func88 rfl trivial ?_ rfl
  simp only [Tryz.ntmps88, List.size_toArray, List.length_cons, List.length_nil, Nat.reduceAdd, Nat.reduceSub, Array.replicate_succ, Array.replicate_zero, List.push_toArray, List.append_toArray, List.nil_append, List.cons_append]
  obtain ⟨n0, hn0⟩ : ∃ n0, w.heap.size = n0 := ⟨_, rfl⟩
  gi_wp2_with fail
  obtain ⟨W4, hW4⟩ : ∃ W4, (((w.alloc (.cells #[.slice od ds.length kd] 22)).alloc (.cells #[.string r.head.rel, .slice o0 r.head.l.length k0, .slice o1 r.body.length k1, .int .i64 r.line] 37)).alloc (.cells #[.nilIface] 62)) = W4 := ⟨_, rfl⟩
  have hs4 : W4.heap.size = n0 + 3 := by rw [← hW4]; simp; omega
  have hb4 : Below n0 w W4 := by
    rw [← hW4]
    exact (((Below.refl n0 w).alloc (by omega) _).alloc (by simp; omega) _).alloc (by simp; omega) _
  have bd4 : Boxed W4 n0 22 (.slice od ds.length kd) := by
    have := ((Boxed.new w 22 (.slice od ds.length kd)).alloc (.cells #[.string r.head.rel, .slice o0 r.head.l.length k0, .slice o1 r.body.length k1, .int .i64 r.line] 37)).alloc (.cells #[.nilIface] 62)
    rw [hn0, hW4] at this
    exact this
  have be4 : Boxed W4 (n0 + 1 + 1) 62 .nilIface := by
    have := Boxed.new ((w.alloc (.cells #[.slice od ds.length kd] 22)).alloc (.cells #[.string r.head.rel, .slice o0 r.head.l.length k0, .slice o1 r.body.length k1, .int .i64 r.line] 37)) 62 .nilIface
    rw [hW4] at this
    simpa [hn0] using this
  rw [hW4]
  have HA := Lib.hid (yatom_in 5 r _ W4 ((HC.out.below (hb4.mono (by omega))).more (by omega)))
  refine ⟨trivial, HA.out.mono ?_⟩
  rintro e W5 ⟨rfl, hW5⟩
  rw [hs4]
  clear hW4
  gi_wp2_with fail
  rw [← hW5]
  have hs5 : W5.heap.size = n0 + 4 := by rw [hW5]; simp; omega
  have hb45 : Below W4.heap.size W4 W5 := by rw [hW5]; exact (Below.refl _ _).alloc (Nat.le_refl _) _
  have hb5 : Below n0 w W5 := hb4.trans (hb45.mono (by omega))
  have bd5 : Boxed W5 n0 22 (.slice od ds.length kd) := (hb45.block _ bd4.lt).trans bd4
  have be5 : Boxed W5 (n0 + 1 + 1) 62 .nilIface := (hb45.block _ be4.lt).trans be4
  have row5 : W5.heap[n0 + 3]? = some (.cells #[.string r.head.rel, .slice o0 r.head.l.length k0, .slice o1 r.body.length k1, .int .i64 r.line] 37 (0, 0)) := by rw [hW5, ← hs4]; exact World.alloc_heap_new W4 _
  have hB5 : CellsAt W5 ⟨n0 + 3, 0, none⟩ 0 [.string r.head.rel, .slice o0 r.head.l.length k0, .slice o1 r.body.length k1, .int .i64 r.line] := fun j c hj => by
    rw [Nat.zero_add]
    exact World.news_of_block row5 j c (by simpa using hj)
  have hc5 := HC.out.below (hb5.mono (by omega))
  have safe : Safe (fun _ _ => False) W5 W5 := fun p c hp => ⟨hp, World.block_lt_of_cell? _ _ hp, id⟩
  clear hW5 bd4 be4 hb45 HA
  refine wpIn_rangeFunc_ownH rfl (by omega) (gf := 144) (lb := #[.pointer (some ⟨n0 + 3, 0, none⟩)]) rfl trivial (enters_of Tryz.func144 (by kernel_rfl) rfl)
    (yatom_stops 5 (n0 + 3) n₀ r [.string r.head.rel, .slice o0 r.head.l.length k0, .slice o1 r.body.length k1, .int .i64 r.line] W5 W5 (fun _ _ => False) (fun _ _ _ _ _ h => h) safe (fun _ h => h.elim) hB5 hc5 (G := fun _ => True) (fun _ _ => trivial)) (fun h k => h.trans k) ?hKb (Below.refl _ _) (fun _ => rfl)
    (fun pre W => (∀ x ∈ pre, badA ds x.t = 0) ∧ KO (fun _ _ => False) W5 W ∧ Below n0 w W)
    (fun cd pre W => (cd = .ret ∧ (∃ pre' x, pre = pre' ++ [x] ∧ (∀ y ∈ pre', badA ds y.t = 0) ∧ badA ds x.t ≠ 0 ∧ Boxed W (n0 + 1 + 1) 62 (badV c d (badA ds x.t)))) ∧ Below n0 w W) ?hI ?hIx ⟨by simp, KO.refl _ _, hb5⟩
    (fun x a' W => ∃ Bx, W.heap[Bx]? = some (.cells x.cs.toArray 34 (0, 0)) ∧ n0 + 4 ≤ Bx ∧ a' = { tmps := #[.slice od ds.length kd, .agg #[.string r.head.rel, .slice o0 r.head.l.length k0, .slice o1 r.body.length k1, .int .i64 r.line], .pointer (some ⟨n0, 0, none⟩), .pointer (some ⟨n0 + 1, 0, none⟩), .pointer (some ⟨n0 + 1 + 1, 0, none⟩), .pointer (some ⟨Bx, 0, none⟩), undef, undef, .agg #[.string r.head.rel, .slice o0 r.head.l.length k0, .slice o1 r.body.length k1, .int .i64 r.line], .func (.func 144) #[] #[.pointer (some ⟨n0 + 3, 0, none⟩)], .agg x.cs.toArray, undef, undef, undef, undef, undef, undef, undef, undef, undef, undef, undef, undef, undef, undef, undef, undef, undef, undef, undef, undef, undef], defers := [] })
    ?hAx ?assign ?body ?done ?stop
  case hKb =>
    intro W l o o' hl ho hc _
    exact ⟨by simp, fun i x hi hx _ => (World.putObj_heap_other (by rintro rfl; rw [ho] at hi; cases hi; rw [hc] at hx; cases hx)).trans hi, fun _ h => h.elim, fun _ _ h => h.elim⟩
  case hI =>
    rintro pre A B row ⟨h1, h2, h3⟩ hg hr
    refine ⟨h1, h2.trans ⟨hg.size, fun i o ho hc _ => (hg.block i (Array.getElem?_eq_some_iff.1 ho).1 (fun e => ?_)).trans ho, fun _ h => h.elim, fun _ _ h => h.elim⟩, ownFrom_below (β := Unit) (by rw [hn0]; exact Nat.le_refl _) (by omega) () A B row h3 hg hr⟩
    obtain ⟨_, o', ho', hc'⟩ := hr _ e.symm
    rw [ho] at ho'
    cases ho'
    rw [hc] at hc'
    cases hc'
  case hIx =>
    rintro cd pre A B row ⟨⟨h0, pre', x, h1, h2, h3, h4⟩, h5⟩ hg hr
    exact ⟨⟨h0, pre', x, h1, h2, h3, boxed_own (n0 + 1 + 1) 62 (fun (_ : Unit) => badV c d (badA ds x.t)) () A B row h4 hg (fun r e => (hr r e).2)⟩, ownFrom_below (β := Unit) (by rw [hn0]; exact Nat.le_refl _) (by omega) () A B row h5 hg hr⟩
  case hAx =>
    rintro x a' _ A B row ⟨Bx, h1, h2, h3⟩ hg hr
    refine ⟨Bx, (hg.block Bx (Array.getElem?_eq_some_iff.1 h1).1 (fun e => ?_)).trans h1, h2, h3⟩
    obtain ⟨_, o', ho', hc'⟩ := hr _ e.symm
    rw [h1] at ho'
    cases ho'
    cases hc'
  case assign =>
    rintro lp pre ⟨t', cs', ok', gd'⟩ W K ⟨h1, h2, h3⟩ hK
    obtain ⟨p', q', rfl, _⟩ := ok'.look
    have hb1 := (Below.refl W.heap.size W).alloc (Nat.le_refl _) (.cells #[.string t'.rel, .slice p' t'.l.length q'] 34)
    have hko : KO (fun _ _ => False) W (W.alloc (.cells #[.string t'.rel, .slice p' t'.l.length q'] 34)) := KO.of_below (fun _ _ _ _ _ h => h) (fun _ h => h.elim) hb1
    have HK := Lib.hid (hK _ _ ((KeepsOthers.alloc W _).from _) hko ⟨h1, h2.trans hko, h3.trans (hb1.mono (by have := h3.size; omega))⟩ ⟨W.heap.size, World.alloc_heap_new W _, by have := h2.size; omega, rfl⟩)
    clear hK h1 h2 h3 hb1 hko
    simp only [Na.enc]
    gi_wp2
    exact HK.out
  case body =>
    rintro lp pre ⟨t', cs', ok', gd'⟩ a' W hlp hrec ⟨h1, h2, h3⟩ ⟨Bx, hrow, hBx, rfl⟩ hlen2
    obtain ⟨p', q', rfl, _⟩ := ok'.look
    have e0 : W.cell? ⟨Bx, 0, none⟩ = some (.string t'.rel) := by unfold World.cell?; rw [hrow]; rfl
    have e1 : W.cell? ⟨Bx, 1, none⟩ = some (.slice p' t'.l.length q') := by unfold World.cell?; rw [hrow]; rfl
    have hBl : Bx < W.heap.size := (Array.getElem?_eq_some_iff.1 hrow).1
    have bdW : Boxed W n0 22 (.slice od ds.length kd) := h2.same _ _ bd5 rfl id
    have beW : Boxed W (n0 + 1 + 1) 62 .nilIface := h2.same _ _ be5 rfl id
    have hdW := bdW.cell
    have hdl := bdW.lt
    have hWs := h2.size
    have HF := Lib.hid (find_c t'.rel n₀ ds (.slice od ds.length kd) W (SlOf.decl HD.out (h3.mono (by omega)) (Nat.le_refl _)) (by omega))
    have H1 := Lib.hid h1
    have H2 := Lib.hid h2
    have H3 := Lib.hid h3
    have Hbe := Lib.hid beW
    clear h1 h2 h3 hrow beW bdW
    gi_wp2_with fail
    refine ⟨trivial, (CallsIn.inRound lp (callsIn_wide.2 HF.out)).mono ?_⟩
    rintro e W3 ⟨rfl, b3⟩
    have B3 := Lib.hid (H3.out.trans (b3.mono (by omega)))
    have be3 : Boxed W3 (n0 + 1 + 1) 62 .nilIface := (b3.block _ Hbe.out.lt).trans Hbe.out
    have hec := be3.cell
    have hef := be3.frozen
    have hs3 := b3.size
    have hk3 : Hid (KeepsOthers W W3) := Lib.hid ⟨b3.size, fun i _ hi _ => (b3.block i (Array.getElem?_eq_some_iff.1 hi).1).trans hi⟩
    have hko : Hid (KO (fun _ _ => False) W W3) := Lib.hid (KO.of_below (fun _ _ _ _ _ h => h) (fun _ h => h.elim) b3)
    have hbox := fun (o : Nat) => b3.cell (p := ⟨Bx, o, none⟩) hBl
    have e0' := (hbox 0).trans e0
    have e1' := (hbox 1).trans e1
    have hdW' := (b3.cell (p := ⟨n0, 0, none⟩) hdl).trans hdW
    have hno := (HE.out.below (B3.out.mono (by omega))).no
    have har := (HE.out.below (B3.out.mono (by omega))).ar
    have Hbe3 := Lib.hid be3
    unfold errV at hno har
    clear hbox b3 be3 e0 e1 hdW
    cases hf : findY t'.rel ds with
    | none =>
      have Hq : Hid (badA ds t' = 1) := Lib.hid (by unfold badA; rw [hf])
      clear hf har
      unfold findV
      gi_wp2
      refine ⟨(hk3.out.trans (KeepsOthers.setCell _ _ _)).from _, ⟨rfl, pre, _, rfl, H1.out, ?_, ?_⟩, B3.out.setCell (p := ⟨n0 + 1 + 1, 0, none⟩) (by show n0 ≤ n0 + 1 + 1; omega) _⟩
      · show badA ds t' ≠ 0
        rw [Hq.out]
        decide
      · show Boxed _ _ _ (badV c d (badA ds t'))
        rw [Hq.out]
        exact Hbe3.out.set _
    | some i =>
      obtain ⟨dd, hi, _⟩ := findY_some hf
      have hil : i < ds.length := (List.getElem?_eq_some_iff.1 hi).1
      have hil' : (i : Int) < (ds.length : Int) := by omega
      have hi0 : (0 : Int) ≤ (i : Int) := by omega
      obtain ⟨b, p3, q3, p4, q4, rfl, hbb, Hc3, hca⟩ := de_in SD (B3.out.mono (by omega)) hi
      obtain ⟨f0, f1, f2, f3, f4, f5⟩ := hca.n6
      have hbl : (b.add (i * 6)).block < W3.heap.size := by rw [addBlock]; omega
      have Hq0 : Hid (badA ds t' = if dd.types.length = t'.l.length then 0 else 2) := Lib.hid (by unfold badA; rw [hf]; simp only [hi])
      clear hf hno hi hca Hc3
      unfold findV
      by_cases hlen3 : dd.types.length = t'.l.length
      · have Hq : Hid (badA ds t' = 0) := Lib.hid (by rw [Hq0.out, if_pos hlen3])
        have hne : ((dd.types.length : Int) != (t'.l.length : Int)) = false := by simp [hlen3]
        gi_wp2_with fail
        refine region_quiet_round (by kernel_rfl) (by kernel_rfl) (fun ⟨_, _, h⟩ => h) (by kernel_rfl) ?_
        repeat (go_big_quiet_step (fail))
        refine wpQuiet_nil ?_
        intro _ hw'
        obtain ⟨nq, hw''⟩ := hw'
        subst hw''
        gi_wp2
        exact ⟨keepsFrom_drewN (hk3.out.from _), koF_drewN hko.out, fun x hx => (List.mem_append.1 hx).elim (H1.out x) (fun hx => by rw [List.mem_singleton.1 hx]; exact Hq.out), koF_drewN (H2.out.trans hko.out), below_drewN B3.out⟩
      · have Hq : Hid (badA ds t' = 2) := Lib.hid (by rw [Hq0.out, if_neg hlen3])
        have hne : ((dd.types.length : Int) != (t'.l.length : Int)) = true := by rw [bne_iff_ne]; intro h; exact hlen3 (by omega)
        gi_wp2_with fail
        refine region_quiet_round (by kernel_rfl) (by kernel_rfl) (fun ⟨_, _, h⟩ => h) (by kernel_rfl) ?_
        repeat (go_big_quiet_step (fail))
        refine wpQuiet_nil ?_
        intro _ hw'
        obtain ⟨nq, hw''⟩ := hw'
        subst hw''
        gi_wp2
        refine ⟨(KeepsOthers.trans (⟨hk3.out.size, hk3.out.same⟩ : KeepsOthers W (W3.drewN nq)) (KeepsOthers.setCell _ _ _)).from _, ⟨rfl, pre, _, rfl, H1.out, ?_, ?_⟩, (below_drewN B3.out).setCell (p := ⟨n0 + 1 + 1, 0, none⟩) (by show n0 ≤ n0 + 1 + 1; omega) _⟩
        · show badA ds t' ≠ 0
          rw [Hq.out]
          decide
        · show Boxed _ _ _ (badV c d (badA ds t'))
          rw [Hq.out]
          exact Boxed.set _ (show Boxed (W3.drewN nq) (n0 + 1 + 1) 62 .nilIface from Hbe3.out)
  case done =>
    rintro D ys W hD hys ⟨h1, h2, h3⟩ hK
    have hall : chkA ds (atomsR r) = 0 := chkA_all fun x hx => by
      rw [← hys] at hx
      obtain ⟨y, hy, rfl⟩ := List.mem_map.1 hx
      exact h1 y hy
    have beW : Boxed W (n0 + 1 + 1) 62 .nilIface := h2.same _ _ be5 rfl id
    have hec := beW.cell
    have hef := beW.frozen
    have hel := beW.lt
    have hne : n0 + 1 + 1 ≠ D := by omega
    have Hd := Lib.hid hK
    have H3 := Lib.hid h3
    have Hall := Lib.hid hall
    have Hbe := Lib.hid beW
    clear h1 h2 h3 hK hall beW
    gi_wp2
    have hd2 : (W.setCell ⟨n0 + 1 + 1, 0, none⟩ .nilIface).heap[D]? = some (.deferred (some [])) := (Below.heap_setCell W ⟨n0 + 1 + 1, 0, none⟩ .nilIface D (fun e => hne e.symm)).trans Hd.out
    have Hbs := Lib.hid (Boxed.set .nilIface Hbe.out)
    have hsz : D < (W.setCell ⟨n0 + 1 + 1, 0, none⟩ .nilIface).heap.size := (Array.getElem?_eq_some_iff.1 hd2).1
    refine ⟨by simp, .inl ⟨_, _, rfl, run_takeDeferred hd2, ?_⟩⟩
    have hbx : Boxed ((W.setCell ⟨n0 + 1 + 1, 0, none⟩ .nilIface).putObj D (.deferred none)) (n0 + 1 + 1) 62 .nilIface := (World.putObj_heap_other hne).trans Hbs.out
    refine ⟨_, results_cell1 rfl _ _ (n0 + 1 + 1) .nilIface rfl (loadVar_err hbx.cell), ?_, ?_⟩
    · rw [Hall.out]
      rfl
    · have B6 := H3.out.setCell (p := ⟨n0 + 1 + 1, 0, none⟩) (by show n0 ≤ n0 + 1 + 1; omega) .nilIface
      rw [hn0]
      exact ⟨B6.os, B6.tape, B6.output, by simpa using B6.size, fun i hi => (World.putObj_heap_other (by omega)).trans (B6.block i hi)⟩
  case stop =>
    rintro D cd pre W hD ⟨r1, hr1⟩ ⟨⟨rfl, pre', x, rfl, hg, hbad, hbx⟩, h5⟩ hK
    have hall : chkA ds (atomsR r) = badA ds x.t := by
      rw [← hr1, List.map_append, List.map_cons, List.map_nil, List.append_assoc]
      exact chkA_first hbad fun t ht => by
        obtain ⟨y, hy, rfl⟩ := List.mem_map.1 ht
        exact hg y hy
    have hne : n0 + 1 + 1 ≠ D := by omega
    have Hd := Lib.hid hK
    have H5 := Lib.hid h5
    have Hall := Lib.hid hall
    have Hbx := Lib.hid hbx
    clear h5 hK hall hbx hg hbad hr1
    gi_wp2
    refine ⟨by simp, .inl ⟨_, _, rfl, run_takeDeferred Hd.out, ?_⟩⟩
    have hbx : Boxed (W.putObj D (.deferred none)) (n0 + 1 + 1) 62 (badV c d (badA ds x.t)) := (World.putObj_heap_other hne).trans Hbx.out
    refine ⟨_, results_cell1 rfl _ _ (n0 + 1 + 1) _ rfl (loadVar_err hbx.cell), ?_, ?_⟩
    · rw [Hall.out]
    · have B6 := H5.out
      rw [hn0]
      exact ⟨B6.os, B6.tape, B6.output, by simpa using B6.size, fun i hi => (World.putObj_heap_other (by omega)).trans (B6.block i hi)⟩
theorem checkAtoms_c (ds : List De) (v : Value) (r : Ru) (cs : List Value) (n₀ : Nat) (a b' c d : Addr) (w : World) (hd : SlOf w n₀ 6 (DeC w n₀) ds v) (hc : RuC w n₀ r cs) (hn : n₀ ≤ w.heap.size) (E : YEnv n₀ a b' c d w) :
    Calls Tryz.prog 88 #[v, .agg cs.toArray] w fun e w' => e = .returned (badV c d (chkA ds (atomsR r))) ∧ Below w.heap.size w w' := callsIn_wide.1 (checkAtoms_in ds v r cs n₀ a b' c d w hd hc hn E)
end Go.Proofs.YtbpdfmpfnbdeoaaGreatDoor
