/- rel.compareLists, rel.Compare. -/
import Derived.Test.YtphmiifochjemaaPr
import Derived.Shelf.Abstract
namespace Go.Proofs.Ytphmiifochjemaa
open Go.RowKit Go.Shelf

attribute [local go_sem] Oper.semAt_some

theorem keepsB {W W' : World} (h : Below W.heap.size W W') (B : Nat) : KeepsFrom B W W' := KeepsFrom.of_grownBy (row := none) ⟨h.os, h.tape, h.output, h.size, fun k hk _ => h.block k hk⟩ (fun j e => by cases e)
theorem results_cell1 {P : Program} {fn : Func} {p : Tmp} {ty : TypeId} (h : fn.results = #[.cell p ty]) (tmps : Array Value) (w : World) (b : Nat) (v : Value) (hp : tmps.getD p undef = .pointer (some ⟨b, 0, none⟩)) (hr : (loadVar ty ⟨b, 0, none⟩).run P w = .ok v w) :
    (results fn tmps).run P w = .ok v w := by
  have hp' : tmps[p]?.getD undef = .pointer (some ⟨b, 0, none⟩) := by simpa using hp
  simp [results, h, hp', asAddr, hr, Sem.run_bind, Result.andThen]
theorem newRow {W : World} {b : Nat} {o : Obj} (hb : W.heap.size = b) : (W.alloc o).heap[b]? = some o := by subst hb; exact World.alloc_heap_new W o
theorem row_more {W : World} {b : Nat} {o : Obj} (h : W.heap[b]? = some o) (o' : Obj) : (W.alloc o').heap[b]? = some o := (Below.heap_alloc _ _ _ (heapLt h)).trans h
theorem setRow {W : World} {b : Nat} {T : TypeId} {u v : Value} (h : W.heap[b]? = some (.cells #[u] T (0, 0))) : (W.setCell ⟨b, 0, none⟩ v).heap[b]? = some (.cells #[v] T (0, 0)) := set_heap h v
theorem setOther {W : World} {b k : Nat} {v : Value} (hne : k ≠ b) : (W.setCell ⟨b, 0, none⟩ v).heap[k]? = W.heap[k]? := by
  simp [World.setCell, Array.getElem?_modify]
  intro e; exact absurd e.symm hne

theorem load_int {W : World} {b : Nat} {v : Value} (h : W.cell? ⟨b, 0, none⟩ = some v) : (loadVar 3 ⟨b, 0, none⟩).run Try.prog W = .ok v W := by
  have ha : ∀ w : World, (isAgg 3).run Try.prog w = .ok false w := fun w => by kernel_rfl
  have hl : b < W.heap.size := World.block_lt_of_cell? _ _ h
  unfold loadVar
  go_simp
theorem load_bool {W : World} {b : Nat} {v : Value} (h : W.cell? ⟨b, 0, none⟩ = some v) : (loadVar 4 ⟨b, 0, none⟩).run Try.prog W = .ok v W := by
  have ha : ∀ w : World, (isAgg 4).run Try.prog w = .ok false w := fun w => by kernel_rfl
  have hl : b < W.heap.size := World.block_lt_of_cell? _ _ h
  unfold loadVar
  go_simp
/-- The call ends: one mark is taken in, and the result is read from its cell. -/
theorem leave_cell {F : Fence} {n : Nat} {P : Program} {fn : Func} {p : Tmp} {ty : TypeId} (hres : fn.results = #[.cell p ty]) {R : Ending → World → Prop} {tmps : Array Value} {D b : Nat} {W : World} {v : Value} {T : TypeId} (hd : W.heap[D]? = some (.deferred (some [])))
    (hp : tmps.getD p undef = .pointer (some ⟨b, 0, none⟩)) (hv : W.heap[b]? = some (.cells #[v] T (0, 0))) (hload : ∀ W' : World, W'.cell? ⟨b, 0, none⟩ = some v → (loadVar ty ⟨b, 0, none⟩).run P W' = .ok v W')
    (hR : R (.returned v) (W.putObj D (.deferred none))) : bodyPostM F n P fn R Exit.ret { tmps := tmps, defers := [{ target := .collected D, args := #[] }] } W := by
  have hne : b ≠ D := fun e => by rw [e, hd] at hv; cases hv
  have hv2 : (W.putObj D (.deferred none)).heap[b]? = some (.cells #[v] T (0, 0)) := (World.putObj_heap_other hne).trans hv
  exact ⟨by simp, .inl ⟨_, _, rfl, run_takeDeferred hd, ⟨_, results_cell1 hres _ _ b v hp (hload _ (row_cell hv2 0).1), hR⟩⟩⟩
theorem put_gone {n D : Nat} {w W : World} (h : Below n w W) (hn : n ≤ D) : Below n w (W.putObj D (.deferred none)) :=
  ⟨h.os, h.tape, h.output, by simpa using h.size, fun i hi => (World.putObj_heap_other (by omega)).trans (h.block i hi)⟩
/-- What stands while two rows are gone through. -/
structure ClI (a b : Rw) (v u : Value) (w : World) (k : Nat) (W : World) : Prop where
  g : PrG w v u 23 23 (w.heap.size + 2) (w.heap.size + 2 + 1) W
  f : W.heap[w.heap.size]? = some (.cells #[.func (.func 29) #[] #[]] 52 (0, 0))
  r : W.heap[w.heap.size + 1]? = some (.cells #[.int .i64 0] 3 (0, 0))
  la : k ≤ a.length
  lb : k ≤ b.length
  e : rwC a b = lexC vlC (a.drop k) (b.drop k)
theorem PrG.put {w0 : World} {v u : Value} {T1 T2 : TypeId} {B1 B2 : Nat} {W W' : World} {B : Nat} (h : PrG w0 v u T1 T2 B1 B2 W) (hp : Put B W W') (hB : w0.heap.size ≤ B) : PrG w0 v u T1 T2 B1 B2 W' :=
  ⟨put_bel hp h.b hB, put_block hp h.one (.inl rfl), put_block hp h.two (.inl rfl)⟩
theorem PrG.below {w0 : World} {v u : Value} {T1 T2 : TypeId} {B1 B2 : Nat} {W W' : World} (h : PrG w0 v u T1 T2 B1 B2 W) (hb : Below W.heap.size W W') : PrG w0 v u T1 T2 B1 B2 W' :=
  ⟨h.b.trans (hb.mono h.b.size), (hb.block _ (heapLt h.one)).trans h.one, (hb.block _ (heapLt h.two)).trans h.two⟩
theorem ClI.put {a b : Rw} {v u : Value} {w : World} {k : Nat} {W W' : World} {B : Nat} (h : ClI a b v u w k W) (hp : Put B W W') (hB : w.heap.size ≤ B) : ClI a b v u w k W' :=
  ⟨h.g.put hp hB, put_block hp h.f (.inl rfl), put_block hp h.r (.inl rfl), h.la, h.lb, h.e⟩
theorem ClI.below {a b : Rw} {v u : Value} {w : World} {k : Nat} {W W' : World} (h : ClI a b v u w k W) (hb : Below W.heap.size W W') : ClI a b v u w k W' :=
  ⟨h.g.below hb, (hb.block _ (heapLt h.f)).trans h.f, (hb.block _ (heapLt h.r)).trans h.r, h.la, h.lb, h.e⟩

set_option linter.unusedSimpArgs false in
set_option maxRecDepth 100000 in
set_option maxHeartbeats 8000000 in
theorem pcl_c (a b : Rw) (v u : Value) (w : World) (hv : SlOf w w.heap.size 3 VlC a v) (hu : SlOf w w.heap.size 3 VlC b u) :
    Calls Try.prog 28 #[v, u, .func (.func 29) #[] #[]] w fun e w' => e = .returned (.int .i64 (rwC a b)) ∧ Below w.heap.size w w' := by
  refine callsIn_wide (n := 8).1 ?_
  have HV := Lib.hid hv
  have HU := Lib.hid hu
  obtain ⟨o1, cap1, rfl, hc1, hm1, S1⟩ := SlOf.open hv
  obtain ⟨o2, cap2, rfl, hc2, hm2, S2⟩ := SlOf.open hu
  obtain ⟨n0, hn0⟩ : ∃ n0, w.heap.size = n0 := ⟨_, rfl⟩
  have ec : ∀ args w, (callFunc 29 args).run Try.prog w = .ok (.enter 29 args) w := enters_of Try.func29 (by kernel_rfl) rfl
  clear hv hu
  refine callsIn_of_wp_marks Try.func28 rfl trivial ?_ rfl
  simp only [Try.ntmps28, List.size_toArray, List.length_cons, List.length_nil, Nat.reduceAdd, Nat.reduceSub, Array.replicate_succ, Array.replicate_zero, List.push_toArray, List.append_toArray, List.nil_append, List.cons_append]
  gi_wp2_with fail
  refine ⟨trivial, (pairsV_in 7 _ _ _ _ _ _ _).mono ?_⟩
  rintro e WL ⟨rfl, hWL⟩
  have hsz : WL.heap.size = n0 + 4 := by rw [hWL]; simp; omega
  have hI0 : ClI a b (.slice o1 a.length cap1) (.slice o2 b.length cap2) w 0 WL := by
    refine ⟨⟨?_, ?_, ?_⟩, ?_, ?_, Nat.zero_le _, Nat.zero_le _, rfl⟩
    · rw [hWL]
      exact ((((Below.refl _ w).alloc (Nat.le_refl _) _).alloc (by simp) _).alloc (by simp; omega) _).alloc (by simp; omega) _
    · rw [hWL]
      exact row_more (newRow (by simp)) _
    · rw [hWL]
      exact newRow (by simp)
    · rw [hWL]
      exact row_more (row_more (row_more (newRow rfl) _) _) _
    · rw [hWL]
      exact row_more (row_more (newRow (by simp)) _) _
  have HI0 := Lib.hid hI0
  have Hn0 := Lib.hid hn0
  have Hs := Lib.hid hsz
  have e4 : ((w.alloc (.cells #[.func (.func 29) #[] #[]] 52)).alloc (.cells #[.int .i64 0] 3)).heap.size = n0 + 2 := by simp; omega
  rw [e4]
  clear hI0 hsz e4 hWL
  gi_wp2_with fail
  refine range_moves2 rfl (by omega) (gf := 43) (bd := #[]) (lb := #[.pointer (some ⟨n0 + 2, 0, none⟩), .pointer (some ⟨n0 + 2 + 1, 0, none⟩)]) rfl trivial (enters_of Try.func43 (by kernel_rfl) rfl)
    (pairsV_moves 7 (by omega) a b _ _ w (n0 + 2) (n0 + 2 + 1) HV.out HU.out) (fun _ => rfl)
    (fun x W => ∃ j, x.1 = j + 1 ∧ ClI a b (.slice o1 a.length cap1) (.slice o2 b.length cap2) w j W ∧ a[j]? = some x.2.1 ∧ b[j]? = some x.2.2)
    (fun x W => ClI a b (.slice o1 a.length cap1) (.slice o2 b.length cap2) w x.1 W)
    (fun c W => c = .ret ∧ Below n0 w W ∧ W.heap[n0 + 1]? = some (.cells #[.int .i64 (rwC a b)] 3 (0, 0)))
    (fun W => ∃ k, (k = a.length ∨ k = b.length) ∧ ClI a b (.slice o1 a.length cap1) (.slice o2 b.length cap2) w k W)
    (fun x a' W => ∃ j m, x.1 = j + 1 ∧ n0 + 4 ≤ m ∧ ClI a b (.slice o1 a.length cap1) (.slice o2 b.length cap2) w j W ∧ a[j]? = some x.2.1 ∧ b[j]? = some x.2.2 ∧
      W.heap[m]? = some (.cells #[.bool x.2.1.sym, .int .i64 x.2.1.n, .string x.2.1.s] 35 (0, 0)) ∧ W.heap[m + 1]? = some (.cells #[.bool x.2.2.sym, .int .i64 x.2.2.n, .string x.2.2.s] 35 (0, 0)) ∧
      a' = { tmps := #[.slice o1 a.length cap1, .slice o2 b.length cap2, .func (.func 29) #[] #[], undef, undef, .pointer (some ⟨n0, 0, none⟩), .pointer (some ⟨n0 + 1, 0, none⟩), .pointer (some ⟨m, 0, none⟩), .pointer (some ⟨m + 1, 0, none⟩), undef, .slice o1 a.length cap1, .slice o2 b.length cap2,
        .func (.func 43) #[] #[.pointer (some ⟨n0 + 2, 0, none⟩), .pointer (some ⟨n0 + 2 + 1, 0, none⟩)], .agg #[.bool x.2.1.sym, .int .i64 x.2.1.n, .string x.2.1.s], .agg #[.bool x.2.2.sym, .int .i64 x.2.2.n, .string x.2.2.s], undef, undef, undef, undef, undef, undef, undef, undef, undef, undef, undef, undef], defers := [] })
    ?fB ?fX ?fZ ?fM ?h0 ?hB ?assign ?body ?done ?stop
  case fB =>
    rintro x W W' hp hI
    exact hI.put hp (by rw [Hs.out, Hn0.out]; omega)
  case fX =>
    rintro c W W' hp ⟨h1, h2, h3⟩
    exact ⟨h1, put_bel hp h2 (by rw [Hs.out]; omega), put_block hp h3 (.inl rfl)⟩
  case fZ =>
    rintro W W' hp ⟨k, h1, hI⟩
    exact ⟨k, h1, hI.put hp (by rw [Hs.out, Hn0.out]; omega)⟩
  case fM =>
    rintro x a' W W' hp ⟨j, m, h1, h2, h3, h4, h5, h6, h7, h8⟩
    exact ⟨j, m, h1, h2, h3.put hp (by rw [Hs.out, Hn0.out]; omega), h4, h5, put_block hp h6 (.inl rfl), put_block hp h7 (.inl rfl), h8⟩
  case h0 =>
    intro o o'
    exact HI0.out.below (((Below.refl _ _).alloc (Nat.le_refl _) _).alloc (by simp) _)
  case hB =>
    rintro x W1 hI
    have hg := hI.g
    rw [Hn0.out] at hg
    refine ⟨⟨hg, hI.la, hI.lb⟩, ?_, ?_⟩
    · rintro x' W2 ⟨t1, t2, t3, t4⟩
      exact ⟨keepsB t4 _, x.1, t1, hI.below t4, t2, t3⟩
    · rintro W2 ⟨t1, t2⟩
      exact ⟨keepsB t2 _, x.1, t1, hI.below t2⟩
  case assign =>
    rintro l x W ⟨j, h1, h2, h3, h4⟩
    obtain ⟨xk, xa, xb⟩ := x
    simp only at h1 h3 h4
    have hb := ((Below.refl W.heap.size W).alloc (Nat.le_refl _) (.cells #[.bool xa.sym, .int .i64 xa.n, .string xa.s] 35)).alloc (by simp) (.cells #[.bool xb.sym, .int .i64 xb.n, .string xb.s] 35)
    have H2 := Lib.hid (h2.below hb)
    have HK := Lib.hid (keepsB hb WL.heap.size)
    have hm : n0 + 4 ≤ W.heap.size := by
      have := heapLt h2.g.two
      rw [Hn0.out] at this
      omega
    have Hr1 := Lib.hid (row_more (World.alloc_heap_new W (.cells #[.bool xa.sym, .int .i64 xa.n, .string xa.s] 35)) (.cells #[.bool xb.sym, .int .i64 xb.n, .string xb.s] 35))
    have Hr2 := Lib.hid (newRow (W := W.alloc (.cells #[.bool xa.sym, .int .i64 xa.n, .string xa.s] 35)) (o := .cells #[.bool xb.sym, .int .i64 xb.n, .string xb.s] 35) (b := W.heap.size + 1) (by simp))
    clear h2 hb
    gi_wp2
    exact ⟨HK.out, j, W.heap.size, h1, hm, H2.out, h3, h4, Hr1.out, Hr2.out, by trivial⟩
  case body =>
    rintro l x a' W ⟨j, m, h1, h2, h3, h4, h5, h6, h7, rfl⟩
    obtain ⟨xk, xa, xb⟩ := x
    simp only at h1 h4 h5 h6 h7
    subst h1
    have H3 := Lib.hid h3
    have f0 := (row_cell h3.f 0).1
    have a0 : W.cell? ⟨m, 0, none⟩ = some (.bool xa.sym) := (row_cell h6 0).1
    have a1 : W.cell? ⟨m, 1, none⟩ = some (.int .i64 xa.n) := (row_cell h6 1).1
    have a2 : W.cell? ⟨m, 2, none⟩ = some (.string xa.s) := (row_cell h6 2).1
    have b0 : W.cell? ⟨m + 1, 0, none⟩ = some (.bool xb.sym) := (row_cell h7 0).1
    have b1 : W.cell? ⟨m + 1, 1, none⟩ = some (.int .i64 xb.n) := (row_cell h7 1).1
    have b2 : W.cell? ⟨m + 1, 2, none⟩ = some (.string xb.s) := (row_cell h7 2).1
    have l0 := heapLt h3.f
    have l1 := heapLt h6
    have l2 := heapLt h7
    rw [Hn0.out] at f0 l0
    have HVC := Lib.hid (pvals_c xa xb W)
    have Hst := Lib.hid (h3.e.trans (lex_at (c := vlC) h4 h5))
    have hja : j < a.length := (List.getElem?_eq_some_iff.1 h4).1
    have hjb : j < b.length := (List.getElem?_eq_some_iff.1 h5).1
    obtain ⟨z, hz⟩ : ∃ z, vlC xa xb = z := ⟨_, rfl⟩
    rw [hz] at HVC Hst
    clear h3 h4 h5 h6 h7 hz
    gi_wp2_with fail
    refine ⟨trivial, (CallsIn.inRound l (callsIn_wide.2 HVC.out)).mono ?_⟩
    rintro e w1 ⟨rfl, b1'⟩
    have H31 := Lib.hid (H3.out.below b1')
    have HK1 : Hid (KeepsFrom WL.heap.size W w1) := Lib.hid (keepsB b1' _)
    have r1 := (row_cell H31.out.r 0)
    have lr := heapLt H31.out.r
    rw [Hn0.out] at r1 lr
    obtain ⟨r1, r2⟩ := r1
    clear b1'
    by_cases hz0 : z = 0
    · subst hz0
      have Hz2 := Lib.hid (Hst.out.trans (if_pos rfl))
      have HE : Hid (ClI a b (.slice o1 a.length cap1) (.slice o2 b.length cap2) w (j + 1) w1) := Lib.hid ⟨H31.out.g, H31.out.f, H31.out.r, hja, hjb, Hz2.out⟩
      gi_wp2
      exact ⟨HK1.out, HE.out⟩
    · have Hz2 := Lib.hid (Hst.out.trans (if_neg hz0))
      have hz' : (z != 0) = true := by simpa using hz0
      have hrw : rwC a b = z := Hz2.out
      have HX : Hid (KeepsFrom WL.heap.size W (w1.setCell ⟨n0 + 1, 0, none⟩ (.int .i64 z)) ∧ Below n0 w (w1.setCell ⟨n0 + 1, 0, none⟩ (.int .i64 z)) ∧ (w1.setCell ⟨n0 + 1, 0, none⟩ (.int .i64 z)).heap[n0 + 1]? = some (.cells #[.int .i64 z] 3 (0, 0))) := Lib.hid (by
        have hr := H31.out.r
        rw [Hn0.out] at hr
        have hb := H31.out.g.b
        rw [Hn0.out] at hb
        refine ⟨HK1.out.trans (KeepsFrom.of_grownBy (grown_set w1 (n0 + 1) 0 (.int .i64 z)) (fun j e => by have := Option.some.inj e; have := Hs.out; omega)), hb.setCell (by show n0 ≤ n0 + 1; omega) _, setRow hr⟩)
      clear hrw
      gi_wp2
      exact ⟨HX.out.1, rfl, HX.out.2.1, by rw [Hz2.out]; exact HX.out.2.2⟩
  case done =>
    rintro D W hD ⟨k, hk, hI⟩ hd
    have HI := Lib.hid hI
    have Hd := Lib.hid hd
    have Hk : Hid (rwC a b = intC a.length b.length) := Lib.hid (by
      have hla := hI.la
      have hlb := hI.lb
      rw [hI.e]
      unfold intC
      rcases Nat.lt_trichotomy a.length b.length with h | h | h
      · rw [if_pos (by omega), lex_lo (by omega) (by omega)]
      · rw [if_neg (by omega), if_neg (by omega), lex_no (by omega) (by omega)]
      · rw [if_neg (by omega), if_pos (by omega), lex_hi (by omega) (by omega)])
    have HC := Lib.hid (cmpInt_c a.length b.length W)
    have hDl : D < W.heap.size := heapLt hd
    have HD := Lib.hid hD
    clear hI hd hk hD
    gi_wp2_with fail
    refine ⟨trivial, (callsIn_wide.2 HC.out).mono ?_⟩
    rintro e w1 ⟨rfl, b1⟩
    have H1 := Lib.hid (HI.out.below b1)
    have hr := H1.out.r
    rw [Hn0.out] at hr
    have r1 := (row_cell hr 0).1
    have r2 := (row_cell hr 0).2
    have lr := heapLt hr
    have Hr := Lib.hid hr
    have Hd1 : Hid (w1.heap[D]? = some (.deferred (some []))) := Lib.hid ((b1.block D hDl).trans Hd.out)
    have HB1 : Hid (Below n0 w w1) := Lib.hid (by have := H1.out.g.b; rwa [Hn0.out] at this)
    have hne : n0 + 1 ≠ D := by have := Hs.out; have := HD.out; omega
    clear b1 hr
    gi_wp2
    refine leave_cell rfl (b := n0 + 1) (T := 3) (v := .int .i64 (intC a.length b.length)) ((setOther (fun e => hne e.symm)).trans Hd1.out) rfl (setRow Hr.out) (fun _ h => load_int h) ?_
    exact ⟨by rw [Hk.out], by rw [Hn0.out]; exact put_gone (HB1.out.setCell (by show n0 ≤ n0 + 1; omega) _) (by have := Hs.out; have := HD.out; omega)⟩
  case stop =>
    rintro D c W hD ⟨rfl, h2, h3⟩ hd
    gi_wp2
    refine leave_cell rfl (b := n0 + 1) (T := 3) hd rfl h3 (fun _ h => load_int h) ?_
    exact ⟨rfl, by rw [Hn0.out]; exact put_gone h2 (by have := Hs.out; omega)⟩
set_option maxRecDepth 100000 in
set_option maxHeartbeats 4000000 in
theorem pcompare_c (a b : Rw) (v u : Value) (w : World) (hv : SlOf w w.heap.size 3 VlC a v) (hu : SlOf w w.heap.size 3 VlC b u) :
    Calls Try.prog 15 #[v, u] w fun e w' => e = .returned (.int .i64 (rwC a b)) ∧ Below w.heap.size w w' := by
  have HP := Lib.hid (pcl_c a b v u w hv hu)
  clear hv hu
  go_enter Try.func15, Try.ntmps15
  go_wp2_with fail
  refine HP.out.mono ?_
  rintro e w1 ⟨rfl, b1⟩
  go_wp2
  go_ret
  exact ⟨rfl, b1⟩
end Go.Proofs.Ytphmiifochjemaa
