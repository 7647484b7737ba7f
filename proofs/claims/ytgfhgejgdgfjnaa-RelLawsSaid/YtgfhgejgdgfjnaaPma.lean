/- rel.Match. -/
import Derived.Test.YtgfhgejgdgfjnaaPcr
import Derived.Test.YtgfhgejgdgfjnaaPri
import Derived.Test.YtgfhgejgdgfjnaaRel8f
import Derived.Test.YtgfhgejgdgfjnaaAny
namespace Go.Proofs.Ytgfhgejgdgfjnaa
open Go.RowKit Go.Shelf

attribute [local go_sem] Oper.semAt_some

theorem region_still_round {lp m id : Nat} {P : Program} {Q : Exit → Act → World → Prop} {a : Act} {w : World} {l : List Oper} (n : Nat) (hm : P.follows .mixedOrders = true) (hd : noDefer l.toArray = true) (hQ : ¬ LetsOut Q) (hB : Region.lexTailB .any l.toArray n = true)
    (h : wpStill P l.toArray w.drew (fun a' => wpList P l.toArray Q (l.drop n) a' w.drew) (l.take n) a) : (Code.region id l.toArray true).wpIn (Fence.wide.inRound lp) m P Q a w := by
  simp only [Region.lexTailB, Bool.and_eq_true, decide_eq_true_eq] at hB
  obtain ⟨⟨⟨⟨hsel, hn⟩, hs⟩, hc⟩, hlex⟩ := hB
  have hn' : n < l.length := by simpa using hn
  have htl : (l.take n).length = n := by simp; omega
  have hdl : (l.drop n).length = l.toArray.size - n := by simp
  have inv0 : HeadInv .any l.toArray n (Array.replicate l.toArray.size false) :=
    ⟨by simp, fun j oj _ hl => (by rw [getD_replicate_false] at hl; cases hl), fun t _ ht => getD_in (by simpa using ht) (getD_replicate_false _ _)⟩
  have H := wpAnyL_lex (md := .any) (g := l.toArray.size - n) hsel hs hc hn (l.take n) 0 _ a (fun j hj => by
    have hj' : j < n := by rw [htl] at hj; exact hj
    simp [hj']) (by simpa using htl) inv0 (by rw [htl]; exact hlex) h
  refine any_region hm hd hQ ?_
  have := wpAny_of_head (Q' := Q) (g := l.toArray.size - n) (fun listed a' hL => by
    have := wpAny_of_seq (md := .any) (Q' := Q) (l.drop n) n listed a' w.drew (fun j => by simp [List.getElem?_drop]) (by rw [hdl]; exact hL.1) hL.2
    rwa [hdl] at this) _ _ _ H
  rw [htl, show n + (l.toArray.size - n) = l.toArray.size by omega] at this
  exact this
/-- The marks that loops over iterators have left among the deferred calls. -/
def markL (ds : List Nat) : List Deferred := ds.map fun D => { target := .collected D, args := #[] }
structure MksW (B : Nat) (ds : List Nat) (W : World) : Prop where
  nd : ds.Nodup
  at_ : ∀ D ∈ ds, B ≤ D ∧ W.heap[D]? = some (.deferred (some []))
theorem MksW.below {B : Nat} {ds : List Nat} {W W' : World} (h : MksW B ds W) (hb : Below W.heap.size W W') : MksW B ds W' :=
  ⟨h.nd, fun D hD => ⟨(h.at_ D hD).1, (hb.block D (heapLt (h.at_ D hD).2)).trans (h.at_ D hD).2⟩⟩
theorem MksW.grown {B : Nat} {ds : List Nat} {W W' : World} {row : Option Nat} (h : MksW B ds W) (hg : W.grownBy W' row) (hr : ∀ k, row = some k → ∃ o, W.heap[k]? = some o ∧ o.isCells = true) : MksW B ds W' :=
  ⟨h.nd, fun D hD => ⟨(h.at_ D hD).1, (hg.block D (heapLt (h.at_ D hD).2) (fun e => by
    obtain ⟨o, ho, hc⟩ := hr D e.symm
    rw [(h.at_ D hD).2] at ho
    cases ho
    cases hc)).trans (h.at_ D hD).2⟩⟩
theorem MksW.cons {B D : Nat} {ds : List Nat} {W W' : World} (h : MksW B ds W) (hb : Below W.heap.size W W') (hD : W.heap.size ≤ D) (hB : B ≤ W.heap.size) (hd : W'.heap[D]? = some (.deferred (some []))) : MksW B (D :: ds) W' := by
  refine ⟨List.nodup_cons.2 ⟨fun hm => ?_, h.nd⟩, fun E hE => ?_⟩
  · have := heapLt (h.at_ D hm).2
    omega
  · rcases List.mem_cons.1 hE with rfl | hE
    · exact ⟨by omega, hd⟩
    · exact (h.below hb).at_ E hE
/-- All marks are taken in. -/
theorem leave_marks {F : Fence} {n : Nat} {P : Program} {fn : Func} {tmps : Array Value} {R : Ending → World → Prop} {B : Nat} {S : World → Prop} (hS : Firm B S) :
    ∀ (ds : List Nat) (W : World), MksW B ds W → S W → (∀ W', S W' → LeavesIn F n P fn tmps R [] .returning W') → LeavesInM F n P fn tmps R (markL ds) .returning W
  | [], W, _, hs, h => h W hs
  | D :: ds, W, hm, hs, h => by
    have hd := hm.at_ D (List.mem_cons_self ..)
    have hnd := List.nodup_cons.1 hm.nd
    refine ⟨by simp, .inl ⟨D, _, rfl, run_takeDeferred hd.2, leave_marks hS ds _ ⟨hnd.2, fun E hE => ?_⟩ (hS _ _ ⟨D, _, _, hd.1, hd.2, rfl, rfl, rfl⟩ hs) h⟩⟩
    have hE' := hm.at_ E (List.mem_cons_of_mem _ hE)
    exact ⟨hE'.1, (World.putObj_heap_other (by rintro rfl; exact hnd.1 hE)).trans hE'.2⟩
theorem own_block {W : World} {base e size n : Nat} {v : Value} {xs : List Value} (h : W.ownsRow base e size v n xs) : ∀ g, v.ownBlock = some g → ∃ o, W.heap[g]? = some o ∧ o.isCells = true := by
  intro g hg
  rcases h.2 with ⟨rfl, _⟩ | ⟨g', cap, cur, rfl, _, hr, _⟩
  · cases hg
  · cases hg
    exact ⟨_, hr, rfl⟩
theorem RwsS.put {B : Nat} {W W' : World} {l : List Rw} {v : Value} (h : RwsS W W.heap.size l v) (hp : Put B W W') : RwsS W' W'.heap.size l v := by
  have hk : ∀ p c, W.cell? p = some c → W'.cell? p = some c := fun p c hc => put_cell hp hc
  have hz : W.heap.size ≤ W'.heap.size := by rw [put_sz hp]; omega
  exact SlOf.more (R := RwC W' W.heap.size) (by
    have := sl_cellsTo h hk (Nat.le_refl _)
    refine SlOf.more this (Nat.le_refl _) fun r _ cs ⟨v, e, hv⟩ => ⟨v, e, sl_cellsTo hv hk (Nat.le_refl _)⟩) hz fun r _ cs hr => hr.more hz

/-- What stands while columns are looked at: nothing that lay has turned. -/
structure MtI (w0 : World) (v u : Value) (cols : List Int) (vals : List Vl) (x : Rw) (k : Nat) (W : World) : Prop where
  g : PrG w0 v u 38 22 w0.heap.size (w0.heap.size + 1) W
  la : k ≤ cols.length
  lb : k ≤ vals.length
  e : fitsM cols vals x = (true && ((cols.zip vals).drop k).all fun p => atM x p.1 p.2)
theorem MtI.put {w0 : World} {v u : Value} {cols : List Int} {vals : List Vl} {x : Rw} {k : Nat} {W W' : World} {B : Nat} (h : MtI w0 v u cols vals x k W) (hp : Put B W W') (hB : w0.heap.size ≤ B) : MtI w0 v u cols vals x k W' :=
  ⟨h.g.put hp hB, h.la, h.lb, h.e⟩
theorem MtI.below {w0 : World} {v u : Value} {cols : List Int} {vals : List Vl} {x : Rw} {k : Nat} {W W' : World} (h : MtI w0 v u cols vals x k W) (hb : Below W.heap.size W W') : MtI w0 v u cols vals x k W' :=
  ⟨h.g.below hb, h.la, h.lb, h.e⟩

set_option linter.unusedSimpArgs false in
set_option maxRecDepth 100000 in
set_option maxHeartbeats 16000000 in
theorem pmatch_c (l : List Rw) (cols : List Int) (vals : List Vl) (v cv u : Value) (w : World) (hl : l.length ≤ 1000000) (h1 : RwsS w w.heap.size l v) (hc : SlOf w w.heap.size 1 IntC cols cv) (h2 : SlOf w w.heap.size 3 VlC vals u) (hf : ∀ r ∈ l, FitW r) :
    Calls Try.prog 28 #[v, cv, u] w fun e w' => (∃ r, e = .returned r ∧ RwsS w' w'.heap.size (matchL l cols vals) r) ∧ Below w.heap.size w w' := by
  refine callsIn_wide (n := 8).1 ?_
  obtain ⟨i0, hi, hz0, hz1, hz2⟩ := info_parts infoRow
  have HC := Lib.hid hc
  have HU := Lib.hid h2
  obtain ⟨o1, cap1, rfl, hc1, hm1, S1⟩ := SlOf.open h1
  obtain ⟨o2, cap2, rfl, hc2, hm2, S2⟩ := SlOf.open hc
  obtain ⟨o3, cap3, rfl, hc3, hm3, S3⟩ := SlOf.open h2
  have HL := Lib.hid hl
  have HF := Lib.hid hf
  obtain ⟨n0, hn0⟩ : ∃ n0, w.heap.size = n0 := ⟨_, rfl⟩
  have Hn0 := Lib.hid hn0
  clear h1 h2 hc hl hf hn0
  refine callsIn_of_wp_marks Try.func28 rfl trivial ?_ rfl
  simp only [Try.ntmps28, List.size_toArray, List.length_cons, List.length_nil, Nat.reduceAdd, Nat.reduceSub, Array.replicate_succ, Array.replicate_zero, List.push_toArray, List.append_toArray, List.nil_append, List.cons_append]
  gi_wp2_with fail
  refine wpIn_wide.2 (wp_scope_straight ((wpIn_wide (n := 8)).1 ?_))
  gi_wp2_with fail
  refine wpIn_label ?_
  gi_wp2_with fail
  refine wpIn_loop (fun a wr => ∃ (k : Nat) (ov : Value) (hs : List (Rw × Value)) (ds : List Nat) (u9 u15 u16 u17 u18 u19 u20 u40 u41 u42 u43 u44 u45 : Value), k ≤ l.length ∧ Hid (RoR w w.heap.size ov hs wr) ∧ Hid (hs.map Prod.fst = matchL (l.take k) cols vals) ∧ Hid (MksW w.heap.size ds wr) ∧ a = { tmps := #[.slice o1 l.length cap1, .slice o2 cols.length cap2, .slice o3 vals.length cap3, undef, undef, undef, .slice none 0 0, ov, undef, u9, undef, undef, .slice o1 l.length cap1, .int .i64 l.length, .int .i64 k, u15, u16, u17, u18, u19, u20, undef, undef, undef, undef, undef, undef, undef, undef, undef, undef, undef, undef, undef, undef, undef, undef, undef, undef, undef, u40, u41, u42, u43, u44, u45, undef], defers := markL ds }) (fun a _ => l.length - (intOf (a.tmps.getD 14 undef)).toNat) ?start ?round
  case start =>
    exact ⟨0, .slice none 0 0, [], [], undef, undef, undef, undef, undef, undef, undef, undef, undef, undef, undef, undef, undef, Nat.zero_le _, Lib.hid ⟨World.ownsRow_nil _ _ _ _, fun x hx => (by cases hx), Below.refl _ _⟩, Lib.hid rfl, Lib.hid ⟨List.nodup_nil, fun D hD => by cases hD⟩, rfl⟩
  case round =>
    rintro a wr ⟨k, ov, hs, ds, u9, u15, u16, u17, u18, u19, u20, u40, u41, u42, u43, u44, u45, hk, HO, HM, HD, rfl⟩
    obtain ⟨dd, hdd⟩ : ∃ dd, markL ds = dd := ⟨_, rfl⟩
    rw [hdd]
    have Hdd := Lib.hid hdd
    clear hdd
    have hB := HO.out.b
    have hBs := hB.size
    by_cases hlt : k < l.length
    · have hlt' : (k : Int) < (l.length : Int) := by omega
      have hk0 : (0 : Int) ≤ (k : Int) := by omega
      obtain ⟨r, hx⟩ : ∃ x, l[k]? = some x := ⟨l[k], List.getElem?_eq_getElem hlt⟩
      obtain ⟨p, p3, q3, rfl, ha, Hx, c0, _⟩ := rw_at S1 hB hx
      have hal : (p.add k).block < wr.heap.size := by rw [addBlock]; omega
      have HMs := Lib.hid (match_step (cols := cols) (vals := vals) hx)
      have HFr := Lib.hid (HF.out r (List.mem_of_getElem? hx))
      have HBw := Lib.hid hB
      clear hx hB
      gi_wp2_with fail
      generalize hW1 : wr.alloc (.cells #[.slice p3 r.length q3] 22) = W1
      generalize hnr : wr.heap.size = nr
      have Hnr := Lib.hid hnr
      have b1 : Below wr.heap.size wr W1 := by rw [← hW1]; exact (Below.refl _ _).alloc (Nat.le_refl _) _
      have z1 : W1.heap.size = nr + 1 := by rw [← hW1, ← hnr]; simp
      have e1 : W1.heap[nr]? = some (.cells #[.slice p3 r.length q3] 22 (0, 0)) := by rw [← hW1, ← hnr]; exact World.alloc_heap_new wr _
      have HB1 := Lib.hid b1
      have HZ1 := Lib.hid z1
      have HE1 := Lib.hid e1
      clear hW1 hnr b1 z1 e1
      refine ⟨trivial, (pairsI_in 7 _ _ _ _ _ _ _).mono ?_⟩
      rintro e WL ⟨rfl, hWL⟩
      have HWC := Lib.hid (SlOf.int HC.out (HBw.out.trans (HB1.out.mono hBs)) (HBw.out.trans (HB1.out.mono hBs)).size)
      have HWU := Lib.hid (VlS.past HU.out (HBw.out.trans (HB1.out.mono hBs)))
      have HRw : Hid (SlOf W1 W1.heap.size 3 VlC r (.slice p3 r.length q3)) := Lib.hid (VlS.past Hx.out HB1.out)
      have HI0 : Hid (MtI W1 (.slice o2 cols.length cap2) (.slice o3 vals.length cap3) cols vals r 0 WL) := Lib.hid (by
        refine ⟨⟨?_, ?_, ?_⟩, Nat.zero_le _, Nat.zero_le _, rfl⟩
        · rw [hWL]
          exact ((Below.refl _ W1).alloc (Nat.le_refl _) _).alloc (by simp) _
        · rw [hWL]
          exact row_more (newRow rfl) _
        · rw [hWL]
          exact newRow (by simp))
      have HZL : Hid (WL.heap.size = nr + 3) := Lib.hid (by rw [hWL]; simp; have := HZ1.out; omega)
      rw [HZ1.out]
      clear hWL
      gi_wp2_with fail
      refine range_moves2 rfl (by omega) (gf := 55) (bd := #[]) (lb := #[.pointer (some ⟨nr + 1, 0, none⟩), .pointer (some ⟨nr + 1 + 1, 0, none⟩)]) rfl trivial (enters_of Try.func55 (by kernel_rfl) rfl)
        (pairsI_moves 7 (by omega) cols vals _ _ W1 (nr + 1) (nr + 1 + 1) HWC.out HWU.out) (fun _ => rfl)
        (fun x W => ∃ j, x.1 = j + 1 ∧ MtI W1 (.slice o2 cols.length cap2) (.slice o3 vals.length cap3) cols vals r j W ∧ cols[j]? = some x.2.1 ∧ vals[j]? = some x.2.2)
        (fun x W => MtI W1 (.slice o2 cols.length cap2) (.slice o3 vals.length cap3) cols vals r x.1 W)
        (fun c W => c = .exit 1 ∧ Below W1.heap.size W1 W ∧ fitsM cols vals r = false)
        (fun W => Below W1.heap.size W1 W ∧ fitsM cols vals r = true)
        (fun x a' W => ∃ (j m : Nat) (t0 t1 t2 t3 t4 t5 t6 t7 t8 t12 t13 t14 t15 t16 t17 t18 t19 t20 t21 t22 t23 t24 t25 t26 t27 t28 t29 t30 t31 t32 t33 t34 t35 t36 t37 t38 t39 t40 t41 t42 t43 t44 t45 t46 : Value), x.1 = j + 1 ∧ MtI W1 (.slice o2 cols.length cap2) (.slice o3 vals.length cap3) cols vals r j W ∧ cols[j]? = some x.2.1 ∧ vals[j]? = some x.2.2 ∧ W.heap[m]? = some (.cells #[.bool x.2.2.sym, .int .i64 x.2.2.n, .string x.2.2.s] 43 (0, 0)) ∧ a' = { tmps := #[t0, t1, t2, t3, t4, t5, t6, t7, t8, .pointer (some ⟨nr, 0, none⟩), .int .i64 x.2.1, .pointer (some ⟨m, 0, none⟩), t12, t13, t14, t15, t16, t17, t18, t19, t20, t21, t22, t23, t24, t25, t26, t27, t28, t29, t30, t31, t32, t33, t34, t35, t36, t37, t38, t39, t40, t41, t42, t43, t44, t45, t46], defers := [] })
        ?fB ?fX ?fZ ?fM ?h0 ?hB ?assign ?body ?done ?stop
      case fB =>
        rintro x W W' hp hI
        exact hI.put hp (by rw [HZL.out, HZ1.out]; omega)
      case fX =>
        rintro c W W' hp ⟨h1, h2, h3⟩
        exact ⟨h1, put_bel hp h2 (by rw [HZL.out, HZ1.out]; omega), h3⟩
      case fZ =>
        rintro W W' hp ⟨h1, h2⟩
        exact ⟨put_bel hp h1 (by rw [HZL.out, HZ1.out]; omega), h2⟩
      case fM =>
        rintro x a' W W' hp ⟨j, m, t0, t1, t2, t3, t4, t5, t6, t7, t8, t12, t13, t14, t15, t16, t17, t18, t19, t20, t21, t22, t23, t24, t25, t26, t27, t28, t29, t30, t31, t32, t33, t34, t35, t36, t37, t38, t39, t40, t41, t42, t43, t44, t45, t46, h1, h2, h3, h4, h5, h6⟩
        exact ⟨j, m, t0, t1, t2, t3, t4, t5, t6, t7, t8, t12, t13, t14, t15, t16, t17, t18, t19, t20, t21, t22, t23, t24, t25, t26, t27, t28, t29, t30, t31, t32, t33, t34, t35, t36, t37, t38, t39, t40, t41, t42, t43, t44, t45, t46, h1, h2.put hp (by rw [HZL.out, HZ1.out]; omega), h3, h4, put_block hp h5 (.inl rfl), h6⟩
      case h0 =>
        intro o o'
        exact HI0.out.below (((Below.refl _ _).alloc (Nat.le_refl _) _).alloc (by simp) _)
      case hB =>
        rintro x W2 hI
        have hg := hI.g
        rw [HZ1.out] at hg
        refine ⟨⟨hg, hI.la, hI.lb⟩, ?_, ?_⟩
        · rintro x' W3 ⟨t1, t2, t3, t4⟩
          exact ⟨keepsB t4 _, x.1, t1, hI.below t4, t2, t3⟩
        · rintro W3 ⟨t1, t2⟩
          refine ⟨keepsB t2 _, (hI.below t2).g.b, hI.e.trans (fits_end (by omega) true)⟩
      case assign =>
        rintro lp x W ⟨j, h1, h2, h3, h4⟩
        obtain ⟨xk, xa, xb⟩ := x
        simp only at h1 h3 h4
        have hb := (Below.refl W.heap.size W).alloc (Nat.le_refl _) (.cells #[.bool xb.sym, .int .i64 xb.n, .string xb.s] 43)
        have H2 := Lib.hid (h2.below hb)
        have HK := Lib.hid (keepsB hb WL.heap.size)
        have Hr2 := Lib.hid (World.alloc_heap_new W (.cells #[.bool xb.sym, .int .i64 xb.n, .string xb.s] 43))
        clear h2 hb
        gi_wp2
        exact ⟨HK.out, j, W.heap.size, _, _, _, _, _, _, _, _, _, _, _, _, _, _, _, _, _, _, _, _, _, _, _, _, _, _, _, _, _, _, _, _, _, _, _, _, _, _, _, _, _, _, _, _, h1, H2.out, h3, h4, Hr2.out, by trivial⟩
      case body =>
        rintro lp x a' W ⟨j, m, t0, t1, t2, t3, t4, t5, t6, t7, t8, t12, t13, t14, t15, t16, t17, t18, t19, t20, t21, t22, t23, t24, t25, t26, t27, t28, t29, t30, t31, t32, t33, t34, t35, t36, t37, t38, t39, t40, t41, t42, t43, t44, t45, t46, h1, h2, h3, h4, h5, rfl⟩
        obtain ⟨xk, c, z⟩ := x
        simp only at h1 h3 h4 h5
        subst h1
        have H2 := Lib.hid h2
        have hr0 : W.heap[nr]? = some (.cells #[.slice p3 r.length q3] 22 (0, 0)) := (h2.g.b.block nr (by rw [HZ1.out]; omega)).trans HE1.out
        have r0 : W.cell? ⟨nr, 0, none⟩ = some (.slice p3 r.length q3) := (row_cell hr0 0).1
        have lr := heapLt hr0
        have z0 : W.cell? ⟨m, 0, none⟩ = some (.bool z.sym) := (row_cell h5 0).1
        have z1 : W.cell? ⟨m, 1, none⟩ = some (.int .i64 z.n) := (row_cell h5 1).1
        have z2 : W.cell? ⟨m, 2, none⟩ = some (.string z.s) := (row_cell h5 2).1
        have lz := heapLt h5
        have Hst := Lib.hid (h2.e.trans (fits_step h3 h4 true))
        have hja : j < cols.length := (List.getElem?_eq_some_iff.1 h3).1
        have hjb : j < vals.length := (List.getElem?_eq_some_iff.1 h4).1
        have hrw := VlS.past HRw.out h2.g.b
        obtain ⟨_, _, ex, hcx, hmx, SX⟩ := SlOf.open hrw
        cases ex
        clear h2 h3 h4 h5 hr0 hrw
        by_cases hc0 : 0 ≤ c
        · obtain ⟨n, rfl⟩ := Int.eq_ofNat_of_zero_le hc0
          by_cases hn : n < r.length
          · have hn' : (n : Int) < (r.length : Int) := by omega
            obtain ⟨y, hy⟩ : ∃ y, r[n]? = some y := ⟨r[n], List.getElem?_eq_getElem hn⟩
            obtain ⟨py, rfl, hpy, _, hys, y0, y1, y2⟩ := vl_at SX (Below.refl _ _) hy
            have hpyl : (py.add (n * 3)).block < W.heap.size := by rw [addBlock]; omega
            have HA : Hid (atM r (n : Int) z = decide (vlC y z = 0)) := Lib.hid (by unfold atM; rw [decide_eq_true hc0, Int.toNat_natCast, hy]; rfl)
            clear hy
            have HV := Lib.hid (pvals_c y z W.drew)
            obtain ⟨q, hq⟩ : ∃ q, vlC y z = q := ⟨_, rfl⟩
            rw [hq] at HA HV
            clear hq
            gi_wp2_with fail
            refine region_still_round 14 (by kernel_rfl) (by kernel_rfl) (fun ⟨_, _, h⟩ => h) (by kernel_rfl) ?_
            simp only [List.take_succ_cons, List.take_zero, List.drop_succ_cons, List.drop_zero]
            repeat still_step
            refine wpStill_nil ?_
            go_wp2_with fail
            refine HV.out.mono ?_
            rintro e w1 ⟨rfl, b1⟩
            have HBB : Hid (Below W.heap.size W w1) := Lib.hid ((Below.refl _ W).drew.trans b1)
            have HK : Hid (KeepsFrom WL.heap.size W w1) := Lib.hid (keepsB HBB.out _)
            clear b1
            by_cases hq0 : q = 0
            · subst hq0
              have HE : Hid (MtI W1 (.slice o2 cols.length cap2) (.slice o3 vals.length cap3) cols vals r (j + 1) w1) := Lib.hid ⟨(H2.out.below HBB.out).g, hja, hjb, by rw [Hst.out, HA.out]; rfl⟩
              go_wp2
              gi_wp2
              exact ⟨HK.out, HE.out⟩
            · have hq' : (q != 0) = true := by simpa using hq0
              have HN : Hid (fitsM cols vals r = false) := Lib.hid (by rw [Hst.out, HA.out, decide_eq_false hq0]; rfl)
              have HBd : Hid (Below W1.heap.size W1 w1) := Lib.hid (H2.out.below HBB.out).g.b
              go_wp2
              gi_wp2
              exact ⟨HK.out, rfl, HBd.out, HN.out⟩
          · have hn' : ¬ (n : Int) < (r.length : Int) := by omega
            have hn2 : (r.length : Int) ≤ (n : Int) := by omega
            have HA : Hid (atM r (n : Int) z = false) := Lib.hid (by unfold atM; rw [Int.toNat_natCast, List.getElem?_eq_none (by omega)]; simp)
            have HN : Hid (fitsM cols vals r = false) := Lib.hid (by rw [Hst.out, HA.out]; rfl)
            have HK : Hid (KeepsFrom WL.heap.size W W.drew) := Lib.hid (keepsB (Below.refl _ W).drew _)
            have HBd : Hid (Below W1.heap.size W1 W.drew) := Lib.hid H2.out.g.b.drew
            gi_wp2_with fail
            refine region_still_round 14 (by kernel_rfl) (by kernel_rfl) (fun ⟨_, _, h⟩ => h) (by kernel_rfl) ?_
            simp only [List.take_succ_cons, List.take_zero, List.drop_succ_cons, List.drop_zero]
            repeat still_step
            refine wpStill_nil ?_
            go_wp2
            gi_wp2
            exact ⟨HK.out, rfl, HBd.out, HN.out⟩
        · have hc1 : c < 0 := by omega
          have HA : Hid (atM r c z = false) := Lib.hid (by unfold atM; rw [decide_eq_false hc0]; rfl)
          have HN : Hid (fitsM cols vals r = false) := Lib.hid (by rw [Hst.out, HA.out]; rfl)
          have HK : Hid (KeepsFrom WL.heap.size W W.drew) := Lib.hid (keepsB (Below.refl _ W).drew _)
          have HBd : Hid (Below W1.heap.size W1 W.drew) := Lib.hid H2.out.g.b.drew
          gi_wp2_with fail
          refine region_still_round 14 (by kernel_rfl) (by kernel_rfl) (fun ⟨_, _, h⟩ => h) (by kernel_rfl) ?_
          simp only [List.take_succ_cons, List.take_zero, List.drop_succ_cons, List.drop_zero]
          repeat still_step
          refine wpStill_nil ?_
          go_wp2
          gi_wp2
          exact ⟨HK.out, rfl, HBd.out, HN.out⟩
      case done =>
        rintro D W hD ⟨h1, h2⟩ hd
        have hB2 : Below wr.heap.size wr W := HB1.out.trans (h1.mono HB1.out.size)
        have HB2 := Lib.hid hB2
        have hBs2 := hB2.size
        have hr0 : W.heap[nr]? = some (.cells #[.slice p3 r.length q3] 22 (0, 0)) := (h1.block nr (by rw [HZ1.out]; omega)).trans HE1.out
        have r0 : W.cell? ⟨nr, 0, none⟩ = some (.slice p3 r.length q3) := (row_cell hr0 0).1
        have lr := heapLt hr0
        have HDn : Hid (MksW w.heap.size (D :: ds) W) := Lib.hid (HD.out.cons hB2 (by have := HZL.out; have := Hnr.out; omega) hBs hd)
        have HCp := Lib.hid (copyRow_c r _ W (VlS.past HRw.out h1) HFr.out)
        have hO2 := HO.out.below hB2 hBs
        have HM2 : Hid ((hs ++ [(r, Value.nilIface)]).map Prod.fst = matchL (l.take (k + 1)) cols vals) := Lib.hid (by rw [HMs.out, h2, if_pos rfl, List.map_append, HM.out]; rfl)
        have HO2 := Lib.hid hO2
        have hle : hs.length ≤ k := by
          have e1 := congrArg List.length HM.out
          have e2 := match_le (l.take k) cols vals
          rw [List.length_map] at e1
          rw [List.length_take] at e2
          omega
        have HS1 : Hid (hs.length + 1 ≤ maxLen) := Lib.hid (by have := HL.out; unfold maxLen; omega)
        have HS2 : Hid ((hs.length + 1) * 24 ≤ 140737488355328) := Lib.hid (by have := HL.out; omega)
        clear hB2 hr0 h1 h2 hd hO2 hle
        gi_wp2_with fail
        refine ⟨trivial, (callsIn_wide.2 HCp.out).mono ?_⟩
        rintro e w2 ⟨⟨uu, xs, rfl, ho, hlaid⟩, b2⟩
        have HSee := Lib.hid (copy_see (v := ov) ho hlaid (fun g h => (HO2.out.own.lt g h).2))
        have HO3 := Lib.hid (HO2.out.below b2 (by omega))
        obtain ⟨ou, cu, hu⟩ : ∃ o c, uu = .slice o r.length c := by
          rcases ho.2 with ⟨e, h0⟩ | ⟨g, cap, _, e, _⟩
          · exact ⟨none, 0, by rw [e, h0]⟩
          · exact ⟨_, _, e⟩
        subst hu
        have hb2s := b2.size
        have HB3 : Hid (Below wr.heap.size wr w2) := Lib.hid (HB2.out.trans (b2.mono hBs2))
        have HDm : Hid (MksW w.heap.size (D :: ds) w2) := Lib.hid (HDn.out.below b2)
        clear ho hlaid b2
        gi_wp2_with (gi_at_builtin; refine wpListIn_append_any _ rfl (.tmp 40) (.tmp 43) 23 rfl w.heap.size 22 i0 _ 1 24 Try.underlying23 hi hz0 hz1 hz2 rfl (by decide) ov hs.length _ rfl (own_past HO3.out.own ((Below.refl _ _).alloc (Nat.le_refl _) _)) (.slice (some ⟨w2.heap.size, 0, none⟩) 1 1) 1 [.slice ou r.length cu] rfl (.inr ⟨_, _, rfl, rfl, World.news_of_block (World.alloc_heap_new _ _), one_row _ rfl⟩) HS1.out HS2.out (by simp; omega) ?_; intro v' w3 hown' hgrow hv'; have hb3 : Below w2.heap.size w2 (w2.alloc (.cells #[.slice ou r.length cu] 22)) := (Below.refl _ _).alloc (Nat.le_refl _) _; have HO4 := Lib.hid ((HO3.out.below hb3 (by omega)).snoc hgrow hv' (see_below HSee.out hb3 hb3.size) hown' (by simp; omega)); have HD4 : Hid (MksW w.heap.size (D :: ds) w3) := Lib.hid ((HDm.out.below hb3).grown hgrow (fun g hg => own_block ((HO3.out.below hb3 (by omega)).own) g hg)); clear hb3 hown' hgrow hv')
        gi_wp2
        refine ⟨⟨k + 1, v', hs ++ [(r, .slice ou r.length cu)], D :: ds, _, _, _, _, _, _, _, _, _, _, _, _, _, hlt, HO4, Lib.hid (by rw [List.map_append] at HM2 ⊢; exact HM2.out), HD4, by rw [← Hdd.out]; go_num⟩, ?_⟩
        simp [intOf]
        omega
      case stop =>
        rintro D c W hD ⟨rfl, h1, h2⟩ hd
        have hB2 : Below wr.heap.size wr W := HB1.out.trans (h1.mono HB1.out.size)
        have HDn : Hid (MksW w.heap.size (D :: ds) W) := Lib.hid (HD.out.cons hB2 (by have := HZL.out; have := Hnr.out; omega) hBs hd)
        have HO2 := Lib.hid (HO.out.below hB2 hBs)
        have HM2 : Hid (hs.map Prod.fst = matchL (l.take (k + 1)) cols vals) := Lib.hid (by rw [HMs.out, h2, if_neg (by simp), List.append_nil, HM.out])
        clear hB2 h1 h2 hd
        gi_wp2
        refine ⟨⟨k + 1, ov, hs, D :: ds, _, _, _, _, _, _, _, _, _, _, _, _, _, hlt, HO2, HM2, HDn, by rw [← Hdd.out]; go_num⟩, ?_⟩
        simp [intOf]
        omega
    · have hlt' : ¬ (k : Int) < (l.length : Int) := by omega
      have hkl : k = l.length := by omega
      subst hkl
      have HR : Hid (RwsS wr wr.heap.size (matchL l cols vals) ov) := Lib.hid (by have := HO.out.rows; rwa [HM.out, List.take_length] at this)
      gi_wp2
      rw [← Hdd.out]
      refine leave_marks (B := w.heap.size) (S := fun W => RwsS W W.heap.size (matchL l cols vals) ov ∧ Below w.heap.size w W) ?_ ds _ HD.out ⟨HR.out, HO.out.b⟩ ?_
      · rintro W W' hp ⟨h1, h2⟩
        exact ⟨h1.put hp, put_bel hp h2 (Nat.le_refl _)⟩
      · rintro W ⟨h1, h2⟩
        exact ⟨ov, by simp [results, Try.results28, go_sem], ⟨ov, rfl, h1⟩, h2⟩
end Go.Proofs.Ytgfhgejgdgfjnaa
