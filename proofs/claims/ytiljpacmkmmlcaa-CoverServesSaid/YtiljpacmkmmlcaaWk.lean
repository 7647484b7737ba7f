/- cover.pileUp: the walk. -/
import Derived.Test.YtiljpacmkmmlcaaWj
import Derived.Test.YtiljpacmkmmlcaaChain2
set_option linter.unusedSimpArgs false
set_option linter.unusedVariables false
namespace Go.Proofs.Ytiljpacmkmmlcaa
open Go.RowKit Go.Shelf

attribute [local go_sem] Oper.semAt_some

theorem region_still_round {lp m id : Nat} {P : Program} {Q : Exit → Act → World → Prop} {a : Act} {w : World} {l : List Oper} (n : Nat) (hm : P.follows .mixedOrders = true) (hd : noDefer l.toArray = true) (hQ : ¬ LetsOut Q) (hB : Region.lexTailB .any l.toArray n = true)
    (h : wpStill P l.toArray w.drew (fun a' => wpList P l.toArray Q (l.drop n) a' w.drew) (l.take n) a) : (Code.region id l.toArray true).wpIn (Fence.wide.inRound lp) m P Q a w := by
  simp only [Region.lexTailB, Bool.and_eq_true, decide_eq_true_eq] at hB
  obtain ⟨⟨⟨⟨hsel, hn⟩, hs⟩, hc⟩, hlex⟩ := hB
  have hn' : n < l.length := by simpa using hn
  have htl : (l.take n).length = n := by simp; omega
  have hdl : (l.drop n).length = l.toArray.size - n := by simp
  have inv0 : HeadInv .any l.toArray n (Array.replicate l.toArray.size false) :=
    ⟨by simp, fun j oj _ hl => (by rw [getD_replicate_false] at hl; cases hl), fun t _ ht => getD_in (by simpa using ht) (getD_replicate_false _ _)⟩
  have H := wpAnyL_lex (md := .any) (g := l.toArray.size - n) hsel hs hc hn (l.take n) 0 _ a (fun j hj => by
    have hj' : j < n := by rw [htl] at hj; exact hj
    simp [hj']) (by simpa using htl) inv0 (by rw [htl]; exact hlex) h
  refine any_region hm hd hQ ?_
  have := wpAny_of_head (Q' := Q) (g := l.toArray.size - n) (fun listed a' hL => by
    have := wpAny_of_seq (md := .any) (Q' := Q) (l.drop n) n listed a' w.drew (fun j => by simp [List.getElem?_drop]) (by rw [hdl]; exact hL.1) hL.2
    rwa [hdl] at this) _ _ _ H
  rw [htl, show n + (l.toArray.size - n) = l.toArray.size by omega] at this
  exact this

theorem bf_start {ms : List Nat} {B : Bh} {j q c : Nat} {W W1 w2 : World} {v : Value} (hn : ms.Nodup) (h60 : ms.length ≤ 60) (hq : q = W.heap.size) (hW1 : Below W.heap.size W W1) (hg : W1.grownBy w2 (some q))
    (hown : w2.ownsRow W1.heap.size 54 1 v (newsL ms (VL ms j) (fun _ => none)).length (mvL (newsL ms (VL ms j) (fun _ => none)))) (hc : c ≤ 0 + ms.length) (hmu : MapU Try.prog w2 54 54 q c (askF (fun _ => none) (newsL ms (VL ms j) (fun _ => none)) (VL ms j))) :
    BfI ms B j q W v ms.length w2 := by
  have hh : ∀ i, i < ms.length → (fun _ => none : Nat → Option Nat) (VL ms i) = if i ∈ ([] : List Nat) then some (VL ms ((fun _ => j) i)) else none := fun i _ => by simp
  have e := news_more (ms := ms) (A := []) (m := j) (h := fun _ => none) (par := fun _ => j) hh
  have ha := asked_more (ms := ms) (A := []) (m := j) (h := fun _ => none) (par := fun _ => j) hn hh
  rw [e] at hown hmu
  refine ⟨moreA ms [] j, fun _ => j, 0, c, _, rfl, AskI.first ms B j, ?_, hmu, by omega, fun i hi => ?_, hW1.grown hg hW1.size (fun k e => by have := Option.some.inj e; omega)⟩
  · rw [List.drop_zero]
    have h1 := OwnQ.of_own hown
    rcases h1 with h1 | ⟨g, o, cap, cur, h2, h3, h4⟩
    · exact .inl h1
    · exact .inr ⟨g, o, cap, cur, h2, Nat.le_trans hW1.size h3, h4⟩
  · have := ha i hi
    rw [List.nil_append] at this
    rw [this]
    unfold parU
    by_cases h1 : i ∈ moreA ms [] j
    · rw [if_pos h1, if_pos h1, if_pos h1]
    · rw [if_neg h1, if_neg h1]
theorem results_cell1 {P : Program} {fn : Func} {p : Tmp} {ty : TypeId} (h : fn.results = #[.cell p ty]) (tmps : Array Value) (w : World) (b : Nat) (v : Value) (hp : tmps.getD p undef = .pointer (some ⟨b, 0, none⟩)) (hr : (loadVar ty ⟨b, 0, none⟩).run P w = .ok v w) :
    (results fn tmps).run P w = .ok v w := by
  have hp' : tmps[p]?.getD undef = .pointer (some ⟨b, 0, none⟩) := by simpa using hp
  simp [results, h, hp', asAddr, hr, Sem.run_bind, Result.andThen]
theorem load_piles {W : World} {b : Nat} {v u : Value} (h : W.heap[b]? = some (.cells #[v, u] 60 (0, 0))) : (loadVar 60 ⟨b, 0, none⟩).run Try.prog W = .ok (.agg #[v, u]) W := by
  have c0 : W.cell? ⟨b, 0, none⟩ = some v := (row_cell h 0).1
  have c1 : W.cell? ⟨b, 1, none⟩ = some u := (row_cell h 1).1
  have hl : b < W.heap.size := heapLt h
  have ha : ∀ w : World, (isAgg 60).run Try.prog w = .ok true w := fun w => by kernel_rfl
  have hz : ∀ w : World, (sizeOf 60).run Try.prog w = .ok 2 w := fun w => by kernel_rfl
  unfold loadVar
  go_simp
theorem bel_kp {n : Nat} {T : Nat → Prop} {w wr w' : World} (h : Below n w wr) (hk : Kp T wr w') (hT : ∀ b, T b → n ≤ b) (hn : n ≤ wr.heap.size) : Below n w w' :=
  ⟨hk.os.trans h.os, hk.tape.trans h.tape, hk.output.trans h.output, Nat.le_trans h.size hk.size, fun i hi => (hk.block i (by omega) (fun ht => by have := hT i ht; omega)).trans (h.block i hi)⟩
theorem evQ (A : Act) (s : Tmp) : A.eval (.tmp s) = A.tmps[s]?.getD undef := by rw [← Array.getD_eq_getD_getElem?]; rfl
def slotsBf : List (Option Tmp) := [some 34, some 35, some 36, some 37, some 38, some 39, some 40, some 6]
def factsBf (lv tv sv : Value) (m q : Nat) : List (Value → Prop) :=
  [fun x => x = lv, fun x => x = tv, fun x => x = sv, fun x => x = .int .u64 (m : Int), fun x => x = .map (some q), fun _ => True, fun _ => True, fun _ => True]
/-- What stands behind nothing, the call, the append, the assignment. -/
def stateBf (N : Nat) (tv : Value) (T : List Value) (q : Nat) (news : List Value) (cn : Nat) (h0 h1 : Nat → Option Nat) (c0 : Nat) : Nat → (Nat → Value) → World → Prop
  | 0, _, w => OwnQ w N 54 tv T ∧ MapU Try.prog w 54 54 q c0 h0
  | 1, val, w => OwnQ w N 54 tv T ∧ Spread w 1 (val 5) news.length news ∧ ∃ c, c ≤ cn ∧ MapU Try.prog w 54 54 q c h1
  | 2, val, w => OwnQ w N 54 (val 6) (T ++ news) ∧ ∃ c, c ≤ cn ∧ MapU Try.prog w 54 54 q c h1
  | _, val, w => (OwnQ w N 54 (val 6) (T ++ news) ∧ val 7 = val 6) ∧ ∃ c, c ≤ cn ∧ MapU Try.prog w 54 54 q c h1
set_option linter.unusedSimpArgs false in
set_option maxRecDepth 100000 in
set_option maxHeartbeats 16000000 in
theorem pileUp_c (ms : List Nat) (sv : Value) (w : World) (h60 : ms.length ≤ 60) (hnd : ms.Nodup) (h256 : ∀ m ∈ ms, m < 256) (hs : MsS w w.heap.size ms sv) :
    Calls Try.prog 33 #[sv] w fun e w' => (∃ Ma Mb, e = .returned (.agg #[.map (some Ma), .map (some Mb)]) ∧ w.heap.size ≤ Ma ∧ w.heap.size ≤ Mb ∧ PuS ms Ma Mb ms.length w') ∧ Below w.heap.size w w' := by
  refine callsIn_wide (n := 8).1 ?_
  have hmm := @run_makeMap Try.prog
  obtain ⟨i0, hi, hz0, hz1, hz2⟩ := info_parts infoU
  obtain ⟨n0, hn0⟩ : ∃ n0, w.heap.size = n0 := ⟨_, rfl⟩
  have Hn0 := Lib.hid hn0
  have HS := Lib.hid hs
  have HND := Lib.hid hnd
  have H256 : Hid (∀ i, i < ms.length → VL ms i < 256) := Lib.hid (fun i hi => h256 _ (List.mem_of_getElem? (VL_at hi)))
  have H256' := Lib.hid h256
  obtain ⟨o1, cap1, rfl, hc1, hm1, S1⟩ := SlOf.open hs
  obtain ⟨sv, hsv⟩ : ∃ sv, Value.slice o1 ms.length cap1 = sv := ⟨_, rfl⟩
  rw [hsv] at HS
  have Hsv := Lib.hid hsv
  clear hs hnd hsv hn0 h256
  refine callsIn_of_wp_marks Try.func33 rfl trivial ?_ rfl
  simp only [Try.ntmps33, List.size_toArray, List.length_cons, List.length_nil, Nat.reduceAdd, Nat.reduceSub, Array.replicate_succ, Array.replicate_zero, List.push_toArray, List.append_toArray, List.nil_append, List.cons_append]
  gi_wp2_with fail
  refine wpIn_wide.2 (wp_scope_straight ((wpIn_wide (n := 8)).1 ?_))
  gi_wp2_with fail
  refine wpIn_label ?_
  gi_wp2_with fail
  refine ⟨trivial, (values_in 7 _ _ _ _).mono ?_⟩
  rintro e WL ⟨rfl, hWL⟩
  have HI0 : Hid (PuI w sv ms w.heap.size 0 WL) := Lib.hid (by
    rw [Hsv.out] at hWL
    have hbl : Below w.heap.size w WL := by
      rw [hWL]
      exact ((((((Below.refl _ w).alloc (Nat.le_refl _) _).alloc (by simp) _).alloc (by simp <;> omega) _).alloc (by simp <;> omega) _).alloc (by simp <;> omega) _).alloc (by simp <;> omega) _
    refine ⟨⟨hbl, ?_⟩, ?_, ?_, ?_, ⟨fun _ => none, fun _ => none, fun _ => False, [], fun _ => none, fun _ => none, 0, 0, KuS.start, fun m k => by simp, fun i _ => rfl, fun i _ => rfl, ?_, ?_, Nat.zero_le _, Nat.zero_le _⟩, Nat.zero_le _⟩
    · rw [hWL]; exact newRow (by simp)
    · rw [hWL]; exact row_more (row_more (row_more (row_more (row_more (newRow rfl) _) _) _) _) _
    · rw [hWL]; exact row_more (row_more (row_more (row_more (newRow (by simp)) _) _) _) _
    · rw [hWL]; exact row_more (newRow (by simp)) _
    · rw [hWL]
      have := mapU_made Try.prog ((w.alloc (.cells #[sv] 44)).alloc (.cells #[.map none, .map none] 60)) 54 54
      have e : ((w.alloc (.cells #[sv] 44)).alloc (.cells #[.map none, .map none] 60)).heap.size = w.heap.size + 2 := by simp
      rw [e] at this
      exact this.below ((((Below.refl _ _).alloc (Nat.le_refl _) _).alloc (by simp) _).alloc (by simp <;> omega) _) (by simp)
    · rw [hWL]
      have := mapU_made Try.prog (((w.alloc (.cells #[sv] 44)).alloc (.cells #[.map none, .map none] 60)).alloc (.map #[] 0)) 54 54
      have e : (((w.alloc (.cells #[sv] 44)).alloc (.cells #[.map none, .map none] 60)).alloc (.map #[] 0)).heap.size = w.heap.size + 3 := by simp
      rw [e] at this
      exact this.below (((Below.refl _ _).alloc (Nat.le_refl _) _).alloc (by simp) _) (by simp))
  have HZL : Hid (WL.heap.size = n0 + 6) := Lib.hid (by rw [hWL]; simp; have := Hn0.out; omega)
  clear hWL
  have q0 := Hn0.out
  rw [q0]
  rw [q0] at HI0
  gi_wp2_with fail
  refine range_moves2 rfl (by omega) (gf := 41) (bd := #[]) (lb := #[.pointer (some ⟨n0 + 1 + 1 + 1 + 1 + 1, 0, none⟩)]) rfl trivial (enters_of Try.func41 (by kernel_rfl) rfl)
    (values_moves 7 (by omega) ms sv w (n0 + 1 + 1 + 1 + 1 + 1) HS.out) (fun _ => rfl)
    (fun x W => ∃ j, x.1 = j + 1 ∧ PuI w sv ms n0 j W ∧ ms[j]? = some x.2)
    (fun x W => PuI w sv ms n0 x.1 W)
    (fun _ _ => False)
    (fun W => PuI w sv ms n0 ms.length W)
    (fun x a' W => ∃ (j : Nat) (t0 t5 t6 t7 t8 t9 t10 t11 t12 t13 t14 t15 t16 t17 t18 t19 t20 t21 t22 t23 t24 t25 t26 t27 t28 t29 t30 t31 t32 t33 t34 t35 t36 t37 t38 t39 t40 t41 t42 t43 t44 t45 t46 t47 : Value), x.1 = j + 1 ∧ PuI w sv ms n0 j W ∧ ms[j]? = some x.2 ∧ a' = { tmps := #[t0, .pointer (some ⟨n0, 0, none⟩), .pointer (some ⟨n0 + 1, 0, none⟩), .pointer (some ⟨n0 + 1 + 1 + 1 + 1, 0, none⟩), .int .u64 (x.2 : Int), t5, t6, t7, t8, t9, t10, t11, t12, t13, t14, t15, t16, t17, t18, t19, t20, t21, t22, t23, t24, t25, t26, t27, t28, t29, t30, t31, t32, t33, t34, t35, t36, t37, t38, t39, t40, t41, t42, t43, t44, t45, t46, t47], defers := [] })
    ?fB ?fX ?fZ ?fM ?h0 ?hB ?assign ?body ?done ?stop
  case fB =>
    rintro x W W' hp hI
    exact hI.put hp (by rw [HZL.out]; omega) (by omega)
  case fX => exact fun _ _ _ _ h => h.elim
  case fZ =>
    rintro W W' hp hI
    exact hI.put hp (by rw [HZL.out]; omega) (by omega)
  case fM =>
    rintro x a' W W' hp ⟨j, t0, t5, t6, t7, t8, t9, t10, t11, t12, t13, t14, t15, t16, t17, t18, t19, t20, t21, t22, t23, t24, t25, t26, t27, t28, t29, t30, t31, t32, t33, t34, t35, t36, t37, t38, t39, t40, t41, t42, t43, t44, t45, t46, t47, h1, h2, h3, h4⟩
    exact ⟨j, t0, t5, t6, t7, t8, t9, t10, t11, t12, t13, t14, t15, t16, t17, t18, t19, t20, t21, t22, t23, t24, t25, t26, t27, t28, t29, t30, t31, t32, t33, t34, t35, t36, t37, t38, t39, t40, t41, t42, t43, t44, t45, t46, t47, h1, h2.put hp (by rw [HZL.out]; omega) (by omega), h3, h4⟩
  case h0 =>
    intro o o'
    exact HI0.out.below (((Below.refl _ _).alloc (Nat.le_refl _) _).alloc (by simp) _)
  case hB =>
    rintro x W1 hI
    refine ⟨⟨hI.g, hI.le⟩, ?_, ?_⟩
    · rintro x' W2 ⟨t1, t2, t3⟩
      exact ⟨keepsB t3 _, x.1, t1, hI.below t3, t2⟩
    · rintro W2 ⟨t1, t2⟩
      have h3 := hI.below t2
      rw [t1] at h3
      exact ⟨keepsB t2 _, h3⟩
  case assign =>
    rintro lp x W ⟨j, h1, h2, h3⟩
    have H2 := Lib.hid h2
    clear h2
    gi_wp2
    exact ⟨KeepsFrom.refl _ _, j, _, _, _, _, _, _, _, _, _, _, _, _, _, _, _, _, _, _, _, _, _, _, _, _, _, _, _, _, _, _, _, _, _, _, _, _, _, _, _, _, _, _, _, _, h1, H2.out, h3, by trivial⟩
  case body =>
    rintro lp x a' W ⟨j, t0, t5, t6, t7, t8, t9, t10, t11, t12, t13, t14, t15, t16, t17, t18, t19, t20, t21, t22, t23, t24, t25, t26, t27, t28, t29, t30, t31, t32, t33, t34, t35, t36, t37, t38, t39, t40, t41, t42, t43, t44, t45, t46, t47, h1, h2, h3, rfl⟩
    obtain ⟨xk, y⟩ := x
    simp only at h1 h3
    subst h1
    have hjl : j < ms.length := (List.getElem?_eq_some_iff.1 h3).1
    have ey : y = VL ms j := by
      have := VL_at hjl
      rw [h3] at this
      exact Option.some.inj this
    subst ey
    obtain ⟨B, bel, K, U, f, g, ca, cb, hKu, hInv, hAf, hAg, hma, hmb, hca, hcb⟩ := h2.st
    have H2 := Lib.hid h2
    have c1 : W.cell? ⟨n0, 0, none⟩ = some sv := (row_cell h2.b1 0).1
    have l1 := heapLt h2.b1
    have hy256 := H256.out j hjl
    obtain ⟨W1, hW1⟩ : ∃ W1, W.alloc (.map #[] 0) = W1 := ⟨_, rfl⟩
    have hmade := mapU_made Try.prog W 54 54
    rw [hW1] at hmade
    have hb1 : Below W.heap.size W W1 := by rw [← hW1]; exact (Below.refl _ _).alloc (Nat.le_refl _) _
    have HAsk := Lib.hid (askBelow_c ms (VL ms j) W.heap.size 0 (fun _ => none) sv w W1 hy256 h60 HND.out HS.out (h2.g.b.trans (hb1.mono h2.g.b.size)) h2.g.b.size (by omega) hmade)
    have HW1 := Lib.hid hW1
    have HB1 := Lib.hid hb1
    have HKu := Lib.hid hKu
    have HInv := Lib.hid hInv
    have HAf := Lib.hid hAf
    have HAg := Lib.hid hAg
    have Hma := Lib.hid hma
    have Hmb := Lib.hid hmb
    have Hca := Lib.hid hca
    have Hcb := Lib.hid hcb
    obtain ⟨q, hq⟩ : ∃ q, W.heap.size = q := ⟨_, rfl⟩
    have Hq := Lib.hid hq
    clear h2 h3 hW1 hb1 hmade hKu hInv hAf hAg hma hmb hca hcb hq
    gi_wp2_with fail
    rw [HW1.out]
    refine ⟨trivial, (CallsIn.inRound lp (callsIn_wide.2 HAsk.out)).mono ?_⟩
    rintro e w2 ⟨⟨v, rfl, hown⟩, ⟨c, hc, hmu⟩, hg⟩
    have HB0 := Lib.hid (bf_start (B := B) HND.out h60 rfl HB1.out hg hown hc hmu)
    clear hown hc hmu hg
    gi_wp2_with fail
    gi_loopw [6] (fun lv wr => ∃ v, v = lv ∧ Hid (∃ k, BfI ms B j W.heap.size W v k wr)) (fun lv wr => leastOf fun k => BfI ms B j W.heap.size W lv k wr)
    case atStart => exact ⟨_, rfl, Lib.hid ⟨_, HB0.out⟩⟩
    case round =>
      obtain ⟨lv, rfl, hr⟩ := hrel
      obtain ⟨k0, hk0⟩ : ∃ k0, leastOf (fun k => BfI ms B j W.heap.size W lv k wr) = k0 := ⟨_, rfl⟩
      have hsp := (leastOf_spec hr.out).1
      rw [hk0] at hsp
      have Hk0 := Lib.hid hk0
      obtain ⟨A, par, d, c, h, hkd, hA, hown, hmu, hc, hh, hbl⟩ := hsp
      have Hkd := Lib.hid hkd
      have HA := Lib.hid hA
      have Hown := Lib.hid hown
      have Hmu := Lib.hid hmu
      have Hc := Lib.hid hc
      have Hh := Lib.hid hh
      have Hbl := Lib.hid hbl
      have hAn : A.length ≤ ms.length := by
        have := nsub_len (m := List.range ms.length) hA.nd fun x hx => List.mem_range.2 (hA.lt x hx)
        rwa [List.length_range] at this
      clear hk0 hkd hA hmu hc hh hbl hr
      by_cases hd : A.length ≤ d
      · have hde : d = A.length := Nat.le_antisymm HA.out.le hd
        have hnil : (A.drop d).map (VL ms) = [] := by rw [List.drop_of_length_le hd]; rfl
        rw [hnil] at hown
        obtain ⟨oa, capa, rfl, _, _⟩ := hown.form
        have HI : Hid (KeepsFrom WL.heap.size W wr ∧ PuI w sv ms n0 (j + 1) wr) := Lib.hid (by
          have h3 := H2.out.below Hbl.out
          have hA2 := HA.out
          rw [hde] at hA2
          exact ⟨keepsB Hbl.out _, h3.g, h3.b1, h3.b2, h3.b3, ⟨B, bel, _, _, f, g, ca, cb, HKu.out.none2 hA2, HInv.out, HAf.out, HAg.out, mu_below Hma.out Hbl.out, mu_below Hmb.out Hbl.out, by have := Hca.out; omega, by have := Hcb.out; omega⟩, hjl⟩)
        clear hown hnil hde hd
        gi_wp2
        exact HI.out
      · have hdl : d < A.length := by omega
        obtain ⟨l0, hl0⟩ : ∃ l0, A[d]? = some l0 := ⟨A[d], List.getElem?_eq_getElem hdl⟩
        have hcons : mvL ((A.drop d).map (VL ms)) = .int .u64 (VL ms l0 : Int) :: mvL ((A.drop (d + 1)).map (VL ms)) := by
          rw [List.drop_eq_getElem_cons hdl, (List.getElem?_eq_some_iff.1 hl0).2]; rfl
        rw [hcons] at hown
        have Hat := Lib.hid (hown.at_ (i := 0) rfl)
        obtain ⟨gb, go, cap, hlv, hcap1, hcap2, htl⟩ := hown.tail
        obtain ⟨T, hT⟩ : ∃ T, mvL ((A.drop (d + 1)).map (VL ms)) = T := ⟨_, rfl⟩
        rw [hT] at hlv hcap1 htl
        have HT := Lib.hid hT
        have Htl := Lib.hid htl
        have Hl0 := Lib.hid hl0
        have hl0n : l0 < ms.length := HA.out.lt l0 (List.mem_of_getElem? hl0)
        have hl256 := H256.out l0 hl0n
        have x0 : wr.cell? ⟨gb, go, none⟩ = some (.int .u64 (VL ms l0 : Int)) := by
          obtain ⟨a, cp, e1, e2⟩ := Hat.out
          rw [hlv] at e1
          injection e1 with f1 _ _
          injection f1 with f1
          subst f1
          rw [add_none, Nat.add_zero] at e2
          exact e2
        clear Hat
        subst hlv
        have xl : gb < wr.heap.size := World.block_lt_of_cell? _ _ x0
        have hb3 := (Hbl.out.block _ (heapLt H2.out.b3)).trans H2.out.b3
        have y0 : wr.cell? ⟨n0 + 1 + 1 + 1 + 1, 0, none⟩ = some (.map (some (n0 + 2))) := (row_cell hb3 0).1
        have y1 : wr.cell? ⟨n0 + 1 + 1 + 1 + 1, 1, none⟩ = some (.map (some (n0 + 3))) := (row_cell hb3 1).1
        have yl : n0 + 1 + 1 + 1 + 1 < wr.heap.size := heapLt hb3
        have hb1' := (Hbl.out.block _ (heapLt H2.out.b1)).trans H2.out.b1
        have z0 : wr.cell? ⟨n0, 0, none⟩ = some sv := (row_cell hb1' 0).1
        have zl : n0 < wr.heap.size := heapLt hb1'
        have hlook := (mapU_look wr.drew 58 54 54 Try.underlying58 Try.underlying54 Try.underlying54 (zeroU _) (n0 + 2) ca _ ((mu_below Hma.out Hbl.out).same (w' := wr.drew) rfl) (VL ms l0) hl256).1
        rw [HAf.out l0 hl0n] at hlook
        have hN0 : ((T.length : Int) + 1 == 0) = false := by rw [beq_eq_false_iff_ne]; omega
        have hN1 : (1 : Int) ≤ (T.length : Int) + 1 := by omega
        clear hown hcons hd hl0 hT htl hb3 hb1'
        cases hBl : B l0 with
        | none =>
          rw [hBl] at hlook
          have e1 : ((none : Option Nat).map (VL ms)).getD 0 = 0 := rfl
          have e2 : ((none : Option Nat).map (VL ms)).isSome = false := rfl
          rw [e1, e2] at hlook
          have HBl := Lib.hid hBl
          clear hBl e1 e2
          gi_wp2_with fail
          refine region_still_round 10 (by kernel_rfl) (by kernel_rfl) (fun ⟨_, _, h⟩ => h) (by kernel_rfl) ?_
          simp only [List.take_succ_cons, List.take_zero, List.drop_succ_cons, List.drop_zero]
          repeat still_step
          refine wpStill_nil ?_
          go_wp2_with fail
          gi_wp2_with fail
          refine region_still_round 5 (by kernel_rfl) (by kernel_rfl) (fun ⟨_, _, h⟩ => h) (by kernel_rfl) ?_
          simp only [List.take_succ_cons, List.take_zero, List.drop_succ_cons, List.drop_zero]
          repeat still_step
          refine wpStill_nil ?_
          have hWs := heapLt H2.out.b3
          have hj60 : j < 60 := by omega
          have hhA : ∀ l ∈ A, h (VL ms l) = some (VL ms (par l)) := fun l hl => by rw [Hh.out l (HA.out.lt l hl), if_pos hl]
          have HMV := Lib.hid (move_c ms (RM ms) B bel K U A par j d d l0 (n0 + 2) (n0 + 3) W.heap.size ca cb c f g h wr.drew.drew HND.out H256'.out HKu.out HA.out hjl HInv.out Hl0.out HBl.out HAf.out HAg.out hhA ((mu_below Hma.out Hbl.out).same rfl) ((mu_below Hmb.out Hbl.out).same rfl) (Hmu.out.same rfl) (by omega) (by omega) (by omega) (by omega) (by have := Hca.out; omega) (by have := Hcb.out; omega))
          clear hhA hlook
          go_wp2_with fail
          refine HMV.out.mono ?_
          rintro e w5 ⟨⟨v5, rfl⟩, hE, hk⟩
          have HF : Hid (KeepsFrom WL.heap.size W w5 ∧ PuI w sv ms n0 (j + 1) w5) := Lib.hid (by
            have hk' : Kp (fun b => b = n0 + 2 ∨ b = n0 + 3) wr w5 := ⟨hk.os, hk.tape, hk.output, hk.size, hk.block⟩
            obtain ⟨B', bel', f', g', ca', cb', q1, q2, q3, q4, q5, q6, q7, q8⟩ := hE
            refine ⟨(keepsB Hbl.out _).trans (keepsK hk' fun b hb => by have := HZL.out; omega), (H2.out.below Hbl.out).moved hk' ⟨B', bel', K, U, f', g', ca', cb', q1, q2, q3, q4, q5, q6, ?_, ?_⟩ hjl (by omega)⟩
            · have := Hca.out; omega
            · have := Hcb.out; omega)
          clear hE hk HMV
          go_wp2
          gi_wp2
          exact HF.out
        | some m =>
          rw [hBl] at hlook
          have e1 : ((some m : Option Nat).map (VL ms)).getD 0 = VL ms m := rfl
          have e2 : ((some m : Option Nat).map (VL ms)).isSome = true := rfl
          rw [e1, e2] at hlook
          have HBl := Lib.hid hBl
          clear hBl e1 e2
          have hmn : m < ms.length := (HKu.out.m.ok l0 m (fun h => h) HBl.out).1
          have hm256 := H256.out m hmn
          have hTl : T.length ≤ 60 := by rw [← HT.out, mvL_len, List.length_map, List.length_drop]; omega
          have HAsk2 := Lib.hid (askBelow_c ms (VL ms m) W.heap.size c h sv w wr.drew.drew hm256 h60 HND.out HS.out (H2.out.below Hbl.out).g.b.drew.drew H2.out.g.b.size (by have := Hc.out; omega) (Hmu.out.same rfl))
          have hne : gb ≠ W.heap.size := fun e => by
            obtain ⟨x, hx, hxc⟩ := cells_of_cell x0
            obtain ⟨D, ⟨es, clock, hm, _⟩, _⟩ := Hmu.out
            have hx' : wr.heap[gb]? = some x := hx
            rw [e, hm] at hx'
            cases hx'
            cases hxc
          have Hne := Lib.hid hne
          clear hne
          obtain ⟨NL, hNL⟩ : ∃ NL, moreA ms A m = NL := ⟨_, rfl⟩
          have hNl : NL.length ≤ 60 := by
            rw [← hNL]
            exact Nat.le_trans (List.length_filter_le ..) (by rw [List.length_range]; exact h60)
          have HNL := Lib.hid hNL
          clear hNL
          obtain ⟨tv, htv⟩ : ∃ tv, sliced (some ⟨gb, go, none⟩) 1 (T.length + 1) cap 1 = tv := ⟨_, rfl⟩
          have HTV := Lib.hid htv
          have HOQ : Hid (OwnQ wr W.heap.size 54 tv T) := Lib.hid (by rw [← htv]; exact Htl.out)
          have Htb : Hid (tv.ownBlock = some gb ∧ W.heap.size ≤ gb) := Lib.hid (by
            have e : tv.ownBlock = some gb := by rw [← htv]; unfold sliced; by_cases hcp : cap = 1 <;> simp [hcp, Value.ownBlock, add_none]
            exact ⟨e, (HOQ.out.lt gb e).1⟩)
          clear htv Htl
          gi_wp2_with fail
          refine region_still_round 10 (by kernel_rfl) (by kernel_rfl) (fun ⟨_, _, h⟩ => h) (by kernel_rfl) ?_
          simp only [List.take_succ_cons, List.take_zero, List.drop_succ_cons, List.drop_zero]
          repeat still_step
          refine wpStill_nil ?_
          go_wp2_with fail
          gi_wp2_with fail
          refine any_region (by kernel_rfl) (by kernel_rfl) (fun ⟨_, _, h⟩ => h) ?_
          (try (change wpAny _ _ _ _ _ _ _ (World.drew _)))
          refine wpAny_chain2 slotsBf [5, 6, 7] _ _ (factsBf (.slice (some ⟨gb, go, none⟩) (T.length + 1) cap) tv sv (VL ms m) W.heap.size) (stateBf W.heap.size tv T W.heap.size (mvL (NL.map (VL ms))) (c + ms.length) h (askF h (NL.map (VL ms)) (VL ms m)) c) (fun b => b = W.heap.size ∨ b = gb)
            (by kernel_rfl) (by kernel_rfl) (by kernel_rfl) (by kernel_rfl) (by kernel_rfl) (by decide) (by decide) ?indep ⟨HOQ.out, Hmu.out⟩
            ⟨.p rfl ?s0, .p rfl ?s1, .p rfl ?s2, .p rfl ?s3, .p rfl ?s4, .c 0 rfl rfl ?s5, .c 1 rfl (by kernel_rfl) ?s6, .c 2 rfl (by kernel_rfl) ?s7, trivial⟩ ?fin
          case indep =>
            intro k val val' w' hv hs
            match k, hs with
            | 0, hs => exact hs
            | 1, hs => exact ⟨hs.1, by rw [← hv 5 (by decide)]; exact hs.2.1, hs.2.2⟩
            | 2, hs => exact ⟨by rw [← hv 6 (by decide)]; exact hs.1, hs.2⟩
            | k + 3, hs => exact ⟨⟨by rw [← hv 6 (by decide)]; exact hs.1.1, by rw [← hv 6 (by decide), ← hv 7 (by decide)]; exact hs.1.2⟩, hs.2⟩
          case s0 =>
            intro A' w' K' hb hfar hd hK
            have e1 : A'.tmps[6]?.getD undef = .slice (some ⟨gb, go, none⟩) (T.length + 1) cap := hfar 6 (by kernel_rfl)
            unfold Oper.wp
            simp [execOp, e1, go_sem, Result.andThen]
            exact hK _ (factV_mk rfl rfl)
          case s1 =>
            intro A' w' K' hb hfar hd hK
            have e1 : A'.tmps[34]?.getD undef = .slice (some ⟨gb, go, none⟩) (T.length + 1) cap := hd 0 34 rfl (by kernel_rfl) _ rfl
            have hv : factV (factsBf (.slice (some ⟨gb, go, none⟩) (T.length + 1) cap) tv sv (VL ms m) W.heap.size) 1 (sliced (some ⟨gb, go, none⟩) 1 (T.length + 1) cap 1) := factV_mk rfl HTV.out
            have hk := hK _ hv
            unfold Oper.wp
            simp [execOp, e1, hN1, go_sem, Result.andThen] at hk ⊢
            exact hk
          case s2 =>
            intro A' w' K' hb hfar hd hK
            have e1 : A'.tmps[1]?.getD undef = .pointer (some ⟨n0, 0, none⟩) := hfar 1 (by kernel_rfl)
            have hr := (hb.block n0 zl (by have := heapLt H2.out.b1; have := Htb.out.2; omega)).trans ((Hbl.out.block _ (heapLt H2.out.b1)).trans H2.out.b1)
            have c2 : w'.cell? ⟨n0, 0, none⟩ = some sv := (row_cell hr 0).1
            have hl := heapLt hr
            unfold Oper.wp
            simp [execOp, e1, c2, hl, go_sem, Result.andThen]
            exact hK _ (factV_mk rfl rfl)
          case s3 =>
            intro A' w' K' hb hfar hd hK
            have e1 : A'.tmps[7]?.getD undef = .int .u64 (VL ms m : Int) := hfar 7 (by kernel_rfl)
            unfold Oper.wp
            simp [execOp, e1, go_sem, Result.andThen]
            exact hK _ (factV_mk rfl rfl)
          case s4 =>
            intro A' w' K' hb hfar hd hK
            have e1 : A'.tmps[5]?.getD undef = .map (some W.heap.size) := hfar 5 (by kernel_rfl)
            unfold Oper.wp
            simp [execOp, e1, go_sem, Result.andThen]
            exact hK _ (factV_mk rfl rfl)
          case s5 =>
            intro A' w' val K' hb hfar hd hs hK
            have e1 : A'.tmps[36]?.getD undef = sv := (hd 2 36 rfl (by kernel_rfl)).1 _ rfl
            have e2 : A'.tmps[37]?.getD undef = .int .u64 (VL ms m : Int) := (hd 3 37 rfl (by kernel_rfl)).1 _ rfl
            have e3 : A'.tmps[38]?.getD undef = .map (some W.heap.size) := (hd 4 38 rfl (by kernel_rfl)).1 _ rfl
            have hbl2 : Below w.heap.size w w' := bel_kp (wr := wr) (H2.out.below Hbl.out).g.b ⟨hb.os, hb.tape, hb.output, hb.size, hb.block⟩ (fun b hb => by have := H2.out.g.b.size; have := Htb.out.2; omega) (H2.out.below Hbl.out).g.b.size
            have HC := askBelow_c ms (VL ms m) W.heap.size c h sv w w' hm256 h60 HND.out HS.out hbl2 H2.out.g.b.size (by have := Hc.out; omega) hs.2
            rw [news_more Hh.out, HNL.out] at HC
            unfold Oper.wp
            simp [execOp, e1, e2, e3, go_sem, Result.andThen]
            refine HC.mono ?_
            rintro e3 w3 ⟨⟨v3, rfl, hown3⟩, ⟨c3, hc3, hmu3⟩, hg3⟩
            have hsp := Spread.own hown3 (mvL_one _)
            refine hK v3 w3 (hb.grown hg3 (fun b e => .inr (.inl (Option.some.inj e).symm))) (factV_mk rfl trivial) ⟨hs.1.kept hg3 (.inr fun e => Hne.out (Option.some.inj (Htb.out.1.symm.trans e))), ?_, c3, hc3, hmu3⟩
            rw [updV_same, mvL_len]
            exact hsp
          case s6 =>
            intro A' w' val K' hb hfar hd hs hK
            have e1 : A'.tmps[35]?.getD undef = tv := (hd 1 35 rfl (by kernel_rfl)).1 _ rfl
            have e2 := (hd 5 39 rfl (by kernel_rfl)).2
            obtain ⟨hs1, hs2, c3, hc3, hs3⟩ := hs
            refine wp_append_q w' _ _ 44 rfl W.heap.size 54 i0 _ 8 Try.underlying44 hi hz0 hz1 hz2 rfl tv T ((evQ _ _).trans e1) hs1 (val 5) _ _ ((evQ _ _).trans e2) hs2 (by rw [mvL_len, List.length_map]; unfold maxLen; omega) (by rw [mvL_len, List.length_map]; omega) (Nat.le_trans Hbl.out.size hb.size) fun v4 w4 hq4 hg4 => ?_
            rw [Htb.out.1] at hg4
            exact hK v4 w4 (hb.grown hg4 (fun b e => .inr (.inr (Option.some.inj e).symm))) (factV_mk rfl trivial) ⟨by rw [updV_same]; exact hq4, c3, hc3, hs3.kept hg4 (fun e => Hne.out (Option.some.inj e).symm)⟩
          case s7 =>
            intro A' w' val K' hb hfar hd hs hK
            have e2 := (hd 6 40 rfl (by kernel_rfl)).2
            unfold Oper.wp
            simp [execOp, e2, go_sem, Result.andThen]
            exact hK _ _ hb (factV_mk rfl trivial) ⟨⟨by rw [updV_other _ _ (by decide)]; exact hs.1, by rw [updV_same, updV_other _ _ (by decide)]⟩, hs.2⟩
          case fin =>
            intro val w4 hF hb hs
            obtain ⟨⟨hq4, hv7⟩, c3, hc3, hmu3⟩ := hs
            have HQ4 := Lib.hid hq4
            have Hmu3 := Lib.hid hmu3
            have Hc3 := Lib.hid hc3
            have HB4 := Lib.hid hb
            simp only [slotsBf, putsA, Nat.zero_add, Nat.reduceAdd]
            have v0 := hF 0 34 rfl _ rfl
            have v1 := hF 1 35 rfl _ rfl
            have v2 := hF 2 36 rfl _ rfl
            have v3 := hF 3 37 rfl _ rfl
            have v4 := hF 4 38 rfl _ rfl
            simp only [v0, v1, v2, v3, v4, hv7]
            obtain ⟨x5, hx5⟩ : ∃ x5, val 5 = x5 := ⟨_, rfl⟩
            obtain ⟨x6, hx6⟩ : ∃ x6, val 6 = x6 := ⟨_, rfl⟩
            rw [hx6] at HQ4
            rw [hx5, hx6]
            clear v0 v1 v2 v3 v4 hF hb hq4 hv7 hc3 hmu3 hx5 hx6
            have HNew : Hid (BfI ms B j W.heap.size W x6 (ms.length - (d + 1)) w4) := Lib.hid (by
              refine ⟨A ++ moreA ms A m, parU par (moreA ms A m) m, d + 1, c3, askF h (NL.map (VL ms)) (VL ms m), rfl, HA.out.step Hl0.out HBl.out, ?_, Hmu3.out, by have := Hc3.out; have := Hc.out; omega, ?_, ?_⟩
              · have e1 : (A ++ moreA ms A m).drop (d + 1) = A.drop (d + 1) ++ moreA ms A m := List.drop_append_of_le_length (by omega)
                rw [e1, List.map_append]
                have e2 : mvL ((A.drop (d + 1)).map (VL ms) ++ (moreA ms A m).map (VL ms)) = T ++ mvL (NL.map (VL ms)) := by
                  rw [← HT.out, HNL.out]; unfold mvL; rw [List.map_append]
                rw [e2]
                exact HQ4.out
              · rw [← HNL.out]
                exact asked_more HND.out Hh.out
              · have hb := HB4.out
                exact bel_kp (wr := wr) Hbl.out ⟨hb.os, hb.tape, hb.output, hb.size, hb.block⟩ (fun b hb => by have := Htb.out.2; omega) Hbl.out.size)
            go_simp
            gi_wp2
            go_roundw
            case rel => exact ⟨x6, rfl, Lib.hid ⟨_, HNew.out⟩⟩
            case measure =>
              refine Nat.lt_of_le_of_lt ((leastOf_spec ⟨_, HNew.out⟩).2 _ HNew.out) ?_
              have h1 := Hk0.out
              have h2 := Hkd.out
              show ms.length - (d + 1) < leastOf fun k => BfI ms B j W.heap.size W (.slice (some ⟨gb, go, none⟩) (T.length + 1) cap) k wr
              rw [h1]
              omega
  case done =>
    rintro D W hD hI hd
    have hb2 := hI.b2
    have hb3 := hI.b3
    have y0 : W.cell? ⟨n0 + 1 + 1 + 1 + 1, 0, none⟩ = some (.map (some (n0 + 2))) := (row_cell hb3 0).1
    have y1 : W.cell? ⟨n0 + 1 + 1 + 1 + 1, 1, none⟩ = some (.map (some (n0 + 3))) := (row_cell hb3 1).1
    have yl : n0 + 1 + 1 + 1 + 1 < W.heap.size := heapLt hb3
    have f0 : W.frozen? ⟨n0 + 1, 0, none⟩ = false := (row_cell hb2 0).2
    have f1 : W.frozen? ⟨n0 + 1, 1, none⟩ = false := (row_cell hb2 1).2
    have z0 : W.cell? ⟨n0 + 1, 0, none⟩ = some (.map none) := (row_cell hb2 0).1
    have z1 : W.cell? ⟨n0 + 1, 1, none⟩ = some (.map none) := (row_cell hb2 1).1
    have zl : n0 + 1 < W.heap.size := heapLt hb2
    have HI := Lib.hid hI
    have Hd := Lib.hid hd
    have HD := Lib.hid hD
    clear hI hd hb2 hb3 hD
    gi_wp2
    rw [Exit.noGoto_ret]
    have hne : n0 + 1 ≠ D := by have := HD.out; have := HZL.out; omega
    have hr1 : ((W.setCell ⟨n0 + 1, 0, none⟩ (.map (some (n0 + 2)))).setCell ⟨n0 + 1, 1, none⟩ (.map (some (n0 + 3)))).heap[n0 + 1]? = some (.cells #[.map (some (n0 + 2)), .map (some (n0 + 3))] 60 (0, 0)) := by
      have h1 := set_heap HI.out.b2 (i := 0) (.map (some (n0 + 2)))
      have h2 := set_heap h1 (i := 1) (.map (some (n0 + 3)))
      exact h2
    obtain ⟨W2, hW2⟩ : ∃ W2, (W.setCell ⟨n0 + 1, 0, none⟩ (.map (some (n0 + 2)))).setCell ⟨n0 + 1, 1, none⟩ (.map (some (n0 + 3))) = W2 := ⟨_, rfl⟩
    have ho : ∀ k, k ≠ n0 + 1 → W2.heap[k]? = W.heap[k]? := fun k hk => by
      rw [← hW2]
      exact (Below.heap_setCell _ ⟨n0 + 1, 1, none⟩ _ k (fun e => hk e)).trans (Below.heap_setCell _ ⟨n0 + 1, 0, none⟩ _ k (fun e => hk e))
    have hbl : Below w.heap.size w W2 := by
      rw [← hW2]
      exact (HI.out.g.b.setCell (p := ⟨n0 + 1, 0, none⟩) (by show w.heap.size ≤ n0 + 1; omega) _).setCell (p := ⟨n0 + 1, 1, none⟩) (by show w.heap.size ≤ n0 + 1; omega) _
    rw [hW2] at hr1 ⊢
    have hd2 : W2.heap[D]? = some (.deferred (some [])) := (ho D (Ne.symm hne)).trans Hd.out
    refine ⟨by simp, .inl ⟨_, _, rfl, run_takeDeferred hd2, ?_⟩⟩
    have hr3 : (W2.putObj D (.deferred none)).heap[n0 + 1]? = some (.cells #[.map (some (n0 + 2)), .map (some (n0 + 3))] 60 (0, 0)) := (World.putObj_heap_other hne).trans hr1
    refine ⟨_, results_cell1 rfl _ _ (n0 + 1) _ rfl (load_piles hr3), ⟨n0 + 2, n0 + 3, rfl, by omega, by omega, ?_⟩, put_gone hbl (by have := HD.out; have := HZL.out; omega)⟩
    obtain ⟨B, bel, K, U, f, g, ca, cb, h1, h2, h3, h4, h5, h6, h7⟩ := HI.out.st
    exact ⟨B, bel, K, U, f, g, ca, cb, h1, h2, h3, h4, h5.same ((World.putObj_heap_other (by have := HD.out; have := HZL.out; omega)).trans (ho _ (by omega))), h6.same ((World.putObj_heap_other (by have := HD.out; have := HZL.out; omega)).trans (ho _ (by omega))), h7⟩
  case stop => exact fun _ _ _ _ h => h.elim
end Go.Proofs.Ytiljpacmkmmlcaa
