/- rel.Union. -/
import Derived.Test.YtgfhgejgdgfjnaaPun1
import Derived.Test.YtgfhgejgdgfjnaaAny
namespace Go.Proofs.Ytgfhgejgdgfjnaa
open Go.RowKit Go.Shelf

attribute [local go_sem] Oper.semAt_some

theorem both_fst : ∀ (A B : List Hd), (bothL hdC A B).map (fun p => (p.1, p.2.1)) = bothL rwC (A.map Prod.fst) (B.map Prod.fst) := by
  intro A B
  induction h : A.length + B.length using Nat.strongRecOn generalizing A B with
  | _ n ih =>
    cases A with
    | nil => rw [both_nil, List.map_nil, both_nil, List.map_map, List.map_map]; rfl
    | cons x A =>
      cases B with
      | nil => rw [both_nil', List.map_nil, both_nil', List.map_map, List.map_map]; rfl
      | cons y B =>
        simp only [List.length_cons] at h
        rcases Int.lt_trichotomy (rwC x.1 y.1) 0 with k | k | k
        · rw [both_lt (show hdC x y < 0 from k), List.map_cons, List.map_cons, List.map_cons, both_lt k, ih (A.length + (y :: B).length) (by simp only [List.length_cons]; omega) A (y :: B) rfl]
          rfl
        · rw [both_eq (show hdC x y = 0 from k), List.map_cons, List.map_cons, List.map_cons, both_eq k, ih (A.length + B.length) (by omega) A B rfl]
        · rw [both_gt (show 0 < hdC x y from k), List.map_cons, List.map_cons, List.map_cons, both_gt k, ih ((x :: A).length + B.length) (by simp only [List.length_cons]; omega) (x :: A) B rfl]
          rfl
theorem both_seen {a b : List Hd} {x : (Bool × Bool) × Hd} (h : x ∈ bothL hdC a b) : x.2 ∈ a ∨ x.2 ∈ b := by
  induction hn : a.length + b.length using Nat.strongRecOn generalizing a b with
  | _ n ih =>
    cases a with
    | nil =>
      rw [both_nil, List.mem_map] at h
      obtain ⟨y, hy, rfl⟩ := h
      exact .inr hy
    | cons p A =>
      cases b with
      | nil =>
        rw [both_nil', List.mem_map] at h
        obtain ⟨y, hy, rfl⟩ := h
        exact .inl hy
      | cons q B =>
        simp only [List.length_cons] at hn
        rcases Int.lt_trichotomy (hdC p q) 0 with k | k | k
        · rw [both_lt k] at h
          rcases List.mem_cons.1 h with rfl | h
          · exact .inl (List.mem_cons_self ..)
          · rcases ih (A.length + (q :: B).length) (by simp only [List.length_cons]; omega) h rfl with g | g
            · exact .inl (List.mem_cons_of_mem _ g)
            · exact .inr g
        · rw [both_eq k] at h
          rcases List.mem_cons.1 h with rfl | h
          · exact .inl (List.mem_cons_self ..)
          · rcases ih (A.length + B.length) (by omega) h rfl with g | g
            · exact .inl (List.mem_cons_of_mem _ g)
            · exact .inr (List.mem_cons_of_mem _ g)
        · rw [both_gt k] at h
          rcases List.mem_cons.1 h with rfl | h
          · exact .inr (List.mem_cons_self ..)
          · rcases ih ((p :: A).length + B.length) (by simp only [List.length_cons]; omega) h rfl with g | g
            · exact .inl g
            · exact .inr (List.mem_cons_of_mem _ g)
/-- What stands while both lists are gone through. -/
structure UnI (w w0 : World) (V1 V2 : Value) (B1 B2 nb : Nat) (rows : List Rw) (W : World) : Prop where
  g : PrG w0 V1 V2 23 23 B1 B2 W
  r : ∃ hs : List Hd, hs.map Prod.fst = rows ∧ RoB w nb hs W
section
variable {w w0 W W' : World} {V1 V2 : Value} {B1 B2 nb B : Nat} {rows : List Rw}
theorem UnI.put (h : UnI w w0 V1 V2 B1 B2 nb rows W) (hp : Put B W W') (hB : w0.heap.size ≤ B) (hw : w.heap.size ≤ w0.heap.size) : UnI w w0 V1 V2 B1 B2 nb rows W' := by
  obtain ⟨hs, h1, h2⟩ := h.r
  exact ⟨h.g.put hp hB, hs, h1, h2.put hp (by omega)⟩
theorem UnI.below (h : UnI w w0 V1 V2 B1 B2 nb rows W) (hb : Below W.heap.size W W') : UnI w w0 V1 V2 B1 B2 nb rows W' := by
  obtain ⟨hs, h1, h2⟩ := h.r
  exact ⟨h.g.below hb, hs, h1, h2.below hb⟩
theorem UnI.tm (h : UnI w w0 V1 V2 B1 B2 nb rows W) (ht : TmW w0.heap.size W W') (hw : w.heap.size ≤ w0.heap.size) : UnI w w0 V1 V2 B1 B2 nb rows W' := by
  obtain ⟨hs, h1, h2⟩ := h.r
  exact ⟨⟨tm_below ht h.g.b (Nat.le_refl _), tm_block ht h.g.one (by decide), tm_block ht h.g.two (by decide)⟩, hs, h1, h2.tm ht hw⟩
end
theorem RwsS.put2 {B : Nat} {W W' : World} {l : List Rw} {v : Value} (h : RwsS W W.heap.size l v) (hp : Put B W W') : RwsS W' W'.heap.size l v := by
  have hk : ∀ p c, W.cell? p = some c → W'.cell? p = some c := fun p c hc => put_cell hp hc
  have hz : W.heap.size ≤ W'.heap.size := by rw [put_sz hp]; omega
  exact SlOf.more (R := RwC W' W.heap.size) (by
    have := sl_cellsTo h hk (Nat.le_refl _)
    refine SlOf.more this (Nat.le_refl _) fun r _ cs ⟨v, e, hv⟩ => ⟨v, e, sl_cellsTo hv hk (Nat.le_refl _)⟩) hz fun r _ cs hr => hr.more hz
/-- The rows in the box, as a list. -/
theorem RoB.rows {w W : World} {nb : Nat} {hs : List Hd} {rows : List Rw} {v : Value} (h : RoB w nb hs W) (hh : hs.map Prod.fst = rows) (hv : W.heap[nb]? = some (.cells #[v] 23 (0, 0))) (ho : W.ownsRow w.heap.size 22 1 v hs.length (hs.map Prod.snd)) : RwsS W W.heap.size rows v := by
  subst hh
  have h1 : SlOf W W.heap.size 1 HdC hs v := sl_own0 ho ⟨by simp, fun i x hx => ⟨[x.2], rfl, rfl, fun j c hj => by
    have hj0 : j = 0 := by have := (List.getElem?_eq_some_iff.1 hj).1; simp at this; omega
    subst hj0
    rw [Nat.mul_one, Nat.add_zero, List.getElem?_map, hx]
    simpa using hj⟩⟩
  rcases h1 with ⟨rfl, rfl⟩ | ⟨a, cap, e1, e2, e3, e4, e5⟩
  · exact .inl ⟨rfl, rfl⟩
  · refine .inr ⟨a, cap, by rw [List.length_map]; exact e1, by rw [List.length_map]; exact e2, e3, fun hne => e4 (by rintro rfl; exact hne rfl), fun i r hr => ?_⟩
    rw [List.getElem?_map] at hr
    cases hx : hs[i]? with
    | none => rw [hx] at hr; cases hr
    | some x =>
      rw [hx] at hr
      cases hr
      obtain ⟨cs, c1, c2, c3⟩ := e5 i x hx
      exact ⟨cs, c1, ⟨x.2, c2, seeV_out (h.see x (List.mem_of_getElem? hx))⟩, c3⟩
theorem own_cells {W : World} {base e z n : Nat} {v : Value} {xs : List Value} (h : W.ownsRow base e z v n xs) : ∀ g, v.ownBlock = some g → ∃ cs : Array Value, W.heap[g]? = some (.cells cs e (0, 0)) := by
  intro g hg
  rcases h.2 with ⟨rfl, _⟩ | ⟨g', cap, cur, rfl, _, hr, _⟩
  · cases hg
  · cases hg
    exact ⟨_, hr⟩
/-- A list of one's own has grown: all else lies as it lay. -/
theorem grown_block {W W' : World} {base z n k : Nat} {v : Value} {xs : List Value} {cs : Array Value} {T : TypeId} (ho : W.ownsRow base 22 z v n xs) (hg : W.grownBy W' v.ownBlock) (hk : W.heap[k]? = some (.cells cs T (0, 0))) (hT : T ≠ 22) : W'.heap[k]? = some (.cells cs T (0, 0)) :=
  (hg.block k (heapLt hk) (fun e => by
    obtain ⟨cs', hc⟩ := own_cells ho k e.symm
    rw [hk] at hc
    cases hc
    exact hT rfl)).trans hk
theorem grown_keeps {W W' : World} {base z n : Nat} {v : Value} {xs : List Value} (ho : W.ownsRow base 22 z v n xs) (hg : W.grownBy W' v.ownBlock) (B : Nat) : KeepsFrom B W W' :=
  ⟨hg.size, fun k o _ hk hc => (hg.block k (heapLt hk) (fun e => by
    obtain ⟨cs', h⟩ := own_cells ho k e.symm
    rw [hk] at h
    cases h
    cases hc)).trans hk⟩
theorem set_keeps {W : World} {b : Nat} {v : Value} {cs : Array Value} {T : TypeId} (hb : W.heap[b]? = some (.cells cs T (0, 0))) (B : Nat) : KeepsFrom B W (W.setCell ⟨b, 0, none⟩ v) :=
  ⟨(grown_set W b 0 v).size, fun k o _ hk hc => (setOther (fun e => by
    subst e
    rw [hb] at hk
    cases hk
    cases hc)).trans hk⟩
theorem EbH.keepO {x : EbX} {nb : Nat} {W W' : World} (h : EbH x W) (hk : KeepO nb W W') (h1 : x.m ≠ nb) (h2 : x.z ≠ nb) : EbH x W' := ⟨hk _ _ _ h.at_ (by decide) h1, hk _ _ _ h.in_ (by decide) h2⟩
theorem EbH.below {x : EbX} {W W' : World} (h : EbH x W) (hb : Below W.heap.size W W') : EbH x W' := ⟨(hb.block _ (heapLt h.at_)).trans h.at_, (hb.block _ (heapLt h.in_)).trans h.in_⟩
theorem EbH.put {x : EbX} {B : Nat} {W W' : World} (h : EbH x W) (hp : Put B W W') : EbH x W' := ⟨put_block hp h.at_ (.inl rfl), put_block hp h.in_ (.inl rfl)⟩

set_option linter.unusedSimpArgs false in
set_option maxRecDepth 100000 in
set_option maxHeartbeats 16000000 in
theorem punion_c (a b : List Rw) (v u : Value) (w : World) (hla : a.length ≤ 1000) (hlb : b.length ≤ 1000) (h1 : RwsS w w.heap.size a v) (h2 : RwsS w w.heap.size b u) (hfa : ∀ r ∈ a, FitW r) (hfb : ∀ r ∈ b, FitW r) :
    Calls Try.prog 24 #[v, u] w fun e w' => (∃ r, e = .returned (.tuple #[r, .int .i64 (if (riseL rwC a && riseL rwC b) = true then 0 else 80)]) ∧ RwsS w' w'.heap.size (if (riseL rwC a && riseL rwC b) = true then (bothL rwC a b).map Prod.snd else []) r) ∧ Below w.heap.size w w' := by
  refine callsIn_wide (n := 8).1 ?_
  obtain ⟨i0, hi, hz0, hz1, hz2⟩ := info_parts infoRow
  have HP1 := Lib.hid (fun (W : World) (hb : Below w.heap.size w W) => prise_c a v W (RwsS.past h1 hb))
  have HP2 := Lib.hid (fun (W : World) (hb : Below w.heap.size w W) => prise_c b u W (RwsS.past h2 hb))
  obtain ⟨A, hA, HA0⟩ := HsS.rows h1
  obtain ⟨B, hB, HB0⟩ := HsS.rows h2
  have HA := Lib.hid HA0
  have HB := Lib.hid HB0
  have LA : Hid (A.length ≤ 1000) := Lib.hid (by rw [← hA, List.length_map] at hla; exact hla)
  have LB : Hid (B.length ≤ 1000) := Lib.hid (by rw [← hB, List.length_map] at hlb; exact hlb)
  have HFit : Hid (∀ x ∈ bothL hdC A B, FitW x.2.1) := Lib.hid (fun x hx => by
    rcases both_seen hx with h | h
    · exact hfa _ (by rw [← hA]; exact List.mem_map_of_mem h)
    · exact hfb _ (by rw [← hB]; exact List.mem_map_of_mem h))
  have HOut : Hid ((bothL hdC A B).map (fun p => p.2.1) = (bothL rwC a b).map Prod.snd) := Lib.hid (by rw [← hA, ← hB, ← both_fst, List.map_map]; rfl)
  obtain ⟨ra, hra⟩ : ∃ x, riseL rwC a = x := ⟨_, rfl⟩
  obtain ⟨rb, hrb⟩ : ∃ x, riseL rwC b = x := ⟨_, rfl⟩
  rw [hra] at HP1 ⊢
  rw [hrb] at HP2 ⊢
  generalize (bothL rwC a b).map Prod.snd = outs at HOut ⊢
  obtain ⟨o1, cap1, rfl, hc1, hm1, _⟩ := SlOf.open HA0.1
  obtain ⟨o2, cap2, rfl, hc2, hm2, _⟩ := SlOf.open HB0.1
  clear h1 h2 hla hlb hfa hfb hA hB HA0 HB0 hra hrb
  refine callsIn_of_wp_marks Try.func24 rfl trivial ?_ rfl
  simp only [Try.ntmps24, List.size_toArray, List.length_cons, List.length_nil, Nat.reduceAdd, Nat.reduceSub, Array.replicate_succ, Array.replicate_zero, List.push_toArray, List.append_toArray, List.nil_append, List.cons_append]
  gi_wp2_with fail
  refine ⟨trivial, (callsIn_wide.2 (HP1.out w (Below.refl _ _))).mono ?_⟩
  rintro e w1 ⟨rfl, b1⟩
  have B1' := Lib.hid b1
  clear b1
  cases ra with
  | false =>
    gi_wp2_with fail
    refine ⟨trivial, ?_⟩
    gi_wp2
    exact ⟨.tuple #[.slice none 0 0, .int .i64 80], by simp [results, Try.results24, go_sem], ⟨_, rfl, .inl ⟨rfl, rfl⟩⟩, B1'.out⟩
  | true =>
  gi_wp2_with fail
  refine ⟨trivial, (callsIn_wide.2 (HP2.out w1 B1'.out)).mono ?_⟩
  rintro e w2 ⟨rfl, b2⟩
  have B2' := Lib.hid (B1'.out.trans (b2.mono B1'.out.size))
  clear b2
  cases rb with
  | false =>
    gi_wp2
    exact ⟨.tuple #[.slice none 0 0, .int .i64 80], by simp [results, Try.results24, go_sem], ⟨_, rfl, .inl ⟨rfl, rfl⟩⟩, B2'.out⟩
  | true =>
  gi_wp2_with fail
  obtain ⟨W3, hW3⟩ : ∃ W, w2.alloc (.cells #[.slice none 0 0] 23) = W := ⟨_, rfl⟩
  obtain ⟨nb, hnb⟩ : ∃ k, w2.heap.size = k := ⟨_, rfl⟩
  have z3 : W3.heap.size = nb + 1 := by rw [← hW3, ← hnb]; simp
  have r3 : W3.heap[nb]? = some (.cells #[.slice none 0 0] 23 (0, 0)) := by rw [← hW3, ← hnb]; exact World.alloc_heap_new w2 _
  have b3 : Below w2.heap.size w2 W3 := by rw [← hW3]; exact (Below.refl _ _).alloc (Nat.le_refl _) _
  rw [hW3, hnb]
  have HNB := Lib.hid hnb
  have Z3 := Lib.hid z3
  have R3 := Lib.hid r3
  have B3' := Lib.hid b3
  clear z3 r3 b3 hW3 hnb
  refine ⟨trivial, (eob_in 7 _ _ _ _ _ _ _).mono ?_⟩
  rintro e WL ⟨rfl, hWL⟩
  have HWA := Lib.hid (HA.out.below B2'.out B2'.out.size)
  have HWB := Lib.hid (HB.out.below B2'.out B2'.out.size)
  have hbL : Below W3.heap.size W3 WL := by rw [hWL]; exact ((Below.refl _ W3).alloc (Nat.le_refl _) _).alloc (by simp) _
  have HI0 : Hid (UnI w2 w2 (.slice o1 A.length cap1) (.slice o2 B.length cap2) (nb + 1) (nb + 1 + 1) nb [] WL) := Lib.hid (by
    refine ⟨⟨B3'.out.trans (hbL.mono B3'.out.size), ?_, ?_⟩, [], rfl, ⟨⟨.slice none 0 0, (hbL.block _ (heapLt R3.out)).trans R3.out, World.ownsRow_nil _ _ _ _⟩, fun x hx => (by cases hx), B3'.out.trans (hbL.mono B3'.out.size)⟩⟩
    · rw [hWL]
      exact row_more (newRow Z3.out) _
    · rw [hWL]
      exact newRow (by simp; exact Z3.out))
  have HZL : Hid (WL.heap.size = nb + 3) := Lib.hid (by rw [hWL]; simp; have := Z3.out; omega)
  rw [Z3.out]
  clear hWL hbL
  gi_wp2_with fail
  refine range_moves2 rfl (by omega) (gf := 52) (bd := #[]) (lb := #[.pointer (some ⟨nb + 1, 0, none⟩), .pointer (some ⟨nb + 1 + 1, 0, none⟩)]) rfl trivial (enters_of Try.func52 (by kernel_rfl) rfl)
    (eob_moves 7 (by omega) A B _ _ w2 (nb + 1) (nb + 1 + 1) HWA.out HWB.out (by have := LA.out; omega) (by have := LB.out; omega)) (fun _ => rfl)
    (fun x W => ∃ n, x.n = n + 1 ∧ (bothL hdC A B)[n]? = some x.e ∧ EbH x W ∧ UnI w2 w2 (.slice o1 A.length cap1) (.slice o2 B.length cap2) (nb + 1) (nb + 1 + 1) nb (((bothL hdC A B).take n).map (fun p => p.2.1)) W)
    (fun x W => (x.n = 0 ∨ EbH x W) ∧ UnI w2 w2 (.slice o1 A.length cap1) (.slice o2 B.length cap2) (nb + 1) (nb + 1 + 1) nb (((bothL hdC A B).take x.n).map (fun p => p.2.1)) W)
    (fun _ _ => False)
    (fun W => UnI w2 w2 (.slice o1 A.length cap1) (.slice o2 B.length cap2) (nb + 1) (nb + 1 + 1) nb outs W)
    (fun x a' W => ∃ (n : Nat) (t0 t1 t2 t3 t4 t5 t7 t9 t10 t11 t12 t13 t14 t15 t16 t17 t18 t19 t20 t21 t22 t23 t24 t25 t26 t27 : Value), x.n = n + 1 ∧ (bothL hdC A B)[n]? = some x.e ∧ EbH x W ∧ UnI w2 w2 (.slice o1 A.length cap1) (.slice o2 B.length cap2) (nb + 1) (nb + 1 + 1) nb (((bothL hdC A B).take n).map (fun p => p.2.1)) W ∧ a' = { tmps := #[t0, t1, t2, t3, t4, t5, .pointer (some ⟨nb, 0, none⟩), t7, x.e.2.2, t9, t10, t11, t12, t13, t14, t15, t16, t17, t18, t19, t20, t21, t22, t23, t24, t25, t26, t27], defers := [] })
    ?fB ?fX ?fZ ?fM ?h0 ?hB ?assign ?body ?done ?stop
  case fB =>
    rintro x W W' hp ⟨h1, h2⟩
    exact ⟨h1.imp id fun h => h.put hp, h2.put hp (by rw [HZL.out, HNB.out]; omega) (Nat.le_refl _)⟩
  case fX =>
    rintro c W W' hp h
    exact h.elim
  case fZ =>
    rintro W W' hp h
    exact h.put hp (by rw [HZL.out, HNB.out]; omega) (Nat.le_refl _)
  case fM =>
    rintro x a' W W' hp ⟨n, t0, t1, t2, t3, t4, t5, t7, t9, t10, t11, t12, t13, t14, t15, t16, t17, t18, t19, t20, t21, t22, t23, t24, t25, t26, t27, h1, h2, h3, h4, h5⟩
    exact ⟨n, t0, t1, t2, t3, t4, t5, t7, t9, t10, t11, t12, t13, t14, t15, t16, t17, t18, t19, t20, t21, t22, t23, t24, t25, t26, t27, h1, h2, h3.put hp, h4.put hp (by rw [HZL.out, HNB.out]; omega) (Nat.le_refl _), h5⟩
  case h0 =>
    intro o o'
    exact ⟨.inl rfl, HI0.out.below (((Below.refl _ _).alloc (Nat.le_refl _) _).alloc (by simp) _)⟩
  case hB =>
    rintro x W1 ⟨h1, h2⟩
    refine ⟨⟨h2.g, h1⟩, ?_, ?_⟩
    · rintro x' W2 ⟨t1, t2, t3, t4⟩
      exact ⟨tm_keeps t3 _, x.n, t1, t2, t4, h2.tm t3 (Nat.le_refl _)⟩
    · rintro W2 ⟨t1, t2⟩
      refine ⟨tm_keeps t2 _, ?_⟩
      have h3 := h2.tm t2 (Nat.le_refl _)
      rw [t1, List.take_length, HOut.out] at h3
      exact h3
  case assign =>
    rintro lp x W ⟨n, h1, h2, h3, h4⟩
    have H3 := Lib.hid h3
    have H4 := Lib.hid h4
    clear h3 h4
    gi_wp2
    exact ⟨KeepsFrom.refl _ _, n, _, _, _, _, _, _, _, _, _, _, _, _, _, _, _, _, _, _, _, _, _, _, _, _, _, _, h1, h2, H3.out, H4.out, by trivial⟩
  case done =>
    rintro D W hD hI hd
    obtain ⟨hs, hh, hr⟩ := hI.r
    obtain ⟨v, hv, ho⟩ := hr.own
    have hrows : RwsS W W.heap.size outs v := hr.rows hh hv ho
    have HR := Lib.hid hrows
    have HBe := Lib.hid (B2'.out.trans (hr.b.mono B2'.out.size))
    have Hd := Lib.hid hd
    have HDn : Hid (w.heap.size ≤ D) := Lib.hid (by have := HZL.out; have := HNB.out; have := B2'.out.size; omega)
    obtain ⟨vo, vn, vc, rfl⟩ : ∃ o n c, v = .slice o n c := by
      rcases hrows with ⟨e, _⟩ | ⟨a, c, e, _⟩
      · exact ⟨_, _, _, e⟩
      · exact ⟨_, _, _, e⟩
    have v0 : W.cell? ⟨nb, 0, none⟩ = some (.slice vo vn vc) := (row_cell hv 0).1
    have lv := heapLt hv
    clear hI hr hv ho hrows hd hh
    gi_wp2
    exact ⟨by simp, .inl ⟨_, _, rfl, run_takeDeferred Hd.out, .tuple #[.slice vo vn vc, .int .i64 0], by simp [results, Try.results24, go_sem], ⟨_, rfl, RwsS.put2 HR.out ⟨D, _, _, HDn.out, Hd.out, rfl, rfl, rfl⟩⟩, put_gone HBe.out HDn.out⟩⟩
  case stop =>
    rintro D c W hD h hd
    exact h.elim
  case body =>
    rintro lp x a' W ⟨n, t0, t1, t2, t3, t4, t5, t7, t9, t10, t11, t12, t13, t14, t15, t16, t17, t18, t19, t20, t21, t22, t23, t24, t25, t26, t27, h1, h2, h3, h4, rfl⟩
    obtain ⟨xn, ⟨⟨p, q⟩, ⟨r, rv⟩⟩, xi, xj, xm, xz⟩ := x
    simp only at h1 h2
    subst h1
    obtain ⟨hs, hh, hr⟩ := h4.r
    obtain ⟨v, hv, ho⟩ := hr.own
    obtain ⟨vo, vn, vc, rfl⟩ : ∃ o n c, v = .slice o n c := by
      rcases hr.rows hh hv ho with ⟨e, _⟩ | ⟨a, c, e, _⟩
      · exact ⟨_, _, _, e⟩
      · exact ⟨_, _, _, e⟩
    have v0 : W.cell? ⟨nb, 0, none⟩ = some (.slice vo vn vc) := (row_cell hv 0).1
    have lv := heapLt hv
    have HRw : Hid (SlOf W W.heap.size 3 VlC r rv) := Lib.hid (by
      rcases both_seen (List.mem_of_getElem? h2) with h | h
      · exact VlS.past (HWA.out.2 _ h) h4.g.b
      · exact VlS.past (HWB.out.2 _ h) h4.g.b)
    have HFr : Hid (FitW r) := Lib.hid (HFit.out ((p, q), (r, rv)) (List.mem_of_getElem? h2))
    have hle : hs.length ≤ 2000 := by
      have e1 := congrArg List.length hh
      have e2 := both_len (c := hdC) A B
      have := LA.out
      have := LB.out
      rw [List.length_map, List.length_map, List.length_take] at e1
      omega
    have HS1 : Hid (hs.length + 1 ≤ maxLen) := Lib.hid (by unfold maxLen; omega)
    have HS2 : Hid ((hs.length + 1) * 24 ≤ 140737488355328) := Lib.hid (by omega)
    have HTk : Hid (((bothL hdC A B).take n).map (fun p => p.2.1) ++ [r] = ((bothL hdC A B).take (n + 1)).map (fun p => p.2.1)) := Lib.hid (by
      rw [take_snoc h2, List.map_append]; rfl)
    have Hm : Hid (xm ≠ nb ∧ xz ≠ nb) := Lib.hid ⟨fun e => (by have := h3.at_; simp only at this; rw [e, hv] at this; cases this), fun e => (by have := h3.in_; simp only at this; rw [e, hv] at this; cases this)⟩
    have HH := Lib.hid hh
    have HRo := Lib.hid hr
    have HOw := Lib.hid ho
    have HNv := Lib.hid hv
    have H3 := Lib.hid h3
    have H4 := Lib.hid h4
    clear h2 h3 h4 hh hr hv ho hle
    gi_wp2_with fail
    refine any_region (by kernel_rfl) (by kernel_rfl) (fun ⟨_, _, h⟩ => h) ?_
    (try (change wpAny _ _ _ _ _ _ _ (World.drew _)))
    refine wpAny_say [some 22, some 23, some 24, some 25, some 26, none] _ _ (FA w2 W.drew nb WL.heap.size (.slice vo vn vc) rv hs r) (by kernel_rfl) (by kernel_rfl) (by kernel_rfl) (by kernel_rfl) (by kernel_rfl) ⟨?U0, ?U1, ?U2, ?U3, ?U4, ?U5, trivial⟩ FA.start ?Ufin
    case U0 =>
      intro l val A' w' K hl hn' hd hF hfar hdep hK
      have e1 : A'.tmps[6]?.getD undef = .pointer (some ⟨nb, 0, none⟩) := hfar 6 (by decide)
      have e4 : l.getD 4 false = false := by
        cases h4 : l.getD 4 false with
        | false => rfl
        | true => exact nt hn' (hF.c0 h4)
      have cc : w'.cell? ⟨nb, 0, none⟩ = some (.slice vo vn vc) := ((hF.bel e4).cell (p := ⟨nb, 0, none⟩) lv).trans v0
      unfold Oper.wp
      simp [execOp, e1, cc, go_sem, Result.andThen]
      exact hK _ _ (hF.step0 hl hn')
    case U1 =>
      intro l val A' w' K hl hn' hd hF hfar hdep hK
      have e1 : A'.tmps[8]?.getD undef = rv := hfar 8 (by decide)
      unfold Oper.wp
      simp [execOp, e1, go_sem, Result.andThen]
      exact hK _ _ (hF.step1 hl hn')
    case U2 =>
      intro l val A' w' K hl hn' hd hF hfar hdep hK
      have e1 : A'.tmps[23]?.getD undef = rv := (hdep 1 23 rfl (by kernel_rfl)).trans (hF.f1 (hd 1 (by kernel_rfl)))
      have hb := hF.s1 hn'
      have hcall := copyRow_c r rv w' (VlS.past HRw.out ((Below.refl _ W).drew.trans hb)) HFr.out
      unfold Oper.wp
      simp [execOp, e1, go_sem, Result.andThen]
      refine hcall.mono ?_
      rintro e w3 ⟨⟨u, xs, rfl, ho, hlaid⟩, b2⟩
      refine hK _ _ (hF.step2 hl hn' ⟨hb.trans (b2.mono hb.size), ?_, copy_seeV ho hlaid⟩)
      rcases ho.2 with ⟨e, h0⟩ | ⟨g, cap, _, e, _⟩
      · exact ⟨none, 0, by rw [e, h0]⟩
      · exact ⟨_, _, e⟩
    case U3 =>
      intro l val A' w' K hl hn' hd hF hfar hdep hK
      have h2 := hd 2 (by kernel_rfl)
      have hA := hF.s2 h2 hn'
      obtain ⟨o, c, hu⟩ := hA.e
      rw [hu] at hA
      have e1 : A'.tmps[24]?.getD undef = .slice o r.length c := (hdep 2 24 rfl (by kernel_rfl)).trans hu
      have hb : Below w'.heap.size w' (w'.alloc (.cells #[.slice o r.length c] 22)) := (Below.refl _ _).alloc (Nat.le_refl _) _
      unfold Oper.wp
      simp [execOp, e1, go_sem, Result.andThen]
      exact hK _ _ (hF.step3 hl hn' h2 (World.alloc_heap_new w' _) ⟨hA.b.trans (hb.mono hA.b.size), ⟨o, c, rfl⟩, see_keep hA.see (.below hb) hb.size⟩)
    case U4 =>
      intro l val A' w' K hl hn' hd hF hfar hdep hK
      have h0 := hd 0 (by kernel_rfl)
      have h3' := hd 3 (by kernel_rfl)
      obtain ⟨b, u, e3v, hbk, hA⟩ := hF.s3 h3' hn'
      have e0 : A'.tmps[22]?.getD undef = .slice vo vn vc := (hdep 0 22 rfl (by kernel_rfl)).trans (hF.f0 h0)
      have e3 : A'.tmps[25]?.getD undef = .slice (some ⟨b, 0, none⟩) 1 1 := (hdep 3 25 rfl (by kernel_rfl)).trans e3v
      obtain ⟨o, c, rfl⟩ := hA.e
      have hbw : Below W.heap.size W w' := (Below.refl _ W).drew.trans hA.b
      have hO := HRo.out.below hbw
      have hown := own_past HOw.out hbw
      refine wp_append_any w' (.tmp 22) (.tmp 25) 23 rfl w2.heap.size 22 i0 _ 1 24 Try.underlying23 hi hz0 hz1 hz2 rfl (by decide) (.slice vo vn vc) hs.length _ (by simpa [Act.eval] using e0) hown (.slice (some ⟨b, 0, none⟩) 1 1) 1 [.slice o r.length c] (by simpa [Act.eval] using e3) (.inr ⟨_, _, rfl, rfl, World.news_of_block hbk, one_row _ rfl⟩) HS1.out HS2.out hO.b.size ?_
      intro v' w3 hown' hg hv'
      have hkv : KeepV w' w3 := .grown hg fun g e => by
        obtain ⟨cs, hc⟩ := own_cells hown g e
        exact ⟨cs, _, _, hc, by decide⟩
      refine hK _ _ (hF.step4 hl hn' h0 h3' ⟨?_, ⟨_, hown', see_keep hA.see hkv hkv.1⟩, fun x hx => see_keep (hO.see x hx) hkv hkv.1, hO.b.grown hg hO.b.size (fun k hk => (hown.lt k hk).1), ?_, ?_⟩)
      · exact grown_block hown hg ((hbw.block _ lv).trans HNv.out) (by decide)
      · intro k cs T hk hT _
        exact grown_block hown hg ((hbw.block _ (heapLt hk)).trans hk) hT
      · exact (keepsB hA.b _).trans (grown_keeps hown hg _)
    case U5 =>
      intro l val A' w' K hl hn' hd hF hfar hdep hK
      have h4' := hd 4 (by kernel_rfl)
      have hA := hF.s4 h4' hn'
      have e6 : A'.tmps[6]?.getD undef = .pointer (some ⟨nb, 0, none⟩) := hfar 6 (by decide)
      obtain ⟨u, hown, hsee⟩ := hA.own
      obtain ⟨g, cap, hv4, _⟩ := own_form hown (Nat.succ_pos _)
      have e4 : A'.tmps[26]?.getD undef = .slice (some ⟨g, 0, none⟩) (hs.length + 1) cap := (hdep 4 26 rfl (by kernel_rfl)).trans hv4
      rw [hv4] at hown
      have k0 := (row_cell hA.box 0).1
      have f0 := (row_cell hA.box 0).2
      have hkv : KeepV w' (w'.setCell ⟨nb, 0, none⟩ (.slice (some ⟨g, 0, none⟩) (hs.length + 1) cap)) := .grown (grown_set w' nb 0 _) fun g e => by cases e; exact ⟨_, _, _, hA.box, by decide⟩
      unfold Oper.wp
      simp [execOp, e6, e4, k0, f0, go_sem, Result.andThen]
      refine hK undef _ (hF.step5 hl hn' h4' ⟨⟨u, ⟨⟨_, setRow hA.box, own_same (by simpa using hown) (fun g' cs hg' => (setOther (fun e => by subst e; rw [hA.box] at hg'; cases hg')).trans hg')⟩, fun x hx => ?_, hA.b.setCell (by show w2.heap.size ≤ nb; have := HNB.out; omega) _⟩⟩, ?_, ?_⟩)
      · rcases List.mem_append.1 hx with hx | hx
        · exact see_keep (hA.see x hx) hkv hkv.1
        · rw [List.mem_singleton.1 hx]
          exact see_keep hsee hkv hkv.1
      · intro k cs T hk hT hne
        exact (setOther hne).trans (hA.k k cs T hk hT hne)
      · exact hA.f.trans (set_keeps hA.box _)
    case Ufin =>
      intro l val w3 hall hF
      have h5 := hF.s5 (hall 5 (by decide))
      obtain ⟨u, hro⟩ := h5.rows
      refine ⟨⟨h5.f.size, h5.f.same⟩, .inr (H3.out.keepO h5.k Hm.out.1 Hm.out.2), ⟨⟨hro.b, h5.k _ _ _ H4.out.g.one (by decide) (by omega), h5.k _ _ _ H4.out.g.two (by decide) (by omega)⟩, hs ++ [(r, u)], ?_, hro⟩⟩
      rw [List.map_append, HH.out]
      exact HTk.out
end Go.Proofs.Ytgfhgejgdgfjnaa
