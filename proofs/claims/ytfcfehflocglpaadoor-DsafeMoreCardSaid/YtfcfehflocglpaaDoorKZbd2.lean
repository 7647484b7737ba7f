/- dsafe.Bound, whole. What every law of package dtype shares: what the listed variables give, a start that meets the rows' condition, and: a call that answers true and turns nothing that lay keeps the law. soriteslaw06.v, at, small; what is few of a small rule. DsafeMore: the atom that is put behind, in plain. soriteslaw06.shown answers true. -/
import Derived.Test.YtfcfehflocglpaaDoorKZwk
import Derived.Test.YtfcfehflocglpaaDoorTie
import Derived.Test.YtfcfehflocglpaaDoorCards
import Derived.Test.YtfcfehflocglpaaDoorKSpr
import Derived.ProofKit
import Derived.OpenShut
import Derived.Deep.DeepHandedRow
import Derived.Deep.DeepWitnessRowRef
import Derived.LaidMore
import Derived.LaidHandle
import Derived.Stop.LaidErr
import Derived.Stop.LaidTwo
import Derived.Test.YtfcfehflocglpaaDoorKZdl
import Derived.Test.YtfcfehflocglpaaDoorKYtp
import Derived.Test.YtfcfehflocglpaaDoorKZw2
import Derived.Test.YtfcfehflocglpaaDoorKZn
import Derived.Test.YtfcfehflocglpaaDoorKYsh
namespace Go.Proofs.YtfcfehflocglpaaDoor
open Go.RowKit Go.Shelf

attribute [local go_sem] Oper.semAt_some

inductive BndR (n0 : Nat) (w : World) (r : Ru) (k : Int) : Ending → World → Prop
  | bad {w' : World} : ordE r ≠ 0 → Below n0 w w' → BndR n0 w r k (.returned (.tuple #[.slice none 0 0, .int .i64 (ordE r)])) w'
  | arg {w' : World} : ordE r = 0 → (k < 0 ∨ ((orderZ r).length : Int) < k) → Below n0 w w' → BndR n0 w r k (.returned (.tuple #[.slice none 0 0, .int .i64 2])) w'
  | good {w' : World} {v : Value} : ordE r = 0 → 0 ≤ k → k ≤ ((orderZ r).length : Int) → SlOf w' w'.heap.size 1 StrC ((varsA r).filter (byZ (boundZ r) k)) v → Below n0 w w' → BndR n0 w r k (.returned (.tuple #[v, .int .i64 0])) w'
set_option linter.unusedSimpArgs false in
set_option maxRecDepth 100000 in
set_option maxHeartbeats 8000000 in
theorem bound_c (r : Ru) (cs : List Value) (k : Int) (t a u : Addr) (w : World) (hc : RuC w w.heap.size r cs) (hf : FewR r) (hp : FewP' (partsZ r)) (hlen : (termsR r).length ≤ 300000) (hS : ∀ t ∈ termsR r, t.s.size ≤ 1000000) (E : EnvZ t a u w) :
    Calls Tryd.prog 27 #[.agg cs.toArray, .int .i64 k] w (BndR w.heap.size w r k) := by
  obtain ⟨o0, k0, o1, k1, rfl, _⟩ := hc.look
  obtain ⟨q0, hq0⟩ : ∃ q, w.heap.size = q := ⟨_, rfl⟩
  obtain ⟨W1, hW1⟩ : ∃ W, (w.alloc (.cells #[.string r.head.rel, .slice o0 r.head.l.length k0, .slice o1 r.body.length k1, .int .i64 r.line] 27)).alloc (.cells #[.int .i64 k] 3) = W := ⟨_, rfl⟩
  have b1 : Below w.heap.size w W1 := by rw [← hW1]; exact ((Below.refl _ _).alloc (Nat.le_refl _) _).alloc (by simp) _
  have rr1 : W1.heap[q0]? = some (.cells #[.string r.head.rel, .slice o0 r.head.l.length k0, .slice o1 r.body.length k1, .int .i64 r.line] 27 (0, 0)) := by rw [← hW1, ← hq0]; exact (Below.heap_alloc _ _ _ (by simp)).trans (World.alloc_heap_new w _)
  have rk1 : W1.heap[q0 + 1]? = some (.cells #[.int .i64 k] 3 (0, 0)) := by
    have h1 := World.alloc_heap_new (w.alloc (.cells #[.string r.head.rel, .slice o0 r.head.l.length k0, .slice o1 r.body.length k1, .int .i64 r.line] 27)) (.cells #[.int .i64 k] 3)
    rw [World.size_alloc, hW1, hq0] at h1
    exact h1
  have HK := Lib.hid (callsIn_wide.1 (walkThrough_in r _ t a u W1.heap.size W1 rfl ((hc.below b1).more b1.size) hf hp (E.below b1).z (E.below b1).tr))
  have HE := Lib.hid (E.below b1)
  have HCr := Lib.hid (fun (W : World) (hb : Below W1.heap.size W1 W) => (hc.below (b1.trans (hb.mono b1.size))).more (Nat.le_trans b1.size hb.size))
  have B1 := Lib.hid b1
  have RR1 := Lib.hid rr1
  have RK1 := Lib.hid rk1
  have HW1 := Lib.hid hW1
  have HSz := Lib.hid hS
  have Hq0 := Lib.hid hq0
  clear hc hf hp E b1 hW1 rr1 rk1 hS
  go_enter Tryd.func27, Tryd.ntmps27
  go_wp2_with fail

  try rw [HW1.out]
  refine HK.out.mono ?_
  clear HK
  intro e2 w2 hT
  cases hT with
    | tree h1 h2 =>
      have hbA : Below w2.heap.size w2 (w2.alloc (.cells #[.slice none 0 0, .map none, .bool false] 95)) := (Below.refl _ _).alloc (Nat.le_refl _) _
      have HN := Lib.hid (numT_c _ a u _ ((HE.out.below h2).below hbA).z)
      have B2 := Lib.hid ((B1.out.trans (h2.mono B1.out.size)).trans (hbA.mono (Nat.le_trans B1.out.size h2.size)))
      have HO := Lib.hid (ordE_tree h1)
      clear hbA
      clear h1 h2
      unfold errV at *
      go_wp2_with fail
      refine HN.out.mono ?_
      rintro e3 w3 ⟨rfl, b3⟩
      have B3 := Lib.hid (B2.out.trans (b3.mono B2.out.size))
      clear b3
      go_wp2
      go_ret2
      have hfin : BndR w.heap.size w r k (.returned (.tuple #[.slice none 0 0, .int .i64 (ordE r)])) w3 := .bad (by rw [HO.out]; decide) B3.out
      rw [HO.out] at hfin
      exact hfin
    | ready kk h1 h0 h2 =>
      have hbA : Below w2.heap.size w2 (w2.alloc (.cells #[.slice none 0 0, .map none, .bool false] 95)) := (Below.refl _ _).alloc (Nat.le_refl _) _
      have HN := Lib.hid (numR_c kk _ a u _ ((HE.out.below h2).below hbA).z (Nat.le_refl _))
      have B2 := Lib.hid ((B1.out.trans (h2.mono B1.out.size)).trans (hbA.mono (Nat.le_trans B1.out.size h2.size)))
      have HO := Lib.hid (ordE_un h1 h0)
      clear hbA
      clear h1 h2 h0
      go_wp2_with fail
      refine HN.out.mono ?_
      rintro e3 w3 ⟨rfl, b3⟩
      have B3 := Lib.hid (B2.out.trans (b3.mono B2.out.size))
      clear b3
      go_wp2
      go_ret2
      have hfin : BndR w.heap.size w r k (.returned (.tuple #[.slice none 0 0, .int .i64 (ordE r)])) w3 := .bad (by rw [HO.out]; decide) B3.out
      rw [HO.out] at hfin
      exact hfin
    | bound s h1 h0 h2 =>
      have hbA : Below w2.heap.size w2 (w2.alloc (.cells #[.slice none 0 0, .map none, .bool false] 95)) := (Below.refl _ _).alloc (Nat.le_refl _) _
      have HN := Lib.hid (numB_c s _ a u _ ((HE.out.below h2).below hbA).z (Nat.le_refl _))
      have B2 := Lib.hid ((B1.out.trans (h2.mono B1.out.size)).trans (hbA.mono (Nat.le_trans B1.out.size h2.size)))
      have HO := Lib.hid (ordE_un h1 h0)
      clear hbA
      clear h1 h2 h0
      go_wp2_with fail
      refine HN.out.mono ?_
      rintro e3 w3 ⟨rfl, b3⟩
      have B3 := Lib.hid (B2.out.trans (b3.mono B2.out.size))
      clear b3
      go_wp2
      go_ret2
      have hfin : BndR w.heap.size w r k (.returned (.tuple #[.slice none 0 0, .int .i64 (ordE r)])) w3 := .bad (by rw [HO.out]; decide) B3.out
      rw [HO.out] at hfin
      exact hfin
    | @good _ v M n c h1 h0 hs hm hM h2 =>
      obtain ⟨ov, cv, rfl, _, _, _⟩ := SlOf.open hs
      obtain ⟨W3, hW3⟩ : ∃ W, w2.alloc (.cells #[.slice ov (orderZ r).length cv, .map (some M), .bool (invZ r)] 95) = W := ⟨_, rfl⟩
      have b3 : Below w2.heap.size w2 W3 := by rw [← hW3]; exact (Below.refl _ _).alloc (Nat.le_refl _) _
      have h13 : Below W1.heap.size W1 W3 := h2.trans (b3.mono h2.size)
      have rq3 : W3.heap[w2.heap.size]? = some (.cells #[.slice ov (orderZ r).length cv, .map (some M), .bool (invZ r)] 95 (0, 0)) := by rw [← hW3]; exact World.alloc_heap_new w2 _
      have rr3 := (h13.block _ (heap_lt RR1.out)).trans RR1.out
      have rk3 := (h13.block _ (heap_lt RK1.out)).trans RK1.out
      have HPk := Lib.hid (pick_c r _ t w2.heap.size (q0 + 1) M n c k (boundZ r) _ _ W3 (HCr.out W3 h13) hlen HSz.out (HE.out.below h13).tr rq3 rk3 (hm.below b3 hm.lt))
      obtain ⟨⟨y0, _, _⟩, _⟩ := row3 rq3
      obtain ⟨x0, x1, x2, x3⟩ := row4 rr3
      have z0 : W3.cell? ⟨q0 + 1, 0, none⟩ = some (.int .i64 k) := row_cells rk3 0
      have lq := heap_lt rq3
      have lr := heap_lt rr3
      have lk := heap_lt rk3
      have B3 := Lib.hid (B1.out.trans (h13.mono B1.out.size))
      have HO := Lib.hid (ordE_ok h1 h0)
      have HW3 := Lib.hid hW3
      clear h1 h0 hs hm hM h2 b3 h13 rq3 rr3 rk3
      by_cases hk0 : k < 0
      · go_wp2
        go_ret2
        exact .arg HO.out (.inl hk0) B3.out
      · by_cases hk1 : ((orderZ r).length : Int) < k
        · have hk2 : k > ((orderZ r).length : Int) := hk1
          go_wp2
          go_ret2
          exact .arg HO.out (.inr hk1) B3.out
        · have hk2 : ¬ (k > ((orderZ r).length : Int)) := hk1
          go_wp2_with fail
          refine HPk.out.mono ?_
          rintro e4 w4 ⟨v4, rfl, hs4, b4⟩
          obtain ⟨o4, c4, rfl, _⟩ := SlOf.uni hs4
          have HS4 := Lib.hid hs4
          have B4 := Lib.hid (B3.out.trans (b4.mono B3.out.size))
          clear hs4 b4
          go_wp2
          go_ret2
          exact .good HO.out (by omega) (by omega) HS4.out B4.out
end Go.Proofs.YtfcfehflocglpaaDoor
namespace Go.Proofs.YtfcfehflocglpaaDoor
open Go.ChangeShapes Go.WideShapes Go.ChangeAt Go.RowKit

/-- The list without its second entry. -/
theorem laid_skip {P : Program} {x y : String × DataW Unit} {r : List (String × DataW Unit)} {w : World} (h : laidMet P (x :: y :: r) w) : laidMet P (x :: r) w := by
  obtain ⟨ps, hv, hnd, hrows⟩ := h
  obtain ⟨n, d⟩ := x
  obtain ⟨m, e⟩ := y
  obtain ⟨g, t, cs, fuel, p, q, h1, h2, h3, h4, hq, rfl⟩ := hv
  obtain ⟨g', t', cs', fuel', p', q', _, _, _, _, hq', rfl⟩ := hq
  have hs : List.Sublist (MemPlace.row ⟨g, 0, none⟩ cs.size ++ p ++ q') (MemPlace.row ⟨g, 0, none⟩ cs.size ++ p ++ (MemPlace.row ⟨g', 0, none⟩ cs'.size ++ p' ++ q')) := (List.sublist_append_right _ _).append_left _
  exact ⟨_, ⟨g, t, cs, fuel, p, q', h1, h2, h3, h4, hq', rfl⟩, hnd.sublist hs, fun b off hm => hrows b off (hs.subset hm)⟩
theorem own : ownKnob Tryd.prog.godebug = none := by kernel_rfl
theorem laidOut : laidOutB Tryd.prog = true := by kernel_rfl
theorem cellsE : Tryd.prog.cellsOf 218 = 1 := by kernel_rfl
theorem cellsS : Tryd.prog.cellsOf 9 = 1 := by kernel_rfl
theorem star : "*" ++ "errors.errorString" = "*errors.errorString" := by decide
theorem rowE (u : TypeId) (h : Tryd.prog.typeName? 3 u = some "*errors.errorString") : u = 193 :=
  typeName_ptr_named (nm := "errors.errorString") (by rw [star]; kernel_rfl) (by kernel_rfl) (by decide) u (by rw [star]; exact h)

theorem gTree : Tryd.prog.globalNamed "sorites/dtree.errTree" = some 0 := by kernel_rfl
theorem gTreeType : (Tryd.prog.globals[0]?).map (·.type) = some 80 := by kernel_rfl
theorem gZt : Tryd.prog.globalNamed "sorites/dsafe.errTree" = some 5 := by kernel_rfl
theorem gZtT : (Tryd.prog.globals[5]?).map (·.type) = some 80 := by kernel_rfl
theorem gZu : Tryd.prog.globalNamed "sorites/dsafe.errUnsafe" = some 6 := by kernel_rfl
theorem gZuT : (Tryd.prog.globals[6]?).map (·.type) = some 80 := by kernel_rfl
abbrev laidAll : List (String × DataW Unit) := [("sorites/dtree.errTree", Rows.laid_sorites_dtree_errTree), ("sorites/dsafe.errTree", Rows.laid_sorites_dsafe_errTree), ("sorites/dsafe.errUnsafe", Rows.laid_sorites_dsafe_errUnsafe)]
theorem var_lt {W : World} {n : String} {g : Nat} {cs : Array Value} (h : W.var? Tryd.prog n = some cs) (hg : Tryd.prog.globalNamed n = some g) : g < W.heap.size := by
  unfold World.var? at h
  simp only [hg, Option.bind_some] at h
  rcases Nat.lt_or_ge g W.heap.size with h' | h'
  · exact h'
  · simp [Array.getElem?_eq_none h'] at h
theorem same_ptr {W : World} {n : String} {a b : Addr} (h : W.var? Tryd.prog n = some #[.iface 193 (.pointer (some a))]) (k : W.var? Tryd.prog n = some #[.iface 193 (.pointer (some b))]) : a = b := by
  rw [h] at k
  simpa using k

theorem env_of_laid {W : World} (h : laidMetH Tryd.prog laidAll W) : ∃ t a u, EnvZ t a u W := by
  rw [MakeChecks.laidMetH_plain _ _ _ (by kernel_rfl)] at h
  have two := fun {n0 n1 : String} {text0 text1 : List UInt8} {r : List (String × DataW Unit)} {g0 g1 : Nat} (h : laidMet Tryd.prog ((n0, .iface "*errors.errorString" (.ptr (.agg [.lit (.string text0)]))) :: (n1, .iface "*errors.errorString" (.ptr (.agg [.lit (.string text1)]))) :: r) W) (hg0 : Tryd.prog.globalNamed n0 = some g0) (ht0 : (Tryd.prog.globals[g0]?).map (·.type) = some 80) (hg1 : Tryd.prog.globalNamed n1 = some g1) (ht1 : (Tryd.prog.globals[g1]?).map (·.type) = some 80) =>
    laid_sentinels2 h hg0 ht0 hg1 ht1 Tryd.underlying80 rowE Tryd.underlying193 Tryd.underlying218 rfl rfl Tryd.underlying9 cellsE cellsS
  obtain ⟨t, st, hvt, _⟩ := laid_sentinel h gTree gTreeType Tryd.underlying80 rowE Tryd.underlying193 Tryd.underlying218 rfl rfl Tryd.underlying9 cellsE cellsS
  obtain ⟨a, u, _, _, ca, cu, ta, tu, hva, hvu, _, _, _, _, _, _, hau, ra, ru⟩ := two h.tail gZt gZtT gZu gZuT
  exact ⟨t, a, u, ⟨by simpa using World.var?_cell gTree hvt 0, var_lt hvt gTree⟩, ⟨by simpa [errV] using World.var?_cell gZt hva 0, by simpa [errV] using World.var?_cell gZu hvu 0, hau, ⟨ca, ta, ra⟩, ⟨cu, tu, ru⟩, var_lt hva gZt, var_lt hvu gZu, heap_lt ra, heap_lt ru⟩⟩
theorem int64_bounds {n : Int} (h : (Lit.int .i64 n).wf = true) : -9223372036854775808 ≤ n ∧ n ≤ 9223372036854775807 := by
  simp only [Lit.wf, Bool.and_eq_true, decide_eq_true_eq] at h
  exact h
/-- The door's own heap meets the condition. -/
theorem door_met (os : Os) (args : Array Value) : laidMetH Tryd.prog laidAll ((World.doorLaid Tryd.prog 142 os).forCall (fun _ _ => 0) ⟨#[], args, []⟩).memory := by
  rw [MakeChecks.laidMetH_plain _ _ _ (by kernel_rfl)]
  exact laidMet_of_run' 8 (by kernel_rfl) (by kernel_rfl)
theorem below_trodAll {H : Type} {enc : TypeId × Value → H} {W W' : World} (hb : Below W.heap.size W W') :
    ∀ {ts : List TypeId} {vs : List Value} {ds : List (DataW H)} {ps : List MemPlace}, (∀ t ∈ ts, Tryd.prog.readableRec t = true ∧ t < Tryd.prog.types.size) →
      DataW.TrodAll enc Tryd.prog W 0 (fun _ => true) true ts vs ds ps → (∀ x ∈ ps, x.block < W.heap.size) → DataW.TrodAll enc Tryd.prog W' 0 (fun b => decide (b < W.heap.size)) true ts vs ds ps
  | [], _, _, _, _, h, _ => by
    obtain ⟨rfl, rfl, rfl⟩ := trodAll_nil h
    exact trodAll_mk0
  | t :: ts, _, _, _, hr, h, hlt => by
    obtain ⟨v, vs', d, ds', p, q, rfl, rfl, rfl, h1, h2⟩ := trodAll_cons h
    exact trodAll_cons_mk (Below.trod laidOut (hr t (by simp)).1 (hr t (by simp)).2 h1 hb (fun x hx => hlt x (by simp [hx])))
      (below_trodAll hb (fun t' ht' => hr t' (by simp [ht'])) h2 (fun x hx => hlt x (by simp [hx])))

/-- A CALL THAT ANSWERS true AND TURNS NOTHING THAT LAY KEEPS THE LAW. -/
theorem law_post {H : Type} {enc : TypeId × Value → H} {f : Func} {s : ChangeSpec} {W W' : World} {args : Array Value} {ds gs : List (DataW H)} {before : List MemPlace}
    (hW : DataW.Whole enc Tryd.prog f.params.toList s.vars false W args.toList ds gs before) (hv : s.vars = []) (hrt : f.resultTypes = #[4])
    (hfn : s.fn H ds = { results := [.lit (.bool true)], args := ds }) (hr : ∀ t ∈ f.params.toList, Tryd.prog.readableRec t = true ∧ t < Tryd.prog.types.size) (hb : Below W.heap.size W W') :
    s.post enc Tryd.prog f false true false false W args (.bool true) W' := by
  have hlt : ∀ x ∈ before, x.block < W.heap.size := fun x hx => by simpa using hW.lt x hx
  have hW0 := hW
  obtain ⟨p, q, hA, hV, rfl, _, _⟩ := hW0
  rw [hv] at hV
  obtain ⟨rfl, rfl⟩ := trodVars_none hV
  have e1 : s.fn H (ds ++ []) = { results := [.lit (.bool true)], args := ds } := by rw [List.append_nil]; exact hfn
  refine ⟨ds, [], p ++ [], [], p, [], hW, ?_, ?_, ?_, World.keptBut_mono (fun _ h => h.elim) (hb.frame (fun _ => False)), fun h => by cases h⟩
  · rw [e1, hrt]
    exact trodAll_mk1 (shut_bool Tryd.underlying4 true)
  · rw [e1]
    exact below_trodAll hb hr hA (fun x hx => hlt x (by simp [hx]))
  · rw [e1, hv]
    rfl
set_option maxRecDepth 100000 in
theorem open_int64s {H : Type} {enc : TypeId × Value → H} {w : World} {b0 : Nat} {v : Value} {d : DataW H} {p : List MemPlace}
    (hv : Value.okWide Tryd.prog w .any b0 64 v) (h : DataW.Trod enc Tryd.prog w 0 (fun _ => true) true 64 v d p) : ∃ l, SlOf w w.heap.size 1 IntC l v := by
  obtain ⟨o, len, cap, rfl⟩ := okWide_slice Tryd.underlying64 hv
  obtain ⟨fuel, hf⟩ := h
  exact open_sl (R := IntC) Tryd.underlying64 cInt64 (by omega) (fun m cs y hm hy => by obtain ⟨s, e, _, z⟩ := DataW.trod_int Tryd.underlying2 hy; exact ⟨s, e, wf_i64 z⟩) hf
end Go.Proofs.YtfcfehflocglpaaDoor
namespace Go.Proofs.YtfcfehflocglpaaDoor
open Go.RowKit

theorem wt_sum : ∀ (b : List Lt) (F : Nat → Lt → Pt), (∀ i l, wtP (F i l) ≤ (litTs l).length) → wtZ (b.mapIdx F) ≤ (b.flatMap litTs).length
  | [], _, _ => by simp [wtZ]
  | l :: b, F, h => by
    have ih := wt_sum b (fun i => F (i + 1)) (fun i l => h (i + 1) l)
    have h0 := h 0 l
    rw [List.mapIdx_cons, List.flatMap_cons, List.length_append]
    unfold wtZ at *
    rw [List.map_cons, List.sum_cons]
    omega
theorem wt_lit (r : Ru) (k : Nat) (l : Lt) : wtP (ptZ r k l) ≤ (litTs l).length := by
  have h1 := vz_len2 [l.x]
  have h2 := vz_len2 [l.y]
  have h3 := vz_len2 l.a.l
  unfold wtP ptZ litTs
  rw [List.length_append, subTs_cons l.x [l.y], List.length_append]
  rw [subTs_cons l.x [], List.length_append, subTs] at h1
  simp only [List.length_nil, Nat.add_zero] at h1
  simp only
  omega
theorem fewP_small {r : Ru} (hn : (termsR r).length ≤ 2000) : FewP' (partsZ r) := by
  have hb := body_len r
  refine ⟨by unfold partsZ; rw [List.length_mapIdx]; omega, ?_⟩
  have h1 := wt_sum r.body (ptZ r) (fun i l => wt_lit r i l)
  unfold termsR at hn
  rw [List.length_append] at hn
  unfold partsZ
  omega
set_option maxRecDepth 100000 in
theorem v6_c (s : ByteArray) (w : World) : Calls Tryd.prog 29 #[.string s] w fun e w' => e = .returned (.agg #[.int .i64 1, .string s, .int .i64 0, .slice none 0 0]) ∧ Below w.heap.size w w' := by
  have hr := World.alloc_heap_new w (.cells #[.int .i64 1, .string s, .int .i64 0, .slice none 0 0] 43)
  have h0 := row_cells hr 0
  have h1 := row_cells hr 1
  have h2 := row_cells hr 2
  have h3 := row_cells hr 3
  simp at h0 h1 h2 h3
  clear hr
  have hb : Below w.heap.size w (w.alloc (.cells #[.int .i64 1, .string s, .int .i64 0, .slice none 0 0] 43)) := (Below.refl _ _).alloc (Nat.le_refl _) _
  go_enter Tryd.func29, Tryd.ntmps29
  go_wp2
  refine bodyPost_ret (v := .agg #[.int .i64 1, .string s, .int .i64 0, .slice none 0 0]) (by simp [results, Tryd.results29, go_sem, h0, h1, h2, h3]) rfl ?_
  exact ⟨rfl, hb⟩
/-- The atom of a variable, whose argument lies in a block of its own. -/
def OneAt (w : World) (b : Nat) (s : ByteArray) : Prop := w.heap[b]? = some (.cells #[.int .i64 1, .string s, .int .i64 0, .slice none 0 0] 43 (0, 0))
theorem OneAt.below {w w' : World} {b : Nat} {s : ByteArray} (h : OneAt w b s) (hb : Below w.heap.size w w') : OneAt w' b s := (hb.block b (heap_lt h)).trans h
set_option maxRecDepth 100000 in
theorem at6_c (q s : ByteArray) (w : World) : Calls Tryd.prog 52 #[.string q, .string s] w fun e w' => ∃ b, e = .returned (.agg #[.string q, .slice (some ⟨b, 0, none⟩) 1 1]) ∧ OneAt w' b s ∧ Below w.heap.size w w' := by
  obtain ⟨W1, hW1⟩ : ∃ W, w.alloc (.cells #[.string ⟨#[]⟩, .slice none 0 0] 24) = W := ⟨_, rfl⟩
  have b1 : Below w.heap.size w W1 := by rw [← hW1]; exact (Below.refl _ _).alloc (Nat.le_refl _) _
  have r1 : W1.heap[w.heap.size]? = some (.cells #[.string ⟨#[]⟩, .slice none 0 0] 24 (0, 0)) := by rw [← hW1]; exact World.alloc_heap_new w _
  have B1 := Lib.hid b1
  have R1 := Lib.hid r1
  clear b1 r1
  go_enter Tryd.func52, Tryd.ntmps52
  go_wp2_with fail
  try rw [hW1]
  refine (v6_c s _).mono ?_
  rintro e2 w2 ⟨rfl, b2⟩
  have hr2 := (b2.block _ (heap_lt R1.out)).trans R1.out
  have B2 := Lib.hid (B1.out.trans (b2.mono B1.out.size))
  obtain ⟨b, hb⟩ : ∃ b, w2.heap.size = b := ⟨_, rfl⟩
  obtain ⟨W3, hW3⟩ : ∃ W, w2.alloc (.cells #[.int .i64 1, .string s, .int .i64 0, .slice none 0 0] 43) = W := ⟨_, rfl⟩
  have b3 : Below w2.heap.size w2 W3 := by rw [← hW3]; exact (Below.refl _ _).alloc (Nat.le_refl _) _
  have r3 : OneAt W3 b s := by unfold OneAt; rw [← hW3, ← hb]; exact World.alloc_heap_new w2 _
  have hr3 := (b3.block _ (heap_lt hr2)).trans hr2
  have n3 : b ≠ w.heap.size := fun e => by have := heap_lt hr2; omega
  have y0 := row_cells hr3 0
  have y1 := row_cells hr3 1
  have f0 := frz_row hr3 0
  have f1 := frz_row hr3 1
  have l3 := heap_lt hr3
  have B3 := Lib.hid (B2.out.trans (b3.mono B2.out.size))
  have R3 := Lib.hid r3
  have HR3 := Lib.hid hr3
  have e4 := rowSet (rowSet hr3 0 (.string q)) 1 (.slice (some ⟨b, 0, none⟩) 1 1)
  have z0 := row_cells e4 0
  have z1 := row_cells e4 1
  simp at y0 y1 z0 z1
  have Z0 := Lib.hid z0
  have Z1 := Lib.hid z1
  clear b2 hr2 b3 r3 hr3 e4 z0 z1
  go_wp2
  have g0 := Z0.out
  have g1 := Z1.out
  refine bodyPost_ret (v := .agg #[.string q, .slice (some ⟨b, 0, none⟩) 1 1]) (by simp [results, Tryd.results52, go_sem, g0, g1]) rfl ?_
  refine ⟨b, rfl, ?_, (B3.out.setCell (p := ⟨w.heap.size, 0, none⟩) (Nat.le_refl _) _).setCell (p := ⟨w.heap.size, 1, none⟩) (Nat.le_refl _) _⟩
  exact (set_oth n3).trans ((set_oth n3).trans R3.out)
set_option maxRecDepth 100000 in
set_option maxHeartbeats 2000000 in
theorem small6_c (r : Ru) (cs : List Value) (w : World) (hc : RuC w w.heap.size r cs) :
    Calls Tryd.prog 25 #[.agg cs.toArray] w fun e w' => e = .returned (.bool (smallP ⟨[], [r]⟩)) ∧ Below w.heap.size w w' := by
  obtain ⟨o0, k0, o1, k1, rfl, _⟩ := hc.look
  obtain ⟨C, hC⟩ : ∃ C : Obj, .cells #[.string r.head.rel, .slice o0 r.head.l.length k0, .slice o1 r.body.length k1, .int .i64 r.line] 27 = C := ⟨_, rfl⟩
  have b1 : Below w.heap.size w (w.alloc C) := (Below.refl _ _).alloc (Nat.le_refl _) _
  have b2 : Below w.heap.size w ((w.alloc C).alloc C) := b1.alloc (by simp) _
  have HSL : SlOf ((w.alloc C).alloc C) ((w.alloc C).alloc C).heap.size 4 (RuC ((w.alloc C).alloc C) ((w.alloc C).alloc C).heap.size) [r] (.slice (some ⟨w.heap.size + 1, 0, none⟩) 1 1) := by
    have := rule_slice (w.alloc C) r ((hc.below b1).more b1.size)
    rw [hC] at this
    simpa using this
  have HR := Lib.hid (small_c ⟨[], [r]⟩ _ [.slice none 0 0, .slice (some ⟨w.heap.size + 1, 0, none⟩) 1 1] ⟨_, _, rfl, .inl ⟨rfl, rfl⟩, HSL⟩)
  have B2 := Lib.hid b2
  subst hC
  clear hc b1 b2 HSL
  go_enter Tryd.func25, Tryd.ntmps25
  go_wp2_with fail
  refine HR.out.mono ?_
  rintro e3 w3 ⟨rfl, b3⟩
  have B3 := Lib.hid (B2.out.trans (b3.mono B2.out.size))
  unfold smallI
  obtain ⟨q, hq⟩ : ∃ q, smallP ⟨[], [r]⟩ = q := ⟨_, rfl⟩
  rw [hq]
  have Hq := Lib.hid hq
  clear hq
  cases q with
  | true =>
    go_wp2
    go_ret
    exact ⟨by first | rfl | (rw [Hq.out]; rfl), B3.out⟩
  | false =>
    go_wp2
    go_ret
    exact ⟨by first | rfl | (rw [Hq.out]; rfl), B3.out⟩
end Go.Proofs.YtfcfehflocglpaaDoor
namespace Go.Proofs.YtfcfehflocglpaaDoor
open Go.RowKit

theorem few_small3 {r : Ru} (hn : (termsR r).length ≤ 3000) (hs : ∀ t ∈ termsR r, t.s.size ≤ 1000) : FewR r := by
  have sum : ((placesZ r).flatMap vz).length ≤ (termsR r).length := by
    unfold placesZ
    rw [List.flatMap_cons, List.length_append]
    have h1 := vz_len2 r.head.l
    have h2 := places_sum r.body
    unfold termsR
    rw [List.length_append]
    omega
  have hb := body_len r
  refine ⟨fun p hp => ⟨fun s hs' => ?_, ?_⟩, by omega, by omega, fun l hl => ?_⟩
  · obtain ⟨t, ht, _, rfl⟩ := occ_mem.1 hs'
    exact Nat.le_trans (hs t (terms_in (places_terms hp) t ht)) (by decide)
  · have h1 : (subTs p).length ≤ (termsR r).length := by
      unfold placesZ at hp
      unfold termsR
      rw [List.length_append]
      rcases List.mem_cons.1 hp with rfl | hp
      · omega
      · have := place_len r.body hp; omega
    have := occ_lenZ (subTs p)
    omega
  · have h1 : l.a.l.length ≤ (litTs l).length := by
      unfold litTs
      rw [List.length_append]
      have : ∀ m : List Tm, m.length ≤ (subTs m).length := by
        intro m
        induction m with
        | nil => exact Nat.zero_le _
        | cons t m ih => rw [subTs_cons, List.length_append, subT_eq]; simp only [List.length_cons]; omega
      have := this l.a.l
      omega
    have h2 : (litTs l).length ≤ (termsR r).length := by
      unfold termsR
      rw [List.length_append]
      obtain ⟨a, b, e⟩ := List.append_of_mem hl
      rw [e, List.flatMap_append, List.flatMap_cons]
      simp only [List.length_append]
      omega
    omega
/-- A call among what has run ahead of the building. -/
theorem FB.call {i1 i7 i8 i10 : Nat} {ps : List (Nat × Nat)} {R : List (Value → Prop)} {W0 w w' : World} {E7 E8 : Value → World → Prop} {E10 : World → Prop} {l : Array Bool} {val : Nat → Value} (h : FB i1 i7 i8 i10 ps R W0 E7 E8 E10 l val w) {i : Nat} {v : Value} (hl : i < l.size) (hn : l.getD i false = false) (hd : ∀ q ∈ ps, q.1 = i → l.getD q.2 false = true) (hv : ∀ p, R[i]? = some p → p v) (h7 : i ≠ i7) (h8 : i ≠ i8) (h10 : i ≠ i10) (p7 : (i7, i) ∈ ps) (p87 : (i8, i7) ∈ ps) (p108 : (i10, i8) ∈ ps)
    (hb : Below w.heap.size w w') : FB i1 i7 i8 i10 ps R W0 E7 E8 E10 (l.setIfInBounds i true) (updV val i v) w' := by
  obtain ⟨a, b⟩ := h.upd hl hn hd hv
  have e7 : l.getD i7 false = false := by
    cases h7 : l.getD i7 false with
    | false => rfl
    | true => exact ntb hn (h.dp _ p7 h7)
  have e8 : l.getD i8 false = false := by
    cases h8 : l.getD i8 false with
    | false => rfl
    | true => exact ntb e7 (h.dp _ p87 h8)
  have e10 : l.getD i10 false = false := by
    cases h10 : l.getD i10 false with
    | false => rfl
    | true => exact ntb e8 (h.dp _ p108 h10)
  have h0 := h.s0 e7
  refine ⟨a, b, fun _ => h0.trans (hb.mono h0.size), ?_, ?_, ?_⟩
  · rw [getD_set (Ne.symm h7)]
    intro h; exact ntb e7 h
  · rw [getD_set (Ne.symm h8)]
    intro h; exact ntb e8 h
  · rw [getD_set (Ne.symm h10)]
    intro h; exact ntb e10 h
theorem body_len2 (r : Ru) : 2 * r.body.length ≤ (termsR r).length := by
  rw [termsR_len]
  have : ∀ l : List Lt, 2 * l.length ≤ (l.map fun l => (litTs l).length).sum := by
    intro l
    induction l with
    | nil => simp
    | cons x l ih => simp only [List.map_cons, List.sum_cons, List.length_cons]; have := lit_pos x; omega
  have := this r.body
  omega
theorem fewP_small3 {r : Ru} (hn : (termsR r).length ≤ 3000) : FewP' (partsZ r) := by
  have hb := body_len2 r
  refine ⟨by unfold partsZ; rw [List.length_mapIdx]; omega, ?_⟩
  have h1 := wt_sum r.body (ptZ r) (fun i l => wt_lit r i l)
  unfold termsR at hn
  rw [List.length_append] at hn
  unfold partsZ
  omega
/-- The argument for a number: a bound name, or the number itself. -/
def argT (F : List ByteArray) (x : Int) : Tm := if 0 ≤ x ∧ x < (F.length : Int) then .mk 1 (F.getD x.toNat ⟨#[]⟩) 0 [] else .mk 2 ⟨#[]⟩ x []
def nulT : Tm := .mk 0 ⟨#[]⟩ 0 []
def litM (q : ByteArray) (F : List ByteArray) (l : List Int) : Lt := ⟨1, ⟨q, l.map (argT F)⟩, nulT, nulT⟩
theorem argT_l (F : List ByteArray) (x : Int) : (argT F x).l = [] := by unfold argT; split <;> rfl
theorem argT_name {F : List ByteArray} {x : Int} (h : 0 ≤ x ∧ x < (F.length : Int)) {s : ByteArray} (hs : F[x.toNat]? = some s) : argT F x = .mk 1 s 0 [] := by
  unfold argT
  rw [if_pos h, List.getD_eq_getElem?_getD, hs]
  rfl
theorem argT_num {F : List ByteArray} {x : Int} (h : ¬ (0 ≤ x ∧ x < (F.length : Int))) : argT F x = .mk 2 ⟨#[]⟩ x [] := by
  unfold argT
  rw [if_neg h]
theorem litM_plain {r : Ru} {q : ByteArray} {F : List ByteArray} (hF : ∀ s ∈ F, hasZ (boundZ r) s = true) (l : List Int) : PlainAt r (litM q F l) := by
  refine ⟨rfl, rfl, rfl, fun t ht => ?_⟩
  obtain ⟨x, _, rfl⟩ := List.mem_map.1 ht
  refine ⟨argT_l F x, ?_⟩
  by_cases h : 0 ≤ x ∧ x < (F.length : Int)
  · have hlt : x.toNat < F.length := by omega
    have hs : F[x.toNat]? = some F[x.toNat] := List.getElem?_eq_getElem hlt
    rw [argT_name h hs]
    exact .inl ⟨rfl, hF _ (List.getElem_mem hlt)⟩
  · rw [argT_num h]
    exact .inr rfl
theorem litTs_litM (q : ByteArray) (F : List ByteArray) (l : List Int) : litTs (litM q F l) = [nulT, nulT] ++ l.map (argT F) := by
  unfold litTs litM
  simp only
  have h1 : subTs (l.map (argT F)) = l.map (argT F) := occ_plain fun t ht => by
    obtain ⟨x, _, rfl⟩ := List.mem_map.1 ht
    exact argT_l F x
  rw [h1]
  congr 1
theorem termsR_more (r : Ru) (L : Lt) : termsR (moreR r L) = termsR r ++ litTs L := by
  unfold termsR moreR
  simp
theorem more_few {r : Ru} {q : ByteArray} {F : List ByteArray} {l : List Int} (h1 : (termsR r).length ≤ 2000) (h2 : ∀ t ∈ termsR r, t.s.size ≤ 1000) (hF : ∀ s ∈ F, s.size ≤ 1000) (hl : l.length ≤ 5) : FewR (moreR r (litM q F l)) ∧ FewP' (partsZ (moreR r (litM q F l))) := by
  have hn : (termsR (moreR r (litM q F l))).length ≤ 3000 := by
    rw [termsR_more, litTs_litM]
    simp only [List.length_append, List.length_map, List.length_cons, List.length_nil]
    omega
  refine ⟨few_small3 hn fun t ht => ?_, fewP_small3 hn⟩
  rw [termsR_more, litTs_litM] at ht
  rcases List.mem_append.1 ht with ht | ht
  · exact h2 t ht
  · rcases List.mem_append.1 ht with ht | ht
    · simp only [List.mem_cons, List.not_mem_nil, or_false] at ht
      rcases ht with rfl | rfl <;> decide
    · obtain ⟨x, _, rfl⟩ := List.mem_map.1 ht
      by_cases h : 0 ≤ x ∧ x < (F.length : Int)
      · have hlt : x.toNat < F.length := by omega
        have hs : F[x.toNat]? = some F[x.toNat] := List.getElem?_eq_getElem hlt
        rw [argT_name h hs]
        exact hF _ (List.getElem_mem hlt)
      · rw [argT_num h]
        exact Nat.zero_le 1000
theorem more_ord {r : Ru} {L : Lt} (h : PlainAt r L) (h0 : ordE r = 0) : (ordE (moreR r L) = 0 ∧ (orderZ (moreR r L)).length = r.body.length + 1) ∨ ordE (moreR r L) = 30 := by
  have hs : safeZ r = true := by
    unfold ordE at h0
    split at h0
    · split at h0
      · assumption
      · cases h0
    · cases h0
  obtain ⟨a, b⟩ := safe_more h hs
  unfold ordE
  rw [a]
  split
  · exact .inl ⟨rfl, b⟩
  · exact .inr rfl
/-- The names that are bound at the end are bound. -/
theorem byZ_has {B : Bd} {k : Int} {s : ByteArray} {l : List ByteArray} (h : s ∈ l.filter (byZ B k)) : hasZ B s = true := by
  have := (List.mem_filter.1 h).2
  unfold byZ at this
  exact (Bool.and_eq_true_iff.1 this).1
end Go.Proofs.YtfcfehflocglpaaDoor
namespace Go.Proofs.YtfcfehflocglpaaDoor
open Go.RowKit

def qS : ByteArray := ⟨#[113]⟩
def eS : ByteArray := ⟨#[]⟩
def oneT : Tm := .mk 2 ⟨#[]⟩ 1 []
def thrT : Tm := .mk 2 ⟨#[]⟩ 3 []
def sumT : Tm := .mk 5 ⟨#[]⟩ 0 [vT xS, oneT]
def r1R : Ru := ⟨⟨pS, [vT xS]⟩, [⟨3, ⟨⟨#[]⟩, []⟩, vT yS, sumT⟩, ⟨1, ⟨qS, [vT xS]⟩, zT, zT⟩, ⟨5, ⟨⟨#[]⟩, []⟩, vT yS, thrT⟩], 0⟩
def r2R : Ru := ⟨⟨pS, [vT xS]⟩, [⟨2, ⟨qS, [vT xS]⟩, zT, zT⟩], 0⟩
theorem r1_ord : ordE r1R = 0 := by decide +kernel
theorem r1_order : orderZ r1R = [1, 0, 2] := by decide +kernel
theorem r2_ord : ordE r2R = 60 := by decide +kernel
theorem r1_len : (termsR r1R).length ≤ 2000 ∧ ∀ t ∈ termsR r1R, t.s.size ≤ 1000 := by decide +kernel
theorem r2_len : (termsR r2R).length ≤ 2000 ∧ ∀ t ∈ termsR r2R, t.s.size ≤ 1000 := by decide +kernel
def SumAt (w : World) (b : Nat) : Prop := w.heap[b]? = some (.cells #[.int .i64 1, .string xS, .int .i64 0, .slice none 0 0, .int .i64 2, .string ⟨#[]⟩, .int .i64 1, .slice none 0 0] 43 (0, 0))
def sumCells (b : Nat) : List Value := [.int .i64 5, .string ⟨#[]⟩, .int .i64 0, .slice (some ⟨b, 0, none⟩) 2 2]
def lit1 (b : Nat) : List Value := [.int .i64 3, .string ⟨#[]⟩, .slice none 0 0, .int .i64 1, .string yS, .int .i64 0, .slice none 0 0, .int .i64 5, .string ⟨#[]⟩, .int .i64 0, .slice (some ⟨b, 0, none⟩) 2 2]
def lit2 (op : Int) (a : Nat) : List Value := [.int .i64 op, .string qS, .slice (some ⟨a, 0, none⟩) 1 1, .int .i64 0, .string ⟨#[]⟩, .int .i64 0, .slice none 0 0, .int .i64 0, .string ⟨#[]⟩, .int .i64 0, .slice none 0 0]
def lit3 : List Value := [.int .i64 5, .string ⟨#[]⟩, .slice none 0 0, .int .i64 1, .string yS, .int .i64 0, .slice none 0 0, .int .i64 2, .string ⟨#[]⟩, .int .i64 3, .slice none 0 0]
theorem int_c (w : World) (n : Int) (hn : I64 n) : TmC w w.heap.size (.mk 2 ⟨#[]⟩ n []) [.int .i64 2, .string ⟨#[]⟩, .int .i64 n, .slice none 0 0] := .nil 2 ⟨#[]⟩ n (by unfold I64; omega) (by decide) hn
theorem one_am {w : World} {b : Nat} {q s : ByteArray} (h : OneAt w b s) (hs : s.size ≤ maxLen) (hq : q.size ≤ maxLen) : AmC w w.heap.size ⟨q, [vT s]⟩ [.string q, .slice (some ⟨b, 0, none⟩) 1 1] := ⟨_, rfl, hq, tm_row1 h (vT_c w s hs)⟩
theorem none_am (w : World) : AmC w w.heap.size ⟨⟨#[]⟩, []⟩ [.string ⟨#[]⟩, .slice none 0 0] := ⟨_, rfl, by decide, .inl ⟨rfl, rfl⟩⟩
theorem sum_c {w : World} {b : Nat} (h : SumAt w b) : TmC w w.heap.size sumT (sumCells b) := by
  refine TmC.of (by unfold I64; omega) (by decide) (by unfold I64; omega) ?_
  refine sl_cells (l := [vT xS, oneT]) [[.int .i64 1, .string xS, .int .i64 0, .slice none 0 0], [.int .i64 2, .string ⟨#[]⟩, .int .i64 1, .slice none 0 0]] h rfl (by simp) ?_ (by simp [maxLen])
  intro i x cs hx hc
  match i, hx, hc with
  | 0, hx, hc => simp at hx hc; subst hx hc; exact vT_c w xS (by decide)
  | 1, hx, hc => simp at hx hc; subst hx hc; exact int_c w 1 (by unfold I64; omega)
  | i + 2, hx, _ => simp at hx
theorem r1_c {w : World} {bh B a b : Nat} (h1 : OneAt w bh xS) (h2 : w.heap[B]? = some (.cells (lit1 b ++ lit2 1 a ++ lit3).toArray 45 (0, 0))) (h3 : OneAt w a xS) (h4 : SumAt w b) :
    RuC w w.heap.size r1R [.string pS, .slice (some ⟨bh, 0, none⟩) 1 1, .slice (some ⟨B, 0, none⟩) 3 3, .int .i64 0] := by
  refine ⟨_, _, rfl, by unfold I64; decide, one_am h1 (by decide) (by decide), ?_⟩
  refine sl_cells (l := r1R.body) [lit1 b, lit2 1 a, lit3] (by simpa using h2) rfl (by simp [lit1, lit2, lit3]) ?_ (by simp [maxLen, r1R])
  intro i x cs hx hc
  match i, hx, hc with
  | 0, hx, hc =>
    simp only [r1R, List.getElem?_cons_zero, Option.some.injEq] at hx hc
    subst hx hc
    exact ⟨_, _, _, rfl, by unfold I64; decide, none_am w, vT_c w yS (by decide), sum_c h4⟩
  | 1, hx, hc =>
    simp only [r1R, List.getElem?_cons_succ, List.getElem?_cons_zero, Option.some.injEq] at hx hc
    subst hx hc
    exact ⟨_, _, _, rfl, by unfold I64; decide, one_am h3 (by decide) (by decide), zT_c w, zT_c w⟩
  | 2, hx, hc =>
    simp only [r1R, List.getElem?_cons_succ, List.getElem?_cons_zero, Option.some.injEq] at hx hc
    subst hx hc
    exact ⟨_, _, _, rfl, by unfold I64; decide, none_am w, vT_c w yS (by decide), int_c w 3 (by unfold I64; omega)⟩
  | i + 3, hx, _ => simp [r1R] at hx
theorem r2_c {w : World} {bh B a : Nat} (h1 : OneAt w bh xS) (h2 : w.heap[B]? = some (.cells (lit2 2 a).toArray 45 (0, 0))) (h3 : OneAt w a xS) :
    RuC w w.heap.size r2R [.string pS, .slice (some ⟨bh, 0, none⟩) 1 1, .slice (some ⟨B, 0, none⟩) 1 1, .int .i64 0] := by
  refine ⟨_, _, rfl, by unfold I64; decide, one_am h1 (by decide) (by decide), ?_⟩
  refine sl_cells (l := r2R.body) [lit2 2 a] (by simpa using h2) rfl (by simp [lit2]) ?_ (by simp [maxLen, r2R])
  intro i x cs hx hc
  match i, hx, hc with
  | 0, hx, hc =>
    simp only [r2R, List.getElem?_cons_zero, Option.some.injEq] at hx hc
    subst hx hc
    exact ⟨_, _, _, rfl, by unfold I64; decide, one_am h3 (by decide) (by decide), zT_c w, zT_c w⟩
  | i + 1, hx, _ => simp [r2R] at hx
def slots6 : List (Option Tmp) := [some 11, some 12, some 13, some 14, some 15, some 16, some 17, some 18, some 19, some 2]
def facts6 (b : Nat) : List (Value → World → Prop) :=
  [fun v _ => v = .agg (vCells yS).toArray, fun v _ => v = .agg (sumCells b).toArray, fun v _ => v = .agg (lit1 b).toArray,
   fun v w => ∃ a, v = .agg #[.string qS, .slice (some ⟨a, 0, none⟩) 1 1] ∧ OneAt w a xS, fun v w => ∃ a, v = .agg (lit2 1 a).toArray ∧ OneAt w a xS,
   fun v _ => v = .agg (vCells yS).toArray, fun v _ => v = .agg #[.int .i64 2, .string ⟨#[]⟩, .int .i64 3, .slice none 0 0], fun v _ => v = .agg lit3.toArray,
   fun v w => ∃ B a, v = .slice (some ⟨B, 0, none⟩) 3 3 ∧ w.heap[B]? = some (.cells (lit1 b ++ lit2 1 a ++ lit3).toArray 45 (0, 0)) ∧ OneAt w a xS,
   fun v w => ∃ B a, v = .slice (some ⟨B, 0, none⟩) 3 3 ∧ w.heap[B]? = some (.cells (lit1 b ++ lit2 1 a ++ lit3).toArray 45 (0, 0)) ∧ OneAt w a xS]
theorem facts6_mono (b : Nat) : ∀ p ∈ facts6 b, ∀ v w w', p v w → Below w.heap.size w w' → p v w' := by
  intro p hp v w w' h hb
  unfold facts6 at hp
  simp only [List.mem_cons, List.not_mem_nil, or_false] at hp
  rcases hp with rfl | rfl | rfl | rfl | rfl | rfl | rfl | rfl | rfl | rfl
  · exact h
  · exact h
  · exact h
  · obtain ⟨a, h1, h2⟩ := h; exact ⟨a, h1, h2.below hb⟩
  · obtain ⟨a, h1, h2⟩ := h; exact ⟨a, h1, h2.below hb⟩
  · exact h
  · exact h
  · exact h
  · obtain ⟨B, a, h1, h2, h3⟩ := h; exact ⟨B, a, h1, (hb.block B (heap_lt h2)).trans h2, h3.below hb⟩
  · obtain ⟨B, a, h1, h2, h3⟩ := h; exact ⟨B, a, h1, (hb.block B (heap_lt h2)).trans h2, h3.below hb⟩
set_option maxRecDepth 100000 in
set_option maxHeartbeats 8000000 in
theorem shown6_c (t a u : Addr) (w : World) (E : EnvZ t a u w) : Calls Tryd.prog 24 #[] w fun e w' => e = .returned (.bool true) ∧ Below w.heap.size w w' := by
  have HE := Lib.hid E
  clear E
  go_enter Tryd.func24, Tryd.ntmps24
  go_wp2_with fail
  refine (v6_c _ _).mono ?_
  rintro e1 w1 ⟨rfl, b1⟩
  have B1 := Lib.hid b1
  clear b1
  go_wp2_with fail
  obtain ⟨b, hb⟩ : ∃ b, w1.heap.size = b := ⟨_, rfl⟩
  obtain ⟨W3, hW3⟩ : ∃ W3, (w1.alloc (.cells #[.int .i64 1, .string ⟨#[120]⟩, .int .i64 0, .slice none 0 0, .int .i64 2, .string ⟨#[]⟩, .int .i64 1, .slice none 0 0] 43)).alloc (.cells #[.int .i64 5, .string ⟨#[]⟩, .int .i64 0, .slice (some ⟨w1.heap.size, 0, none⟩) 2 2] 43) = W3 := ⟨_, rfl⟩
  have r3 : SumAt W3 b := by unfold SumAt; rw [← hW3, ← hb]; exact (Below.heap_alloc _ _ _ (by simp)).trans (World.alloc_heap_new w1 _)
  have q3 : W3.heap[b + 1]? = some (.cells (sumCells b).toArray 43 (0, 0)) := by
    have h1 := World.alloc_heap_new (w1.alloc (.cells #[.int .i64 1, .string ⟨#[120]⟩, .int .i64 0, .slice none 0 0, .int .i64 2, .string ⟨#[]⟩, .int .i64 1, .slice none 0 0] 43)) (.cells #[.int .i64 5, .string ⟨#[]⟩, .int .i64 0, .slice (some ⟨w1.heap.size, 0, none⟩) 2 2] 43)
    rw [World.size_alloc, hW3, hb] at h1
    exact h1
  have b3 : Below w.heap.size w W3 := by
    rw [← hW3]
    exact (B1.out.alloc B1.out.size _).alloc (by have := B1.out.size; simp; omega) _
  try rw [hW3]
  try rw [hb]
  have R3 := Lib.hid r3
  have Q3 := Lib.hid q3
  have B3 := Lib.hid b3
  clear r3 q3 b3 hW3 hb
  refine wp_region_any (by kernel_rfl) ?_
  (try (change wpAny _ _ _ _ _ _ _ (World.drew _)))
  refine wpAny_grow slots6 _ _ (facts6 b) (by kernel_rfl) (by kernel_rfl) (by kernel_rfl) (by kernel_rfl) (by kernel_rfl) (facts6_mono b) ⟨?s0, ?s1, ?s2, ?s3, ?s4, ?s5, ?s6, ?s7, ?s8, ?s9, trivial⟩ ?fin
  case s0 =>
    intro A w' K hb hfar hd hK
    unfold Oper.wp
    go_simp
    refine (v6_c _ w').mono ?_
    rintro e3 w3 ⟨rfl, b3⟩
    exact hK _ _ b3 (factG_mk rfl rfl)
  case s1 =>
    intro A w' K hb hfar hd hK
    have e1 : A.tmps[1]?.getD undef = .pointer (some ⟨b + 1, 0, none⟩) := hfar 1 (by decide)
    obtain ⟨c0, c1, c2, c3⟩ := row4 (show w'.heap[b + 1]? = some (.cells #[.int .i64 5, .string ⟨#[]⟩, .int .i64 0, .slice (some ⟨b, 0, none⟩) 2 2] 43 (0, 0)) from (hb.block _ (heap_lt Q3.out)).trans Q3.out)
    unfold Oper.wp
    simp [execOp, e1, c0, c1, c2, c3, go_sem, Result.andThen]
    exact hK _ _ (Below.refl _ _) (factG_mk rfl rfl)
  case s2 =>
    intro A w' K hb hfar hd hK
    have e1 : A.tmps[11]?.getD undef = .agg (vCells yS).toArray := hd 0 11 rfl (by kernel_rfl) _ rfl
    have e2 : A.tmps[12]?.getD undef = .agg (sumCells b).toArray := hd 1 12 rfl (by kernel_rfl) _ rfl
    unfold vCells at e1
    unfold sumCells at e2
    unfold Oper.wp
    simp [execOp, e1, e2, go_sem, Result.andThen]
    exact hK _ _ (Below.refl _ _) (factG_mk rfl rfl)
  case s3 =>
    intro A w' K hb hfar hd hK
    unfold Oper.wp
    go_simp
    refine (at6_c _ _ w').mono ?_
    rintro e3 w3 ⟨a1, rfl, h3, b3⟩
    exact hK _ _ b3 (factG_mk rfl ⟨a1, rfl, h3⟩)
  case s4 =>
    intro A w' K hb hfar hd hK
    obtain ⟨a1, e1, h1⟩ : ∃ a, A.tmps[14]?.getD undef = .agg #[.string qS, .slice (some ⟨a, 0, none⟩) 1 1] ∧ OneAt w' a xS := hd 3 14 rfl (by kernel_rfl) _ rfl
    unfold Oper.wp
    simp [execOp, e1, go_sem, Result.andThen]
    exact hK _ _ (Below.refl _ _) (factG_mk rfl ⟨a1, rfl, h1⟩)
  case s5 =>
    intro A w' K hb hfar hd hK
    unfold Oper.wp
    go_simp
    refine (v6_c _ w').mono ?_
    rintro e3 w3 ⟨rfl, b3⟩
    exact hK _ _ b3 (factG_mk rfl rfl)
  case s6 =>
    intro A w' K hb hfar hd hK
    unfold Oper.wp
    simp [execOp, go_sem, Result.andThen]
    exact hK _ _ (Below.refl _ _) (factG_mk rfl rfl)
  case s7 =>
    intro A w' K hb hfar hd hK
    have e1 : A.tmps[16]?.getD undef = .agg (vCells yS).toArray := hd 5 16 rfl (by kernel_rfl) _ rfl
    have e2 : A.tmps[17]?.getD undef = .agg #[.int .i64 2, .string ⟨#[]⟩, .int .i64 3, .slice none 0 0] := hd 6 17 rfl (by kernel_rfl) _ rfl
    unfold vCells at e1
    unfold Oper.wp
    simp [execOp, e1, e2, go_sem, Result.andThen]
    exact hK _ _ (Below.refl _ _) (factG_mk rfl rfl)
  case s8 =>
    intro A w' K hb hfar hd hK
    have e1 : A.tmps[13]?.getD undef = .agg (lit1 b).toArray := hd 2 13 rfl (by kernel_rfl) _ rfl
    obtain ⟨a1, e2, h1⟩ : ∃ a, A.tmps[15]?.getD undef = .agg (lit2 1 a).toArray ∧ OneAt w' a xS := hd 4 15 rfl (by kernel_rfl) _ rfl
    have e3 : A.tmps[18]?.getD undef = .agg lit3.toArray := hd 7 18 rfl (by kernel_rfl) _ rfl
    unfold lit1 at e1
    unfold lit2 at e2
    unfold lit3 at e3
    unfold Oper.wp
    simp [execOp, e1, e2, e3, go_sem, Result.andThen]
    exact hK _ _ ((Below.refl _ _).alloc (Nat.le_refl _) _) (factG_mk rfl ⟨_, a1, rfl, World.alloc_heap_new w' _, h1.below ((Below.refl _ _).alloc (Nat.le_refl _) _)⟩)
  case s9 =>
    intro A w' K hb hfar hd hK
    obtain ⟨B, a1, e1, h1, h2⟩ : ∃ B a, A.tmps[19]?.getD undef = .slice (some ⟨B, 0, none⟩) 3 3 ∧ w'.heap[B]? = some (.cells (lit1 b ++ lit2 1 a ++ lit3).toArray 45 (0, 0)) ∧ OneAt w' a xS := hd 8 19 rfl (by kernel_rfl) _ rfl
    unfold Oper.wp
    simp [execOp, e1, go_sem, Result.andThen]
    exact hK _ _ (Below.refl _ _) (factG_mk rfl ⟨B, a1, rfl, h1, h2⟩)
  case fin =>
    intro val w5 hF hb5
    obtain ⟨B, a1, f9, h1, h2⟩ : ∃ B a, val 9 = .slice (some ⟨B, 0, none⟩) 3 3 ∧ w5.heap[B]? = some (.cells (lit1 b ++ lit2 1 a ++ lit3).toArray 45 (0, 0)) ∧ OneAt w5 a xS := hF 9 2 rfl _ rfl
    have r5 : SumAt w5 b := (hb5.block _ (heap_lt R3.out)).trans R3.out
    have B5 := Lib.hid (B3.out.trans ((drewB hb5).mono B3.out.size))
    simp only [slots6, putsA, Nat.zero_add, Nat.reduceAdd, f9]
    generalize val 0 = v0
    generalize val 1 = v1
    generalize val 2 = v2
    generalize val 3 = v3
    generalize val 4 = v4
    generalize val 5 = v5
    generalize val 6 = v6
    generalize val 7 = v7
    generalize val 8 = v8
    have H1 := Lib.hid h1
    have H2 := Lib.hid h2
    have R5 := Lib.hid r5
    clear hF hb5 f9 h1 h2 r5 val
    go_simp
    go_wp2_with fail
    refine (at6_c _ _ w5).mono ?_
    rintro e6 w6 ⟨bh, rfl, h6, b6⟩
    have B6 := Lib.hid (B5.out.trans (b6.mono B5.out.size))
    have HO := Lib.hid (order_c r1R _ t a u w6 (r1_c h6 ((b6.block _ (heap_lt H1.out)).trans H1.out) (H2.out.below b6) ((b6.block _ (heap_lt R5.out)).trans R5.out)) (few_small r1_len.1 r1_len.2) (fewP_small r1_len.1) (HE.out.below B6.out))
    clear b6 h6
    go_wp2_with fail
    refine HO.out.mono ?_
    intro e7 w7 hT
    cases hT with
    | bad h0 _ => exact absurd r1_ord h0
    | @good _ lv _ hs b7 =>
      rw [r1_order] at hs
      obtain ⟨ol, cl, rfl, _, _, _⟩ := SlOf.open hs
      have B7 := Lib.hid (B6.out.trans (b7.mono B6.out.size))
      have HS7 := Lib.hid hs
      clear hs b7
      go_wp2_with fail
      refine (at6_c _ _ w7).mono ?_
      rintro e8 w8 ⟨bh8, rfl, h8, b8⟩
      have B8 := Lib.hid (B7.out.trans (b8.mono B7.out.size))
      have HS8 := Lib.hid (SlOf.int HS7.out b8 b8.size)
      have H8 := Lib.hid h8
      clear b8 h8
      go_wp2_with fail
      refine (at6_c _ _ w8).mono ?_
      rintro e9 w9 ⟨a9, rfl, h9, b9⟩
      obtain ⟨W10, hW10⟩ : ∃ W, w9.alloc (.cells #[.int .i64 2, .string ⟨#[113]⟩, .slice (some ⟨a9, 0, none⟩) 1 1, .int .i64 0, .string ⟨#[]⟩, .int .i64 0, .slice none 0 0, .int .i64 0, .string ⟨#[]⟩, .int .i64 0, .slice none 0 0] 45) = W := ⟨_, rfl⟩
      have b10 : Below w9.heap.size w9 W10 := by rw [← hW10]; exact (Below.refl _ _).alloc (Nat.le_refl _) _
      have r10 : W10.heap[w9.heap.size]? = some (.cells (lit2 2 a9).toArray 45 (0, 0)) := by rw [← hW10]; exact World.alloc_heap_new w9 _
      have B9 := Lib.hid (B8.out.trans (b9.mono B8.out.size))
      have B10 := Lib.hid (B9.out.trans (b10.mono B9.out.size))
      have HS10 := Lib.hid (SlOf.int (SlOf.int HS8.out b9 b9.size) b10 b10.size)
      have HO2 := Lib.hid (order_c r2R _ t a u W10 (r2_c ((H8.out.below b9).below b10) r10 (h9.below b10)) (few_small r2_len.1 r2_len.2) (fewP_small r2_len.1) (HE.out.below B10.out))
      have HW10 := Lib.hid hW10
      clear b9 h9 b10 r10 hW10
      go_wp2_with fail
      rw [HW10.out]
      refine HO2.out.mono ?_
      intro e11 w11 hT2
      cases hT2 with
      | good h0 _ _ => rw [r2_ord] at h0; cases h0
      | bad _ b11 =>
        rw [r2_ord]
        have h11 := SlOf.int HS10.out b11 b11.size
        have b12 : Below w11.heap.size w11 (w11.alloc (.cells #[.int .i64 1, .int .i64 0, .int .i64 2] 3)) := (Below.refl _ _).alloc (Nat.le_refl _) _
        have h12 : SlOf (w11.alloc (.cells #[.int .i64 1, .int .i64 0, .int .i64 2] 3)) (w11.alloc (.cells #[.int .i64 1, .int .i64 0, .int .i64 2] 3)).heap.size 1 IntC [1, 0, 2] (.slice (some ⟨w11.heap.size, 0, none⟩) 3 3) := by
          refine sl_cells (l := [(1 : Int), 0, 2]) [[.int .i64 1], [.int .i64 0], [.int .i64 2]] (World.alloc_heap_new w11 _) rfl (by simp) ?_ (by simp [maxLen])
          intro i x cs hx hc
          match i, hx, hc with
          | 0, hx, hc => simp at hx hc; subst hx hc; exact ⟨rfl, by unfold I64; omega⟩
          | 1, hx, hc => simp at hx hc; subst hx hc; exact ⟨rfl, by unfold I64; omega⟩
          | 2, hx, hc => simp at hx hc; subst hx hc; exact ⟨rfl, by unfold I64; omega⟩
          | i + 3, hx, _ => simp at hx
        have HSm := Lib.hid (sameInts_c [1, 0, 2] [1, 0, 2] _ _ _ (SlOf.int h11 b12 b12.size) h12)
        have B11 := Lib.hid (B10.out.trans (b11.mono B10.out.size))
        have B12 := Lib.hid (B11.out.trans (b12.mono B11.out.size))
        clear b11 b12 h11 h12
        go_wp2_with fail
        refine HSm.out.mono ?_
        rintro e13 w13 ⟨rfl, b13⟩
        have B13 := Lib.hid (B12.out.trans (b13.mono B12.out.size))
        clear b13
        go_wp2
        go_ret
        exact ⟨rfl, B13.out⟩
end Go.Proofs.YtfcfehflocglpaaDoor
