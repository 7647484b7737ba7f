/- What every law of package dtype shares: what the listed variables give, a start that meets the rows' condition, and: a call that answers true and turns nothing that lay keeps the law. soriteslaw06.v, at, small; what is few of a small rule. soriteslaw06.shown answers true. soriteslaw06.DsafeFacts: the walk. -/
import Derived.Test.YtkemdankcjpeeaaDoorTie
import Derived.Test.YtkemdankcjpeeaaDoorCards
import Derived.Test.YtkemdankcjpeeaaDoorKZwk
import Derived.Test.YtkemdankcjpeeaaDoorKSpr
import Derived.ProofKit
import Derived.OpenShut
import Derived.Deep.DeepHandedRow
import Derived.Deep.DeepWitnessRowRef
import Derived.LaidMore
import Derived.LaidHandle
import Derived.Stop.LaidErr
import Derived.Stop.LaidTwo
import Derived.Test.YtkemdankcjpeeaaDoorKZdl
import Derived.Test.YtkemdankcjpeeaaDoorKYtp
import Derived.Test.YtkemdankcjpeeaaDoorKYsh
import Derived.Test.YtkemdankcjpeeaaDoorKZn
namespace Go.Proofs.YtkemdankcjpeeaaDoor
open Go.ChangeShapes Go.WideShapes Go.ChangeAt Go.RowKit

/-- The list without its second entry. -/
theorem laid_skip {P : Program} {x y : String × DataW Unit} {r : List (String × DataW Unit)} {w : World} (h : laidMet P (x :: y :: r) w) : laidMet P (x :: r) w := by
  obtain ⟨ps, hv, hnd, hrows⟩ := h
  obtain ⟨n, d⟩ := x
  obtain ⟨m, e⟩ := y
  obtain ⟨g, t, cs, fuel, p, q, h1, h2, h3, h4, hq, rfl⟩ := hv
  obtain ⟨g', t', cs', fuel', p', q', _, _, _, _, hq', rfl⟩ := hq
  have hs : List.Sublist (MemPlace.row ⟨g, 0, none⟩ cs.size ++ p ++ q') (MemPlace.row ⟨g, 0, none⟩ cs.size ++ p ++ (MemPlace.row ⟨g', 0, none⟩ cs'.size ++ p' ++ q')) := (List.sublist_append_right _ _).append_left _
  exact ⟨_, ⟨g, t, cs, fuel, p, q', h1, h2, h3, h4, hq', rfl⟩, hnd.sublist hs, fun b off hm => hrows b off (hs.subset hm)⟩
theorem own : ownKnob Tryd.prog.godebug = none := by kernel_rfl
theorem laidOut : laidOutB Tryd.prog = true := by kernel_rfl
theorem cellsE : Tryd.prog.cellsOf 218 = 1 := by kernel_rfl
theorem cellsS : Tryd.prog.cellsOf 9 = 1 := by kernel_rfl
theorem star : "*" ++ "errors.errorString" = "*errors.errorString" := by decide
theorem rowE (u : TypeId) (h : Tryd.prog.typeName? 3 u = some "*errors.errorString") : u = 193 :=
  typeName_ptr_named (nm := "errors.errorString") (by rw [star]; kernel_rfl) (by kernel_rfl) (by decide) u (by rw [star]; exact h)

theorem gTree : Tryd.prog.globalNamed "sorites/dtree.errTree" = some 0 := by kernel_rfl
theorem gTreeType : (Tryd.prog.globals[0]?).map (·.type) = some 80 := by kernel_rfl
theorem gZt : Tryd.prog.globalNamed "sorites/dsafe.errTree" = some 5 := by kernel_rfl
theorem gZtT : (Tryd.prog.globals[5]?).map (·.type) = some 80 := by kernel_rfl
theorem gZu : Tryd.prog.globalNamed "sorites/dsafe.errUnsafe" = some 6 := by kernel_rfl
theorem gZuT : (Tryd.prog.globals[6]?).map (·.type) = some 80 := by kernel_rfl
abbrev laidAll : List (String × DataW Unit) := [("sorites/dtree.errTree", Rows.laid_sorites_dtree_errTree), ("sorites/dsafe.errTree", Rows.laid_sorites_dsafe_errTree), ("sorites/dsafe.errUnsafe", Rows.laid_sorites_dsafe_errUnsafe)]
theorem var_lt {W : World} {n : String} {g : Nat} {cs : Array Value} (h : W.var? Tryd.prog n = some cs) (hg : Tryd.prog.globalNamed n = some g) : g < W.heap.size := by
  unfold World.var? at h
  simp only [hg, Option.bind_some] at h
  rcases Nat.lt_or_ge g W.heap.size with h' | h'
  · exact h'
  · simp [Array.getElem?_eq_none h'] at h
theorem same_ptr {W : World} {n : String} {a b : Addr} (h : W.var? Tryd.prog n = some #[.iface 193 (.pointer (some a))]) (k : W.var? Tryd.prog n = some #[.iface 193 (.pointer (some b))]) : a = b := by
  rw [h] at k
  simpa using k

theorem env_of_laid {W : World} (h : laidMetH Tryd.prog laidAll W) : ∃ t a u, EnvZ t a u W := by
  rw [MakeChecks.laidMetH_plain _ _ _ (by kernel_rfl)] at h
  have two := fun {n0 n1 : String} {text0 text1 : List UInt8} {r : List (String × DataW Unit)} {g0 g1 : Nat} (h : laidMet Tryd.prog ((n0, .iface "*errors.errorString" (.ptr (.agg [.lit (.string text0)]))) :: (n1, .iface "*errors.errorString" (.ptr (.agg [.lit (.string text1)]))) :: r) W) (hg0 : Tryd.prog.globalNamed n0 = some g0) (ht0 : (Tryd.prog.globals[g0]?).map (·.type) = some 80) (hg1 : Tryd.prog.globalNamed n1 = some g1) (ht1 : (Tryd.prog.globals[g1]?).map (·.type) = some 80) =>
    laid_sentinels2 h hg0 ht0 hg1 ht1 Tryd.underlying80 rowE Tryd.underlying193 Tryd.underlying218 rfl rfl Tryd.underlying9 cellsE cellsS
  obtain ⟨t, st, hvt, _⟩ := laid_sentinel h gTree gTreeType Tryd.underlying80 rowE Tryd.underlying193 Tryd.underlying218 rfl rfl Tryd.underlying9 cellsE cellsS
  obtain ⟨a, u, _, _, ca, cu, ta, tu, hva, hvu, _, _, _, _, _, _, hau, ra, ru⟩ := two h.tail gZt gZtT gZu gZuT
  exact ⟨t, a, u, ⟨by simpa using World.var?_cell gTree hvt 0, var_lt hvt gTree⟩, ⟨by simpa [errV] using World.var?_cell gZt hva 0, by simpa [errV] using World.var?_cell gZu hvu 0, hau, ⟨ca, ta, ra⟩, ⟨cu, tu, ru⟩, var_lt hva gZt, var_lt hvu gZu, heap_lt ra, heap_lt ru⟩⟩
theorem int64_bounds {n : Int} (h : (Lit.int .i64 n).wf = true) : -9223372036854775808 ≤ n ∧ n ≤ 9223372036854775807 := by
  simp only [Lit.wf, Bool.and_eq_true, decide_eq_true_eq] at h
  exact h
/-- The door's own heap meets the condition. -/
theorem door_met (os : Os) (args : Array Value) : laidMetH Tryd.prog laidAll ((World.doorLaid Tryd.prog 142 os).forCall (fun _ _ => 0) ⟨#[], args, []⟩).memory := by
  rw [MakeChecks.laidMetH_plain _ _ _ (by kernel_rfl)]
  exact laidMet_of_run' 8 (by kernel_rfl) (by kernel_rfl)
theorem below_trodAll {H : Type} {enc : TypeId × Value → H} {W W' : World} (hb : Below W.heap.size W W') :
    ∀ {ts : List TypeId} {vs : List Value} {ds : List (DataW H)} {ps : List MemPlace}, (∀ t ∈ ts, Tryd.prog.readableRec t = true ∧ t < Tryd.prog.types.size) →
      DataW.TrodAll enc Tryd.prog W 0 (fun _ => true) true ts vs ds ps → (∀ x ∈ ps, x.block < W.heap.size) → DataW.TrodAll enc Tryd.prog W' 0 (fun b => decide (b < W.heap.size)) true ts vs ds ps
  | [], _, _, _, _, h, _ => by
    obtain ⟨rfl, rfl, rfl⟩ := trodAll_nil h
    exact trodAll_mk0
  | t :: ts, _, _, _, hr, h, hlt => by
    obtain ⟨v, vs', d, ds', p, q, rfl, rfl, rfl, h1, h2⟩ := trodAll_cons h
    exact trodAll_cons_mk (Below.trod laidOut (hr t (by simp)).1 (hr t (by simp)).2 h1 hb (fun x hx => hlt x (by simp [hx])))
      (below_trodAll hb (fun t' ht' => hr t' (by simp [ht'])) h2 (fun x hx => hlt x (by simp [hx])))

/-- A CALL THAT ANSWERS true AND TURNS NOTHING THAT LAY KEEPS THE LAW. -/
theorem law_post {H : Type} {enc : TypeId × Value → H} {f : Func} {s : ChangeSpec} {W W' : World} {args : Array Value} {ds gs : List (DataW H)} {before : List MemPlace}
    (hW : DataW.Whole enc Tryd.prog f.params.toList s.vars false W args.toList ds gs before) (hv : s.vars = []) (hrt : f.resultTypes = #[4])
    (hfn : s.fn H ds = { results := [.lit (.bool true)], args := ds }) (hr : ∀ t ∈ f.params.toList, Tryd.prog.readableRec t = true ∧ t < Tryd.prog.types.size) (hb : Below W.heap.size W W') :
    s.post enc Tryd.prog f false true false false W args (.bool true) W' := by
  have hlt : ∀ x ∈ before, x.block < W.heap.size := fun x hx => by simpa using hW.lt x hx
  have hW0 := hW
  obtain ⟨p, q, hA, hV, rfl, _, _⟩ := hW0
  rw [hv] at hV
  obtain ⟨rfl, rfl⟩ := trodVars_none hV
  have e1 : s.fn H (ds ++ []) = { results := [.lit (.bool true)], args := ds } := by rw [List.append_nil]; exact hfn
  refine ⟨ds, [], p ++ [], [], p, [], hW, ?_, ?_, ?_, World.keptBut_mono (fun _ h => h.elim) (hb.frame (fun _ => False)), fun h => by cases h⟩
  · rw [e1, hrt]
    exact trodAll_mk1 (shut_bool Tryd.underlying4 true)
  · rw [e1]
    exact below_trodAll hb hr hA (fun x hx => hlt x (by simp [hx]))
  · rw [e1, hv]
    rfl
set_option maxRecDepth 100000 in
theorem open_int64s {H : Type} {enc : TypeId × Value → H} {w : World} {b0 : Nat} {v : Value} {d : DataW H} {p : List MemPlace}
    (hv : Value.okWide Tryd.prog w .any b0 64 v) (h : DataW.Trod enc Tryd.prog w 0 (fun _ => true) true 64 v d p) : ∃ l, SlOf w w.heap.size 1 IntC l v := by
  obtain ⟨o, len, cap, rfl⟩ := okWide_slice Tryd.underlying64 hv
  obtain ⟨fuel, hf⟩ := h
  exact open_sl (R := IntC) Tryd.underlying64 cInt64 (by omega) (fun m cs y hm hy => by obtain ⟨s, e, _, z⟩ := DataW.trod_int Tryd.underlying2 hy; exact ⟨s, e, wf_i64 z⟩) hf
end Go.Proofs.YtkemdankcjpeeaaDoor
namespace Go.Proofs.YtkemdankcjpeeaaDoor
open Go.RowKit

theorem wt_sum : ∀ (b : List Lt) (F : Nat → Lt → Pt), (∀ i l, wtP (F i l) ≤ (litTs l).length) → wtZ (b.mapIdx F) ≤ (b.flatMap litTs).length
  | [], _, _ => by simp [wtZ]
  | l :: b, F, h => by
    have ih := wt_sum b (fun i => F (i + 1)) (fun i l => h (i + 1) l)
    have h0 := h 0 l
    rw [List.mapIdx_cons, List.flatMap_cons, List.length_append]
    unfold wtZ at *
    rw [List.map_cons, List.sum_cons]
    omega
theorem wt_lit (r : Ru) (k : Nat) (l : Lt) : wtP (ptZ r k l) ≤ (litTs l).length := by
  have h1 := vz_len2 [l.x]
  have h2 := vz_len2 [l.y]
  have h3 := vz_len2 l.a.l
  unfold wtP ptZ litTs
  rw [List.length_append, subTs_cons l.x [l.y], List.length_append]
  rw [subTs_cons l.x [], List.length_append, subTs] at h1
  simp only [List.length_nil, Nat.add_zero] at h1
  simp only
  omega
theorem fewP_small {r : Ru} (hn : (termsR r).length ≤ 2000) : FewP' (partsZ r) := by
  have hb := body_len r
  refine ⟨by unfold partsZ; rw [List.length_mapIdx]; omega, ?_⟩
  have h1 := wt_sum r.body (ptZ r) (fun i l => wt_lit r i l)
  unfold termsR at hn
  rw [List.length_append] at hn
  unfold partsZ
  omega
set_option maxRecDepth 100000 in
theorem v6_c (s : ByteArray) (w : World) : Calls Tryd.prog 29 #[.string s] w fun e w' => e = .returned (.agg #[.int .i64 1, .string s, .int .i64 0, .slice none 0 0]) ∧ Below w.heap.size w w' := by
  have hr := World.alloc_heap_new w (.cells #[.int .i64 1, .string s, .int .i64 0, .slice none 0 0] 43)
  have h0 := row_cells hr 0
  have h1 := row_cells hr 1
  have h2 := row_cells hr 2
  have h3 := row_cells hr 3
  simp at h0 h1 h2 h3
  clear hr
  have hb : Below w.heap.size w (w.alloc (.cells #[.int .i64 1, .string s, .int .i64 0, .slice none 0 0] 43)) := (Below.refl _ _).alloc (Nat.le_refl _) _
  go_enter Tryd.func29, Tryd.ntmps29
  go_wp2
  refine bodyPost_ret (v := .agg #[.int .i64 1, .string s, .int .i64 0, .slice none 0 0]) (by simp [results, Tryd.results29, go_sem, h0, h1, h2, h3]) rfl ?_
  exact ⟨rfl, hb⟩
/-- The atom of a variable, whose argument lies in a block of its own. -/
def OneAt (w : World) (b : Nat) (s : ByteArray) : Prop := w.heap[b]? = some (.cells #[.int .i64 1, .string s, .int .i64 0, .slice none 0 0] 43 (0, 0))
theorem OneAt.below {w w' : World} {b : Nat} {s : ByteArray} (h : OneAt w b s) (hb : Below w.heap.size w w') : OneAt w' b s := (hb.block b (heap_lt h)).trans h
set_option maxRecDepth 100000 in
theorem at6_c (q s : ByteArray) (w : World) : Calls Tryd.prog 52 #[.string q, .string s] w fun e w' => ∃ b, e = .returned (.agg #[.string q, .slice (some ⟨b, 0, none⟩) 1 1]) ∧ OneAt w' b s ∧ Below w.heap.size w w' := by
  obtain ⟨W1, hW1⟩ : ∃ W, w.alloc (.cells #[.string ⟨#[]⟩, .slice none 0 0] 24) = W := ⟨_, rfl⟩
  have b1 : Below w.heap.size w W1 := by rw [← hW1]; exact (Below.refl _ _).alloc (Nat.le_refl _) _
  have r1 : W1.heap[w.heap.size]? = some (.cells #[.string ⟨#[]⟩, .slice none 0 0] 24 (0, 0)) := by rw [← hW1]; exact World.alloc_heap_new w _
  have B1 := Lib.hid b1
  have R1 := Lib.hid r1
  clear b1 r1
  go_enter Tryd.func52, Tryd.ntmps52
  go_wp2_with fail
  try rw [hW1]
  refine (v6_c s _).mono ?_
  rintro e2 w2 ⟨rfl, b2⟩
  have hr2 := (b2.block _ (heap_lt R1.out)).trans R1.out
  have B2 := Lib.hid (B1.out.trans (b2.mono B1.out.size))
  obtain ⟨b, hb⟩ : ∃ b, w2.heap.size = b := ⟨_, rfl⟩
  obtain ⟨W3, hW3⟩ : ∃ W, w2.alloc (.cells #[.int .i64 1, .string s, .int .i64 0, .slice none 0 0] 43) = W := ⟨_, rfl⟩
  have b3 : Below w2.heap.size w2 W3 := by rw [← hW3]; exact (Below.refl _ _).alloc (Nat.le_refl _) _
  have r3 : OneAt W3 b s := by unfold OneAt; rw [← hW3, ← hb]; exact World.alloc_heap_new w2 _
  have hr3 := (b3.block _ (heap_lt hr2)).trans hr2
  have n3 : b ≠ w.heap.size := fun e => by have := heap_lt hr2; omega
  have y0 := row_cells hr3 0
  have y1 := row_cells hr3 1
  have f0 := frz_row hr3 0
  have f1 := frz_row hr3 1
  have l3 := heap_lt hr3
  have B3 := Lib.hid (B2.out.trans (b3.mono B2.out.size))
  have R3 := Lib.hid r3
  have HR3 := Lib.hid hr3
  have e4 := rowSet (rowSet hr3 0 (.string q)) 1 (.slice (some ⟨b, 0, none⟩) 1 1)
  have z0 := row_cells e4 0
  have z1 := row_cells e4 1
  simp at y0 y1 z0 z1
  have Z0 := Lib.hid z0
  have Z1 := Lib.hid z1
  clear b2 hr2 b3 r3 hr3 e4 z0 z1
  go_wp2
  have g0 := Z0.out
  have g1 := Z1.out
  refine bodyPost_ret (v := .agg #[.string q, .slice (some ⟨b, 0, none⟩) 1 1]) (by simp [results, Tryd.results52, go_sem, g0, g1]) rfl ?_
  refine ⟨b, rfl, ?_, (B3.out.setCell (p := ⟨w.heap.size, 0, none⟩) (Nat.le_refl _) _).setCell (p := ⟨w.heap.size, 1, none⟩) (Nat.le_refl _) _⟩
  exact (set_oth n3).trans ((set_oth n3).trans R3.out)
set_option maxRecDepth 100000 in
set_option maxHeartbeats 2000000 in
theorem small6_c (r : Ru) (cs : List Value) (w : World) (hc : RuC w w.heap.size r cs) :
    Calls Tryd.prog 25 #[.agg cs.toArray] w fun e w' => e = .returned (.bool (smallP ⟨[], [r]⟩)) ∧ Below w.heap.size w w' := by
  obtain ⟨o0, k0, o1, k1, rfl, _⟩ := hc.look
  obtain ⟨C, hC⟩ : ∃ C : Obj, .cells #[.string r.head.rel, .slice o0 r.head.l.length k0, .slice o1 r.body.length k1, .int .i64 r.line] 27 = C := ⟨_, rfl⟩
  have b1 : Below w.heap.size w (w.alloc C) := (Below.refl _ _).alloc (Nat.le_refl _) _
  have b2 : Below w.heap.size w ((w.alloc C).alloc C) := b1.alloc (by simp) _
  have HSL : SlOf ((w.alloc C).alloc C) ((w.alloc C).alloc C).heap.size 4 (RuC ((w.alloc C).alloc C) ((w.alloc C).alloc C).heap.size) [r] (.slice (some ⟨w.heap.size + 1, 0, none⟩) 1 1) := by
    have := rule_slice (w.alloc C) r ((hc.below b1).more b1.size)
    rw [hC] at this
    simpa using this
  have HR := Lib.hid (small_c ⟨[], [r]⟩ _ [.slice none 0 0, .slice (some ⟨w.heap.size + 1, 0, none⟩) 1 1] ⟨_, _, rfl, .inl ⟨rfl, rfl⟩, HSL⟩)
  have B2 := Lib.hid b2
  subst hC
  clear hc b1 b2 HSL
  go_enter Tryd.func25, Tryd.ntmps25
  go_wp2_with fail
  refine HR.out.mono ?_
  rintro e3 w3 ⟨rfl, b3⟩
  have B3 := Lib.hid (B2.out.trans (b3.mono B2.out.size))
  unfold smallI
  obtain ⟨q, hq⟩ : ∃ q, smallP ⟨[], [r]⟩ = q := ⟨_, rfl⟩
  rw [hq]
  have Hq := Lib.hid hq
  clear hq
  cases q with
  | true =>
    go_wp2
    go_ret
    exact ⟨by first | rfl | (rw [Hq.out]; rfl), B3.out⟩
  | false =>
    go_wp2
    go_ret
    exact ⟨by first | rfl | (rw [Hq.out]; rfl), B3.out⟩
end Go.Proofs.YtkemdankcjpeeaaDoor
namespace Go.Proofs.YtkemdankcjpeeaaDoor
open Go.RowKit

def qS : ByteArray := ⟨#[113]⟩
def eS : ByteArray := ⟨#[]⟩
def oneT : Tm := .mk 2 ⟨#[]⟩ 1 []
def thrT : Tm := .mk 2 ⟨#[]⟩ 3 []
def sumT : Tm := .mk 5 ⟨#[]⟩ 0 [vT xS, oneT]
def r1R : Ru := ⟨⟨pS, [vT xS]⟩, [⟨3, ⟨⟨#[]⟩, []⟩, vT yS, sumT⟩, ⟨1, ⟨qS, [vT xS]⟩, zT, zT⟩, ⟨5, ⟨⟨#[]⟩, []⟩, vT yS, thrT⟩], 0⟩
def r2R : Ru := ⟨⟨pS, [vT xS]⟩, [⟨2, ⟨qS, [vT xS]⟩, zT, zT⟩], 0⟩
theorem r1_ord : ordE r1R = 0 := by decide +kernel
theorem r1_order : orderZ r1R = [1, 0, 2] := by decide +kernel
theorem r2_ord : ordE r2R = 60 := by decide +kernel
theorem r1_len : (termsR r1R).length ≤ 2000 ∧ ∀ t ∈ termsR r1R, t.s.size ≤ 1000 := by decide +kernel
theorem r2_len : (termsR r2R).length ≤ 2000 ∧ ∀ t ∈ termsR r2R, t.s.size ≤ 1000 := by decide +kernel
def SumAt (w : World) (b : Nat) : Prop := w.heap[b]? = some (.cells #[.int .i64 1, .string xS, .int .i64 0, .slice none 0 0, .int .i64 2, .string ⟨#[]⟩, .int .i64 1, .slice none 0 0] 43 (0, 0))
def sumCells (b : Nat) : List Value := [.int .i64 5, .string ⟨#[]⟩, .int .i64 0, .slice (some ⟨b, 0, none⟩) 2 2]
def lit1 (b : Nat) : List Value := [.int .i64 3, .string ⟨#[]⟩, .slice none 0 0, .int .i64 1, .string yS, .int .i64 0, .slice none 0 0, .int .i64 5, .string ⟨#[]⟩, .int .i64 0, .slice (some ⟨b, 0, none⟩) 2 2]
def lit2 (op : Int) (a : Nat) : List Value := [.int .i64 op, .string qS, .slice (some ⟨a, 0, none⟩) 1 1, .int .i64 0, .string ⟨#[]⟩, .int .i64 0, .slice none 0 0, .int .i64 0, .string ⟨#[]⟩, .int .i64 0, .slice none 0 0]
def lit3 : List Value := [.int .i64 5, .string ⟨#[]⟩, .slice none 0 0, .int .i64 1, .string yS, .int .i64 0, .slice none 0 0, .int .i64 2, .string ⟨#[]⟩, .int .i64 3, .slice none 0 0]
theorem int_c (w : World) (n : Int) (hn : I64 n) : TmC w w.heap.size (.mk 2 ⟨#[]⟩ n []) [.int .i64 2, .string ⟨#[]⟩, .int .i64 n, .slice none 0 0] := .nil 2 ⟨#[]⟩ n (by unfold I64; omega) (by decide) hn
theorem one_am {w : World} {b : Nat} {q s : ByteArray} (h : OneAt w b s) (hs : s.size ≤ maxLen) (hq : q.size ≤ maxLen) : AmC w w.heap.size ⟨q, [vT s]⟩ [.string q, .slice (some ⟨b, 0, none⟩) 1 1] := ⟨_, rfl, hq, tm_row1 h (vT_c w s hs)⟩
theorem none_am (w : World) : AmC w w.heap.size ⟨⟨#[]⟩, []⟩ [.string ⟨#[]⟩, .slice none 0 0] := ⟨_, rfl, by decide, .inl ⟨rfl, rfl⟩⟩
theorem sum_c {w : World} {b : Nat} (h : SumAt w b) : TmC w w.heap.size sumT (sumCells b) := by
  refine TmC.of (by unfold I64; omega) (by decide) (by unfold I64; omega) ?_
  refine sl_cells (l := [vT xS, oneT]) [[.int .i64 1, .string xS, .int .i64 0, .slice none 0 0], [.int .i64 2, .string ⟨#[]⟩, .int .i64 1, .slice none 0 0]] h rfl (by simp) ?_ (by simp [maxLen])
  intro i x cs hx hc
  match i, hx, hc with
  | 0, hx, hc => simp at hx hc; subst hx hc; exact vT_c w xS (by decide)
  | 1, hx, hc => simp at hx hc; subst hx hc; exact int_c w 1 (by unfold I64; omega)
  | i + 2, hx, _ => simp at hx
theorem r1_c {w : World} {bh B a b : Nat} (h1 : OneAt w bh xS) (h2 : w.heap[B]? = some (.cells (lit1 b ++ lit2 1 a ++ lit3).toArray 45 (0, 0))) (h3 : OneAt w a xS) (h4 : SumAt w b) :
    RuC w w.heap.size r1R [.string pS, .slice (some ⟨bh, 0, none⟩) 1 1, .slice (some ⟨B, 0, none⟩) 3 3, .int .i64 0] := by
  refine ⟨_, _, rfl, by unfold I64; decide, one_am h1 (by decide) (by decide), ?_⟩
  refine sl_cells (l := r1R.body) [lit1 b, lit2 1 a, lit3] (by simpa using h2) rfl (by simp [lit1, lit2, lit3]) ?_ (by simp [maxLen, r1R])
  intro i x cs hx hc
  match i, hx, hc with
  | 0, hx, hc =>
    simp only [r1R, List.getElem?_cons_zero, Option.some.injEq] at hx hc
    subst hx hc
    exact ⟨_, _, _, rfl, by unfold I64; decide, none_am w, vT_c w yS (by decide), sum_c h4⟩
  | 1, hx, hc =>
    simp only [r1R, List.getElem?_cons_succ, List.getElem?_cons_zero, Option.some.injEq] at hx hc
    subst hx hc
    exact ⟨_, _, _, rfl, by unfold I64; decide, one_am h3 (by decide) (by decide), zT_c w, zT_c w⟩
  | 2, hx, hc =>
    simp only [r1R, List.getElem?_cons_succ, List.getElem?_cons_zero, Option.some.injEq] at hx hc
    subst hx hc
    exact ⟨_, _, _, rfl, by unfold I64; decide, none_am w, vT_c w yS (by decide), int_c w 3 (by unfold I64; omega)⟩
  | i + 3, hx, _ => simp [r1R] at hx
theorem r2_c {w : World} {bh B a : Nat} (h1 : OneAt w bh xS) (h2 : w.heap[B]? = some (.cells (lit2 2 a).toArray 45 (0, 0))) (h3 : OneAt w a xS) :
    RuC w w.heap.size r2R [.string pS, .slice (some ⟨bh, 0, none⟩) 1 1, .slice (some ⟨B, 0, none⟩) 1 1, .int .i64 0] := by
  refine ⟨_, _, rfl, by unfold I64; decide, one_am h1 (by decide) (by decide), ?_⟩
  refine sl_cells (l := r2R.body) [lit2 2 a] (by simpa using h2) rfl (by simp [lit2]) ?_ (by simp [maxLen, r2R])
  intro i x cs hx hc
  match i, hx, hc with
  | 0, hx, hc =>
    simp only [r2R, List.getElem?_cons_zero, Option.some.injEq] at hx hc
    subst hx hc
    exact ⟨_, _, _, rfl, by unfold I64; decide, one_am h3 (by decide) (by decide), zT_c w, zT_c w⟩
  | i + 1, hx, _ => simp [r2R] at hx
def slots6 : List (Option Tmp) := [some 11, some 12, some 13, some 14, some 15, some 16, some 17, some 18, some 19, some 2]
def facts6 (b : Nat) : List (Value → World → Prop) :=
  [fun v _ => v = .agg (vCells yS).toArray, fun v _ => v = .agg (sumCells b).toArray, fun v _ => v = .agg (lit1 b).toArray,
   fun v w => ∃ a, v = .agg #[.string qS, .slice (some ⟨a, 0, none⟩) 1 1] ∧ OneAt w a xS, fun v w => ∃ a, v = .agg (lit2 1 a).toArray ∧ OneAt w a xS,
   fun v _ => v = .agg (vCells yS).toArray, fun v _ => v = .agg #[.int .i64 2, .string ⟨#[]⟩, .int .i64 3, .slice none 0 0], fun v _ => v = .agg lit3.toArray,
   fun v w => ∃ B a, v = .slice (some ⟨B, 0, none⟩) 3 3 ∧ w.heap[B]? = some (.cells (lit1 b ++ lit2 1 a ++ lit3).toArray 45 (0, 0)) ∧ OneAt w a xS,
   fun v w => ∃ B a, v = .slice (some ⟨B, 0, none⟩) 3 3 ∧ w.heap[B]? = some (.cells (lit1 b ++ lit2 1 a ++ lit3).toArray 45 (0, 0)) ∧ OneAt w a xS]
theorem facts6_mono (b : Nat) : ∀ p ∈ facts6 b, ∀ v w w', p v w → Below w.heap.size w w' → p v w' := by
  intro p hp v w w' h hb
  unfold facts6 at hp
  simp only [List.mem_cons, List.not_mem_nil, or_false] at hp
  rcases hp with rfl | rfl | rfl | rfl | rfl | rfl | rfl | rfl | rfl | rfl
  · exact h
  · exact h
  · exact h
  · obtain ⟨a, h1, h2⟩ := h; exact ⟨a, h1, h2.below hb⟩
  · obtain ⟨a, h1, h2⟩ := h; exact ⟨a, h1, h2.below hb⟩
  · exact h
  · exact h
  · exact h
  · obtain ⟨B, a, h1, h2, h3⟩ := h; exact ⟨B, a, h1, (hb.block B (heap_lt h2)).trans h2, h3.below hb⟩
  · obtain ⟨B, a, h1, h2, h3⟩ := h; exact ⟨B, a, h1, (hb.block B (heap_lt h2)).trans h2, h3.below hb⟩
set_option maxRecDepth 100000 in
set_option maxHeartbeats 8000000 in
theorem shown6_c (t a u : Addr) (w : World) (E : EnvZ t a u w) : Calls Tryd.prog 24 #[] w fun e w' => e = .returned (.bool true) ∧ Below w.heap.size w w' := by
  have HE := Lib.hid E
  clear E
  go_enter Tryd.func24, Tryd.ntmps24
  go_wp2_with fail
  refine (v6_c _ _).mono ?_
  rintro e1 w1 ⟨rfl, b1⟩
  have B1 := Lib.hid b1
  clear b1
  go_wp2_with fail
  obtain ⟨b, hb⟩ : ∃ b, w1.heap.size = b := ⟨_, rfl⟩
  obtain ⟨W3, hW3⟩ : ∃ W3, (w1.alloc (.cells #[.int .i64 1, .string ⟨#[120]⟩, .int .i64 0, .slice none 0 0, .int .i64 2, .string ⟨#[]⟩, .int .i64 1, .slice none 0 0] 43)).alloc (.cells #[.int .i64 5, .string ⟨#[]⟩, .int .i64 0, .slice (some ⟨w1.heap.size, 0, none⟩) 2 2] 43) = W3 := ⟨_, rfl⟩
  have r3 : SumAt W3 b := by unfold SumAt; rw [← hW3, ← hb]; exact (Below.heap_alloc _ _ _ (by simp)).trans (World.alloc_heap_new w1 _)
  have q3 : W3.heap[b + 1]? = some (.cells (sumCells b).toArray 43 (0, 0)) := by
    have h1 := World.alloc_heap_new (w1.alloc (.cells #[.int .i64 1, .string ⟨#[120]⟩, .int .i64 0, .slice none 0 0, .int .i64 2, .string ⟨#[]⟩, .int .i64 1, .slice none 0 0] 43)) (.cells #[.int .i64 5, .string ⟨#[]⟩, .int .i64 0, .slice (some ⟨w1.heap.size, 0, none⟩) 2 2] 43)
    rw [World.size_alloc, hW3, hb] at h1
    exact h1
  have b3 : Below w.heap.size w W3 := by
    rw [← hW3]
    exact (B1.out.alloc B1.out.size _).alloc (by have := B1.out.size; simp; omega) _
  try rw [hW3]
  try rw [hb]
  have R3 := Lib.hid r3
  have Q3 := Lib.hid q3
  have B3 := Lib.hid b3
  clear r3 q3 b3 hW3 hb
  refine wp_region_any (by kernel_rfl) ?_
  (try (change wpAny _ _ _ _ _ _ _ (World.drew _)))
  refine wpAny_grow slots6 _ _ (facts6 b) (by kernel_rfl) (by kernel_rfl) (by kernel_rfl) (by kernel_rfl) (by kernel_rfl) (facts6_mono b) ⟨?s0, ?s1, ?s2, ?s3, ?s4, ?s5, ?s6, ?s7, ?s8, ?s9, trivial⟩ ?fin
  case s0 =>
    intro A w' K hb hfar hd hK
    unfold Oper.wp
    go_simp
    refine (v6_c _ w').mono ?_
    rintro e3 w3 ⟨rfl, b3⟩
    exact hK _ _ b3 (factG_mk rfl rfl)
  case s1 =>
    intro A w' K hb hfar hd hK
    have e1 : A.tmps[1]?.getD undef = .pointer (some ⟨b + 1, 0, none⟩) := hfar 1 (by decide)
    obtain ⟨c0, c1, c2, c3⟩ := row4 (show w'.heap[b + 1]? = some (.cells #[.int .i64 5, .string ⟨#[]⟩, .int .i64 0, .slice (some ⟨b, 0, none⟩) 2 2] 43 (0, 0)) from (hb.block _ (heap_lt Q3.out)).trans Q3.out)
    unfold Oper.wp
    simp [execOp, e1, c0, c1, c2, c3, go_sem, Result.andThen]
    exact hK _ _ (Below.refl _ _) (factG_mk rfl rfl)
  case s2 =>
    intro A w' K hb hfar hd hK
    have e1 : A.tmps[11]?.getD undef = .agg (vCells yS).toArray := hd 0 11 rfl (by kernel_rfl) _ rfl
    have e2 : A.tmps[12]?.getD undef = .agg (sumCells b).toArray := hd 1 12 rfl (by kernel_rfl) _ rfl
    unfold vCells at e1
    unfold sumCells at e2
    unfold Oper.wp
    simp [execOp, e1, e2, go_sem, Result.andThen]
    exact hK _ _ (Below.refl _ _) (factG_mk rfl rfl)
  case s3 =>
    intro A w' K hb hfar hd hK
    unfold Oper.wp
    go_simp
    refine (at6_c _ _ w').mono ?_
    rintro e3 w3 ⟨a1, rfl, h3, b3⟩
    exact hK _ _ b3 (factG_mk rfl ⟨a1, rfl, h3⟩)
  case s4 =>
    intro A w' K hb hfar hd hK
    obtain ⟨a1, e1, h1⟩ : ∃ a, A.tmps[14]?.getD undef = .agg #[.string qS, .slice (some ⟨a, 0, none⟩) 1 1] ∧ OneAt w' a xS := hd 3 14 rfl (by kernel_rfl) _ rfl
    unfold Oper.wp
    simp [execOp, e1, go_sem, Result.andThen]
    exact hK _ _ (Below.refl _ _) (factG_mk rfl ⟨a1, rfl, h1⟩)
  case s5 =>
    intro A w' K hb hfar hd hK
    unfold Oper.wp
    go_simp
    refine (v6_c _ w').mono ?_
    rintro e3 w3 ⟨rfl, b3⟩
    exact hK _ _ b3 (factG_mk rfl rfl)
  case s6 =>
    intro A w' K hb hfar hd hK
    unfold Oper.wp
    simp [execOp, go_sem, Result.andThen]
    exact hK _ _ (Below.refl _ _) (factG_mk rfl rfl)
  case s7 =>
    intro A w' K hb hfar hd hK
    have e1 : A.tmps[16]?.getD undef = .agg (vCells yS).toArray := hd 5 16 rfl (by kernel_rfl) _ rfl
    have e2 : A.tmps[17]?.getD undef = .agg #[.int .i64 2, .string ⟨#[]⟩, .int .i64 3, .slice none 0 0] := hd 6 17 rfl (by kernel_rfl) _ rfl
    unfold vCells at e1
    unfold Oper.wp
    simp [execOp, e1, e2, go_sem, Result.andThen]
    exact hK _ _ (Below.refl _ _) (factG_mk rfl rfl)
  case s8 =>
    intro A w' K hb hfar hd hK
    have e1 : A.tmps[13]?.getD undef = .agg (lit1 b).toArray := hd 2 13 rfl (by kernel_rfl) _ rfl
    obtain ⟨a1, e2, h1⟩ : ∃ a, A.tmps[15]?.getD undef = .agg (lit2 1 a).toArray ∧ OneAt w' a xS := hd 4 15 rfl (by kernel_rfl) _ rfl
    have e3 : A.tmps[18]?.getD undef = .agg lit3.toArray := hd 7 18 rfl (by kernel_rfl) _ rfl
    unfold lit1 at e1
    unfold lit2 at e2
    unfold lit3 at e3
    unfold Oper.wp
    simp [execOp, e1, e2, e3, go_sem, Result.andThen]
    exact hK _ _ ((Below.refl _ _).alloc (Nat.le_refl _) _) (factG_mk rfl ⟨_, a1, rfl, World.alloc_heap_new w' _, h1.below ((Below.refl _ _).alloc (Nat.le_refl _) _)⟩)
  case s9 =>
    intro A w' K hb hfar hd hK
    obtain ⟨B, a1, e1, h1, h2⟩ : ∃ B a, A.tmps[19]?.getD undef = .slice (some ⟨B, 0, none⟩) 3 3 ∧ w'.heap[B]? = some (.cells (lit1 b ++ lit2 1 a ++ lit3).toArray 45 (0, 0)) ∧ OneAt w' a xS := hd 8 19 rfl (by kernel_rfl) _ rfl
    unfold Oper.wp
    simp [execOp, e1, go_sem, Result.andThen]
    exact hK _ _ (Below.refl _ _) (factG_mk rfl ⟨B, a1, rfl, h1, h2⟩)
  case fin =>
    intro val w5 hF hb5
    obtain ⟨B, a1, f9, h1, h2⟩ : ∃ B a, val 9 = .slice (some ⟨B, 0, none⟩) 3 3 ∧ w5.heap[B]? = some (.cells (lit1 b ++ lit2 1 a ++ lit3).toArray 45 (0, 0)) ∧ OneAt w5 a xS := hF 9 2 rfl _ rfl
    have r5 : SumAt w5 b := (hb5.block _ (heap_lt R3.out)).trans R3.out
    have B5 := Lib.hid (B3.out.trans ((drewB hb5).mono B3.out.size))
    simp only [slots6, putsA, Nat.zero_add, Nat.reduceAdd, f9]
    generalize val 0 = v0
    generalize val 1 = v1
    generalize val 2 = v2
    generalize val 3 = v3
    generalize val 4 = v4
    generalize val 5 = v5
    generalize val 6 = v6
    generalize val 7 = v7
    generalize val 8 = v8
    have H1 := Lib.hid h1
    have H2 := Lib.hid h2
    have R5 := Lib.hid r5
    clear hF hb5 f9 h1 h2 r5 val
    go_simp
    go_wp2_with fail
    refine (at6_c _ _ w5).mono ?_
    rintro e6 w6 ⟨bh, rfl, h6, b6⟩
    have B6 := Lib.hid (B5.out.trans (b6.mono B5.out.size))
    have HO := Lib.hid (order_c r1R _ t a u w6 (r1_c h6 ((b6.block _ (heap_lt H1.out)).trans H1.out) (H2.out.below b6) ((b6.block _ (heap_lt R5.out)).trans R5.out)) (few_small r1_len.1 r1_len.2) (fewP_small r1_len.1) (HE.out.below B6.out))
    clear b6 h6
    go_wp2_with fail
    refine HO.out.mono ?_
    intro e7 w7 hT
    cases hT with
    | bad h0 _ => exact absurd r1_ord h0
    | @good _ lv _ hs b7 =>
      rw [r1_order] at hs
      obtain ⟨ol, cl, rfl, _, _, _⟩ := SlOf.open hs
      have B7 := Lib.hid (B6.out.trans (b7.mono B6.out.size))
      have HS7 := Lib.hid hs
      clear hs b7
      go_wp2_with fail
      refine (at6_c _ _ w7).mono ?_
      rintro e8 w8 ⟨bh8, rfl, h8, b8⟩
      have B8 := Lib.hid (B7.out.trans (b8.mono B7.out.size))
      have HS8 := Lib.hid (SlOf.int HS7.out b8 b8.size)
      have H8 := Lib.hid h8
      clear b8 h8
      go_wp2_with fail
      refine (at6_c _ _ w8).mono ?_
      rintro e9 w9 ⟨a9, rfl, h9, b9⟩
      obtain ⟨W10, hW10⟩ : ∃ W, w9.alloc (.cells #[.int .i64 2, .string ⟨#[113]⟩, .slice (some ⟨a9, 0, none⟩) 1 1, .int .i64 0, .string ⟨#[]⟩, .int .i64 0, .slice none 0 0, .int .i64 0, .string ⟨#[]⟩, .int .i64 0, .slice none 0 0] 45) = W := ⟨_, rfl⟩
      have b10 : Below w9.heap.size w9 W10 := by rw [← hW10]; exact (Below.refl _ _).alloc (Nat.le_refl _) _
      have r10 : W10.heap[w9.heap.size]? = some (.cells (lit2 2 a9).toArray 45 (0, 0)) := by rw [← hW10]; exact World.alloc_heap_new w9 _
      have B9 := Lib.hid (B8.out.trans (b9.mono B8.out.size))
      have B10 := Lib.hid (B9.out.trans (b10.mono B9.out.size))
      have HS10 := Lib.hid (SlOf.int (SlOf.int HS8.out b9 b9.size) b10 b10.size)
      have HO2 := Lib.hid (order_c r2R _ t a u W10 (r2_c ((H8.out.below b9).below b10) r10 (h9.below b10)) (few_small r2_len.1 r2_len.2) (fewP_small r2_len.1) (HE.out.below B10.out))
      have HW10 := Lib.hid hW10
      clear b9 h9 b10 r10 hW10
      go_wp2_with fail
      rw [HW10.out]
      refine HO2.out.mono ?_
      intro e11 w11 hT2
      cases hT2 with
      | good h0 _ _ => rw [r2_ord] at h0; cases h0
      | bad _ b11 =>
        rw [r2_ord]
        have h11 := SlOf.int HS10.out b11 b11.size
        have b12 : Below w11.heap.size w11 (w11.alloc (.cells #[.int .i64 1, .int .i64 0, .int .i64 2] 3)) := (Below.refl _ _).alloc (Nat.le_refl _) _
        have h12 : SlOf (w11.alloc (.cells #[.int .i64 1, .int .i64 0, .int .i64 2] 3)) (w11.alloc (.cells #[.int .i64 1, .int .i64 0, .int .i64 2] 3)).heap.size 1 IntC [1, 0, 2] (.slice (some ⟨w11.heap.size, 0, none⟩) 3 3) := by
          refine sl_cells (l := [(1 : Int), 0, 2]) [[.int .i64 1], [.int .i64 0], [.int .i64 2]] (World.alloc_heap_new w11 _) rfl (by simp) ?_ (by simp [maxLen])
          intro i x cs hx hc
          match i, hx, hc with
          | 0, hx, hc => simp at hx hc; subst hx hc; exact ⟨rfl, by unfold I64; omega⟩
          | 1, hx, hc => simp at hx hc; subst hx hc; exact ⟨rfl, by unfold I64; omega⟩
          | 2, hx, hc => simp at hx hc; subst hx hc; exact ⟨rfl, by unfold I64; omega⟩
          | i + 3, hx, _ => simp at hx
        have HSm := Lib.hid (sameInts_c [1, 0, 2] [1, 0, 2] _ _ _ (SlOf.int h11 b12 b12.size) h12)
        have B11 := Lib.hid (B10.out.trans (b11.mono B10.out.size))
        have B12 := Lib.hid (B11.out.trans (b12.mono B11.out.size))
        clear b11 b12 h11 h12
        go_wp2_with fail
        refine HSm.out.mono ?_
        rintro e13 w13 ⟨rfl, b13⟩
        have B13 := Lib.hid (B12.out.trans (b13.mono B12.out.size))
        clear b13
        go_wp2
        go_ret
        exact ⟨rfl, B13.out⟩
end Go.Proofs.YtkemdankcjpeeaaDoor
namespace Go.Proofs.YtkemdankcjpeeaaDoor
open Go.RowKit

theorem info_tm6 : (Tryd.prog.info? 43).map (fun i => (i.zero, i.size, i.bytes)) = some (some (.agg #[.int .i64 0, .string ⟨#[]⟩, .int .i64 0, .slice none 0 0]), 4, 56) := by kernel_rfl
def intT (x : Int) : Tm := .mk 2 ⟨#[]⟩ x []
def intCells (x : Int) : List Value := [.int .i64 2, .string ⟨#[]⟩, .int .i64 x, .slice none 0 0]
def IntTC (t : Tm) (cs : List Value) : Prop := ∃ x, I64 x ∧ t = intT x ∧ cs = intCells x
def factR (rel : ByteArray) (l : List Int) : Ru := ⟨⟨rel, l.map intT⟩, [], 0⟩
theorem occ_ints (l : List Int) : occ (subTs (l.map intT)) = [] := by
  induction l with
  | nil => rfl
  | cons x l ih =>
    rw [List.map_cons, subTs_cons, occ_app, ih]
    rfl
theorem fact_safe (rel : ByteArray) (l : List Int) : safeZ (factR rel l) = true := by
  unfold safeZ
  rw [(order_none (r := factR rel l) rfl).2.2, Bool.true_and]
  show (occ (subTs (l.map intT))).all _ = true
  rw [occ_ints]
  rfl
theorem fact_ord (rel : ByteArray) (l : List Int) : ordE (factR rel l) = 0 ∨ ordE (factR rel l) = 30 := by
  unfold ordE
  rw [fact_safe]
  split
  · exact .inl rfl
  · exact .inr rfl
theorem subs_ints (l : List Int) : (subTs (l.map intT)).length = l.length := by
  induction l with
  | nil => rfl
  | cons x l ih => rw [List.map_cons, subTs_cons, List.length_append, ih, List.length_cons]; simp [intT, subT_eq, subTs]; omega
theorem fact_few (rel : ByteArray) (l : List Int) (hl : l.length ≤ 8) : FewR (factR rel l) ∧ FewP' (partsZ (factR rel l)) := by
  have h1 : (termsR (factR rel l)).length ≤ 2000 := by
    show (subTs (l.map intT) ++ []).length ≤ 2000
    rw [List.append_nil, subs_ints]
    omega
  refine ⟨few_small h1 fun t ht => ?_, fewP_small h1⟩
  have ht : t ∈ subTs (l.map intT) := by
    have h2 : termsR (factR rel l) = subTs (l.map intT) ++ [] := rfl
    rw [h2, List.append_nil] at ht
    exact ht
  have key : ∀ l : List Int, t ∈ subTs (l.map intT) → t.s = ⟨#[]⟩ := by
    intro l
    induction l with
    | nil => intro h; cases h
    | cons x l ih =>
      intro h
      rw [List.map_cons, subTs_cons] at h
      rcases List.mem_append.1 h with h | h
      · rw [subT_eq] at h
        rcases List.mem_cons.1 h with h | h
        · rw [h]; rfl
        · cases h
      · exact ih h
  rw [key l ht]
  decide
def slotsA : List (Option Tmp) := [some 25, some 26, some 27, some 28, some 29, some 30, some 31, some 32, some 33, some 34, none]
def factsA (qa k : Nat) (L v : Value) (ad : Addr) (x : Int) : List (Value → Prop) :=
  [fun u => u = .pointer (some ⟨qa, 1, none⟩), fun u => u = L, fun u => u = v, fun u => u = .int .i64 (k : Int), fun u => u = .pointer (some (ad.add k)), fun u => u = .int .i64 x, fun u => u = .agg (intCells x).toArray, fun _ => True, fun _ => True, fun u => u = .pointer (some ⟨qa, 1, none⟩), fun _ => True]
def depsA : List (Nat × Nat) := [(1, 0), (4, 2), (4, 3), (5, 4), (6, 5), (7, 6), (8, 1), (8, 7), (10, 8), (10, 9)]
set_option linter.unusedSimpArgs false in
set_option maxRecDepth 100000 in
set_option maxHeartbeats 16000000 in
theorem dsafeFacts_c (rel : ByteArray) (v : Value) (l : List Int) (t a u : Addr) (w : World) (hrel : rel.size ≤ maxLen) (hv : SlOf w w.heap.size 1 IntC l v) (E : EnvZ t a u w) :
    Calls Tryd.prog 10 #[.string rel, v] w fun e w' => e = .returned (.bool true) ∧ Below w.heap.size w w' := by
  obtain ⟨o1, k1, rfl, hc1, hm1, S1⟩ := SlOf.open hv
  obtain ⟨i0, hi, hz0, hz1, hz2⟩ := info_parts info_tm6
  have HE := Lib.hid E
  have HSh := Lib.hid (shown6_c t a u w E)
  have HB0 : Hid (Below w.heap.size w w) := Lib.hid (Below.refl _ _)
  clear hv E
  go_enter Tryd.func10, Tryd.ntmps10
  go_wp2_with fail
  refine HSh.out.mono ?_
  rintro e1 w1 ⟨rfl, b1⟩
  have B1 := Lib.hid b1
  clear b1 HSh
  go_wp2_with fail
  obtain ⟨qa, hqa⟩ : ∃ q, w1.heap.size = q := ⟨_, rfl⟩
  have hq0 : (w1.alloc (.cells #[.string rel, .slice none 0 0] 24)).heap[qa]? = some (.cells #[.string rel, .slice none 0 0] 24 (0, 0)) := by rw [← hqa]; exact World.alloc_heap_new w1 _
  have hb2 : Below w1.heap.size w1 (w1.alloc (.cells #[.string rel, .slice none 0 0] 24)) := (Below.refl _ _).alloc (Nat.le_refl _) _
  try rw [hqa]
  have Hq0 := Lib.hid hq0
  have Hb2 := Lib.hid hb2
  have Hqa := Lib.hid hqa
  have hql : w.heap.size ≤ qa := by rw [← hqa]; exact B1.out.size
  clear hq0 hb2 hqa
  go_loopw [7] (fun iv wr => ∃ (k : Nat) (L : Value) (xs : List Value), k ≤ l.length ∧ k ≤ 8 ∧ iv = .int .i64 k ∧ wr.heap[qa]? = some (.cells #[.string rel, L] 24 (0, 0)) ∧ wr.ownsRow qa 43 4 L k xs ∧ Hid (Laid 4 IntTC ((l.take k).map intT) xs) ∧ Hid (Below w1.heap.size w1 wr)) (fun iv _ => 8 - (intOf iv).toNat)
  case atStart => exact ⟨0, .slice none 0 0, [], Nat.zero_le _, Nat.zero_le _, rfl, Hq0.out, World.ownsRow_nil _ _ _ _, Lib.hid Laid.nil, Hb2⟩
  case round =>
    obtain ⟨k, L, xs, hk, hk8, rfl, hq, ho, HL, HB⟩ := hrel
    obtain ⟨oL, cL, rfl⟩ := own_shape ho
    have hlq := heap_lt hq
    have HBw := Lib.hid (B1.out.trans (HB.out.mono B1.out.size))
    have Hq := Lib.hid hq
    have HO := Lib.hid ho
    obtain ⟨y0, y1⟩ : wr.cell? ⟨qa, 0, none⟩ = some (.string rel) ∧ wr.cell? ⟨qa, 1, none⟩ = some (.slice oL k cL) := ⟨row_cells hq 0, row_cells hq 1⟩
    clear hq ho
    by_cases hlt : k < l.length ∧ k < 8
    · have hlt1 : (k : Int) < (l.length : Int) := by omega
      have hlt2 : (k : Int) < 8 := by omega
      have hk0 : (0 : Int) ≤ (k : Int) := by omega
      have wk : IntKind.i64.wrap ((k : Int) + 1) = (k : Int) + 1 := by rw [IntKind.wrap_i64]; omega
      obtain ⟨x, hx⟩ : ∃ x, l[k]? = some x := ⟨l[k], List.getElem?_eq_getElem hlt.1⟩
      obtain ⟨ad, rfl, had, hxI, hcx⟩ := int_at S1 HBw.out hx
      have Hcx := Lib.hid hcx
      have HxI := Lib.hid hxI
      have HS1 : Hid (k + 1 ≤ maxLen) := Lib.hid (by unfold maxLen; omega)
      have HS2 : Hid ((k + 1) * 56 ≤ 140737488355328) := Lib.hid (by omega)
      have Hst : Hid ((l.take (k + 1)).map intT = (l.take k).map intT ++ [intT x]) := Lib.hid (by rw [List.take_add_one, hx, List.map_append]; rfl)
      have hadw : (ad.add k).block < wr.heap.size := by rw [addBlock]; have := HBw.out.size; omega
      clear hx hcx hxI
      go_wp2_with fail
      refine wp_region_any (by kernel_rfl) ?_
      (try (change wpAny _ _ _ _ _ _ _ (World.drew _)))
      refine wpAny_say slotsA _ _ (FB 1 7 8 10 depsA (factsA qa k (.slice oL k cL) (.slice (some ad) l.length k1) ad x) wr.drew (fun v w => ∃ b, v = .slice (some ⟨b, 0, none⟩) 1 1 ∧ w.heap[b]? = some (.cells (intCells x).toArray 43 (0, 0)))
        (fun v w => w.heap[qa]? = some (.cells #[.string rel, .slice oL k cL] 24 (0, 0)) ∧ w.ownsRow qa 43 4 v (k + 1) (xs ++ intCells x) ∧ Below w1.heap.size w1 w)
        (fun w => ∃ L', w.heap[qa]? = some (.cells #[.string rel, L'] 24 (0, 0)) ∧ w.ownsRow qa 43 4 L' (k + 1) (xs ++ intCells x) ∧ Below w1.heap.size w1 w))
        (by kernel_rfl) (by kernel_rfl) (by kernel_rfl) (by kernel_rfl) (by kernel_rfl) ⟨?A0, ?A1, ?A2, ?A3, ?A4, ?A5, ?A6, ?A7, ?A8, ?A9, ?A10, trivial⟩ FB.start ?Afin
      case A0 =>
        intro l' val A' w' K hl hn' hd hF hfar hdep hK
        have e6 : A'.tmps[6]?.getD undef = .pointer (some ⟨qa, 0, none⟩) := hfar 6 (by decide)
        unfold Oper.wp
        simp [execOp, e6, go_sem, Result.andThen]
        exact hK _ _ (hF.read (by rw [hl]; decide) hn' (fun q hq h => by simp only [depsA, List.mem_cons, List.not_mem_nil, or_false] at hq; rcases hq with rfl | rfl | rfl | rfl | rfl | rfl | rfl | rfl | rfl | rfl <;> simp at h <;> exact hd _ (by kernel_rfl)) (fun p hp => by cases hp; rfl) (by decide) (by decide) (by decide))
      case A1 =>
        intro l' val A' w' K hl hn' hd hF hfar hdep hK
        have e1 : A'.tmps[25]?.getD undef = .pointer (some ⟨qa, 1, none⟩) := (hdep 0 25 rfl (by kernel_rfl)).trans (hF.rd 0 _ (hd 0 (by kernel_rfl)) rfl)
        have h8 : l'.getD 8 false = false := by
          cases h : l'.getD 8 false with
          | false => rfl
          | true => exact ntb hn' (hF.dp (8, 1) (by decide) h)
        have hb : Below wr.heap.size wr w' := by
          cases h7 : l'.getD 7 false with
          | false => exact (Below.refl _ wr).drew.trans (hF.s0 h7)
          | true => exact (Below.refl _ wr).drew.trans (hF.s7 h7 h8).1
        have cc : w'.cell? ⟨qa, 1, none⟩ = some (.slice oL k cL) := row_cells ((hb.block _ hlq).trans Hq.out) 1
        unfold Oper.wp
        simp [execOp, e1, cc, go_sem, Result.andThen]
        exact hK _ _ (hF.read (by rw [hl]; decide) hn' (fun q hq h => by simp only [depsA, List.mem_cons, List.not_mem_nil, or_false] at hq; rcases hq with rfl | rfl | rfl | rfl | rfl | rfl | rfl | rfl | rfl | rfl <;> simp at h <;> exact hd _ (by kernel_rfl)) (fun p hp => by cases hp; rfl) (by decide) (by decide) (by decide))
      case A2 =>
        intro l' val A' w' K hl hn' hd hF hfar hdep hK
        have e1 : A'.tmps[1]?.getD undef = .slice (some ad) l.length k1 := hfar 1 (by decide)
        unfold Oper.wp
        simp [execOp, e1, go_sem, Result.andThen]
        exact hK _ _ (hF.read (by rw [hl]; decide) hn' (fun q hq h => by simp only [depsA, List.mem_cons, List.not_mem_nil, or_false] at hq; rcases hq with rfl | rfl | rfl | rfl | rfl | rfl | rfl | rfl | rfl | rfl <;> simp at h <;> exact hd _ (by kernel_rfl)) (fun p hp => by cases hp; rfl) (by decide) (by decide) (by decide))
      case A3 =>
        intro l' val A' w' K hl hn' hd hF hfar hdep hK
        have e7 : A'.tmps[7]?.getD undef = .int .i64 (k : Int) := hfar 7 (by decide)
        unfold Oper.wp
        simp [execOp, e7, go_sem, Result.andThen]
        exact hK _ _ (hF.read (by rw [hl]; decide) hn' (fun q hq h => by simp only [depsA, List.mem_cons, List.not_mem_nil, or_false] at hq; rcases hq with rfl | rfl | rfl | rfl | rfl | rfl | rfl | rfl | rfl | rfl <;> simp at h <;> exact hd _ (by kernel_rfl)) (fun p hp => by cases hp; rfl) (by decide) (by decide) (by decide))
      case A4 =>
        intro l' val A' w' K hl hn' hd hF hfar hdep hK
        have e1 : A'.tmps[27]?.getD undef = .slice (some ad) l.length k1 := (hdep 2 27 rfl (by kernel_rfl)).trans (hF.rd 2 _ (hd 2 (by kernel_rfl)) rfl)
        have e2 : A'.tmps[28]?.getD undef = .int .i64 (k : Int) := (hdep 3 28 rfl (by kernel_rfl)).trans (hF.rd 3 _ (hd 3 (by kernel_rfl)) rfl)
        unfold Oper.wp
        simp [execOp, e1, e2, hlt1, hk0, go_sem, Result.andThen]
        exact hK _ _ (hF.read (by rw [hl]; decide) hn' (fun q hq h => by simp only [depsA, List.mem_cons, List.not_mem_nil, or_false] at hq; rcases hq with rfl | rfl | rfl | rfl | rfl | rfl | rfl | rfl | rfl | rfl <;> simp at h <;> exact hd _ (by kernel_rfl)) (fun p hp => by cases hp; rfl) (by decide) (by decide) (by decide))
      case A5 =>
        intro l' val A' w' K hl hn' hd hF hfar hdep hK
        have e1 : A'.tmps[29]?.getD undef = .pointer (some (ad.add k)) := (hdep 4 29 rfl (by kernel_rfl)).trans (hF.rd 4 _ (hd 4 (by kernel_rfl)) rfl)
        have h7 : l'.getD 7 false = false := by
          cases h : l'.getD 7 false with
          | false => rfl
          | true => exact ntb hn' (hF.dp (6, 5) (by decide) (hF.dp (7, 6) (by decide) h))
        have hb : Below wr.heap.size wr w' := (Below.refl _ wr).drew.trans (hF.s0 h7)
        have cc : w'.cell? (ad.add k) = some (.int .i64 x) := (World.cell?_of_block (hb.block _ hadw)).trans Hcx.out
        unfold Oper.wp
        simp [execOp, e1, cc, go_sem, Result.andThen]
        exact hK _ _ (hF.read (by rw [hl]; decide) hn' (fun q hq h => by simp only [depsA, List.mem_cons, List.not_mem_nil, or_false] at hq; rcases hq with rfl | rfl | rfl | rfl | rfl | rfl | rfl | rfl | rfl | rfl <;> simp at h <;> exact hd _ (by kernel_rfl)) (fun p hp => by cases hp; rfl) (by decide) (by decide) (by decide))
      case A6 =>
        intro l' val A' w' K hl hn' hd hF hfar hdep hK
        have e1 : A'.tmps[30]?.getD undef = .int .i64 x := (hdep 5 30 rfl (by kernel_rfl)).trans (hF.rd 5 _ (hd 5 (by kernel_rfl)) rfl)
        unfold Oper.wp
        simp [execOp, e1, go_sem, Result.andThen]
        exact hK _ _ (hF.read (by rw [hl]; decide) hn' (fun q hq h => by simp only [depsA, List.mem_cons, List.not_mem_nil, or_false] at hq; rcases hq with rfl | rfl | rfl | rfl | rfl | rfl | rfl | rfl | rfl | rfl <;> simp at h <;> exact hd _ (by kernel_rfl)) (fun p hp => by cases hp; rfl) (by decide) (by decide) (by decide))
      case A7 =>
        intro l' val A' w' K hl hn' hd hF hfar hdep hK
        have e1 : A'.tmps[31]?.getD undef = .agg (intCells x).toArray := (hdep 6 31 rfl (by kernel_rfl)).trans (hF.rd 6 _ (hd 6 (by kernel_rfl)) rfl)
        unfold intCells at e1
        unfold Oper.wp
        simp [execOp, e1, go_sem, Result.andThen]
        exact hK _ _ (hF.made (by rw [hl]; decide) hn' (fun q hq h => by simp only [depsA, List.mem_cons, List.not_mem_nil, or_false] at hq; rcases hq with rfl | rfl | rfl | rfl | rfl | rfl | rfl | rfl | rfl | rfl <;> simp at h <;> exact hd _ (by kernel_rfl)) (fun p hp => by cases hp; trivial) (by decide) (by decide) (by decide) (by decide) ((Below.refl _ _).alloc (Nat.le_refl _) _) ⟨_, rfl, World.alloc_heap_new w' _⟩)
      case A8 =>
        intro l' val A' w' K hl hn' hd hF hfar hdep hK
        have e1 : A'.tmps[26]?.getD undef = .slice oL k cL := (hdep 1 26 rfl (by kernel_rfl)).trans (hF.rd 1 _ (hd 1 (by kernel_rfl)) rfl)
        obtain ⟨hb', b, hvb, hrb⟩ := hF.s7 (hd 7 (by kernel_rfl)) hn'
        have e2 : A'.tmps[32]?.getD undef = .slice (some ⟨b, 0, none⟩) 1 1 := (hdep 7 32 rfl (by kernel_rfl)).trans hvb
        have hb : Below wr.heap.size wr w' := (Below.refl _ wr).drew.trans hb'
        have hB2 : Below w1.heap.size w1 w' := HB.out.trans (hb.mono HB.out.size)
        have hown := own_below HO.out hb
        refine wp_append_any w' (.tmp 26) (.tmp 32) 22 rfl qa 43 i0 _ 4 56 Tryd.underlying22 hi hz0 hz1 hz2 rfl (by decide) (.slice oL k cL) k _ (by simpa [Act.eval] using e1) hown (.slice (some ⟨b, 0, none⟩) 1 1) 1 (intCells x) (by simpa [Act.eval] using e2) (.inr ⟨⟨b, 0, none⟩, 1, rfl, rfl, World.news_of_block hrb, by simp [intCells, Value.oneCell']⟩) HS1.out HS2.out (by have := hb.size; omega) ?_
        intro v' w3 hown' hg _
        have hq3 := (hg.block _ (heap_lt ((hb.block _ hlq).trans Hq.out)) (fun e => row_obj hown ((hb.block _ hlq).trans Hq.out) (by decide) e.symm)).trans ((hb.block _ hlq).trans Hq.out)
        exact hK _ _ (hF.appended (by rw [hl]; decide) hn' (fun q hq h => by simp only [depsA, List.mem_cons, List.not_mem_nil, or_false] at hq; rcases hq with rfl | rfl | rfl | rfl | rfl | rfl | rfl | rfl | rfl | rfl <;> simp at h <;> exact hd _ (by kernel_rfl)) (fun p hp => by cases hp; trivial) (by decide) (by decide) (by decide) (by decide) ⟨hq3, hown', hB2.grown hg hB2.size (fun j hj => by rw [Hqa.out]; exact (hown.lt j hj).1)⟩)
      case A9 =>
        intro l' val A' w' K hl hn' hd hF hfar hdep hK
        have e6 : A'.tmps[6]?.getD undef = .pointer (some ⟨qa, 0, none⟩) := hfar 6 (by decide)
        unfold Oper.wp
        simp [execOp, e6, go_sem, Result.andThen]
        exact hK _ _ (hF.read (by rw [hl]; decide) hn' (fun q hq h => by simp only [depsA, List.mem_cons, List.not_mem_nil, or_false] at hq; rcases hq with rfl | rfl | rfl | rfl | rfl | rfl | rfl | rfl | rfl | rfl <;> simp at h <;> exact hd _ (by kernel_rfl)) (fun p hp => by cases hp; rfl) (by decide) (by decide) (by decide))
      case A10 =>
        intro l' val A' w' K hl hn' hd hF hfar hdep hK
        have e9 : A'.tmps[34]?.getD undef = .pointer (some ⟨qa, 1, none⟩) := (hdep 9 34 rfl (by kernel_rfl)).trans (hF.rd 9 _ (hd 9 (by kernel_rfl)) rfl)
        obtain ⟨hq3, hown3, hB3⟩ := hF.s8 (hd 8 (by kernel_rfl)) hn'
        obtain ⟨o8, c8, hv8⟩ := own_shape hown3
        have e8 : A'.tmps[33]?.getD undef = .slice o8 (k + 1) c8 := (hdep 8 33 rfl (by kernel_rfl)).trans hv8
        rw [hv8] at hown3
        have cc : w'.cell? ⟨qa, 1, none⟩ = some (.slice oL k cL) := row_cells hq3 1
        have cf := frz_row hq3 1
        have hq4 : (w'.setCell ⟨qa, 1, none⟩ (.slice o8 (k + 1) c8)).heap[qa]? = some (.cells #[.string rel, .slice o8 (k + 1) c8] 24 (0, 0)) := by simpa using rowSet hq3 1 (.slice o8 (k + 1) c8)
        have ho4 := own_set hown3 (b := qa) (k := 1) (u := .slice o8 (k + 1) c8) (row_obj hown3 hq3 (by decide))
        have hB4 := hB3.setCell (p := ⟨qa, 1, none⟩) (by show w1.heap.size ≤ qa; rw [Hqa.out]; exact Nat.le_refl _) (.slice o8 (k + 1) c8)
        unfold Oper.wp
        simp [execOp, e9, e8, cc, cf, go_sem, Result.andThen]
        exact hK undef _ (hF.stored (by rw [hl]; decide) hn' (fun q hq h => by simp only [depsA, List.mem_cons, List.not_mem_nil, or_false] at hq; rcases hq with rfl | rfl | rfl | rfl | rfl | rfl | rfl | rfl | rfl | rfl <;> simp at h <;> exact hd _ (by kernel_rfl)) (fun p hp => by cases hp; trivial) (by decide) (by decide) (by decide) (by decide) ⟨_, hq4, ho4, hB4⟩)
      case Afin =>
        intro l' val w3 hall hF
        obtain ⟨L', hq3, ho3, hB3⟩ := hF.s10 (hall 10 (by decide))
        simp only [slotsA, putsA, Nat.zero_add, Nat.reduceAdd]
        generalize val 0 = u0
        generalize val 1 = u1
        generalize val 2 = u2
        generalize val 3 = u3
        generalize val 4 = u4
        generalize val 5 = u5
        generalize val 6 = u6
        generalize val 7 = u7
        generalize val 8 = u8
        generalize val 9 = u9
        generalize val 10 = u10
        have Hq3 := Lib.hid hq3
        have HO3 := Lib.hid ho3
        have HB3 := Lib.hid hB3
        have HL3 : Hid (Laid 4 IntTC ((l.take (k + 1)).map intT) (xs ++ intCells x)) := Lib.hid (by rw [Hst.out]; exact HL.out.snoc rfl ⟨x, HxI.out, rfl, rfl⟩)
        clear hF hall hq3 ho3 hB3 val
        go_simp
        go_wp2
        go_roundw
        case rel => exact ⟨k + 1, L', xs ++ intCells x, by omega, by omega, by go_num, Hq3.out, HO3.out, HL3, HB3⟩
        case measure => simp [intOf]; omega
    · have HL2 : Hid (k = (l.take 8).length) := Lib.hid (by rw [List.length_take]; omega)
      have HTk : Hid ((l.take k).map intT = (l.take 8).map intT) := Lib.hid (by
        congr 1
        by_cases h8 : k = 8
        · rw [h8]
        · rw [List.take_of_length_le (by omega), List.take_of_length_le (by omega)])
      obtain ⟨m8, hm8⟩ : ∃ m, l.take 8 = m := ⟨_, rfl⟩
      have hm8l : m8.length ≤ 8 := by rw [← hm8, List.length_take]; omega
      rw [hm8] at HL2 HTk
      have HLm : Hid (Laid 4 IntTC (m8.map intT) xs) := Lib.hid (by rw [← HTk.out]; exact HL.out)
      have HFew := Lib.hid (fact_few rel m8 hm8l)
      have mk : ∀ W, Below wr.heap.size wr W → RuC W W.heap.size (factR rel m8) [.string rel, .slice oL k cL, .slice none 0 0, .int .i64 0] := fun W hb => by
        have h1 := own_below HO.out hb
        have h2 : TmS W W.heap.size (m8.map intT) (.slice oL k cL) := sl_own0 (acc := m8.map intT) (by rw [List.length_map, ← HL2.out]; exact h1) (HLm.out.mono fun t cs ht => by
          obtain ⟨x, hx, rfl, rfl⟩ := ht
          exact int_c W x hx)
        exact ⟨[.string rel, .slice oL k cL], .slice none 0 0, rfl, (by show I64 0; unfold I64; omega), ⟨_, rfl, hrel, h2⟩, .inl ⟨rfl, rfl⟩⟩
      have HMk := Lib.hid mk
      have hP1 := order_c (factR rel m8) _ t a u wr (HMk.out wr (Below.refl _ _)) HFew.out.1 HFew.out.2 (HE.out.below HBw.out)
      have HP1 := Lib.hid hP1
      have HP2 := Lib.hid (fun (W : World) (hb : Below wr.heap.size wr W) => invents6_c (factR rel m8) _ t a u W (HMk.out W hb) HFew.out.1 HFew.out.2 (HE.out.below (HBw.out.trans (hb.mono HBw.out.size))))
      have ho0 : orderZ (factR rel m8) = [] := (order_none (r := factR rel m8) rfl).1
      have hi0 : invZ (factR rel m8) = false := (order_none (r := factR rel m8) rfl).2.1
      have hfo := fact_ord rel m8
      have hcond : (k < l.length ∧ ¬ (k : Int) < 8 ∧ (k : Int) < (l.length : Int)) ∨ ¬ (k : Int) < (l.length : Int) := by omega
      clear hP1 mk
      rcases hcond with ⟨_, hc2, hc3⟩ | hc2
      · skip
        go_wp2_with fail
        refine HP1.out.mono ?_
        intro e2 w2 hT
        cases hT with
        | bad h0 b2 =>
          have h30 : ordE (factR rel m8) = 30 := hfo.resolve_left h0
          rw [h30]
          have HB2 := Lib.hid b2
          have hq2 := (b2.block _ hlq).trans Hq.out
          have z0 := row_cells hq2 0
          have z1 := row_cells hq2 1
          have hlq2 := heap_lt hq2
          clear b2 hq2 h0
          go_wp2_with fail
          refine (HP2.out w2 HB2.out).mono ?_
          intro e3 w3 hT2
          cases hT2 with
          | good h0 _ => rw [h30] at h0; cases h0
          | bad _ b3 =>
            rw [h30]
            have HBe := Lib.hid (HBw.out.trans ((HB2.out.trans (b3.mono HB2.out.size)).mono HBw.out.size))
            clear b3
            go_wp2
            go_ret
            exact ⟨rfl, HBe.out⟩
        | @good _ lv h0 hs b2 =>
          have hlv : ∃ o c, lv = .slice o 0 c := by
            rw [ho0] at hs
            obtain ⟨o, c, e, _⟩ := SlOf.uni hs
            exact ⟨o, c, e⟩
          obtain ⟨ol, cl, rfl⟩ := hlv
          have HB2 := Lib.hid b2
          have hq2 := (b2.block _ hlq).trans Hq.out
          have z0 := row_cells hq2 0
          have z1 := row_cells hq2 1
          have hlq2 := heap_lt hq2
          clear b2 hq2 hs
          go_wp2_with fail
          refine (HP2.out w2 HB2.out).mono ?_
          intro e3 w3 hT2
          cases hT2 with
          | bad h1 _ => exact absurd h0 h1
          | good _ b3 =>
            rw [hi0]
            have HBe := Lib.hid (HBw.out.trans ((HB2.out.trans (b3.mono HB2.out.size)).mono HBw.out.size))
            clear b3
            go_wp2
            go_ret
            exact ⟨rfl, HBe.out⟩
      · skip
        go_wp2_with fail
        refine HP1.out.mono ?_
        intro e2 w2 hT
        cases hT with
        | bad h0 b2 =>
          have h30 : ordE (factR rel m8) = 30 := hfo.resolve_left h0
          rw [h30]
          have HB2 := Lib.hid b2
          have hq2 := (b2.block _ hlq).trans Hq.out
          have z0 := row_cells hq2 0
          have z1 := row_cells hq2 1
          have hlq2 := heap_lt hq2
          clear b2 hq2 h0
          go_wp2_with fail
          refine (HP2.out w2 HB2.out).mono ?_
          intro e3 w3 hT2
          cases hT2 with
          | good h0 _ => rw [h30] at h0; cases h0
          | bad _ b3 =>
            rw [h30]
            have HBe := Lib.hid (HBw.out.trans ((HB2.out.trans (b3.mono HB2.out.size)).mono HBw.out.size))
            clear b3
            go_wp2
            go_ret
            exact ⟨rfl, HBe.out⟩
        | @good _ lv h0 hs b2 =>
          have hlv : ∃ o c, lv = .slice o 0 c := by
            rw [ho0] at hs
            obtain ⟨o, c, e, _⟩ := SlOf.uni hs
            exact ⟨o, c, e⟩
          obtain ⟨ol, cl, rfl⟩ := hlv
          have HB2 := Lib.hid b2
          have hq2 := (b2.block _ hlq).trans Hq.out
          have z0 := row_cells hq2 0
          have z1 := row_cells hq2 1
          have hlq2 := heap_lt hq2
          clear b2 hq2 hs
          go_wp2_with fail
          refine (HP2.out w2 HB2.out).mono ?_
          intro e3 w3 hT2
          cases hT2 with
          | bad h1 _ => exact absurd h0 h1
          | good _ b3 =>
            rw [hi0]
            have HBe := Lib.hid (HBw.out.trans ((HB2.out.trans (b3.mono HB2.out.size)).mono HBw.out.size))
            clear b3
            go_wp2
            go_ret
            exact ⟨rfl, HBe.out⟩
end Go.Proofs.YtkemdankcjpeeaaDoor
