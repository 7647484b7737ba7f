/- What every law of package dtype shares: what the listed variables give, a start that meets the rows' condition, and: a call that answers true and turns nothing that lay keeps the law. -/
import Derived.Test.YtbpdfmpfnbdeoaaDoorTie
import Derived.Test.YtbpdfmpfnbdeoaaDoorCards
import Derived.Test.YtbpdfmpfnbdeoaaDoorYnum
import Derived.ProofKit
import Derived.OpenShut
import Derived.Deep.DeepHandedRow
import Derived.Deep.DeepWitnessRowRef
import Derived.LaidMore
import Derived.LaidHandle
import Derived.Stop.LaidErr
import Derived.Stop.LaidTwo
namespace Go.Proofs.YtbpdfmpfnbdeoaaDoor
open Go.ChangeShapes Go.WideShapes Go.ChangeAt Go.RowKit

/-- The list without its second entry. -/
theorem laid_skip {P : Program} {x y : String × DataW Unit} {r : List (String × DataW Unit)} {w : World} (h : laidMet P (x :: y :: r) w) : laidMet P (x :: r) w := by
  obtain ⟨ps, hv, hnd, hrows⟩ := h
  obtain ⟨n, d⟩ := x
  obtain ⟨m, e⟩ := y
  obtain ⟨g, t, cs, fuel, p, q, h1, h2, h3, h4, hq, rfl⟩ := hv
  obtain ⟨g', t', cs', fuel', p', q', _, _, _, _, hq', rfl⟩ := hq
  have hs : List.Sublist (MemPlace.row ⟨g, 0, none⟩ cs.size ++ p ++ q') (MemPlace.row ⟨g, 0, none⟩ cs.size ++ p ++ (MemPlace.row ⟨g', 0, none⟩ cs'.size ++ p' ++ q')) := (List.sublist_append_right _ _).append_left _
  exact ⟨_, ⟨g, t, cs, fuel, p, q', h1, h2, h3, h4, hq', rfl⟩, hnd.sublist hs, fun b off hm => hrows b off (hs.subset hm)⟩
theorem own : ownKnob Tryd.prog.godebug = none := by kernel_rfl
theorem laidOut : laidOutB Tryd.prog = true := by kernel_rfl
theorem cellsE : Tryd.prog.cellsOf 218 = 1 := by kernel_rfl
theorem cellsS : Tryd.prog.cellsOf 9 = 1 := by kernel_rfl
theorem star : "*" ++ "errors.errorString" = "*errors.errorString" := by decide
theorem rowE (u : TypeId) (h : Tryd.prog.typeName? 3 u = some "*errors.errorString") : u = 193 :=
  typeName_ptr_named (nm := "errors.errorString") (by rw [star]; kernel_rfl) (by kernel_rfl) (by decide) u (by rw [star]; exact h)

theorem gTree : Tryd.prog.globalNamed "sorites/dtree.errTree" = some 0 := by kernel_rfl
theorem gTreeType : (Tryd.prog.globals[0]?).map (·.type) = some 80 := by kernel_rfl
theorem gTw : Tryd.prog.globalNamed "sorites/dtype.errTwice" = some 2 := by kernel_rfl
theorem gTwT : (Tryd.prog.globals[2]?).map (·.type) = some 80 := by kernel_rfl
theorem gNo : Tryd.prog.globalNamed "sorites/dtype.errNoRel" = some 3 := by kernel_rfl
theorem gNoT : (Tryd.prog.globals[3]?).map (·.type) = some 80 := by kernel_rfl
theorem gAr : Tryd.prog.globalNamed "sorites/dtype.errArity" = some 4 := by kernel_rfl
theorem gArT : (Tryd.prog.globals[4]?).map (·.type) = some 80 := by kernel_rfl
theorem gTy : Tryd.prog.globalNamed "sorites/dtype.errType" = some 1 := by kernel_rfl
theorem gTyT : (Tryd.prog.globals[1]?).map (·.type) = some 80 := by kernel_rfl
abbrev laidAll : List (String × DataW Unit) := [("sorites/dtree.errTree", Rows.laid_sorites_dtree_errTree), ("sorites/dtype.errTwice", Rows.laid_sorites_dtype_errTwice), ("sorites/dtype.errNoRel", Rows.laid_sorites_dtype_errNoRel), ("sorites/dtype.errArity", Rows.laid_sorites_dtype_errArity), ("sorites/dtype.errType", Rows.laid_sorites_dtype_errType)]
theorem var_lt {W : World} {n : String} {g : Nat} {cs : Array Value} (h : W.var? Tryd.prog n = some cs) (hg : Tryd.prog.globalNamed n = some g) : g < W.heap.size := by
  unfold World.var? at h
  simp only [hg, Option.bind_some] at h
  rcases Nat.lt_or_ge g W.heap.size with h' | h'
  · exact h'
  · simp [Array.getElem?_eq_none h'] at h
theorem same_ptr {W : World} {n : String} {a b : Addr} (h : W.var? Tryd.prog n = some #[.iface 193 (.pointer (some a))]) (k : W.var? Tryd.prog n = some #[.iface 193 (.pointer (some b))]) : a = b := by
  rw [h] at k
  simpa using k

theorem env_of_laid {W : World} (h : laidMetH Tryd.prog laidAll W) : ∃ e a b c d, EnvY e a b c d W := by
  rw [MakeChecks.laidMetH_plain _ _ _ (by kernel_rfl)] at h
  have two := fun {n0 n1 : String} {text0 text1 : List UInt8} {r : List (String × DataW Unit)} {g0 g1 : Nat} (h : laidMet Tryd.prog ((n0, .iface "*errors.errorString" (.ptr (.agg [.lit (.string text0)]))) :: (n1, .iface "*errors.errorString" (.ptr (.agg [.lit (.string text1)]))) :: r) W) (hg0 : Tryd.prog.globalNamed n0 = some g0) (ht0 : (Tryd.prog.globals[g0]?).map (·.type) = some 80) (hg1 : Tryd.prog.globalNamed n1 = some g1) (ht1 : (Tryd.prog.globals[g1]?).map (·.type) = some 80) =>
    laid_sentinels2 h hg0 ht0 hg1 ht1 Tryd.underlying80 rowE Tryd.underlying193 Tryd.underlying218 rfl rfl Tryd.underlying9 cellsE cellsS
  obtain ⟨e, se, hve, _⟩ := laid_sentinel h gTree gTreeType Tryd.underlying80 rowE Tryd.underlying193 Tryd.underlying218 rfl rfl Tryd.underlying9 cellsE cellsS
  have t1 := h.tail
  obtain ⟨b, c, _, _, cb, cc, tb, tc, hvb, hvc, _, _, _, _, _, _, hbc, rb, rc⟩ := two t1 gTw gTwT gNo gNoT
  obtain ⟨b2, d, _, _, _, cd, _, td, hvb2, hvd, _, _, _, _, _, _, hbd, _, rd⟩ := two (laid_skip t1) gTw gTwT gAr gArT
  obtain ⟨b3, a, _, _, _, ca, _, ta, hvb3, hva, _, _, _, _, _, _, hba, _, ra⟩ := two (laid_skip (laid_skip t1)) gTw gTwT gTy gTyT
  obtain ⟨c2, d2, _, _, _, _, _, _, hvc2, hvd2, _, _, _, _, _, _, hcd, _, _⟩ := two t1.tail gNo gNoT gAr gArT
  obtain ⟨c3, a2, _, _, _, _, _, _, hvc3, hva2, _, _, _, _, _, _, hca, _, _⟩ := two (laid_skip t1.tail) gNo gNoT gTy gTyT
  obtain ⟨d3, a3, _, _, _, _, _, _, hvd3, hva3, _, _, _, _, _, _, hda, _, _⟩ := two t1.tail.tail gAr gArT gTy gTyT
  obtain rfl := same_ptr hvb hvb2
  obtain rfl := same_ptr hvb hvb3
  obtain rfl := same_ptr hvc hvc2
  obtain rfl := same_ptr hvc hvc3
  obtain rfl := same_ptr hvd hvd2
  obtain rfl := same_ptr hvd hvd3
  obtain rfl := same_ptr hva hva2
  obtain rfl := same_ptr hva hva3
  exact ⟨e, a, b, c, d, ⟨by simpa using World.var?_cell gTree hve 0, var_lt hve gTree⟩, ⟨by simpa [errV] using World.var?_cell gTy hva 0, by simpa [errV] using World.var?_cell gTw hvb 0, by simpa [errV] using World.var?_cell gNo hvc 0, by simpa [errV] using World.var?_cell gAr hvd 0, var_lt hva gTy, var_lt hvb gTw, var_lt hvc gNo, var_lt hvd gAr⟩,
    ⟨Ne.symm hba, Ne.symm hca, Ne.symm hda, Ne.symm hbc, Ne.symm hbd, Ne.symm hcd, ⟨ca, ta, ra⟩, ⟨cb, tb, rb⟩, ⟨cc, tc, rc⟩, ⟨cd, td, rd⟩⟩⟩
theorem int64_bounds {n : Int} (h : (Lit.int .i64 n).wf = true) : -9223372036854775808 ≤ n ∧ n ≤ 9223372036854775807 := by
  simp only [Lit.wf, Bool.and_eq_true, decide_eq_true_eq] at h
  exact h
/-- The door's own heap meets the condition. -/
theorem door_met (os : Os) (args : Array Value) : laidMetH Tryd.prog laidAll ((World.doorLaid Tryd.prog 142 os).forCall (fun _ _ => 0) ⟨#[], args, []⟩).memory := by
  rw [MakeChecks.laidMetH_plain _ _ _ (by kernel_rfl)]
  exact laidMet_of_run' 8 (by kernel_rfl) (by kernel_rfl)
theorem below_trodAll {H : Type} {enc : TypeId × Value → H} {W W' : World} (hb : Below W.heap.size W W') :
    ∀ {ts : List TypeId} {vs : List Value} {ds : List (DataW H)} {ps : List MemPlace}, (∀ t ∈ ts, Tryd.prog.readableRec t = true ∧ t < Tryd.prog.types.size) →
      DataW.TrodAll enc Tryd.prog W 0 (fun _ => true) true ts vs ds ps → (∀ x ∈ ps, x.block < W.heap.size) → DataW.TrodAll enc Tryd.prog W' 0 (fun b => decide (b < W.heap.size)) true ts vs ds ps
  | [], _, _, _, _, h, _ => by
    obtain ⟨rfl, rfl, rfl⟩ := trodAll_nil h
    exact trodAll_mk0
  | t :: ts, _, _, _, hr, h, hlt => by
    obtain ⟨v, vs', d, ds', p, q, rfl, rfl, rfl, h1, h2⟩ := trodAll_cons h
    exact trodAll_cons_mk (Below.trod laidOut (hr t (by simp)).1 (hr t (by simp)).2 h1 hb (fun x hx => hlt x (by simp [hx])))
      (below_trodAll hb (fun t' ht' => hr t' (by simp [ht'])) h2 (fun x hx => hlt x (by simp [hx])))

/-- A CALL THAT ANSWERS true AND TURNS NOTHING THAT LAY KEEPS THE LAW. -/
theorem law_post {H : Type} {enc : TypeId × Value → H} {f : Func} {s : ChangeSpec} {W W' : World} {args : Array Value} {ds gs : List (DataW H)} {before : List MemPlace}
    (hW : DataW.Whole enc Tryd.prog f.params.toList s.vars false W args.toList ds gs before) (hv : s.vars = []) (hrt : f.resultTypes = #[4])
    (hfn : s.fn H ds = { results := [.lit (.bool true)], args := ds }) (hr : ∀ t ∈ f.params.toList, Tryd.prog.readableRec t = true ∧ t < Tryd.prog.types.size) (hb : Below W.heap.size W W') :
    s.post enc Tryd.prog f false true false false W args (.bool true) W' := by
  have hlt : ∀ x ∈ before, x.block < W.heap.size := fun x hx => by simpa using hW.lt x hx
  have hW0 := hW
  obtain ⟨p, q, hA, hV, rfl, _, _⟩ := hW0
  rw [hv] at hV
  obtain ⟨rfl, rfl⟩ := trodVars_none hV
  have e1 : s.fn H (ds ++ []) = { results := [.lit (.bool true)], args := ds } := by rw [List.append_nil]; exact hfn
  refine ⟨ds, [], p ++ [], [], p, [], hW, ?_, ?_, ?_, World.keptBut_mono (fun _ h => h.elim) (hb.frame (fun _ => False)), fun h => by cases h⟩
  · rw [e1, hrt]
    exact trodAll_mk1 (shut_bool Tryd.underlying4 true)
  · rw [e1]
    exact below_trodAll hb hr hA (fun x hx => hlt x (by simp [hx]))
  · rw [e1, hv]
    rfl
end Go.Proofs.YtbpdfmpfnbdeoaaDoor
