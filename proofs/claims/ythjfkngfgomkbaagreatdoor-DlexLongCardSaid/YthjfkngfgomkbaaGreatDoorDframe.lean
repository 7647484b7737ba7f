/- What every law of package dlex shares: what the listed variables give, a start that meets the rows' condition, and: a call that answers true and turns nothing that lay keeps the law. -/
import Derived.Test.YthjfkngfgomkbaaGreatDoorTie
import Derived.Test.YthjfkngfgomkbaaGreatDoorCards
import Derived.Test.YthjfkngfgomkbaaGreatDoorDlaws
import Derived.ProofKit
import Derived.OpenShut
import Derived.Deep.DeepHandedRow
import Derived.Deep.DeepWitnessRowRef
import Derived.Lib.LaidTab
import Derived.LaidMore
import Derived.LaidHandle
import Derived.Stop.LaidErr
import Derived.Stop.LaidTwo
namespace Go.Proofs.YthjfkngfgomkbaaGreatDoor
open Go.ChangeShapes Go.WideShapes Go.ChangeAt Go.RowKit

theorem own : ownKnob Tryz.prog.godebug = none := by kernel_rfl
theorem laidOut : laidOutB Tryz.prog = true := by kernel_rfl
theorem gForm : Tryz.prog.globalNamed "sorites/text.errForm" = some 7 := by kernel_rfl
theorem gFormType : (Tryz.prog.globals[7]?).map (·.type) = some 52 := by kernel_rfl
theorem gNone : Tryz.prog.globalNamed "sorites/dlex.errNone" = some 3 := by kernel_rfl
theorem gNoneType : (Tryz.prog.globals[3]?).map (·.type) = some 52 := by kernel_rfl
theorem gMany : Tryz.prog.globalNamed "sorites/dlex.errMany" = some 0 := by kernel_rfl
theorem gManyType : (Tryz.prog.globals[0]?).map (·.type) = some 52 := by kernel_rfl
theorem gTypeOf : Tryz.prog.globalNamed "errors.errorType" = some 2 := by kernel_rfl
theorem gRt : (Tryz.prog.cutTypes.find? (·.1 == "internal/reflectlite.rtype")).map (·.2) = some 138 := by kernel_rfl
theorem oneRow : ((List.range 245).filter fun t => Tryz.prog.rowNamed t [101, 114, 114, 111, 114]) = [52] := by kernel_rfl
theorem typesSize : Tryz.prog.types.size = 245 := by kernel_rfl
theorem cellsE : Tryz.prog.cellsOf 233 = 1 := by kernel_rfl
theorem cellsS : Tryz.prog.cellsOf 9 = 1 := by kernel_rfl
theorem star : "*" ++ "errors.errorString" = "*errors.errorString" := by decide
theorem rowE (u : TypeId) (h : Tryz.prog.typeName? 3 u = some "*errors.errorString") : u = 214 :=
  typeName_ptr_named (nm := "errors.errorString") (by rw [star]; kernel_rfl) (by kernel_rfl) (by decide) u (by rw [star]; exact h)

abbrev laidAll : List (String × DataW Unit) := [("errors.errorType", Rows.laid_errors_errorType), ("sorites/text.errForm", Rows.laid_sorites_text_errForm), ("sorites/dlex.errNone", Rows.laid_sorites_dlex_errNone), ("sorites/dlex.errMany", Rows.laid_sorites_dlex_errMany)]
abbrev laidErrs : List (String × DataW Unit) := [("sorites/text.errForm", Rows.laid_sorites_text_errForm), ("sorites/dlex.errNone", Rows.laid_sorites_dlex_errNone), ("sorites/dlex.errMany", Rows.laid_sorites_dlex_errMany)]

theorem var_lt {W : World} {n : String} {g : Nat} {cs : Array Value} (h : W.var? Tryz.prog n = some cs) (hg : Tryz.prog.globalNamed n = some g) : g < W.heap.size := by
  unfold World.var? at h
  simp only [hg, Option.bind_some] at h
  rcases Nat.lt_or_ge g W.heap.size with h' | h'
  · exact h'
  · simp [Array.getElem?_eq_none h'] at h

theorem env_of_laid {W : World} (h : laidMetH Tryz.prog laidAll W) : ∃ a b c, LEnv a b c W := by
  have h' : laidMet Tryz.prog laidErrs W ∧ handlesMet Tryz.prog [("errors.errorType", Rows.laid_errors_errorType)] W := h
  obtain ⟨h1, h2⟩ := h'
  obtain ⟨a, s, hv, _⟩ := laid_sentinel h1 gForm gFormType Tryz.underlying52 rowE Tryz.underlying214 Tryz.underlying233 rfl rfl Tryz.underlying9 cellsE cellsS
  obtain ⟨b, c, s0, s1, cb, cc, tb, tc, hvb, hvc, _, _, _, _, _, _, hne, hb, hc⟩ := laid_sentinels2 h1.tail gNone gNoneType gMany gManyType Tryz.underlying52 rowE Tryz.underlying214 Tryz.underlying233 rfl rfl Tryz.underlying9 cellsE cellsS
  obtain ⟨name, u, ty, e1, e2, e3, e4, e5⟩ := h2 _ (List.mem_singleton.2 rfl)
  have en : name = [101, 114, 114, 111, 114] := (Option.some.inj e1).symm
  subst en
  obtain rfl := Option.some.inj (gRt.symm.trans e2)
  have hm : ty ∈ (List.range 245).filter fun t => Tryz.prog.rowNamed t [101, 114, 114, 111, 114] := List.mem_filter.2 ⟨List.mem_range.2 (by rw [← typesSize]; exact e3), e4⟩
  rw [oneRow] at hm
  obtain rfl := List.mem_singleton.1 hm
  have hh : typeHandle Tryz.prog 52 = .pointer (some ⟨12, 52, none⟩) := by kernel_rfl
  rw [hh] at e5
  have l1 := var_lt hv gForm
  have l2 := var_lt hvb gNone
  have l3 := var_lt hvc gMany
  have l4 := var_lt e5 gTypeOf
  exact ⟨a, b, c, ⟨⟨by simpa using World.var?_cell gForm hv 0, by omega⟩, by simpa using World.var?_cell gNone hvb 0, by simpa using World.var?_cell gMany hvc 0, by simpa using World.var?_cell gTypeOf e5 0, hne⟩, ⟨cb, tb, hb⟩, ⟨cc, tc, hc⟩⟩

theorem int64_bounds {n : Int} (h : (Lit.int .i64 n).wf = true) : -9223372036854775808 ≤ n ∧ n ≤ 9223372036854775807 := by
  simp only [Lit.wf, Bool.and_eq_true, decide_eq_true_eq] at h
  exact h
theorem byte_bounds {n : Int} (h : (Lit.int .u8 n).wf = true) : 0 ≤ n ∧ n ≤ 255 := by
  simp only [Lit.wf, Bool.and_eq_true, decide_eq_true_eq] at h
  exact h

/-- The door's own heap meets the condition. -/
theorem door_met (os : Os) (args : Array Value) : laidMetH Tryz.prog laidAll ((World.doorLaid Tryz.prog 122 os).forCall (fun _ _ => 0) ⟨#[], args, []⟩).memory :=
  laidMetH_of_parts (laidMet_of_run' 8 (by kernel_rfl) (by kernel_rfl)) (by kernel_rfl)

theorem below_trodAll {H : Type} {enc : TypeId × Value → H} {W W' : World} (hb : Below W.heap.size W W') :
    ∀ {ts : List TypeId} {vs : List Value} {ds : List (DataW H)} {ps : List MemPlace}, (∀ t ∈ ts, Tryz.prog.readableRec t = true ∧ t < Tryz.prog.types.size) →
      DataW.TrodAll enc Tryz.prog W 0 (fun _ => true) true ts vs ds ps → (∀ x ∈ ps, x.block < W.heap.size) → DataW.TrodAll enc Tryz.prog W' 0 (fun b => decide (b < W.heap.size)) true ts vs ds ps
  | [], _, _, _, _, h, _ => by
    obtain ⟨rfl, rfl, rfl⟩ := trodAll_nil h
    exact trodAll_mk0
  | t :: ts, _, _, _, hr, h, hlt => by
    obtain ⟨v, vs', d, ds', p, q, rfl, rfl, rfl, h1, h2⟩ := trodAll_cons h
    exact trodAll_cons_mk (Below.trod laidOut (hr t (by simp)).1 (hr t (by simp)).2 h1 hb (fun x hx => hlt x (by simp [hx])))
      (below_trodAll hb (fun t' ht' => hr t' (by simp [ht'])) h2 (fun x hx => hlt x (by simp [hx])))

/-- A CALL THAT ANSWERS true AND TURNS NOTHING THAT LAY KEEPS THE LAW. -/
theorem law_post {H : Type} {enc : TypeId × Value → H} {f : Func} {s : ChangeSpec} {W W' : World} {args : Array Value} {ds gs : List (DataW H)} {before : List MemPlace}
    (hW : DataW.Whole enc Tryz.prog f.params.toList s.vars false W args.toList ds gs before) (hv : s.vars = []) (hrt : f.resultTypes = #[4])
    (hfn : s.fn H ds = { results := [.lit (.bool true)], args := ds }) (hr : ∀ t ∈ f.params.toList, Tryz.prog.readableRec t = true ∧ t < Tryz.prog.types.size) (hb : Below W.heap.size W W') :
    s.post enc Tryz.prog f false true false false W args (.bool true) W' := by
  have hlt : ∀ x ∈ before, x.block < W.heap.size := fun x hx => by simpa using hW.lt x hx
  have hW0 := hW
  obtain ⟨p, q, hA, hV, rfl, _, _⟩ := hW0
  rw [hv] at hV
  obtain ⟨rfl, rfl⟩ := trodVars_none hV
  have e1 : s.fn H (ds ++ []) = { results := [.lit (.bool true)], args := ds } := by rw [List.append_nil]; exact hfn
  refine ⟨ds, [], p ++ [], [], p, [], hW, ?_, ?_, ?_, World.keptBut_mono (fun _ h => h.elim) (hb.frame (fun _ => False)), fun h => by cases h⟩
  · rw [e1, hrt]
    exact trodAll_mk1 (shut_bool Tryz.underlying4 true)
  · rw [e1]
    exact below_trodAll hb hr hA (fun x hx => hlt x (by simp [hx]))
  · rw [e1, hv]
    rfl
end Go.Proofs.YthjfkngfgomkbaaGreatDoor
