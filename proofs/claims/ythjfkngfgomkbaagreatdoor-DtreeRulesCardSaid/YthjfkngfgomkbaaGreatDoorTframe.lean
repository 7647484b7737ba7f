/- What every law of package dtree shares: what the listed variables give, a start that meets the rows' condition, and: a call that answers true and turns nothing that lay keeps the law. -/
import Derived.Test.YthjfkngfgomkbaaGreatDoorTie
import Derived.Test.YthjfkngfgomkbaaGreatDoorCards
import Derived.Test.YthjfkngfgomkbaaGreatDoorTwr
import Derived.ProofKit
import Derived.OpenShut
import Derived.Deep.DeepHandedRow
import Derived.Deep.DeepWitnessRowRef
import Derived.Lib.LaidTab
import Derived.LaidMore
import Derived.LaidHandle
import Derived.Stop.LaidErr
namespace Go.Proofs.YthjfkngfgomkbaaGreatDoor
open Go.ChangeShapes Go.WideShapes Go.ChangeAt Go.RowKit

def strData {H : Type} (l : List (List UInt8)) : DataW H := .agg (l.map fun s => .lit (.string s))
/-- An array of texts that reads as the table holds its texts, cell for cell. -/
theorem cells_of_strs {H : Type} {enc : TypeId × Value → H} {P : Program} {w : World} {base : Nat} {sp : Nat → Bool} {held : Bool} {fuel : Nat} {t e : TypeId} {n : Nat} {cs : List Value} {zs : List (List UInt8)} {p : List MemPlace}
    (ht : P.underlying t = some (.array n e)) (he : P.underlying e = some .string) (hce : P.cellsOf e = 1) (hct : P.cellsOf t = n)
    (h : DataW.trod enc P w base sp held fuel t cs = some (strData zs, p)) : cs = zs.map bs := by
  cases fuel with
  | zero => simp [DataW.trod] at h
  | succ fuel =>
    simp only [DataW.trod, ht, hce, hct, Nat.mul_one] at h
    split at h
    · rename_i hl
      obtain ⟨xs, hm, hx⟩ := Option.map_eq_some_iff.1 h
      have hxs : xs.map (·.1) = zs.map fun z => (DataW.lit (.string z) : DataW H) := by
        have := congrArg Prod.fst hx
        simpa [strData] using this
      have hxl : xs.length = n := by simpa using Lib.mapM_length hm
      have hzl : zs.length = n := by
        have := congrArg List.length hxs
        simp at this
        omega
      apply List.ext_getElem?
      intro i
      by_cases hi : i < n
      · obtain ⟨b, hb, hf⟩ := Lib.mapM_at hm i i (by simp [hi])
        obtain ⟨z, hc, rfl, _⟩ := DataW.trod_string he hf
        have h1 : cs[i]? = some (.string z) := by
          have := congrArg (·[0]?) hc
          simpa [List.getElem?_take, List.getElem?_drop] using this
        have h2 : (xs.map (·.1))[i]? = some (DataW.lit (.string z.data.toList) : DataW H) := by simp [hb]
        rw [hxs] at h2
        simp only [List.getElem?_map, Option.map_eq_some_iff, DataW.lit.injEq, Lit.string.injEq] at h2
        obtain ⟨z', hz', rfl⟩ := h2
        simp [h1, hz', bs]
      · rw [List.getElem?_eq_none (by omega), List.getElem?_eq_none (by simp; omega)]
    · cases h
theorem strs_of_head {P : Program} {W : World} {name : String} {zs : List (List UInt8)} {rest : List (String × DataW Unit)} {g : Nat} {t e : TypeId} {n : Nat}
    (hg : P.globalNamed name = some g) (hty : (P.globals[g]?).map (·.type) = some t) (ht : P.underlying t = some (.array n e)) (he : P.underlying e = some .string) (hce : P.cellsOf e = 1) (hct : P.cellsOf t = n)
    (h : laidMet P ((name, strData zs) :: rest) W) : W.var? P name = some (zs.map bs).toArray := by
  obtain ⟨ps, ⟨g', t', cs, fuel, p, q, hg', ht', hvar, hd, _, _⟩, _⟩ := h
  obtain rfl := Option.some.inj (hg.symm.trans hg')
  obtain rfl := Option.some.inj (hty.symm.trans ht')
  rw [hvar, ← cells_of_strs ht he hce hct hd]
theorem own : ownKnob Tryz.prog.godebug = none := by kernel_rfl
theorem laidOut : laidOutB Tryz.prog = true := by kernel_rfl
theorem cellsE : Tryz.prog.cellsOf 233 = 1 := by kernel_rfl
theorem cellsS : Tryz.prog.cellsOf 9 = 1 := by kernel_rfl
theorem star : "*" ++ "errors.errorString" = "*errors.errorString" := by decide
theorem rowE (u : TypeId) (h : Tryz.prog.typeName? 3 u = some "*errors.errorString") : u = 214 :=
  typeName_ptr_named (nm := "errors.errorString") (by rw [star]; kernel_rfl) (by kernel_rfl) (by decide) u (by rw [star]; exact h)

theorem gTree : Tryz.prog.globalNamed "sorites/dtree.errTree" = some 1 := by kernel_rfl
theorem gTreeType : (Tryz.prog.globals[1]?).map (·.type) = some 52 := by kernel_rfl
theorem gTypes : Tryz.prog.globalNamed "sorites/dtree.typeWords" = some 4 := by kernel_rfl
theorem gTypesType : (Tryz.prog.globals[4]?).map (·.type) = some 153 := by kernel_rfl
theorem gSigns : Tryz.prog.globalNamed "sorites/dtree.termSigns" = some 8 := by kernel_rfl
theorem gSignsType : (Tryz.prog.globals[8]?).map (·.type) = some 171 := by kernel_rfl
theorem gWords : Tryz.prog.globalNamed "sorites/dtree.litWords" = some 5 := by kernel_rfl
theorem gWordsType : (Tryz.prog.globals[5]?).map (·.type) = some 156 := by kernel_rfl
theorem gPowType : (Tryz.prog.globals[9]?).map (·.type) = some 208 := by kernel_rfl
theorem cells20 : Tryz.prog.cellsOf 208 = 20 := by kernel_rfl
theorem cellsU : Tryz.prog.cellsOf 168 = 1 := by kernel_rfl
theorem cells3s : Tryz.prog.cellsOf 153 = 3 := by kernel_rfl
theorem cells8s : Tryz.prog.cellsOf 171 = 8 := by kernel_rfl
theorem cells11s : Tryz.prog.cellsOf 156 = 11 := by kernel_rfl
theorem gBruijn : Tryz.prog.globalNamed "math/bits.deBruijn64tab" = some 11 := by kernel_rfl
abbrev laidAll : List (String × DataW Unit) := [("math/bits.deBruijn32tab", Rows.laid_math_bits_deBruijn32tab), ("math/bits.deBruijn64tab", Rows.laid_math_bits_deBruijn64tab), ("internal/strconv.uint64pow10", Rows.laid_internal_strconv_uint64pow10), ("sorites/dtree.errTree", Rows.laid_sorites_dtree_errTree), ("sorites/dtree.typeWords", Rows.laid_sorites_dtree_typeWords), ("sorites/dtree.termSigns", Rows.laid_sorites_dtree_termSigns), ("sorites/dtree.litWords", Rows.laid_sorites_dtree_litWords)]
theorem pow10_tab : (Rows.laid_internal_strconv_uint64pow10 : DataW Unit) = Lib.tabData .u64 Lib.pow10Tab := by kernel_rfl
theorem types_tab : (Rows.laid_sorites_dtree_typeWords : DataW Unit) = strData [[], [110, 117, 109, 98, 101, 114], [115, 121, 109, 98, 111, 108]] := by kernel_rfl
theorem signs_tab : (Rows.laid_sorites_dtree_termSigns : DataW Unit) = strData [[], [], [], [], [], [43], [45], [42]] := by kernel_rfl
theorem words_tab : (Rows.laid_sorites_dtree_litWords : DataW Unit) = strData [[], [], [], [61], [33, 61], [60], [60, 61], [99, 111, 117, 110, 116], [115, 117, 109], [109, 105, 110], [109, 97, 120]] := by kernel_rfl
theorem var_lt {W : World} {n : String} {g : Nat} {cs : Array Value} (h : W.var? Tryz.prog n = some cs) (hg : Tryz.prog.globalNamed n = some g) : g < W.heap.size := by
  unfold World.var? at h
  simp only [hg, Option.bind_some] at h
  rcases Nat.lt_or_ge g W.heap.size with h' | h'
  · exact h'
  · simp [Array.getElem?_eq_none h'] at h

theorem env_of_laid {W : World} (h : laidMetH Tryz.prog laidAll W) : ∃ a, TEnv a W := by
  rw [MakeChecks.laidMetH_plain _ _ _ (by kernel_rfl)] at h
  have h3 := h.tail.tail
  rw [pow10_tab, types_tab, signs_tab, words_tab] at h3
  have ht : Lib.TabIs Tryz.prog W "internal/strconv.uint64pow10" .u64 Lib.pow10Tab := Lib.tabIs_of_head gPow gPowType Tryz.underlying208 Tryz.underlying168 cellsU cells20 h3
  obtain ⟨a, s, hv, _⟩ := laid_sentinel h3.tail gTree gTreeType Tryz.underlying52 rowE Tryz.underlying214 Tryz.underlying233 rfl rfl Tryz.underlying9 cellsE cellsS
  have v1 := strs_of_head gTypes gTypesType Tryz.underlying153 Tryz.underlying9 cellsS cells3s h3.tail.tail
  have v2 := strs_of_head gSigns gSignsType Tryz.underlying171 Tryz.underlying9 cellsS cells8s h3.tail.tail.tail
  have v3 := strs_of_head gWords gWordsType Tryz.underlying156 Tryz.underlying9 cellsS cells11s h3.tail.tail.tail.tail
  refine ⟨a, ⟨by simpa using World.var?_cell gTree hv 0, var_lt hv gTree⟩, fun k v hk => ?_, fun k v hk => ?_, fun k v hk => ?_, ht, ?_⟩
  · rw [World.var?_cell gTypes v1 k]; simpa [typeTab] using hk
  · rw [World.var?_cell gSigns v2 k]; simpa [signTab] using hk
  · rw [World.var?_cell gWords v3 k]; simpa [wordTab] using hk
  · have h2 := h.tail
    obtain ⟨ps, ⟨g', t', cs, fuel, p, q, hg', ht', hvar, _⟩, _⟩ := h2
    have := var_lt hvar gBruijn
    omega
theorem int64_bounds {n : Int} (h : (Lit.int .i64 n).wf = true) : -9223372036854775808 ≤ n ∧ n ≤ 9223372036854775807 := by
  simp only [Lit.wf, Bool.and_eq_true, decide_eq_true_eq] at h
  exact h
theorem byte_bounds {n : Int} (h : (Lit.int .u8 n).wf = true) : 0 ≤ n ∧ n ≤ 255 := by
  simp only [Lit.wf, Bool.and_eq_true, decide_eq_true_eq] at h
  exact h

/-- The door's own heap meets the condition. -/
theorem door_met (os : Os) (args : Array Value) : laidMetH Tryz.prog laidAll ((World.doorLaid Tryz.prog 122 os).forCall (fun _ _ => 0) ⟨#[], args, []⟩).memory := by
  rw [MakeChecks.laidMetH_plain _ _ _ (by kernel_rfl)]
  exact laidMet_of_run' 8 (by kernel_rfl) (by kernel_rfl)
theorem below_trodAll {H : Type} {enc : TypeId × Value → H} {W W' : World} (hb : Below W.heap.size W W') :
    ∀ {ts : List TypeId} {vs : List Value} {ds : List (DataW H)} {ps : List MemPlace}, (∀ t ∈ ts, Tryz.prog.readableRec t = true ∧ t < Tryz.prog.types.size) →
      DataW.TrodAll enc Tryz.prog W 0 (fun _ => true) true ts vs ds ps → (∀ x ∈ ps, x.block < W.heap.size) → DataW.TrodAll enc Tryz.prog W' 0 (fun b => decide (b < W.heap.size)) true ts vs ds ps
  | [], _, _, _, _, h, _ => by
    obtain ⟨rfl, rfl, rfl⟩ := trodAll_nil h
    exact trodAll_mk0
  | t :: ts, _, _, _, hr, h, hlt => by
    obtain ⟨v, vs', d, ds', p, q, rfl, rfl, rfl, h1, h2⟩ := trodAll_cons h
    exact trodAll_cons_mk (Below.trod laidOut (hr t (by simp)).1 (hr t (by simp)).2 h1 hb (fun x hx => hlt x (by simp [hx])))
      (below_trodAll hb (fun t' ht' => hr t' (by simp [ht'])) h2 (fun x hx => hlt x (by simp [hx])))

/-- A CALL THAT ANSWERS true AND TURNS NOTHING THAT LAY KEEPS THE LAW. -/
theorem law_post {H : Type} {enc : TypeId × Value → H} {f : Func} {s : ChangeSpec} {W W' : World} {args : Array Value} {ds gs : List (DataW H)} {before : List MemPlace}
    (hW : DataW.Whole enc Tryz.prog f.params.toList s.vars false W args.toList ds gs before) (hv : s.vars = []) (hrt : f.resultTypes = #[4])
    (hfn : s.fn H ds = { results := [.lit (.bool true)], args := ds }) (hr : ∀ t ∈ f.params.toList, Tryz.prog.readableRec t = true ∧ t < Tryz.prog.types.size) (hb : Below W.heap.size W W') :
    s.post enc Tryz.prog f false true false false W args (.bool true) W' := by
  have hlt : ∀ x ∈ before, x.block < W.heap.size := fun x hx => by simpa using hW.lt x hx
  have hW0 := hW
  obtain ⟨p, q, hA, hV, rfl, _, _⟩ := hW0
  rw [hv] at hV
  obtain ⟨rfl, rfl⟩ := trodVars_none hV
  have e1 : s.fn H (ds ++ []) = { results := [.lit (.bool true)], args := ds } := by rw [List.append_nil]; exact hfn
  refine ⟨ds, [], p ++ [], [], p, [], hW, ?_, ?_, ?_, World.keptBut_mono (fun _ h => h.elim) (hb.frame (fun _ => False)), fun h => by cases h⟩
  · rw [e1, hrt]
    exact trodAll_mk1 (shut_bool Tryz.underlying4 true)
  · rw [e1]
    exact below_trodAll hb hr hA (fun x hx => hlt x (by simp [hx]))
  · rw [e1, hv]
    rfl
end Go.Proofs.YthjfkngfgomkbaaGreatDoor
