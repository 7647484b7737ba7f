/- errors.Is of one sentinel and another; dtype.numberOf. What the laws of layer 5 read of the listed variables, all together. What every law of package dtype shares: what the listed variables give, a start that meets the rows' condition, and: a call that answers true and turns nothing that lay keeps the law. Lists of relations and of numbers among the arguments, opened. dtype.visit: every term of a list and within it, each ahead of its parts, until the round says 'no more'; the rounds may write blocks that they own. dtype.eachTerm: a function over which a range goes through all terms of a rule. -/
import Derived.Test.YtbpdfmpfnbdeoaaGreatDoorKAny
import Derived.Test.YtbpdfmpfnbdeoaaGreatDoorKTy
import Derived.Stop.Asserts
import Derived.Test.YtbpdfmpfnbdeoaaGreatDoorKTchk2
import Derived.Test.YtbpdfmpfnbdeoaaGreatDoorTie
import Derived.Test.YtbpdfmpfnbdeoaaGreatDoorCards
import Derived.ProofKit
import Derived.OpenShut
import Derived.Deep.DeepHandedRow
import Derived.Deep.DeepWitnessRowRef
import Derived.LaidMore
import Derived.LaidHandle
import Derived.Stop.LaidErr
import Derived.Stop.LaidTwo
import Derived.Test.YtbpdfmpfnbdeoaaGreatDoorKName
import Derived.ChangeArms
import Derived.ChangeSame
import Derived.Test.YtbpdfmpfnbdeoaaGreatDoorKTvisit
import Derived.Deep.AppendLies
namespace Go.Proofs.YtbpdfmpfnbdeoaaGreatDoor
open Go.RowKit Go.Extern Go.Extern.Rtype Go.Extern.Stop Go.Stop

theorem noIsE (v : Value) (xT : TypeId) (w : World) : (Instr.typeAssert (.iface 191 v) xT 165 true).run Tryz.prog w = .ok (.tuple #[.nilIface, .bool false]) w := run_typeAssert_lacksB Tryz.underlying165 (by kernel_rfl) (by kernel_rfl) v xT w
theorem noUnwrapE (v : Value) (xT : TypeId) (w : World) : (Instr.typeAssert (.iface 191 v) xT 168 true).run Tryz.prog w = .ok (.tuple #[.nilIface, .bool false]) w := run_typeAssert_lacksB Tryz.underlying168 (by kernel_rfl) (by kernel_rfl) v xT w
theorem noUnwrapsE (v : Value) (xT : TypeId) (w : World) : (Instr.typeAssert (.iface 191 v) xT 170 true).run Tryz.prog w = .ok (.tuple #[.nilIface, .bool false]) w := run_typeAssert_lacksB Tryz.underlying170 (by kernel_rfl) (by kernel_rfl) v xT w
set_option maxRecDepth 100000 in
set_option maxHeartbeats 2000000 in
/-- errors.Is(b, c), two sentinels. -/
theorem is_other (b c : Addr) (w : World) (hne : b ≠ c) {cb cc : Array Value} {tb tc : TypeId} (hb : w.heap[b.block]? = some (.cells cb tb (0, 0))) (hc : w.heap[c.block]? = some (.cells cc tc (0, 0))) :
    Calls Tryz.prog 60 #[.iface 191 (.pointer (some b)), .iface 191 (.pointer (some c))] w fun e w' => e = .returned (.bool false) ∧ w = w' := by
  obtain ⟨i, hi, hcmp⟩ := Option.map_eq_some_iff.1 isComp
  obtain ⟨j, hj, hjs⟩ := Option.map_eq_some_iff.1 isSize
  have h39 := @run_callFunc_extern Tryz.prog 93 _ Extern.ReflectliteType.typeOf Tryz.func93 (by kernel_rfl) (by kernel_rfl) (by kernel_rfl) (by kernel_rfl)
  have tT := isTypeOf
  have cT := isCalled
  have mR := isMethodComparable
  have nE := noIsE
  have uE := noUnwrapE
  have vE := noUnwrapsE
  have heq := run_eql_iface_ptr_other (P := Tryz.prog) w Tryz.underlying62 Tryz.underlying191 hi hcmp hj (by rw [hjs]; decide) hne hb hc
  clear hb hc
  go_enter Tryz.func60, Tryz.ntmps60
  go_wp2
  refine wp_loop_rounds 1 ?_
  rw [rounds_succ]
  go_wp2
  go_ret
  exact ⟨rfl, rfl⟩
/-- The four errors are four. -/
structure YDiff (a b c d : Addr) (w : World) : Prop where
  ab : a ≠ b
  ac : a ≠ c
  ad : a ≠ d
  cb : c ≠ b
  db : d ≠ b
  dc : d ≠ c
  ra : ∃ cs t, w.heap[a.block]? = some (.cells cs t (0, 0))
  rb : ∃ cs t, w.heap[b.block]? = some (.cells cs t (0, 0))
  rc : ∃ cs t, w.heap[c.block]? = some (.cells cs t (0, 0))
  rd : ∃ cs t, w.heap[d.block]? = some (.cells cs t (0, 0))
set_option maxRecDepth 100000 in
set_option maxHeartbeats 2000000 in
theorem num_ty (n : Nat) (a b c d : Addr) (w : World) (E : YEnv n a b c d w) (D : YDiff a b c d w) :
    Calls Tryz.prog 32 #[errV a] w fun e w' => e = .returned (.int .i64 53) ∧ w = w' := by
  have h1 := E.ty
  have h2 := E.tw
  have h3 := E.no
  have h4 := E.ar
  unfold errV at *
  obtain ⟨ca, ta, ra⟩ := D.ra
  obtain ⟨cb, tb, rb⟩ := D.rb
  obtain ⟨cc, tc, rc⟩ := D.rc
  obtain ⟨cd, td, rd⟩ := D.rd
  have Hab := Lib.hid (is_other a b w D.ab ra rb)
  have Hac := Lib.hid (is_other a c w D.ac ra rc)
  have Had := Lib.hid (is_other a d w D.ad ra rd)
  have Hcb := Lib.hid (is_other c b w D.cb rc rb)
  have Hdb := Lib.hid (is_other d b w D.db rd rb)
  have Hdc := Lib.hid (is_other d c w D.dc rd rc)
  clear ra rb rc rd E D
  go_enter Tryz.func32, Tryz.ntmps32
  go_wp2_with fail
  refine (Hab.out).mono ?_
  rintro e w' ⟨rfl, rfl⟩
  go_wp2_with fail
  refine (Hac.out).mono ?_
  rintro e w' ⟨rfl, rfl⟩
  go_wp2_with fail
  refine (Had.out).mono ?_
  rintro e w' ⟨rfl, rfl⟩
  go_wp2_with fail
  refine (is_same a w).mono ?_
  rintro e w' ⟨rfl, rfl⟩
  go_wp2
  go_ret
  exact ⟨rfl, rfl⟩
set_option maxRecDepth 100000 in
set_option maxHeartbeats 2000000 in
theorem num_no (n : Nat) (a b c d : Addr) (w : World) (E : YEnv n a b c d w) (D : YDiff a b c d w) :
    Calls Tryz.prog 32 #[errV c] w fun e w' => e = .returned (.int .i64 51) ∧ w = w' := by
  have h1 := E.ty
  have h2 := E.tw
  have h3 := E.no
  have h4 := E.ar
  unfold errV at *
  obtain ⟨ca, ta, ra⟩ := D.ra
  obtain ⟨cb, tb, rb⟩ := D.rb
  obtain ⟨cc, tc, rc⟩ := D.rc
  obtain ⟨cd, td, rd⟩ := D.rd
  have Hab := Lib.hid (is_other a b w D.ab ra rb)
  have Hac := Lib.hid (is_other a c w D.ac ra rc)
  have Had := Lib.hid (is_other a d w D.ad ra rd)
  have Hcb := Lib.hid (is_other c b w D.cb rc rb)
  have Hdb := Lib.hid (is_other d b w D.db rd rb)
  have Hdc := Lib.hid (is_other d c w D.dc rd rc)
  clear ra rb rc rd E D
  go_enter Tryz.func32, Tryz.ntmps32
  go_wp2_with fail
  refine (Hcb.out).mono ?_
  rintro e w' ⟨rfl, rfl⟩
  go_wp2_with fail
  refine (is_same c w).mono ?_
  rintro e w' ⟨rfl, rfl⟩
  go_wp2
  go_ret
  exact ⟨rfl, rfl⟩
set_option maxRecDepth 100000 in
set_option maxHeartbeats 2000000 in
theorem num_ar (n : Nat) (a b c d : Addr) (w : World) (E : YEnv n a b c d w) (D : YDiff a b c d w) :
    Calls Tryz.prog 32 #[errV d] w fun e w' => e = .returned (.int .i64 52) ∧ w = w' := by
  have h1 := E.ty
  have h2 := E.tw
  have h3 := E.no
  have h4 := E.ar
  unfold errV at *
  obtain ⟨ca, ta, ra⟩ := D.ra
  obtain ⟨cb, tb, rb⟩ := D.rb
  obtain ⟨cc, tc, rc⟩ := D.rc
  obtain ⟨cd, td, rd⟩ := D.rd
  have Hab := Lib.hid (is_other a b w D.ab ra rb)
  have Hac := Lib.hid (is_other a c w D.ac ra rc)
  have Had := Lib.hid (is_other a d w D.ad ra rd)
  have Hcb := Lib.hid (is_other c b w D.cb rc rb)
  have Hdb := Lib.hid (is_other d b w D.db rd rb)
  have Hdc := Lib.hid (is_other d c w D.dc rd rc)
  clear ra rb rc rd E D
  go_enter Tryz.func32, Tryz.ntmps32
  go_wp2_with fail
  refine (Hdb.out).mono ?_
  rintro e w' ⟨rfl, rfl⟩
  go_wp2_with fail
  refine (Hdc.out).mono ?_
  rintro e w' ⟨rfl, rfl⟩
  go_wp2_with fail
  refine (is_same d w).mono ?_
  rintro e w' ⟨rfl, rfl⟩
  go_wp2
  go_ret
  exact ⟨rfl, rfl⟩
set_option maxRecDepth 100000 in
set_option maxHeartbeats 2000000 in
theorem num_tw (n : Nat) (a b c d : Addr) (w : World) (E : YEnv n a b c d w) (D : YDiff a b c d w) :
    Calls Tryz.prog 32 #[errV b] w fun e w' => e = .returned (.int .i64 50) ∧ w = w' := by
  have h1 := E.ty
  have h2 := E.tw
  have h3 := E.no
  have h4 := E.ar
  unfold errV at *
  obtain ⟨ca, ta, ra⟩ := D.ra
  obtain ⟨cb, tb, rb⟩ := D.rb
  obtain ⟨cc, tc, rc⟩ := D.rc
  obtain ⟨cd, td, rd⟩ := D.rd
  have Hab := Lib.hid (is_other a b w D.ab ra rb)
  have Hac := Lib.hid (is_other a c w D.ac ra rc)
  have Had := Lib.hid (is_other a d w D.ad ra rd)
  have Hcb := Lib.hid (is_other c b w D.cb rc rb)
  have Hdb := Lib.hid (is_other d b w D.db rd rb)
  have Hdc := Lib.hid (is_other d c w D.dc rd rc)
  clear ra rb rc rd E D
  go_enter Tryz.func32, Tryz.ntmps32
  go_wp2_with fail
  refine (is_same b w).mono ?_
  rintro e w' ⟨rfl, rfl⟩
  go_wp2
  go_ret
  exact ⟨rfl, rfl⟩
set_option maxRecDepth 100000 in
set_option maxHeartbeats 2000000 in
theorem num_nil (n : Nat) (a b c d : Addr) (w : World) (E : YEnv n a b c d w) (D : YDiff a b c d w) :
    Calls Tryz.prog 32 #[.nilIface] w fun e w' => e = .returned (.int .i64 0) ∧ w = w' := by
  have h1 := E.ty
  have h2 := E.tw
  have h3 := E.no
  have h4 := E.ar
  unfold errV at *
  obtain ⟨ca, ta, ra⟩ := D.ra
  obtain ⟨cb, tb, rb⟩ := D.rb
  obtain ⟨cc, tc, rc⟩ := D.rc
  obtain ⟨cd, td, rd⟩ := D.rd
  have Hab := Lib.hid (is_other a b w D.ab ra rb)
  have Hac := Lib.hid (is_other a c w D.ac ra rc)
  have Had := Lib.hid (is_other a d w D.ad ra rd)
  have Hcb := Lib.hid (is_other c b w D.cb rc rb)
  have Hdb := Lib.hid (is_other d b w D.db rd rb)
  have Hdc := Lib.hid (is_other d c w D.dc rd rc)
  clear ra rb rc rd E D
  go_enter Tryz.func32, Tryz.ntmps32
  go_wp2_with fail
  refine (is_nil b w).mono ?_
  rintro e w' ⟨rfl, rfl⟩
  go_wp2_with fail
  refine (is_nil c w).mono ?_
  rintro e w' ⟨rfl, rfl⟩
  go_wp2_with fail
  refine (is_nil d w).mono ?_
  rintro e w' ⟨rfl, rfl⟩
  go_wp2_with fail
  refine (is_nil a w).mono ?_
  rintro e w' ⟨rfl, rfl⟩
  go_wp2
  go_ret
  exact ⟨rfl, rfl⟩
end Go.Proofs.YtbpdfmpfnbdeoaaGreatDoor
namespace Go.Proofs.YtbpdfmpfnbdeoaaGreatDoor
open Go.RowKit

structure EnvY (e a b c d : Addr) (w : World) : Prop where
  tr : TErr e w
  y : YEnv w.heap.size a b c d w
  df : YDiff a b c d w
theorem heap_lt {w : World} {i : Nat} {o : Obj} (h : w.heap[i]? = some o) : i < w.heap.size := (Array.getElem?_eq_some_iff.1 h).1
theorem YDiff.below {a b c d : Addr} {w w' : World} (h : YDiff a b c d w) (hb : Below w.heap.size w w') : YDiff a b c d w' := by
  have k : ∀ {x : Addr}, (∃ cs t, w.heap[x.block]? = some (.cells cs t (0, 0))) → ∃ cs t, w'.heap[x.block]? = some (.cells cs t (0, 0)) := fun ⟨cs, t, h⟩ => ⟨cs, t, (hb.block _ (heap_lt h)).trans h⟩
  exact ⟨h.ab, h.ac, h.ad, h.cb, h.db, h.dc, k h.ra, k h.rb, k h.rc, k h.rd⟩
theorem YEnv.more {n m : Nat} {a b c d : Addr} {w : World} (h : YEnv n a b c d w) (hm : n ≤ m) : YEnv m a b c d w := ⟨h.ty, h.tw, h.no, h.ar, by have := h.big; omega⟩
theorem EnvY.below {e a b c d : Addr} {w w' : World} (h : EnvY e a b c d w) (hb : Below w.heap.size w w') : EnvY e a b c d w' :=
  ⟨h.tr.below hb, (h.y.below hb).more hb.size, h.df.below hb⟩
end Go.Proofs.YtbpdfmpfnbdeoaaGreatDoor
namespace Go.Proofs.YtbpdfmpfnbdeoaaGreatDoor
open Go.ChangeShapes Go.WideShapes Go.ChangeAt Go.RowKit

/-- The list without its second entry. -/
theorem laid_skip {P : Program} {x y : String × DataW Unit} {r : List (String × DataW Unit)} {w : World} (h : laidMet P (x :: y :: r) w) : laidMet P (x :: r) w := by
  obtain ⟨ps, hv, hnd, hrows⟩ := h
  obtain ⟨n, d⟩ := x
  obtain ⟨m, e⟩ := y
  obtain ⟨g, t, cs, fuel, p, q, h1, h2, h3, h4, hq, rfl⟩ := hv
  obtain ⟨g', t', cs', fuel', p', q', _, _, _, _, hq', rfl⟩ := hq
  have hs : List.Sublist (MemPlace.row ⟨g, 0, none⟩ cs.size ++ p ++ q') (MemPlace.row ⟨g, 0, none⟩ cs.size ++ p ++ (MemPlace.row ⟨g', 0, none⟩ cs'.size ++ p' ++ q')) := (List.sublist_append_right _ _).append_left _
  exact ⟨_, ⟨g, t, cs, fuel, p, q', h1, h2, h3, h4, hq', rfl⟩, hnd.sublist hs, fun b off hm => hrows b off (hs.subset hm)⟩
theorem own : ownKnob Tryz.prog.godebug = none := by kernel_rfl
theorem laidOut : laidOutB Tryz.prog = true := by kernel_rfl
theorem cellsE : Tryz.prog.cellsOf 216 = 1 := by kernel_rfl
theorem cellsS : Tryz.prog.cellsOf 9 = 1 := by kernel_rfl
theorem star : "*" ++ "errors.errorString" = "*errors.errorString" := by decide
theorem rowE (u : TypeId) (h : Tryz.prog.typeName? 3 u = some "*errors.errorString") : u = 191 :=
  typeName_ptr_named (nm := "errors.errorString") (by rw [star]; kernel_rfl) (by kernel_rfl) (by decide) u (by rw [star]; exact h)

theorem gTree : Tryz.prog.globalNamed "sorites/dtree.errTree" = some 0 := by kernel_rfl
theorem gTreeType : (Tryz.prog.globals[0]?).map (·.type) = some 62 := by kernel_rfl
theorem gTw : Tryz.prog.globalNamed "sorites/dtype.errTwice" = some 1 := by kernel_rfl
theorem gTwT : (Tryz.prog.globals[1]?).map (·.type) = some 62 := by kernel_rfl
theorem gNo : Tryz.prog.globalNamed "sorites/dtype.errNoRel" = some 2 := by kernel_rfl
theorem gNoT : (Tryz.prog.globals[2]?).map (·.type) = some 62 := by kernel_rfl
theorem gAr : Tryz.prog.globalNamed "sorites/dtype.errArity" = some 3 := by kernel_rfl
theorem gArT : (Tryz.prog.globals[3]?).map (·.type) = some 62 := by kernel_rfl
theorem gTy : Tryz.prog.globalNamed "sorites/dtype.errType" = some 4 := by kernel_rfl
theorem gTyT : (Tryz.prog.globals[4]?).map (·.type) = some 62 := by kernel_rfl
abbrev laidAll : List (String × DataW Unit) := [("sorites/dtree.errTree", Rows.laid_sorites_dtree_errTree), ("sorites/dtype.errTwice", Rows.laid_sorites_dtype_errTwice), ("sorites/dtype.errNoRel", Rows.laid_sorites_dtype_errNoRel), ("sorites/dtype.errArity", Rows.laid_sorites_dtype_errArity), ("sorites/dtype.errType", Rows.laid_sorites_dtype_errType)]
theorem var_lt {W : World} {n : String} {g : Nat} {cs : Array Value} (h : W.var? Tryz.prog n = some cs) (hg : Tryz.prog.globalNamed n = some g) : g < W.heap.size := by
  unfold World.var? at h
  simp only [hg, Option.bind_some] at h
  rcases Nat.lt_or_ge g W.heap.size with h' | h'
  · exact h'
  · simp [Array.getElem?_eq_none h'] at h
theorem same_ptr {W : World} {n : String} {a b : Addr} (h : W.var? Tryz.prog n = some #[.iface 191 (.pointer (some a))]) (k : W.var? Tryz.prog n = some #[.iface 191 (.pointer (some b))]) : a = b := by
  rw [h] at k
  simpa using k

theorem env_of_laid {W : World} (h : laidMetH Tryz.prog laidAll W) : ∃ e a b c d, EnvY e a b c d W := by
  rw [MakeChecks.laidMetH_plain _ _ _ (by kernel_rfl)] at h
  have two := fun {n0 n1 : String} {text0 text1 : List UInt8} {r : List (String × DataW Unit)} {g0 g1 : Nat} (h : laidMet Tryz.prog ((n0, .iface "*errors.errorString" (.ptr (.agg [.lit (.string text0)]))) :: (n1, .iface "*errors.errorString" (.ptr (.agg [.lit (.string text1)]))) :: r) W) (hg0 : Tryz.prog.globalNamed n0 = some g0) (ht0 : (Tryz.prog.globals[g0]?).map (·.type) = some 62) (hg1 : Tryz.prog.globalNamed n1 = some g1) (ht1 : (Tryz.prog.globals[g1]?).map (·.type) = some 62) =>
    laid_sentinels2 h hg0 ht0 hg1 ht1 Tryz.underlying62 rowE Tryz.underlying191 Tryz.underlying216 rfl rfl Tryz.underlying9 cellsE cellsS
  obtain ⟨e, se, hve, _⟩ := laid_sentinel h gTree gTreeType Tryz.underlying62 rowE Tryz.underlying191 Tryz.underlying216 rfl rfl Tryz.underlying9 cellsE cellsS
  have t1 := h.tail
  obtain ⟨b, c, _, _, cb, cc, tb, tc, hvb, hvc, _, _, _, _, _, _, hbc, rb, rc⟩ := two t1 gTw gTwT gNo gNoT
  obtain ⟨b2, d, _, _, _, cd, _, td, hvb2, hvd, _, _, _, _, _, _, hbd, _, rd⟩ := two (laid_skip t1) gTw gTwT gAr gArT
  obtain ⟨b3, a, _, _, _, ca, _, ta, hvb3, hva, _, _, _, _, _, _, hba, _, ra⟩ := two (laid_skip (laid_skip t1)) gTw gTwT gTy gTyT
  obtain ⟨c2, d2, _, _, _, _, _, _, hvc2, hvd2, _, _, _, _, _, _, hcd, _, _⟩ := two t1.tail gNo gNoT gAr gArT
  obtain ⟨c3, a2, _, _, _, _, _, _, hvc3, hva2, _, _, _, _, _, _, hca, _, _⟩ := two (laid_skip t1.tail) gNo gNoT gTy gTyT
  obtain ⟨d3, a3, _, _, _, _, _, _, hvd3, hva3, _, _, _, _, _, _, hda, _, _⟩ := two t1.tail.tail gAr gArT gTy gTyT
  obtain rfl := same_ptr hvb hvb2
  obtain rfl := same_ptr hvb hvb3
  obtain rfl := same_ptr hvc hvc2
  obtain rfl := same_ptr hvc hvc3
  obtain rfl := same_ptr hvd hvd2
  obtain rfl := same_ptr hvd hvd3
  obtain rfl := same_ptr hva hva2
  obtain rfl := same_ptr hva hva3
  exact ⟨e, a, b, c, d, ⟨by simpa using World.var?_cell gTree hve 0, var_lt hve gTree⟩, ⟨by simpa [errV] using World.var?_cell gTy hva 0, by simpa [errV] using World.var?_cell gTw hvb 0, by simpa [errV] using World.var?_cell gNo hvc 0, by simpa [errV] using World.var?_cell gAr hvd 0, var_lt hva gTy, var_lt hvb gTw, var_lt hvc gNo, var_lt hvd gAr⟩,
    ⟨Ne.symm hba, Ne.symm hca, Ne.symm hda, Ne.symm hbc, Ne.symm hbd, Ne.symm hcd, ⟨ca, ta, ra⟩, ⟨cb, tb, rb⟩, ⟨cc, tc, rc⟩, ⟨cd, td, rd⟩⟩⟩
theorem int64_bounds {n : Int} (h : (Lit.int .i64 n).wf = true) : -9223372036854775808 ≤ n ∧ n ≤ 9223372036854775807 := by
  simp only [Lit.wf, Bool.and_eq_true, decide_eq_true_eq] at h
  exact h
/-- The door's own heap meets the condition. -/
theorem door_met (os : Os) (args : Array Value) : laidMetH Tryz.prog laidAll ((World.doorLaid Tryz.prog 142 os).forCall (fun _ _ => 0) ⟨#[], args, []⟩).memory := by
  rw [MakeChecks.laidMetH_plain _ _ _ (by kernel_rfl)]
  exact laidMet_of_run' 8 (by kernel_rfl) (by kernel_rfl)
theorem below_trodAll {H : Type} {enc : TypeId × Value → H} {W W' : World} (hb : Below W.heap.size W W') :
    ∀ {ts : List TypeId} {vs : List Value} {ds : List (DataW H)} {ps : List MemPlace}, (∀ t ∈ ts, Tryz.prog.readableRec t = true ∧ t < Tryz.prog.types.size) →
      DataW.TrodAll enc Tryz.prog W 0 (fun _ => true) true ts vs ds ps → (∀ x ∈ ps, x.block < W.heap.size) → DataW.TrodAll enc Tryz.prog W' 0 (fun b => decide (b < W.heap.size)) true ts vs ds ps
  | [], _, _, _, _, h, _ => by
    obtain ⟨rfl, rfl, rfl⟩ := trodAll_nil h
    exact trodAll_mk0
  | t :: ts, _, _, _, hr, h, hlt => by
    obtain ⟨v, vs', d, ds', p, q, rfl, rfl, rfl, h1, h2⟩ := trodAll_cons h
    exact trodAll_cons_mk (Below.trod laidOut (hr t (by simp)).1 (hr t (by simp)).2 h1 hb (fun x hx => hlt x (by simp [hx])))
      (below_trodAll hb (fun t' ht' => hr t' (by simp [ht'])) h2 (fun x hx => hlt x (by simp [hx])))

/-- A CALL THAT ANSWERS true AND TURNS NOTHING THAT LAY KEEPS THE LAW. -/
theorem law_post {H : Type} {enc : TypeId × Value → H} {f : Func} {s : ChangeSpec} {W W' : World} {args : Array Value} {ds gs : List (DataW H)} {before : List MemPlace}
    (hW : DataW.Whole enc Tryz.prog f.params.toList s.vars false W args.toList ds gs before) (hv : s.vars = []) (hrt : f.resultTypes = #[4])
    (hfn : s.fn H ds = { results := [.lit (.bool true)], args := ds }) (hr : ∀ t ∈ f.params.toList, Tryz.prog.readableRec t = true ∧ t < Tryz.prog.types.size) (hb : Below W.heap.size W W') :
    s.post enc Tryz.prog f false true false false W args (.bool true) W' := by
  have hlt : ∀ x ∈ before, x.block < W.heap.size := fun x hx => by simpa using hW.lt x hx
  have hW0 := hW
  obtain ⟨p, q, hA, hV, rfl, _, _⟩ := hW0
  rw [hv] at hV
  obtain ⟨rfl, rfl⟩ := trodVars_none hV
  have e1 : s.fn H (ds ++ []) = { results := [.lit (.bool true)], args := ds } := by rw [List.append_nil]; exact hfn
  refine ⟨ds, [], p ++ [], [], p, [], hW, ?_, ?_, ?_, World.keptBut_mono (fun _ h => h.elim) (hb.frame (fun _ => False)), fun h => by cases h⟩
  · rw [e1, hrt]
    exact trodAll_mk1 (shut_bool Tryz.underlying4 true)
  · rw [e1]
    exact below_trodAll hb hr hA (fun x hx => hlt x (by simp [hx]))
  · rw [e1, hv]
    rfl
end Go.Proofs.YtbpdfmpfnbdeoaaGreatDoor
namespace Go.Proofs.YtbpdfmpfnbdeoaaGreatDoor
open Go.RowKit Go.ChangeShapes Go.WideShapes

set_option maxRecDepth 100000 in
theorem open_decls {H : Type} {enc : TypeId × Value → H} {w : World} {b0 : Nat} {v : Value} {d : DataW H} {p : List MemPlace}
    (hv : Value.okWide Tryz.prog w .any b0 22 v) (h : DataW.Trod enc Tryz.prog w 0 (fun _ => true) true 22 v d p) : ∃ l, SlOf w w.heap.size 6 (DeC w w.heap.size) l v := by
  obtain ⟨o, len, cap, rfl⟩ := okWide_slice Tryz.underlying22 hv
  obtain ⟨fuel, hf⟩ := h
  exact open_sl (R := DeC w w.heap.size) Tryz.underlying22 cDecl (by omega) (fun m cs y hm hy => open_decl m cs y hy) hf
set_option maxRecDepth 100000 in
theorem open_ints {H : Type} {enc : TypeId × Value → H} {w : World} {b0 : Nat} {v : Value} {d : DataW H} {p : List MemPlace}
    (hv : Value.okWide Tryz.prog w .any b0 39 v) (h : DataW.Trod enc Tryz.prog w 0 (fun _ => true) true 39 v d p) : ∃ l, SlOf w w.heap.size 1 IntC l v := by
  obtain ⟨o, len, cap, rfl⟩ := okWide_slice Tryz.underlying39 hv
  obtain ⟨fuel, hf⟩ := h
  exact open_sl (R := IntC) Tryz.underlying39 cInt (by omega) (fun m cs y hm hy => by obtain ⟨s, e, _, z⟩ := DataW.trod_int Tryz.underlying3 hy; exact ⟨s, e, wf_i64 z⟩) hf
end Go.Proofs.YtbpdfmpfnbdeoaaGreatDoor
namespace Go.Proofs.YtbpdfmpfnbdeoaaGreatDoor
open Go.RowKit Go.Shelf

attribute [local go_sem] Oper.semAt_some

/-- Every block stays but those that S owns; what S owns later it owned before, or it is new. -/
structure KO (S : World → Nat → Prop) (W W' : World) : Prop where
  size : W.heap.size ≤ W'.heap.size
  same : ∀ i o, W.heap[i]? = some o → o.isCells = true → ¬ S W i → W'.heap[i]? = some o
  own : ∀ i, S W' i → S W i ∨ W.heap.size ≤ i
  wf : (∀ i, S W i → i < W.heap.size) → ∀ i, S W' i → i < W'.heap.size
theorem KO.refl (S : World → Nat → Prop) (W : World) : KO S W W := ⟨Nat.le_refl _, fun _ _ h _ _ => h, fun _ h => .inl h, fun h => h⟩
/-- What owns nothing new grows. -/
def SGrow (S : World → Nat → Prop) : Prop := ∀ W W', (∀ i, S W i → i < W.heap.size) → Below W.heap.size W W' → ∀ i, S W' i → S W i
theorem KO.of_below {S : World → Nat → Prop} (hG : SGrow S) {W W' : World} (hw : ∀ i, S W i → i < W.heap.size) (hb : Below W.heap.size W W') : KO S W W' :=
  ⟨hb.size, fun i _ ho _ _ => (hb.block i (Array.getElem?_eq_some_iff.1 ho).1).trans ho, fun i h => .inl (hG W W' hw hb i h), fun h i hi => Nat.lt_of_lt_of_le (h i (hG W W' hw hb i hi)) hb.size⟩
/-- What is seen in w0 lies in W, and none of it is owned. -/
def Safe (S : World → Nat → Prop) (w0 W : World) : Prop := ∀ p c, w0.cell? p = some c → W.cell? p = some c ∧ p.block < W.heap.size ∧ ¬ S W p.block
theorem KO.trans {S : World → Nat → Prop} {A B C : World} (h : KO S A B) (k : KO S B C) : KO S A C :=
  ⟨Nat.le_trans h.size k.size, fun i o ho hc hs => k.same i o (h.same i o ho hc hs) hc (fun hb => (h.own i hb).elim hs (fun h => by have := (Array.getElem?_eq_some_iff.1 ho).1; omega)),
    fun i hc => (k.own i hc).elim (fun hb => h.own i hb) (fun hb => .inr (Nat.le_trans h.size hb)), fun hw => k.wf (h.wf hw)⟩
theorem KO.cell {S : World → Nat → Prop} {W W' : World} (k : KO S W W') {p : Addr} {c : Value} (hp : W.cell? p = some c) (hs : ¬ S W p.block) : W'.cell? p = some c := by
  obtain ⟨o, ho, hc⟩ := cells_of_cell hp
  exact (World.cell?_of_block ((k.same _ o ho hc hs).trans ho.symm)).trans hp
/-- What owns nothing by a loop's own books. -/
def SPut (S : World → Nat → Prop) : Prop := ∀ (W : World) (l : Nat) (o o' : Obj), W.heap[l]? = some o → o.isCells = false → ∀ i, S (W.putObj l o') i → S W i
theorem KO.put {S : World → Nat → Prop} (hP : SPut S) (W : World) (l : Nat) (o o' : Obj) (ho : W.heap[l]? = some o) (hc : o.isCells = false) : KO S W (W.putObj l o') := by
  have hsz : (W.putObj l o').heap.size = W.heap.size := by simp
  refine ⟨by rw [hsz]; exact Nat.le_refl _, fun i x hi hx _ => ?_, fun i h => .inl (hP W l o o' ho hc i h), fun h i hi => by rw [hsz]; exact h i (hP W l o o' ho hc i hi)⟩
  have hne : i ≠ l := by rintro rfl; rw [ho] at hi; cases hi; rw [hc] at hx; cases hx
  exact (World.putObj_heap_other hne).trans hi
theorem Safe.ko {S : World → Nat → Prop} {w0 W W' : World} (h : Safe S w0 W) (k : KO S W W') : Safe S w0 W' := fun p c hc => by
  obtain ⟨h1, h2, h3⟩ := h p c hc
  exact ⟨k.cell h1 h3, Nat.lt_of_lt_of_le h2 k.size, fun hs => (k.own _ hs).elim h3 (fun h => by omega)⟩
mutual
def subT : Tm → List Tm
  | .mk o s n l => .mk o s n l :: subTs l
def subTs : List Tm → List Tm
  | [] => []
  | t :: ts => subT t ++ subTs ts
end
theorem subT_eq (t : Tm) : subT t = t :: subTs t.l := by cases t; unfold subT; rfl
theorem subTs_app (a b : List Tm) : subTs (a ++ b) = subTs a ++ subTs b := by
  induction a with
  | nil => simp [subTs]
  | cons x a ih => simp [subTs, ih]
theorem subTs_take {l : List Tm} {k : Nat} {t : Tm} (h : l[k]? = some t) : subTs (l.take (k + 1)) = subTs (l.take k) ++ (t :: subTs t.l) := by
  rw [List.take_succ_eq_append_getElem (List.getElem?_eq_some_iff.1 h).1, subTs_app, (List.getElem?_eq_some_iff.1 h).2]
  simp [subTs, subT_eq]
theorem subTs_pre {l : List Tm} (k : Nat) : subTs (l.take k) <+: subTs l := ⟨subTs (l.drop k), by rw [← subTs_app, List.take_append_drop]⟩
/-- A term that has come, and how it lies in memory. -/
structure Ne (w : World) (B : Nat) (G : Tm → Prop) where
  t : Tm
  cs : List Value
  ok : TmC w B t cs
  good : G t
def Ne.enc {w : World} {B : Nat} {G : Tm → Prop} (x : Ne w B G) : Array Value := #[.agg x.cs.toArray]

section
variable {w0 : World} {n₀ : Nat} {G : Tm → Prop}
/-- A list of terms in a slice that nobody owns; the terms are those of w0. -/
def SlAt (S : World → Nat → Prop) (w0 : World) (n₀ : Nat) (W : World) (l : List Tm) (o : Option Addr) : Prop :=
  ∀ (i : Nat) (x : Tm), l[i]? = some x → ∃ (a : Addr) (cs : List Value), o = some a ∧ TmC w0 n₀ x cs ∧ CellsAt W a (i * 4) cs ∧ ¬ S W a.block
def SlSafe (S : World → Nat → Prop) (w0 : World) (n₀ : Nat) (W : World) (l : List Tm) (v : Value) : Prop := ∃ (o : Option Addr) (cap : Nat), v = .slice o l.length cap ∧ l.length ≤ cap ∧ cap ≤ 9223372036854775807 ∧ SlAt S w0 n₀ W l o
def YPost (S : World → Nat → Prop) (J Jx : List (Ne w0 n₀ G) → World → Prop) (l : List Tm) (pre : List (Ne w0 n₀ G)) (W : World) (e : Ending) (W' : World) : Prop :=
  (e = .returned (.bool true) ∧ (∃ ys : List (Ne w0 n₀ G), ys.map Ne.t = subTs l ∧ J (pre ++ ys) W') ∧ KO S W W') ∨ (e = .returned (.bool false) ∧ ∃ ys : List (Ne w0 n₀ G), ys.map Ne.t <+: subTs l ∧ Jx (pre ++ ys) W')
def YVisit (lb N : Nat) (S : World → Nat → Prop) (J Jx : List (Ne w0 n₀ G) → World → Prop) (l : List Tm) : Prop :=
  ∀ (n : Nat) (W : World) (v : Value) (pre : List (Ne w0 n₀ G)), Safe S w0 W → (∀ i, S W i → i < W.heap.size) → SlSafe S w0 n₀ W l v → (∀ t ∈ subTs l, G t) → J pre W → pre.length + (subTs l).length ≤ N →
    CallsIn Fence.wide n Tryz.prog 128 #[v, .func (.yield lb) #[] #[]] W (YPost S J Jx l pre W)
theorem ne_at {S : World → Nat → Prop} {l : List Tm} {o : Option Addr} {k : Nat} {t : Tm} {W wr : World} (h : Hid (SlAt S w0 n₀ W l o)) (hk : KO S W wr) (ht : l[k]? = some t) :
    ∃ a o' cap', o = some a ∧ (a.add (k * 4)).block < wr.heap.size ∧ Hid (TmC w0 n₀ t [.int .i64 t.op, .string t.s, .int .i64 t.n, .slice o' t.l.length cap']) ∧
      wr.cell? (a.add (k * 4)) = some (.int .i64 t.op) ∧ wr.cell? ⟨(a.add (k * 4)).block, (a.add (k * 4)).off + 1, none⟩ = some (.string t.s) ∧ wr.cell? ⟨(a.add (k * 4)).block, (a.add (k * 4)).off + 2, none⟩ = some (.int .i64 t.n) ∧ wr.cell? ⟨(a.add (k * 4)).block, (a.add (k * 4)).off + 3, none⟩ = some (.slice o' t.l.length cap') := by
  obtain ⟨a, cs, rfl, h1, h2, h3⟩ := h.out k t ht
  obtain ⟨o', cap', rfl, _⟩ := h1.look
  have hc : CellsAt wr a (k * 4) [.int .i64 t.op, .string t.s, .int .i64 t.n, .slice o' t.l.length cap'] := fun j c hj => hk.cell (h2 j c hj) (by rw [addBlock]; exact h3)
  have hb := World.block_lt_of_cell? _ _ (hc 0 _ rfl)
  rw [addBlock] at hb
  exact ⟨a, o', cap', rfl, by rw [addBlock]; exact hb, Lib.hid h1, hc.four⟩
theorem slSafe_of {S : World → Nat → Prop} {W : World} {l : List Tm} {v : Value} (h : TmS w0 n₀ l v) (hs : Safe S w0 W) : SlSafe S w0 n₀ W l v := by
  obtain ⟨o, cap, rfl, h2, h3, h4⟩ := SlOf.open h
  refine ⟨o, cap, rfl, h2, h3, fun i x hx => ?_⟩
  obtain ⟨a, cs, rfl, _, hl, g1, g2⟩ := h4.out i x hx
  obtain ⟨o', cap', rfl, _⟩ := g1.look
  refine ⟨a, _, rfl, g1, fun j c hj => (hs _ _ (g2 j c hj)).1, ?_⟩
  have := (hs _ _ (g2 0 _ rfl)).2.2
  rw [addBlock] at this
  exact this
theorem tmc_sl {w : World} {B : Nat} {u : Tm} {x : Value} (h : TmC w B u [.int .i64 u.op, .string u.s, .int .i64 u.n, x]) : TmS w B u.l x := by
  obtain ⟨v', e, _, _, _, h'⟩ := h.parts
  simp only [List.cons.injEq, true_and, and_true] at e
  subst e
  exact h'
set_option maxRecDepth 100000 in
set_option maxHeartbeats 8000000 in
theorem yvisit_list (lb N : Nat) (S : World → Nat → Prop) (J Jx : List (Ne w0 n₀ G) → World → Prop)
    (hG : SGrow S) (hJg : ∀ pre W W', J pre W → Below W.heap.size W W' → J pre W')
    (hY : ∀ m pre (x : Ne w0 n₀ G) W, J pre W → pre.length < N → YieldAt Fence.wide m Tryz.prog lb x.enc W fun e W' => (e = .returned (.bool true) ∧ J (pre ++ [x]) W' ∧ KO S W W') ∨ (e = .returned (.bool false) ∧ Jx (pre ++ [x]) W'))
    (l : List Tm) (IH : ∀ t ∈ l, YVisit lb N S J Jx t.l) : YVisit lb N S J Jx l := by
  intro n W v pre hT hw hS hGd hJ hN
  obtain ⟨o1, cap1, rfl, hc1, hm1, hS1⟩ := hS
  have S1 := Lib.hid hS1
  have HI := Lib.hid IH
  have HJ := Lib.hid hJg
  have HW := Lib.hid hw
  have HY := Lib.hid hY
  have HT := Lib.hid hT
  have K0 : Hid (KO S W W) := Lib.hid (KO.refl S W)
  have J0 := Lib.hid hJ
  clear IH hJg hY hS1 hT hw
  refine callsIn_of_wp Tryz.func128 rfl trivial ?_ rfl
  simp only [Tryz.ntmps128, List.size_toArray, List.length_cons, List.length_nil, Nat.reduceAdd, Nat.reduceSub, Array.replicate_succ, Array.replicate_zero, List.push_toArray, List.append_toArray, List.nil_append, List.cons_append]
  gi_wp2
  gi_loopw [9] (fun i wr => ∃ (k : Nat) (ys : List (Ne w0 n₀ G)), k ≤ l.length ∧ i = .int .i64 k ∧ ys.map Ne.t = subTs (l.take k) ∧ J (pre ++ ys) wr ∧ KO S W wr) (fun i _ => l.length - (intOf i).toNat)
  case atStart => exact ⟨0, [], Nat.zero_le _, rfl, by simp [subTs], by simpa using J0.out, K0.out⟩
  case round =>
    obtain ⟨k, ys, hk, rfl, hys, hJk, hkk⟩ := hrel
    have Hys := Lib.hid hys
    clear hys
    have hTr : Safe S w0 wr := HT.out.ko hkk
    have hwr := hkk.wf HW.out
    by_cases hlt : k < l.length
    · have hlt' : (k : Int) < (l.length : Int) := by omega
      have hk0 : (0 : Int) ≤ (k : Int) := by omega
      obtain ⟨u, hu⟩ : ∃ u, l[k]? = some u := ⟨l[k], List.getElem?_eq_getElem hlt⟩
      obtain ⟨a, p2, q2, rfl, hal, Hc, c0, c1, c2, c3⟩ := ne_at S1 hkk hu
      have Htk := Lib.hid (subTs_take hu)
      have Hm := Lib.hid (List.mem_of_getElem? hu)
      have hlen : (pre ++ ys).length + (u :: subTs u.l).length ≤ N := by
        have h1 := congrArg List.length Hys.out
        have h2 := (subTs_pre (l := l) (k + 1)).length_le
        rw [Htk.out] at h2
        simp only [List.length_map, List.length_append, List.length_cons] at h1 h2 hN ⊢
        omega
      have Hlen := Lib.hid hlen
      obtain ⟨V, hV⟩ : ∃ V, wr.alloc (.cells #[.int .i64 u.op, .string u.s, .int .i64 u.n, .slice p2 u.l.length q2] 51) = V := ⟨_, rfl⟩
      have hbV : Below wr.heap.size wr V := by rw [← hV]; exact (Below.refl _ _).alloc (Nat.le_refl _) _
      have JV := HJ.out _ _ _ hJk hbV
      have KV := KO.of_below hG hwr hbV
      have hnS : ¬ S V wr.heap.size := fun hs => Nat.lt_irrefl _ (hwr _ (hG _ _ hwr hbV _ hs))
      have hsV : V.heap.size = wr.heap.size + 1 := by rw [← hV]; simp
      have hrow : V.heap[wr.heap.size]? = some (.cells #[.int .i64 u.op, .string u.s, .int .i64 u.n, .slice p2 u.l.length q2] 51 (0, 0)) := by rw [← hV]; exact World.alloc_heap_new wr _
      have d0 : V.cell? ⟨wr.heap.size, 0, none⟩ = some (.int .i64 u.op) := by unfold World.cell?; rw [hrow]; rfl
      have d1 : V.cell? ⟨wr.heap.size, 1, none⟩ = some (.string u.s) := by unfold World.cell?; rw [hrow]; rfl
      have d2 : V.cell? ⟨wr.heap.size, 2, none⟩ = some (.int .i64 u.n) := by unfold World.cell?; rw [hrow]; rfl
      have d3 : V.cell? ⟨wr.heap.size, 3, none⟩ = some (.slice p2 u.l.length q2) := by unfold World.cell?; rw [hrow]; rfl
      have hsub : ∀ t, t = u ∨ t ∈ subTs u.l → t ∈ subTs l := fun t h => (subTs_pre (l := l) (k + 1)).subset (by rw [Htk.out]; exact List.mem_append_right _ (List.mem_cons.2 h))
      have Hsub := Lib.hid hsub
      have hgu := hGd u (hsub u (.inl rfl))
      clear hsub
      obtain ⟨x, hx⟩ : ∃ x : Ne w0 n₀ G, x = ⟨u, _, Hc.out, hgu⟩ := ⟨_, rfl⟩
      have hxe : x.enc = #[.agg #[.int .i64 u.op, .string u.s, .int .i64 u.n, .slice p2 u.l.length q2]] := by rw [hx]; rfl
      have hxt : x.t = u := by rw [hx]
      obtain ⟨fn, tmps, assign, body, hy, hR⟩ := HY.out (n - 1) (pre ++ ys) x V JV (by have := Hlen.out; simp only [List.length_append, List.length_cons] at this ⊢; omega)
      rw [hxe] at hy
      have KVr := Lib.hid (hkk.trans KV)
      have Hrow := Lib.hid hrow
      have HnS := Lib.hid hnS
      have HsV := Lib.hid hsV
      have Hxt := Lib.hid hxt
      have HSu := Lib.hid (tmc_sl Hc.out)
      clear hu hx hxe hxt hkk KV hnS hrow hbV hTr hJk JV hlen hwr
      have pfx : subTs (l.take k) ++ (u :: subTs u.l) <+: subTs l := by rw [← Htk.out]; exact subTs_pre (k + 1)
      have Pfx := Lib.hid pfx
      clear pfx
      gi_wp2
      refine ⟨fun h => (by cases h), hR.mono ?_⟩
      rintro e W1 (⟨rfl, hJ2, hk2⟩ | ⟨rfl, hx2⟩)
      · have e3 : W1.cell? ⟨wr.heap.size, 3, none⟩ = some (.slice p2 u.l.length q2) := hk2.cell d3 HnS.out
        have hK2 := Lib.hid (KVr.out.trans hk2)
        have hTr2 : Safe S w0 W1 := HT.out.ko hK2.out
        have hlr : wr.heap.size < W1.heap.size := by have := hk2.size; have := HsV.out; omega
        have HC := Lib.hid (HI.out u Hm.out (n - 1) W1 _ (pre ++ ys ++ [x]) hTr2 (hK2.out.wf HW.out) (slSafe_of HSu.out hTr2) (fun t h => hGd t (Hsub.out t (.inr h))) hJ2 (by have := Hlen.out; simp only [List.length_append, List.length_cons, List.length_nil] at this ⊢; omega))
        clear hTr2 hJ2 hk2 c0 c1 c2 c3 d0 d1 d2 d3
        gi_wp2_with fail
        refine ⟨trivial, fun h => (by cases h), HC.out.mono ?_⟩
        rintro e W2 (⟨rfl, ⟨zs, hz, hJ3⟩, hk3⟩ | ⟨rfl, zs, hz, hx3⟩)
        · have Hz := Lib.hid hz
          have HJ3 := Lib.hid hJ3
          have HK3 := Lib.hid (hK2.out.trans hk3)
          clear hz hJ3 hk3
          gi_wp2
          go_roundw
          case rel =>
            exact ⟨k + 1, ys ++ x :: zs, hlt, by go_num, by rw [List.map_append, List.map_cons, Hys.out, Hz.out, Hxt.out, Htk.out], by have := HJ3.out; simpa using this, HK3.out⟩
          case measure => simp [intOf]; omega
        · have Hz := Lib.hid hz
          have HX3 := Lib.hid hx3
          clear hz hx3
          gi_wp2
          go_ret
          refine .inr ⟨rfl, ys ++ x :: zs, ?_, by have := HX3.out; simpa using this⟩
          rw [List.map_append, List.map_cons, Hys.out, Hxt.out]
          obtain ⟨r, hr⟩ := Hz.out
          obtain ⟨r2, hr2⟩ := Pfx.out
          exact ⟨r ++ r2, by rw [← hr2, ← hr]; simp⟩
      · have HX2 := Lib.hid hx2
        clear hx2 c0 c1 c2 c3 d0 d1 d2 d3
        gi_wp2
        refine ⟨trivial, ?_⟩
        gi_wp2
        go_ret
        refine .inr ⟨rfl, ys ++ [x], ?_, by have := HX2.out; simpa using this⟩
        rw [List.map_append, Hys.out, List.map_cons, List.map_nil, Hxt.out]
        obtain ⟨r2, hr2⟩ := Pfx.out
        exact ⟨subTs u.l ++ r2, by rw [← hr2]; simp⟩
    · have hlt' : ¬ (k : Int) < (l.length : Int) := by omega
      gi_wp2
      go_ret
      refine .inl ⟨rfl, ⟨ys, ?_, hJk⟩, hkk⟩
      rw [Hys.out, List.take_of_length_le (by omega)]
/-- .. of whatever list. -/
theorem yvisit_in (lb N : Nat) (S : World → Nat → Prop) (J Jx : List (Ne w0 n₀ G) → World → Prop)
    (hG : SGrow S) (hJg : ∀ pre W W', J pre W → Below W.heap.size W W' → J pre W')
    (hY : ∀ m pre (x : Ne w0 n₀ G) W, J pre W → pre.length < N → YieldAt Fence.wide m Tryz.prog lb x.enc W fun e W' => (e = .returned (.bool true) ∧ J (pre ++ [x]) W' ∧ KO S W W') ∨ (e = .returned (.bool false) ∧ Jx (pre ++ [x]) W'))
    (l : List Tm) : YVisit lb N S J Jx l := by
  have all : ∀ t : Tm, YVisit lb N S J Jx t.l := by
    intro t
    induction t using Tm.rec (motive_2 := fun ts => ∀ t ∈ ts, YVisit lb N S J Jx t.l) with
    | nil x hx => simp at hx
    | cons t ts ih ihs x hx =>
      rcases List.mem_cons.1 hx with rfl | hx
      · exact ih
      · exact ihs x hx
    | mk op s m ts ih => exact yvisit_list lb N S J Jx hG hJg hY ts ih
  exact yvisit_list lb N S J Jx hG hJg hY l fun t _ => all t
end
end Go.Proofs.YtbpdfmpfnbdeoaaGreatDoor
namespace Go.Proofs.YtbpdfmpfnbdeoaaGreatDoor
open Go.RowKit Go.Shelf

attribute [local go_sem] Oper.semAt_some

def litTs (l : Lt) : List Tm := subTs [l.x, l.y] ++ subTs l.a.l
def termsR (r : Ru) : List Tm := subTs r.head.l ++ r.body.flatMap litTs
theorem termsR_take {l : List Lt} {k : Nat} {t : Lt} (h : l[k]? = some t) : (l.take (k + 1)).flatMap litTs = (l.take k).flatMap litTs ++ litTs t := by
  rw [List.take_succ_eq_append_getElem (List.getElem?_eq_some_iff.1 h).1, (List.getElem?_eq_some_iff.1 h).2]
  simp
theorem termsR_pre (l : List Lt) (k : Nat) : (l.take k).flatMap litTs <+: l.flatMap litTs :=
  ⟨(l.drop k).flatMap litTs, by rw [← List.flatMap_append, List.take_append_drop]⟩
/-- A part of a body in a slice that nobody owns. -/
theorem lt_ko {S : World → Nat → Prop} {w0 wr : World} {n₀ : Nat} {l : List Lt} {o : Option Addr} {k : Nat} {t : Lt} (h : Hid (SlIn w0 n₀ 11 (LtC w0 n₀) l o)) (hs : Safe S w0 wr) (ht : l[k]? = some t) :
    ∃ a o0 k0 o1 k1 o2 k2, o = some a ∧ (a.add (k * 11)).block < wr.heap.size ∧ Hid (LtC w0 n₀ t [.int .i64 t.op, .string t.a.rel, .slice o0 t.a.l.length k0, .int .i64 t.x.op, .string t.x.s, .int .i64 t.x.n, .slice o1 t.x.l.length k1, .int .i64 t.y.op, .string t.y.s, .int .i64 t.y.n, .slice o2 t.y.l.length k2]) ∧
      CellsAt wr a (k * 11) [.int .i64 t.op, .string t.a.rel, .slice o0 t.a.l.length k0, .int .i64 t.x.op, .string t.x.s, .int .i64 t.x.n, .slice o1 t.x.l.length k1, .int .i64 t.y.op, .string t.y.s, .int .i64 t.y.n, .slice o2 t.y.l.length k2] := by
  obtain ⟨a, cs, rfl, _, _, h1, h2⟩ := h.out k t ht
  obtain ⟨o0, k0, o1, k1, o2, k2, rfl, _⟩ := h1.look
  have hc : CellsAt wr a (k * 11) _ := fun j c hj => (hs _ _ (h2 j c hj)).1
  exact ⟨a, o0, k0, o1, k1, o2, k2, rfl, (hs _ _ (h2 0 _ rfl)).2.1, Lib.hid h1, hc⟩
theorem yeach_in (n : Nat) (r : Ru) (cs : List Value) (w : World) (hc : RuC w w.heap.size r cs) :
    CallsIn Fence.wide n Tryz.prog 91 #[.agg cs.toArray] w fun e w' => e = .returned (.func (.func 127) #[] #[.pointer (some ⟨w.heap.size, 0, none⟩)]) ∧ w' = w.alloc (.cells cs.toArray 37) := by
  obtain ⟨o0, k0, o1, k1, rfl, _⟩ := hc.look
  clear hc
  refine callsIn_of_wp Tryz.func91 rfl trivial ?_ rfl
  simp only [Tryz.ntmps91, List.size_toArray, List.length_cons, List.length_nil, Nat.reduceAdd, Nat.reduceSub, Array.replicate_succ, Array.replicate_zero, List.push_toArray, List.append_toArray, List.nil_append, List.cons_append]
  gi_wp2
  go_ret
  exact ⟨rfl, rfl⟩

set_option maxRecDepth 100000 in
set_option maxHeartbeats 4000000 in
/-- The box B holds the rule: its terms are gone through. -/
theorem yeach_stops {G : Tm → Prop} (n B n₀ : Nat) (r : Ru) (cs : List Value) (w0 w : World) (S : World → Nat → Prop) (hG : SGrow S) (hs : Safe S w0 w) (hw : ∀ i, S w i → i < w.heap.size) (hB : CellsAt w0 ⟨B, 0, none⟩ 0 cs) (hc : RuC w0 n₀ r cs) (hGd : ∀ t ∈ termsR r, G t) :
    SeqStopsK Fence.wide n Tryz.prog 127 #[.pointer (some ⟨B, 0, none⟩)] (Ne.enc (w := w0) (B := n₀) (G := G)) (KO S) (fun ys => ys.map Ne.t = termsR r) (fun pre => pre.map Ne.t <+: termsR r) (termsR r).length w := by
  intro l J Jx W hW hJ _ hY h0
  have hKW := KO.of_below hG hw hW
  have hs1 := hs.ko hKW
  have hw1 := hKW.wf hw
  have hJg : ∀ pre W W', J pre W → Below W.heap.size W W' → J pre W' := fun pre W W' h hb => hJ pre W W' none h (grownBelow hb) (fun _ e => by cases e)
  have HV := Lib.hid (fun (ts : List Tm) => yvisit_in (w0 := w0) (n₀ := n₀) (G := G) l (termsR r).length S J Jx hG hJg (fun m pre x W hj hl => yieldAny rfl m (hY pre x W hj hl)) ts)
  obtain ⟨o0, k0, o1, k1, rfl, _, hA, hL⟩ := hc.look
  obtain ⟨_, _, e1, _, hT⟩ := hA.look
  obtain ⟨rfl, rfl⟩ : _ ∧ _ := by simpa using e1
  obtain ⟨_, _, e2, hb1, hb2, SL⟩ := SlOf.open hL
  cases e2
  have hBW : CellsAt W ⟨B, 0, none⟩ 0 _ := fun j c hj => (hs1 _ _ (hB j c hj)).1
  obtain ⟨c0, c1, c2, c3⟩ := hBW.four
  have ea : (⟨B, 0, none⟩ : Addr).add 0 = ⟨B, 0, none⟩ := by unfold Addr.add; simp
  simp only [ea, Nat.zero_add] at c0 c1 c2 c3
  have hBl : B < W.heap.size := World.block_lt_of_cell? _ _ c0
  have Hs := Lib.hid hs1
  have Hw := Lib.hid hw1
  have HJg := Lib.hid hJg
  have HT := Lib.hid hT
  have HBW := Lib.hid hB
  have H0 := Lib.hid h0
  have HtR : Hid (termsR r = subTs r.head.l ++ r.body.flatMap litTs) := Lib.hid rfl
  have HC := Lib.hid (HV.out r.head.l (n - 1) W _ [] hs1 hw1 (slSafe_of hT hs1) (fun t h => hGd t (List.mem_append_left _ h)) h0 (by simp [termsR]))
  clear hKW hs1 hw1 hJg hA hL hT hBW hB hc hY hJ h0 hs hw hW ea
  refine callsIn_of_wp Tryz.func127 rfl trivial ?_ rfl
  simp only [Tryz.ntmps127, List.size_toArray, List.length_cons, List.length_nil, Nat.reduceAdd, Nat.reduceSub, Array.replicate_succ, Array.replicate_zero, List.push_toArray, List.append_toArray, List.nil_append, List.cons_append]
  gi_wp2_with fail
  refine ⟨trivial, fun h => (by cases h), HC.out.mono ?_⟩
  rintro e W1 (⟨rfl, ⟨ys, hys, hJ1⟩, hk1⟩ | ⟨rfl, ys, hys, hx⟩)
  · have Hk1 := Lib.hid hk1
    have hB1 : CellsAt W1 ⟨B, 0, none⟩ 0 _ := fun j c hj => (Hs.out.ko hk1 _ _ (HBW.out j c hj)).1
    obtain ⟨f0, f1, f2, f3⟩ := hB1.four
    have ea : (⟨B, 0, none⟩ : Addr).add 0 = ⟨B, 0, none⟩ := by unfold Addr.add; simp
    simp only [ea, Nat.zero_add] at f0 f1 f2 f3
    have hBl1 : B < W1.heap.size := World.block_lt_of_cell? _ _ f0
    have Hys := Lib.hid hys
    have HJ1 := Lib.hid hJ1
    clear hk1 hys hJ1 c0 c1 c2 c3 hB1 ea
    gi_wp2
    gi_loopw [14] (fun i wr => ∃ (k : Nat) (ys : List (Ne w0 n₀ G)), k ≤ r.body.length ∧ i = .int .i64 k ∧ ys.map Ne.t = subTs r.head.l ++ (r.body.take k).flatMap litTs ∧ J ys wr ∧ KO S W wr) (fun i _ => r.body.length - (intOf i).toNat)
    case atStart => exact ⟨0, ys, Nat.zero_le _, rfl, by simpa using Hys.out, by simpa using HJ1.out, Hk1.out⟩
    case round =>
      obtain ⟨k, ys, hk, rfl, hys, hJk, hkk⟩ := hrel
      have Hyk := Lib.hid hys
      have hsr := Hs.out.ko hkk
      have hwr := hkk.wf Hw.out
      by_cases hlt : k < r.body.length
      · have hlt' : (k : Int) < (r.body.length : Int) := by omega
        have hk0 : (0 : Int) ≤ (k : Int) := by omega
        obtain ⟨u, hu⟩ : ∃ u, r.body[k]? = some u := ⟨r.body[k], List.getElem?_eq_getElem hlt⟩
        obtain ⟨a, p0, q0, p1, q1, p2, q2, rfl, hal, Hc, hca⟩ := lt_ko SL hsr hu
        obtain ⟨c0, c1, c2, c3, c4, c5, c6, c7, c8, c9, c10⟩ := hca.n11
        obtain ⟨_, _, _, _, _, _, ec, _, hA, hX, hY⟩ := Hc.out.look
        simp only [List.cons.injEq, Value.slice.injEq, true_and, and_true] at ec
        obtain ⟨⟨rfl, rfl⟩, ⟨rfl, rfl⟩, rfl, rfl⟩ := ec
        obtain ⟨_, _, ea, _, hTa⟩ := hA.look
        simp only [List.cons.injEq, Value.slice.injEq, true_and, and_true] at ea
        obtain ⟨rfl, rfl⟩ := ea
        have Htk := Lib.hid (termsR_take hu)
        have hlen : ys.length + (litTs u).length ≤ (termsR r).length := by
          have h1 := congrArg List.length Hyk.out
          have h2 := (termsR_pre r.body (k + 1)).length_le
          rw [Htk.out] at h2
          rw [HtR.out]
          simp only [List.length_map, List.length_append] at h1 h2 ⊢
          omega
        have pfx : subTs r.head.l ++ (r.body.take k).flatMap litTs ++ litTs u <+: termsR r := by
          rw [HtR.out, List.append_assoc, ← Htk.out]
          obtain ⟨r2, hr2⟩ := termsR_pre r.body (k + 1)
          exact ⟨r2, by rw [List.append_assoc, hr2]⟩
        have Hlen := Lib.hid hlen
        have Pfx := Lib.hid pfx
        obtain ⟨V1, hV1⟩ : ∃ V1, wr.alloc (.cells #[.int .i64 u.op, .string u.a.rel, .slice p0 u.a.l.length q0, .int .i64 u.x.op, .string u.x.s, .int .i64 u.x.n, .slice p1 u.x.l.length q1, .int .i64 u.y.op, .string u.y.s, .int .i64 u.y.n, .slice p2 u.y.l.length q2] 56) = V1 := ⟨_, rfl⟩
        have hb1 : Below wr.heap.size wr V1 := by rw [← hV1]; exact (Below.refl _ _).alloc (Nat.le_refl _) _
        have hrow1 : V1.heap[wr.heap.size]? = some (.cells #[.int .i64 u.op, .string u.a.rel, .slice p0 u.a.l.length q0, .int .i64 u.x.op, .string u.x.s, .int .i64 u.x.n, .slice p1 u.x.l.length q1, .int .i64 u.y.op, .string u.y.s, .int .i64 u.y.n, .slice p2 u.y.l.length q2] 56 (0, 0)) := by rw [← hV1]; exact World.alloc_heap_new wr _
        have hsz1 : V1.heap.size = wr.heap.size + 1 := by rw [← hV1]; simp
        have K1 := KO.of_below hG hwr hb1
        have hw1 := K1.wf hwr
        obtain ⟨V2, hV2⟩ : ∃ V2, V1.alloc (.cells #[.int .i64 u.x.op, .string u.x.s, .int .i64 u.x.n, .slice p1 u.x.l.length q1, .int .i64 u.y.op, .string u.y.s, .int .i64 u.y.n, .slice p2 u.y.l.length q2] 51) = V2 := ⟨_, rfl⟩
        have hb2 : Below V1.heap.size V1 V2 := by rw [← hV2]; exact (Below.refl _ _).alloc (Nat.le_refl _) _
        have hrow2 : V2.heap[V1.heap.size]? = some (.cells #[.int .i64 u.x.op, .string u.x.s, .int .i64 u.x.n, .slice p1 u.x.l.length q1, .int .i64 u.y.op, .string u.y.s, .int .i64 u.y.n, .slice p2 u.y.l.length q2] 51 (0, 0)) := by rw [← hV2]; exact World.alloc_heap_new V1 _
        have hsz2 : V2.heap.size = V1.heap.size + 1 := by rw [← hV2]; simp
        have K2 := KO.of_below hG hw1 hb2
        have hw2 := K2.wf hw1
        have nS1 : ¬ S V2 wr.heap.size := fun h => Nat.lt_irrefl _ (hwr _ (hG _ _ hwr hb1 _ (hG _ _ hw1 hb2 _ h)))
        have nS2 : ¬ S V2 V1.heap.size := fun h => Nat.lt_irrefl _ (hw1 _ (hG _ _ hw1 hb2 _ h))
        have SS : SlSafe S w0 n₀ V2 [u.x, u.y] (.slice (some ⟨V1.heap.size, 0, none⟩) 2 2) := by
          refine ⟨_, 2, rfl, Nat.le_refl _, by decide, fun i x hx => ?_⟩
          have news := World.news_of_block hrow2
          match i, hx with
          | 0, hx =>
            obtain rfl : u.x = x := by simpa using hx
            refine ⟨_, _, rfl, hX, fun j c hj => news (0 * 4 + j) c ?_, nS2⟩
            rcases j with _ | _ | _ | _ | j <;> simp_all
          | 1, hx =>
            obtain rfl : u.y = x := by simpa using hx
            refine ⟨_, _, rfl, hY, fun j c hj => news (1 * 4 + j) c ?_, nS2⟩
            rcases j with _ | _ | _ | _ | j <;> simp_all
          | i + 2, hx => simp at hx
        rw [hsz1] at SS
        have K02 := Lib.hid (hkk.trans (K1.trans K2))
        have JV := HJg.out _ _ _ (HJg.out _ _ _ hJk hb1) hb2
        have d0 : V1.cell? ⟨wr.heap.size, 0, none⟩ = some (.int .i64 u.op) := by unfold World.cell?; rw [hrow1]; rfl
        have d1 : V1.cell? ⟨wr.heap.size, 1, none⟩ = some (.string u.a.rel) := by unfold World.cell?; rw [hrow1]; rfl
        have d2 : V1.cell? ⟨wr.heap.size, 2, none⟩ = some (.slice p0 u.a.l.length q0) := by unfold World.cell?; rw [hrow1]; rfl
        have d3 : V1.cell? ⟨wr.heap.size, 3, none⟩ = some (.int .i64 u.x.op) := by unfold World.cell?; rw [hrow1]; rfl
        have d4 : V1.cell? ⟨wr.heap.size, 4, none⟩ = some (.string u.x.s) := by unfold World.cell?; rw [hrow1]; rfl
        have d5 : V1.cell? ⟨wr.heap.size, 5, none⟩ = some (.int .i64 u.x.n) := by unfold World.cell?; rw [hrow1]; rfl
        have d6 : V1.cell? ⟨wr.heap.size, 6, none⟩ = some (.slice p1 u.x.l.length q1) := by unfold World.cell?; rw [hrow1]; rfl
        have d7 : V1.cell? ⟨wr.heap.size, 7, none⟩ = some (.int .i64 u.y.op) := by unfold World.cell?; rw [hrow1]; rfl
        have d8 : V1.cell? ⟨wr.heap.size, 8, none⟩ = some (.string u.y.s) := by unfold World.cell?; rw [hrow1]; rfl
        have d9 : V1.cell? ⟨wr.heap.size, 9, none⟩ = some (.int .i64 u.y.n) := by unfold World.cell?; rw [hrow1]; rfl
        have d10 : V1.cell? ⟨wr.heap.size, 10, none⟩ = some (.slice p2 u.y.l.length q2) := by unfold World.cell?; rw [hrow1]; rfl
        have m2 : V2.cell? ⟨wr.heap.size, 2, none⟩ = some (.slice p0 u.a.l.length q0) := (hb2.cell (p := ⟨wr.heap.size, 2, none⟩) (by show wr.heap.size < _; omega)).trans d2
        have M2 := Lib.hid m2
        have HC1 := Lib.hid (HV.out [u.x, u.y] (n - 1) V2 _ ys (Hs.out.ko K02.out) hw2 SS (fun t h => hGd t (Pfx.out.subset (List.mem_append_right _ (List.mem_append_left _ h)))) JV (by have := Hlen.out; unfold litTs at this; simp only [List.length_append] at this; omega))
        have HTa := Lib.hid hTa
        have NS1 := Lib.hid nS1
        have hszV : wr.heap.size < V1.heap.size := by omega
        have hszW : wr.heap.size < V2.heap.size := by omega
        clear hys hJk hkk hsr hwr hu Hc hca hA hX hY hTa hlen pfx hb1 hrow1 K1 hw1 hb2 hrow2 K2 hw2 nS1 nS2 SS JV m2
        gi_wp2_with fail
        refine ⟨trivial, fun h => (by cases h), HC1.out.mono ?_⟩
        rintro e W2 (⟨rfl, ⟨zs, hz, hJ2⟩, hk2⟩ | ⟨rfl, zs, hz, hx2⟩)
        · have e2 : W2.cell? ⟨wr.heap.size, 2, none⟩ = some (.slice p0 u.a.l.length q0) := hk2.cell M2.out NS1.out
          have K22 := Lib.hid (K02.out.trans hk2)
          have hlr : wr.heap.size < W2.heap.size := by have := hk2.size; omega
          have hzl : zs.length = (subTs [u.x, u.y]).length := by rw [← hz, List.length_map]
          have HC2 := Lib.hid (HV.out u.a.l (n - 1) W2 _ (ys ++ zs) (Hs.out.ko K22.out) (K22.out.wf Hw.out) (slSafe_of HTa.out (Hs.out.ko K22.out)) (fun t h => hGd t (Pfx.out.subset (List.mem_append_right _ (List.mem_append_right _ h)))) hJ2 (by have := Hlen.out; unfold litTs at this; simp only [List.length_append] at this ⊢; omega))
          have Hz := Lib.hid hz
          clear hz hJ2 hk2 c0 c1 c2 c3 c4 c5 c6 c7 c8 c9 c10 d0 d1 d2 d3 d4 d5 d6 d7 d8 d9 d10
          gi_wp2_with fail
          refine ⟨trivial, fun h => (by cases h), HC2.out.mono ?_⟩
          rintro e W3 (⟨rfl, ⟨vs, hv, hJ3⟩, hk3⟩ | ⟨rfl, vs, hv, hx3⟩)
          · have Hv := Lib.hid hv
            have HJ3 := Lib.hid hJ3
            have K33 := Lib.hid (K22.out.trans hk3)
            clear hv hJ3 hk3 e2
            gi_wp2
            go_roundw
            case rel =>
              refine ⟨k + 1, ys ++ zs ++ vs, hlt, by go_num, ?_, HJ3.out, K33.out⟩
              rw [List.map_append, List.map_append, Hyk.out, Hz.out, Hv.out, Htk.out]
              unfold litTs
              simp only [List.append_assoc]
            case measure => simp [intOf]; omega
          · have Hv := Lib.hid hv
            have HX3 := Lib.hid hx3
            clear hv hx3 e2
            gi_wp2
            refine bodyPost_ret (results_none rfl _ _ _) rfl ?_
            refine ⟨⟨_, rfl⟩, .inr ⟨ys ++ zs ++ vs, ?_, HX3.out⟩⟩
            rw [List.map_append, List.map_append, Hyk.out, Hz.out]
            obtain ⟨r1, hr1⟩ := Hv.out
            obtain ⟨r2, hr2⟩ := Pfx.out
            refine ⟨r1 ++ r2, ?_⟩
            rw [← hr2]
            unfold litTs
            rw [← hr1]
            simp only [List.append_assoc]
        · have Hz := Lib.hid hz
          have HX2 := Lib.hid hx2
          clear hz hx2 c0 c1 c2 c3 c4 c5 c6 c7 c8 c9 c10 d0 d1 d2 d3 d4 d5 d6 d7 d8 d9 d10
          gi_wp2
          refine ⟨trivial, ?_⟩
          gi_wp2
          refine bodyPost_ret (results_none rfl _ _ _) rfl ?_
          refine ⟨⟨_, rfl⟩, .inr ⟨ys ++ zs, ?_, HX2.out⟩⟩
          rw [List.map_append, Hyk.out]
          obtain ⟨r1, hr1⟩ := Hz.out
          obtain ⟨r2, hr2⟩ := Pfx.out
          refine ⟨r1 ++ (subTs u.a.l ++ r2), ?_⟩
          rw [← hr2]
          unfold litTs
          rw [← hr1]
          simp only [List.append_assoc]
      · have hlt' : ¬ (k : Int) < (r.body.length : Int) := by omega
        have HJk := Lib.hid hJk
        clear hJk hkk hsr hwr hys
        gi_wp2
        go_end0
        refine ⟨⟨_, rfl⟩, .inl ⟨ys, ?_, HJk.out⟩⟩
        rw [Hyk.out, HtR.out, List.take_of_length_le (by omega)]
  · have Hys := Lib.hid hys
    have HX := Lib.hid hx
    clear hys hx
    gi_wp2
    refine bodyPost_ret (results_none rfl _ _ _) rfl ?_
    refine ⟨⟨_, rfl⟩, .inr ⟨ys, ?_, by simpa using HX.out⟩⟩
    rw [HtR.out]
    exact Hys.out.trans (List.prefix_append _ _)
end Go.Proofs.YtbpdfmpfnbdeoaaGreatDoor
