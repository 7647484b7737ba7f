/- errors.Is at the one sentinel of package text: with the sentinel itself it answers true, with nil false; for every world. -/
import Derived.Test.YthjfkngfgomkbaaGreatDoorChecked
import Derived.WalkKit
import Derived.LaidEql
import Derived.RowKitTokens
namespace Go.Proofs.YthjfkngfgomkbaaGreatDoor
open Go.RowKit Go.Extern Go.Extern.Rtype

theorem isTypeOf (v : Value) (w : World) : (Extern.ReflectliteType.typeOf #[.iface 214 v]).run Tryz.prog w = .ok (.iface 138 (.agg #[.pointer (some ⟨12, 214, none⟩)])) w := by kernel_rfl
theorem isComparable (w : World) : ((Extern.ReflectliteType.method fun t => do noPackHeld "Comparable" t; pure (.bool (← typeInfo t).comparable)) #[.agg #[.pointer (some ⟨12, 214, none⟩)]]).run Tryz.prog w = .ok (.bool true) w := by kernel_rfl
theorem isCalled (w : World) : (callFunc 195 #[.agg #[.pointer (some ⟨12, 214, none⟩)]]).run Tryz.prog w = .ok (Next.value (.bool true)) w := by
  have h91 := @run_callFunc_extern Tryz.prog 195 _ (Extern.ReflectliteType.method fun t => do noPackHeld "Comparable" t; pure (.bool (← typeInfo t).comparable)) Tryz.func195 (by kernel_rfl) (by kernel_rfl) (by kernel_rfl) (by kernel_rfl)
  rw [h91, isComparable]
  rfl
theorem isMethodComparable (v : Value) (w : World) : (Go.method 345 138 v "Comparable").run Tryz.prog w = .ok (195, v) w := by kernel_rfl
theorem isComp : (Tryz.prog.info? 214).map (·.comparable) = some true := by kernel_rfl
theorem isSize : (Tryz.prog.info? 233).map (·.size) = some 1 := by kernel_rfl

/-- errors.Is(nil, x). -/
theorem is_nil (b : Addr) (w : World) :
    Calls Tryz.prog 38 #[.nilIface, .iface 214 (.pointer (some b))] w fun e w' => e = .returned (.bool false) ∧ w = w' := by
  have hn := run_eql_iface_nil_left (P := Tryz.prog) w 214 (.pointer (some b)) Tryz.underlying52
  go_enter Tryz.func38, Tryz.ntmps38
  go_wp2
  go_ret
  exact ⟨rfl, rfl⟩

set_option maxRecDepth 100000 in
/-- errors.Is(x, x). -/
theorem is_same (a : Addr) (w : World) :
    Calls Tryz.prog 38 #[.iface 214 (.pointer (some a)), .iface 214 (.pointer (some a))] w fun e w' => e = .returned (.bool true) ∧ w = w' := by
  obtain ⟨i, hi, hcmp⟩ := Option.map_eq_some_iff.1 isComp
  obtain ⟨j, hj, hjs⟩ := Option.map_eq_some_iff.1 isSize
  have h39 := @run_callFunc_extern Tryz.prog 69 _ Extern.ReflectliteType.typeOf Tryz.func69 (by kernel_rfl) (by kernel_rfl) (by kernel_rfl) (by kernel_rfl)
  have tT := isTypeOf
  have cT := isCalled
  have mR := isMethodComparable
  have heq := run_eql_iface_ptr_same (P := Tryz.prog) w a Tryz.underlying52 Tryz.underlying214 hi hcmp hj
  go_enter Tryz.func38, Tryz.ntmps38
  go_wp2
  refine wp_loop_rounds 1 ?_
  rw [rounds_succ]
  go_wp2
  go_ret
  exact ⟨rfl, rfl⟩
end Go.Proofs.YthjfkngfgomkbaaGreatDoor
