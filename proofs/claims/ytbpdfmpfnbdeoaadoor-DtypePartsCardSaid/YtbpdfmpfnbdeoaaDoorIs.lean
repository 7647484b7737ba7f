/- errors.Is at the one sentinel of package text: with the sentinel itself it answers true, with nil false; for every world. -/
import Derived.Test.YtbpdfmpfnbdeoaaDoorChecked
import Derived.WalkKit
import Derived.LaidEql
import Derived.RowKitTokens
namespace Go.Proofs.YtbpdfmpfnbdeoaaDoor
open Go.RowKit Go.Extern Go.Extern.Rtype

theorem isTypeOf (v : Value) (w : World) : (Extern.ReflectliteType.typeOf #[.iface 193 v]).run Tryd.prog w = .ok (.iface 161 (.agg #[.pointer (some ⟨7, 193, none⟩)])) w := by kernel_rfl
theorem isComparable (w : World) : ((Extern.ReflectliteType.method fun t => do noPackHeld "Comparable" t; pure (.bool (← typeInfo t).comparable)) #[.agg #[.pointer (some ⟨7, 193, none⟩)]]).run Tryd.prog w = .ok (.bool true) w := by kernel_rfl
theorem isCalled (w : World) : (callFunc 165 #[.agg #[.pointer (some ⟨7, 193, none⟩)]]).run Tryd.prog w = .ok (Next.value (.bool true)) w := by
  have h91 := @run_callFunc_extern Tryd.prog 165 _ (Extern.ReflectliteType.method fun t => do noPackHeld "Comparable" t; pure (.bool (← typeInfo t).comparable)) Tryd.func165 (by kernel_rfl) (by kernel_rfl) (by kernel_rfl) (by kernel_rfl)
  rw [h91, isComparable]
  rfl
theorem isMethodComparable (v : Value) (w : World) : (Go.method 330 161 v "Comparable").run Tryd.prog w = .ok (165, v) w := by kernel_rfl
theorem isComp : (Tryd.prog.info? 193).map (·.comparable) = some true := by kernel_rfl
theorem isSize : (Tryd.prog.info? 218).map (·.size) = some 1 := by kernel_rfl

/-- errors.Is(nil, x). -/
theorem is_nil (b : Addr) (w : World) :
    Calls Tryd.prog 59 #[.nilIface, .iface 193 (.pointer (some b))] w fun e w' => e = .returned (.bool false) ∧ w = w' := by
  have hn := run_eql_iface_nil_left (P := Tryd.prog) w 193 (.pointer (some b)) Tryd.underlying80
  go_enter Tryd.func59, Tryd.ntmps59
  go_wp2
  go_ret
  exact ⟨rfl, rfl⟩

set_option maxRecDepth 100000 in
/-- errors.Is(x, x). -/
theorem is_same (a : Addr) (w : World) :
    Calls Tryd.prog 59 #[.iface 193 (.pointer (some a)), .iface 193 (.pointer (some a))] w fun e w' => e = .returned (.bool true) ∧ w = w' := by
  obtain ⟨i, hi, hcmp⟩ := Option.map_eq_some_iff.1 isComp
  obtain ⟨j, hj, hjs⟩ := Option.map_eq_some_iff.1 isSize
  have h39 := @run_callFunc_extern Tryd.prog 83 _ Extern.ReflectliteType.typeOf Tryd.func83 (by kernel_rfl) (by kernel_rfl) (by kernel_rfl) (by kernel_rfl)
  have tT := isTypeOf
  have cT := isCalled
  have mR := isMethodComparable
  have heq := run_eql_iface_ptr_same (P := Tryd.prog) w a Tryd.underlying80 Tryd.underlying193 hi hcmp hj
  go_enter Tryd.func59, Tryd.ntmps59
  go_wp2
  refine wp_loop_rounds 1 ?_
  rw [rounds_succ]
  go_wp2
  go_ret
  exact ⟨rfl, rfl⟩
end Go.Proofs.YtbpdfmpfnbdeoaaDoor
