/- errors.Is at the one sentinel of package text: with the sentinel itself it answers true, with nil false; for every world. -/
import Derived.Test.YtkfdklamfmnalaaGreatDoorChecked
import Derived.WalkKit
import Derived.LaidEql
import Derived.RowKitTokens
namespace Go.Proofs.YtkfdklamfmnalaaGreatDoor
open Go.RowKit Go.Extern Go.Extern.Rtype

theorem isTypeOf (v : Value) (w : World) : (Extern.ReflectliteType.typeOf #[.iface 137 v]).run Tryz.prog w = .ok (.iface 90 (.agg #[.pointer (some ⟨5, 137, none⟩)])) w := by kernel_rfl
theorem isComparable (w : World) : ((Extern.ReflectliteType.method fun t => do noPackHeld "Comparable" t; pure (.bool (← typeInfo t).comparable)) #[.agg #[.pointer (some ⟨5, 137, none⟩)]]).run Tryz.prog w = .ok (.bool true) w := by kernel_rfl
theorem isCalled (w : World) : (callFunc 130 #[.agg #[.pointer (some ⟨5, 137, none⟩)]]).run Tryz.prog w = .ok (Next.value (.bool true)) w := by
  have h91 := @run_callFunc_extern Tryz.prog 130 _ (Extern.ReflectliteType.method fun t => do noPackHeld "Comparable" t; pure (.bool (← typeInfo t).comparable)) Tryz.func130 (by kernel_rfl) (by kernel_rfl) (by kernel_rfl) (by kernel_rfl)
  rw [h91, isComparable]
  rfl
theorem isMethodComparable (v : Value) (w : World) : (Go.method 268 90 v "Comparable").run Tryz.prog w = .ok (130, v) w := by kernel_rfl
theorem isComp : (Tryz.prog.info? 137).map (·.comparable) = some true := by kernel_rfl
theorem isSize : (Tryz.prog.info? 156).map (·.size) = some 1 := by kernel_rfl

/-- errors.Is(nil, x). -/
theorem is_nil (b : Addr) (w : World) :
    Calls Tryz.prog 32 #[.nilIface, .iface 137 (.pointer (some b))] w fun e w' => e = .returned (.bool false) ∧ w = w' := by
  have hn := run_eql_iface_nil_left (P := Tryz.prog) w 137 (.pointer (some b)) Tryz.underlying37
  go_enter Tryz.func32, Tryz.ntmps32
  go_wp2
  go_ret
  exact ⟨rfl, rfl⟩

set_option maxRecDepth 100000 in
/-- errors.Is(x, x). -/
theorem is_same (a : Addr) (w : World) :
    Calls Tryz.prog 32 #[.iface 137 (.pointer (some a)), .iface 137 (.pointer (some a))] w fun e w' => e = .returned (.bool true) ∧ w = w' := by
  obtain ⟨i, hi, hcmp⟩ := Option.map_eq_some_iff.1 isComp
  obtain ⟨j, hj, hjs⟩ := Option.map_eq_some_iff.1 isSize
  have h39 := @run_callFunc_extern Tryz.prog 61 _ Extern.ReflectliteType.typeOf Tryz.func61 (by kernel_rfl) (by kernel_rfl) (by kernel_rfl) (by kernel_rfl)
  have tT := isTypeOf
  have cT := isCalled
  have mR := isMethodComparable
  have heq := run_eql_iface_ptr_same (P := Tryz.prog) w a Tryz.underlying37 Tryz.underlying137 hi hcmp hj
  go_enter Tryz.func32, Tryz.ntmps32
  go_wp2
  refine wp_loop_rounds 1 ?_
  rw [rounds_succ]
  go_wp2
  go_ret
  exact ⟨rfl, rfl⟩
end Go.Proofs.YtkfdklamfmnalaaGreatDoor
