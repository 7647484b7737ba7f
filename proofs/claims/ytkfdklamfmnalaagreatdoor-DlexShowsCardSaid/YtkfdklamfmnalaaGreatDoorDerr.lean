/- errors.Is and errors.As at what package dlex hands them: an error of its own make that wraps a sentinel. -/
import Derived.Test.YtkfdklamfmnalaaGreatDoorDmean
import Derived.Stop.Asserts
namespace Go.Proofs.YtkfdklamfmnalaaGreatDoor
open Go.RowKit Go.Extern Go.Extern.Rtype Go.Extern.Stop Go.Stop

/-- A line, and the sentinel that is wrong there. -/
abbrev leV (n : Int) (x : Addr) : Value := .iface 42 (.agg #[.int .i64 n, .iface 137 (.pointer (some x))])
abbrev leO (n : Int) (x : Addr) : Obj := .cells #[.int .i64 n, .iface 137 (.pointer (some x))] 42

theorem noIsE (v : Value) (xT : TypeId) (w : World) : (Instr.typeAssert (.iface 137 v) xT 116 true).run Tryz.prog w = .ok (.tuple #[.nilIface, .bool false]) w := run_typeAssert_lacksB Tryz.underlying116 (by kernel_rfl) (by kernel_rfl) v xT w
theorem noUnwrapE (v : Value) (xT : TypeId) (w : World) : (Instr.typeAssert (.iface 137 v) xT 98 true).run Tryz.prog w = .ok (.tuple #[.nilIface, .bool false]) w := run_typeAssert_lacksB Tryz.underlying98 (by kernel_rfl) (by kernel_rfl) v xT w
theorem noUnwrapsE (v : Value) (xT : TypeId) (w : World) : (Instr.typeAssert (.iface 137 v) xT 100 true).run Tryz.prog w = .ok (.tuple #[.nilIface, .bool false]) w := run_typeAssert_lacksB Tryz.underlying100 (by kernel_rfl) (by kernel_rfl) v xT w
theorem noIsL (v : Value) (xT : TypeId) (w : World) : (Instr.typeAssert (.iface 42 v) xT 116 true).run Tryz.prog w = .ok (.tuple #[.nilIface, .bool false]) w := run_typeAssert_lacksB Tryz.underlying116 (by kernel_rfl) (by kernel_rfl) v xT w
theorem hasUnwrapL (v : Value) (xT : TypeId) (w : World) : (Instr.typeAssert (.iface 42 v) xT 98 true).run Tryz.prog w = .ok (.tuple #[.iface 42 v, .bool true]) w := run_typeAssert_hasB Tryz.underlying98 (by kernel_rfl) v xT w
theorem methodUnwrapL (x y : Value) (w : World) : (Go.method 268 42 (.agg #[x, y]) "Unwrap").run Tryz.prog w = .ok (123, .agg #[x, y]) w := by kernel_rfl

theorem cell_row {w : World} {k : Nat} {cs : Array Value} {t : TypeId} (h : w.heap[k]? = some (.cells cs t (0, 0))) (i : Nat) : w.cell? ⟨k, i, none⟩ = cs[i]? ∧ w.frozen? ⟨k, i, none⟩ = false := by
  simp [World.cell?, World.frozen?, h]

set_option maxHeartbeats 1000000 in
theorem unwrap_c (n : Int) (x : Addr) (w : World) :
    Calls Tryz.prog 123 #[.agg #[.int .i64 n, .iface 137 (.pointer (some x))]] w fun e w' => e = .returned (.iface 137 (.pointer (some x))) ∧ w' = w.alloc (leO n x) := by
  go_enter Tryz.func123, Tryz.ntmps123
  go_wp2
  go_ret
  exact ⟨rfl, rfl⟩

set_option maxRecDepth 100000 in
set_option maxHeartbeats 2000000 in
/-- errors.Is(an error that wraps c, c). -/
theorem is_wrap_same (n : Int) (c : Addr) (w : World) :
    Calls Tryz.prog 32 #[leV n c, .iface 137 (.pointer (some c))] w fun e w' => e = .returned (.bool true) ∧ Below w.heap.size w w' := by
  obtain ⟨i, hi, hcmp⟩ := Option.map_eq_some_iff.1 isComp
  obtain ⟨j, hj, hjs⟩ := Option.map_eq_some_iff.1 isSize
  have h39 := @run_callFunc_extern Tryz.prog 61 _ Extern.ReflectliteType.typeOf Tryz.func61 (by kernel_rfl) (by kernel_rfl) (by kernel_rfl) (by kernel_rfl)
  have tT := isTypeOf
  have cT := isCalled
  have mR := isMethodComparable
  have nL := noIsL
  have uL := hasUnwrapL
  have mU := methodUnwrapL
  have hdiff := fun (x y : Value) (w : World) => run_eql_iface_types (P := Tryz.prog) 42 137 x y Tryz.underlying37 (by decide) w
  have heq := run_eql_iface_ptr_same (P := Tryz.prog) (w.alloc (leO n c)) c Tryz.underlying37 Tryz.underlying137 hi hcmp hj
  go_enter Tryz.func32, Tryz.ntmps32
  go_wp2
  refine wp_loop_rounds 2 ?_
  rw [rounds_succ]
  go_wp2_with (go_at_call 123; refine (unwrap_c _ _ _).mono ?_; rintro e w' ⟨rfl, rfl⟩)
  rw [rounds_succ]
  go_wp2
  go_ret
  exact ⟨rfl, (Below.refl _ _).alloc (Nat.le_refl _) _⟩

set_option maxRecDepth 100000 in
set_option maxHeartbeats 2000000 in
/-- errors.Is(an error that wraps b, c). -/
theorem is_wrap_other (n : Int) (b c : Addr) (w : World) (hne : b ≠ c) {cb cc : Array Value} {tb tc : TypeId} (hb : w.heap[b.block]? = some (.cells cb tb (0, 0))) (hc : w.heap[c.block]? = some (.cells cc tc (0, 0))) :
    Calls Tryz.prog 32 #[leV n b, .iface 137 (.pointer (some c))] w fun e w' => e = .returned (.bool false) ∧ Below w.heap.size w w' := by
  obtain ⟨i, hi, hcmp⟩ := Option.map_eq_some_iff.1 isComp
  obtain ⟨j, hj, hjs⟩ := Option.map_eq_some_iff.1 isSize
  have h39 := @run_callFunc_extern Tryz.prog 61 _ Extern.ReflectliteType.typeOf Tryz.func61 (by kernel_rfl) (by kernel_rfl) (by kernel_rfl) (by kernel_rfl)
  have tT := isTypeOf
  have cT := isCalled
  have mR := isMethodComparable
  have nL := noIsL
  have uL := hasUnwrapL
  have mU := methodUnwrapL
  have nE := noIsE
  have uE := noUnwrapE
  have vE := noUnwrapsE
  have hdiff := fun (x y : Value) (w : World) => run_eql_iface_types (P := Tryz.prog) 42 137 x y Tryz.underlying37 (by decide) w
  have hb1 : (w.alloc (leO n b)).heap[b.block]? = some (.cells cb tb (0, 0)) := (Below.heap_alloc w _ _ (Array.getElem?_eq_some_iff.1 hb).1).trans hb
  have hc1 : (w.alloc (leO n b)).heap[c.block]? = some (.cells cc tc (0, 0)) := (Below.heap_alloc w _ _ (Array.getElem?_eq_some_iff.1 hc).1).trans hc
  have heq := run_eql_iface_ptr_other (P := Tryz.prog) (w.alloc (leO n b)) Tryz.underlying37 Tryz.underlying137 hi hcmp hj (by rw [hjs]; decide) hne hb1 hc1
  clear hb hc hb1 hc1
  go_enter Tryz.func32, Tryz.ntmps32
  go_wp2
  refine wp_loop_rounds 2 ?_
  rw [rounds_succ]
  go_wp2_with (go_at_call 123; refine (unwrap_c _ _ _).mono ?_; rintro e w' ⟨rfl, rfl⟩)
  rw [rounds_succ]
  go_wp2
  go_ret
  exact ⟨rfl, (Below.refl _ _).alloc (Nat.le_refl _) _⟩

/-- errors.As(nil, target). -/
theorem as_nil (t : Value) (w : World) : Calls Tryz.prog 14 #[.nilIface, t] w fun e w' => e = .returned (.bool false) ∧ w = w' := by
  go_enter Tryz.func14, Tryz.ntmps14
  go_wp2
  go_ret
  exact ⟨rfl, rfl⟩
end Go.Proofs.YtkfdklamfmnalaaGreatDoor
