/- errors.Is and errors.As at what package dlex hands them: an error of its own make that wraps a sentinel. -/
import Derived.Test.YthjfkngfgomkbaaGreatDoorDmean
import Derived.Stop.Asserts
namespace Go.Proofs.YthjfkngfgomkbaaGreatDoor
open Go.RowKit Go.Extern Go.Extern.Rtype Go.Extern.Stop Go.Stop

/-- A line, and the sentinel that is wrong there. -/
abbrev leV (n : Int) (x : Addr) : Value := .iface 57 (.agg #[.int .i64 n, .iface 214 (.pointer (some x))])
abbrev leO (n : Int) (x : Addr) : Obj := .cells #[.int .i64 n, .iface 214 (.pointer (some x))] 57

theorem noIsE (v : Value) (xT : TypeId) (w : World) : (Instr.typeAssert (.iface 214 v) xT 158 true).run Tryz.prog w = .ok (.tuple #[.nilIface, .bool false]) w := run_typeAssert_lacksB Tryz.underlying158 (by kernel_rfl) (by kernel_rfl) v xT w
theorem noUnwrapE (v : Value) (xT : TypeId) (w : World) : (Instr.typeAssert (.iface 214 v) xT 145 true).run Tryz.prog w = .ok (.tuple #[.nilIface, .bool false]) w := run_typeAssert_lacksB Tryz.underlying145 (by kernel_rfl) (by kernel_rfl) v xT w
theorem noUnwrapsE (v : Value) (xT : TypeId) (w : World) : (Instr.typeAssert (.iface 214 v) xT 147 true).run Tryz.prog w = .ok (.tuple #[.nilIface, .bool false]) w := run_typeAssert_lacksB Tryz.underlying147 (by kernel_rfl) (by kernel_rfl) v xT w
theorem noIsL (v : Value) (xT : TypeId) (w : World) : (Instr.typeAssert (.iface 57 v) xT 158 true).run Tryz.prog w = .ok (.tuple #[.nilIface, .bool false]) w := run_typeAssert_lacksB Tryz.underlying158 (by kernel_rfl) (by kernel_rfl) v xT w
theorem hasUnwrapL (v : Value) (xT : TypeId) (w : World) : (Instr.typeAssert (.iface 57 v) xT 145 true).run Tryz.prog w = .ok (.tuple #[.iface 57 v, .bool true]) w := run_typeAssert_hasB Tryz.underlying145 (by kernel_rfl) v xT w
theorem methodUnwrapL (x y : Value) (w : World) : (Go.method 345 57 (.agg #[x, y]) "Unwrap").run Tryz.prog w = .ok (188, .agg #[x, y]) w := by kernel_rfl

theorem cell_row {w : World} {k : Nat} {cs : Array Value} {t : TypeId} (h : w.heap[k]? = some (.cells cs t (0, 0))) (i : Nat) : w.cell? ⟨k, i, none⟩ = cs[i]? ∧ w.frozen? ⟨k, i, none⟩ = false := by
  simp [World.cell?, World.frozen?, h]

set_option maxHeartbeats 1000000 in
theorem unwrap_c (n : Int) (x : Addr) (w : World) :
    Calls Tryz.prog 188 #[.agg #[.int .i64 n, .iface 214 (.pointer (some x))]] w fun e w' => e = .returned (.iface 214 (.pointer (some x))) ∧ w' = w.alloc (leO n x) := by
  go_enter Tryz.func188, Tryz.ntmps188
  go_wp2
  go_ret
  exact ⟨rfl, rfl⟩

set_option maxRecDepth 100000 in
set_option maxHeartbeats 2000000 in
/-- errors.Is(an error that wraps c, c). -/
theorem is_wrap_same (n : Int) (c : Addr) (w : World) :
    Calls Tryz.prog 38 #[leV n c, .iface 214 (.pointer (some c))] w fun e w' => e = .returned (.bool true) ∧ Below w.heap.size w w' := by
  obtain ⟨i, hi, hcmp⟩ := Option.map_eq_some_iff.1 isComp
  obtain ⟨j, hj, hjs⟩ := Option.map_eq_some_iff.1 isSize
  have h39 := @run_callFunc_extern Tryz.prog 69 _ Extern.ReflectliteType.typeOf Tryz.func69 (by kernel_rfl) (by kernel_rfl) (by kernel_rfl) (by kernel_rfl)
  have tT := isTypeOf
  have cT := isCalled
  have mR := isMethodComparable
  have nL := noIsL
  have uL := hasUnwrapL
  have mU := methodUnwrapL
  have hdiff := fun (x y : Value) (w : World) => run_eql_iface_types (P := Tryz.prog) 57 214 x y Tryz.underlying52 (by decide) w
  have heq := run_eql_iface_ptr_same (P := Tryz.prog) (w.alloc (leO n c)) c Tryz.underlying52 Tryz.underlying214 hi hcmp hj
  go_enter Tryz.func38, Tryz.ntmps38
  go_wp2
  refine wp_loop_rounds 2 ?_
  rw [rounds_succ]
  go_wp2_with (go_at_call 188; refine (unwrap_c _ _ _).mono ?_; rintro e w' ⟨rfl, rfl⟩)
  rw [rounds_succ]
  go_wp2
  go_ret
  exact ⟨rfl, (Below.refl _ _).alloc (Nat.le_refl _) _⟩

set_option maxRecDepth 100000 in
set_option maxHeartbeats 2000000 in
/-- errors.Is(an error that wraps b, c). -/
theorem is_wrap_other (n : Int) (b c : Addr) (w : World) (hne : b ≠ c) {cb cc : Array Value} {tb tc : TypeId} (hb : w.heap[b.block]? = some (.cells cb tb (0, 0))) (hc : w.heap[c.block]? = some (.cells cc tc (0, 0))) :
    Calls Tryz.prog 38 #[leV n b, .iface 214 (.pointer (some c))] w fun e w' => e = .returned (.bool false) ∧ Below w.heap.size w w' := by
  obtain ⟨i, hi, hcmp⟩ := Option.map_eq_some_iff.1 isComp
  obtain ⟨j, hj, hjs⟩ := Option.map_eq_some_iff.1 isSize
  have h39 := @run_callFunc_extern Tryz.prog 69 _ Extern.ReflectliteType.typeOf Tryz.func69 (by kernel_rfl) (by kernel_rfl) (by kernel_rfl) (by kernel_rfl)
  have tT := isTypeOf
  have cT := isCalled
  have mR := isMethodComparable
  have nL := noIsL
  have uL := hasUnwrapL
  have mU := methodUnwrapL
  have nE := noIsE
  have uE := noUnwrapE
  have vE := noUnwrapsE
  have hdiff := fun (x y : Value) (w : World) => run_eql_iface_types (P := Tryz.prog) 57 214 x y Tryz.underlying52 (by decide) w
  have hb1 : (w.alloc (leO n b)).heap[b.block]? = some (.cells cb tb (0, 0)) := (Below.heap_alloc w _ _ (Array.getElem?_eq_some_iff.1 hb).1).trans hb
  have hc1 : (w.alloc (leO n b)).heap[c.block]? = some (.cells cc tc (0, 0)) := (Below.heap_alloc w _ _ (Array.getElem?_eq_some_iff.1 hc).1).trans hc
  have heq := run_eql_iface_ptr_other (P := Tryz.prog) (w.alloc (leO n b)) Tryz.underlying52 Tryz.underlying214 hi hcmp hj (by rw [hjs]; decide) hne hb1 hc1
  clear hb hc hb1 hc1
  go_enter Tryz.func38, Tryz.ntmps38
  go_wp2
  refine wp_loop_rounds 2 ?_
  rw [rounds_succ]
  go_wp2_with (go_at_call 188; refine (unwrap_c _ _ _).mono ?_; rintro e w' ⟨rfl, rfl⟩)
  rw [rounds_succ]
  go_wp2
  go_ret
  exact ⟨rfl, (Below.refl _ _).alloc (Nat.le_refl _) _⟩

/-- errors.As(nil, target). -/
theorem as_nil (t : Value) (w : World) : Calls Tryz.prog 22 #[.nilIface, t] w fun e w' => e = .returned (.bool false) ∧ w = w' := by
  go_enter Tryz.func22, Tryz.ntmps22
  go_wp2
  go_ret
  exact ⟨rfl, rfl⟩
end Go.Proofs.YthjfkngfgomkbaaGreatDoor
