/- errors.Is and errors.As at what package dlex hands them: an error of its own make that wraps a sentinel. -/
import Derived.Test.YtkfdklamfmnalaaDoorDmean
import Derived.Stop.Asserts
namespace Go.Proofs.YtkfdklamfmnalaaDoor
open Go.RowKit Go.Extern Go.Extern.Rtype Go.Extern.Stop Go.Stop

/-- A line, and the sentinel that is wrong there. -/
abbrev leV (n : Int) (x : Addr) : Value := .iface 76 (.agg #[.int .i64 n, .iface 150 (.pointer (some x))])
abbrev leO (n : Int) (x : Addr) : Obj := .cells #[.int .i64 n, .iface 150 (.pointer (some x))] 76

theorem noIsE (v : Value) (xT : TypeId) (w : World) : (Instr.typeAssert (.iface 150 v) xT 115 true).run Tryd.prog w = .ok (.tuple #[.nilIface, .bool false]) w := run_typeAssert_lacksB Tryd.underlying115 (by kernel_rfl) (by kernel_rfl) v xT w
theorem noUnwrapE (v : Value) (xT : TypeId) (w : World) : (Instr.typeAssert (.iface 150 v) xT 118 true).run Tryd.prog w = .ok (.tuple #[.nilIface, .bool false]) w := run_typeAssert_lacksB Tryd.underlying118 (by kernel_rfl) (by kernel_rfl) v xT w
theorem noUnwrapsE (v : Value) (xT : TypeId) (w : World) : (Instr.typeAssert (.iface 150 v) xT 120 true).run Tryd.prog w = .ok (.tuple #[.nilIface, .bool false]) w := run_typeAssert_lacksB Tryd.underlying120 (by kernel_rfl) (by kernel_rfl) v xT w
theorem noIsL (v : Value) (xT : TypeId) (w : World) : (Instr.typeAssert (.iface 76 v) xT 115 true).run Tryd.prog w = .ok (.tuple #[.nilIface, .bool false]) w := run_typeAssert_lacksB Tryd.underlying115 (by kernel_rfl) (by kernel_rfl) v xT w
theorem hasUnwrapL (v : Value) (xT : TypeId) (w : World) : (Instr.typeAssert (.iface 76 v) xT 118 true).run Tryd.prog w = .ok (.tuple #[.iface 76 v, .bool true]) w := run_typeAssert_hasB Tryd.underlying118 (by kernel_rfl) v xT w
theorem methodUnwrapL (x y : Value) (w : World) : (Go.method 281 76 (.agg #[x, y]) "Unwrap").run Tryd.prog w = .ok (136, .agg #[x, y]) w := by kernel_rfl

theorem cell_row {w : World} {k : Nat} {cs : Array Value} {t : TypeId} (h : w.heap[k]? = some (.cells cs t (0, 0))) (i : Nat) : w.cell? ⟨k, i, none⟩ = cs[i]? ∧ w.frozen? ⟨k, i, none⟩ = false := by
  simp [World.cell?, World.frozen?, h]

set_option maxHeartbeats 1000000 in
theorem unwrap_c (n : Int) (x : Addr) (w : World) :
    Calls Tryd.prog 136 #[.agg #[.int .i64 n, .iface 150 (.pointer (some x))]] w fun e w' => e = .returned (.iface 150 (.pointer (some x))) ∧ w' = w.alloc (leO n x) := by
  go_enter Tryd.func136, Tryd.ntmps136
  go_wp2
  go_ret
  exact ⟨rfl, rfl⟩

set_option maxRecDepth 100000 in
set_option maxHeartbeats 2000000 in
/-- errors.Is(an error that wraps c, c). -/
theorem is_wrap_same (n : Int) (c : Addr) (w : World) :
    Calls Tryd.prog 29 #[leV n c, .iface 150 (.pointer (some c))] w fun e w' => e = .returned (.bool true) ∧ Below w.heap.size w w' := by
  obtain ⟨i, hi, hcmp⟩ := Option.map_eq_some_iff.1 isComp
  obtain ⟨j, hj, hjs⟩ := Option.map_eq_some_iff.1 isSize
  have h39 := @run_callFunc_extern Tryd.prog 52 _ Extern.ReflectliteType.typeOf Tryd.func52 (by kernel_rfl) (by kernel_rfl) (by kernel_rfl) (by kernel_rfl)
  have tT := isTypeOf
  have cT := isCalled
  have mR := isMethodComparable
  have nL := noIsL
  have uL := hasUnwrapL
  have mU := methodUnwrapL
  have hdiff := fun (x y : Value) (w : World) => run_eql_iface_types (P := Tryd.prog) 76 150 x y Tryd.underlying45 (by decide) w
  have heq := run_eql_iface_ptr_same (P := Tryd.prog) (w.alloc (leO n c)) c Tryd.underlying45 Tryd.underlying150 hi hcmp hj
  go_enter Tryd.func29, Tryd.ntmps29
  go_wp2
  refine wp_loop_rounds 2 ?_
  rw [rounds_succ]
  go_wp2_with (go_at_call 136; refine (unwrap_c _ _ _).mono ?_; rintro e w' ⟨rfl, rfl⟩)
  rw [rounds_succ]
  go_wp2
  go_ret
  exact ⟨rfl, (Below.refl _ _).alloc (Nat.le_refl _) _⟩

set_option maxRecDepth 100000 in
set_option maxHeartbeats 2000000 in
/-- errors.Is(an error that wraps b, c). -/
theorem is_wrap_other (n : Int) (b c : Addr) (w : World) (hne : b ≠ c) {cb cc : Array Value} {tb tc : TypeId} (hb : w.heap[b.block]? = some (.cells cb tb (0, 0))) (hc : w.heap[c.block]? = some (.cells cc tc (0, 0))) :
    Calls Tryd.prog 29 #[leV n b, .iface 150 (.pointer (some c))] w fun e w' => e = .returned (.bool false) ∧ Below w.heap.size w w' := by
  obtain ⟨i, hi, hcmp⟩ := Option.map_eq_some_iff.1 isComp
  obtain ⟨j, hj, hjs⟩ := Option.map_eq_some_iff.1 isSize
  have h39 := @run_callFunc_extern Tryd.prog 52 _ Extern.ReflectliteType.typeOf Tryd.func52 (by kernel_rfl) (by kernel_rfl) (by kernel_rfl) (by kernel_rfl)
  have tT := isTypeOf
  have cT := isCalled
  have mR := isMethodComparable
  have nL := noIsL
  have uL := hasUnwrapL
  have mU := methodUnwrapL
  have nE := noIsE
  have uE := noUnwrapE
  have vE := noUnwrapsE
  have hdiff := fun (x y : Value) (w : World) => run_eql_iface_types (P := Tryd.prog) 76 150 x y Tryd.underlying45 (by decide) w
  have hb1 : (w.alloc (leO n b)).heap[b.block]? = some (.cells cb tb (0, 0)) := (Below.heap_alloc w _ _ (Array.getElem?_eq_some_iff.1 hb).1).trans hb
  have hc1 : (w.alloc (leO n b)).heap[c.block]? = some (.cells cc tc (0, 0)) := (Below.heap_alloc w _ _ (Array.getElem?_eq_some_iff.1 hc).1).trans hc
  have heq := run_eql_iface_ptr_other (P := Tryd.prog) (w.alloc (leO n b)) Tryd.underlying45 Tryd.underlying150 hi hcmp hj (by rw [hjs]; decide) hne hb1 hc1
  clear hb hc hb1 hc1
  go_enter Tryd.func29, Tryd.ntmps29
  go_wp2
  refine wp_loop_rounds 2 ?_
  rw [rounds_succ]
  go_wp2_with (go_at_call 136; refine (unwrap_c _ _ _).mono ?_; rintro e w' ⟨rfl, rfl⟩)
  rw [rounds_succ]
  go_wp2
  go_ret
  exact ⟨rfl, (Below.refl _ _).alloc (Nat.le_refl _) _⟩

/-- errors.As(nil, target). -/
theorem as_nil (t : Value) (w : World) : Calls Tryd.prog 46 #[.nilIface, t] w fun e w' => e = .returned (.bool false) ∧ w = w' := by
  go_enter Tryd.func46, Tryd.ntmps46
  go_wp2
  go_ret
  exact ⟨rfl, rfl⟩
end Go.Proofs.YtkfdklamfmnalaaDoor
