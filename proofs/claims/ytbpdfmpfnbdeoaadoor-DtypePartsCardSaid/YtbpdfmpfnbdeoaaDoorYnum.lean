/- errors.Is of one sentinel and another; dtype.numberOf. What the laws of layer 5 read of the listed variables, all together. -/
import Derived.Test.YtbpdfmpfnbdeoaaDoorIs
import Derived.Test.YtbpdfmpfnbdeoaaDoorYlearn
import Derived.Stop.Asserts
import Derived.Test.YtbpdfmpfnbdeoaaDoorTright
namespace Go.Proofs.YtbpdfmpfnbdeoaaDoor
open Go.RowKit Go.Extern Go.Extern.Rtype Go.Extern.Stop Go.Stop

theorem noIsE (v : Value) (xT : TypeId) (w : World) : (Instr.typeAssert (.iface 193 v) xT 163 true).run Tryd.prog w = .ok (.tuple #[.nilIface, .bool false]) w := run_typeAssert_lacksB Tryd.underlying163 (by kernel_rfl) (by kernel_rfl) v xT w
theorem noUnwrapE (v : Value) (xT : TypeId) (w : World) : (Instr.typeAssert (.iface 193 v) xT 166 true).run Tryd.prog w = .ok (.tuple #[.nilIface, .bool false]) w := run_typeAssert_lacksB Tryd.underlying166 (by kernel_rfl) (by kernel_rfl) v xT w
theorem noUnwrapsE (v : Value) (xT : TypeId) (w : World) : (Instr.typeAssert (.iface 193 v) xT 168 true).run Tryd.prog w = .ok (.tuple #[.nilIface, .bool false]) w := run_typeAssert_lacksB Tryd.underlying168 (by kernel_rfl) (by kernel_rfl) v xT w
set_option maxRecDepth 100000 in
set_option maxHeartbeats 2000000 in
/-- errors.Is(b, c), two sentinels. -/
theorem is_other (b c : Addr) (w : World) (hne : b ≠ c) {cb cc : Array Value} {tb tc : TypeId} (hb : w.heap[b.block]? = some (.cells cb tb (0, 0))) (hc : w.heap[c.block]? = some (.cells cc tc (0, 0))) :
    Calls Tryd.prog 59 #[.iface 193 (.pointer (some b)), .iface 193 (.pointer (some c))] w fun e w' => e = .returned (.bool false) ∧ w = w' := by
  obtain ⟨i, hi, hcmp⟩ := Option.map_eq_some_iff.1 isComp
  obtain ⟨j, hj, hjs⟩ := Option.map_eq_some_iff.1 isSize
  have h39 := @run_callFunc_extern Tryd.prog 83 _ Extern.ReflectliteType.typeOf Tryd.func83 (by kernel_rfl) (by kernel_rfl) (by kernel_rfl) (by kernel_rfl)
  have tT := isTypeOf
  have cT := isCalled
  have mR := isMethodComparable
  have nE := noIsE
  have uE := noUnwrapE
  have vE := noUnwrapsE
  have heq := run_eql_iface_ptr_other (P := Tryd.prog) w Tryd.underlying80 Tryd.underlying193 hi hcmp hj (by rw [hjs]; decide) hne hb hc
  clear hb hc
  go_enter Tryd.func59, Tryd.ntmps59
  go_wp2
  refine wp_loop_rounds 1 ?_
  rw [rounds_succ]
  go_wp2
  go_ret
  exact ⟨rfl, rfl⟩
/-- The four errors are four. -/
structure YDiff (a b c d : Addr) (w : World) : Prop where
  ab : a ≠ b
  ac : a ≠ c
  ad : a ≠ d
  cb : c ≠ b
  db : d ≠ b
  dc : d ≠ c
  ra : ∃ cs t, w.heap[a.block]? = some (.cells cs t (0, 0))
  rb : ∃ cs t, w.heap[b.block]? = some (.cells cs t (0, 0))
  rc : ∃ cs t, w.heap[c.block]? = some (.cells cs t (0, 0))
  rd : ∃ cs t, w.heap[d.block]? = some (.cells cs t (0, 0))
set_option maxRecDepth 100000 in
set_option maxHeartbeats 2000000 in
theorem num_ty (n : Nat) (a b c d : Addr) (w : World) (E : YEnv n a b c d w) (D : YDiff a b c d w) :
    Calls Tryd.prog 43 #[errV a] w fun e w' => e = .returned (.int .i64 53) ∧ w = w' := by
  have h1 := E.ty
  have h2 := E.tw
  have h3 := E.no
  have h4 := E.ar
  unfold errV at *
  obtain ⟨ca, ta, ra⟩ := D.ra
  obtain ⟨cb, tb, rb⟩ := D.rb
  obtain ⟨cc, tc, rc⟩ := D.rc
  obtain ⟨cd, td, rd⟩ := D.rd
  have Hab := Lib.hid (is_other a b w D.ab ra rb)
  have Hac := Lib.hid (is_other a c w D.ac ra rc)
  have Had := Lib.hid (is_other a d w D.ad ra rd)
  have Hcb := Lib.hid (is_other c b w D.cb rc rb)
  have Hdb := Lib.hid (is_other d b w D.db rd rb)
  have Hdc := Lib.hid (is_other d c w D.dc rd rc)
  clear ra rb rc rd E D
  go_enter Tryd.func43, Tryd.ntmps43
  go_wp2_with fail
  refine (Hab.out).mono ?_
  rintro e w' ⟨rfl, rfl⟩
  go_wp2_with fail
  refine (Hac.out).mono ?_
  rintro e w' ⟨rfl, rfl⟩
  go_wp2_with fail
  refine (Had.out).mono ?_
  rintro e w' ⟨rfl, rfl⟩
  go_wp2_with fail
  refine (is_same a w).mono ?_
  rintro e w' ⟨rfl, rfl⟩
  go_wp2
  go_ret
  exact ⟨rfl, rfl⟩
set_option maxRecDepth 100000 in
set_option maxHeartbeats 2000000 in
theorem num_no (n : Nat) (a b c d : Addr) (w : World) (E : YEnv n a b c d w) (D : YDiff a b c d w) :
    Calls Tryd.prog 43 #[errV c] w fun e w' => e = .returned (.int .i64 51) ∧ w = w' := by
  have h1 := E.ty
  have h2 := E.tw
  have h3 := E.no
  have h4 := E.ar
  unfold errV at *
  obtain ⟨ca, ta, ra⟩ := D.ra
  obtain ⟨cb, tb, rb⟩ := D.rb
  obtain ⟨cc, tc, rc⟩ := D.rc
  obtain ⟨cd, td, rd⟩ := D.rd
  have Hab := Lib.hid (is_other a b w D.ab ra rb)
  have Hac := Lib.hid (is_other a c w D.ac ra rc)
  have Had := Lib.hid (is_other a d w D.ad ra rd)
  have Hcb := Lib.hid (is_other c b w D.cb rc rb)
  have Hdb := Lib.hid (is_other d b w D.db rd rb)
  have Hdc := Lib.hid (is_other d c w D.dc rd rc)
  clear ra rb rc rd E D
  go_enter Tryd.func43, Tryd.ntmps43
  go_wp2_with fail
  refine (Hcb.out).mono ?_
  rintro e w' ⟨rfl, rfl⟩
  go_wp2_with fail
  refine (is_same c w).mono ?_
  rintro e w' ⟨rfl, rfl⟩
  go_wp2
  go_ret
  exact ⟨rfl, rfl⟩
set_option maxRecDepth 100000 in
set_option maxHeartbeats 2000000 in
theorem num_ar (n : Nat) (a b c d : Addr) (w : World) (E : YEnv n a b c d w) (D : YDiff a b c d w) :
    Calls Tryd.prog 43 #[errV d] w fun e w' => e = .returned (.int .i64 52) ∧ w = w' := by
  have h1 := E.ty
  have h2 := E.tw
  have h3 := E.no
  have h4 := E.ar
  unfold errV at *
  obtain ⟨ca, ta, ra⟩ := D.ra
  obtain ⟨cb, tb, rb⟩ := D.rb
  obtain ⟨cc, tc, rc⟩ := D.rc
  obtain ⟨cd, td, rd⟩ := D.rd
  have Hab := Lib.hid (is_other a b w D.ab ra rb)
  have Hac := Lib.hid (is_other a c w D.ac ra rc)
  have Had := Lib.hid (is_other a d w D.ad ra rd)
  have Hcb := Lib.hid (is_other c b w D.cb rc rb)
  have Hdb := Lib.hid (is_other d b w D.db rd rb)
  have Hdc := Lib.hid (is_other d c w D.dc rd rc)
  clear ra rb rc rd E D
  go_enter Tryd.func43, Tryd.ntmps43
  go_wp2_with fail
  refine (Hdb.out).mono ?_
  rintro e w' ⟨rfl, rfl⟩
  go_wp2_with fail
  refine (Hdc.out).mono ?_
  rintro e w' ⟨rfl, rfl⟩
  go_wp2_with fail
  refine (is_same d w).mono ?_
  rintro e w' ⟨rfl, rfl⟩
  go_wp2
  go_ret
  exact ⟨rfl, rfl⟩
set_option maxRecDepth 100000 in
set_option maxHeartbeats 2000000 in
theorem num_tw (n : Nat) (a b c d : Addr) (w : World) (E : YEnv n a b c d w) (D : YDiff a b c d w) :
    Calls Tryd.prog 43 #[errV b] w fun e w' => e = .returned (.int .i64 50) ∧ w = w' := by
  have h1 := E.ty
  have h2 := E.tw
  have h3 := E.no
  have h4 := E.ar
  unfold errV at *
  obtain ⟨ca, ta, ra⟩ := D.ra
  obtain ⟨cb, tb, rb⟩ := D.rb
  obtain ⟨cc, tc, rc⟩ := D.rc
  obtain ⟨cd, td, rd⟩ := D.rd
  have Hab := Lib.hid (is_other a b w D.ab ra rb)
  have Hac := Lib.hid (is_other a c w D.ac ra rc)
  have Had := Lib.hid (is_other a d w D.ad ra rd)
  have Hcb := Lib.hid (is_other c b w D.cb rc rb)
  have Hdb := Lib.hid (is_other d b w D.db rd rb)
  have Hdc := Lib.hid (is_other d c w D.dc rd rc)
  clear ra rb rc rd E D
  go_enter Tryd.func43, Tryd.ntmps43
  go_wp2_with fail
  refine (is_same b w).mono ?_
  rintro e w' ⟨rfl, rfl⟩
  go_wp2
  go_ret
  exact ⟨rfl, rfl⟩
set_option maxRecDepth 100000 in
set_option maxHeartbeats 2000000 in
theorem num_nil (n : Nat) (a b c d : Addr) (w : World) (E : YEnv n a b c d w) (D : YDiff a b c d w) :
    Calls Tryd.prog 43 #[.nilIface] w fun e w' => e = .returned (.int .i64 0) ∧ w = w' := by
  have h1 := E.ty
  have h2 := E.tw
  have h3 := E.no
  have h4 := E.ar
  unfold errV at *
  obtain ⟨ca, ta, ra⟩ := D.ra
  obtain ⟨cb, tb, rb⟩ := D.rb
  obtain ⟨cc, tc, rc⟩ := D.rc
  obtain ⟨cd, td, rd⟩ := D.rd
  have Hab := Lib.hid (is_other a b w D.ab ra rb)
  have Hac := Lib.hid (is_other a c w D.ac ra rc)
  have Had := Lib.hid (is_other a d w D.ad ra rd)
  have Hcb := Lib.hid (is_other c b w D.cb rc rb)
  have Hdb := Lib.hid (is_other d b w D.db rd rb)
  have Hdc := Lib.hid (is_other d c w D.dc rd rc)
  clear ra rb rc rd E D
  go_enter Tryd.func43, Tryd.ntmps43
  go_wp2_with fail
  refine (is_nil b w).mono ?_
  rintro e w' ⟨rfl, rfl⟩
  go_wp2_with fail
  refine (is_nil c w).mono ?_
  rintro e w' ⟨rfl, rfl⟩
  go_wp2_with fail
  refine (is_nil d w).mono ?_
  rintro e w' ⟨rfl, rfl⟩
  go_wp2_with fail
  refine (is_nil a w).mono ?_
  rintro e w' ⟨rfl, rfl⟩
  go_wp2
  go_ret
  exact ⟨rfl, rfl⟩
end Go.Proofs.YtbpdfmpfnbdeoaaDoor
namespace Go.Proofs.YtbpdfmpfnbdeoaaDoor
open Go.RowKit

structure EnvY (e a b c d : Addr) (w : World) : Prop where
  tr : TErr e w
  y : YEnv w.heap.size a b c d w
  df : YDiff a b c d w
theorem heap_lt {w : World} {i : Nat} {o : Obj} (h : w.heap[i]? = some o) : i < w.heap.size := (Array.getElem?_eq_some_iff.1 h).1
theorem YDiff.below {a b c d : Addr} {w w' : World} (h : YDiff a b c d w) (hb : Below w.heap.size w w') : YDiff a b c d w' := by
  have k : ∀ {x : Addr}, (∃ cs t, w.heap[x.block]? = some (.cells cs t (0, 0))) → ∃ cs t, w'.heap[x.block]? = some (.cells cs t (0, 0)) := fun ⟨cs, t, h⟩ => ⟨cs, t, (hb.block _ (heap_lt h)).trans h⟩
  exact ⟨h.ab, h.ac, h.ad, h.cb, h.db, h.dc, k h.ra, k h.rb, k h.rc, k h.rd⟩
theorem YEnv.more {n m : Nat} {a b c d : Addr} {w : World} (h : YEnv n a b c d w) (hm : n ≤ m) : YEnv m a b c d w := ⟨h.ty, h.tw, h.no, h.ar, by have := h.big; omega⟩
theorem EnvY.below {e a b c d : Addr} {w w' : World} (h : EnvY e a b c d w) (hb : Below w.heap.size w w') : EnvY e a b c d w' :=
  ⟨h.tr.below hb, (h.y.below hb).more hb.size, h.df.below hb⟩
end Go.Proofs.YtbpdfmpfnbdeoaaDoor
