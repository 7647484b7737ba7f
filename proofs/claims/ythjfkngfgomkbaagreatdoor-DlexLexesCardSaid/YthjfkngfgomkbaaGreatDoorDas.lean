/- errors.As finds a line's error in itself: the target holds its line behind the call. -/
import Derived.Test.YthjfkngfgomkbaaGreatDoorDerr
import Derived.Laws.Rows
import Derived.Laws.Tables
namespace Go.Proofs.YthjfkngfgomkbaaGreatDoor
open Go.RowKit Go.Extern.Stop Go.Stop Go.Extern

/-- reflectlite's Value of a type at an address, with its flags. -/
abbrev rv (t : Nat) (a : Addr) (fl : Int) : Value := .agg #[.pointer (some ⟨12, t, none⟩), .pointer (some a), .int .u64 fl]
theorem asValueOfP (t : Addr) (w : World) : (ReflectliteValue.unpack (.iface 59 (.pointer (some t)))).run Tryz.prog w = .ok (rv 59 ⟨w.heap.size, 0, none⟩ 150) (w.alloc (.cells #[.pointer (some t)] 59)) := by kernel_rfl
theorem asTypeP (a : Addr) (w : World) : (ReflectliteValue.methodAny (ReflectliteValue.valueError "reflectlite.Value.Type" 0) (fun t _ _ _ => ReflectliteType.toType t) #[rv 59 a 150]).run Tryz.prog w
    = .ok (.iface 138 (.agg #[.pointer (some ⟨12, 59, none⟩)])) w := by kernel_rfl
theorem asMethodKind (h : Value) (w : World) : (Go.method 345 138 (.agg #[h]) "Kind").run Tryz.prog w = .ok (184, h) w := by kernel_rfl
theorem asKindP (w : World) : ((ReflectliteType.abiMethod fun t => Functor.map (fun a : Nat => Value.int IntKind.u8 (a : Int)) (Rtype.kind t)) #[.pointer (some ⟨12, 59, none⟩)]).run Tryz.prog w = .ok (.int .u8 22) w := by kernel_rfl
theorem asKindL (w : World) : ((ReflectliteType.abiMethod fun t => Functor.map (fun a : Nat => Value.int IntKind.u8 (a : Int)) (Rtype.kind t)) #[.pointer (some ⟨12, 57, none⟩)]).run Tryz.prog w = .ok (.int .u8 25) w := by kernel_rfl
theorem asRlm (z : Sem Value) (f : TypeId → Addr → Nat → Nat → Sem Value) (v : Value) :
    ReflectliteValue.method z f #[v] = (do match ← ReflectliteValue.parts v with | none => z | some (t, a, fl) => f t a fl (fl % 32)) := rfl
theorem asPartsP (a : Addr) (w : World) : (ReflectliteValue.parts (rv 59 a 150)).run Tryz.prog w = .ok (some (59, a, 150)) w := by kernel_rfl
theorem asIsNilP (a p : Addr) (W : World) (ha : W.cell? a = some (.pointer (some p))) :
    (ReflectliteValue.method (ReflectliteValue.valueError "reflectlite.Value.IsNil" 0) ReflectliteValue.isNil #[rv 59 a 150]).run Tryz.prog W = .ok (.bool false) W := by
  rw [asRlm]
  simp only [Sem.run_bind, asPartsP, Result.andThen]
  simp [ReflectliteValue.isNil, loadVar, isAgg, underlying, Tryz.underlying59, ha, Result.andThen]
theorem asMethodElem (h : Value) (w : World) : (Go.method 345 138 (.agg #[h]) "Elem").run Tryz.prog w = .ok (196, .agg #[h]) w := by kernel_rfl
theorem asMethodImplements (h : Value) (w : World) : (Go.method 345 138 (.agg #[h]) "Implements").run Tryz.prog w = .ok (197, .agg #[h]) w := by kernel_rfl
theorem asMethodAssignable (h : Value) (w : World) : (Go.method 345 138 (.agg #[h]) "AssignableTo").run Tryz.prog w = .ok (194, .agg #[h]) w := by kernel_rfl
theorem asElemP (w : World) : (ReflectliteType.method ReflectliteType.elem #[.agg #[.pointer (some ⟨12, 59, none⟩)]]).run Tryz.prog w = .ok (.iface 138 (.agg #[.pointer (some ⟨12, 57, none⟩)])) w := by kernel_rfl
theorem asImplements (w : World) : (ReflectliteType.relation "Implements" ReflectliteType.implements_ #[.agg #[.pointer (some ⟨12, 57, none⟩)], .iface 138 (.agg #[.pointer (some ⟨12, 52, none⟩)])]).run Tryz.prog w = .ok (.bool true) w := by kernel_rfl
theorem asTypeOfL (v : Value) (w : World) : (ReflectliteType.typeOf #[.iface 57 v]).run Tryz.prog w = .ok (.iface 138 (.agg #[.pointer (some ⟨12, 57, none⟩)])) w := by kernel_rfl
theorem asAssignable (w : World) : (ReflectliteType.relation "AssignableTo" ReflectliteType.assignableTo #[.agg #[.pointer (some ⟨12, 57, none⟩)], .iface 138 (.agg #[.pointer (some ⟨12, 57, none⟩)])]).run Tryz.prog w = .ok (.bool true) w := by kernel_rfl
theorem asValueOfL (x y : Value) (w : World) : (ReflectliteValue.unpack (.iface 57 (.agg #[x, y]))).run Tryz.prog w
    = .ok (rv 57 ⟨w.heap.size, 0, none⟩ 153) (w.alloc (.cells #[x, y] 57)) := by kernel_rfl
theorem asElemOf (w : World) : (Rtype.elem? 59).run Tryz.prog w = .ok (some 57) w := by kernel_rfl
theorem asMk (p : Addr) (w : World) : (ReflectliteValue.mk 57 p ReflectliteValue.flagAddr).run Tryz.prog w = .ok (rv 57 p 409) w := by kernel_rfl
theorem asElemV (a p : Addr) (W : World) (ha : W.cell? a = some (.pointer (some p))) :
    (ReflectliteValue.method (ReflectliteValue.valueError "reflectlite.Value.Elem" 0) ReflectliteValue.elem #[rv 59 a 150]).run Tryz.prog W = .ok (rv 57 p 409) W := by
  rw [asRlm]
  simp only [Sem.run_bind, asPartsP, Result.andThen]
  simp [ReflectliteValue.elem, loadVar, isAgg, underlying, Tryz.underlying59, ha, Result.andThen, asElemOf, asMk]
theorem asRls (v x : Value) : ReflectliteValue.set #[v, x] = (do
    let (some (dst, a, fl), some (src, b, _)) := (← ReflectliteValue.parts v, ← ReflectliteValue.parts x)
      | unsupported (.noEntry "extern/(internal/reflectlite.Value).Set.zeroValue")
    if fl / ReflectliteValue.flagAddr % 2 == 0 then unsupported (.noEntry "extern/(internal/reflectlite.Value).Set.unaddressable")
    let val ← loadVar src b
    if ← Rtype.directlyAssignable dst src then storeVar dst a val
    else if ← Rtype.implements dst src then
      if (← Rtype.kind src) == 20 then
        match val with
        | .nilIface => unsupported (.noEntry "extern/reflectlite: a nil value of one interface type handed on as a value of another")
        | _ => storeVar dst a val
      else storeVar dst a (.iface src val)
    else panicString ("reflectlite.Set: value of type " ++ (← Rtype.spelt src) ++ " is not assignable to type " ++ (← Rtype.spelt dst))
    pure (.tuple #[])) := rfl
theorem asPartsD (a : Addr) (w : World) : (ReflectliteValue.parts (rv 57 a 409)).run Tryz.prog w = .ok (some (57, a, 409)) w := by kernel_rfl
theorem asPartsS (a : Addr) (w : World) : (ReflectliteValue.parts (rv 57 a 153)).run Tryz.prog w = .ok (some (57, a, 153)) w := by kernel_rfl
theorem asDirect (w : World) : (Rtype.directlyAssignable 57 57).run Tryz.prog w = .ok true w := by kernel_rfl
theorem asSize : (Tryz.prog.info? 57).map (·.size) = some 2 := by kernel_rfl
theorem asLoad (b : Nat) (x y : Value) (W : World) (hb : W.heap[b]? = some (.cells #[x, y] 57 (0, 0))) : (loadVar 57 ⟨b, 0, none⟩).run Tryz.prog W = .ok (.agg #[x, y]) W :=
  run_loadVar_row W b 57 57 #[x, y] (0, 0) _ hb Tryz.underlying57 rfl asSize
theorem asStore (k : Nat) (x y u v : Value) (h1 : (#[x, y] : Array Value).all (·.oneCell') = true) (W : World) (hk : W.heap[k]? = some (.cells #[u, v] 57 (0, 0))) :
    (storeVar 57 ⟨k, 0, none⟩ (.agg #[x, y])).run Tryz.prog W = .ok () (W.setRow k #[x, y]) :=
  run_storeVar_row W k 57 57 #[u, v] #[x, y] hk asSize rfl h1
theorem asSet (k b : Nat) (x y u v : Value) (h1 : (#[x, y] : Array Value).all (·.oneCell') = true) (W : World) (hb : W.heap[b]? = some (.cells #[x, y] 57 (0, 0))) (hk : W.heap[k]? = some (.cells #[u, v] 57 (0, 0))) :
    (ReflectliteValue.set #[rv 57 ⟨k, 0, none⟩ 409, rv 57 ⟨b, 0, none⟩ 153]).run Tryz.prog W = .ok (.tuple #[]) (W.setRow k #[x, y]) := by
  rw [asRls]
  simp only [Sem.run_bind, asPartsD, asPartsS, Result.andThen]
  simp [ReflectliteValue.flagAddr, asLoad b x y W hb, Result.andThen, asDirect, asStore k x y u v h1 W hk]

theorem setRow_below (W : World) (k : Nat) (cs' : Array Value) : Below k W (W.setRow k cs') :=
  ⟨rfl, rfl, rfl, by simp, fun i hi => setRow_other W k i cs' (by omega)⟩

set_option maxRecDepth 100000 in
set_option maxHeartbeats 4000000 in
theorem as_hit (n : Int) (x : Addr) (k : Nat) (w : World) (hk : w.heap[k]? = some (.cells #[.int .i64 0, .nilIface] 57 (0, 0))) (hgk : 8 ≤ k)
    (hg : w.cell? ⟨2, 0, none⟩ = some (.iface 138 (.agg #[.pointer (some ⟨12, 52, none⟩)]))) :
    Calls Tryz.prog 22 #[leV n x, .iface 59 (.pointer (some ⟨k, 0, none⟩))] w fun e w' => e = .returned (.bool true) ∧ w'.cell? ⟨k, 0, none⟩ = some (.int .i64 n) ∧ Below k w w' := by
  have h6 := @run_callFunc_extern Tryz.prog 48 _ (fun args => ReflectliteValue.unpack (args.getD 0 (.tuple #[]))) Tryz.func48 (by kernel_rfl) (by kernel_rfl) (by kernel_rfl) (by kernel_rfl)
  have h7 := @run_callFunc_extern Tryz.prog 49 _ (ReflectliteValue.methodAny (ReflectliteValue.valueError "reflectlite.Value.Type" 0) (fun t _ _ _ => ReflectliteType.toType t)) Tryz.func49 (by kernel_rfl) (by kernel_rfl) (by kernel_rfl) (by kernel_rfl)
  have h8 := @run_callFunc_extern Tryz.prog 50 _ (ReflectliteValue.method (ReflectliteValue.valueError "reflectlite.Value.IsNil" 0) ReflectliteValue.isNil) Tryz.func50 (by kernel_rfl) (by kernel_rfl) (by kernel_rfl) (by kernel_rfl)
  have h27 := @run_callFunc_extern Tryz.prog 184 _ (ReflectliteType.abiMethod fun t => do pure (.int .u8 (← Rtype.kind t))) Tryz.func184 (by kernel_rfl) (by kernel_rfl) (by kernel_rfl) (by kernel_rfl)
  have h37 := @run_callFunc_extern Tryz.prog 196 _ (ReflectliteType.method ReflectliteType.elem) Tryz.func196 (by kernel_rfl) (by kernel_rfl) (by kernel_rfl) (by kernel_rfl)
  have h38 := @run_callFunc_extern Tryz.prog 197 _ (ReflectliteType.relation "Implements" ReflectliteType.implements_) Tryz.func197 (by kernel_rfl) (by kernel_rfl) (by kernel_rfl) (by kernel_rfl)
  have h10 := @run_callFunc_extern Tryz.prog 69 _ ReflectliteType.typeOf Tryz.func69 (by kernel_rfl) (by kernel_rfl) (by kernel_rfl) (by kernel_rfl)
  have h35 := @run_callFunc_extern Tryz.prog 194 _ (ReflectliteType.relation "AssignableTo" ReflectliteType.assignableTo) Tryz.func194 (by kernel_rfl) (by kernel_rfl) (by kernel_rfl) (by kernel_rfl)
  have h11 := @run_callFunc_extern Tryz.prog 94 _ (ReflectliteValue.method (ReflectliteValue.valueError "reflectlite.Value.Elem" 0) ReflectliteValue.elem) Tryz.func94 (by kernel_rfl) (by kernel_rfl) (by kernel_rfl) (by kernel_rfl)
  have h12 := @run_callFunc_extern Tryz.prog 95 _ ReflectliteValue.set Tryz.func95 (by kernel_rfl) (by kernel_rfl) (by kernel_rfl) (by kernel_rfl)
  have tO := asTypeOfL
  have mA := asMethodAssignable
  have a25 := asAssignable
  have v25 := asValueOfL
  have f6 := asValueOfP
  have f7 := asTypeP
  have mK := asMethodKind
  have mE := asMethodElem
  have mI := asMethodImplements
  have k27 := asKindP
  have k25 := asKindL
  have e27 := asElemP
  have i25 := asImplements
  obtain ⟨P, hP⟩ : ∃ P : Obj, .cells #[.pointer (some ⟨k, 0, none⟩)] 59 = P := ⟨_, rfl⟩
  have hklt : k < w.heap.size := (Array.getElem?_eq_some_iff.1 hk).1
  let B := fun (z : World) => (.cells #[.pointer (some ⟨12, 59, none⟩), .pointer (some ⟨z.heap.size, 0, none⟩), .int .u64 150] 100 : Obj)
  have n8 := asIsNilP ⟨w.heap.size, 0, none⟩ ⟨k, 0, none⟩ ((w.alloc (.cells #[.pointer (some ⟨k, 0, none⟩)] 59)).alloc (.cells #[.pointer (some ⟨12, 59, none⟩), .pointer (some ⟨w.heap.size, 0, none⟩), .int .u64 150] 100)) (by simp)
  have hg2 : ((w.alloc (.cells #[.pointer (some ⟨k, 0, none⟩)] 59)).alloc (.cells #[.pointer (some ⟨12, 59, none⟩), .pointer (some ⟨w.heap.size, 0, none⟩), .int .u64 150] 100)).cell? ⟨2, 0, none⟩ = some (.iface 138 (.agg #[.pointer (some ⟨12, 52, none⟩)])) := by
    rw [World.cell?_alloc_lt _ _ ⟨2, 0, none⟩ (by simp; omega), World.cell?_alloc_lt _ _ ⟨2, 0, none⟩ (by show 2 < _; omega)]; exact hg
  have el := asElemV ⟨w.heap.size, 0, none⟩ ⟨k, 0, none⟩ (((w.alloc (.cells #[.pointer (some ⟨k, 0, none⟩)] 59)).alloc (.cells #[.pointer (some ⟨12, 59, none⟩), .pointer (some ⟨w.heap.size, 0, none⟩), .int .u64 150] 100)).alloc (.cells #[.pointer (some ⟨12, 59, none⟩), .pointer (some ⟨w.heap.size, 0, none⟩), .int .u64 150] 100)) (by rw [World.cell?_alloc_lt _ _ ⟨w.heap.size, 0, none⟩ (by simp; omega)]; simp)
  have st := asSet k (w.heap.size + 1 + 1 + 1) (.int .i64 n) (.iface 214 (.pointer (some x))) (.int .i64 0) .nilIface (by simp [Value.oneCell']) ((((w.alloc (.cells #[.pointer (some ⟨k, 0, none⟩)] 59)).alloc (.cells #[.pointer (some ⟨12, 59, none⟩), .pointer (some ⟨w.heap.size, 0, none⟩), .int .u64 150] 100)).alloc (.cells #[.pointer (some ⟨12, 59, none⟩), .pointer (some ⟨w.heap.size, 0, none⟩), .int .u64 150] 100)).alloc (leO n x))
    (by rw [show w.heap.size + 1 + 1 + 1 = (((w.alloc (.cells #[.pointer (some ⟨k, 0, none⟩)] 59)).alloc (.cells #[.pointer (some ⟨12, 59, none⟩), .pointer (some ⟨w.heap.size, 0, none⟩), .int .u64 150] 100)).alloc (.cells #[.pointer (some ⟨12, 59, none⟩), .pointer (some ⟨w.heap.size, 0, none⟩), .int .u64 150] 100)).heap.size by simp]; exact World.alloc_heap_new _ _)
    ((Below.heap_alloc _ _ _ (by simp; omega)).trans ((Below.heap_alloc _ _ _ (by simp; omega)).trans ((Below.heap_alloc _ _ _ (by simp; omega)).trans ((Below.heap_alloc _ _ _ hklt).trans hk))))
  clear hg
  have Hk := Lib.hid hk
  have Hl := Lib.hid hklt
  clear hk hklt hP
  go_enter Tryz.func22, Tryz.ntmps22
  go_wp2
  refine wp_loop_rounds 1 ?_
  rw [rounds_succ]
  go_wp2
  go_ret
  have hrow := setRow_heap ((((w.alloc (.cells #[.pointer (some ⟨k, 0, none⟩)] 59)).alloc (.cells #[.pointer (some ⟨12, 59, none⟩), .pointer (some ⟨w.heap.size, 0, none⟩), .int .u64 150] 100)).alloc (.cells #[.pointer (some ⟨12, 59, none⟩), .pointer (some ⟨w.heap.size, 0, none⟩), .int .u64 150] 100)).alloc (leO n x)) k #[.int .i64 0, .nilIface] #[.int .i64 n, .iface 214 (.pointer (some x))] _ _
    ((Below.heap_alloc _ _ _ (by have := Hl.out; simp; omega)).trans ((Below.heap_alloc _ _ _ (by have := Hl.out; simp; omega)).trans ((Below.heap_alloc _ _ _ (by have := Hl.out; simp; omega)).trans ((Below.heap_alloc _ _ _ Hl.out).trans Hk.out))))
  refine ⟨rfl, (cell_row hrow 0).1, ?_⟩
  have hl := Hl.out
  exact (((((Below.refl _ _).alloc (by omega) _).alloc (by simp; omega) _).alloc (by simp; omega) _).alloc (by simp; omega) _).trans (setRow_below _ _ _)
end Go.Proofs.YthjfkngfgomkbaaGreatDoor
