/- Rm13@012, Rm14@012, Tamb@012, Derrno@012, Twpart@012, Twatom@012 -/
import Derived.Test.YtdgbajnhhhjbcaaGreatDoorQ16
import Derived.Test.YtdgbajnhhhjbcaaGreatDoorQ17
set_option linter.unusedSimpArgs false
namespace Go.Proofs.YtdgbajnhhhjbcaaGreatDoor
open Lib(hid)
open Go.RowKit Go.Extern.Stop Go.Stop Go.Extern
theorem gr_setRow (W:World) (k:Nat) (cs:Array Value):Gr k W (W.setRow k cs):=⟨rfl,rfl,rfl,by simp[World.setRow],fun i _ hr=>setRow_other _ _ _ _ (fun e=>hr (by rw[e]))⟩
theorem gr_al {k:Nat} (W:World) (o:Obj):Gr k W (W.alloc o):=Gr.of_below ((Below.refl _ _).alloc (Nat.le_refl _) _)
theorem gr4 (k:Nat) (w:World) (a b c d:Obj) (cs:Array Value):Gr k w (((((w.alloc a).alloc b).alloc c).alloc d).setRow k cs):=((((gr_al _ _).trans (gr_al _ _)).trans (gr_al _ _)).trans (gr_al _ _)).trans (gr_setRow _ _ _)
theorem gr5 (k:Nat) (w:World) (a b c d e:Obj) (v:Value):Gr k w ((((((w.alloc a).alloc b).alloc c).alloc d).alloc e).setCell ⟨k,0,none⟩ v):=(((((gr_al _ _).trans (gr_al _ _)).trans (gr_al _ _)).trans (gr_al _ _)).trans (gr_al _ _)).trans (gr_set _ _ _ _)
theorem aqValueOfP (t:Addr) (w:World):(ReflectliteValue.unpack (.iface 81 (.pointer (some t)))).run Tryz.prog w=.ok (rv 81 ⟨w.heap.size,0,none⟩ 150) (w.alloc (.cells #[.pointer (some t)] 81)):=by kernel_rfl
theorem aqTypeP (a : Addr) (w : World) : (ReflectliteValue.methodAny (ReflectliteValue.valueError "reflectlite.Value.Type" 0) (fun t _ _ _ => ReflectliteType.toType t) #[rv 81 a 150]).run Tryz.prog w
  = .ok (.iface 154 (.agg #[.pointer (some ⟨14,81,none⟩)])) w:=by kernel_rfl
theorem aqMethodKind (h : Value) (w : World) : (Go.method 424 154 (.agg #[h]) "Kind").run Tryz.prog w = .ok (259, h) w := by kernel_rfl
theorem aqKindP (w:World):((ReflectliteType.abiMethod fun t=>Functor.map (fun a:Nat=>Value.int IntKind.u8 (a:Int)) (Rtype.kind t)) #[.pointer (some ⟨14,81,none⟩)]).run Tryz.prog w=.ok (.int .u8 22) w:=by kernel_rfl
theorem aqKindL (w:World):((ReflectliteType.abiMethod fun t=>Functor.map (fun a:Nat=>Value.int IntKind.u8 (a:Int)) (Rtype.kind t)) #[.pointer (some ⟨14,78,none⟩)]).run Tryz.prog w=.ok (.int .u8 25) w:=by kernel_rfl
theorem aqPartsP (a:Addr) (w:World):(ReflectliteValue.parts (rv 81 a 150)).run Tryz.prog w=.ok (some (81,a,150)) w:=by kernel_rfl
theorem aqIsNilP (a p:Addr) (W:World) (ha:W.cell? a=some (.pointer (some p))) :
  (ReflectliteValue.method (ReflectliteValue.valueError "reflectlite.Value.IsNil" 0) ReflectliteValue.isNil #[rv 81 a 150]).run Tryz.prog W = .ok (.bool false) W := by
 rw[asRlm]
 simp only[Sem.run_bind,aqPartsP,Result.andThen]
 simp[ReflectliteValue.isNil,loadVar,isAgg,underlying,Tryz.underlying81,ha,Result.andThen]
theorem aqMethodElem (h : Value) (w : World) : (Go.method 424 154 (.agg #[h]) "Elem").run Tryz.prog w = .ok (274, .agg #[h]) w := by kernel_rfl
theorem aqMethodImplements (h : Value) (w : World) : (Go.method 424 154 (.agg #[h]) "Implements").run Tryz.prog w = .ok (275, .agg #[h]) w := by kernel_rfl
theorem aqMethodAssignable (h : Value) (w : World) : (Go.method 424 154 (.agg #[h]) "AssignableTo").run Tryz.prog w = .ok (272, .agg #[h]) w := by kernel_rfl
theorem aqElemP (w:World):(ReflectliteType.method ReflectliteType.elem #[.agg #[.pointer (some ⟨14,81,none⟩)]]).run Tryz.prog w=.ok (.iface 154 (.agg #[.pointer (some ⟨14,78,none⟩)])) w:=by kernel_rfl
theorem aqImplements (w : World) : (ReflectliteType.relation "Implements" ReflectliteType.implements_ #[.agg #[.pointer (some ⟨14, 78, none⟩)], .iface 154 (.agg #[.pointer (some ⟨14, 75, none⟩)])]).run Tryz.prog w = .ok (.bool true) w := by kernel_rfl
theorem aqTypeOfL (v:Value) (w:World):(ReflectliteType.typeOf #[.iface 78 v]).run Tryz.prog w=.ok (.iface 154 (.agg #[.pointer (some ⟨14,78,none⟩)])) w:=by kernel_rfl
theorem aqAssignable (w : World) : (ReflectliteType.relation "AssignableTo" ReflectliteType.assignableTo #[.agg #[.pointer (some ⟨14, 78, none⟩)], .iface 154 (.agg #[.pointer (some ⟨14, 78, none⟩)])]).run Tryz.prog w = .ok (.bool true) w := by kernel_rfl
theorem aqValueOfL (x y:Value) (w:World):(ReflectliteValue.unpack (.iface 78 (.agg #[x,y]))).run Tryz.prog w
  = .ok (rv 78 ⟨w.heap.size,0,none⟩ 153) (w.alloc (.cells #[x,y] 78)):=by kernel_rfl
theorem aqElemOf (w:World):(Rtype.elem? 81).run Tryz.prog w=.ok (some 78) w:=by kernel_rfl
theorem aqMk (p:Addr) (w:World):(ReflectliteValue.mk 78 p ReflectliteValue.flagAddr).run Tryz.prog w=.ok (rv 78 p 409) w:=by kernel_rfl
theorem aqElemV (a p:Addr) (W:World) (ha:W.cell? a=some (.pointer (some p))) :
  (ReflectliteValue.method (ReflectliteValue.valueError "reflectlite.Value.Elem" 0) ReflectliteValue.elem #[rv 81 a 150]).run Tryz.prog W = .ok (rv 78 p 409) W := by
 rw[asRlm]
 simp only[Sem.run_bind,aqPartsP,Result.andThen]
 simp[ReflectliteValue.elem,loadVar,isAgg,underlying,Tryz.underlying81,ha,Result.andThen,aqElemOf,aqMk]
theorem aqPartsD (a:Addr) (w:World):(ReflectliteValue.parts (rv 78 a 409)).run Tryz.prog w=.ok (some (78,a,409)) w:=by kernel_rfl
theorem aqPartsS (a:Addr) (w:World):(ReflectliteValue.parts (rv 78 a 153)).run Tryz.prog w=.ok (some (78,a,153)) w:=by kernel_rfl
theorem aqDirect (w:World):(Rtype.directlyAssignable 78 78).run Tryz.prog w=.ok true w:=by kernel_rfl
theorem aqSize:(Tryz.prog.info? 78).map (·.size)=some 2:=by kernel_rfl
theorem aqLoad (b:Nat) (x y:Value) (W:World) (hb:W.heap[b]?=some (.cells #[x,y] 78 (0,0))):(loadVar 78 ⟨b,0,none⟩).run Tryz.prog W=.ok (.agg #[x,y]) W:=
 run_loadVar_row W b 78 78 #[x,y] (0,0) _ hb Tryz.underlying78 rfl aqSize
theorem aqStore (k:Nat) (x y u v:Value) (h1:(#[x,y]:Array Value).all (·.oneCell')=true) (W:World) (hk:W.heap[k]?=some (.cells #[u,v] 78 (0,0))) :
  (storeVar 78 ⟨k,0,none⟩ (.agg #[x,y])).run Tryz.prog W=.ok () (W.setRow k #[x,y]):=
 run_storeVar_row W k 78 78 #[u,v] #[x,y] hk aqSize rfl h1
theorem aqSet (k b:Nat) (x y u v:Value) (h1:(#[x,y]:Array Value).all (·.oneCell')=true) (W:World) (hb:W.heap[b]?=some (.cells #[x,y] 78 (0,0))) (hk:W.heap[k]?=some (.cells #[u,v] 78 (0,0))) :
  (ReflectliteValue.set #[rv 78 ⟨k,0,none⟩ 409,rv 78 ⟨b,0,none⟩ 153]).run Tryz.prog W=.ok (.tuple #[]) (W.setRow k #[x,y]):=by
 rw[asRls]
 simp only[Sem.run_bind,aqPartsD,aqPartsS,Result.andThen]
 simp[ReflectliteValue.flagAddr,aqLoad b x y W hb,Result.andThen,aqDirect,aqStore k x y u v h1 W hk]
abbrev flO (n x:Int):Obj:=.cells #[.int .i64 n,.iface 79 (.int .i64 x)] 78
set_option maxRecDepth 100000 in
set_option maxHeartbeats 4000000 in
theorem aq_hit (n x:Int) (k:Nat) (w:World) (hk:w.heap[k]?=some (.cells #[.int .i64 0,.nilIface] 78 (0,0))) (hgk:8≤k)
  (hg:w.cell? ⟨2,0,none⟩=some (.iface 154 (.agg #[.pointer (some ⟨14,75,none⟩)]))) :
  Calls Tryz.prog 30 #[flawV x n,.iface 81 (.pointer (some ⟨k,0,none⟩))] w fun e w'=>e=.returned (.bool true)∧w'.cell? ⟨k,0,none⟩=some (.int .i64 n)∧Gr k w w':=by
 have h6:=@run_callFunc_extern Tryz.prog 50 _ (fun args=>ReflectliteValue.unpack (args.getD 0 (.tuple #[]))) Tryz.func50 (by kernel_rfl) (by kernel_rfl) (by kernel_rfl) (by kernel_rfl)
 have h7 := @run_callFunc_extern Tryz.prog 51 _ (ReflectliteValue.methodAny (ReflectliteValue.valueError "reflectlite.Value.Type" 0) (fun t _ _ _ => ReflectliteType.toType t)) Tryz.func51 (by kernel_rfl) (by kernel_rfl) (by kernel_rfl) (by kernel_rfl)
 have h8 := @run_callFunc_extern Tryz.prog 52 _ (ReflectliteValue.method (ReflectliteValue.valueError "reflectlite.Value.IsNil" 0) ReflectliteValue.isNil) Tryz.func52 (by kernel_rfl) (by kernel_rfl) (by kernel_rfl) (by kernel_rfl)
 have h27:=@run_callFunc_extern Tryz.prog 259 _ (ReflectliteType.abiMethod fun t=>do pure (.int .u8 (← Rtype.kind t))) Tryz.func259 (by kernel_rfl) (by kernel_rfl) (by kernel_rfl) (by kernel_rfl)
 have h37:=@run_callFunc_extern Tryz.prog 274 _ (ReflectliteType.method ReflectliteType.elem) Tryz.func274 (by kernel_rfl) (by kernel_rfl) (by kernel_rfl) (by kernel_rfl)
 have h38 := @run_callFunc_extern Tryz.prog 275 _ (ReflectliteType.relation "Implements" ReflectliteType.implements_) Tryz.func275 (by kernel_rfl) (by kernel_rfl) (by kernel_rfl) (by kernel_rfl)
 have h10:=@run_callFunc_extern Tryz.prog 54 _ ReflectliteType.typeOf Tryz.func54 (by kernel_rfl) (by kernel_rfl) (by kernel_rfl) (by kernel_rfl)
 have h35 := @run_callFunc_extern Tryz.prog 272 _ (ReflectliteType.relation "AssignableTo" ReflectliteType.assignableTo) Tryz.func272 (by kernel_rfl) (by kernel_rfl) (by kernel_rfl) (by kernel_rfl)
 have h11 := @run_callFunc_extern Tryz.prog 85 _ (ReflectliteValue.method (ReflectliteValue.valueError "reflectlite.Value.Elem" 0) ReflectliteValue.elem) Tryz.func85 (by kernel_rfl) (by kernel_rfl) (by kernel_rfl) (by kernel_rfl)
 have h12:=@run_callFunc_extern Tryz.prog 86 _ ReflectliteValue.set Tryz.func86 (by kernel_rfl) (by kernel_rfl) (by kernel_rfl) (by kernel_rfl)
 have tO:=aqTypeOfL
 have mA:=aqMethodAssignable
 have a25:=aqAssignable
 have v25:=aqValueOfL
 have f6:=aqValueOfP
 have f7:=aqTypeP
 have mK:=aqMethodKind
 have mE:=aqMethodElem
 have mI:=aqMethodImplements
 have k27:=aqKindP
 have k25:=aqKindL
 have e27:=aqElemP
 have i25:=aqImplements
 obtain⟨P,hP⟩:∃ P:Obj,.cells #[.pointer (some ⟨k,0,none⟩)] 81=P:=⟨_,rfl⟩
 have hklt:k < w.heap.size:=(Array.getElem?_eq_some_iff.1 hk).1
 let B:=fun (z:World)=>(.cells #[.pointer (some ⟨14,81,none⟩),.pointer (some ⟨z.heap.size,0,none⟩),.int .u64 150] 115:Obj)
 have n8:=aqIsNilP ⟨w.heap.size,0,none⟩ ⟨k,0,none⟩ ((w.alloc (.cells #[.pointer (some ⟨k,0,none⟩)] 81)).alloc (.cells #[.pointer (some ⟨14,81,none⟩),.pointer (some ⟨w.heap.size,0,none⟩),.int .u64 150] 115)) (by simp)
 have hg2:((w.alloc (.cells #[.pointer (some ⟨k,0,none⟩)] 81)).alloc (.cells #[.pointer (some ⟨14,81,none⟩),.pointer (some ⟨w.heap.size,0,none⟩),.int .u64 150] 115)).cell? ⟨2,0,none⟩=some (.iface 154 (.agg #[.pointer (some ⟨14,75,none⟩)])):=by
  rw[World.cell?_alloc_lt _ _ ⟨2,0,none⟩ (by simp;omega),World.cell?_alloc_lt _ _ ⟨2,0,none⟩ (by show 2 < _;omega)];exact hg
 have el:=aqElemV ⟨w.heap.size,0,none⟩ ⟨k,0,none⟩ (((w.alloc (.cells #[.pointer (some ⟨k,0,none⟩)] 81)).alloc (.cells #[.pointer (some ⟨14,81,none⟩),.pointer (some ⟨w.heap.size,0,none⟩),.int .u64 150] 115)).alloc (.cells #[.pointer (some ⟨14,81,none⟩),.pointer (some ⟨w.heap.size,0,none⟩),.int .u64 150] 115)) (by rw[World.cell?_alloc_lt _ _ ⟨w.heap.size,0,none⟩ (by simp;omega)];simp)
 have st:=aqSet k (w.heap.size+1+1+1) (.int .i64 n) (.iface 79 (.int .i64 x)) (.int .i64 0) .nilIface (by simp[Value.oneCell']) ((((w.alloc (.cells #[.pointer (some ⟨k,0,none⟩)] 81)).alloc (.cells #[.pointer (some ⟨14,81,none⟩),.pointer (some ⟨w.heap.size,0,none⟩),.int .u64 150] 115)).alloc (.cells #[.pointer (some ⟨14,81,none⟩),.pointer (some ⟨w.heap.size,0,none⟩),.int .u64 150] 115)).alloc (flO n x))
  (by rw[show w.heap.size+1+1+1=(((w.alloc (.cells #[.pointer (some ⟨k,0,none⟩)] 81)).alloc (.cells #[.pointer (some ⟨14,81,none⟩),.pointer (some ⟨w.heap.size,0,none⟩),.int .u64 150] 115)).alloc (.cells #[.pointer (some ⟨14,81,none⟩),.pointer (some ⟨w.heap.size,0,none⟩),.int .u64 150] 115)).heap.size by simp];exact World.alloc_heap_new _ _)
  ((Below.heap_alloc _ _ _ (by simp;omega)).trans ((Below.heap_alloc _ _ _ (by simp;omega)).trans ((Below.heap_alloc _ _ _ (by simp;omega)).trans ((Below.heap_alloc _ _ _ hklt).trans hk))))
 clear hg
 have Hk:=hid hk
 have Hl:=hid hklt
 clear hk hklt hP
 go_enter Tryz.func30,Tryz.ntmps30
 go_wp2
 refine wp_loop_rounds 1 ?_
 rw[rounds_succ]
 go_wp2
 go_ret
 have hrow:=setRow_heap ((((w.alloc (.cells #[.pointer (some ⟨k,0,none⟩)] 81)).alloc (.cells #[.pointer (some ⟨14,81,none⟩),.pointer (some ⟨w.heap.size,0,none⟩),.int .u64 150] 115)).alloc (.cells #[.pointer (some ⟨14,81,none⟩),.pointer (some ⟨w.heap.size,0,none⟩),.int .u64 150] 115)).alloc (flO n x)) k #[.int .i64 0,.nilIface] #[.int .i64 n,.iface 79 (.int .i64 x)] _ _
  ((Below.heap_alloc _ _ _ (by have:=Hl.out;simp;omega)).trans ((Below.heap_alloc _ _ _ (by have:=Hl.out;simp;omega)).trans ((Below.heap_alloc _ _ _ (by have:=Hl.out;simp;omega)).trans ((Below.heap_alloc _ _ _ Hl.out).trans Hk.out))))
 refine⟨rfl,(cell_row hrow 0).1,?_⟩
 have hl:=Hl.out
 clear hl
 exact gr4 _ _ _ _ _ _ _
theorem afValueOfP (t:Addr) (w:World):(ReflectliteValue.unpack (.iface 82 (.pointer (some t)))).run Tryz.prog w=.ok (rv 82 ⟨w.heap.size,0,none⟩ 150) (w.alloc (.cells #[.pointer (some t)] 82)):=by kernel_rfl
theorem afTypeP (a : Addr) (w : World) : (ReflectliteValue.methodAny (ReflectliteValue.valueError "reflectlite.Value.Type" 0) (fun t _ _ _ => ReflectliteType.toType t) #[rv 82 a 150]).run Tryz.prog w
  = .ok (.iface 154 (.agg #[.pointer (some ⟨14,82,none⟩)])) w:=by kernel_rfl
theorem afKindP (w:World):((ReflectliteType.abiMethod fun t=>Functor.map (fun a:Nat=>Value.int IntKind.u8 (a:Int)) (Rtype.kind t)) #[.pointer (some ⟨14,82,none⟩)]).run Tryz.prog w=.ok (.int .u8 22) w:=by kernel_rfl
theorem afKindL (w:World):((ReflectliteType.abiMethod fun t=>Functor.map (fun a:Nat=>Value.int IntKind.u8 (a:Int)) (Rtype.kind t)) #[.pointer (some ⟨14,79,none⟩)]).run Tryz.prog w=.ok (.int .u8 2) w:=by kernel_rfl
theorem afPartsP (a:Addr) (w:World):(ReflectliteValue.parts (rv 82 a 150)).run Tryz.prog w=.ok (some (82,a,150)) w:=by kernel_rfl
theorem afIsNilP (a p:Addr) (W:World) (ha:W.cell? a=some (.pointer (some p))) :
  (ReflectliteValue.method (ReflectliteValue.valueError "reflectlite.Value.IsNil" 0) ReflectliteValue.isNil #[rv 82 a 150]).run Tryz.prog W = .ok (.bool false) W := by
 rw[asRlm]
 simp only[Sem.run_bind,afPartsP,Result.andThen]
 simp[ReflectliteValue.isNil,loadVar,isAgg,underlying,Tryz.underlying82,ha,Result.andThen]
theorem afElemP (w:World):(ReflectliteType.method ReflectliteType.elem #[.agg #[.pointer (some ⟨14,82,none⟩)]]).run Tryz.prog w=.ok (.iface 154 (.agg #[.pointer (some ⟨14,79,none⟩)])) w:=by kernel_rfl
theorem afImplements (w : World) : (ReflectliteType.relation "Implements" ReflectliteType.implements_ #[.agg #[.pointer (some ⟨14, 79, none⟩)], .iface 154 (.agg #[.pointer (some ⟨14, 75, none⟩)])]).run Tryz.prog w = .ok (.bool true) w := by kernel_rfl
theorem afTypeOfF (v:Value) (w:World):(ReflectliteType.typeOf #[.iface 79 v]).run Tryz.prog w=.ok (.iface 154 (.agg #[.pointer (some ⟨14,79,none⟩)])) w:=by kernel_rfl
theorem afAssignNo (w : World) : (ReflectliteType.relation "AssignableTo" ReflectliteType.assignableTo #[.agg #[.pointer (some ⟨14, 78, none⟩)], .iface 154 (.agg #[.pointer (some ⟨14, 79, none⟩)])]).run Tryz.prog w = .ok (.bool false) w := by kernel_rfl
theorem afAssign (w : World) : (ReflectliteType.relation "AssignableTo" ReflectliteType.assignableTo #[.agg #[.pointer (some ⟨14, 79, none⟩)], .iface 154 (.agg #[.pointer (some ⟨14, 79, none⟩)])]).run Tryz.prog w = .ok (.bool true) w := by kernel_rfl
theorem afValueOfF (x:Int) (w:World):(ReflectliteValue.unpack (.iface 79 (.int .i64 x))).run Tryz.prog w
  = .ok (rv 79 ⟨w.heap.size,0,none⟩ 130) (w.alloc (.cells #[.int .i64 x] 79)):=by kernel_rfl
theorem afElemOf (w:World):(Rtype.elem? 82).run Tryz.prog w=.ok (some 79) w:=by kernel_rfl
theorem afMk (p:Addr) (w:World):(ReflectliteValue.mk 79 p ReflectliteValue.flagAddr).run Tryz.prog w=.ok (rv 79 p 386) w:=by kernel_rfl
theorem afElemV (a p:Addr) (W:World) (ha:W.cell? a=some (.pointer (some p))) :
  (ReflectliteValue.method (ReflectliteValue.valueError "reflectlite.Value.Elem" 0) ReflectliteValue.elem #[rv 82 a 150]).run Tryz.prog W = .ok (rv 79 p 386) W := by
 rw[asRlm]
 simp only[Sem.run_bind,afPartsP,Result.andThen]
 simp[ReflectliteValue.elem,loadVar,isAgg,underlying,Tryz.underlying82,ha,Result.andThen,afElemOf,afMk]
theorem afPartsD (a:Addr) (w:World):(ReflectliteValue.parts (rv 79 a 386)).run Tryz.prog w=.ok (some (79,a,386)) w:=by kernel_rfl
theorem afPartsS (a:Addr) (w:World):(ReflectliteValue.parts (rv 79 a 130)).run Tryz.prog w=.ok (some (79,a,130)) w:=by kernel_rfl
theorem afDirect (w:World):(Rtype.directlyAssignable 79 79).run Tryz.prog w=.ok true w:=by kernel_rfl
theorem afLoad (a:Addr) (x:Int) (W:World) (hb:W.cell? a=some (.int .i64 x)):(loadVar 79 a).run Tryz.prog W=.ok (.int .i64 x) W:=by
 simp[loadVar,isAgg,underlying,Tryz.underlying79,hb]
theorem afStore (a:Addr) (x:Int) (u:Value) (W:World) (ha:W.cell? a=some u) (hf:W.frozen? a=false):(storeVar 79 a (.int .i64 x)).run Tryz.prog W=.ok () (W.setCell a (.int .i64 x)):=by
 simp[storeVar,isAgg,underlying,Tryz.underlying79,ha,hf,go_sem]
theorem afSet (a b:Addr) (x:Int) (u:Value) (W:World) (hb:W.cell? b=some (.int .i64 x)) (ha:W.cell? a=some u) (hf:W.frozen? a=false) :
  (ReflectliteValue.set #[rv 79 a 386,rv 79 b 130]).run Tryz.prog W=.ok (.tuple #[]) (W.setCell a (.int .i64 x)):=by
 rw[asRls]
 simp only[Sem.run_bind,afPartsD,afPartsS,Result.andThen]
 simp[ReflectliteValue.flagAddr,afLoad b x W hb,Result.andThen,afDirect,afStore a x u W ha hf]
theorem noAsL (v:Value) (xT:TypeId) (w:World):(Instr.typeAssert (.iface 78 v) xT 158 true).run Tryz.prog w=.ok (.tuple #[.nilIface,.bool false]) w:=run_typeAssert_lacksB Tryz.underlying158 (by kernel_rfl) (by kernel_rfl) v xT w
theorem hasUnwrapD (v:Value) (xT:TypeId) (w:World):(Instr.typeAssert (.iface 78 v) xT 161 true).run Tryz.prog w=.ok (.tuple #[.iface 78 v,.bool true]) w:=run_typeAssert_hasB Tryz.underlying161 (by kernel_rfl) v xT w
theorem methodUnwrapD (x y : Value) (w : World) : (Go.method 424 78 (.agg #[x, y]) "Unwrap").run Tryz.prog w = .ok (264, .agg #[x, y]) w := by kernel_rfl
theorem unwrapD_c (n x:Int) (w:World) :
  Calls Tryz.prog 264 #[.agg #[.int .i64 n,.iface 79 (.int .i64 x)]] w fun e w'=>e=.returned (.iface 79 (.int .i64 x))∧w'=w.alloc (flO n x):=by
 go_enter Tryz.func264,Tryz.ntmps264
 go_wp2
 go_ret
 exact⟨rfl,rfl⟩
set_option maxRecDepth 100000 in
set_option maxHeartbeats 8000000 in
theorem af_hit (n x:Int) (k:Nat) (w:World) (hk:w.heap[k]?=some (.cells #[.int .i64 0] 79 (0,0))) (hgk:8≤k)
  (hg:w.cell? ⟨2,0,none⟩=some (.iface 154 (.agg #[.pointer (some ⟨14,75,none⟩)]))) :
  Calls Tryz.prog 30 #[flawV x n,.iface 82 (.pointer (some ⟨k,0,none⟩))] w fun e w'=>e=.returned (.bool true)∧w'.cell? ⟨k,0,none⟩=some (.int .i64 x)∧Gr k w w':=by
 have h6:=@run_callFunc_extern Tryz.prog 50 _ (fun args=>ReflectliteValue.unpack (args.getD 0 (.tuple #[]))) Tryz.func50 (by kernel_rfl) (by kernel_rfl) (by kernel_rfl) (by kernel_rfl)
 have h7 := @run_callFunc_extern Tryz.prog 51 _ (ReflectliteValue.methodAny (ReflectliteValue.valueError "reflectlite.Value.Type" 0) (fun t _ _ _ => ReflectliteType.toType t)) Tryz.func51 (by kernel_rfl) (by kernel_rfl) (by kernel_rfl) (by kernel_rfl)
 have h8 := @run_callFunc_extern Tryz.prog 52 _ (ReflectliteValue.method (ReflectliteValue.valueError "reflectlite.Value.IsNil" 0) ReflectliteValue.isNil) Tryz.func52 (by kernel_rfl) (by kernel_rfl) (by kernel_rfl) (by kernel_rfl)
 have h27:=@run_callFunc_extern Tryz.prog 259 _ (ReflectliteType.abiMethod fun t=>do pure (.int .u8 (← Rtype.kind t))) Tryz.func259 (by kernel_rfl) (by kernel_rfl) (by kernel_rfl) (by kernel_rfl)
 have h37:=@run_callFunc_extern Tryz.prog 274 _ (ReflectliteType.method ReflectliteType.elem) Tryz.func274 (by kernel_rfl) (by kernel_rfl) (by kernel_rfl) (by kernel_rfl)
 have h38 := @run_callFunc_extern Tryz.prog 275 _ (ReflectliteType.relation "Implements" ReflectliteType.implements_) Tryz.func275 (by kernel_rfl) (by kernel_rfl) (by kernel_rfl) (by kernel_rfl)
 have h10:=@run_callFunc_extern Tryz.prog 54 _ ReflectliteType.typeOf Tryz.func54 (by kernel_rfl) (by kernel_rfl) (by kernel_rfl) (by kernel_rfl)
 have h35 := @run_callFunc_extern Tryz.prog 272 _ (ReflectliteType.relation "AssignableTo" ReflectliteType.assignableTo) Tryz.func272 (by kernel_rfl) (by kernel_rfl) (by kernel_rfl) (by kernel_rfl)
 have h11 := @run_callFunc_extern Tryz.prog 85 _ (ReflectliteValue.method (ReflectliteValue.valueError "reflectlite.Value.Elem" 0) ReflectliteValue.elem) Tryz.func85 (by kernel_rfl) (by kernel_rfl) (by kernel_rfl) (by kernel_rfl)
 have h12:=@run_callFunc_extern Tryz.prog 86 _ ReflectliteValue.set Tryz.func86 (by kernel_rfl) (by kernel_rfl) (by kernel_rfl) (by kernel_rfl)
 have tL:=aqTypeOfL
 have tF:=afTypeOfF
 have mA:=asMethodAssignable
 have a0:=afAssignNo
 have a1:=afAssign
 have v25:=afValueOfF
 have f6:=afValueOfP
 have f7:=afTypeP
 have mK:=asMethodKind
 have mE:=asMethodElem
 have mI:=asMethodImplements
 have k27:=afKindP
 have k25:=afKindL
 have e27:=afElemP
 have i25:=afImplements
 have nA:=noAsL
 have uL:=hasUnwrapD
 have mU:=methodUnwrapD
 have hklt:k < w.heap.size:=(Array.getElem?_eq_some_iff.1 hk).1
 have n8:=afIsNilP ⟨w.heap.size,0,none⟩ ⟨k,0,none⟩ ((w.alloc (.cells #[.pointer (some ⟨k,0,none⟩)] 82)).alloc (.cells #[.pointer (some ⟨14,82,none⟩),.pointer (some ⟨w.heap.size,0,none⟩),.int .u64 150] 115)) (by simp)
 have hg2:((w.alloc (.cells #[.pointer (some ⟨k,0,none⟩)] 82)).alloc (.cells #[.pointer (some ⟨14,82,none⟩),.pointer (some ⟨w.heap.size,0,none⟩),.int .u64 150] 115)).cell? ⟨2,0,none⟩=some (.iface 154 (.agg #[.pointer (some ⟨14,75,none⟩)])):=by
  rw[World.cell?_alloc_lt _ _ ⟨2,0,none⟩ (by simp;omega),World.cell?_alloc_lt _ _ ⟨2,0,none⟩ (by show 2 < _;omega)];exact hg
 have hc0:w.cell? ⟨k,0,none⟩=some (.int .i64 0):=(cell_row hk 0).1
 have hf0:w.frozen? ⟨k,0,none⟩=false:=(cell_row hk 0).2
 have el:=afElemV ⟨w.heap.size,0,none⟩ ⟨k,0,none⟩ ((((w.alloc (.cells #[.pointer (some ⟨k,0,none⟩)] 82)).alloc (.cells #[.pointer (some ⟨14,82,none⟩),.pointer (some ⟨w.heap.size,0,none⟩),.int .u64 150] 115)).alloc (.cells #[.pointer (some ⟨14,82,none⟩),.pointer (some ⟨w.heap.size,0,none⟩),.int .u64 150] 115)).alloc (flO n x)) (by rw[World.cell?_alloc_lt _ _ ⟨w.heap.size,0,none⟩ (by simp;omega),World.cell?_alloc_lt _ _ ⟨w.heap.size,0,none⟩ (by simp;omega)];simp)
 have hkb:(((((w.alloc (.cells #[.pointer (some ⟨k,0,none⟩)] 82)).alloc (.cells #[.pointer (some ⟨14,82,none⟩),.pointer (some ⟨w.heap.size,0,none⟩),.int .u64 150] 115)).alloc (.cells #[.pointer (some ⟨14,82,none⟩),.pointer (some ⟨w.heap.size,0,none⟩),.int .u64 150] 115)).alloc (flO n x)).alloc (.cells #[.int .i64 x] 79)).heap[k]?=some (.cells #[.int .i64 0] 79 (0,0)):=
  (Below.heap_alloc _ _ _ (by simp;omega)).trans ((Below.heap_alloc _ _ _ (by simp;omega)).trans ((Below.heap_alloc _ _ _ (by simp;omega)).trans ((Below.heap_alloc _ _ _ (by simp;omega)).trans ((Below.heap_alloc _ _ _ hklt).trans hk))))
 have hnb:(((((w.alloc (.cells #[.pointer (some ⟨k,0,none⟩)] 82)).alloc (.cells #[.pointer (some ⟨14,82,none⟩),.pointer (some ⟨w.heap.size,0,none⟩),.int .u64 150] 115)).alloc (.cells #[.pointer (some ⟨14,82,none⟩),.pointer (some ⟨w.heap.size,0,none⟩),.int .u64 150] 115)).alloc (flO n x)).alloc (.cells #[.int .i64 x] 79)).heap[w.heap.size+1+1+1+1]?=some (.cells #[.int .i64 x] 79 (0,0)):=by
  rw[show w.heap.size+1+1+1+1=((((w.alloc (.cells #[.pointer (some ⟨k,0,none⟩)] 82)).alloc (.cells #[.pointer (some ⟨14,82,none⟩),.pointer (some ⟨w.heap.size,0,none⟩),.int .u64 150] 115)).alloc (.cells #[.pointer (some ⟨14,82,none⟩),.pointer (some ⟨w.heap.size,0,none⟩),.int .u64 150] 115)).alloc (flO n x)).heap.size by simp];exact World.alloc_heap_new _ _
 have st:=afSet ⟨k,0,none⟩ ⟨w.heap.size+1+1+1+1,0,none⟩ x (.int .i64 0) (((((w.alloc (.cells #[.pointer (some ⟨k,0,none⟩)] 82)).alloc (.cells #[.pointer (some ⟨14,82,none⟩),.pointer (some ⟨w.heap.size,0,none⟩),.int .u64 150] 115)).alloc (.cells #[.pointer (some ⟨14,82,none⟩),.pointer (some ⟨w.heap.size,0,none⟩),.int .u64 150] 115)).alloc (flO n x)).alloc (.cells #[.int .i64 x] 79)) (cell_row hnb 0).1 (cell_row hkb 0).1 (cell_row hkb 0).2
 clear hg hc0 hf0 hnb
 have Hkb:=hid hkb
 have Hl:=hid hklt
 clear hk hklt hkb
 go_enter Tryz.func30,Tryz.ntmps30
 go_wp2
 refine wp_loop_rounds 2 ?_
 rw[rounds_succ]
 go_wp2_with (go_at_call 264;refine (unwrapD_c _ _ _).mono ?_;rintro e w' ⟨rfl,rfl⟩)
 rw[rounds_succ]
 go_wp2
 go_ret
 refine⟨rfl,(cell_row (row_set Hkb.out 0 _) 0).1,?_⟩
 have hl:=Hl.out
 clear hl
 exact gr5 _ _ _ _ _ _ _ _
def Stop (p:UInt8→Bool) (r:List UInt8):Prop:=∀ c t,r=c::t→p c=false
theorem sameT_mk {t u:Tm} (h1:t.op=u.op) (h2:t.s.toList=u.s.toList) (h3:t.n=u.n) (h4:allS sameT t.l u.l=true):sameT t u=true:=by
 rw[sameT_eq,h1,h2,h3,h4]
 simp
theorem sameL_mk {l m:Lt} (h1:l.op=m.op) (h2:sameA l.a m.a=true) (h3:sameT l.x m.x=true) (h4:sameT l.y m.y=true):sameL l m=true:=by
 unfold sameL
 rw[h1,h2,h3,h4]
 simp
def Next (r:List UInt8):Prop:=∀ t,r≠46::105::t∧r≠46::111::t
theorem allS_refl {α:Type} {e:α→α→Bool}:∀ {l:List α},(∀ x ∈ l,e x x=true)→allS e l l=true
 | [],_=>rfl
 | x::l,h=>by
  unfold allS
  rw[h x (by simp),allS_refl (fun a ha=>h a (by simp[ha]))];rfl
theorem sameT_refl (t:Tm):sameT t t=true:=by
 induction t using Tm.rec (motive_2:=fun l=>∀ x ∈ l,sameT x x=true) with
 | mk op s n l ih=>exact sameT_mk rfl rfl rfl (allS_refl ih)
 | nil x hx=>simp at hx
 | cons t ts ih ihs x hx=>
  rcases List.mem_cons.1 hx with rfl | hx
  ·exact ih
  ·exact ihs x hx
theorem sameA_refl (a:Am):sameA a a=true:=by
 unfold sameA
 rw[sameTs_all,allS_refl (fun x _=>sameT_refl x)]
 simp
theorem sameL_refl (l:Lt):sameL l l=true:=sameL_mk rfl (sameA_refl _) (sameT_refl _) (sameT_refl _)
theorem sameR_refl (r:Ru):sameR r r=true:=by
 unfold sameR
 rw[sameA_refl,allS_refl (fun x _=>sameL_refl x)];rfl
theorem sameD_refl (d:De):sameD d d=true:=by
 unfold sameD strE intE
 rw[allS_refl (fun x _=>by simp),allS_refl (fun x _=>by simp)]
 simp
def RowAt (x:Addr) (w:World):Prop:=∃ (cs:Array Value) (t:TypeId),w.heap[x.block]?=some (.cells cs t (0,0))
theorem RowAt.below {x:Addr} {w w':World} (h:RowAt x w) (hb:Below w.heap.size w w'):RowAt x w':=by
 obtain⟨cs,t,h⟩:=h
 exact⟨cs,t,(hb.block _ (Array.getElem?_eq_some_iff.1 h).1).trans h⟩
theorem RowAt.belowB {x:Addr} {w w':World} {B:Nat} (h:RowAt x w) (hx:x.block < B) (hb:Below B w w'):RowAt x w':=by
 obtain⟨cs,t,h⟩:=h
 exact⟨cs,t,(hb.block _ hx).trans h⟩
theorem RowAt.lt {x:Addr} {w:World} (h:RowAt x w):x.block < w.heap.size:=by
 obtain⟨cs,t,h⟩:=h
 exact (Array.getElem?_eq_some_iff.1 h).1
set_option maxHeartbeats 1000000 in
theorem errnoOf_tok (n:Int) (a b c:Addr) (w:World) (E:DEnv a b c w) (hb:RowAt b w) (hc:RowAt c w) :
  Calls Tryz.prog 34 #[leV n b] w fun e w'=>e=.returned (.int .i64 20)∧Below w.heap.size w w':=by
 obtain⟨cb,tb,hb⟩:=hb
 obtain⟨cc,tc,hc⟩:=hc
 have hi:=hid (is_wrap_other n b c w E.ne hb hc)
 have hm:=E.many
 clear hb hc E
 go_enter Tryz.func34,Tryz.ntmps34
 go_wp2_with fail
 refine hi.out.mono ?_
 rintro e w1 ⟨rfl,b1⟩
 go_wp2
 go_ret
 exact⟨rfl,b1⟩
set_option maxHeartbeats 1000000 in
theorem errnoOf_many (n:Int) (a b c:Addr) (w:World) (E:DEnv a b c w) :
  Calls Tryz.prog 34 #[leV n c] w fun e w'=>e=.returned (.int .i64 21)∧Below w.heap.size w w':=by
 have hi:=hid (is_wrap_same n c w)
 have hm:=E.many
 clear E
 go_enter Tryz.func34,Tryz.ntmps34
 go_wp2_with fail
 refine hi.out.mono ?_
 rintro e w1 ⟨rfl,b1⟩
 go_wp2
 go_ret
 exact⟨rfl,b1⟩
theorem joinL_snoc (sep:List UInt8) (x:List UInt8):∀ l:List (List UInt8),joinL sep (l++[x])=(if l=[] then [] else joinL sep l++sep)++x
 | []=>rfl
 | [y]=>by simp[joinL]
 | y::z::r=>by
  have:=joinL_snoc sep x (z::r)
  simp only[List.cons_append] at this ⊢
  unfold joinL
  rw[this]
  simp
theorem joinL_take {sep:List UInt8} {α:Type} (f:α→List UInt8) {l:List α} {k:Nat} {x:α} (h:l[k]?=some x):joinL sep ((l.take (k+1)).map f)=(if k=0 then [] else joinL sep ((l.take k).map f)++sep)++f x:=by
 have hlt:=(List.getElem?_eq_some_iff.1 h).1
 have e:l.take (k+1)=l.take k++[x]:=by rw[List.take_add_one,h];rfl
 rw[e,List.map_append,List.map_cons,List.map_nil,joinL_snoc]
 congr 1
 have hlen:((l.take k).map f).length=k:=by simp;omega
 by_cases hk:k=0
 ·subst hk;simp
 ·rw[if_neg hk,if_neg (by intro e;rw[e] at hlen;simp at hlen;omega)]
theorem joinL_le (sep:List UInt8) (x:List UInt8):∀ l m:List (List UInt8),(joinL sep l).length≤(joinL sep (l++m)).length
 | [],m=>by simp[joinL]
 | [y],[]=>by simp
 | [y],z::r=>by simp[joinL]
 | y::z::r,m=>by
  have:=joinL_le sep x (z::r) m
  simp only[List.cons_append] at this ⊢
  unfold joinL
  simp only[List.length_append]
  omega
theorem joinL_upto {sep:List UInt8} {α:Type} (f:α→List UInt8) (l:List α) (k:Nat):(joinL sep ((l.take k).map f)).length≤(joinL sep (l.map f)).length:=by
 have:=joinL_le sep [] ((l.take k).map f) ((l.drop k).map f)
 rwa [← List.map_append,List.take_append_drop] at this
set_option maxRecDepth 100000 in
set_option maxHeartbeats 4000000 in
theorem writeTerms_c (L:List Tm) (B b:Nat) (l:List UInt8) (w:World) (v:Value) (a:Addr) (hr:L.all (rightT 20)=true) (hb:Bd B b l w) (hc:TmS w B L v) (E:TEnv a w) (hV:14≤B) (hB:B≤w.heap.size) (hl:l.length+(joinL [44,32] (L.map (showT 20))).length≤1073741824) :
  Calls Tryz.prog 113 #[.pointer (some ⟨b,0,none⟩),v,.func (.func 114) #[] #[]] w (Wrote B b l (joinL [44,32] (L.map (showT 20))) w):=by
 obtain⟨o1,cap1,rfl,hc1,hm1,S1⟩:=SlOf.open hc
 have HE:=hid E
 have Hb:=hid hb
 have Hr:=hid hr
 have Hl:=hid hl
 clear E hc hb hr hl
 go_enter Tryz.func113,Tryz.ntmps113
 go_wp2
 go_loopw [10] (fun i wr=>∃ k:Nat,k≤L.length∧i=.int .i64 k∧Bd B b (l++joinL [44,32] ((L.take k).map (showT 20))) wr∧Kp B b w wr) (fun i _=>L.length - (intOf i).toNat)
 case atStart=>exact⟨0,Nat.zero_le _,rfl,by simpa[joinL] using Hb.out,Kp.refl _ _ _⟩
 case round=>
  obtain⟨k,hk,rfl,hbk,hK⟩:=hrel
  have hsz:=hK.below.size
  by_cases hlt:k < L.length
  ·have hlt':(k:Int) < (L.length:Int):=by omega
   obtain⟨xe,ht⟩:∃ xe,L[k]?=some xe:=⟨L[k],List.getElem?_eq_getElem hlt⟩
   obtain⟨a1,p3,q3,rfl,ha,Hc,c0,c1,c2,c3⟩:=tm_atB S1 hK.below ht
   have hal:(a1.add (k * 4)).block < wr.heap.size:=by rw[addBlock];omega
   have hj:=joinL_take (sep:=[44,32]) (showT 20) ht
   have hup:=joinL_upto (sep:=[44,32]) (showT 20) L (k+1)
   have hrt:rightT 20 xe=true:=List.all_eq_true.1 Hr.out xe (List.mem_of_getElem? ht)
   have Hj:=hid hj
   obtain⟨oc,hoc⟩:∃ o:Obj,o=.cells #[.int .i64 xe.op,.string xe.s,.int .i64 xe.n,.slice p3 xe.l.length q3] 64:=⟨_,rfl⟩
   have b0:=hbk.alloc oc
   have k0:Kp B b wr (wr.alloc oc):=Kp.alloc (by omega) _
   have R0:Row wr.heap.size 64 [.int .i64 xe.op,.string xe.s,.int .i64 xe.n,.slice p3 xe.l.length q3] (wr.alloc oc):=by rw[hoc];exact Row.new wr _ _
   have hbl:=bdLt hbk
   have HW:Hid (∀ (W:World) (l:List UInt8),Bd B b l W→Kp B b (wr.alloc oc) W→l.length+(showT 20 xe).length≤1073741824→_):=hid fun W l hb k hl=>writeTerm_c 20 xe B b l W _ a hrt hb (Hc.out.under (k0.below.trans k.below)) (HE.out.belowB hV ((hK.below.trans k0.below).trans k.below)) hV (by have:=k.below.size;simp at this;omega) hl
   have HR:Hid (∀ W,Kp B b (wr.alloc oc) W→W.cell? ⟨wr.heap.size,0,none⟩=some (.int .i64 xe.op)∧W.cell? ⟨wr.heap.size,1,none⟩=some (.string xe.s)∧W.cell? ⟨wr.heap.size,2,none⟩=some (.int .i64 xe.n)∧W.cell? ⟨wr.heap.size,3,none⟩=some (.slice p3 xe.l.length q3)∧wr.heap.size < W.heap.size):=hid fun W K=>by
    have R:=R0.kp K (by omega) (by decide)
    have:=K.below.size
    simp only[World.size_alloc] at this
    exact⟨R.at 0 _ rfl,R.at 1 _ rfl,R.at 2 _ rfl,R.at 3 _ rfl,by omega⟩
   have HK0:=hid (hK.trans k0)
   have hL:=Hl.out
   have hlen:(joinL [44,32] ((L.take (k+1)).map (showT 20))).length≤(joinL [44,32] (L.map (showT 20))).length:=hup
   rw[hj] at hlen
   clear R0 k0 hK ht Hc hbk hj hup hrt
   subst hoc
   by_cases h0:k=0
   ·subst h0
    have e0:l++joinL [44,32] ((L.take 0).map (showT 20))=l:=by simp[joinL]
    rw[e0] at b0
    clear e0
    rw[if_pos rfl] at hlen
    simp only[List.nil_append] at hlen
    have hl2:l.length+(showT 20 xe).length≤1073741824:=by omega
    have ea:a1.add 0=a1:=by unfold Addr.add;simp
    simp only[Nat.zero_mul,ea] at c0 c1 c2 c3 hal
    clear hL hlen
    go_wp2_with fail
    refine (HW.out _ _ b0 (Kp.refl _ _ _) hl2).mono ?_
    rintro e w2 ⟨rfl,b2,k2⟩
    have Hb2:Hid (Bd B b (l++joinL [44,32] ((L.take (0+1)).map (showT 20))) w2):=hid (by rw[Hj.out];exact b2)
    have Hk2:=hid (HK0.out.trans k2)
    clear b2 k2 b0 c0 c1 c2 c3 hal ea
    go_wp2
    go_roundw
    case rel=>exact⟨0+1,hlt,by go_num,Hb2.out,Hk2.out⟩
    case measure=>simp[intOf];omega
   ·have h0':(0:Int) < (k:Int):=by omega
    rw[if_neg h0] at hlen
    simp only[List.length_append,List.length_cons,List.length_nil] at hlen
    have hl2:(l++joinL [44,32] ((L.take k).map (showT 20))++[44,32]).length+(showT 20 xe).length≤1073741824:=by simp only[List.length_append,List.length_cons,List.length_nil];omega
    have hl3:(l++joinL [44,32] ((L.take k).map (showT 20))).length+(⟨#[44,32]⟩:ByteArray).size≤140737488355328:=by simp only[List.length_append,show (⟨#[44,32]⟩:ByteArray).size=2 from rfl];omega
    have hf:=Hj.out
    rw[if_neg h0] at hf
    have Hf:=hid hf
    clear hL hlen Hj hf
    go_wp2_with fail
    refine (writeString_c B b _ ⟨#[44,32]⟩ _ b0 hl3 (by simp;omega)).mono ?_
    rintro e w1 ⟨rfl,b1,k1⟩
    obtain⟨x0,x1,x2,x3,hz0⟩:=HR.out _ k1
    have Hb1:=hid (show Bd B b (l++joinL [44,32] ((L.take k).map (showT 20))++[44,32]) w1 from b1)
    have Hk1:=hid k1
    clear b1 k1 c0 c1 c2 c3 b0 hal hl3
    go_wp2_with fail
    refine (HW.out _ _ Hb1.out Hk1.out hl2).mono ?_
    rintro e w2 ⟨rfl,b2,k2⟩
    have Hb2:Hid (Bd B b (l++joinL [44,32] ((L.take (k+1)).map (showT 20))) w2):=hid (by rw[Hf.out];simpa using b2)
    have Hk2:=hid (HK0.out.trans (Hk1.out.trans k2))
    clear b2 k2 x0 x1 x2 x3 hz0
    go_wp2
    go_roundw
    case rel=>exact⟨k+1,hlt,by go_num,Hb2.out,Hk2.out⟩
    case measure=>simp[intOf];omega
  ·have hlt':¬ (k:Int) < (L.length:Int):=by omega
   have hkl:L.take k=L:=List.take_of_length_le (by omega)
   rw[hkl] at hbk
   have Hbk:=hid hbk
   have HKk:=hid hK
   clear hbk hK
   go_wp2
   go_end0
   exact⟨rfl,Hbk.out,HKk.out⟩
theorem all_of_rightA {t:Am} (h:rightA t=true):t.l.all (rightT 20)=true:=by
 unfold rightA at h
 simp only[Bool.and_eq_true] at h
 exact h.2
set_option maxRecDepth 100000 in
set_option maxHeartbeats 4000000 in
theorem writeAtom_c (t:Am) (B b:Nat) (l:List UInt8) (w:World) (cs:List Value) (a:Addr) (hr:rightA t=true) (hb:Bd B b l w) (hc:AmC w B t cs) (E:TEnv a w) (hV:14≤B) (hB:B≤w.heap.size) (hl:l.length+(showA t).length≤1073741824) :
  Calls Tryz.prog 73 #[.pointer (some ⟨b,0,none⟩),.agg cs.toArray] w (Wrote B b l (showA t) w):=by
 obtain⟨p1,q1,rfl,hz,t1⟩:=hc.look
 have hbl:=bdLt hb
 obtain⟨oc,hoc⟩:∃ o:Obj,o=.cells #[.string t.rel,.slice p1 t.l.length q1] 38:=⟨_,rfl⟩
 have R0:Row w.heap.size 38 [.string t.rel,.slice p1 t.l.length q1] (w.alloc oc):=by rw[hoc];exact Row.new w _ _
 have b0:=hb.alloc oc
 have k0:Kp B b w (w.alloc oc):=Kp.alloc hB _
 have hX:showA t=t.rel.data.toList++[40]++joinL [44,32] (t.l.map (showT 20))++[41]:=rfl
 have hsz:t.rel.data.toList.length=t.rel.size:=by simp
 rw[hX] at hl ⊢
 simp only[List.length_append,List.length_cons,List.length_nil] at hl
 have ec:(t.rel++(⟨#[40]⟩:ByteArray)).data.toList=t.rel.data.toList++[40]:=by simp
 have es:(t.rel++(⟨#[40]⟩:ByteArray)).size=t.rel.size+1:=by rw[ByteArray.size_append];rfl
 have HR:Hid (∀ W,Kp B b (w.alloc oc) W→W.cell? ⟨w.heap.size,0,none⟩=some (.string t.rel)∧W.cell? ⟨w.heap.size,1,none⟩=some (.slice p1 t.l.length q1)∧w.heap.size < W.heap.size):=hid fun W K=>by
  have R:=R0.kp K (by omega) (by decide)
  have:=K.below.size
  simp only[World.size_alloc] at this
  exact⟨R.at 0 _ rfl,R.at 1 _ rfl,by omega⟩
 have HW:Hid (∀ (W:World) (l:List UInt8),Bd B b l W→Kp B b (w.alloc oc) W→l.length+(joinL [44,32] (t.l.map (showT 20))).length≤1073741824→_):=hid fun W l hb k hl=>writeTerms_c t.l B b l W _ a (all_of_rightA hr) hb (t1.below (k0.below.trans k.below)) (E.belowB hV (k0.below.trans k.below)) hV (by have:=k.below.size;simp at this;omega) hl
 have HK0:=hid k0
 have Hl2:Hid (l.length+(t.rel++(⟨#[40]⟩:ByteArray)).size≤140737488355328):=hid (by omega)
 have Hl3:Hid ((l++(t.rel++(⟨#[40]⟩:ByteArray)).data.toList).length+(joinL [44,32] (t.l.map (showT 20))).length≤1073741824):=hid (by rw[ec];simp only[List.length_append,List.length_cons,List.length_nil];omega)
 have Hl4:Hid ((l++(t.rel++(⟨#[40]⟩:ByteArray)).data.toList++joinL [44,32] (t.l.map (showT 20))).length+1≤140737488355328):=hid (by rw[ec];simp only[List.length_append,List.length_cons,List.length_nil];omega)
 have Hec:=hid ec
 have hs1:t.rel.size+1≤9223372036854775807:=by omega
 have hs2:(t.rel.size:Int)+1≤9223372036854775807:=by omega
 clear R0 k0 hc t1 hX hr hb E ec es hl
 subst hoc
 go_enter Tryz.func73,Tryz.ntmps73
 go_wp2_with fail
 refine (writeString_c B b _ _ _ b0 Hl2.out (by simp;omega)).mono ?_
 rintro e w1 ⟨rfl,b1,k1⟩
 obtain⟨x0,x1,hz0⟩:=HR.out _ k1
 have Hb1:=hid b1
 have Hk1:=hid k1
 clear b0 b1 k1
 go_wp2_with fail
 refine (HW.out _ _ Hb1.out Hk1.out Hl3.out).mono ?_
 rintro e w2 ⟨rfl,b2,k2⟩
 have Hk2:=hid (Hk1.out.trans k2)
 obtain⟨_,_,hz0⟩:=HR.out _ Hk2.out
 have Hb2:=hid b2
 clear b2 k2 x0 x1
 go_wp2_with fail
 refine (writeByte_c B b _ 41 41 rfl _ Hb2.out Hl4.out (by omega)).mono ?_
 rintro e w3 ⟨rfl,b3,k3⟩
 have Hk3:=hid (HK0.out.trans (Hk2.out.trans k3))
 have Hb3:=hid b3
 clear b3 k3
 go_wp2
 go_end0
 exact⟨rfl,by have:=Hb3.out;rw[Hec.out] at this;simpa using this,Hk3.out⟩
end Go.Proofs.YtdgbajnhhhjbcaaGreatDoor
