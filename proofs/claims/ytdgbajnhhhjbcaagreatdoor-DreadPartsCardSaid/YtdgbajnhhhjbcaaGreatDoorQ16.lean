/- Das@012, Tsame3@012 -/
import Derived.Laws.Rows
import Derived.Laws.Tables
import Derived.Test.YtdgbajnhhhjbcaaGreatDoorQ15
set_option linter.unusedSimpArgs false
namespace Go.Proofs.YtdgbajnhhhjbcaaGreatDoor
open Lib(hid)
open Go.RowKit Go.Extern.Stop Go.Stop Go.Extern
abbrev rv (t:Nat) (a:Addr) (fl:Int):Value:=.agg #[.pointer (some ⟨14,t,none⟩),.pointer (some a),.int .u64 fl]
theorem asValueOfP (t:Addr) (w:World):(ReflectliteValue.unpack (.iface 92 (.pointer (some t)))).run Tryz.prog w=.ok (rv 92 ⟨w.heap.size,0,none⟩ 150) (w.alloc (.cells #[.pointer (some t)] 92)):=by kernel_rfl
theorem asTypeP (a : Addr) (w : World) : (ReflectliteValue.methodAny (ReflectliteValue.valueError "reflectlite.Value.Type" 0) (fun t _ _ _ => ReflectliteType.toType t) #[rv 92 a 150]).run Tryz.prog w
  = .ok (.iface 154 (.agg #[.pointer (some ⟨14,92,none⟩)])) w:=by kernel_rfl
theorem asMethodKind (h : Value) (w : World) : (Go.method 424 154 (.agg #[h]) "Kind").run Tryz.prog w = .ok (259, h) w := by kernel_rfl
theorem asKindP (w:World):((ReflectliteType.abiMethod fun t=>Functor.map (fun a:Nat=>Value.int IntKind.u8 (a:Int)) (Rtype.kind t)) #[.pointer (some ⟨14,92,none⟩)]).run Tryz.prog w=.ok (.int .u8 22) w:=by kernel_rfl
theorem asKindL (w:World):((ReflectliteType.abiMethod fun t=>Functor.map (fun a:Nat=>Value.int IntKind.u8 (a:Int)) (Rtype.kind t)) #[.pointer (some ⟨14,91,none⟩)]).run Tryz.prog w=.ok (.int .u8 25) w:=by kernel_rfl
theorem asRlm (z:Sem Value) (f:TypeId→Addr→Nat→Nat→Sem Value) (v:Value) :
  ReflectliteValue.method z f #[v]=(do match ← ReflectliteValue.parts v with | none=>z | some (t,a,fl)=>f t a fl (fl % 32)):=rfl
theorem asPartsP (a:Addr) (w:World):(ReflectliteValue.parts (rv 92 a 150)).run Tryz.prog w=.ok (some (92,a,150)) w:=by kernel_rfl
theorem asIsNilP (a p:Addr) (W:World) (ha:W.cell? a=some (.pointer (some p))) :
  (ReflectliteValue.method (ReflectliteValue.valueError "reflectlite.Value.IsNil" 0) ReflectliteValue.isNil #[rv 92 a 150]).run Tryz.prog W = .ok (.bool false) W := by
 rw[asRlm]
 simp only[Sem.run_bind,asPartsP,Result.andThen]
 simp[ReflectliteValue.isNil,loadVar,isAgg,underlying,Tryz.underlying92,ha,Result.andThen]
theorem asMethodElem (h : Value) (w : World) : (Go.method 424 154 (.agg #[h]) "Elem").run Tryz.prog w = .ok (274, .agg #[h]) w := by kernel_rfl
theorem asMethodImplements (h : Value) (w : World) : (Go.method 424 154 (.agg #[h]) "Implements").run Tryz.prog w = .ok (275, .agg #[h]) w := by kernel_rfl
theorem asMethodAssignable (h : Value) (w : World) : (Go.method 424 154 (.agg #[h]) "AssignableTo").run Tryz.prog w = .ok (272, .agg #[h]) w := by kernel_rfl
theorem asElemP (w:World):(ReflectliteType.method ReflectliteType.elem #[.agg #[.pointer (some ⟨14,92,none⟩)]]).run Tryz.prog w=.ok (.iface 154 (.agg #[.pointer (some ⟨14,91,none⟩)])) w:=by kernel_rfl
theorem asImplements (w : World) : (ReflectliteType.relation "Implements" ReflectliteType.implements_ #[.agg #[.pointer (some ⟨14, 91, none⟩)], .iface 154 (.agg #[.pointer (some ⟨14, 75, none⟩)])]).run Tryz.prog w = .ok (.bool true) w := by kernel_rfl
theorem asTypeOfL (v:Value) (w:World):(ReflectliteType.typeOf #[.iface 91 v]).run Tryz.prog w=.ok (.iface 154 (.agg #[.pointer (some ⟨14,91,none⟩)])) w:=by kernel_rfl
theorem asAssignable (w : World) : (ReflectliteType.relation "AssignableTo" ReflectliteType.assignableTo #[.agg #[.pointer (some ⟨14, 91, none⟩)], .iface 154 (.agg #[.pointer (some ⟨14, 91, none⟩)])]).run Tryz.prog w = .ok (.bool true) w := by kernel_rfl
theorem asValueOfL (x y:Value) (w:World):(ReflectliteValue.unpack (.iface 91 (.agg #[x,y]))).run Tryz.prog w
  = .ok (rv 91 ⟨w.heap.size,0,none⟩ 153) (w.alloc (.cells #[x,y] 91)):=by kernel_rfl
theorem asElemOf (w:World):(Rtype.elem? 92).run Tryz.prog w=.ok (some 91) w:=by kernel_rfl
theorem asMk (p:Addr) (w:World):(ReflectliteValue.mk 91 p ReflectliteValue.flagAddr).run Tryz.prog w=.ok (rv 91 p 409) w:=by kernel_rfl
theorem asElemV (a p:Addr) (W:World) (ha:W.cell? a=some (.pointer (some p))) :
  (ReflectliteValue.method (ReflectliteValue.valueError "reflectlite.Value.Elem" 0) ReflectliteValue.elem #[rv 92 a 150]).run Tryz.prog W = .ok (rv 91 p 409) W := by
 rw[asRlm]
 simp only[Sem.run_bind,asPartsP,Result.andThen]
 simp[ReflectliteValue.elem,loadVar,isAgg,underlying,Tryz.underlying92,ha,Result.andThen,asElemOf,asMk]
theorem asRls (v x:Value):ReflectliteValue.set #[v,x]=(do
  let (some (dst,a,fl),some (src,b,_)):=(← ReflectliteValue.parts v,← ReflectliteValue.parts x)
   | unsupported (.noEntry "extern/(internal/reflectlite.Value).Set.zeroValue")
  if fl / ReflectliteValue.flagAddr % 2 == 0 then unsupported (.noEntry "extern/(internal/reflectlite.Value).Set.unaddressable")
  let val ← loadVar src b
  if ← Rtype.directlyAssignable dst src then storeVar dst a val
  else if ← Rtype.implements dst src then
   if (← Rtype.kind src) == 20 then
    match val with
    | .nilIface => unsupported (.noEntry "extern/reflectlite: a nil value of one interface type handed on as a value of another")
    | _=>storeVar dst a val
   else storeVar dst a (.iface src val)
  else panicString ("reflectlite.Set: value of type " ++ (← Rtype.spelt src) ++ " is not assignable to type " ++ (← Rtype.spelt dst))
  pure (.tuple #[])):=rfl
theorem asPartsD (a:Addr) (w:World):(ReflectliteValue.parts (rv 91 a 409)).run Tryz.prog w=.ok (some (91,a,409)) w:=by kernel_rfl
theorem asPartsS (a:Addr) (w:World):(ReflectliteValue.parts (rv 91 a 153)).run Tryz.prog w=.ok (some (91,a,153)) w:=by kernel_rfl
theorem asDirect (w:World):(Rtype.directlyAssignable 91 91).run Tryz.prog w=.ok true w:=by kernel_rfl
theorem asSize:(Tryz.prog.info? 91).map (·.size)=some 2:=by kernel_rfl
theorem asLoad (b:Nat) (x y:Value) (W:World) (hb:W.heap[b]?=some (.cells #[x,y] 91 (0,0))):(loadVar 91 ⟨b,0,none⟩).run Tryz.prog W=.ok (.agg #[x,y]) W:=
 run_loadVar_row W b 91 91 #[x,y] (0,0) _ hb Tryz.underlying91 rfl asSize
theorem asStore (k:Nat) (x y u v:Value) (h1:(#[x,y]:Array Value).all (·.oneCell')=true) (W:World) (hk:W.heap[k]?=some (.cells #[u,v] 91 (0,0))) :
  (storeVar 91 ⟨k,0,none⟩ (.agg #[x,y])).run Tryz.prog W=.ok () (W.setRow k #[x,y]):=
 run_storeVar_row W k 91 91 #[u,v] #[x,y] hk asSize rfl h1
theorem asSet (k b:Nat) (x y u v:Value) (h1:(#[x,y]:Array Value).all (·.oneCell')=true) (W:World) (hb:W.heap[b]?=some (.cells #[x,y] 91 (0,0))) (hk:W.heap[k]?=some (.cells #[u,v] 91 (0,0))) :
  (ReflectliteValue.set #[rv 91 ⟨k,0,none⟩ 409,rv 91 ⟨b,0,none⟩ 153]).run Tryz.prog W=.ok (.tuple #[]) (W.setRow k #[x,y]):=by
 rw[asRls]
 simp only[Sem.run_bind,asPartsD,asPartsS,Result.andThen]
 simp[ReflectliteValue.flagAddr,asLoad b x y W hb,Result.andThen,asDirect,asStore k x y u v h1 W hk]
theorem setRow_below (W:World) (k:Nat) (cs':Array Value):Below k W (W.setRow k cs'):=
 ⟨rfl,rfl,rfl,by simp,fun i hi=>setRow_other W k i cs' (by omega)⟩
set_option maxRecDepth 100000 in
set_option maxHeartbeats 4000000 in
theorem as_hit (n:Int) (x:Addr) (k:Nat) (w:World) (hk:w.heap[k]?=some (.cells #[.int .i64 0,.nilIface] 91 (0,0))) (hgk:8≤k)
  (hg:w.cell? ⟨2,0,none⟩=some (.iface 154 (.agg #[.pointer (some ⟨14,75,none⟩)]))) :
  Calls Tryz.prog 30 #[leV n x,.iface 92 (.pointer (some ⟨k,0,none⟩))] w fun e w'=>e=.returned (.bool true)∧w'.cell? ⟨k,0,none⟩=some (.int .i64 n)∧Below k w w':=by
 have h6:=@run_callFunc_extern Tryz.prog 50 _ (fun args=>ReflectliteValue.unpack (args.getD 0 (.tuple #[]))) Tryz.func50 (by kernel_rfl) (by kernel_rfl) (by kernel_rfl) (by kernel_rfl)
 have h7 := @run_callFunc_extern Tryz.prog 51 _ (ReflectliteValue.methodAny (ReflectliteValue.valueError "reflectlite.Value.Type" 0) (fun t _ _ _ => ReflectliteType.toType t)) Tryz.func51 (by kernel_rfl) (by kernel_rfl) (by kernel_rfl) (by kernel_rfl)
 have h8 := @run_callFunc_extern Tryz.prog 52 _ (ReflectliteValue.method (ReflectliteValue.valueError "reflectlite.Value.IsNil" 0) ReflectliteValue.isNil) Tryz.func52 (by kernel_rfl) (by kernel_rfl) (by kernel_rfl) (by kernel_rfl)
 have h27:=@run_callFunc_extern Tryz.prog 259 _ (ReflectliteType.abiMethod fun t=>do pure (.int .u8 (← Rtype.kind t))) Tryz.func259 (by kernel_rfl) (by kernel_rfl) (by kernel_rfl) (by kernel_rfl)
 have h37:=@run_callFunc_extern Tryz.prog 274 _ (ReflectliteType.method ReflectliteType.elem) Tryz.func274 (by kernel_rfl) (by kernel_rfl) (by kernel_rfl) (by kernel_rfl)
 have h38 := @run_callFunc_extern Tryz.prog 275 _ (ReflectliteType.relation "Implements" ReflectliteType.implements_) Tryz.func275 (by kernel_rfl) (by kernel_rfl) (by kernel_rfl) (by kernel_rfl)
 have h10:=@run_callFunc_extern Tryz.prog 54 _ ReflectliteType.typeOf Tryz.func54 (by kernel_rfl) (by kernel_rfl) (by kernel_rfl) (by kernel_rfl)
 have h35 := @run_callFunc_extern Tryz.prog 272 _ (ReflectliteType.relation "AssignableTo" ReflectliteType.assignableTo) Tryz.func272 (by kernel_rfl) (by kernel_rfl) (by kernel_rfl) (by kernel_rfl)
 have h11 := @run_callFunc_extern Tryz.prog 85 _ (ReflectliteValue.method (ReflectliteValue.valueError "reflectlite.Value.Elem" 0) ReflectliteValue.elem) Tryz.func85 (by kernel_rfl) (by kernel_rfl) (by kernel_rfl) (by kernel_rfl)
 have h12:=@run_callFunc_extern Tryz.prog 86 _ ReflectliteValue.set Tryz.func86 (by kernel_rfl) (by kernel_rfl) (by kernel_rfl) (by kernel_rfl)
 have tO:=asTypeOfL
 have mA:=asMethodAssignable
 have a25:=asAssignable
 have v25:=asValueOfL
 have f6:=asValueOfP
 have f7:=asTypeP
 have mK:=asMethodKind
 have mE:=asMethodElem
 have mI:=asMethodImplements
 have k27:=asKindP
 have k25:=asKindL
 have e27:=asElemP
 have i25:=asImplements
 obtain⟨P,hP⟩:∃ P:Obj,.cells #[.pointer (some ⟨k,0,none⟩)] 92=P:=⟨_,rfl⟩
 have hklt:k < w.heap.size:=(Array.getElem?_eq_some_iff.1 hk).1
 let B:=fun (z:World)=>(.cells #[.pointer (some ⟨14,92,none⟩),.pointer (some ⟨z.heap.size,0,none⟩),.int .u64 150] 115:Obj)
 have n8:=asIsNilP ⟨w.heap.size,0,none⟩ ⟨k,0,none⟩ ((w.alloc (.cells #[.pointer (some ⟨k,0,none⟩)] 92)).alloc (.cells #[.pointer (some ⟨14,92,none⟩),.pointer (some ⟨w.heap.size,0,none⟩),.int .u64 150] 115)) (by simp)
 have hg2:((w.alloc (.cells #[.pointer (some ⟨k,0,none⟩)] 92)).alloc (.cells #[.pointer (some ⟨14,92,none⟩),.pointer (some ⟨w.heap.size,0,none⟩),.int .u64 150] 115)).cell? ⟨2,0,none⟩=some (.iface 154 (.agg #[.pointer (some ⟨14,75,none⟩)])):=by
  rw[World.cell?_alloc_lt _ _ ⟨2,0,none⟩ (by simp;omega),World.cell?_alloc_lt _ _ ⟨2,0,none⟩ (by show 2 < _;omega)];exact hg
 have el:=asElemV ⟨w.heap.size,0,none⟩ ⟨k,0,none⟩ (((w.alloc (.cells #[.pointer (some ⟨k,0,none⟩)] 92)).alloc (.cells #[.pointer (some ⟨14,92,none⟩),.pointer (some ⟨w.heap.size,0,none⟩),.int .u64 150] 115)).alloc (.cells #[.pointer (some ⟨14,92,none⟩),.pointer (some ⟨w.heap.size,0,none⟩),.int .u64 150] 115)) (by rw[World.cell?_alloc_lt _ _ ⟨w.heap.size,0,none⟩ (by simp;omega)];simp)
 have st:=asSet k (w.heap.size+1+1+1) (.int .i64 n) (.iface 295 (.pointer (some x))) (.int .i64 0) .nilIface (by simp[Value.oneCell']) ((((w.alloc (.cells #[.pointer (some ⟨k,0,none⟩)] 92)).alloc (.cells #[.pointer (some ⟨14,92,none⟩),.pointer (some ⟨w.heap.size,0,none⟩),.int .u64 150] 115)).alloc (.cells #[.pointer (some ⟨14,92,none⟩),.pointer (some ⟨w.heap.size,0,none⟩),.int .u64 150] 115)).alloc (leO n x))
  (by rw[show w.heap.size+1+1+1=(((w.alloc (.cells #[.pointer (some ⟨k,0,none⟩)] 92)).alloc (.cells #[.pointer (some ⟨14,92,none⟩),.pointer (some ⟨w.heap.size,0,none⟩),.int .u64 150] 115)).alloc (.cells #[.pointer (some ⟨14,92,none⟩),.pointer (some ⟨w.heap.size,0,none⟩),.int .u64 150] 115)).heap.size by simp];exact World.alloc_heap_new _ _)
  ((Below.heap_alloc _ _ _ (by simp;omega)).trans ((Below.heap_alloc _ _ _ (by simp;omega)).trans ((Below.heap_alloc _ _ _ (by simp;omega)).trans ((Below.heap_alloc _ _ _ hklt).trans hk))))
 clear hg
 have Hk:=hid hk
 have Hl:=hid hklt
 clear hk hklt hP
 go_enter Tryz.func30,Tryz.ntmps30
 go_wp2
 refine wp_loop_rounds 1 ?_
 rw[rounds_succ]
 go_wp2
 go_ret
 have hrow:=setRow_heap ((((w.alloc (.cells #[.pointer (some ⟨k,0,none⟩)] 92)).alloc (.cells #[.pointer (some ⟨14,92,none⟩),.pointer (some ⟨w.heap.size,0,none⟩),.int .u64 150] 115)).alloc (.cells #[.pointer (some ⟨14,92,none⟩),.pointer (some ⟨w.heap.size,0,none⟩),.int .u64 150] 115)).alloc (leO n x)) k #[.int .i64 0,.nilIface] #[.int .i64 n,.iface 295 (.pointer (some x))] _ _
  ((Below.heap_alloc _ _ _ (by have:=Hl.out;simp;omega)).trans ((Below.heap_alloc _ _ _ (by have:=Hl.out;simp;omega)).trans ((Below.heap_alloc _ _ _ (by have:=Hl.out;simp;omega)).trans ((Below.heap_alloc _ _ _ Hl.out).trans Hk.out))))
 refine⟨rfl,(cell_row hrow 0).1,?_⟩
 have hl:=Hl.out
 exact (((((Below.refl _ _).alloc (by omega) _).alloc (by simp;omega) _).alloc (by simp;omega) _).alloc (by simp;omega) _).trans (setRow_below _ _ _)
set_option maxRecDepth 100000 in
set_option maxHeartbeats 4000000 in
theorem equalStrs_c (l m:List ByteArray) (v1 v2:Value) (w:World) (h1:SlOf w w.heap.size 1 StrC l v1) (h2:SlOf w w.heap.size 1 StrC m v2) :
  Calls Tryz.prog 43 #[v1,v2] w fun e w'=>e=.returned (.bool (allS strE l m))∧Below w.heap.size w w':=by
 obtain⟨o1,cap1,rfl,hc1,hm1,S1⟩:=SlOf.open h1
 obtain⟨o2,cap2,rfl,hc2,hm2,S2⟩:=SlOf.open h2
 clear h1 h2
 by_cases hlen:l.length=m.length
 ·have q:((l.length:Int) != (m.length:Int))=false:=by rw[hlen];simp
  have Hlen:=hid hlen
  clear hlen
  go_enter Tryz.func43,Tryz.ntmps43
  go_wp2
  go_loopw [13] (fun i wr=>∃ k:Nat,k≤l.length∧i=.int .i64 k∧allS strE l m=allS strE (l.drop k) (m.drop k)∧Below w.heap.size w wr) (fun i _=>l.length - (intOf i).toNat)
  case atStart=>exact⟨0,Nat.zero_le _,rfl,rfl,Below.refl _ _⟩
  case round=>
   obtain⟨k,hk,rfl,hr,hB⟩:=hrel
   have Hr:=hid hr
   clear hr
   have hBs:=hB.size
   by_cases hlt:k < l.length
   ·have hlt':(k:Int) < (l.length:Int):=by omega
    have hlt2:k < m.length:=by have:=Hlen.out;omega
    have hlt3:(k:Int) < (m.length:Int):=by omega
    obtain⟨t,ht⟩:∃ t,l[k]?=some t:=⟨l[k],List.getElem?_eq_getElem hlt⟩
    obtain⟨u,hu⟩:∃ u,m[k]?=some u:=⟨m[k],List.getElem?_eq_getElem hlt2⟩
    obtain⟨a,rfl,ha,_,c0⟩:=str_at S1 hB ht
    obtain⟨b,rfl,hb,_,d0⟩:=str_at S2 hB hu
    have Hs:=hid (allS_drop (f:=strE) ht hu)
    clear ht hu
    obtain⟨x,hx⟩:∃ x,(!t.toList == u.toList)=x:=⟨_,rfl⟩
    have hs:strE t u=!x:=by rw[← hx];exact (Bool.not_not _).symm
    cases x
    ·have Hz:=hid (Hr.out.trans (Hs.out.trans (by rw[hs,Bool.not_false,Bool.true_and])))
     clear hs
     go_wp2
     go_quiet (fail)
     go_wp2
     go_roundw
     case rel=>exact⟨k+1,hlt,by go_num,Hz.out,below_drewN hB _⟩
     case measure=>simp[intOf];omega
    ·have Hz:=hid (Hr.out.trans (Hs.out.trans (by rw[hs,Bool.not_true,Bool.false_and])))
     clear hs
     go_wp2
     go_quiet (fail)
     go_wp2
     go_ret
     exact⟨by rw[Hz.out];rfl,below_drewN hB _⟩
   ·have hlt':¬ (k:Int) < (l.length:Int):=by omega
    have Hz:=hid (allS_end (f:=strE) (l:=l) (m:=m) (k:=k) (by omega) (by have:=Hlen.out;omega))
    go_wp2
    go_ret
    exact⟨by rw[Hr.out,Hz.out];rfl,hB⟩
 ·have q:((l.length:Int) != (m.length:Int))=true:=by rw[bne_iff_ne];omega
  have Hz:=hid (allS_len (f:=strE) hlen)
  clear hlen
  go_enter Tryz.func43,Tryz.ntmps43
  go_wp2
  go_ret
  exact⟨by rw[Hz.out];rfl,Below.refl _ _⟩
set_option maxRecDepth 100000 in
set_option maxHeartbeats 4000000 in
theorem equalInts_c (l m:List Int) (v1 v2:Value) (w:World) (h1:SlOf w w.heap.size 1 IntC l v1) (h2:SlOf w w.heap.size 1 IntC m v2) :
  Calls Tryz.prog 44 #[v1,v2] w fun e w'=>e=.returned (.bool (allS intE l m))∧Below w.heap.size w w':=by
 obtain⟨o1,cap1,rfl,hc1,hm1,S1⟩:=SlOf.open h1
 obtain⟨o2,cap2,rfl,hc2,hm2,S2⟩:=SlOf.open h2
 clear h1 h2
 by_cases hlen:l.length=m.length
 ·have q:((l.length:Int) != (m.length:Int))=false:=by rw[hlen];simp
  have Hlen:=hid hlen
  clear hlen
  go_enter Tryz.func44,Tryz.ntmps44
  go_wp2
  go_loopw [13] (fun i wr=>∃ k:Nat,k≤l.length∧i=.int .i64 k∧allS intE l m=allS intE (l.drop k) (m.drop k)∧Below w.heap.size w wr) (fun i _=>l.length - (intOf i).toNat)
  case atStart=>exact⟨0,Nat.zero_le _,rfl,rfl,Below.refl _ _⟩
  case round=>
   obtain⟨k,hk,rfl,hr,hB⟩:=hrel
   have Hr:=hid hr
   clear hr
   have hBs:=hB.size
   by_cases hlt:k < l.length
   ·have hlt':(k:Int) < (l.length:Int):=by omega
    have hlt2:k < m.length:=by have:=Hlen.out;omega
    have hlt3:(k:Int) < (m.length:Int):=by omega
    obtain⟨t,ht⟩:∃ t,l[k]?=some t:=⟨l[k],List.getElem?_eq_getElem hlt⟩
    obtain⟨u,hu⟩:∃ u,m[k]?=some u:=⟨m[k],List.getElem?_eq_getElem hlt2⟩
    obtain⟨a,rfl,ha,_,c0⟩:=int_at S1 hB ht
    obtain⟨b,rfl,hb,_,d0⟩:=int_at S2 hB hu
    have Hs:=hid (allS_drop (f:=intE) ht hu)
    clear ht hu
    obtain⟨x,hx⟩:∃ x,(t != u)=x:=⟨_,rfl⟩
    have hs:intE t u=!x:=by rw[← hx];exact (Bool.not_not _).symm
    cases x
    ·have Hz:=hid (Hr.out.trans (Hs.out.trans (by rw[hs,Bool.not_false,Bool.true_and])))
     clear hs
     go_wp2
     go_quiet (fail)
     go_wp2
     go_roundw
     case rel=>exact⟨k+1,hlt,by go_num,Hz.out,below_drewN hB _⟩
     case measure=>simp[intOf];omega
    ·have Hz:=hid (Hr.out.trans (Hs.out.trans (by rw[hs,Bool.not_true,Bool.false_and])))
     clear hs
     go_wp2
     go_quiet (fail)
     go_wp2
     go_ret
     exact⟨by rw[Hz.out];rfl,below_drewN hB _⟩
   ·have hlt':¬ (k:Int) < (l.length:Int):=by omega
    have Hz:=hid (allS_end (f:=intE) (l:=l) (m:=m) (k:=k) (by omega) (by have:=Hlen.out;omega))
    go_wp2
    go_ret
    exact⟨by rw[Hr.out,Hz.out];rfl,hB⟩
 ·have q:((l.length:Int) != (m.length:Int))=true:=by rw[bne_iff_ne];omega
  have Hz:=hid (allS_len (f:=intE) hlen)
  clear hlen
  go_enter Tryz.func44,Tryz.ntmps44
  go_wp2
  go_ret
  exact⟨by rw[Hz.out];rfl,Below.refl _ _⟩
set_option maxRecDepth 100000 in
set_option maxHeartbeats 4000000 in
theorem sameDecl_c (t u:De) (w:World) (cs ds:List Value) (hc:DeC w w.heap.size t cs) (hd:DeC w w.heap.size u ds) :
  Calls Tryz.prog 26 #[.agg cs.toArray,.agg ds.toArray] w fun e w'=>e=.returned (.bool (sameD t u))∧Below w.heap.size w w':=by
 obtain⟨p1,q1,r1,s1,rfl,_,_,a1,t1⟩:=hc.look
 obtain⟨p2,q2,r2,s2,rfl,_,_,a2,t2⟩:=hd.look
 have HN:=hid (fun (W:World) (hb:Below w.heap.size w W)=>equalStrs_c t.names u.names _ _ W (SlOf.str a1 hb hb.size) (SlOf.str a2 hb hb.size))
 have HT:=hid (fun (W:World) (hb:Below w.heap.size w W)=>equalInts_c t.types u.types _ _ W (SlOf.int t1 hb hb.size) (SlOf.int t2 hb hb.size))
 clear hc hd a1 a2 t1 t2
 obtain⟨b1,hb1⟩:∃ b,(t.rel.toList == u.rel.toList)=b:=⟨_,rfl⟩
 obtain⟨b2,hb2⟩:∃ b,(t.inn == u.inn)=b:=⟨_,rfl⟩
 obtain⟨b3,hb3⟩:∃ b,(t.out == u.out)=b:=⟨_,rfl⟩
 have hz:sameD t u=(b1 && b2 && b3 && allS strE t.names u.names && allS intE t.types u.types):=by unfold sameD strE;rw[hb1,hb2,hb3]
 have Hz:=hid hz
 clear hz
 cases b1
 ·go_enter Tryz.func26,Tryz.ntmps26
  go_wp2
  go_ret
  exact⟨by rw[Hz.out];rfl,((Below.refl _ _).alloc (Nat.le_refl _) _).alloc (by simp) _⟩
 cases b2
 ·go_enter Tryz.func26,Tryz.ntmps26
  go_wp2
  go_ret
  exact⟨by rw[Hz.out];rfl,((Below.refl _ _).alloc (Nat.le_refl _) _).alloc (by simp) _⟩
 cases b3
 ·go_enter Tryz.func26,Tryz.ntmps26
  go_wp2
  go_ret
  exact⟨by rw[Hz.out];rfl,((Below.refl _ _).alloc (Nat.le_refl _) _).alloc (by simp) _⟩
 go_enter Tryz.func26,Tryz.ntmps26
 go_wp2_with fail
 refine (HN.out _ (((Below.refl _ _).alloc (Nat.le_refl _) _).alloc (by simp) _)).mono ?_
 rintro e w1 ⟨rfl,b1⟩
 have B1:Below w.heap.size w w1:=(((Below.refl _ _).alloc (Nat.le_refl _) _).alloc (by simp) _).trans (b1.mono (by simp;omega))
 obtain⟨hc,hf⟩:=(⟨fun b o h=>b1.cell (p:=⟨b,o,none⟩) h,fun b o h=>b1.frozen (p:=⟨b,o,none⟩) h⟩:(∀ b o,b < _→w1.cell? ⟨b,o,none⟩=_)∧(∀ b o,b < _→w1.frozen? ⟨b,o,none⟩=_))
 have hz1:w.heap.size+1 < w1.heap.size:=by have:=b1.size;simp at this;omega
 cases h1:allS strE t.names u.names
 ·have Hz1:Hid (sameD t u=false):=hid (by rw[Hz.out,h1];rfl)
  clear h1
  go_wp2
  go_ret
  exact⟨by rw[Hz1.out];rfl,B1⟩
 ·have Hz1:Hid (sameD t u=allS intE t.types u.types):=hid (by rw[Hz.out,h1];rfl)
  clear h1
  go_wp2_with fail
  refine (HT.out _ B1).mono ?_
  rintro e w2 ⟨rfl,b2⟩
  go_wp2
  go_ret
  exact⟨by rw[Hz1.out];rfl,B1.trans (b2.mono (by omega))⟩
set_option maxRecDepth 100000 in
set_option maxHeartbeats 4000000 in
theorem equalDecls_c (l m:List De) (v1 v2:Value) (w:World) (h1:SlOf w w.heap.size 6 (DeC w w.heap.size) l v1) (h2:SlOf w w.heap.size 6 (DeC w w.heap.size) m v2) :
  Calls Tryz.prog 25 #[v1,v2,.func (.func 26) #[] #[]] w fun e w'=>e=.returned (.bool (allS sameD l m))∧Below w.heap.size w w':=by
 obtain⟨o1,cap1,rfl,hc1,hm1,S1⟩:=SlOf.open h1
 obtain⟨o2,cap2,rfl,hc2,hm2,S2⟩:=SlOf.open h2
 clear h1 h2
 by_cases hlen:l.length=m.length
 ·have q:((l.length:Int) != (m.length:Int))=false:=by rw[hlen];simp
  have Hlen:=hid hlen
  clear hlen
  go_enter Tryz.func25,Tryz.ntmps25
  go_wp2
  go_loopw [17] (fun i wr=>∃ k:Nat,k≤l.length∧i=.int .i64 k∧allS sameD l m=allS sameD (l.drop k) (m.drop k)∧Below w.heap.size w wr) (fun i _=>l.length - (intOf i).toNat)
  case atStart=>exact⟨0,Nat.zero_le _,rfl,rfl,Below.refl _ _⟩
  case round=>
   obtain⟨k,hk,rfl,hr,hB⟩:=hrel
   have Hr:=hid hr
   clear hr
   have hBs:=hB.size
   by_cases hlt:k < l.length
   ·have hlt':(k:Int) < (l.length:Int):=by omega
    have hlt2:k < m.length:=by have:=Hlen.out;omega
    obtain⟨t,ht⟩:∃ t,l[k]?=some t:=⟨l[k],List.getElem?_eq_getElem hlt⟩
    obtain⟨u,hu⟩:∃ u,m[k]?=some u:=⟨m[k],List.getElem?_eq_getElem hlt2⟩
    obtain⟨a,p1,q1,r1,s1,rfl,ha,Hc,c0,c1,c2,c3,c4,c5⟩:=de_at S1 hB ht
    obtain⟨b,p2,q2,r2,s2,rfl,hb,Hd,d0,d1,d2,d3,d4,d5⟩:=de_at S2 hB hu
    have hal:(a.add (k * 6)).block < wr.heap.size:=by rw[addBlock];omega
    have hbl:(b.add (k * 6)).block < wr.heap.size:=by rw[addBlock];omega
    have Hs:=hid (allS_drop (f:=sameD) ht hu)
    clear ht hu
    have HI:=hid (fun (W:World) (hb:Below wr.heap.size wr W)=>sameDecl_c t u W _ _ ((Hc.out.below hb).more hb.size) ((Hd.out.below hb).more hb.size))
    go_wp2_with fail
    refine (HI.out _ (((Below.refl _ _).alloc (Nat.le_refl _) _).alloc (by simp) _)).mono ?_
    rintro e w1 ⟨rfl,b1⟩
    have hB1:=hB.trans ((((Below.refl _ wr).alloc (Nat.le_refl _) _).alloc (by simp) _).mono hBs |>.trans (b1.mono (by simp;omega)))
    cases hs:sameD t u
    ·have Hz:=hid (Hr.out.trans (Hs.out.trans (by rw[hs,Bool.false_and])))
     clear hs
     go_wp2
     go_ret
     exact⟨by rw[Hz.out];rfl,hB1⟩
    ·have Hz:=hid (Hr.out.trans (Hs.out.trans (by rw[hs,Bool.true_and])))
     clear hs
     go_wp2
     go_roundw
     case rel=>exact⟨k+1,hlt,by go_num,Hz.out,hB1⟩
     case measure=>simp[intOf];omega
   ·have hlt':¬ (k:Int) < (l.length:Int):=by omega
    have Hz:=hid (allS_end (f:=sameD) (l:=l) (m:=m) (k:=k) (by omega) (by have:=Hlen.out;omega))
    go_wp2
    go_ret
    exact⟨by rw[Hr.out,Hz.out];rfl,hB⟩
 ·have q:((l.length:Int) != (m.length:Int))=true:=by rw[bne_iff_ne];omega
  have Hz:=hid (allS_len (f:=sameD) hlen)
  clear hlen
  go_enter Tryz.func25,Tryz.ntmps25
  go_wp2
  go_ret
  exact⟨by rw[Hz.out];rfl,Below.refl _ _⟩
set_option maxRecDepth 100000 in
set_option maxHeartbeats 4000000 in
theorem same_c (t u:Pg) (w:World) (cs ds:List Value) (hc:PgC w w.heap.size t cs) (hd:PgC w w.heap.size u ds) :
  Calls Tryz.prog 12 #[.agg cs.toArray,.agg ds.toArray] w fun e w'=>e=.returned (.bool (sameP t u))∧Below w.heap.size w w':=by
 obtain⟨p1,q1,r1,s1,rfl,a1,t1⟩:=hc.look
 obtain⟨p2,q2,r2,s2,rfl,a2,t2⟩:=hd.look
 have HA:=hid (fun (W:World) (hb:Below w.heap.size w W)=>equalDecls_c t.decls u.decls _ _ W (SlOf.decl a1 hb hb.size) (SlOf.decl a2 hb hb.size))
 have HL:=hid (fun (W:World) (hb:Below w.heap.size w W)=>equalRules_c t.rules u.rules _ _ W (SlOf.rule t1 hb hb.size) (SlOf.rule t2 hb hb.size))
 clear hc hd a1 a2 t1 t2
 go_enter Tryz.func12,Tryz.ntmps12
 go_wp2_with fail
 refine (HA.out _ (((Below.refl _ _).alloc (Nat.le_refl _) _).alloc (by simp) _)).mono ?_
 rintro e w1 ⟨rfl,b1⟩
 have B1:Below w.heap.size w w1:=(((Below.refl _ _).alloc (Nat.le_refl _) _).alloc (by simp) _).trans (b1.mono (by simp;omega))
 obtain⟨hc,hf⟩:=(⟨fun b o h=>b1.cell (p:=⟨b,o,none⟩) h,fun b o h=>b1.frozen (p:=⟨b,o,none⟩) h⟩:(∀ b o,b < _→w1.cell? ⟨b,o,none⟩=_)∧(∀ b o,b < _→w1.frozen? ⟨b,o,none⟩=_))
 have hz1:w.heap.size+1 < w1.heap.size:=by have:=b1.size;simp at this;omega
 cases h1:allS sameD t.decls u.decls
 ·have Hz1:Hid (sameP t u=false):=hid (by unfold sameP;rw[h1];rfl)
  clear h1
  go_wp2
  go_ret
  exact⟨by rw[Hz1.out];rfl,B1⟩
 ·have Hz1:Hid (sameP t u=allS sameR t.rules u.rules):=hid (by unfold sameP;rw[h1];rfl)
  clear h1
  go_wp2_with fail
  refine (HL.out _ B1).mono ?_
  rintro e w2 ⟨rfl,b2⟩
  go_wp2
  go_ret
  exact⟨by rw[Hz1.out];rfl,B1.trans (b2.mono (by omega))⟩
end Go.Proofs.YtdgbajnhhhjbcaaGreatDoor
