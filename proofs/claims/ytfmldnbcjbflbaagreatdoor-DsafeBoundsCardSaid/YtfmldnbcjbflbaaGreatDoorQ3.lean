/- Spr@012, MapI@012, Is@012, Flow@012, Tsame@012, Zii@012 -/
import Derived.BigQuiet
import Derived.Deep.AppendLies
import Derived.Deep.QuietTactic
import Derived.LaidEql
import Derived.Laws.OwnMore
import Derived.Maps.OwnIn
import Derived.Maps.OwnSet
import Derived.OwnWalk
import Derived.RegionTactic
import Derived.RowKitTokens
import Derived.StringKeys
import Derived.Test.YtfmldnbcjbflbaaGreatDoorQ2
set_option linter.unusedSimpArgs false
set_option linter.unusedVariables false
namespace Go.Proofs.YtfmldnbcjbflbaaGreatDoor
open Lib(hid)
open Go.RowKit
def Spread (w:World) (z:Nat) (v:Value) (m:Nat) (news:List Value):Prop:=
 (v=.slice none 0 0∧m=0∧news=[])∨∃ (ad:Addr) (c:Nat),v=.slice (some ad) m c∧news.length=m * z∧(∀ j u,news[j]?=some u→w.cell? (ad.add j)=some u)∧∀ u ∈ news,u.oneCell'=true
theorem Spread.len {w:World} {z:Nat} {v:Value} {m:Nat} {news:List Value} (h:Spread w z v m news):news.length=m * z:=by
 rcases h with ⟨_,rfl,rfl⟩ | ⟨_,_,_,h,_⟩
 ·simp
 ·exact h
theorem Spread.cells {w w':World} {z:Nat} {v:Value} {m:Nat} {news:List Value} (h:Spread w z v m news) (hk:∀ p c,w.cell? p=some c→w'.cell? p=some c):Spread w' z v m news:=by
 rcases h with h | ⟨ad,c,h1,h2,h3,h4⟩
 ·exact .inl h
 ·exact .inr ⟨ad,c,h1,h2,fun j u hu=>hk _ _ (h3 j u hu),h4⟩
theorem Spread.own {w:World} {base:Nat} {e:TypeId} {z:Nat} {v:Value} {n:Nat} {xs:List Value} (h:w.ownsRow base e z v n xs) (h1:∀ u ∈ xs,u.oneCell'=true):Spread w z v n xs:=by
 rcases h.2 with ⟨rfl,rfl⟩ | ⟨g,cap,cur,hv,hb,hg,_⟩
 ·exact .inl ⟨rfl,rfl,List.eq_nil_of_length_eq_zero (by rw[h.1];simp)⟩
 ·refine .inr ⟨⟨g,0,none⟩,cap,hv,h.1,fun j u hu=>?_,h1⟩
  exact h.cells (g:=g) (by rw[hv];rfl) j u hu
theorem own_below {w w':World} {base:Nat} {e:TypeId} {z:Nat} {v:Value} {n:Nat} {xs:List Value} (h:w.ownsRow base e z v n xs) (hb:Below w.heap.size w w'):w'.ownsRow base e z v n xs:=
 h.kept (row:=none) ⟨hb.os,hb.tape,hb.output,hb.size,fun i hi _=>hb.block i hi⟩ (by cases hv:v.ownBlock with | none=>exact .inl rfl | some g=>exact .inr (by simp))
section
variable {P:Program} (w:World)
theorem run_append_any (base:Nat) (t ty e:TypeId) (i:TypeInfo) (z:Value) (size bytes:Nat) (ht:P.underlying t=some (.slice e)) (hi:P.info? e=some i) (hz:i.zero=some z)
  (hsize:i.size=size) (hby:i.bytes=bytes) (hzs:z.cells.size=size) (hsz:0 < size)
  (v:Value) (n:Nat) (xs:List Value) (hown:w.ownsRow base e size v n xs) (u:Value) (m:Nat) (news:List Value) (hu:Spread w size u m news)
  (h63:n+m≤maxLen) (hbytes:(n+m) * bytes≤140737488355328) (hbase:base≤w.heap.size) :
  ∃ v' w',(Builtin.append_ #[t,t] ty #[v,u]).run P w=.ok v' w'∧w'.ownsRow base e size v' (n+m) (xs++news)∧w.grownBy w' v.ownBlock∧(v'.ownBlock=v.ownBlock∨v'.ownBlock=some w.heap.size):=by
 rcases hu with ⟨rfl,rfl,rfl⟩ | ⟨ad,c,rfl,h2,h3,h4⟩
 ·refine⟨v,w,run_append_owned_none (P:=P) w base t ty e i size ht hi v n xs hown,by simpa using hown,⟨rfl,rfl,rfl,Nat.le_refl _,fun _ _ _=>rfl⟩,.inl rfl⟩
 ·obtain⟨v',w',hr,k1,k2,_,k3⟩:=run_append_own_at (P:=P) w base t ty e i z size bytes ht hi hz hsize hby hzs hsz v n xs hown ad m c news h2 h3 h4 h63 hbytes hbase
  exact⟨v',w',hr,k1,k2,k3⟩
theorem wp_append_any {o:Oper} {a:Act} {K:Act→World→Prop} {Q:Exit→Act→World→Prop} (s x:Operand) (t:TypeId)
  (ho:o.op=.call { callee:=.builtin .append,args:=#[s,x],argTypes:=#[t,t] })
  (base:Nat) (e:TypeId) (i:TypeInfo) (z:Value) (size bytes:Nat) (ht:P.underlying t=some (.slice e)) (hi:P.info? e=some i) (hz:i.zero=some z)
  (hsize:i.size=size) (hby:i.bytes=bytes) (hzs:z.cells.size=size) (hsz:0 < size)
  (v:Value) (n:Nat) (xs:List Value) (hs:a.eval s=v) (hown:w.ownsRow base e size v n xs) (u:Value) (m:Nat) (news:List Value) (hx:a.eval x=u) (hu:Spread w size u m news)
  (h63:n+m≤maxLen) (hbytes:(n+m) * bytes≤140737488355328) (hbase:base≤w.heap.size)
  (h:∀ v' w',w'.ownsRow base e size v' (n+m) (xs++news)→w.grownBy w' v.ownBlock→(v'.ownBlock=v.ownBlock∨v'.ownBlock=some w.heap.size)→K (a.put o.dst v') w'):o.wp P a w K Q:=by
 obtain⟨v',w',hr,h2,h3,h4⟩:=run_append_any (P:=P) w base t o.type e i z size bytes ht hi hz hsize hby hzs hsz v n xs hown u m news hu h63 hbytes hbase
 unfold Oper.wp execOp
 simp only[ho,resolve,invoke,builtin,Sem.run_bind,Sem.run_pure,Result.andThen_ok,List.map_toArray,List.map_cons,List.map_nil,hs,hx,hr]
 exact h v' w' h2 h3 h4
theorem wpList_append_any {ops:Array Oper} {rest:List Oper} {o:Oper} {a:Act} {Q:Exit→Act→World→Prop} (hgd:o.guard=none) (s x:Operand) (t:TypeId)
  (ho:o.op=.call { callee:=.builtin .append,args:=#[s,x],argTypes:=#[t,t] })
  (base:Nat) (e:TypeId) (i:TypeInfo) (z:Value) (size bytes:Nat) (ht:P.underlying t=some (.slice e)) (hi:P.info? e=some i) (hz:i.zero=some z)
  (hsize:i.size=size) (hby:i.bytes=bytes) (hzs:z.cells.size=size) (hsz:0 < size)
  (v:Value) (n:Nat) (xs:List Value) (hs:a.eval s=v) (hown:w.ownsRow base e size v n xs) (u:Value) (m:Nat) (news:List Value) (hx:a.eval x=u) (hu:Spread w size u m news)
  (h63:n+m≤maxLen) (hbytes:(n+m) * bytes≤140737488355328) (hbase:base≤w.heap.size)
  (h:∀ v' w',w'.ownsRow base e size v' (n+m) (xs++news)→w.grownBy w' v.ownBlock→(v'.ownBlock=v.ownBlock∨v'.ownBlock=some w.heap.size)→wpList P ops Q rest (a.put o.dst v') w'):wpList P ops Q (o::rest) a w:=
 wpList_plain hgd fun _ hK=>wp_append_any w s x t ho base e i z size bytes ht hi hz hsize hby hzs hsz v n xs hs hown u m news hx hu h63 hbytes hbase fun v' w' h2 h3 h4=>hK _ _ (h v' w' h2 h3 h4)
end
end Go.Proofs.YtfmldnbcjbflbaaGreatDoor
namespace Go.Proofs.YtfmldnbcjbflbaaGreatDoor
open Lib(hid)
open Go.RowKit Go.Maps Go.WideMaps
def MapI (P:Program) (w:World) (kT eT:TypeId) (B n:Nat) (f:List UInt8→Int) (c:Nat):Prop:=
 ∃ D:DataW Unit,w.ownsMap P kT (plainElem P eT) B n D∧Tidy D∧(∀ s,D.atKey (.string s) (.lit (.int .i64 0))=.lit (.int .i64 (f s)))∧(∀ s,Maps.has D (.string s)=decide (f s≠0))∧Maps.size D=c
def updF (f:List UInt8→Int) (s:List UInt8) (v:Int):List UInt8→Int:=fun n=>if n=s then v else f n
theorem updF_same (f:List UInt8→Int) (s:List UInt8) (v:Int):updF f s v s=v:=if_pos rfl
theorem updF_other (f:List UInt8→Int) {s n:List UInt8} (v:Int) (h:n≠s):updF f s v n=f n:=if_neg h
theorem mapI_made (P:Program) (w:World) (kT eT:TypeId):MapI P (w.alloc (.map #[] 0)) kT eT w.heap.size 0 (fun _=>0) 0:=
 ⟨.map [],World.ownsMap_made w P kT _,tidy_empty,fun _=>rfl,fun _=>rfl,rfl⟩
theorem MapI.mono {P:Program} {w:World} {kT eT:TypeId} {B n n':Nat} {f:List UInt8→Int} {c:Nat} (h:MapI P w kT eT B n f c) (hn:n≤n'):MapI P w kT eT B n' f c:=by
 obtain⟨D,h1,h2⟩:=h
 exact⟨D,h1.mono hn,h2⟩
theorem MapI.lt {P:Program} {w:World} {kT eT:TypeId} {B n:Nat} {f:List UInt8→Int} {c:Nat} (h:MapI P w kT eT B n f c):B < w.heap.size:=by
 obtain⟨D,h1,_⟩:=h
 exact h1.lt
theorem MapI.kept {P:Program} {w w':World} {kT eT:TypeId} {B n:Nat} {f:List UInt8→Int} {c:Nat} {row:Option Nat} (h:MapI P w kT eT B n f c) (hg:w.grownBy w' row) (hne:some B≠row):MapI P w' kT eT B n f c:=by
 obtain⟨D,h1,h2⟩:=h
 exact⟨D,h1.kept hg hne,h2⟩
theorem MapI.alloc {P:Program} {w:World} {kT eT:TypeId} {B n:Nat} {f:List UInt8→Int} {c:Nat} (h:MapI P w kT eT B n f c) (o:Obj):MapI P (w.alloc o) kT eT B n f c:=h.kept (World.grownBy_alloc w o none) (by simp)
theorem MapI.drew {P:Program} {w:World} {kT eT:TypeId} {B n:Nat} {f:List UInt8→Int} {c:Nat} (h:MapI P w kT eT B n f c):MapI P w.drew kT eT B n f c:=h
theorem MapI.below {P:Program} {w w':World} {kT eT:TypeId} {B n N:Nat} {f:List UInt8→Int} {c:Nat} (h:MapI P w kT eT B n f c) (hb:Below N w w') (hN:B < N):MapI P w' kT eT B n f c:=by
 obtain⟨D,⟨es,clock,h1,h2⟩,h3⟩:=h
 exact⟨D,⟨es,clock,(hb.block B hN).trans h1,h2⟩,h3⟩
theorem MapI.put {P:Program} {w':World} {kT eT:TypeId} {B n:Nat} {f:List UInt8→Int} {c:Nat} {D:DataW Unit} (h2:Tidy D) (h3:∀ s,D.atKey (.string s) (.lit (.int .i64 0))=.lit (.int .i64 (f s))) (h4:∀ s,Maps.has D (.string s)=decide (f s≠0)) (h5:Maps.size D=c) (s:List UInt8) {v:Int} (hv:v≠0)
  (h1:w'.ownsMap P kT (plainElem P eT) B n (D.put (.string s) (.lit (.int .i64 v)))):MapI P w' kT eT B n (updF f s v) (if f s=0 then c+1 else c):=by
 have hk:WideAt.IsKeyLit (.string s):=trivial
 refine⟨_,h1,h2.put hk _,fun n=>?_,fun n=>?_,?_⟩
 ·by_cases e:n=s
  ·subst e;rw[atKey_put_same h2.isMap hk,updF_same]
  ·rw[atKey_put_other (by intro h;cases h;exact e rfl),h3,updF_other _ _ e]
 ·by_cases e:n=s
  ·subst e;rw[has_put_same h2.isMap hk,updF_same];simp[hv]
  ·rw[has_put_other (by intro h;cases h;exact e rfl),h4,updF_other _ _ e]
 ·rw[size_put h2,h4,h5]
  by_cases e:f s=0
  ·rw[if_pos e];simp[e]
  ·rw[if_neg e];simp[e]
section
variable {P:Program} (w:World) {ops:Array Oper} {rest:List Oper} {o:Oper} {a:Act} {Q:Exit→Act→World→Prop}
theorem wpList_mapI_put (hg:o.guard=none) (m x u:Operand) (t:TypeId) (hop:o.op=Op.mapUpdate t m x u) (kT eT:TypeId) (ht:P.underlying t=some (.map kT eT)) (hkT:P.underlying kT=some .string) (heT:P.underlying eT=some (.int .i64))
  (B n:Nat) (f:List UInt8→Int) (c:Nat) (hm:a.eval m=.map (some B)) (h:MapI P w kT eT B n f c) (hn:n < maxLen) (s:ByteArray) (v:Int) (hx:a.eval x=.string s) (hu:a.eval u=.int .i64 v) (hs:s.size≤maxLen) (hv:v≠0) (hw:(Lit.int .i64 v).wf=true)
  (hK:∀ w',MapI P w' kT eT B (n+1) (updF f s.data.toList v) (if f s.data.toList=0 then c+1 else c)→w.grownBy w' (some B)→wpList P ops Q rest (a.put o.dst undef) w'):wpList P ops Q (o::rest) a w:=by
 obtain⟨D,h1,h2,h3,h4,h5⟩:=h
 exact wpList_mapUpdate_own w hg m x u t hop kT eT (string_keyed hkT) ht _ B n D hm h1 hn _ _ _ hx hu (keyOf_string_mk hkT hs) _ [] (plainElem_int heT hw) fun w' hown hgrow=>hK w' (MapI.put h2 h3 h4 h5 _ hv hown) hgrow
theorem wpList_mapI_get (hg:o.guard=none) (m x:Operand) (t:TypeId) (hop:o.op=Op.lookup t m x false) (kT eT:TypeId) (ht:P.underlying t=some (.map kT eT)) (hkT:P.underlying kT=some .string) (heT:P.underlying eT=some (.int .i64)) (hz:(zeroValue eT).run P w=.ok (.int .i64 0) w)
  (B n:Nat) (f:List UInt8→Int) (c:Nat) (hm:a.eval m=.map (some B)) (h:MapI P w kT eT B n f c) (s:ByteArray) (hx:a.eval x=.string s) (hs:s.size≤maxLen)
  (hK:(Lit.int .i64 (f s.data.toList)).wf=true→wpList P ops Q rest (a.put o.dst (.int .i64 (f s.data.toList))) w):wpList P ops Q (o::rest) a w:=by
 obtain⟨D,h1,h2,h3,h4,h5⟩:=h
 refine wpList_lookup_own_int w hg m x t hop kT eT .i64 (string_keyed hkT) ht heT hz B n D hm h1 _ _ hx (keyOf_string_mk hkT hs) fun c hc hwf=>?_
 rw[h3] at hc
 have:f s.data.toList=c:=by simpa using hc
 subst this
 exact hK hwf
variable {F:Fence} {nF:Nat}
theorem wpListIn_mapI_put (hg:o.guard=none) (m x u:Operand) (t:TypeId) (hop:o.op=Op.mapUpdate t m x u) (kT eT:TypeId) (ht:P.underlying t=some (.map kT eT)) (hkT:P.underlying kT=some .string) (heT:P.underlying eT=some (.int .i64))
  (B n:Nat) (f:List UInt8→Int) (c:Nat) (hm:a.eval m=.map (some B)) (h:MapI P w kT eT B n f c) (hn:n < maxLen) (s:ByteArray) (v:Int) (hx:a.eval x=.string s) (hu:a.eval u=.int .i64 v) (hs:s.size≤maxLen) (hv:v≠0) (hw:(Lit.int .i64 v).wf=true)
  (hK:∀ w',MapI P w' kT eT B (n+1) (updF f s.data.toList v) (if f s.data.toList=0 then c+1 else c)→w.grownBy w' (some B)→wpListIn F nF P ops Q rest (a.put o.dst undef) w'):wpListIn F nF P ops Q (o::rest) a w:=by
 obtain⟨D,h1,h2,h3,h4,h5⟩:=h
 exact wpListIn_mapUpdate_own w hg m x u t hop kT eT (string_keyed hkT) ht _ B n D hm h1 hn _ _ _ hx hu (keyOf_string_mk hkT hs) _ [] (plainElem_int heT hw) fun w' hown hgrow=>hK w' (MapI.put h2 h3 h4 h5 _ hv hown) hgrow
theorem wpListIn_mapI_get (hg:o.guard=none) (m x:Operand) (t:TypeId) (hop:o.op=Op.lookup t m x false) (kT eT:TypeId) (ht:P.underlying t=some (.map kT eT)) (hkT:P.underlying kT=some .string) (heT:P.underlying eT=some (.int .i64)) (hz:(zeroValue eT).run P w=.ok (.int .i64 0) w)
  (B n:Nat) (f:List UInt8→Int) (c:Nat) (hm:a.eval m=.map (some B)) (h:MapI P w kT eT B n f c) (s:ByteArray) (hx:a.eval x=.string s) (hs:s.size≤maxLen)
  (hK:(Lit.int .i64 (f s.data.toList)).wf=true→wpListIn F nF P ops Q rest (a.put o.dst (.int .i64 (f s.data.toList))) w):wpListIn F nF P ops Q (o::rest) a w:=by
 obtain⟨D,h1,h2,h3,h4,h5⟩:=h
 refine wpListIn_lookup_own_int w hg m x t hop kT eT .i64 (string_keyed hkT) ht heT hz B n D hm h1 _ _ hx (keyOf_string_mk hkT hs) fun c hc hwf=>?_
 rw[h3] at hc
 have:f s.data.toList=c:=by simpa using hc
 subst this
 exact hK hwf
end
end Go.Proofs.YtfmldnbcjbflbaaGreatDoor
namespace Go.Proofs.YtfmldnbcjbflbaaGreatDoor
open Lib(hid)
open Go.RowKit Go.Extern Go.Extern.Rtype
theorem isTypeOf (v:Value) (w:World):(Extern.ReflectliteType.typeOf #[.iface 191 v]).run Tryz.prog w=.ok (.iface 163 (.agg #[.pointer (some ⟨7,191,none⟩)])) w:=by kernel_rfl
theorem isComparable (w : World) : ((Extern.ReflectliteType.method fun t => do noPackHeld "Comparable" t; pure (.bool (← typeInfo t).comparable)) #[.agg #[.pointer (some ⟨7, 191, none⟩)]]).run Tryz.prog w = .ok (.bool true) w := by kernel_rfl
theorem isCalled (w:World):(callFunc 178 #[.agg #[.pointer (some ⟨7,191,none⟩)]]).run Tryz.prog w=.ok (Next.value (.bool true)) w:=by
 have h91 := @run_callFunc_extern Tryz.prog 178 _ (Extern.ReflectliteType.method fun t => do noPackHeld "Comparable" t; pure (.bool (← typeInfo t).comparable)) Tryz.func178 (by kernel_rfl) (by kernel_rfl) (by kernel_rfl) (by kernel_rfl)
 rw[h91,isComparable]
 rfl
theorem isMethodComparable (v : Value) (w : World) : (Go.method 328 163 v "Comparable").run Tryz.prog w = .ok (178, v) w := by kernel_rfl
theorem isComp:(Tryz.prog.info? 191).map (·.comparable)=some true:=by kernel_rfl
theorem isSize:(Tryz.prog.info? 216).map (·.size)=some 1:=by kernel_rfl
theorem is_nil (b:Addr) (w:World) :
  Calls Tryz.prog 60 #[.nilIface,.iface 191 (.pointer (some b))] w fun e w'=>e=.returned (.bool false)∧w=w':=by
 have hn:=run_eql_iface_nil_left (P:=Tryz.prog) w 191 (.pointer (some b)) Tryz.underlying62
 go_enter Tryz.func60,Tryz.ntmps60
 go_wp2
 go_ret
 exact⟨rfl,rfl⟩
set_option maxRecDepth 100000 in
theorem is_same (a:Addr) (w:World) :
  Calls Tryz.prog 60 #[.iface 191 (.pointer (some a)),.iface 191 (.pointer (some a))] w fun e w'=>e=.returned (.bool true)∧w=w':=by
 obtain⟨i,hi,hcmp⟩:=Option.map_eq_some_iff.1 isComp
 obtain⟨j,hj,hjs⟩:=Option.map_eq_some_iff.1 isSize
 have h39:=@run_callFunc_extern Tryz.prog 93 _ Extern.ReflectliteType.typeOf Tryz.func93 (by kernel_rfl) (by kernel_rfl) (by kernel_rfl) (by kernel_rfl)
 have tT:=isTypeOf
 have cT:=isCalled
 have mR:=isMethodComparable
 have heq:=run_eql_iface_ptr_same (P:=Tryz.prog) w a Tryz.underlying62 Tryz.underlying191 hi hcmp hj
 go_enter Tryz.func60,Tryz.ntmps60
 go_wp2
 refine wp_loop_rounds 1 ?_
 rw[rounds_succ]
 go_wp2
 go_ret
 exact⟨rfl,rfl⟩
end Go.Proofs.YtfmldnbcjbflbaaGreatDoor
namespace Go.Proofs.YtfmldnbcjbflbaaGreatDoor
open Lib(hid)
open Go.RowKit
theorem putA_comm (a:Act) {d d':Option Tmp} (v v':Value) (h:d≠d'∨d=none):(a.put d v).put d' v'=(a.put d' v').put d v:=by
 cases d with
 | none=>rfl
 | some s=>
  cases d' with
  | none=>rfl
  | some t=>
   have hne:s≠t:=by
    intro e
    rcases h with h | h
    ·exact h (by rw[e])
    ·cases h
   simp only[Act.put,Array.setIfInBounds_comm _ _ hne]
def actsL (D:Nat→Option Tmp) (l:Array Bool) (val:Nat→Value):List Nat→Act→Act
 | [],a=>a
 | i::is,a=>actsL D l val is (if l.getD i false=true then a.put (D i) (val i) else a)
def updV (val:Nat→Value) (i:Nat) (v:Value):Nat→Value:=fun j=>if j=i then v else val j
theorem updV_same (val:Nat→Value) (i:Nat) (v:Value):updV val i v i=v:=if_pos rfl
theorem updV_other (val:Nat→Value) {i j:Nat} (v:Value) (h:j≠i):updV val i v j=val j:=if_neg h
theorem actsL_put {D:Nat→Option Tmp} {l:Array Bool} {val:Nat→Value}:∀ (is:List Nat) (a:Act) (d:Option Tmp) (v:Value),(∀ i ∈ is,D i≠d∨d=none)→actsL D l val is (a.put d v)=(actsL D l val is a).put d v
 | [],_,_,_,_=>rfl
 | i::is,a,d,v,h=>by
  have ih:=fun b=>actsL_put (D:=D) (l:=l) (val:=val) is b d v (fun j hj=>h j (List.mem_cons_of_mem _ hj))
  unfold actsL
  by_cases hi:l.getD i false=true
  ·rw[if_pos hi,if_pos hi,← ih]
   have hc:(a.put d v).put (D i) (val i)=(a.put (D i) (val i)).put d v:=by
    rcases h i (List.mem_cons_self ..) with hh | rfl
    ·exact putA_comm a v (val i) (.inl (Ne.symm hh))
    ·rfl
   rw[hc]
  ·rw[if_neg hi,if_neg hi]
   exact ih a
theorem getD_set {l:Array Bool} {i j:Nat} (h:j≠i):(l.setIfInBounds i true).getD j false=l.getD j false:=by
 simp only[Array.getD_eq_getD_getElem?,Array.getElem?_setIfInBounds_ne (Ne.symm h)]
theorem getD_same {l:Array Bool} {i:Nat} (h:i < l.size):(l.setIfInBounds i true).getD i false=true:=by
 simp[Array.getD_eq_getD_getElem?,Array.getElem?_setIfInBounds_self_of_lt h]
theorem actsL_off {D:Nat→Option Tmp} {l:Array Bool} {val:Nat→Value} {i:Nat} {v:Value}:∀ (is:List Nat) (a:Act),i ∉ is→actsL D (l.setIfInBounds i true) (updV val i v) is a=actsL D l val is a
 | [],_,_=>rfl
 | j::is,a,h=>by
  have hj:j≠i:=fun e=>h (by rw[e];exact List.mem_cons_self ..)
  unfold actsL
  rw[getD_set hj,updV_other val v hj]
  exact actsL_off is _ (fun hh=>h (List.mem_cons_of_mem _ hh))
theorem actsL_set {D:Nat→Option Tmp} {l:Array Bool} {val:Nat→Value} {i:Nat} {v:Value} (hl:l.getD i false=false) (hs:i < l.size):∀ (is:List Nat) (a:Act),is.Nodup→i ∈ is→(∀ j ∈ is,j≠i→D j≠D i∨D i=none) →
  (actsL D l val is a).put (D i) v=actsL D (l.setIfInBounds i true) (updV val i v) is a
 | [],_,_,h,_=>by cases h
 | j::is,a,hn,h,hd=>by
  by_cases hj:j=i
  ·subst hj
   have hni:j ∉ is:=(List.nodup_cons.1 hn).1
   unfold actsL
   rw[if_neg (by rw[hl];simp),if_pos (getD_same hs),updV_same,actsL_off is _ hni]
   exact (actsL_put is a (D j) v fun k hk=>hd k (List.mem_cons_of_mem _ hk) (fun e=>hni (e ▸ hk))).symm
  ·have hi:i ∈ is:=(List.mem_cons.1 h).resolve_left fun e=>hj e.symm
   unfold actsL
   rw[getD_set hj,updV_other val v hj]
   exact actsL_set hl hs is _ (List.nodup_cons.1 hn).2 hi fun k hk=>hd k (List.mem_cons_of_mem _ hk)
theorem put_eval_same {a:Act} {s:Tmp} {v:Value} (h:s < a.tmps.size):(a.put (some s) v).eval (.tmp s)=v:=by
 simp[Act.put,Act.eval,Array.getD_eq_getD_getElem?,Array.getElem?_setIfInBounds_self_of_lt h]
theorem put_eval_other {a:Act} {d:Option Tmp} {s:Tmp} {v:Value} (h:d≠some s):(a.put d v).eval (.tmp s)=a.eval (.tmp s):=by
 cases d with
 | none=>rfl
 | some t=>
  have:t≠s:=fun e=>h (by rw[e])
  simp[Act.put,Act.eval,Array.getD_eq_getD_getElem?,Array.getElem?_setIfInBounds_ne this]
theorem putA_size (a:Act) (d:Option Tmp) (v:Value):(a.put d v).tmps.size=a.tmps.size:=by cases d <;> simp[Act.put]
theorem actsL_far {D:Nat→Option Tmp} {l:Array Bool} {val:Nat→Value} {s:Tmp}:∀ (is:List Nat) (a:Act),(∀ i ∈ is,D i≠some s)→(actsL D l val is a).eval (.tmp s)=a.eval (.tmp s)
 | [],_,_=>rfl
 | i::is,a,h=>by
  unfold actsL
  rw[actsL_far is _ fun j hj=>h j (List.mem_cons_of_mem _ hj)]
  split
  ·exact put_eval_other (h i (List.mem_cons_self ..))
  ·rfl
theorem actsL_eval {D:Nat→Option Tmp} {l:Array Bool} {val:Nat→Value} {i:Nat} {s:Tmp} (hl:l.getD i false=true) (hD:D i=some s):∀ (is:List Nat) (a:Act),i ∈ is→is.Nodup→(∀ j ∈ is,j≠i→D j≠some s)→s < a.tmps.size→(actsL D l val is a).eval (.tmp s)=val i
 | [],_,h,_,_,_=>by cases h
 | j::is,a,h,hn,hd,hs=>by
  by_cases hj:j=i
  ·subst hj
   have hni:j ∉ is:=(List.nodup_cons.1 hn).1
   unfold actsL
   rw[if_pos hl,hD,actsL_far is _ fun k hk=>hd k (List.mem_cons_of_mem _ hk) (fun e=>hni (e ▸ hk))]
   exact put_eval_same hs
  ·have hi:i ∈ is:=(List.mem_cons.1 h).resolve_left fun e=>hj e.symm
   unfold actsL
   refine actsL_eval hl hD is _ hi (List.nodup_cons.1 hn).2 (fun k hk=>hd k (List.mem_cons_of_mem _ hk)) ?_
   split
   ·rw[putA_size];exact hs
   ·exact hs
def cntF (l:Array Bool):Nat:=l.toList.count false
theorem cntF_set {l:Array Bool} {i:Nat} (hi:i < l.size) (hf:l.getD i true=false):cntF (l.setIfInBounds i true)+1=cntF l:=by
 unfold cntF
 have e:l.toList[i]?=some false:=by
  have h2:l[i]?=some l[i]:=Array.getElem?_eq_getElem hi
  have:l[i]=false:=by simpa[Array.getD_eq_getD_getElem?,h2] using hf
  rw[Array.getElem?_toList,h2,this]
 rw[Array.toList_setIfInBounds]
 have hi':i < l.toList.length:=by simpa using hi
 have e':l.toList[i]=false:=(List.getElem?_eq_some_iff.1 e).2
 have hpos:0 < l.toList.count false:=List.count_pos_iff.2 (e' ▸ List.getElem_mem hi')
 rw[List.count_set hi',e']
 have h1:(if (false == false)=true then 1 else 0:Nat)=1:=rfl
 have h2:(if (true == false)=true then 1 else 0:Nat)=0:=rfl
 rw[h1,h2]
 omega
theorem cntF_zero {l:Array Bool} (h:cntF l=0) (i:Nat):l.getD i true=true:=by
 unfold cntF at h
 rw[List.count_eq_zero] at h
 rw[Array.getD_eq_getD_getElem?]
 cases hi:l[i]? with
 | none=>rfl
 | some b=>
  cases b
  ·exact absurd (List.mem_of_getElem? ((Array.getElem?_toList ..).trans hi)) h
  ·rfl
section
variable {P:Program} {ops:Array Oper} {Q:Exit→Act→World→Prop} {md:Region.Mode}
theorem ready_mem {l:Array Bool} {i:Nat} (h:i ∈ Region.ready md ops l):∃ o,ops[i]?=some o∧l.getD i true=false∧∀ e ∈ o.after,Region.binds md e=true→l.getD e.on false=true:=by
 unfold Region.ready at h
 rw[List.mem_filter,List.mem_range,Bool.and_eq_true] at h
 obtain⟨h1,h2,h3⟩:=h
 have ho:ops[i]?=some ops[i]:=Array.getElem?_eq_getElem h1
 refine⟨ops[i],ho,by simpa using h2,fun e he hb=>?_⟩
 rw[ho] at h3
 simp only[Option.map_some,Option.getD_some] at h3
 rw[Array.all_eq_true_iff_forall_mem] at h3
 have:=h3 e he
 rw[hb] at this
 simpa using this
theorem ready_of {l:Array Bool} {i:Nat} {o:Oper} (ho:ops[i]?=some o) (hl:l.getD i true=false) (h:∀ e ∈ o.after,Region.binds md e=true→l.getD e.on false=true):i ∈ Region.ready md ops l:=by
 unfold Region.ready
 rw[List.mem_filter,List.mem_range,Bool.and_eq_true]
 refine⟨(Array.getElem?_eq_some_iff.1 ho).1,by rw[hl];rfl,?_⟩
 rw[ho]
 simp only[Option.map_some,Option.getD_some]
 rw[Array.all_eq_true_iff_forall_mem]
 intro e he
 cases hb:Region.binds md e
 ·rfl
 ·rw[h e he hb];rfl
theorem wpAny_inv (J:Array Bool→Act→World→Prop) (hac:∀ (i:Nat) (o:Oper),ops[i]?=some o→∀ e ∈ o.after,Region.binds md e=true→e.on < i)
  (h1:∀ l a w i o,J l a w→l.size=ops.size→ops[i]?=some o→l.getD i true=false→(∀ e ∈ o.after,Region.binds md e=true→l.getD e.on false=true)→wpOp P ops Q i (J (l.setIfInBounds i true)) a w)
  (h2:∀ l a w,J l a w→(∀ i,i < ops.size→l.getD i false=true)→Q .normal a w):∀ (fuel:Nat) (l:Array Bool) (a:Act) (w:World),J l a w→l.size=ops.size→cntF l≤fuel→wpAny P md ops Q fuel l a w:=by
 have key:∀ (l:Array Bool),l.size=ops.size→Region.ready md ops l=[]→∀ i,i < ops.size→l.getD i false=true:=by
  intro l hs hr i
  induction i using Nat.strongRecOn with
  | _ i ih=>
   intro hi
   have hi':i < l.size:=by omega
   have hx:l[i]?=some l[i]:=Array.getElem?_eq_getElem hi'
   cases hb:l[i] with
   | true=>simp[Array.getD_eq_getD_getElem?,hx,hb]
   | false=>
    have hm:=ready_of (md:=md) (l:=l) (ops:=ops) (Array.getElem?_eq_getElem hi) (by simp[Array.getD_eq_getD_getElem?,hx,hb]) (fun e he hbn=>ih e.on (hac i _ (Array.getElem?_eq_getElem hi) e he hbn) (Nat.lt_trans (hac i _ (Array.getElem?_eq_getElem hi) e he hbn) hi))
    rw[hr] at hm
    cases hm
 intro fuel
 induction fuel with
 | zero=>
  intro l a w hJ hs hc
  have hr:Region.ready md ops l=[]:=by
   cases hh:Region.ready md ops l with
   | nil=>rfl
   | cons x xs=>
    obtain⟨o,_,hf,_⟩:=ready_mem (md:=md) (ops:=ops) (l:=l) (i:=x) (by rw[hh];exact List.mem_cons_self ..)
    rw[cntF_zero (by omega) x] at hf
    cases hf
  exact⟨hr,h2 l a w hJ (key l hs hr)⟩
 | succ fuel ih=>
  intro l a w hJ hs hc
  refine⟨fun hr=>h2 l a w hJ (key l hs hr),fun i hi=>?_⟩
  obtain⟨o,ho,hf,hd⟩:=ready_mem hi
  have hlt:i < l.size:=by rw[hs];exact (Array.getElem?_eq_some_iff.1 ho).1
  refine wpOp_mono (fun a' w' hJ'=>ih _ a' w' hJ' (by simp[hs]) ?_) (h1 l a w i o hJ hs ho hf hd)
  have:=cntF_set hlt hf
  omega
theorem wpAny_flow (D:Nat→Option Tmp) (hD:∀ (i:Nat) (o:Oper),ops[i]?=some o→o.dst=D i) (hne:∀ i j,i < ops.size→j < ops.size→j≠i→D j≠D i∨D i=none)
  (hac:∀ (i:Nat) (o:Oper),ops[i]?=some o→∀ e ∈ o.after,Region.binds md e=true→e.on < i) (hg:∀ (i:Nat) (o:Oper),ops[i]?=some o→o.guard=none) (a0:Act) (F:Array Bool→(Nat→Value)→World→Prop)
  (step:∀ l val w i o,F l val w→l.size=ops.size→ops[i]?=some o→l.getD i false=false→(∀ e ∈ o.after,Region.binds md e=true→l.getD e.on false=true) →
   ∀ (A:Act) (K:Act→World→Prop),A=actsL D l val (List.range ops.size) a0→(∀ v w',F (l.setIfInBounds i true) (updV val i v) w'→K (A.put o.dst v) w')→o.wp P A w K Q)
  (fin:∀ l val w,F l val w→(∀ i,i < ops.size→l.getD i false=true)→Q .normal (actsL D l val (List.range ops.size) a0) w)
  (w:World) (val:Nat→Value) (start:F (Array.replicate ops.size false) val w):wpAny P md ops Q ops.size (Array.replicate ops.size false) a0 w:=by
 refine wpAny_inv (fun l a w=>∃ val,a=actsL D l val (List.range ops.size) a0∧F l val w) hac ?_ ?_ _ _ _ _ ⟨val,?_,start⟩ (by simp) ?_
 ·rintro l a w i o ⟨val,rfl,hF⟩ hs ho hf hd
  have hi:i < ops.size:=(Array.getElem?_eq_some_iff.1 ho).1
  have hf':l.getD i false=false:=by
   have hx:l[i]?=some l[i]:=Array.getElem?_eq_getElem (by omega)
   simp only[Array.getD_eq_getD_getElem?,hx,Option.getD_some] at hf ⊢
   exact hf
  refine wpOp_step ho fun K' hK'=>?_
  rw[if_pos (by simp[Region.wanted,hg i o ho])]
  refine step l val w i o hF hs ho hf' hd _ K' rfl fun v w' hF'=>hK' _ _ ⟨updV val i v,?_,hF'⟩
  rw[hD i o ho]
  exact actsL_set hf' (by omega) _ _ List.nodup_range (List.mem_range.2 hi) fun j hj hji=>hne i j hi (List.mem_range.1 hj) hji
 ·rintro l a w ⟨val,rfl,hF⟩ hall
  exact fin l val w hF hall
 ·have:∀ is:List Nat,∀ a,actsL D (Array.replicate ops.size false) val is a=a:=by
   intro is
   induction is with
   | nil=>intro a;rfl
   | cons i is ih=>
    intro a
    unfold actsL
    rw[if_neg (by simp[Array.getD_eq_getD_getElem?,Array.getElem?_replicate];split <;> simp),ih]
  rw[this]
 ·unfold cntF
  exact Nat.le_trans List.count_le_length (by simp)
end
end Go.Proofs.YtfmldnbcjbflbaaGreatDoor
namespace Go.Proofs.YtfmldnbcjbflbaaGreatDoor
open Lib(hid)
open Go.RowKit
def AllG (S:Nat→Oper→Prop):Nat→List Oper→Prop
 | _,[]=>True
 | k,o::os=>S k o∧AllG S (k+1) os
theorem AllG.at {S:Nat→Oper→Prop}:∀ {os:List Oper} {k i:Nat} {o:Oper},AllG S k os→os[i]?=some o→S (k+i) o
 | [],_,_,_,_,h=>by simp at h
 | x::os,k,0,o,h,hi=>by
  have:x=o:=by simpa using hi
  subst this
  exact h.1
 | x::os,k,i+1,o,h,hi=>by
  have:=AllG.at (i:=i) h.2 (by simpa using hi)
  rwa [Nat.add_assoc,Nat.add_comm 1 i] at this
def depG (o:Oper) (j:Nat):Bool:=o.after.any fun e=>e.on == j && Region.binds .any e
theorem depG_of {o:Oper} {j:Nat} (h:depG o j=true) {l:Array Bool} (hd:∀ e ∈ o.after,Region.binds .any e=true→l.getD e.on false=true):l.getD j false=true:=by
 unfold depG at h
 rw[← Array.any_toList,List.any_eq_true] at h
 obtain⟨e,he,h2⟩:=h
 have he:=Array.mem_toList_iff.1 he
 rw[Bool.and_eq_true] at h2
 have e1:e.on=j:=by simpa using h2.1
 rw[← e1]
 exact hd e he h2.2
def slotG (slots:List (Option Tmp)) (i:Nat):Option Tmp:=(slots[i]?).join
def putsA:List (Option Tmp)→(Nat→Value)→Nat→Act→Act
 | [],_,_,a=>a
 | d::ds,val,k,a=>putsA ds val (k+1) (a.put d (val k))
def factG (Rs:List (Value→World→Prop)) (j:Nat) (v:Value) (w:World):Prop:=∀ p,Rs[j]?=some p→p v w
def GStep (P:Program) (Q:Exit→Act→World→Prop) (slots:List (Option Tmp)) (Rs:List (Value→World→Prop)) (a0:Act) (w0:World) (i:Nat) (o:Oper):Prop:=
 ∀ (A:Act) (w:World) (K:Act→World→Prop),Below w0.heap.size w0 w→(∀ s,(some s) ∉ slots→A.tmps[s]?.getD undef=a0.tmps[s]?.getD undef) →
  (∀ j s,slots[j]?=some (some s)→depG o j=true→factG Rs j (A.tmps[s]?.getD undef) w)→(∀ v w',Below w.heap.size w w'→factG Rs i v w'→K (A.put o.dst v) w')→o.wp P A w K Q
def slotsOk (slots:List (Option Tmp)):Bool:=(List.range slots.length).all fun i=>(List.range slots.length).all fun j=>(j == i) || decide (slotG slots j≠slotG slots i) || (slotG slots i).isNone
theorem puts_all {D:Nat→Option Tmp} {l:Array Bool} {val:Nat→Value}:∀ (slots:List (Option Tmp)) (k:Nat) (a:Act),(∀ i,i < slots.length→slots[i]?=some (D (k+i)))→(∀ i,i < slots.length→l.getD (k+i) false=true) →
  actsL D l val ((List.range slots.length).map (k+·)) a=putsA slots val k a
 | [],_,_,_,_=>rfl
 | d::ds,k,a,h1,h2=>by
  rw[List.length_cons,List.range_succ_eq_map,List.map_cons,List.map_map]
  have e0:D (k+0)=d:=by have:=h1 0 (by simp);simpa using this.symm
  have l0:=h2 0 (by simp)
  show actsL D l val (((List.range ds.length).map ((k+·) ∘ Nat.succ))) (if l.getD (k+0) false=true then a.put (D (k+0)) (val (k+0)) else a)=_
  rw[if_pos l0,e0,Nat.add_zero]
  have e:(List.range ds.length).map ((k+·) ∘ Nat.succ)=(List.range ds.length).map ((k+1)+·):=by
   refine List.map_congr_left fun x _=>?_
   show k+(x+1)=k+1+x
   omega
  rw[e]
  exact puts_all ds (k+1) _ (fun i hi=>by have:=h1 (i+1) (by simpa using hi);rw[Nat.add_assoc,Nat.add_comm 1 i];simpa using this) (fun i hi=>by have:=h2 (i+1) (by simpa using hi);rw[Nat.add_assoc,Nat.add_comm 1 i];exact this)
theorem wpAny_grow {P:Program} {ops:Array Oper} {Q:Exit→Act→World→Prop} (slots:List (Option Tmp)) (a0:Act) (w0:World) (Rs:List (Value→World→Prop)) (hdst:ops.toList.map (·.dst)=slots) (hok:slotsOk slots=true)
  (hac:(ops.toList.zipIdx.all fun q=>q.1.after.all fun e=>!Region.binds .any e || decide (e.on < q.2))=true) (hg:(ops.toList.all fun o=>o.guard.isNone)=true)
  (hsz:(slots.all fun d=>match d with | none=>true | some s=>decide (s < a0.tmps.size))=true)
  (mono:∀ p ∈ Rs,∀ v w w',p v w→Below w.heap.size w w'→p v w') (hst:AllG (GStep P Q slots Rs a0 w0) 0 ops.toList)
  (fin:∀ (val:Nat→Value) (w:World),(∀ j s,slots[j]?=some (some s)→factG Rs j (val j) w)→Below w0.heap.size w0 w→Q .normal (putsA slots val 0 a0) w):wpAny P .any ops Q ops.size (Array.replicate ops.size false) a0 w0:=by
 have hat:∀ (i:Nat) (o:Oper),ops[i]?=some o→ops.toList[i]?=some o:=fun i o h=>(Array.getElem?_toList ..).trans h
 have hlen:slots.length=ops.size:=by rw[← hdst];simp
 have hD:∀ (i:Nat) (o:Oper),ops[i]?=some o→o.dst=slotG slots i:=by
  intro i o h
  unfold slotG
  rw[← hdst,List.getElem?_map,hat i o h]
  rfl
 have hS:∀ (i:Nat),i < ops.size→slots[i]?=some (slotG slots i):=by
  intro i hi
  unfold slotG
  rw[List.getElem?_eq_getElem (by omega)]
  rfl
 have hne:∀ i j,i < ops.size→j < ops.size→j≠i→slotG slots j≠slotG slots i∨slotG slots i=none:=by
  intro i j hi hj hji
  unfold slotsOk at hok
  have h1:=List.all_eq_true.1 hok i (List.mem_range.2 (by omega))
  have h2:=List.all_eq_true.1 h1 j (List.mem_range.2 (by omega))
  simp only[Bool.or_eq_true,decide_eq_true_eq,beq_iff_eq,Option.isNone_iff_eq_none] at h2
  rcases h2 with (h2 | h2) | h2
  ·exact absurd h2 hji
  ·exact .inl h2
  ·exact .inr h2
 have hlt:∀ (j:Nat) (s:Tmp),slots[j]?=some (some s)→s < a0.tmps.size:=fun j s h=>by
  have:=List.all_eq_true.1 hsz _ (List.mem_of_getElem? h)
  simpa using this
 refine wpAny_flow (slotG slots) hD hne ?_ ?_ a0 (fun l val w=>Below w0.heap.size w0 w∧∀ j s,slots[j]?=some (some s)→l.getD j false=true→factG Rs j (val j) w) ?_ ?_ w0 (fun _=>undef) ⟨Below.refl _ _,?_⟩
 ·intro i o h e he hbn
  have hm:(o,i) ∈ ops.toList.zipIdx:=List.mem_zipIdx_iff_getElem?.2 (hat i o h)
  have:=List.all_eq_true.1 hac _ hm
  have:=Array.all_eq_true_iff_forall_mem.1 this e he
  rw[hbn] at this
  simpa using this
 ·intro i o h
  have:=List.all_eq_true.1 hg o (List.mem_of_getElem? (hat i o h))
  simpa using this
 ·rintro l val w i o ⟨hb,hF⟩ hl ho hf hd A K hA hK
  have hs:=hst.at (hat i o ho)
  rw[Nat.zero_add] at hs
  have hi:i < ops.size:=(Array.getElem?_eq_some_iff.1 ho).1
  have ev:∀ (B:Act) (s:Tmp),B.tmps[s]?.getD undef=B.eval (.tmp s):=fun B s=>by rw[← Array.getD_eq_getD_getElem?];rfl
  refine hs A w K hb ?_ ?_ ?_
  ·intro s hs
   rw[ev,ev,hA]
   refine actsL_far _ _ fun j hj e=>hs ?_
   rw[← e]
   exact List.mem_of_getElem? (hS j (List.mem_range.1 hj))
  ·intro j s hj hdep
   have hjl:=depG_of hdep hd
   have hjs:j < ops.size:=by rw[← hlen];exact (List.getElem?_eq_some_iff.1 hj).1
   have hsl:slotG slots j=some s:=by unfold slotG;rw[hj];rfl
   rw[ev,hA,actsL_eval hjl hsl _ _ (List.mem_range.2 hjs) List.nodup_range (fun k hk hkj e=>?_) (hlt j s hj)]
   ·exact hF j s hj hjl
   ·rcases hne j k hjs (List.mem_range.1 hk) hkj with h | h
    ·exact h (e.trans hsl.symm)
    ·rw[hsl] at h;cases h
  ·intro v w' hb' hR
   refine hK v w' ⟨hb.trans (hb'.mono hb.size),fun j s hj hjl=>?_⟩
   by_cases e:j=i
   ·subst e;rw[updV_same];exact hR
   ·rw[getD_set e] at hjl
    rw[updV_other _ _ e]
    exact fun p hp=>mono p (List.mem_of_getElem? hp) _ _ _ (hF j s hj hjl p hp) hb'
 ·rintro l val w ⟨hb,hF⟩ hall
  have h1:∀ i,i < slots.length→slots[i]?=some (slotG slots (0+i)):=fun i hi=>by rw[Nat.zero_add];exact hS i (by omega)
  have h2:∀ i,i < slots.length→l.getD (0+i) false=true:=fun i hi=>by rw[Nat.zero_add];exact hall i (by omega)
  have e:(List.range slots.length).map (0+·)=List.range ops.size:=by rw[hlen];simp
  have:=puts_all (D:=slotG slots) (l:=l) (val:=val) slots 0 a0 h1 h2
  rw[e] at this
  rw[this]
  exact fin val w (fun j s hj=>hF j s hj (hall j (by rw[← hlen];exact (List.getElem?_eq_some_iff.1 hj).1))) hb
 ·intro j s hj h
  exfalso
  have:(Array.replicate ops.size false).getD j false=false:=by
   simp[Array.getD_eq_getD_getElem?,Array.getElem?_replicate]
   split <;> simp
  rw[this] at h
  cases h
theorem factG_mk {Rs:List (Value→World→Prop)} {i:Nat} {p:Value→World→Prop} {v:Value} {w:World} (h:Rs[i]?=some p) (hp:p v w):factG Rs i v w:=fun q hq=>by
 rw[h] at hq
 cases hq
 exact hp
end Go.Proofs.YtfmldnbcjbflbaaGreatDoor
namespace Go.Proofs.YtfmldnbcjbflbaaGreatDoor
open Lib(hid)
open Go.RowKit
def SameTermAt (t:Tm):Prop:=∀ (u:Tm) (w:World) (cs ds:List Value),TmC w w.heap.size t cs→TmC w w.heap.size u ds →
  Calls Tryz.prog 142 #[.agg cs.toArray,.agg ds.toArray] w fun e w'=>e=.returned (.bool (sameT t u))∧Below w.heap.size w w'
set_option maxRecDepth 100000 in
set_option maxHeartbeats 4000000 in
theorem equalTerms_c (l m:List Tm) (ih:∀ t ∈ l,SameTermAt t) (v1 v2:Value) (w:World) (h1:TmS w w.heap.size l v1) (h2:TmS w w.heap.size m v2) :
  Calls Tryz.prog 152 #[v1,v2,.func (.func 142) #[] #[]] w fun e w'=>e=.returned (.bool (allS sameT l m))∧Below w.heap.size w w':=by
 obtain⟨o1,cap1,rfl,hc1,hm1,S1⟩:=SlOf.open h1
 obtain⟨o2,cap2,rfl,hc2,hm2,S2⟩:=SlOf.open h2
 have IH:=hid ih
 clear h1 h2 ih
 by_cases hlen:l.length=m.length
 ·have q:((l.length:Int) != (m.length:Int))=false:=by rw[hlen];simp
  have Hlen:=hid hlen
  clear hlen
  go_enter Tryz.func152,Tryz.ntmps152
  go_wp2
  go_loopw [17] (fun i wr=>∃ k:Nat,k≤l.length∧i=.int .i64 k∧allS sameT l m=allS sameT (l.drop k) (m.drop k)∧Below w.heap.size w wr) (fun i _=>l.length - (intOf i).toNat)
  case atStart=>exact⟨0,Nat.zero_le _,rfl,rfl,Below.refl _ _⟩
  case round=>
   obtain⟨k,hk,rfl,hr,hB⟩:=hrel
   have Hr:=hid hr
   clear hr
   have hBs:=hB.size
   by_cases hlt:k < l.length
   ·have hlt':(k:Int) < (l.length:Int):=by omega
    have hlt2:k < m.length:=by have:=Hlen.out;omega
    obtain⟨t,ht⟩:∃ t,l[k]?=some t:=⟨l[k],List.getElem?_eq_getElem hlt⟩
    obtain⟨u,hu⟩:∃ u,m[k]?=some u:=⟨m[k],List.getElem?_eq_getElem hlt2⟩
    obtain⟨a,p1,q1,rfl,ha,Hc,c0,c1,c2,c3⟩:=tm_at S1 hB ht
    obtain⟨b,p2,q2,rfl,hb,Hd,d0,d1,d2,d3⟩:=tm_at S2 hB hu
    have hal:(a.add (k * 4)).block < wr.heap.size:=by rw[addBlock];omega
    have hbl:(b.add (k * 4)).block < wr.heap.size:=by rw[addBlock];omega
    have Hs:=hid (allS_drop (f:=sameT) ht hu)
    have Ht:=hid (List.mem_of_getElem? ht)
    clear ht hu
    have HI:=hid (fun (W:World) (hb:Below wr.heap.size wr W)=>IH.out t Ht.out u W _ _ ((Hc.out.under hb).more hb.size) ((Hd.out.under hb).more hb.size))
    go_wp2_with fail
    refine (HI.out _ (((Below.refl _ _).alloc (Nat.le_refl _) _).alloc (by simp) _)).mono ?_
    rintro e w1 ⟨rfl,b1⟩
    have hB1:=hB.trans ((((Below.refl _ wr).alloc (Nat.le_refl _) _).alloc (by simp) _).mono hBs |>.trans (b1.mono (by simp;omega)))
    cases hs:sameT t u
    ·have Hz:=hid (Hr.out.trans (Hs.out.trans (by rw[hs,Bool.false_and])))
     clear hs
     go_wp2
     go_ret
     exact⟨by rw[Hz.out];rfl,hB1⟩
    ·have Hz:=hid (Hr.out.trans (Hs.out.trans (by rw[hs,Bool.true_and])))
     clear hs
     go_wp2
     go_roundw
     case rel=>exact⟨k+1,hlt,by go_num,Hz.out,hB1⟩
     case measure=>simp[intOf];omega
   ·have hlt':¬ (k:Int) < (l.length:Int):=by omega
    have Hz:=hid (allS_end (f:=sameT) (l:=l) (m:=m) (k:=k) (by omega) (by have:=Hlen.out;omega))
    go_wp2
    go_ret
    exact⟨by rw[Hr.out,Hz.out];rfl,hB⟩
 ·have q:((l.length:Int) != (m.length:Int))=true:=by rw[bne_iff_ne];omega
  have Hz:=hid (allS_len (f:=sameT) hlen)
  clear hlen
  go_enter Tryz.func152,Tryz.ntmps152
  go_wp2
  go_ret
  exact⟨by rw[Hz.out];rfl,Below.refl _ _⟩
set_option maxRecDepth 100000 in
set_option maxHeartbeats 4000000 in
theorem sameTerm_c (t:Tm):SameTermAt t:=by
 induction t using Tm.rec (motive_2:=fun l=>∀ t ∈ l,SameTermAt t) with
 | nil x hx=>simp at hx
 | cons t ts ih ihs x hx=>
  rcases List.mem_cons.1 hx with rfl | hx
  ·exact ih
  ·exact ihs x hx
 | mk op s n l ih=>
  intro u w cs ds hc hd
  obtain⟨p1,q1,rfl,_,_,_,t1⟩:=hc.look
  obtain⟨p2,q2,rfl,_,_,_,t2⟩:=hd.look
  have Hs:=hid (sameT_eq (.mk op s n l) u)
  have H:=hid (fun (W:World) (hb:Below w.heap.size w W)=>equalTerms_c l u.l ih _ _ W ((TmS.below t1 hb).more hb.size) ((TmS.below t2 hb).more hb.size))
  simp only[Tm.op_mk,Tm.s_mk,Tm.n_mk,Tm.l_mk] at Hs H ⊢
  clear hc hd t1 t2 ih
  obtain⟨b1,hb1⟩:∃ b,(op == u.op)=b:=⟨_,rfl⟩
  obtain⟨b2,hb2⟩:∃ b,(s.toList == u.s.toList)=b:=⟨_,rfl⟩
  obtain⟨b3,hb3⟩:∃ b,(n == u.n)=b:=⟨_,rfl⟩
  have Hf:Hid ((b1 && b2 && b3)=false→sameT (.mk op s n l) u=false):=hid (by
   intro h
   rw[Hs.out,hb1,hb2,hb3,h,Bool.false_and])
  cases b1
  ·have Hz:=hid (Hf.out rfl)
   go_enter Tryz.func142,Tryz.ntmps142
   go_wp2
   go_ret
   exact⟨by rw[Hz.out];rfl,((Below.refl _ _).alloc (Nat.le_refl _) _).alloc (by simp) _⟩
  cases b2
  ·have Hz:=hid (Hf.out rfl)
   go_enter Tryz.func142,Tryz.ntmps142
   go_wp2
   go_ret
   exact⟨by rw[Hz.out];rfl,((Below.refl _ _).alloc (Nat.le_refl _) _).alloc (by simp) _⟩
  cases b3
  ·have Hz:=hid (Hf.out rfl)
   go_enter Tryz.func142,Tryz.ntmps142
   go_wp2
   go_ret
   exact⟨by rw[Hz.out];rfl,((Below.refl _ _).alloc (Nat.le_refl _) _).alloc (by simp) _⟩
  have Hz:Hid (sameT (.mk op s n l) u=allS sameT l u.l):=hid (by rw[Hs.out,hb1,hb2,hb3];rfl)
  go_enter Tryz.func142,Tryz.ntmps142
  go_wp2_with fail
  refine (H.out _ (((Below.refl _ _).alloc (Nat.le_refl _) _).alloc (by simp) _)).mono ?_
  rintro e w1 ⟨rfl,b1⟩
  go_wp2
  go_ret
  exact⟨by rw[Hz.out];rfl,(((Below.refl _ _).alloc (Nat.le_refl _) _).alloc (by simp) _).trans (b1.mono (by simp;omega))⟩
end Go.Proofs.YtfmldnbcjbflbaaGreatDoor
namespace Go.Proofs.YtfmldnbcjbflbaaGreatDoor
open Lib(hid)
open Go.RowKit
def memI (l:List Int) (s:Int):Bool:=l.any fun x=>s == x
theorem memI_no {l:List Int} {s:Int} (h:∀ x ∈ l,(s == x)=false):memI l s=false:=by
 unfold memI
 rw[List.any_eq_false]
 exact fun x hx=>by rw[h x hx];decide
theorem memI_yes {l:List Int} {s x:Int} (hx:x ∈ l) (h:(s == x)=true):memI l s=true:=by
 unfold memI
 rw[List.any_eq_true]
 exact⟨x,hx,h⟩
set_option maxRecDepth 100000 in
set_option maxHeartbeats 4000000 in
theorem indexI_c (l:List Int) (s:Int) (v:Value) (w:World) (hv:SlOf w w.heap.size 1 IntC l v) :
  Calls Tryz.prog 112 #[v,.int .i64 s] w fun e w'=>(∃ k:Int,e=.returned (.int .i64 k)∧(0≤k ↔ memI l s=true))∧w'=w:=by
 obtain⟨o1,k1,rfl,_,hk1,S1⟩:=SlOf.open hv
 have hB0:Below w.heap.size w w:=Below.refl _ _
 clear hv
 go_enter Tryz.func112,Tryz.ntmps112
 go_wp2
 go_loopw [8] (fun i wr=>∃ k:Nat,k≤l.length∧i=.int .i64 k∧(∀ x ∈ l.take k,(s == x)=false)∧wr=w) (fun i _=>l.length - (intOf i).toNat)
 case atStart=>exact⟨0,Nat.zero_le _,rfl,fun x h=>by simp at h,rfl⟩
 case round=>
  obtain⟨k,hk,rfl,ha,rfl⟩:=hrel
  have Ha:=hid ha
  clear ha
  by_cases hlt:k < l.length
  ·have hlt':(k:Int) < (l.length:Int):=by omega
   have hk0:(0:Int)≤(k:Int):=by omega
   obtain⟨x,hx⟩:∃ x,l[k]?=some x:=⟨l[k],List.getElem?_eq_getElem hlt⟩
   obtain⟨p,rfl,hp,hsz,c0⟩:=int_at S1 hB0 hx
   cases hxy:(s == x) with
   | true=>
    have Hq:Hid (memI l s=true):=hid (memI_yes (List.mem_of_getElem? hx) hxy)
    clear hx
    go_wp2
    go_ret
    exact⟨⟨_,rfl,⟨fun _=>Hq.out,fun _=>hk0⟩⟩,rfl⟩
   | false=>
    have Hz:Hid (∀ y ∈ l.take (k+1),(s == y)=false):=hid fun y hy=>by
     rw[List.take_add_one,hx] at hy
     rcases List.mem_append.1 hy with hy | hy
     ·exact Ha.out y hy
     ·obtain rfl:y=x:=by simpa using hy
      exact hxy
    clear hx
    go_wp2
    go_roundw
    case rel=>exact⟨k+1,hlt,by go_num,Hz.out,by trivial⟩
    case measure=>simp[intOf];omega
  ·have hlt':¬ (k:Int) < (l.length:Int):=by omega
   have Hq:Hid (memI l s=false):=hid (by have h:=Ha.out;rw[List.take_of_length_le (by omega)] at h;exact memI_no h)
   go_wp2
   go_ret
   exact⟨⟨_,rfl,⟨fun h=>absurd h (by decide),fun h=>by rw[Hq.out] at h;cases h⟩⟩,rfl⟩
set_option maxRecDepth 100000 in
set_option maxHeartbeats 4000000 in
theorem containsI_c (l:List Int) (s:Int) (v:Value) (w:World) (hv:SlOf w w.heap.size 1 IntC l v) :
  Calls Tryz.prog 71 #[v,.int .i64 s] w fun e w'=>e=.returned (.bool (memI l s))∧w'=w:=by
 have HI:=hid (indexI_c l s v w hv)
 go_enter Tryz.func71,Tryz.ntmps71
 go_wp2_with fail
 refine HI.out.mono ?_
 rintro e w1 ⟨⟨k,rfl,hk⟩,rfl⟩
 by_cases h0:(0:Int)≤k
 ·have Hq:=hid (hk.1 h0)
  have h0':decide ((0:Int)≤k)=true:=by simp[h0]
  clear hk
  go_wp2
  go_ret
  exact⟨by rw[Hq.out];rfl,rfl⟩
 ·have Hq:Hid (memI l s=false):=hid (Bool.eq_false_iff.2 fun h=>h0 (hk.2 h))
  have h0':decide ((0:Int)≤k)=false:=by simp[h0]
  clear hk
  go_wp2
  go_ret
  exact⟨by rw[Hq.out];rfl,rfl⟩
end Go.Proofs.YtfmldnbcjbflbaaGreatDoor
