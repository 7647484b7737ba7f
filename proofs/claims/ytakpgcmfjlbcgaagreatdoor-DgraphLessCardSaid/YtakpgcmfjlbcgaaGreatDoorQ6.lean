/- Spr@0123, Is@0123, Yap@0123, Yap2@0123, Zap@0123, Gfw@0123 -/
import Derived.Deep.AppendLies
import Derived.LaidEql
import Derived.Laws.OwnMore
import Derived.RangeFuncBox
import Derived.RangeFuncNested
import Derived.RowKitTokens
import Derived.Test.YtakpgcmfjlbcgaaGreatDoorQ5
set_option linter.unusedSimpArgs false
set_option linter.unusedVariables false
namespace Go.Proofs.YtakpgcmfjlbcgaaGreatDoor
open Go.RowKit
def Spread (w:World) (z:Nat) (v:Value) (m:Nat) (news:List Value):Prop:=
 (v=.slice none 0 0∧m=0∧news=[])∨∃ (ad:Addr) (c:Nat),v=.slice (some ad) m c∧news.length=m * z∧(∀ j u,news[j]?=some u→w.cell? (ad.add j)=some u)∧∀ u ∈ news,u.oneCell'=true
theorem Spread.len {w:World} {z:Nat} {v:Value} {m:Nat} {news:List Value} (h:Spread w z v m news):news.length=m * z:=by
 rcases h with ⟨_,rfl,rfl⟩ | ⟨_,_,_,h,_⟩
 ·simp
 ·exact h
theorem Spread.cells {w w':World} {z:Nat} {v:Value} {m:Nat} {news:List Value} (h:Spread w z v m news) (hk:∀ p c,w.cell? p=some c→w'.cell? p=some c):Spread w' z v m news:=by
 rcases h with h | ⟨ad,c,h1,h2,h3,h4⟩
 ·exact .inl h
 ·exact .inr ⟨ad,c,h1,h2,fun j u hu=>hk _ _ (h3 j u hu),h4⟩
theorem Spread.own {w:World} {base:Nat} {e:TypeId} {z:Nat} {v:Value} {n:Nat} {xs:List Value} (h:w.ownsRow base e z v n xs) (h1:∀ u ∈ xs,u.oneCell'=true):Spread w z v n xs:=by
 rcases h.2 with ⟨rfl,rfl⟩ | ⟨g,cap,cur,hv,hb,hg,_⟩
 ·exact .inl ⟨rfl,rfl,List.eq_nil_of_length_eq_zero (by rw[h.1];simp)⟩
 ·refine .inr ⟨⟨g,0,none⟩,cap,hv,h.1,fun j u hu=>?_,h1⟩
  exact h.cells (g:=g) (by rw[hv];rfl) j u hu
theorem own_below {w w':World} {base:Nat} {e:TypeId} {z:Nat} {v:Value} {n:Nat} {xs:List Value} (h:w.ownsRow base e z v n xs) (hb:Below w.heap.size w w'):w'.ownsRow base e z v n xs:=
 h.kept (row:=none) ⟨hb.os,hb.tape,hb.output,hb.size,fun i hi _=>hb.block i hi⟩ (by cases hv:v.ownBlock with | none=>exact .inl rfl | some g=>exact .inr (by simp))
section
variable {P:Program} (w:World)
theorem run_append_any (base:Nat) (t ty e:TypeId) (i:TypeInfo) (z:Value) (size bytes:Nat) (ht:P.underlying t=some (.slice e)) (hi:P.info? e=some i) (hz:i.zero=some z)
  (hsize:i.size=size) (hby:i.bytes=bytes) (hzs:z.cells.size=size) (hsz:0 < size)
  (v:Value) (n:Nat) (xs:List Value) (hown:w.ownsRow base e size v n xs) (u:Value) (m:Nat) (news:List Value) (hu:Spread w size u m news)
  (h63:n+m≤maxLen) (hbytes:(n+m) * bytes≤140737488355328) (hbase:base≤w.heap.size) :
  ∃ v' w',(Builtin.append_ #[t,t] ty #[v,u]).run P w=.ok v' w'∧w'.ownsRow base e size v' (n+m) (xs++news)∧w.grownBy w' v.ownBlock∧(v'.ownBlock=v.ownBlock∨v'.ownBlock=some w.heap.size):=by
 rcases hu with ⟨rfl,rfl,rfl⟩ | ⟨ad,c,rfl,h2,h3,h4⟩
 ·refine⟨v,w,run_append_owned_none (P:=P) w base t ty e i size ht hi v n xs hown,by simpa using hown,⟨rfl,rfl,rfl,Nat.le_refl _,fun _ _ _=>rfl⟩,.inl rfl⟩
 ·obtain⟨v',w',hr,k1,k2,_,k3⟩:=run_append_own_at (P:=P) w base t ty e i z size bytes ht hi hz hsize hby hzs hsz v n xs hown ad m c news h2 h3 h4 h63 hbytes hbase
  exact⟨v',w',hr,k1,k2,k3⟩
theorem wp_append_any {o:Oper} {a:Act} {K:Act→World→Prop} {Q:Exit→Act→World→Prop} (s x:Operand) (t:TypeId)
  (ho:o.op=.call { callee:=.builtin .append,args:=#[s,x],argTypes:=#[t,t] })
  (base:Nat) (e:TypeId) (i:TypeInfo) (z:Value) (size bytes:Nat) (ht:P.underlying t=some (.slice e)) (hi:P.info? e=some i) (hz:i.zero=some z)
  (hsize:i.size=size) (hby:i.bytes=bytes) (hzs:z.cells.size=size) (hsz:0 < size)
  (v:Value) (n:Nat) (xs:List Value) (hs:a.eval s=v) (hown:w.ownsRow base e size v n xs) (u:Value) (m:Nat) (news:List Value) (hx:a.eval x=u) (hu:Spread w size u m news)
  (h63:n+m≤maxLen) (hbytes:(n+m) * bytes≤140737488355328) (hbase:base≤w.heap.size)
  (h:∀ v' w',w'.ownsRow base e size v' (n+m) (xs++news)→w.grownBy w' v.ownBlock→(v'.ownBlock=v.ownBlock∨v'.ownBlock=some w.heap.size)→K (a.put o.dst v') w'):o.wp P a w K Q:=by
 obtain⟨v',w',hr,h2,h3,h4⟩:=run_append_any (P:=P) w base t o.type e i z size bytes ht hi hz hsize hby hzs hsz v n xs hown u m news hu h63 hbytes hbase
 unfold Oper.wp execOp
 simp only[ho,resolve,invoke,builtin,Sem.run_bind,Sem.run_pure,Result.andThen_ok,List.map_toArray,List.map_cons,List.map_nil,hs,hx,hr]
 exact h v' w' h2 h3 h4
theorem wpList_append_any {ops:Array Oper} {rest:List Oper} {o:Oper} {a:Act} {Q:Exit→Act→World→Prop} (hgd:o.guard=none) (s x:Operand) (t:TypeId)
  (ho:o.op=.call { callee:=.builtin .append,args:=#[s,x],argTypes:=#[t,t] })
  (base:Nat) (e:TypeId) (i:TypeInfo) (z:Value) (size bytes:Nat) (ht:P.underlying t=some (.slice e)) (hi:P.info? e=some i) (hz:i.zero=some z)
  (hsize:i.size=size) (hby:i.bytes=bytes) (hzs:z.cells.size=size) (hsz:0 < size)
  (v:Value) (n:Nat) (xs:List Value) (hs:a.eval s=v) (hown:w.ownsRow base e size v n xs) (u:Value) (m:Nat) (news:List Value) (hx:a.eval x=u) (hu:Spread w size u m news)
  (h63:n+m≤maxLen) (hbytes:(n+m) * bytes≤140737488355328) (hbase:base≤w.heap.size)
  (h:∀ v' w',w'.ownsRow base e size v' (n+m) (xs++news)→w.grownBy w' v.ownBlock→(v'.ownBlock=v.ownBlock∨v'.ownBlock=some w.heap.size)→wpList P ops Q rest (a.put o.dst v') w'):wpList P ops Q (o::rest) a w:=
 wpList_plain hgd fun _ hK=>wp_append_any w s x t ho base e i z size bytes ht hi hz hsize hby hzs hsz v n xs hs hown u m news hx hu h63 hbytes hbase fun v' w' h2 h3 h4=>hK _ _ (h v' w' h2 h3 h4)
end
end Go.Proofs.YtakpgcmfjlbcgaaGreatDoor
namespace Go.Proofs.YtakpgcmfjlbcgaaGreatDoor
open Go.RowKit Go.Extern Go.Extern.Rtype
theorem isTypeOf (v:Value) (w:World):(Extern.ReflectliteType.typeOf #[.iface 250 v]).run Tryz.prog w=.ok (.iface 206 (.agg #[.pointer (some ⟨7,250,none⟩)])) w:=by kernel_rfl
theorem isComparable (w : World) : ((Extern.ReflectliteType.method fun t => do noPackHeld "Comparable" t; pure (.bool (← typeInfo t).comparable)) #[.agg #[.pointer (some ⟨7, 250, none⟩)]]).run Tryz.prog w = .ok (.bool true) w := by kernel_rfl
theorem isCalled (w:World):(callFunc 221 #[.agg #[.pointer (some ⟨7,250,none⟩)]]).run Tryz.prog w=.ok (Next.value (.bool true)) w:=by
 have h91 := @run_callFunc_extern Tryz.prog 221 _ (Extern.ReflectliteType.method fun t => do noPackHeld "Comparable" t; pure (.bool (← typeInfo t).comparable)) Tryz.func221 (by kernel_rfl) (by kernel_rfl) (by kernel_rfl) (by kernel_rfl)
 rw[h91,isComparable]
 rfl
theorem isMethodComparable (v : Value) (w : World) : (Go.method 387 206 v "Comparable").run Tryz.prog w = .ok (221, v) w := by kernel_rfl
theorem isComp:(Tryz.prog.info? 250).map (·.comparable)=some true:=by kernel_rfl
theorem isSize:(Tryz.prog.info? 275).map (·.size)=some 1:=by kernel_rfl
theorem is_nil (b:Addr) (w:World) :
  Calls Tryz.prog 75 #[.nilIface,.iface 250 (.pointer (some b))] w fun e w'=>e=.returned (.bool false)∧w=w':=by
 have hn:=run_eql_iface_nil_left (P:=Tryz.prog) w 250 (.pointer (some b)) Tryz.underlying95
 go_enter Tryz.func75,Tryz.ntmps75
 go_wp2
 go_ret
 exact⟨rfl,rfl⟩
set_option maxRecDepth 100000 in
theorem is_same (a:Addr) (w:World) :
  Calls Tryz.prog 75 #[.iface 250 (.pointer (some a)),.iface 250 (.pointer (some a))] w fun e w'=>e=.returned (.bool true)∧w=w':=by
 obtain⟨i,hi,hcmp⟩:=Option.map_eq_some_iff.1 isComp
 obtain⟨j,hj,hjs⟩:=Option.map_eq_some_iff.1 isSize
 have h39:=@run_callFunc_extern Tryz.prog 111 _ Extern.ReflectliteType.typeOf Tryz.func111 (by kernel_rfl) (by kernel_rfl) (by kernel_rfl) (by kernel_rfl)
 have tT:=isTypeOf
 have cT:=isCalled
 have mR:=isMethodComparable
 have heq:=run_eql_iface_ptr_same (P:=Tryz.prog) w a Tryz.underlying95 Tryz.underlying250 hi hcmp hj
 go_enter Tryz.func75,Tryz.ntmps75
 go_wp2
 refine wp_loop_rounds 1 ?_
 rw[rounds_succ]
 go_wp2
 go_ret
 exact⟨rfl,rfl⟩
end Go.Proofs.YtakpgcmfjlbcgaaGreatDoor
namespace Go.Proofs.YtakpgcmfjlbcgaaGreatDoor
open Go.RowKit
structure Cv where
 W0:World
 a0:Act
 L:Nat
 Bx:Nat
 nb:Nat
 lv:Value
 k:Nat
 xs:List Value
 s:ByteArray
structure CvOk (C:Cv):Prop where
 size:29≤C.a0.tmps.size
 e4:C.a0.eval (.tmp 4)=.pointer (some ⟨C.L,0,none⟩)
 e5:C.a0.eval (.tmp 5)=.pointer (some ⟨C.Bx,0,none⟩)
 hL:Boxed C.W0 C.L 55 C.lv
 hs:C.W0.cell? ⟨C.Bx,1,none⟩=some (.string C.s)
 own:C.W0.ownsRow C.nb 9 1 C.lv C.k C.xs
 nL:C.lv.ownBlock≠some C.L
 nB:C.lv.ownBlock≠some C.Bx
 LB:C.Bx≠C.L
 sz:C.s.size≤281474976710656
 nb:C.nb≤C.W0.heap.size
 kk:C.k≤1000000
structure Fv (C:Cv) (l:Array Bool) (val:Nat→Value) (w:World):Prop where
 os:w.os=C.W0.os
 tape:w.tape=C.W0.tape
 output:w.output=C.W0.output
 size:C.W0.heap.size≤w.heap.size
 block:∀ i,i < C.W0.heap.size→some i≠C.lv.ownBlock→i≠C.L→w.heap[i]?=C.W0.heap[i]?
 v0:l.getD 0 false=true→val 0=C.lv
 v1:l.getD 1 false=true→val 1=.pointer (some ⟨C.Bx,1,none⟩)
 v2:l.getD 2 false=true→val 2=.string C.s
 v3:l.getD 3 false=true→val 3=.string C.s
 v4:l.getD 4 false=true→l.getD 5 false=false→∃ kb,val 4=.slice (some ⟨kb,0,none⟩) 1 1∧C.W0.heap.size≤kb∧w.heap[kb]?=some (.cells #[.string C.s] 9 (0,0))
 k2:l.getD 2 false=true→l.getD 1 false=true
 k3:l.getD 3 false=true→l.getD 2 false=true
 k4:l.getD 4 false=true→l.getD 3 false=true
 k5:l.getD 5 false=true→l.getD 0 false=true∧l.getD 4 false=true
 k6:l.getD 6 false=true→l.getD 5 false=true
 own:l.getD 5 false=false→w.ownsRow C.nb 9 1 C.lv C.k C.xs
 own5:l.getD 5 false=true→w.ownsRow C.nb 9 1 (val 5) (C.k+1) (C.xs++[.string C.s])∧((val 5).ownBlock=C.lv.ownBlock∨∃ g,(val 5).ownBlock=some g∧C.W0.heap.size≤g)
 box:l.getD 6 false=false→Boxed w C.L 55 C.lv
 box6:l.getD 6 false=true→Boxed w C.L 55 (val 5)
theorem CvOk.lt {C:Cv} (ok:CvOk C):C.L < C.W0.heap.size:=ok.hL.lt
theorem fls8 {b:Bool} (h:¬ b=true):b=false:=by cases b <;> simp_all
theorem mono8 {l:Array Bool} {i j:Nat} (hi:i < l.size) (h:l.getD j false=true):(l.setIfInBounds i true).getD j false=true:=by
 by_cases e:j=i
 ·subst e;exact getD_same hi
 ·rw[getD_set e];exact h
theorem Fv.grow {C:Cv} {l:Array Bool} {val:Nat→Value} {w w':World} {i:Nat} {v:Value} (hF:Fv C l val w) (hl:l.size=7) (hi:i < 5) (h5:l.getD 5 false=false) (hb:Below w.heap.size w w') (ok:CvOk C)
  (hk:(i=2→l.getD 1 false=true)∧(i=3→l.getD 2 false=true)∧(i=4→l.getD 3 false=true)) (n0:i=0→v=C.lv) (n1:i=1→v=.pointer (some ⟨C.Bx,1,none⟩)) (n2:i=2→v=.string C.s) (n3:i=3→v=.string C.s) (n4:i=4→∃ kb,v=.slice (some ⟨kb,0,none⟩) 1 1∧C.W0.heap.size≤kb∧w'.heap[kb]?=some (.cells #[.string C.s] 9 (0,0))):Fv C (l.setIfInBounds i true) (updV val i v) w':=by
 have hi':i < l.size:=by omega
 have h6:l.getD 6 false=false:=fls8 fun h=>by have:=hF.k6 h;rw[h5] at this;cases this
 have g5:(l.setIfInBounds i true).getD 5 false=false:=by rw[getD_set (by omega)];exact h5
 have g6:(l.setIfInBounds i true).getD 6 false=false:=by rw[getD_set (by omega)];exact h6
 have keep:∀ {j:Nat} {p:Value→Prop},(l.setIfInBounds i true).getD j false=true→(j=i→p v)→(l.getD j false=true→p (val j))→p (updV val i v j):=by
  intro j p h h1 h2
  by_cases e:j=i
  ·subst e;rw[updV_same];exact h1 rfl
  ·rw[updV_other _ _ e];rw[getD_set e] at h;exact h2 h
 have kk:∀ (j j':Nat),(i=j→l.getD j' false=true)→(l.getD j false=true→l.getD j' false=true)→(l.setIfInBounds i true).getD j false=true→(l.setIfInBounds i true).getD j' false=true:=by
  intro j j' h1 h2 h
  by_cases e:j=i
  ·exact mono8 hi' (h1 e.symm)
  ·rw[getD_set e] at h;exact mono8 hi' (h2 h)
 refine⟨hb.os.trans hF.os,hb.tape.trans hF.tape,hb.output.trans hF.output,Nat.le_trans hF.size hb.size,fun j hj h1 h2=>(hb.block j (Nat.lt_of_lt_of_le hj hF.size)).trans (hF.block j hj h1 h2),
  fun h=>keep (p:=fun x=>x=C.lv) h (fun e=>n0 e.symm) hF.v0,fun h=>keep (p:=fun x=>x=_) h (fun e=>n1 e.symm) hF.v1,fun h=>keep (p:=fun x=>x=_) h (fun e=>n2 e.symm) hF.v2,fun h=>keep (p:=fun x=>x=_) h (fun e=>n3 e.symm) hF.v3,
  fun h _=>keep (p:=fun x=>∃ kb,x=.slice (some ⟨kb,0,none⟩) 1 1∧C.W0.heap.size≤kb∧w'.heap[kb]?=some (.cells #[.string C.s] 9 (0,0))) h (fun e=>n4 e.symm) (fun h4=>?_),
  kk 2 1 hk.1 hF.k2,kk 3 2 hk.2.1 hF.k3,kk 4 3 hk.2.2 hF.k4,fun h=>(by rw[g5] at h;cases h),fun h=>(by rw[g6] at h;cases h),fun _=>own_below (hF.own h5) hb,fun h=>(by rw[g5] at h;cases h),fun _=>?_,fun h=>(by rw[g6] at h;cases h)⟩
 ·obtain⟨kb,e1,e2,e3⟩:=hF.v4 h4 h5
  exact⟨kb,e1,e2,(hb.block kb (Array.getElem?_eq_some_iff.1 e3).1).trans e3⟩
 ·exact (hb.block C.L (Nat.lt_of_lt_of_le ok.lt hF.size)).trans (hF.box h6)
end Go.Proofs.YtakpgcmfjlbcgaaGreatDoor
namespace Go.Proofs.YtakpgcmfjlbcgaaGreatDoor
open Go.RowKit
def AllAt (S:Nat→Oper→Prop):Nat→List Oper→Prop
 | _,[]=>True
 | k,o::os=>S k o∧AllAt S (k+1) os
theorem AllAt.at {S:Nat→Oper→Prop}:∀ {os:List Oper} {k i:Nat} {o:Oper},AllAt S k os→os[i]?=some o→S (k+i) o
 | [],_,_,_,_,h=>by simp at h
 | x::os,k,0,o,h,hi=>by
  have:x=o:=by simpa using hi
  subst this
  exact h.1
 | x::os,k,i+1,o,h,hi=>by
  have:=AllAt.at (i:=i) h.2 (by simpa using hi)
  rwa [Nat.add_assoc,Nat.add_comm 1 i] at this
end Go.Proofs.YtakpgcmfjlbcgaaGreatDoor
namespace Go.Proofs.YtakpgcmfjlbcgaaGreatDoor
open Go.RowKit
theorem ntb {p:Bool} (h:p=false) (h':p=true) {C:Prop}:C:=by rw[h] at h';cases h'
structure FB (i1 i7 i8 i10:Nat) (ps:List (Nat × Nat)) (R:List (Value→Prop)) (W0:World) (E7 E8:Value→World→Prop) (E10:World→Prop) (l:Array Bool) (val:Nat→Value) (w:World):Prop where
 rd:∀ j p,l.getD j false=true→R[j]?=some p→p (val j)
 dp:∀ q ∈ ps,l.getD q.1 false=true→l.getD q.2 false=true
 s0:l.getD i7 false=false→Below W0.heap.size W0 w
 s7:l.getD i7 false=true→l.getD i8 false=false→Below W0.heap.size W0 w∧E7 (val i7) w
 s8:l.getD i8 false=true→l.getD i10 false=false→E8 (val i8) w
 s10:l.getD i10 false=true→E10 w
section
variable {i1 i7 i8 i10 n:Nat} {ps:List (Nat × Nat)} {R:List (Value→Prop)} {W0 w w':World} {E7 E8:Value→World→Prop} {E10:World→Prop} {l:Array Bool} {val:Nat→Value}
theorem FB.start:FB i1 i7 i8 i10 ps R W0 E7 E8 E10 (Array.replicate n false) val W0:=by
 have rep:∀ j,(Array.replicate n false).getD j false=false:=by
  intro j
  simp[Array.getD_eq_getD_getElem?,Array.getElem?_replicate]
  split <;> simp
 constructor
 ·intro j p h;exact ntb (rep _) h
 ·intro q _ h;exact ntb (rep _) h
 ·intro _;exact Below.refl _ _
 ·intro h;exact ntb (rep _) h
 ·intro h;exact ntb (rep _) h
 ·intro h;exact ntb (rep _) h
theorem FB.upd (h:FB i1 i7 i8 i10 ps R W0 E7 E8 E10 l val w) {i:Nat} {v:Value} (hl:i < l.size) (hn:l.getD i false=false) (hd:∀ q ∈ ps,q.1=i→l.getD q.2 false=true) (hv:∀ p,R[i]?=some p→p v) :
  (∀ j p,(l.setIfInBounds i true).getD j false=true→R[j]?=some p→p (updV val i v j))∧(∀ q ∈ ps,(l.setIfInBounds i true).getD q.1 false=true→(l.setIfInBounds i true).getD q.2 false=true):=by
 refine⟨fun j p hj hp=>?_,fun q hq h1=>?_⟩
 ·by_cases e:j=i
  ·subst e;rw[updV_same];exact hv p hp
  ·rw[updV_other _ _ e];rw[getD_set e] at hj;exact h.rd j p hj hp
 ·by_cases e2:q.2=i
  ·rw[e2];exact getD_same hl
  ·rw[getD_set e2]
   by_cases e1:q.1=i
   ·exact hd q hq e1
   ·rw[getD_set e1] at h1;exact h.dp q hq h1
theorem FB.read (h:FB i1 i7 i8 i10 ps R W0 E7 E8 E10 l val w) {i:Nat} {v:Value} (hl:i < l.size) (hn:l.getD i false=false) (hd:∀ q ∈ ps,q.1=i→l.getD q.2 false=true) (hv:∀ p,R[i]?=some p→p v) (h7:i≠i7) (h8:i≠i8) (h10:i≠i10) :
  FB i1 i7 i8 i10 ps R W0 E7 E8 E10 (l.setIfInBounds i true) (updV val i v) w:=by
 obtain⟨a,b⟩:=h.upd hl hn hd hv
 refine⟨a,b,?_,?_,?_,?_⟩
 ·rw[getD_set (Ne.symm h7)];exact h.s0
 ·rw[getD_set (Ne.symm h7),getD_set (Ne.symm h8),updV_other _ _ (Ne.symm h7)];exact h.s7
 ·rw[getD_set (Ne.symm h8),getD_set (Ne.symm h10),updV_other _ _ (Ne.symm h8)];exact h.s8
 ·rw[getD_set (Ne.symm h10)];exact h.s10
theorem FB.made (h:FB i1 i7 i8 i10 ps R W0 E7 E8 E10 l val w) {v:Value} (hl:i7 < l.size) (hn:l.getD i7 false=false) (hd:∀ q ∈ ps,q.1=i7→l.getD q.2 false=true) (hv:∀ p,R[i7]?=some p→p v) (h78:i7≠i8) (h710:i7≠i10) (p87:(i8,i7) ∈ ps) (p108:(i10,i8) ∈ ps)
  (hb:Below w.heap.size w w') (he:E7 v w'):FB i1 i7 i8 i10 ps R W0 E7 E8 E10 (l.setIfInBounds i7 true) (updV val i7 v) w':=by
 obtain⟨a,b⟩:=h.upd hl hn hd hv
 have e8:l.getD i8 false=false:=by
  cases h8:l.getD i8 false with
  | false=>rfl
  | true=>exact ntb hn (h.dp _ p87 h8)
 have e10:l.getD i10 false=false:=by
  cases h10:l.getD i10 false with
  | false=>rfl
  | true=>exact ntb e8 (h.dp _ p108 h10)
 have h0:=h.s0 hn
 refine⟨a,b,fun h=>?_,fun _ _=>?_,fun h=>?_,fun h=>?_⟩
 ·rw[getD_same hl] at h;cases h
 ·rw[updV_same];exact⟨h0.trans (hb.mono h0.size),he⟩
 ·rw[getD_set (Ne.symm h78)] at h;exact ntb e8 h
 ·rw[getD_set (Ne.symm h710)] at h;exact ntb e10 h
theorem FB.appended (h:FB i1 i7 i8 i10 ps R W0 E7 E8 E10 l val w) {v:Value} (hl:i8 < l.size) (hn:l.getD i8 false=false) (hd:∀ q ∈ ps,q.1=i8→l.getD q.2 false=true) (hv:∀ p,R[i8]?=some p→p v) (h78:i7≠i8) (h810:i8≠i10) (p87:(i8,i7) ∈ ps) (p108:(i10,i8) ∈ ps)
  (he:E8 v w'):FB i1 i7 i8 i10 ps R W0 E7 E8 E10 (l.setIfInBounds i8 true) (updV val i8 v) w':=by
 obtain⟨a,b⟩:=h.upd hl hn hd hv
 have e7:=hd _ p87 rfl
 have e10:l.getD i10 false=false:=by
  cases h10:l.getD i10 false with
  | false=>rfl
  | true=>exact ntb hn (h.dp _ p108 h10)
 refine⟨a,b,fun h=>?_,fun _ h=>?_,fun _ _=>?_,fun h=>?_⟩
 ·rw[getD_set h78] at h;exact ntb h e7
 ·rw[getD_same hl] at h;cases h
 ·rw[updV_same];exact he
 ·rw[getD_set (Ne.symm h810)] at h;exact ntb e10 h
theorem FB.stored (h:FB i1 i7 i8 i10 ps R W0 E7 E8 E10 l val w) {v:Value} (hl:i10 < l.size) (hn:l.getD i10 false=false) (hd:∀ q ∈ ps,q.1=i10→l.getD q.2 false=true) (hv:∀ p,R[i10]?=some p→p v) (h710:i7≠i10) (h810:i8≠i10) (p87:(i8,i7) ∈ ps) (p108:(i10,i8) ∈ ps)
  (he:E10 w'):FB i1 i7 i8 i10 ps R W0 E7 E8 E10 (l.setIfInBounds i10 true) (updV val i10 v) w':=by
 obtain⟨a,b⟩:=h.upd hl hn hd hv
 have e8:=hd _ p108 rfl
 have e7:=h.dp _ p87 e8
 refine⟨a,b,fun h=>?_,fun _ h=>?_,fun _ h=>?_,fun _=>he⟩
 ·rw[getD_set h710] at h;exact ntb h e7
 ·rw[getD_set h810] at h;exact ntb h e8
 ·rw[getD_same hl] at h;cases h
end
end Go.Proofs.YtakpgcmfjlbcgaaGreatDoor
namespace Go.Proofs.YtakpgcmfjlbcgaaGreatDoor
open Go.RowKit
structure FW (ps:List (Nat × Nat)) (R:List (Value→World→Prop)) (W0:World) (l:Array Bool) (val:Nat→Value) (w:World):Prop where
 rd:∀ j p,l.getD j false=true→R[j]?=some p→p (val j) w
 b:Below W0.heap.size W0 w
def Lasts (R:List (Value→World→Prop)):Prop:=∀ p ∈ R,∀ v w w',p v w→Below w.heap.size w w'→p v w'
theorem FW.start {ps:List (Nat × Nat)} {R:List (Value→World→Prop)} {W0:World} {val:Nat→Value} {n:Nat}:FW ps R W0 (Array.replicate n false) val W0:=by
 refine⟨fun j p h=>ntb ?_ h,Below.refl _ _⟩
 simp[Array.getD_eq_getD_getElem?,Array.getElem?_replicate]
 split <;> simp
theorem FW.step {ps:List (Nat × Nat)} {R:List (Value→World→Prop)} {W0 w w':World} {l:Array Bool} {val:Nat→Value} (h:FW ps R W0 l val w) (hL:Lasts R) {i:Nat} {v:Value} (hb:Below w.heap.size w w') (hv:∀ p,R[i]?=some p→p v w'):FW ps R W0 (l.setIfInBounds i true) (updV val i v) w':=by
 refine⟨fun j p hj hp=>?_,h.b.trans (hb.mono h.b.size)⟩
 by_cases e:j=i
 ·subst e;rw[updV_same];exact hv p hp
 ·rw[updV_other _ _ e];rw[getD_set e] at hj;exact hL p (List.mem_of_getElem? hp) _ _ _ (h.rd j p hj hp) hb
end Go.Proofs.YtakpgcmfjlbcgaaGreatDoor
