/- Tsmall@012, Tshape@012, Tshape2@012, Tvisit@012, Teach@012, Tsame@012 -/
import Derived.BigQuiet
import Derived.Deep.QuietTactic
import Derived.LoopIn
import Derived.OwnWalkIn
import Derived.RangeFuncBound
import Derived.RangeFuncKeeps
import Derived.RangeFuncLeaves
import Derived.Shelf.Abstract
import Derived.TacticsInMore
import Derived.Test.YtdgbajnhhhjbcaaGreatDoorQ4
set_option linter.unusedSimpArgs false
namespace Go.Proofs.YtdgbajnhhhjbcaaGreatDoor
open Lib(hid)
open Go.RowKit
theorem retB {a b:Bool} (h:a=b):Ending.returned (.bool a)=.returned (.bool b):=by rw[h]
end Go.Proofs.YtdgbajnhhhjbcaaGreatDoor
namespace Go.Proofs.YtdgbajnhhhjbcaaGreatDoor
open Lib(hid)
open Go.RowKit
theorem kept {W w1:World} {B:Nat} (hb:Below B W w1):(∀ b o,b < B→w1.cell? ⟨b,o,none⟩=W.cell? ⟨b,o,none⟩)∧(∀ b o,b < B→w1.frozen? ⟨b,o,none⟩=W.frozen? ⟨b,o,none⟩):=
 ⟨fun b o h=>hb.cell (p:=⟨b,o,none⟩) h,fun b o h=>hb.frozen (p:=⟨b,o,none⟩) h⟩
theorem count_c (n:Int) (w:World):Calls Tryz.prog 88 #[.int .i64 n] w fun e w'=>e=.returned (.bool (decide (1≤n) && decide (n≤8)))∧w=w':=by
 by_cases h1:1≤n
 ·by_cases h2:n≤8
  ·go_enter Tryz.func88,Tryz.ntmps88
   go_wp2
   go_ret
   exact⟨retB (by simp <;> omega),rfl⟩
  ·go_enter Tryz.func88,Tryz.ntmps88
   go_wp2
   go_ret
   exact⟨retB (by simp <;> omega),rfl⟩
 ·go_enter Tryz.func88,Tryz.ntmps88
  go_wp2
  go_ret
  exact⟨retB (by simp <;> omega),rfl⟩
theorem rec_c (t:Tm) (w:World) (cs:List Value) (hc:TmC w w.heap.size t cs) :
  Calls Tryz.prog 191 #[.agg cs.toArray] w fun e w'=>e=.returned (.bool (recB t))∧Below w.heap.size w w':=by
 obtain⟨p1,q1,rfl,_,_,_,_⟩:=hc.look
 have Hz:Hid (recB t=((t.op != 3) && (t.op != 4))):=hid rfl
 clear hc
 obtain⟨b1,hb1⟩:∃ b,(t.op != 3)=b:=⟨_,rfl⟩
 obtain⟨b2,hb2⟩:∃ b,(t.op != 4)=b:=⟨_,rfl⟩
 cases b1
 ·go_enter Tryz.func191,Tryz.ntmps191
  go_wp2
  go_ret
  exact⟨retB (by rw[Hz.out,hb1];rfl),(Below.refl _ _).alloc (Nat.le_refl _) _⟩
 ·cases b2
  ·go_enter Tryz.func191,Tryz.ntmps191
   go_wp2
   go_ret
   exact⟨retB (by rw[Hz.out,hb1,hb2];rfl),(Below.refl _ _).alloc (Nat.le_refl _) _⟩
  ·go_enter Tryz.func191,Tryz.ntmps191
   go_wp2
   go_ret
   exact⟨retB (by rw[Hz.out,hb1,hb2];rfl),(Below.refl _ _).alloc (Nat.le_refl _) _⟩
theorem empty_int (l:List Tm):l.isEmpty=((l.length:Int) == 0):=by cases l <;> simp <;> omega
set_option maxRecDepth 100000 in
set_option maxHeartbeats 4000000 in
theorem shape_leaf (op:Int) (s:ByteArray) (n:Int) (l:List Tm) (hop:twoB op=false) (w:World) (cs:List Value) (hc:TmC w w.heap.size (.mk op s n l) cs) :
  Calls Tryz.prog 167 #[.agg cs.toArray] w fun e w'=>e=.returned (.bool (shapeB (.mk op s n l)))∧Below w.heap.size w w':=by
 obtain⟨p1,q1,rfl,_,hz,_,t1⟩:=hc.look
 simp only[Tm.op_mk,Tm.s_mk,Tm.n_mk,Tm.l_mk] at hz t1 ⊢
 clear hc t1
 have hs0:shapeB (.mk op s n l)=leafB (.mk op s n l):=by unfold shapeB;simp[hop]
 have h5:(op == 5)=false:=by unfold twoB at hop;simp at hop ⊢;exact hop.1.1
 have h6:(op == 6)=false:=by unfold twoB at hop;simp at hop ⊢;exact hop.1.2
 have h7:(op == 7)=false:=by unfold twoB at hop;simp at hop ⊢;exact hop.2
 obtain⟨bn,hbn⟩:∃ b,(n == 0)=b:=⟨_,rfl⟩
 obtain⟨bl,hbl⟩:∃ b,((l.length:Int) == 0)=b:=⟨_,rfl⟩
 have hle:=empty_int l
 rw[hbl] at hle
 have A0:Hid (Below w.heap.size w (w.alloc (.cells #[.int .i64 op,.string s,.int .i64 n,.slice p1 l.length q1] 64))):=hid ((Below.refl _ _).alloc (Nat.le_refl _) _)
 by_cases o1:op=1
 ·subst o1
  have Hz:Hid (shapeB (.mk 1 s n l)=(nameB s.data.toList && bn && bl)):=hid (by rw[hs0,← hle,← hbn];rfl)
  have HN:=hid (fun w=>isName_any s w hz)
  clear hs0 hle
  go_enter Tryz.func167,Tryz.ntmps167
  go_wp2_with fail
  refine (HN.out _).mono ?_
  rintro e w1 ⟨rfl,b1⟩
  have B1:=A0.out.trans (b1.mono (by simp))
  obtain⟨hc,hf⟩:=kept b1
  have hz1:w.heap.size < w1.heap.size:=by have:=b1.size;simp at this;omega
  cases hnm:nameB s.data.toList
  ·have Hz1:Hid (shapeB (.mk 1 s n l)=false):=hid (by rw[Hz.out,hnm];rfl)
   clear hnm
   go_wp2
   go_ret
   exact⟨by rw[Hz1.out];rfl,B1⟩
  ·have Hz1:Hid (shapeB (.mk 1 s n l)=(bn && bl)):=hid (by rw[Hz.out,hnm];rfl)
   clear hnm
   cases bn <;> cases bl
   all_goals
    go_wp2
    go_ret
    exact⟨by rw[Hz1.out];rfl,B1⟩
 have e1:(op == 1)=false:=by simpa using o1
 by_cases o2:op=2
 ·subst o2
  by_cases h0:s.toList=[]
  ·have Hz:Hid (shapeB (.mk 2 s n l)=bl):=hid (by rw[hs0,← hle];show (s.toList.isEmpty && l.isEmpty)=_;rw[h0];rfl)
   clear hs0 hle
   cases bl
   all_goals
    go_enter Tryz.func167,Tryz.ntmps167
    go_wp2
    go_ret
    exact⟨by rw[Hz.out];rfl,A0.out⟩
  ·have Hz:Hid (shapeB (.mk 2 s n l)=false):=hid (by rw[hs0];show (s.toList.isEmpty && l.isEmpty)=_;simp[h0])
   clear hs0 hle
   go_enter Tryz.func167,Tryz.ntmps167
   go_wp2
   go_ret
   exact⟨by rw[Hz.out];rfl,A0.out⟩
 have e2:(op == 2)=false:=by simpa using o2
 by_cases o3:op=3
 ·subst o3
  have Hz:Hid (shapeB (.mk 3 s n l)=(bn && bl)):=hid (by rw[hs0,← hle,← hbn];rfl)
  clear hs0 hle
  cases bn <;> cases bl
  all_goals
   go_enter Tryz.func167,Tryz.ntmps167
   go_wp2
   go_ret
   exact⟨by rw[Hz.out];rfl,A0.out⟩
 have e3:(op == 3)=false:=by simpa using o3
 by_cases o4:op=4
 ·subst o4
  by_cases h0:s.toList=[]
  ·have Hz:Hid (shapeB (.mk 4 s n l)=(bn && bl)):=hid (by rw[hs0,← hle,← hbn];show (s.toList.isEmpty && (n == 0) && l.isEmpty)=_;rw[h0];rfl)
   clear hs0 hle
   cases bn <;> cases bl
   all_goals
    go_enter Tryz.func167,Tryz.ntmps167
    go_wp2
    go_ret
    exact⟨by rw[Hz.out];rfl,A0.out⟩
  ·have Hz:Hid (shapeB (.mk 4 s n l)=false):=hid (by rw[hs0];show (s.toList.isEmpty && (n == 0) && l.isEmpty)=_;simp[h0])
   clear hs0 hle
   go_enter Tryz.func167,Tryz.ntmps167
   go_wp2
   go_ret
   exact⟨by rw[Hz.out];rfl,A0.out⟩
 have e4:(op == 4)=false:=by simpa using o4
 have Hz:Hid (shapeB (.mk op s n l)=false):=hid (by rw[hs0];unfold leafB;simp[o1,o2,o3,o4])
 clear hs0 hle o1 o2 o3 o4 hop
 go_enter Tryz.func167,Tryz.ntmps167
 go_wp2
 go_ret
 exact⟨by rw[Hz.out];rfl,A0.out⟩
end Go.Proofs.YtdgbajnhhhjbcaaGreatDoor
namespace Go.Proofs.YtdgbajnhhhjbcaaGreatDoor
open Lib(hid)
open Go.RowKit
theorem two_of {l:List Tm} (h:l.length=2):∃ x y,l=[x,y]:=by
 match l,h with
 | [x,y],_=>exact⟨x,y,rfl⟩
def twoRec:List Tm→Bool
 | [a,b]=>recB a && recB b
 | _=>false
theorem not_two {l:List Tm} (h:l.length≠2):twoRec l=false:=by
 match l,h with
 | [],_=>rfl
 | [_],_=>rfl
 | [_,_],h=>exact absurd rfl h
 | _::_::_::_,_=>rfl
theorem shapeB_two {op:Int} {s:ByteArray} {n:Int} {l:List Tm} (h:twoB op=true):shapeB (.mk op s n l)=(s.toList.isEmpty && (n == 0) && twoRec l):=by
 have h':twoB (Tm.mk op s n l).op=true:=h
 unfold shapeB
 rw[if_pos h']
 match l with
 | []=>rfl
 | [_]=>rfl
 | [_,_]=>rfl
 | _::_::_::_=>rfl
set_option maxRecDepth 100000 in
set_option maxHeartbeats 4000000 in
theorem shape_two (op:Int) (s:ByteArray) (n:Int) (l:List Tm) (hop:op=5∨op=6∨op=7) (w:World) (cs:List Value) (hc:TmC w w.heap.size (.mk op s n l) cs) :
  Calls Tryz.prog 167 #[.agg cs.toArray] w fun e w'=>e=.returned (.bool (shapeB (.mk op s n l)))∧Below w.heap.size w w':=by
 obtain⟨p1,q1,rfl,_,hz,_,t1⟩:=hc.look
 simp only[Tm.op_mk,Tm.s_mk,Tm.n_mk,Tm.l_mk] at hz t1 ⊢
 have ht2:twoB op=true:=by rcases hop with rfl | rfl | rfl <;> rfl
 have hs0:=shapeB_two (s:=s) (n:=n) (l:=l) ht2
 clear hc ht2
 have A0:Hid (Below w.heap.size w (w.alloc (.cells #[.int .i64 op,.string s,.int .i64 n,.slice p1 l.length q1] 64))):=hid ((Below.refl _ _).alloc (Nat.le_refl _) _)
 by_cases h0:s.toList=[]
 ·obtain⟨bn,hbn⟩:∃ b,(n == 0)=b:=⟨_,rfl⟩
  cases bn with
  | false=>
   have Hz:Hid (shapeB (.mk op s n l)=false):=hid (by rw[hs0,hbn];simp)
   clear hs0
   rcases hop with rfl | rfl | rfl
   all_goals
    go_enter Tryz.func167,Tryz.ntmps167
    go_wp2
    go_ret
    exact⟨by rw[Hz.out];rfl,A0.out⟩
  | true=>
   obtain⟨bl,hbl⟩:∃ b,((l.length:Int) == 2)=b:=⟨_,rfl⟩
   cases bl with
   | false=>
    have hl2:l.length≠2:=by intro h;rw[h] at hbl;simp at hbl
    have Hz:Hid (shapeB (.mk op s n l)=false):=hid (by
     rw[hs0,not_two hl2,Bool.and_false])
    clear hs0
    rcases hop with rfl | rfl | rfl
    all_goals
     go_enter Tryz.func167,Tryz.ntmps167
     go_wp2
     go_ret
     exact⟨by rw[Hz.out];rfl,A0.out⟩
   | true=>
    have hl2:l.length=2:=by
     have:(l.length:Int)=2:=by simpa using hbl
     omega
    obtain⟨x,y,rfl⟩:=two_of hl2
    have Hz:Hid (shapeB (.mk op s n [x,y])=(recB x && recB y)):=hid (by rw[hs0,h0,hbn];rfl)
    obtain⟨o1,cap1,e1,hc1,hm1,S1⟩:=SlOf.open t1
    cases e1
    obtain⟨a,p3,q3,rfl,ha,Hc,c0,c1,c2,c3⟩:=tm_at S1 (Below.refl _ _) (show [x,y][0]?=some x from rfl)
    obtain⟨a',p4,q4,e2,ha',Hd,d0,d1,d2,d3⟩:=tm_at S1 (Below.refl _ _) (show [x,y][1]?=some y from rfl)
    cases e2
    have hal:(a.add (0 * 4)).block < w.heap.size:=by rw[addBlock];omega
    have hal':(a.add (1 * 4)).block < w.heap.size:=by rw[addBlock];omega
    simp only[Nat.zero_mul,Nat.one_mul] at c0 c1 c2 c3 d0 d1 d2 d3 hal hal'
    have ea:a.add 0=a:=by unfold Addr.add;simp
    rw[ea] at c0 c1 c2 c3 hal
    have e4:a.add 4=⟨a.block,a.off+4,none⟩:=by unfold Addr.add;simp
    simp only[e4] at d0 d1 d2 d3 hal'
    clear ea e4
    have HX:=hid (fun (W:World) (hb:Below w.heap.size w W)=>rec_c x W _ ((Hc.out.under hb).more hb.size))
    have HY:=hid (fun (W:World) (hb:Below w.heap.size w W)=>rec_c y W _ ((Hd.out.under hb).more hb.size))
    clear hs0 t1 S1 Hc Hd
    rcases hop with rfl | rfl | rfl
    all_goals
     go_enter Tryz.func167,Tryz.ntmps167
     go_wp2_with fail
     refine (HX.out _ A0.out).mono ?_
     rintro e w1 ⟨rfl,b1⟩
     have B1:=A0.out.trans (b1.mono (by simp))
     obtain⟨hc,hf⟩:=kept b1
     have hz1:w.heap.size < w1.heap.size:=by have:=b1.size;simp at this;omega
     have K:=fun (p:Addr) (hp:p.block < w.heap.size)=>B1.cell (p:=p) hp
     have f0:=(K ⟨a.block,a.off+4,none⟩ hal').trans d0
     have f1:=(K ⟨a.block,a.off+4+1,none⟩ hal').trans d1
     have f2:=(K ⟨a.block,a.off+4+2,none⟩ hal').trans d2
     have f3:=(K ⟨a.block,a.off+4+3,none⟩ hal').trans d3
     clear K
     cases hx:recB x with
     | false=>
      have Hz1:=hid (Hz.out.trans (by rw[hx];rfl:_=false))
      clear hx
      go_wp2
      go_ret
      exact⟨by rw[Hz1.out];rfl,B1⟩
     | true=>
      have Hz1:=hid (Hz.out.trans (by rw[hx];rfl:_=recB y))
      clear hx
      go_wp2_with fail
      refine (HY.out _ B1).mono ?_
      rintro e w2 ⟨rfl,b2⟩
      go_wp2
      go_ret
      exact⟨by rw[Hz1.out];rfl,B1.trans (b2.mono (by omega))⟩
 ·have Hz:Hid (shapeB (.mk op s n l)=false):=hid (by rw[hs0];simp[h0])
  clear hs0
  rcases hop with rfl | rfl | rfl
  all_goals
   go_enter Tryz.func167,Tryz.ntmps167
   go_wp2
   go_ret
   exact⟨by rw[Hz.out];rfl,A0.out⟩
theorem tshape_c (t:Tm) (w:World) (cs:List Value) (hc:TmC w w.heap.size t cs) :
  Calls Tryz.prog 167 #[.agg cs.toArray] w fun e w'=>e=.returned (.bool (shapeB t))∧Below w.heap.size w w':=by
 obtain⟨op,s,n,l⟩:=t
 cases h:twoB op with
 | false=>exact shape_leaf op s n l h w cs hc
 | true=>exact shape_two op s n l (by unfold twoB at h;simp at h;omega) w cs hc
end Go.Proofs.YtdgbajnhhhjbcaaGreatDoor
namespace Go.Proofs.YtdgbajnhhhjbcaaGreatDoor
open Lib(hid)
open Go.RowKit Go.Shelf
attribute [local go_sem] Oper.semAt_some
structure KC (W W':World):Prop where
 size:W.heap.size≤W'.heap.size
 same:∀ (i:Nat) (o:Obj),W.heap[i]?=some o→o.isCells=true→W'.heap[i]?=some o
theorem KC.refl (W:World):KC W W:=⟨Nat.le_refl _,fun _ _ h _=>h⟩
theorem KC.trans {A B C:World} (h:KC A B) (k:KC B C):KC A C:=⟨Nat.le_trans h.size k.size,fun i o hi ho=>k.same i o (h.same i o hi ho) ho⟩
theorem KC.of_below {W W':World} (h:Below W.heap.size W W'):KC W W':=
 ⟨h.size,fun i _ hi _=>(h.block i (Array.getElem?_eq_some_iff.1 hi).1).trans hi⟩
theorem KC.cell {W W':World} (k:KC W W') {p:Addr} {v:Value} (h:W.cell? p=some v):W'.cell? p=some v:=by
 unfold World.cell? at h ⊢
 cases ho:W.heap[p.block]? with
 | none=>rw[ho] at h;simp at h
 | some o=>
  rw[ho] at h
  cases hc:o.isCells with
  | true=>rw[k.same _ _ ho hc];exact h
  | false=>cases o <;> simp_all [Obj.isCells]
theorem KC.put (W:World) (l:Nat) (o o':Obj) (ho:W.heap[l]?=some o) (hc:o.isCells=false):KC W (W.putObj l o'):=by
 refine⟨by simp[World.putObj],fun i x hi hx=>?_⟩
 have hne:i≠l:=by rintro rfl;rw[ho] at hi;cases hi;rw[hc] at hx;cases hx
 simpa[World.putObj,hne.symm] using hi
theorem CellsAt.kc {w w':World} {a:Addr} {o:Nat} {cs:List Value} (h:CellsAt w a o cs) (k:KC w w'):CellsAt w' a o cs:=fun j c hc=>k.cell (h j c hc)
theorem TmC.kc {w w':World} {B:Nat} {t:Tm} {cs:List Value} (h:TmC w B t cs) (k:KC w w'):TmC w' B t cs:=by
 induction h with
 | nil op s n h1 h2 h3=>exact .nil op s n h1 h2 h3
 | row op s n l a cap cs h1 h2 h3 h4 h5 h6 _ h8 ih=>exact .row op s n l a cap cs h1 h2 h3 h4 h5 h6 ih fun i x hx=>⟨(h8 i x hx).1,(h8 i x hx).2.kc k⟩
def nextLv (lv:Int):Int:=IntKind.i64.wrap (lv+1)
mutual
def nodesT:Int→Tm→List (Int × Tm)
 | lv,.mk o s n l=>(lv,.mk o s n l)::nodesTs (nextLv lv) l
def nodesTs:Int→List Tm→List (Int × Tm)
 | _,[]=>[]
 | lv,t::ts=>nodesT lv t++nodesTs lv ts
end
theorem nodesT_eq (lv:Int) (t:Tm):nodesT lv t=(lv,t)::nodesTs (nextLv lv) t.l:=by cases t;unfold nodesT;rfl
def goodN (x:Int × Tm):Bool:=decide (x.1≤20) && shapeB x.2
theorem nodes_ok:∀ t:Tm,∀ lv:Nat,(nodesT (lv:Int) t).all goodN=okT lv t:=by
 intro t
 induction t using Tm.rec (motive_2:=fun l=>∀ lv:Nat,(nodesTs (lv:Int) l).all goodN=okTs lv l) with
 | nil lv=>simp[nodesTs,okTs]
 | cons t ts ih ihs lv=>unfold nodesTs okTs;rw[List.all_append,ih,ihs]
 | mk op s n l ih=>
  intro lv
  rw[nodesT_eq,okT_eq,List.all_cons]
  by_cases h:lv≤20
  ·have e:nextLv (lv:Int)=((lv+1:Nat):Int):=by
    unfold nextLv
    rw[IntWalk.i64_in _ (by omega)]
    omega
   rw[e,Tm.l_mk,ih]
   unfold goodN
   rw[show decide ((lv:Int)≤20)=decide (lv≤20) from decide_eq_decide.2 (by omega)]
  ·unfold goodN
   rw[show decide ((lv:Int)≤20)=false by simpa using by omega,show decide (lv≤20)=false by simpa using by omega]
   rfl
structure Nd (w:World) (B:Nat) where
 lv:Int
 t:Tm
 cs:List Value
 ok:TmC w B t cs
def Nd.pair {w:World} {B:Nat} (x:Nd w B):Int × Tm:=(x.lv,x.t)
def Nd.enc {w:World} {B:Nat} (x:Nd w B):Array Value:=#[.int .i64 x.lv,.agg x.cs.toArray]
section
variable {w0:World} {n₀:Nat}
def VPost (J Jx:List (Nd w0 n₀)→World→Prop) (lv:Int) (t:Tm) (pre:List (Nd w0 n₀)) (W:World) (e:Ending) (W':World):Prop:=
 (e=.returned (.bool true)∧(∃ ys,ys.map Nd.pair=nodesT lv t∧J (pre++ys) W')∧KC W W')∨(e=.returned (.bool false)∧∃ ys,ys.map Nd.pair <+: nodesT lv t∧Jx (pre++ys) W')
def VisitAt (l N:Nat) (J Jx:List (Nd w0 n₀)→World→Prop) (t:Tm):Prop:=
 ∀ (n:Nat) (lv:Int) (W:World) (cs:List Value) (pre:List (Nd w0 n₀)),KC w0 W→TmC w0 n₀ t cs→J pre W→pre.length+(nodesT lv t).length≤N →
  CallsIn Fence.wide n Tryz.prog 190 #[.agg cs.toArray,.int .i64 lv,.func (.yield l) #[] #[]] W (VPost J Jx lv t pre W)
theorem nodesTs_take {lv:Int} {l:List Tm} {k:Nat} {t:Tm} (h:l[k]?=some t):nodesTs lv (l.take (k+1))=nodesTs lv (l.take k)++nodesT lv t:=by
 have app:∀ a b:List Tm,nodesTs lv (a++b)=nodesTs lv a++nodesTs lv b:=by
  intro a b
  induction a with
  | nil=>simp[nodesTs]
  | cons x a ih=>simp[nodesTs,ih]
 rw[List.take_succ_eq_append_getElem (List.getElem?_eq_some_iff.1 h).1,app,(List.getElem?_eq_some_iff.1 h).2]
 simp[nodesTs]
theorem nodesTs_pre {lv:Int} {l:List Tm} (k:Nat):nodesTs lv (l.take k) <+: nodesTs lv l:=by
 have app:∀ a b:List Tm,nodesTs lv (a++b)=nodesTs lv a++nodesTs lv b:=by
  intro a b
  induction a with
  | nil=>simp[nodesTs]
  | cons x a ih=>simp[nodesTs,ih]
 exact⟨nodesTs lv (l.drop k),by rw[← app,List.take_append_drop]⟩
theorem nd_at {w wr:World} {B:Nat} {l:List Tm} {o:Option Addr} {k:Nat} {t:Tm} (S:Hid (SlIn w B 4 (TmC w B) l o)) (hk:KC w wr) (ht:l[k]?=some t) :
  ∃ a o' cap',o=some a∧a.block < B∧Hid (TmC w B t [.int .i64 t.op,.string t.s,.int .i64 t.n,.slice o' t.l.length cap']) ∧
   wr.cell? (a.add (k * 4))=some (.int .i64 t.op)∧wr.cell? ⟨(a.add (k * 4)).block,(a.add (k * 4)).off+1,none⟩=some (.string t.s)∧wr.cell? ⟨(a.add (k * 4)).block,(a.add (k * 4)).off+2,none⟩=some (.int .i64 t.n)∧wr.cell? ⟨(a.add (k * 4)).block,(a.add (k * 4)).off+3,none⟩=some (.slice o' t.l.length cap'):=by
 obtain⟨a,cs,rfl,ha,_,h1,h2⟩:=S.out k t ht
 obtain⟨o',cap',rfl,_⟩:=h1.look
 exact⟨a,o',cap',rfl,ha,hid h1,(h2.kc hk).four⟩
set_option maxRecDepth 100000 in
set_option maxHeartbeats 8000000 in
theorem visit_in (l N:Nat) (J Jx:List (Nd w0 n₀)→World→Prop)
  (hJg:∀ pre W W',J pre W→Below W.heap.size W W'→J pre W')
  (hY:∀ m pre (x:Nd w0 n₀) W,J pre W→pre.length < N→YieldAt Fence.wide m Tryz.prog l x.enc W fun e W'=>(e=.returned (.bool true)∧J (pre++[x]) W'∧KC W W')∨(e=.returned (.bool false)∧Jx (pre++[x]) W'))
  (t:Tm):VisitAt l N J Jx t:=by
 induction t using Tm.rec (motive_2:=fun ts=>∀ t ∈ ts,VisitAt l N J Jx t) with
 | nil x hx=>simp at hx
 | cons t ts ih ihs x hx=>
  rcases List.mem_cons.1 hx with rfl | hx
  ·exact ih
  ·exact ihs x hx
 | mk op s m ts ih=>
  intro n lv W cs pre hK hc hJ hN
  obtain⟨p1,q1,rfl,_,_,_,t1⟩:=hc.look
  obtain⟨o1,cap1,e1,hc1,hm1,S1⟩:=SlOf.open t1
  cases e1
  have hnodes:=nodesT_eq lv (.mk op s m ts)
  simp only[Tm.op_mk,Tm.s_mk,Tm.n_mk,Tm.l_mk] at hc hnodes hc1 S1 ⊢
  obtain⟨x,hx⟩:∃ x:Nd w0 n₀,x=⟨lv,.mk op s m ts,[.int .i64 op,.string s,.int .i64 m,.slice p1 ts.length q1],hc⟩:=⟨_,rfl⟩
  have hxe:x.enc=#[.int .i64 lv,.agg #[.int .i64 op,.string s,.int .i64 m,.slice p1 ts.length q1]]:=by rw[hx];rfl
  have hxp:x.pair=(lv,.mk op s m ts):=by rw[hx];rfl
  have hJ1:=hJg pre W (W.alloc (.cells #[.int .i64 op,.string s,.int .i64 m,.slice p1 ts.length q1] 64)) hJ ((Below.refl _ _).alloc (Nat.le_refl _) _)
  rw[hnodes,List.length_cons] at hN
  obtain⟨fn,tmps,assign,body,hy,hR⟩:=hY (n - 1) pre x _ hJ1 (by omega)
  rw[hxe] at hy
  have IH:=hid ih
  have Hn:=hid hnodes
  have Hxp:=hid hxp
  clear hx hxe hxp ih hnodes hJ1 t1 hc
  refine callsIn_of_wp Tryz.func190 rfl trivial ?_ rfl
  simp only[Tryz.ntmps190,List.size_toArray,List.length_cons,List.length_nil,Nat.reduceAdd,Nat.reduceSub,Array.replicate_succ,Array.replicate_zero,List.push_toArray,List.append_toArray,List.nil_append,List.cons_append]
  gi_wp2
  refine⟨fun h=>(by cases h),hR.mono ?_⟩
  rintro e W1 (⟨rfl,hJ2,hk2⟩ | ⟨rfl,hx2⟩)
  ·have hk1:KC W W1:=(KC.of_below ((Below.refl _ _).alloc (Nat.le_refl _) (.cells #[.int .i64 op,.string s,.int .i64 m,.slice p1 ts.length q1] 64))).trans hk2
   have x0:W1.cell? ⟨W.heap.size,3,none⟩=some (.slice p1 ts.length q1):=hk2.cell (by go_simp)
   gi_wp2
   gi_loopw [17] (fun i wr=>∃ (k:Nat) (ys:List (Nd w0 n₀)),k≤ts.length∧i=.int .i64 k∧ys.map Nd.pair=(lv,.mk op s m ts)::nodesTs (nextLv lv) (ts.take k)∧J (pre++ys) wr∧KC W wr) (fun i _=>ts.length - (intOf i).toNat)
   case atStart=>exact⟨0,[x],Nat.zero_le _,rfl,by simp[Hxp.out,nodesTs],hJ2,hk1⟩
   case round=>
    obtain⟨k,ys,hk,rfl,hys,hJk,hkk⟩:=hrel
    have Hys:=hid hys
    clear hys
    by_cases hlt:k < ts.length
    ·have hlt':(k:Int) < (ts.length:Int):=by omega
     obtain⟨u,hu⟩:∃ u,ts[k]?=some u:=⟨ts[k],List.getElem?_eq_getElem hlt⟩
     obtain⟨a,p2,q2,rfl,ha,Hc,c0,c1,c2,c3⟩:=nd_at S1 (hK.trans hkk) hu
     have Htk:=hid (nodesTs_take (lv:=nextLv lv) hu)
     have Hm:=hid (List.mem_of_getElem? hu)
     have gw:IntKind.i64.wrap (lv+1)=nextLv lv:=rfl
     have hlen:(pre++ys).length+(nodesT (nextLv lv) u).length≤N:=by
      have h1:=congrArg List.length Hys.out
      have h2:=(nodesTs_pre (lv:=nextLv lv) (l:=ts) (k+1)).length_le
      rw[Htk.out] at h2
      simp only[List.length_map,List.length_cons,List.length_append] at h1 h2 ⊢
      omega
     clear hu
     have HI:=hid (fun (V:World) (hv:Below wr.heap.size wr V)=>IH.out u Hm.out (n - 1) (nextLv lv) V [_,_,_,_] (pre++ys) ((hK.trans hkk).trans (KC.of_below hv)) Hc.out (hJg _ _ _ hJk hv) hlen)
     gi_wp2_with fail
     refine⟨trivial,fun h=>(by cases h),(HI.out _ ((Below.refl _ _).alloc (Nat.le_refl _) _)).mono ?_⟩
     rintro e W2 (⟨rfl,⟨zs,hz,hJ3⟩,hk3⟩ | ⟨rfl,zs,hz,hx3⟩)
     ·have Hz:=hid hz
      clear hz
      gi_wp2
      go_roundw
      case rel=>
       exact⟨k+1,ys++zs,hlt,by go_num,by rw[List.map_append,Hys.out,Hz.out,Htk.out];rfl,by rw[← List.append_assoc];exact hJ3,(hkk.trans (KC.of_below ((Below.refl _ _).alloc (Nat.le_refl _) _))).trans hk3⟩
      case measure=>simp[intOf];omega
     ·have Hz:=hid hz
      clear hz
      gi_wp2
      go_ret
      refine .inr ⟨rfl,ys++zs,?_,by rw[← List.append_assoc];exact hx3⟩
      rw[Hn.out,List.map_append,Hys.out,List.cons_append]
      obtain⟨r,hr⟩:=Hz.out
      obtain⟨r2,hr2⟩:=nodesTs_pre (lv:=nextLv lv) (l:=ts) (k+1)
      rw[Htk.out,← hr] at hr2
      exact⟨r++r2,by rw[← hr2];simp⟩
    ·have hlt':¬ (k:Int) < (ts.length:Int):=by omega
     gi_wp2
     go_ret
     refine .inl ⟨rfl,⟨ys,?_,hJk⟩,hkk⟩
     rw[Hys.out,Hn.out,List.take_of_length_le (by omega)]
  ·gi_wp2
   go_ret
   exact .inr ⟨rfl,[x],by rw[Hn.out];simp[Hxp.out],hx2⟩
end
end Go.Proofs.YtdgbajnhhhjbcaaGreatDoor
namespace Go.Proofs.YtdgbajnhhhjbcaaGreatDoor
open Lib(hid)
open Go.RowKit Go.Shelf
attribute [local go_sem] Oper.semAt_some
theorem roomOfNone {F:Fence} (hd:F.depth=none) (k:Nat):F.room k:=fun d h=>by rw[hd] at h;cases h
theorem roundAny {F:Fence} (hd:F.depth=none) {m m':Nat} {P:Program} {l:Nat} {f:FuncId} {tmps:Array Value} {assign body:Code} {w:World} {R:Ending→World→Prop}
  (h:RoundIn F m P l f tmps assign body w R):RoundIn F m' P l f tmps assign body w R:=⟨h.1,fun c cs _=>h.2 c cs (roomOfNone hd _)⟩
theorem yieldAny {F:Fence} (hd:F.depth=none) {m:Nat} (m':Nat) {P:Program} {l:Nat} {args:Array Value} {W:World} {R:Ending→World→Prop} (h:YieldAt F m P l args W R):YieldAt F m' P l args W R:=by
 obtain⟨fn,tmps,assign,body,hy,hR⟩:=h
 exact⟨fn,tmps,assign,body,hy,roundAny hd hR⟩
theorem grownBelow {W W':World} (h:Below W.heap.size W W'):W.grownBy W' none:=⟨h.os,h.tape,h.output,h.size,fun k hk _=>h.block k hk⟩
theorem eachTerm_in (n:Nat) (t:Tm) (cs:List Value) (w:World) (hc:TmC w w.heap.size t cs) :
  CallsIn Fence.wide n Tryz.prog 166 #[.agg cs.toArray] w fun e w'=>e=.returned (.func (.func 189) #[] #[.pointer (some ⟨w.heap.size,0,none⟩)])∧w'=w.alloc (.cells cs.toArray 64):=by
 obtain⟨p1,q1,rfl,_,_,_,_⟩:=hc.look
 clear hc
 refine callsIn_of_wp Tryz.func166 rfl trivial ?_ rfl
 simp only[Tryz.ntmps166,List.size_toArray,List.length_cons,List.length_nil,Nat.reduceAdd,Nat.reduceSub,Array.replicate_succ,Array.replicate_zero,List.push_toArray,List.append_toArray,List.nil_append,List.cons_append]
 gi_wp2
 go_ret
 exact⟨rfl,rfl⟩
set_option maxRecDepth 100000 in
set_option maxHeartbeats 2000000 in
theorem eachTerm_stops (n:Nat) (B n₀:Nat) (t:Tm) (cs:List Value) (w:World) (hB:CellsAt w ⟨B,0,none⟩ 0 cs) (hc:TmC w n₀ t cs) :
  SeqStopsK Fence.wide n Tryz.prog 189 #[.pointer (some ⟨B,0,none⟩)] (Nd.enc (w:=w) (B:=n₀)) KC (fun ys=>ys.map Nd.pair=nodesT 1 t) (fun pre=>pre.map Nd.pair <+: nodesT 1 t) (nodesT 1 t).length w:=by
 intro l J Jx W hW hJ _ hY h0
 have hK:KC w W:=KC.of_below hW
 have hv:=visit_in (w0:=w) (n₀:=n₀) l (nodesT 1 t).length J Jx (fun pre W W' h hb=>hJ pre W W' none h (grownBelow hb) (fun _ e=>by cases e)) (fun m pre x W hj hl=>yieldAny rfl m (hY pre x W hj hl)) t (n - 1) 1 W cs [] hK hc h0 (by simp)
 obtain⟨p1,q1,rfl,_,_,_,_⟩:=hc.look
 obtain⟨c0,c1,c2,c3⟩:=(hB.kc hK).four
 have ea:(⟨B,0,none⟩:Addr).add 0=⟨B,0,none⟩:=by unfold Addr.add;simp
 simp only[ea,Nat.zero_add] at c0 c1 c2 c3
 have HV:=hid hv
 clear hv hc hB ea hY hJ
 refine callsIn_of_wp Tryz.func189 rfl trivial ?_ rfl
 simp only[Tryz.ntmps189,List.size_toArray,List.length_cons,List.length_nil,Nat.reduceAdd,Nat.reduceSub,Array.replicate_succ,Array.replicate_zero,List.push_toArray,List.append_toArray,List.nil_append,List.cons_append]
 gi_wp2_with fail
 refine⟨trivial,fun h=>(by cases h),HV.out.mono ?_⟩
 rintro e W1 (⟨rfl,⟨ys,hys,hJ1⟩,_⟩ | ⟨rfl,ys,hys,hx⟩)
 ·gi_wp2
  go_end0
  exact⟨⟨_,rfl⟩,.inl ⟨ys,hys,by simpa using hJ1⟩⟩
 ·gi_wp2
  go_end0
  exact⟨⟨_,rfl⟩,.inr ⟨ys,hys,by simpa using hx⟩⟩
end Go.Proofs.YtdgbajnhhhjbcaaGreatDoor
namespace Go.Proofs.YtdgbajnhhhjbcaaGreatDoor
open Lib(hid)
open Go.RowKit
def SameTermAt (t:Tm):Prop:=∀ (u:Tm) (w:World) (cs ds:List Value),TmC w w.heap.size t cs→TmC w w.heap.size u ds →
  Calls Tryz.prog 78 #[.agg cs.toArray,.agg ds.toArray] w fun e w'=>e=.returned (.bool (sameT t u))∧Below w.heap.size w w'
set_option maxRecDepth 100000 in
set_option maxHeartbeats 4000000 in
theorem equalTerms_c (l m:List Tm) (ih:∀ t ∈ l,SameTermAt t) (v1 v2:Value) (w:World) (h1:TmS w w.heap.size l v1) (h2:TmS w w.heap.size m v2) :
  Calls Tryz.prog 77 #[v1,v2,.func (.func 78) #[] #[]] w fun e w'=>e=.returned (.bool (allS sameT l m))∧Below w.heap.size w w':=by
 obtain⟨o1,cap1,rfl,hc1,hm1,S1⟩:=SlOf.open h1
 obtain⟨o2,cap2,rfl,hc2,hm2,S2⟩:=SlOf.open h2
 have IH:=hid ih
 clear h1 h2 ih
 by_cases hlen:l.length=m.length
 ·have q:((l.length:Int) != (m.length:Int))=false:=by rw[hlen];simp
  have Hlen:=hid hlen
  clear hlen
  go_enter Tryz.func77,Tryz.ntmps77
  go_wp2
  go_loopw [17] (fun i wr=>∃ k:Nat,k≤l.length∧i=.int .i64 k∧allS sameT l m=allS sameT (l.drop k) (m.drop k)∧Below w.heap.size w wr) (fun i _=>l.length - (intOf i).toNat)
  case atStart=>exact⟨0,Nat.zero_le _,rfl,rfl,Below.refl _ _⟩
  case round=>
   obtain⟨k,hk,rfl,hr,hB⟩:=hrel
   have Hr:=hid hr
   clear hr
   have hBs:=hB.size
   by_cases hlt:k < l.length
   ·have hlt':(k:Int) < (l.length:Int):=by omega
    have hlt2:k < m.length:=by have:=Hlen.out;omega
    obtain⟨t,ht⟩:∃ t,l[k]?=some t:=⟨l[k],List.getElem?_eq_getElem hlt⟩
    obtain⟨u,hu⟩:∃ u,m[k]?=some u:=⟨m[k],List.getElem?_eq_getElem hlt2⟩
    obtain⟨a,p1,q1,rfl,ha,Hc,c0,c1,c2,c3⟩:=tm_at S1 hB ht
    obtain⟨b,p2,q2,rfl,hb,Hd,d0,d1,d2,d3⟩:=tm_at S2 hB hu
    have hal:(a.add (k * 4)).block < wr.heap.size:=by rw[addBlock];omega
    have hbl:(b.add (k * 4)).block < wr.heap.size:=by rw[addBlock];omega
    have Hs:=hid (allS_drop (f:=sameT) ht hu)
    have Ht:=hid (List.mem_of_getElem? ht)
    clear ht hu
    have HI:=hid (fun (W:World) (hb:Below wr.heap.size wr W)=>IH.out t Ht.out u W _ _ ((Hc.out.under hb).more hb.size) ((Hd.out.under hb).more hb.size))
    go_wp2_with fail
    refine (HI.out _ (((Below.refl _ _).alloc (Nat.le_refl _) _).alloc (by simp) _)).mono ?_
    rintro e w1 ⟨rfl,b1⟩
    have hB1:=hB.trans ((((Below.refl _ wr).alloc (Nat.le_refl _) _).alloc (by simp) _).mono hBs |>.trans (b1.mono (by simp;omega)))
    cases hs:sameT t u
    ·have Hz:=hid (Hr.out.trans (Hs.out.trans (by rw[hs,Bool.false_and])))
     clear hs
     go_wp2
     go_ret
     exact⟨by rw[Hz.out];rfl,hB1⟩
    ·have Hz:=hid (Hr.out.trans (Hs.out.trans (by rw[hs,Bool.true_and])))
     clear hs
     go_wp2
     go_roundw
     case rel=>exact⟨k+1,hlt,by go_num,Hz.out,hB1⟩
     case measure=>simp[intOf];omega
   ·have hlt':¬ (k:Int) < (l.length:Int):=by omega
    have Hz:=hid (allS_end (f:=sameT) (l:=l) (m:=m) (k:=k) (by omega) (by have:=Hlen.out;omega))
    go_wp2
    go_ret
    exact⟨by rw[Hr.out,Hz.out];rfl,hB⟩
 ·have q:((l.length:Int) != (m.length:Int))=true:=by rw[bne_iff_ne];omega
  have Hz:=hid (allS_len (f:=sameT) hlen)
  clear hlen
  go_enter Tryz.func77,Tryz.ntmps77
  go_wp2
  go_ret
  exact⟨by rw[Hz.out];rfl,Below.refl _ _⟩
set_option maxRecDepth 100000 in
set_option maxHeartbeats 4000000 in
theorem sameTerm_c (t:Tm):SameTermAt t:=by
 induction t using Tm.rec (motive_2:=fun l=>∀ t ∈ l,SameTermAt t) with
 | nil x hx=>simp at hx
 | cons t ts ih ihs x hx=>
  rcases List.mem_cons.1 hx with rfl | hx
  ·exact ih
  ·exact ihs x hx
 | mk op s n l ih=>
  intro u w cs ds hc hd
  obtain⟨p1,q1,rfl,_,_,_,t1⟩:=hc.look
  obtain⟨p2,q2,rfl,_,_,_,t2⟩:=hd.look
  have Hs:=hid (sameT_eq (.mk op s n l) u)
  have H:=hid (fun (W:World) (hb:Below w.heap.size w W)=>equalTerms_c l u.l ih _ _ W ((TmS.below t1 hb).more hb.size) ((TmS.below t2 hb).more hb.size))
  simp only[Tm.op_mk,Tm.s_mk,Tm.n_mk,Tm.l_mk] at Hs H ⊢
  clear hc hd t1 t2 ih
  obtain⟨b1,hb1⟩:∃ b,(op == u.op)=b:=⟨_,rfl⟩
  obtain⟨b2,hb2⟩:∃ b,(s.toList == u.s.toList)=b:=⟨_,rfl⟩
  obtain⟨b3,hb3⟩:∃ b,(n == u.n)=b:=⟨_,rfl⟩
  have Hf:Hid ((b1 && b2 && b3)=false→sameT (.mk op s n l) u=false):=hid (by
   intro h
   rw[Hs.out,hb1,hb2,hb3,h,Bool.false_and])
  cases b1
  ·have Hz:=hid (Hf.out rfl)
   go_enter Tryz.func78,Tryz.ntmps78
   go_wp2
   go_ret
   exact⟨by rw[Hz.out];rfl,((Below.refl _ _).alloc (Nat.le_refl _) _).alloc (by simp) _⟩
  cases b2
  ·have Hz:=hid (Hf.out rfl)
   go_enter Tryz.func78,Tryz.ntmps78
   go_wp2
   go_ret
   exact⟨by rw[Hz.out];rfl,((Below.refl _ _).alloc (Nat.le_refl _) _).alloc (by simp) _⟩
  cases b3
  ·have Hz:=hid (Hf.out rfl)
   go_enter Tryz.func78,Tryz.ntmps78
   go_wp2
   go_ret
   exact⟨by rw[Hz.out];rfl,((Below.refl _ _).alloc (Nat.le_refl _) _).alloc (by simp) _⟩
  have Hz:Hid (sameT (.mk op s n l) u=allS sameT l u.l):=hid (by rw[Hs.out,hb1,hb2,hb3];rfl)
  go_enter Tryz.func78,Tryz.ntmps78
  go_wp2_with fail
  refine (H.out _ (((Below.refl _ _).alloc (Nat.le_refl _) _).alloc (by simp) _)).mono ?_
  rintro e w1 ⟨rfl,b1⟩
  go_wp2
  go_ret
  exact⟨by rw[Hz.out];rfl,(((Below.refl _ _).alloc (Nat.le_refl _) _).alloc (by simp) _).trans (b1.mono (by simp;omega))⟩
end Go.Proofs.YtdgbajnhhhjbcaaGreatDoor
