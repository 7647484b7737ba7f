/- Tsmall@0123, Tshape@0123, Tshape2@0123, Tvisit@0123 -/
import Derived.LoopIn
import Derived.OwnWalkIn
import Derived.RangeFuncBound
import Derived.RangeFuncKeeps
import Derived.RangeFuncLeaves
import Derived.Shelf.Abstract
import Derived.TacticsInMore
import Derived.Test.YtakpgcmfjlbcgaaGreatDoorQ4
set_option linter.unusedSimpArgs false
set_option linter.unusedVariables false
namespace Go.Proofs.YtakpgcmfjlbcgaaGreatDoor
open Lib(hid)
open Go.RowKit
theorem longB_drop {l:List ByteArray} {k:Nat} {t:ByteArray} (h:l[k]?=some t):longB' (l.drop k)=(decide (1000 < t.size) || longB' (l.drop (k+1))):=by
 have h1:l.drop k=t::l.drop (k+1):=by rw[List.drop_eq_getElem_cons (List.getElem?_eq_some_iff.1 h).1,(List.getElem?_eq_some_iff.1 h).2]
 rw[h1];rfl
theorem anyD_drop {α:Type} {f:α→Bool} {l:List α} {k:Nat} {t:α} (h:l[k]?=some t):(l.drop k).any f=(f t || (l.drop (k+1)).any f):=by
 have h1:l.drop k=t::l.drop (k+1):=by rw[List.drop_eq_getElem_cons (List.getElem?_eq_some_iff.1 h).1,(List.getElem?_eq_some_iff.1 h).2]
 rw[h1];rfl
theorem retB {a b:Bool} (h:a=b):Ending.returned (.bool a)=.returned (.bool b):=by rw[h]
set_option maxRecDepth 100000 in
set_option maxHeartbeats 4000000 in
theorem long_c (l:List ByteArray) (v:Value) (w:World) (h:SlOf w w.heap.size 1 StrC l v) :
  Calls Tryz.prog 23 #[v] w fun e w'=>e=.returned (.bool (longB' l))∧w=w':=by
 obtain⟨o1,cap1,rfl,hc1,hm1,S1⟩:=SlOf.open h
 clear h
 go_enter Tryz.func23,Tryz.ntmps23
 go_wp2
 go_loop [3] (fun i=>∃ k:Nat,k≤l.length∧i=.int .i64 k∧longB' l=longB' (l.drop k)) (fun i=>l.length - (intOf i).toNat)
 case atStart=>exact⟨0,Nat.zero_le _,rfl,rfl⟩
 case round=>
  obtain⟨k,hk,rfl,hr⟩:=hrel
  have Hr:=hid hr
  clear hr
  by_cases hlt:k < l.length
  ·have hlt':(k:Int) < (l.length:Int):=by omega
   obtain⟨xe,ht⟩:∃ xe,l[k]?=some xe:=⟨l[k],List.getElem?_eq_getElem hlt⟩
   obtain⟨a,rfl,ha,hz,c0⟩:=str_at S1 (Below.refl _ _) ht
   have Hst:=hid (Hr.out.trans (longB_drop ht))
   unfold maxLen at hz
   clear ht
   by_cases hbig:1000 < xe.size
   ·have hbig':(1000:Int) < (xe.size:Int):=by omega
    have Hz:Hid (longB' l=true):=hid (by rw[Hst.out,decide_eq_true hbig];rfl)
    go_wp2
    go_ret
    exact⟨by rw[Hz.out];rfl,rfl⟩
   ·have hbig':¬ (1000:Int) < (xe.size:Int):=by omega
    have Hz:Hid (longB' l=longB' (l.drop (k+1))):=hid (by rw[Hst.out,decide_eq_false hbig];rfl)
    go_wp2
    go_round
    case rel=>exact⟨k+1,hlt,by go_num,Hz.out⟩
    case measure=>simp[intOf];omega
  ·have hlt':¬ (k:Int) < (l.length:Int):=by omega
   have Hz:Hid (longB' l=false):=hid (by rw[Hr.out,List.drop_of_length_le (by omega)];rfl)
   go_wp2
   go_ret
   exact⟨by rw[Hz.out];rfl,rfl⟩
def smallI (p:Pg):Int:=if smallP p=true then 1 else 0
set_option maxRecDepth 100000 in
set_option maxHeartbeats 4000000 in
theorem small_c (t:Pg) (w:World) (cs:List Value) (hc:PgC w w.heap.size t cs) :
  Calls Tryz.prog 10 #[.agg cs.toArray] w fun e w'=>e=.returned (.int .i64 (smallI t))∧Below w.heap.size w w':=by
 obtain⟨p1,q1,r1,s1,rfl,a1,t1⟩:=hc.look
 obtain⟨o1,cap1,e1,hc1,hm1,S1⟩:=SlOf.open a1
 cases e1
 obtain⟨o2,cap2,e2,hc2,hm2,S2⟩:=SlOf.open t1
 cases e2
 clear hc a1 t1
 have HB0:Hid (∀ (x:Obj),Below w.heap.size w (w.alloc x)):=hid fun x=>(Below.refl _ _).alloc (Nat.le_refl _) _
 go_enter Tryz.func10,Tryz.ntmps10
 go_wp2
 go_loopw [4] (fun i wr=>∃ k:Nat,k≤t.decls.length∧i=.int .i64 k∧t.decls.any bigD=(t.decls.drop k).any bigD∧Below (w.heap.size+1) (w.alloc (.cells #[.slice p1 t.decls.length q1,.slice r1 t.rules.length s1] 25)) wr) (fun i _=>t.decls.length - (intOf i).toNat)
 case atStart=>exact⟨0,Nat.zero_le _,rfl,rfl,Below.refl _ _⟩
 case round=>
  obtain⟨k,hk,rfl,hr,hB2⟩:=hrel
  have hB:Below w.heap.size w wr:=(HB0.out _).trans (hB2.mono (by omega))
  have Hr:=hid hr
  clear hr
  have hBs:=hB2.size
  simp only[World.size_alloc] at hBs
  have hz0:w.heap.size < wr.heap.size:=by omega
  have x0:wr.cell? ⟨w.heap.size,0,none⟩=some (.slice p1 t.decls.length q1):=(hB2.cell (p:=⟨w.heap.size,0,none⟩) (by show w.heap.size < _;omega)).trans (by go_simp)
  by_cases hlt:k < t.decls.length
  ·have hlt':(k:Int) < (t.decls.length:Int):=by omega
   obtain⟨xe,ht⟩:∃ xe,t.decls[k]?=some xe:=⟨t.decls[k],List.getElem?_eq_getElem hlt⟩
   obtain⟨a,p3,q3,p4,q4,rfl,ha,Hc,c0,c1,c2,c3,c4,c5⟩:=de_at S1 hB ht
   have hal:(a.add (k * 6)).block < wr.heap.size:=by rw[addBlock];omega
   have Hst:=hid (Hr.out.trans (anyD_drop (f:=bigD) ht))
   clear ht
   obtain⟨_,_,_,_,e1,hz,_,Ln,_⟩:=Hc.out.look
   cases e1
   unfold maxLen at hz
   have HL:=hid (long_c xe.names _ wr Ln)
   clear Ln
   by_cases hbig:1000 < xe.rel.size
   ·have hbig':(1000:Int) < (xe.rel.size:Int):=by omega
    have Hz:Hid (smallI t=0):=hid (by unfold smallI smallP;rw[Hst.out,bigD,decide_eq_true hbig];simp)
    go_wp2
    go_ret
    exact⟨retI (by rw[Hz.out]),hB⟩
   ·have hbig':¬ (1000:Int) < (xe.rel.size:Int):=by omega
    go_wp2_with fail
    refine HL.out.mono ?_
    rintro e w' ⟨rfl,rfl⟩
    cases hlg:longB' xe.names with
    | true=>
     have Hz:Hid (smallI t=0):=hid (by unfold smallI smallP;rw[Hst.out,bigD,hlg];simp)
     clear hlg
     go_wp2
     go_ret
     exact⟨retI (by rw[Hz.out]),hB⟩
    | false=>
     have Hz:Hid (t.decls.any bigD=(t.decls.drop (k+1)).any bigD):=hid (by rw[Hst.out,bigD,hlg,decide_eq_false hbig];rfl)
     clear hlg
     go_wp2
     go_roundw
     case rel=>exact⟨k+1,hlt,by go_num,Hz.out,hB2⟩
     case measure=>simp[intOf];omega
  ·have hlt':¬ (k:Int) < (t.decls.length:Int):=by omega
   have HN:Hid (t.decls.any bigD=false):=hid (by rw[Hr.out,List.drop_of_length_le (by omega)];rfl)
   clear Hr
   go_wp2
   go_loopw [3,5] (fun lv i wr=>∃ (k:Nat) (L:Int),k≤t.rules.length∧i=.int .i64 k∧lv=.int .i64 L ∧ -1≤L∧L≤1000000∧foldS sizeR t.rules (2000)=foldS sizeR (t.rules.drop k) L∧Below (w.heap.size+1) (w.alloc (.cells #[.slice p1 t.decls.length q1,.slice r1 t.rules.length s1] 25)) wr) (fun _ i _=>t.rules.length - (intOf i).toNat)
   case atStart=>exact⟨0,2000,Nat.zero_le _,rfl,rfl,by omega,by omega,rfl,hB2⟩
   case round=>
    obtain⟨k,L,hk,rfl,rfl,hL0,hL1,hr,hB2⟩:=hrel
    have hB:Below w.heap.size w wr:=(HB0.out _).trans (hB2.mono (by omega))
    have Hr:=hid hr
    clear hr
    have hBs:=hB2.size
    simp only[World.size_alloc] at hBs
    have hz0:w.heap.size < wr.heap.size:=by omega
    have x0:wr.cell? ⟨w.heap.size,1,none⟩=some (.slice r1 t.rules.length s1):=(hB2.cell (p:=⟨w.heap.size,1,none⟩) (by show w.heap.size < _;omega)).trans (by go_simp)
    by_cases hlt:k < t.rules.length
    ·have hlt':(k:Int) < (t.rules.length:Int):=by omega
     by_cases hL:0≤L
     ·obtain⟨xe,ht⟩:∃ xe,t.rules[k]?=some xe:=⟨t.rules[k],List.getElem?_eq_getElem hlt⟩
      obtain⟨a,p3,q3,p4,q4,rfl,ha,Hc,c0,c1,c2,c3⟩:=ru_at S2 hB ht
      have hal:(a.add (k * 4)).block < wr.heap.size:=by rw[addBlock];omega
      have Hst:=hid (Hr.out.trans (foldS_drop (f:=sizeR) ht hL))
      have Hm:=hid (List.mem_of_getElem? ht)
      clear ht
      go_wp2_with fail
      refine (sizeRule_c xe L _ [_,_,_,_] hL hL1 Hc.out).mono ?_
      rintro e w1 ⟨rfl,b1⟩
      have hB3:=hB2.trans (b1.mono (by omega))
      have lo:=sizeR_lo xe L hL
      obtain⟨L2,hL2⟩:∃ L2,sizeR xe L=L2:=⟨_,rfl⟩
      rw[hL2] at lo ⊢
      have Hst2:Hid _:=hid (Hst.out.trans (by rw[hL2]))
      clear hL2
      go_wp2
      go_roundw
      case rel=>exact⟨k+1,L2,hlt,by go_num,rfl,lo.1,by omega,Hst2.out,hB3⟩
      case measure=>simp[intOf];omega
     ·have Hz2:=hid (Hr.out.trans (foldS_neg sizeR (t.rules.drop k) (by omega)))
      have Hz4:Hid (smallI t=0):=hid (by unfold smallI smallP;rw[Hz2.out,decide_eq_false hL];simp)
      have hL':L < 0:=by omega
      go_wp2
      (go_ret;exact⟨retI (by rw[Hz4.out]),hB⟩)
    ·have hlt':¬ (k:Int) < (t.rules.length:Int):=by omega
     have Hz2:Hid (foldS sizeR t.rules (2000)=L):=hid (by rw[Hr.out,List.drop_of_length_le (by omega)];rfl)
     have Hz3:=hid Hz2.out
     have xd:wr.cell? ⟨w.heap.size,0,none⟩=some (.slice p1 t.decls.length q1):=(hB2.cell (p:=⟨w.heap.size,0,none⟩) (by show w.heap.size < _;omega)).trans (by go_simp)
     by_cases f1:L < 0
     ·have Hz4:Hid (smallI t=0):=hid (by unfold smallI smallP;rw[Hz3.out,decide_eq_false (show ¬ 0≤L by omega)];simp)
      go_wp2
      (go_ret;exact⟨retI (by rw[Hz4.out]),hB⟩)
     by_cases f2:100 < t.decls.length
     ·have f2':(100:Int) < (t.decls.length:Int):=by omega
      have Hz4:Hid (smallI t=0):=hid (by unfold smallI smallP;rw[decide_eq_false (show ¬ t.decls.length≤100 by omega)];simp)
      go_wp2
      (go_ret;exact⟨retI (by rw[Hz4.out]),hB⟩)
     have f2':¬ (100:Int) < (t.decls.length:Int):=by omega
     by_cases f3:300 < t.rules.length
     ·have f3':(300:Int) < (t.rules.length:Int):=by omega
      have Hz4:Hid (smallI t=0):=hid (by unfold smallI smallP;rw[decide_eq_false (show ¬ t.rules.length≤300 by omega)];simp)
      go_wp2
      (go_ret;exact⟨retI (by rw[Hz4.out]),hB⟩)
     have f3':¬ (300:Int) < (t.rules.length:Int):=by omega
     have Hz4:Hid (smallI t=1):=hid (by unfold smallI smallP;rw[Hz3.out,decide_eq_true (show 0≤L by omega),decide_eq_true (show t.rules.length≤300 by omega),decide_eq_true (show t.decls.length≤100 by omega),HN.out];rfl)
     go_wp2
     (go_ret;exact⟨retI (by rw[Hz4.out]),hB⟩)
end Go.Proofs.YtakpgcmfjlbcgaaGreatDoor
namespace Go.Proofs.YtakpgcmfjlbcgaaGreatDoor
open Lib(hid)
open Go.RowKit
theorem kept {W w1:World} {B:Nat} (hb:Below B W w1):(∀ b o,b < B→w1.cell? ⟨b,o,none⟩=W.cell? ⟨b,o,none⟩)∧(∀ b o,b < B→w1.frozen? ⟨b,o,none⟩=W.frozen? ⟨b,o,none⟩):=
 ⟨fun b o h=>hb.cell (p:=⟨b,o,none⟩) h,fun b o h=>hb.frozen (p:=⟨b,o,none⟩) h⟩
theorem count_c (n:Int) (w:World):Calls Tryz.prog 169 #[.int .i64 n] w fun e w'=>e=.returned (.bool (decide (1≤n) && decide (n≤8)))∧w=w':=by
 by_cases h1:1≤n
 ·by_cases h2:n≤8
  ·go_enter Tryz.func169,Tryz.ntmps169
   go_wp2
   go_ret
   exact⟨retB (by simp <;> omega),rfl⟩
  ·go_enter Tryz.func169,Tryz.ntmps169
   go_wp2
   go_ret
   exact⟨retB (by simp <;> omega),rfl⟩
 ·go_enter Tryz.func169,Tryz.ntmps169
  go_wp2
  go_ret
  exact⟨retB (by simp <;> omega),rfl⟩
theorem rec_c (t:Tm) (w:World) (cs:List Value) (hc:TmC w w.heap.size t cs) :
  Calls Tryz.prog 198 #[.agg cs.toArray] w fun e w'=>e=.returned (.bool (recB t))∧Below w.heap.size w w':=by
 obtain⟨p1,q1,rfl,_,_,_,_⟩:=hc.look
 have Hz:Hid (recB t=((t.op != 3) && (t.op != 4))):=hid rfl
 clear hc
 obtain⟨b1,hb1⟩:∃ b,(t.op != 3)=b:=⟨_,rfl⟩
 obtain⟨b2,hb2⟩:∃ b,(t.op != 4)=b:=⟨_,rfl⟩
 cases b1
 ·go_enter Tryz.func198,Tryz.ntmps198
  go_wp2
  go_ret
  exact⟨retB (by rw[Hz.out,hb1];rfl),(Below.refl _ _).alloc (Nat.le_refl _) _⟩
 ·cases b2
  ·go_enter Tryz.func198,Tryz.ntmps198
   go_wp2
   go_ret
   exact⟨retB (by rw[Hz.out,hb1,hb2];rfl),(Below.refl _ _).alloc (Nat.le_refl _) _⟩
  ·go_enter Tryz.func198,Tryz.ntmps198
   go_wp2
   go_ret
   exact⟨retB (by rw[Hz.out,hb1,hb2];rfl),(Below.refl _ _).alloc (Nat.le_refl _) _⟩
theorem empty_int (l:List Tm):l.isEmpty=((l.length:Int) == 0):=by cases l <;> simp <;> omega
set_option maxRecDepth 100000 in
set_option maxHeartbeats 4000000 in
theorem shape_leaf (op:Int) (s:ByteArray) (n:Int) (l:List Tm) (hop:twoB op=false) (w:World) (cs:List Value) (hc:TmC w w.heap.size (.mk op s n l) cs) :
  Calls Tryz.prog 194 #[.agg cs.toArray] w fun e w'=>e=.returned (.bool (shapeB (.mk op s n l)))∧Below w.heap.size w w':=by
 obtain⟨p1,q1,rfl,_,hz,_,t1⟩:=hc.look
 simp only[Tm.op_mk,Tm.s_mk,Tm.n_mk,Tm.l_mk] at hz t1 ⊢
 clear hc t1
 have hs0:shapeB (.mk op s n l)=leafB (.mk op s n l):=by unfold shapeB;simp[hop]
 have h5:(op == 5)=false:=by unfold twoB at hop;simp at hop ⊢;exact hop.1.1
 have h6:(op == 6)=false:=by unfold twoB at hop;simp at hop ⊢;exact hop.1.2
 have h7:(op == 7)=false:=by unfold twoB at hop;simp at hop ⊢;exact hop.2
 obtain⟨bn,hbn⟩:∃ b,(n == 0)=b:=⟨_,rfl⟩
 obtain⟨bl,hbl⟩:∃ b,((l.length:Int) == 0)=b:=⟨_,rfl⟩
 have hle:=empty_int l
 rw[hbl] at hle
 have A0:Hid (Below w.heap.size w (w.alloc (.cells #[.int .i64 op,.string s,.int .i64 n,.slice p1 l.length q1] 51))):=hid ((Below.refl _ _).alloc (Nat.le_refl _) _)
 by_cases o1:op=1
 ·subst o1
  have Hz:Hid (shapeB (.mk 1 s n l)=(nameB s.data.toList && bn && bl)):=hid (by rw[hs0,← hle,← hbn];rfl)
  have HN:=hid (fun w=>isName_any s w hz)
  clear hs0 hle
  go_enter Tryz.func194,Tryz.ntmps194
  go_wp2_with fail
  refine (HN.out _).mono ?_
  rintro e w1 ⟨rfl,b1⟩
  have B1:=A0.out.trans (b1.mono (by simp))
  obtain⟨hc,hf⟩:=kept b1
  have hz1:w.heap.size < w1.heap.size:=by have:=b1.size;simp at this;omega
  cases hnm:nameB s.data.toList
  ·have Hz1:Hid (shapeB (.mk 1 s n l)=false):=hid (by rw[Hz.out,hnm];rfl)
   clear hnm
   go_wp2
   go_ret
   exact⟨by rw[Hz1.out];rfl,B1⟩
  ·have Hz1:Hid (shapeB (.mk 1 s n l)=(bn && bl)):=hid (by rw[Hz.out,hnm];rfl)
   clear hnm
   cases bn <;> cases bl
   all_goals
    go_wp2
    go_ret
    exact⟨by rw[Hz1.out];rfl,B1⟩
 have e1:(op == 1)=false:=by simpa using o1
 by_cases o2:op=2
 ·subst o2
  by_cases h0:s.toList=[]
  ·have Hz:Hid (shapeB (.mk 2 s n l)=bl):=hid (by rw[hs0,← hle];show (s.toList.isEmpty && l.isEmpty)=_;rw[h0];rfl)
   clear hs0 hle
   cases bl
   all_goals
    go_enter Tryz.func194,Tryz.ntmps194
    go_wp2
    go_ret
    exact⟨by rw[Hz.out];rfl,A0.out⟩
  ·have Hz:Hid (shapeB (.mk 2 s n l)=false):=hid (by rw[hs0];show (s.toList.isEmpty && l.isEmpty)=_;simp[h0])
   clear hs0 hle
   go_enter Tryz.func194,Tryz.ntmps194
   go_wp2
   go_ret
   exact⟨by rw[Hz.out];rfl,A0.out⟩
 have e2:(op == 2)=false:=by simpa using o2
 by_cases o3:op=3
 ·subst o3
  have Hz:Hid (shapeB (.mk 3 s n l)=(bn && bl)):=hid (by rw[hs0,← hle,← hbn];rfl)
  clear hs0 hle
  cases bn <;> cases bl
  all_goals
   go_enter Tryz.func194,Tryz.ntmps194
   go_wp2
   go_ret
   exact⟨by rw[Hz.out];rfl,A0.out⟩
 have e3:(op == 3)=false:=by simpa using o3
 by_cases o4:op=4
 ·subst o4
  by_cases h0:s.toList=[]
  ·have Hz:Hid (shapeB (.mk 4 s n l)=(bn && bl)):=hid (by rw[hs0,← hle,← hbn];show (s.toList.isEmpty && (n == 0) && l.isEmpty)=_;rw[h0];rfl)
   clear hs0 hle
   cases bn <;> cases bl
   all_goals
    go_enter Tryz.func194,Tryz.ntmps194
    go_wp2
    go_ret
    exact⟨by rw[Hz.out];rfl,A0.out⟩
  ·have Hz:Hid (shapeB (.mk 4 s n l)=false):=hid (by rw[hs0];show (s.toList.isEmpty && (n == 0) && l.isEmpty)=_;simp[h0])
   clear hs0 hle
   go_enter Tryz.func194,Tryz.ntmps194
   go_wp2
   go_ret
   exact⟨by rw[Hz.out];rfl,A0.out⟩
 have e4:(op == 4)=false:=by simpa using o4
 have Hz:Hid (shapeB (.mk op s n l)=false):=hid (by rw[hs0];unfold leafB;simp[o1,o2,o3,o4])
 clear hs0 hle o1 o2 o3 o4 hop
 go_enter Tryz.func194,Tryz.ntmps194
 go_wp2
 go_ret
 exact⟨by rw[Hz.out];rfl,A0.out⟩
end Go.Proofs.YtakpgcmfjlbcgaaGreatDoor
namespace Go.Proofs.YtakpgcmfjlbcgaaGreatDoor
open Lib(hid)
open Go.RowKit
theorem two_of {l:List Tm} (h:l.length=2):∃ x y,l=[x,y]:=by
 match l,h with
 | [x,y],_=>exact⟨x,y,rfl⟩
def twoRec:List Tm→Bool
 | [a,b]=>recB a && recB b
 | _=>false
theorem not_two {l:List Tm} (h:l.length≠2):twoRec l=false:=by
 match l,h with
 | [],_=>rfl
 | [_],_=>rfl
 | [_,_],h=>exact absurd rfl h
 | _::_::_::_,_=>rfl
theorem shapeB_two {op:Int} {s:ByteArray} {n:Int} {l:List Tm} (h:twoB op=true):shapeB (.mk op s n l)=(s.toList.isEmpty && (n == 0) && twoRec l):=by
 have h':twoB (Tm.mk op s n l).op=true:=h
 unfold shapeB
 rw[if_pos h']
 match l with
 | []=>rfl
 | [_]=>rfl
 | [_,_]=>rfl
 | _::_::_::_=>rfl
set_option maxRecDepth 100000 in
set_option maxHeartbeats 4000000 in
theorem shape_two (op:Int) (s:ByteArray) (n:Int) (l:List Tm) (hop:op=5∨op=6∨op=7) (w:World) (cs:List Value) (hc:TmC w w.heap.size (.mk op s n l) cs) :
  Calls Tryz.prog 194 #[.agg cs.toArray] w fun e w'=>e=.returned (.bool (shapeB (.mk op s n l)))∧Below w.heap.size w w':=by
 obtain⟨p1,q1,rfl,_,hz,_,t1⟩:=hc.look
 simp only[Tm.op_mk,Tm.s_mk,Tm.n_mk,Tm.l_mk] at hz t1 ⊢
 have ht2:twoB op=true:=by rcases hop with rfl | rfl | rfl <;> rfl
 have hs0:=shapeB_two (s:=s) (n:=n) (l:=l) ht2
 clear hc ht2
 have A0:Hid (Below w.heap.size w (w.alloc (.cells #[.int .i64 op,.string s,.int .i64 n,.slice p1 l.length q1] 51))):=hid ((Below.refl _ _).alloc (Nat.le_refl _) _)
 by_cases h0:s.toList=[]
 ·obtain⟨bn,hbn⟩:∃ b,(n == 0)=b:=⟨_,rfl⟩
  cases bn with
  | false=>
   have Hz:Hid (shapeB (.mk op s n l)=false):=hid (by rw[hs0,hbn];simp)
   clear hs0
   rcases hop with rfl | rfl | rfl
   all_goals
    go_enter Tryz.func194,Tryz.ntmps194
    go_wp2
    go_ret
    exact⟨by rw[Hz.out];rfl,A0.out⟩
  | true=>
   obtain⟨bl,hbl⟩:∃ b,((l.length:Int) == 2)=b:=⟨_,rfl⟩
   cases bl with
   | false=>
    have hl2:l.length≠2:=by intro h;rw[h] at hbl;simp at hbl
    have Hz:Hid (shapeB (.mk op s n l)=false):=hid (by
     rw[hs0,not_two hl2,Bool.and_false])
    clear hs0
    rcases hop with rfl | rfl | rfl
    all_goals
     go_enter Tryz.func194,Tryz.ntmps194
     go_wp2
     go_ret
     exact⟨by rw[Hz.out];rfl,A0.out⟩
   | true=>
    have hl2:l.length=2:=by
     have:(l.length:Int)=2:=by simpa using hbl
     omega
    obtain⟨x,y,rfl⟩:=two_of hl2
    have Hz:Hid (shapeB (.mk op s n [x,y])=(recB x && recB y)):=hid (by rw[hs0,h0,hbn];rfl)
    obtain⟨o1,cap1,e1,hc1,hm1,S1⟩:=SlOf.open t1
    cases e1
    obtain⟨a,p3,q3,rfl,ha,Hc,c0,c1,c2,c3⟩:=tm_at S1 (Below.refl _ _) (show [x,y][0]?=some x from rfl)
    obtain⟨a',p4,q4,e2,ha',Hd,d0,d1,d2,d3⟩:=tm_at S1 (Below.refl _ _) (show [x,y][1]?=some y from rfl)
    cases e2
    have hal:(a.add (0 * 4)).block < w.heap.size:=by rw[addBlock];omega
    have hal':(a.add (1 * 4)).block < w.heap.size:=by rw[addBlock];omega
    simp only[Nat.zero_mul,Nat.one_mul] at c0 c1 c2 c3 d0 d1 d2 d3 hal hal'
    have ea:a.add 0=a:=by unfold Addr.add;simp
    rw[ea] at c0 c1 c2 c3 hal
    have e4:a.add 4=⟨a.block,a.off+4,none⟩:=by unfold Addr.add;simp
    simp only[e4] at d0 d1 d2 d3 hal'
    clear ea e4
    have HX:=hid (fun (W:World) (hb:Below w.heap.size w W)=>rec_c x W _ ((Hc.out.under hb).more hb.size))
    have HY:=hid (fun (W:World) (hb:Below w.heap.size w W)=>rec_c y W _ ((Hd.out.under hb).more hb.size))
    clear hs0 t1 S1 Hc Hd
    rcases hop with rfl | rfl | rfl
    all_goals
     go_enter Tryz.func194,Tryz.ntmps194
     go_wp2_with fail
     refine (HX.out _ A0.out).mono ?_
     rintro e w1 ⟨rfl,b1⟩
     have B1:=A0.out.trans (b1.mono (by simp))
     obtain⟨hc,hf⟩:=kept b1
     have hz1:w.heap.size < w1.heap.size:=by have:=b1.size;simp at this;omega
     have K:=fun (p:Addr) (hp:p.block < w.heap.size)=>B1.cell (p:=p) hp
     have f0:=(K ⟨a.block,a.off+4,none⟩ hal').trans d0
     have f1:=(K ⟨a.block,a.off+4+1,none⟩ hal').trans d1
     have f2:=(K ⟨a.block,a.off+4+2,none⟩ hal').trans d2
     have f3:=(K ⟨a.block,a.off+4+3,none⟩ hal').trans d3
     clear K
     cases hx:recB x with
     | false=>
      have Hz1:=hid (Hz.out.trans (by rw[hx];rfl:_=false))
      clear hx
      go_wp2
      go_ret
      exact⟨by rw[Hz1.out];rfl,B1⟩
     | true=>
      have Hz1:=hid (Hz.out.trans (by rw[hx];rfl:_=recB y))
      clear hx
      go_wp2_with fail
      refine (HY.out _ B1).mono ?_
      rintro e w2 ⟨rfl,b2⟩
      go_wp2
      go_ret
      exact⟨by rw[Hz1.out];rfl,B1.trans (b2.mono (by omega))⟩
 ·have Hz:Hid (shapeB (.mk op s n l)=false):=hid (by rw[hs0];simp[h0])
  clear hs0
  rcases hop with rfl | rfl | rfl
  all_goals
   go_enter Tryz.func194,Tryz.ntmps194
   go_wp2
   go_ret
   exact⟨by rw[Hz.out];rfl,A0.out⟩
theorem tshape_c (t:Tm) (w:World) (cs:List Value) (hc:TmC w w.heap.size t cs) :
  Calls Tryz.prog 194 #[.agg cs.toArray] w fun e w'=>e=.returned (.bool (shapeB t))∧Below w.heap.size w w':=by
 obtain⟨op,s,n,l⟩:=t
 cases h:twoB op with
 | false=>exact shape_leaf op s n l h w cs hc
 | true=>exact shape_two op s n l (by unfold twoB at h;simp at h;omega) w cs hc
end Go.Proofs.YtakpgcmfjlbcgaaGreatDoor
namespace Go.Proofs.YtakpgcmfjlbcgaaGreatDoor
open Lib(hid)
open Go.RowKit Go.Shelf
attribute [local go_sem] Oper.semAt_some
structure KC (W W':World):Prop where
 size:W.heap.size≤W'.heap.size
 same:∀ (i:Nat) (o:Obj),W.heap[i]?=some o→o.isCells=true→W'.heap[i]?=some o
theorem KC.refl (W:World):KC W W:=⟨Nat.le_refl _,fun _ _ h _=>h⟩
theorem KC.trans {A B C:World} (h:KC A B) (k:KC B C):KC A C:=⟨Nat.le_trans h.size k.size,fun i o hi ho=>k.same i o (h.same i o hi ho) ho⟩
theorem KC.of_below {W W':World} (h:Below W.heap.size W W'):KC W W':=
 ⟨h.size,fun i _ hi _=>(h.block i (Array.getElem?_eq_some_iff.1 hi).1).trans hi⟩
theorem KC.cell {W W':World} (k:KC W W') {p:Addr} {v:Value} (h:W.cell? p=some v):W'.cell? p=some v:=by
 unfold World.cell? at h ⊢
 cases ho:W.heap[p.block]? with
 | none=>rw[ho] at h;simp at h
 | some o=>
  rw[ho] at h
  cases hc:o.isCells with
  | true=>rw[k.same _ _ ho hc];exact h
  | false=>cases o <;> simp_all [Obj.isCells]
theorem KC.put (W:World) (l:Nat) (o o':Obj) (ho:W.heap[l]?=some o) (hc:o.isCells=false):KC W (W.putObj l o'):=by
 refine⟨by simp[World.putObj],fun i x hi hx=>?_⟩
 have hne:i≠l:=by rintro rfl;rw[ho] at hi;cases hi;rw[hc] at hx;cases hx
 simpa[World.putObj,hne.symm] using hi
theorem CellsAt.kc {w w':World} {a:Addr} {o:Nat} {cs:List Value} (h:CellsAt w a o cs) (k:KC w w'):CellsAt w' a o cs:=fun j c hc=>k.cell (h j c hc)
theorem TmC.kc {w w':World} {B:Nat} {t:Tm} {cs:List Value} (h:TmC w B t cs) (k:KC w w'):TmC w' B t cs:=by
 induction h with
 | nil op s n h1 h2 h3=>exact .nil op s n h1 h2 h3
 | row op s n l a cap cs h1 h2 h3 h4 h5 h6 _ h8 ih=>exact .row op s n l a cap cs h1 h2 h3 h4 h5 h6 ih fun i x hx=>⟨(h8 i x hx).1,(h8 i x hx).2.kc k⟩
def nextLv (lv:Int):Int:=IntKind.i64.wrap (lv+1)
mutual
def nodesT:Int→Tm→List (Int × Tm)
 | lv,.mk o s n l=>(lv,.mk o s n l)::nodesTs (nextLv lv) l
def nodesTs:Int→List Tm→List (Int × Tm)
 | _,[]=>[]
 | lv,t::ts=>nodesT lv t++nodesTs lv ts
end
theorem nodesT_eq (lv:Int) (t:Tm):nodesT lv t=(lv,t)::nodesTs (nextLv lv) t.l:=by cases t;unfold nodesT;rfl
def goodN (x:Int × Tm):Bool:=decide (x.1≤20) && shapeB x.2
theorem nodes_ok:∀ t:Tm,∀ lv:Nat,(nodesT (lv:Int) t).all goodN=okT lv t:=by
 intro t
 induction t using Tm.rec (motive_2:=fun l=>∀ lv:Nat,(nodesTs (lv:Int) l).all goodN=okTs lv l) with
 | nil lv=>simp[nodesTs,okTs]
 | cons t ts ih ihs lv=>unfold nodesTs okTs;rw[List.all_append,ih,ihs]
 | mk op s n l ih=>
  intro lv
  rw[nodesT_eq,okT_eq,List.all_cons]
  by_cases h:lv≤20
  ·have e:nextLv (lv:Int)=((lv+1:Nat):Int):=by
    unfold nextLv
    rw[IntWalk.i64_in _ (by omega)]
    omega
   rw[e,Tm.l_mk,ih]
   unfold goodN
   rw[show decide ((lv:Int)≤20)=decide (lv≤20) from decide_eq_decide.2 (by omega)]
  ·unfold goodN
   rw[show decide ((lv:Int)≤20)=false by simpa using by omega,show decide (lv≤20)=false by simpa using by omega]
   rfl
structure Nd (w:World) (B:Nat) where
 lv:Int
 t:Tm
 cs:List Value
 ok:TmC w B t cs
def Nd.pair {w:World} {B:Nat} (x:Nd w B):Int × Tm:=(x.lv,x.t)
def Nd.enc {w:World} {B:Nat} (x:Nd w B):Array Value:=#[.int .i64 x.lv,.agg x.cs.toArray]
section
variable {w0:World} {n₀:Nat}
def VPost (J Jx:List (Nd w0 n₀)→World→Prop) (lv:Int) (t:Tm) (pre:List (Nd w0 n₀)) (W:World) (e:Ending) (W':World):Prop:=
 (e=.returned (.bool true)∧(∃ ys,ys.map Nd.pair=nodesT lv t∧J (pre++ys) W')∧KC W W')∨(e=.returned (.bool false)∧∃ ys,ys.map Nd.pair <+: nodesT lv t∧Jx (pre++ys) W')
def VisitAt (l N:Nat) (J Jx:List (Nd w0 n₀)→World→Prop) (t:Tm):Prop:=
 ∀ (n:Nat) (lv:Int) (W:World) (cs:List Value) (pre:List (Nd w0 n₀)),KC w0 W→TmC w0 n₀ t cs→J pre W→pre.length+(nodesT lv t).length≤N →
  CallsIn Fence.wide n Tryz.prog 197 #[.agg cs.toArray,.int .i64 lv,.func (.yield l) #[] #[]] W (VPost J Jx lv t pre W)
theorem nodesTs_take {lv:Int} {l:List Tm} {k:Nat} {t:Tm} (h:l[k]?=some t):nodesTs lv (l.take (k+1))=nodesTs lv (l.take k)++nodesT lv t:=by
 have app:∀ a b:List Tm,nodesTs lv (a++b)=nodesTs lv a++nodesTs lv b:=by
  intro a b
  induction a with
  | nil=>simp[nodesTs]
  | cons x a ih=>simp[nodesTs,ih]
 rw[List.take_succ_eq_append_getElem (List.getElem?_eq_some_iff.1 h).1,app,(List.getElem?_eq_some_iff.1 h).2]
 simp[nodesTs]
theorem nodesTs_pre {lv:Int} {l:List Tm} (k:Nat):nodesTs lv (l.take k) <+: nodesTs lv l:=by
 have app:∀ a b:List Tm,nodesTs lv (a++b)=nodesTs lv a++nodesTs lv b:=by
  intro a b
  induction a with
  | nil=>simp[nodesTs]
  | cons x a ih=>simp[nodesTs,ih]
 exact⟨nodesTs lv (l.drop k),by rw[← app,List.take_append_drop]⟩
theorem nd_at {w wr:World} {B:Nat} {l:List Tm} {o:Option Addr} {k:Nat} {t:Tm} (S:Hid (SlIn w B 4 (TmC w B) l o)) (hk:KC w wr) (ht:l[k]?=some t) :
  ∃ a o' cap',o=some a∧a.block < B∧Hid (TmC w B t [.int .i64 t.op,.string t.s,.int .i64 t.n,.slice o' t.l.length cap']) ∧
   wr.cell? (a.add (k * 4))=some (.int .i64 t.op)∧wr.cell? ⟨(a.add (k * 4)).block,(a.add (k * 4)).off+1,none⟩=some (.string t.s)∧wr.cell? ⟨(a.add (k * 4)).block,(a.add (k * 4)).off+2,none⟩=some (.int .i64 t.n)∧wr.cell? ⟨(a.add (k * 4)).block,(a.add (k * 4)).off+3,none⟩=some (.slice o' t.l.length cap'):=by
 obtain⟨a,cs,rfl,ha,_,h1,h2⟩:=S.out k t ht
 obtain⟨o',cap',rfl,_⟩:=h1.look
 exact⟨a,o',cap',rfl,ha,hid h1,(h2.kc hk).four⟩
set_option maxRecDepth 100000 in
set_option maxHeartbeats 8000000 in
theorem visit_in (l N:Nat) (J Jx:List (Nd w0 n₀)→World→Prop)
  (hJg:∀ pre W W',J pre W→Below W.heap.size W W'→J pre W')
  (hY:∀ m pre (x:Nd w0 n₀) W,J pre W→pre.length < N→YieldAt Fence.wide m Tryz.prog l x.enc W fun e W'=>(e=.returned (.bool true)∧J (pre++[x]) W'∧KC W W')∨(e=.returned (.bool false)∧Jx (pre++[x]) W'))
  (t:Tm):VisitAt l N J Jx t:=by
 induction t using Tm.rec (motive_2:=fun ts=>∀ t ∈ ts,VisitAt l N J Jx t) with
 | nil x hx=>simp at hx
 | cons t ts ih ihs x hx=>
  rcases List.mem_cons.1 hx with rfl | hx
  ·exact ih
  ·exact ihs x hx
 | mk op s m ts ih=>
  intro n lv W cs pre hK hc hJ hN
  obtain⟨p1,q1,rfl,_,_,_,t1⟩:=hc.look
  obtain⟨o1,cap1,e1,hc1,hm1,S1⟩:=SlOf.open t1
  cases e1
  have hnodes:=nodesT_eq lv (.mk op s m ts)
  simp only[Tm.op_mk,Tm.s_mk,Tm.n_mk,Tm.l_mk] at hc hnodes hc1 S1 ⊢
  obtain⟨x,hx⟩:∃ x:Nd w0 n₀,x=⟨lv,.mk op s m ts,[.int .i64 op,.string s,.int .i64 m,.slice p1 ts.length q1],hc⟩:=⟨_,rfl⟩
  have hxe:x.enc=#[.int .i64 lv,.agg #[.int .i64 op,.string s,.int .i64 m,.slice p1 ts.length q1]]:=by rw[hx];rfl
  have hxp:x.pair=(lv,.mk op s m ts):=by rw[hx];rfl
  have hJ1:=hJg pre W (W.alloc (.cells #[.int .i64 op,.string s,.int .i64 m,.slice p1 ts.length q1] 51)) hJ ((Below.refl _ _).alloc (Nat.le_refl _) _)
  rw[hnodes,List.length_cons] at hN
  obtain⟨fn,tmps,assign,body,hy,hR⟩:=hY (n - 1) pre x _ hJ1 (by omega)
  rw[hxe] at hy
  have IH:=hid ih
  have Hn:=hid hnodes
  have Hxp:=hid hxp
  clear hx hxe hxp ih hnodes hJ1 t1 hc
  refine callsIn_of_wp Tryz.func197 rfl trivial ?_ rfl
  simp only[Tryz.ntmps197,List.size_toArray,List.length_cons,List.length_nil,Nat.reduceAdd,Nat.reduceSub,Array.replicate_succ,Array.replicate_zero,List.push_toArray,List.append_toArray,List.nil_append,List.cons_append]
  gi_wp2
  refine⟨fun h=>(by cases h),hR.mono ?_⟩
  rintro e W1 (⟨rfl,hJ2,hk2⟩ | ⟨rfl,hx2⟩)
  ·have hk1:KC W W1:=(KC.of_below ((Below.refl _ _).alloc (Nat.le_refl _) (.cells #[.int .i64 op,.string s,.int .i64 m,.slice p1 ts.length q1] 51))).trans hk2
   have x0:W1.cell? ⟨W.heap.size,3,none⟩=some (.slice p1 ts.length q1):=hk2.cell (by go_simp)
   gi_wp2
   gi_loopw [17] (fun i wr=>∃ (k:Nat) (ys:List (Nd w0 n₀)),k≤ts.length∧i=.int .i64 k∧ys.map Nd.pair=(lv,.mk op s m ts)::nodesTs (nextLv lv) (ts.take k)∧J (pre++ys) wr∧KC W wr) (fun i _=>ts.length - (intOf i).toNat)
   case atStart=>exact⟨0,[x],Nat.zero_le _,rfl,by simp[Hxp.out,nodesTs],hJ2,hk1⟩
   case round=>
    obtain⟨k,ys,hk,rfl,hys,hJk,hkk⟩:=hrel
    have Hys:=hid hys
    clear hys
    by_cases hlt:k < ts.length
    ·have hlt':(k:Int) < (ts.length:Int):=by omega
     obtain⟨u,hu⟩:∃ u,ts[k]?=some u:=⟨ts[k],List.getElem?_eq_getElem hlt⟩
     obtain⟨a,p2,q2,rfl,ha,Hc,c0,c1,c2,c3⟩:=nd_at S1 (hK.trans hkk) hu
     have Htk:=hid (nodesTs_take (lv:=nextLv lv) hu)
     have Hm:=hid (List.mem_of_getElem? hu)
     have gw:IntKind.i64.wrap (lv+1)=nextLv lv:=rfl
     have hlen:(pre++ys).length+(nodesT (nextLv lv) u).length≤N:=by
      have h1:=congrArg List.length Hys.out
      have h2:=(nodesTs_pre (lv:=nextLv lv) (l:=ts) (k+1)).length_le
      rw[Htk.out] at h2
      simp only[List.length_map,List.length_cons,List.length_append] at h1 h2 ⊢
      omega
     clear hu
     have HI:=hid (fun (V:World) (hv:Below wr.heap.size wr V)=>IH.out u Hm.out (n - 1) (nextLv lv) V [_,_,_,_] (pre++ys) ((hK.trans hkk).trans (KC.of_below hv)) Hc.out (hJg _ _ _ hJk hv) hlen)
     gi_wp2_with fail
     refine⟨trivial,fun h=>(by cases h),(HI.out _ ((Below.refl _ _).alloc (Nat.le_refl _) _)).mono ?_⟩
     rintro e W2 (⟨rfl,⟨zs,hz,hJ3⟩,hk3⟩ | ⟨rfl,zs,hz,hx3⟩)
     ·have Hz:=hid hz
      clear hz
      gi_wp2
      go_roundw
      case rel=>
       exact⟨k+1,ys++zs,hlt,by go_num,by rw[List.map_append,Hys.out,Hz.out,Htk.out];rfl,by rw[← List.append_assoc];exact hJ3,(hkk.trans (KC.of_below ((Below.refl _ _).alloc (Nat.le_refl _) _))).trans hk3⟩
      case measure=>simp[intOf];omega
     ·have Hz:=hid hz
      clear hz
      gi_wp2
      go_ret
      refine .inr ⟨rfl,ys++zs,?_,by rw[← List.append_assoc];exact hx3⟩
      rw[Hn.out,List.map_append,Hys.out,List.cons_append]
      obtain⟨r,hr⟩:=Hz.out
      obtain⟨r2,hr2⟩:=nodesTs_pre (lv:=nextLv lv) (l:=ts) (k+1)
      rw[Htk.out,← hr] at hr2
      exact⟨r++r2,by rw[← hr2];simp⟩
    ·have hlt':¬ (k:Int) < (ts.length:Int):=by omega
     gi_wp2
     go_ret
     refine .inl ⟨rfl,⟨ys,?_,hJk⟩,hkk⟩
     rw[Hys.out,Hn.out,List.take_of_length_le (by omega)]
  ·gi_wp2
   go_ret
   exact .inr ⟨rfl,[x],by rw[Hn.out];simp[Hxp.out],hx2⟩
end
end Go.Proofs.YtakpgcmfjlbcgaaGreatDoor
