/- Tchk@012, Tlit@012, Tchk2@012, Tright@012 -/
import Derived.Deep.RegionHeld3
import Derived.Test.YtfmldnbcjbflbaaGreatDoorQ6
set_option linter.unusedSimpArgs false
set_option linter.unusedVariables false
namespace Go.Proofs.YtfmldnbcjbflbaaGreatDoor
open Lib(hid)
open Go.RowKit
theorem okV_t (a:Addr):okV a true=.nilIface:=rfl
theorem okV_f (a:Addr):okV a false=.iface 191 (.pointer (some a)):=rfl
theorem all_drop {α:Type} {f:α→Bool} {l:List α} {k:Nat} {t:α} (h:l[k]?=some t):(l.drop k).all f=(f t && (l.drop (k+1)).all f):=by
 have h1:l.drop k=t::l.drop (k+1):=by rw[List.drop_eq_getElem_cons (List.getElem?_eq_some_iff.1 h).1,(List.getElem?_eq_some_iff.1 h).2]
 rw[h1];rfl
set_option maxRecDepth 100000 in
set_option maxHeartbeats 4000000 in
theorem checkAtom_c (t:Am) (a:Addr) (w:World) (cs:List Value) (hc:AmC w w.heap.size t cs) (E:TErr a w) :
  Calls Tryz.prog 140 #[.agg cs.toArray] w fun e w'=>e=.returned (okV a (rightA t))∧Below w.heap.size w w':=by
 obtain⟨p1,q1,rfl,hz,t1⟩:=hc.look
 have HN:=hid (fun w=>isName_any t.rel w hz)
 have HT:=hid (fun (W:World) (hb:Below w.heap.size w W)=>checkTerms_c t.l _ a W ((TmS.below t1 hb).more hb.size) (E.below hb))
 obtain⟨o1,cap1,e1,hc1,hm1,_⟩:=SlOf.open t1
 cases e1
 have herr:=E.err
 have hgs:=E.size
 have HE:=hid E
 clear E
 clear hc t1
 have HB0:Hid (∀ (x:Obj),Below w.heap.size w (w.alloc x)):=hid fun x=>(Below.refl _ _).alloc (Nat.le_refl _) _
 have Hz:Hid (rightA t=(nameB t.rel.data.toList && (decide (1≤(t.l.length:Int)) && decide ((t.l.length:Int)≤8)) && t.l.all (rightT 20))):=hid (by
  unfold rightA
  rw[show decide (1≤(t.l.length:Int))=decide (1≤t.l.length) from decide_eq_decide.2 (by omega),show decide ((t.l.length:Int)≤8)=decide (t.l.length≤8) from decide_eq_decide.2 (by omega)]
  cases nameB t.rel.data.toList <;> simp)
 go_enter Tryz.func140,Tryz.ntmps140
 go_wp2_with fail
 refine (HN.out _).mono ?_
 rintro e w1 ⟨rfl,b1⟩
 have B1:=(HB0.out _).trans (b1.mono (by simp))
 obtain⟨hc,hf⟩:=kept b1
 have hz1:w.heap.size < w1.heap.size:=by have:=b1.size;simp at this;omega
 have herr1:=(HE.out.below B1).err
 cases hnm:nameB t.rel.data.toList with
 | false=>
  have Hz1:Hid (rightA t=false):=hid (by rw[Hz.out,hnm];rfl)
  clear hnm
  go_wp2
  go_ret
  exact⟨by rw[Hz1.out];rfl,B1⟩
 | true=>
  have Hz1:Hid (rightA t=((decide (1≤(t.l.length:Int)) && decide ((t.l.length:Int)≤8)) && t.l.all (rightT 20))):=hid (by rw[Hz.out,hnm];rfl)
  clear hnm
  go_wp2_with fail
  refine (count_c _ _).mono ?_
  rintro e w' ⟨rfl,rfl⟩
  cases hcn:(decide (1≤(t.l.length:Int)) && decide ((t.l.length:Int)≤8)) with
  | false=>
   have Hz2:Hid (rightA t=false):=hid (by rw[Hz1.out,hcn];rfl)
   clear hcn
   go_wp2
   go_ret
   exact⟨by rw[Hz2.out];rfl,B1⟩
  | true=>
   have Hz2:Hid (rightA t=t.l.all (rightT 20)):=hid (by rw[Hz1.out,hcn];rfl)
   clear hcn
   go_wp2_with fail
   refine (HT.out _ B1).mono ?_
   rintro e w2 ⟨rfl,b2⟩
   go_wp2
   go_ret
   exact⟨by rw[Hz2.out];rfl,B1.trans (b2.mono (by omega))⟩
set_option maxRecDepth 100000 in
set_option maxHeartbeats 4000000 in
theorem checkHead_c (t:Am) (fact:Bool) (a:Addr) (w:World) (cs:List Value) (hc:AmC w w.heap.size t cs) (E:TErr a w) :
  Calls Tryz.prog 119 #[.agg cs.toArray,.bool fact] w fun e w'=>e=.returned (okV a (t.l.all (headT fact) && rightA t))∧Below w.heap.size w w':=by
 obtain⟨p1,q1,rfl,hz,t1⟩:=hc.look
 have HA:=hid (fun (W:World) (hb:Below w.heap.size w W)=>checkAtom_c t a W _ ((hc.below hb).more hb.size) (E.below hb))
 obtain⟨o1,cap1,e1,hc1,hm1,S1⟩:=SlOf.open t1
 cases e1
 have herr:=E.err
 have hgs:=E.size
 have HE:=hid E
 clear E
 clear hc t1
 have HB0:Hid (∀ (x:Obj),Below w.heap.size w (w.alloc x)):=hid fun x=>(Below.refl _ _).alloc (Nat.le_refl _) _
 go_enter Tryz.func119,Tryz.ntmps119
 go_wp2
 go_loopw [10] (fun i wr=>∃ k:Nat,k≤t.l.length∧i=.int .i64 k∧t.l.all (headT fact)=(t.l.drop k).all (headT fact)∧Below (w.heap.size+1) (w.alloc (.cells #[.string t.rel,.slice p1 t.l.length q1] 34)) wr) (fun i _=>t.l.length - (intOf i).toNat)
 case atStart=>exact⟨0,Nat.zero_le _,rfl,rfl,Below.refl _ _⟩
 case round=>
  obtain⟨k,hk,rfl,hr,hB2⟩:=hrel
  have hB:Below w.heap.size w wr:=(HB0.out _).trans (hB2.mono (by omega))
  have Hr:=hid hr
  clear hr
  have hBs:=hB2.size
  simp only[World.size_alloc] at hBs
  have hz0:w.heap.size < wr.heap.size:=by omega
  have x0:wr.cell? ⟨w.heap.size,0,none⟩=some (.string t.rel):=(hB2.cell (p:=⟨w.heap.size,0,none⟩) (by show w.heap.size < _;omega)).trans (by go_simp)
  have x1:wr.cell? ⟨w.heap.size,1,none⟩=some (.slice p1 t.l.length q1):=(hB2.cell (p:=⟨w.heap.size,1,none⟩) (by show w.heap.size < _;omega)).trans (by go_simp)
  have herr1:=(HE.out.below hB).err
  have hgs1:=(HE.out.below hB).size
  by_cases hlt:k < t.l.length
  ·have hlt':(k:Int) < (t.l.length:Int):=by omega
   obtain⟨xe,ht⟩:∃ xe,t.l[k]?=some xe:=⟨t.l[k],List.getElem?_eq_getElem hlt⟩
   obtain⟨b,p3,q3,rfl,ha,Hc,c0,c1,c2,c3⟩:=tm_at S1 hB ht
   have hal:(b.add (k * 4)).block < wr.heap.size:=by rw[addBlock];omega
   have Hst:=hid (Hr.out.trans (all_drop (f:=headT fact) ht))
   clear ht Hc
   obtain⟨op,xs,xn,xl⟩:=xe
   simp only[Tm.op_mk,Tm.s_mk,Tm.n_mk,Tm.l_mk] at c0 c1 c2 c3
   have Hno:Hid (headT fact (.mk op xs xn xl)=false→(t.l.all (headT fact) && rightA t)=false):=hid (fun h=>by rw[Hst.out,h];rfl)
   have Hyes:Hid (headT fact (.mk op xs xn xl)=true→t.l.all (headT fact)=(t.l.drop (k+1)).all (headT fact)):=hid (fun h=>by rw[Hst.out,h];rfl)
   have hw1:Below (w.heap.size+1) wr (wr.alloc (.cells #[.int .i64 op,.string xs,.int .i64 xn,.slice p3 xl.length q3] 51)):=(Below.refl _ _).alloc (by omega) _
   have Hw1:=hid hw1
   clear hw1
   by_cases o1:op=1
   ·subst o1
    cases fact with
    | true=>
     have Hz:=hid (Hno.out rfl)
     go_wp2
     go_ret
     exact⟨by rw[Hz.out];rfl,hB.trans (Hw1.out.mono (by omega))⟩
    | false=>
     have Hz:=hid (Hyes.out rfl)
     go_wp2
     go_roundw
     case rel=>exact⟨k+1,hlt,by go_num,Hz.out,hB2.trans Hw1.out⟩
     case measure=>simp[intOf];omega
   have e1:(op == 1)=false:=by simpa using o1
   by_cases o4:op=4∨op=5∨op=6∨op=7
   ·have Hz:=hid (Hno.out (by rcases o4 with rfl | rfl | rfl | rfl <;> rfl))
    clear o1
    rcases o4 with rfl | rfl | rfl | rfl
    all_goals
     go_wp2
     go_ret
     exact⟨by rw[Hz.out];rfl,hB.trans (Hw1.out.mono (by omega))⟩
   have e4:(op == 4)=false:=by rw[beq_eq_false_iff_ne];omega
   have e5:(op == 5)=false:=by rw[beq_eq_false_iff_ne];omega
   have e6:(op == 6)=false:=by rw[beq_eq_false_iff_ne];omega
   have e7:(op == 7)=false:=by rw[beq_eq_false_iff_ne];omega
   have Hz:=hid (Hyes.out (by unfold headT twoB;simp only[Tm.op_mk,e1,e4,e5,e6,e7];rfl))
   clear o1 o4
   go_wp2
   go_roundw
   case rel=>exact⟨k+1,hlt,by go_num,Hz.out,hB2.trans Hw1.out⟩
   case measure=>simp[intOf];omega
  ·have hlt':¬ (k:Int) < (t.l.length:Int):=by omega
   have Hz:Hid ((t.l.all (headT fact) && rightA t)=rightA t):=hid (by rw[Hr.out,List.drop_of_length_le (by omega)];rfl)
   go_wp2_with fail
   refine (HA.out _ hB).mono ?_
   rintro e w1 ⟨rfl,b1⟩
   go_wp2
   go_ret
   exact⟨by rw[Hz.out];rfl,hB.trans (b1.mono (by omega))⟩
def zeroT:Tm:=.mk 0 ⟨#[]⟩ 0 []
theorem zero_c (w:World) (B:Nat):TmC w B zeroT [.int .i64 0,.string ⟨#[]⟩,.int .i64 0,.slice none 0 0]:=.nil 0 ⟨#[]⟩ 0 ⟨by omega,by omega⟩ (by decide) ⟨by omega,by omega⟩
theorem same_zero (t:Tm):sameT t zeroT=noT t:=by
 rw[sameT_eq]
 unfold noT zeroT
 simp only[Tm.op_mk,Tm.s_mk,Tm.n_mk,Tm.l_mk]
 have h1:(t.s.toList == (⟨#[]⟩:ByteArray).toList)=t.s.toList.isEmpty:=by
  have:(⟨#[]⟩:ByteArray).toList=[]:=by rw[Lib.toList_data]
  rw[this]
  cases t.s.toList <;> rfl
 have h2:allS sameT t.l []=t.l.isEmpty:=by cases t.l <;> rfl
 rw[h1,h2]
theorem noT_zero:noT zeroT=true:=by
 unfold noT zeroT
 simp only[Tm.op_mk,Tm.s_mk,Tm.n_mk,Tm.l_mk]
 rw[Lib.toList_data]
 rfl
theorem zero_zero:sameT zeroT zeroT=true:=by rw[same_zero,noT_zero]
theorem boxk {W W1:World} {B:Nat} (n:Nat) (hb:Below B W W1) (hn:n < B):(∀ o,W1.cell? ⟨n,o,none⟩=W.cell? ⟨n,o,none⟩)∧(∀ o,W1.frozen? ⟨n,o,none⟩=W.frozen? ⟨n,o,none⟩):=
 ⟨fun o=>hb.cell (p:=⟨n,o,none⟩) hn,fun o=>hb.frozen (p:=⟨n,o,none⟩) hn⟩
theorem one_slice (W:World) (T:TypeId) (t:Tm) (cs:List Value) (h:TmC W W.heap.size t cs):TmS (W.alloc (.cells cs.toArray T)) (W.alloc (.cells cs.toArray T)).heap.size [t] (.slice (some ⟨W.heap.size,0,none⟩) 1 1):=by
 have hb:Below W.heap.size W (W.alloc (.cells cs.toArray T)):=(Below.refl _ _).alloc (Nat.le_refl _) _
 refine .inr ⟨⟨W.heap.size,0,none⟩,1,rfl,Nat.le_refl _,by unfold maxLen;omega,fun _=>by simp,fun i x hx=>?_⟩
 match i,hx with
 | 0,hx=>
  simp only[List.getElem?_cons_zero,Option.some.injEq] at hx
  subst hx
  exact⟨cs,h.len,(h.under hb).more hb.size,newCells W cs T⟩
theorem two_slice (W:World) (T:TypeId) (t u:Tm) (cs ds:List Value) (h:TmC W W.heap.size t cs) (h':TmC W W.heap.size u ds):TmS (W.alloc (.cells (cs++ds).toArray T)) (W.alloc (.cells (cs++ds).toArray T)).heap.size [t,u] (.slice (some ⟨W.heap.size,0,none⟩) 2 2):=by
 have hb:Below W.heap.size W (W.alloc (.cells (cs++ds).toArray T)):=(Below.refl _ _).alloc (Nat.le_refl _) _
 have hN:=newCells W (cs++ds) T
 refine .inr ⟨⟨W.heap.size,0,none⟩,2,rfl,Nat.le_refl _,by unfold maxLen;omega,fun _=>by simp,fun i x hx=>?_⟩
 match i,hx with
 | 0,hx=>
  simp only[List.getElem?_cons_zero,Option.some.injEq] at hx
  subst hx
  refine⟨cs,h.len,(h.under hb).more hb.size,fun j c hj=>hN j c ?_⟩
  rw[List.getElem?_append_left (List.getElem?_eq_some_iff.1 hj).1]
  exact hj
 | 1,hx=>
  simp only[List.getElem?_cons_succ,List.getElem?_cons_zero,Option.some.injEq] at hx
  subst hx
  refine⟨ds,h'.len,(h'.under hb).more hb.size,fun j c hj=>?_⟩
  have:=hN (4+j) c (by rw[List.getElem?_append_right (by rw[h.len];omega),h.len,Nat.add_sub_cancel_left];exact hj)
  simpa using this
set_option maxRecDepth 100000 in
set_option maxHeartbeats 4000000 in
theorem checkLit_agg (t:Lt) (h8:8≤t.op∧t.op≤10) (a:Addr) (w:World) (cs:List Value) (hc:LtC w w.heap.size t cs) (E:TErr a w) :
  Calls Tryz.prog 120 #[.agg cs.toArray] w fun e w'=>e=.returned (okV a (rightL t))∧Below w.heap.size w w':=by
 obtain⟨o0,k0,o1,k1,o2,k2,rfl,_,HA,HX,HY⟩:=hc.look
 have HCY:Hid (∀ (W:World) (n:Nat),W.heap.size=n→Below w.heap.size w W→Calls Tryz.prog 141 #[.slice (some ⟨n,0,none⟩) 1 1] (W.alloc (.cells #[.int .i64 t.y.op,.string t.y.s,.int .i64 t.y.n,.slice o2 t.y.l.length k2] 51)) fun e w'=>e=.returned (okV a (rightT 20 t.y))∧Below (W.alloc (.cells #[.int .i64 t.y.op,.string t.y.s,.int .i64 t.y.n,.slice o2 t.y.l.length k2] 51)).heap.size (W.alloc (.cells #[.int .i64 t.y.op,.string t.y.s,.int .i64 t.y.n,.slice o2 t.y.l.length k2] 51)) w'):=hid (by
  intro W n hn hb
  subst hn
  have:=checkTerms_c [t.y] _ a _ (one_slice W 51 t.y [.int .i64 t.y.op,.string t.y.s,.int .i64 t.y.n,.slice o2 t.y.l.length k2] ((HY.under hb).more hb.size)) ((E.below hb).below ((Below.refl _ _).alloc (Nat.le_refl _) _))
  rwa [show [t.y].all (rightT 20)=rightT 20 t.y by simp] at this)
 have HCX:Hid (∀ (W:World) (n:Nat),W.heap.size=n→Below w.heap.size w W→Calls Tryz.prog 141 #[.slice (some ⟨n,0,none⟩) 1 1] (W.alloc (.cells #[.int .i64 t.x.op,.string t.x.s,.int .i64 t.x.n,.slice o1 t.x.l.length k1] 51)) fun e w'=>e=.returned (okV a (rightT 20 t.x))∧Below (W.alloc (.cells #[.int .i64 t.x.op,.string t.x.s,.int .i64 t.x.n,.slice o1 t.x.l.length k1] 51)).heap.size (W.alloc (.cells #[.int .i64 t.x.op,.string t.x.s,.int .i64 t.x.n,.slice o1 t.x.l.length k1] 51)) w'):=hid (by
  intro W n hn hb
  subst hn
  have:=checkTerms_c [t.x] _ a _ (one_slice W 51 t.x [.int .i64 t.x.op,.string t.x.s,.int .i64 t.x.n,.slice o1 t.x.l.length k1] ((HX.under hb).more hb.size)) ((E.below hb).below ((Below.refl _ _).alloc (Nat.le_refl _) _))
  rwa [show [t.x].all (rightT 20)=rightT 20 t.x by simp] at this)
 have HCA:=hid (fun (W:World) (hb:Below w.heap.size w W)=>checkAtom_c t.a a W [.string t.a.rel,.slice o0 t.a.l.length k0] ((HA.below hb).more hb.size) (E.below hb))
 have HZ:=hid (fun (W:World)=>sameTerm_c zeroT zeroT W _ _ (zero_c W _) (zero_c W _))
 rw[zero_zero] at HZ
 have herr:=E.err
 have hgs:=E.size
 have HE:=hid E
 clear E
 clear hc HA HX HY
 have HB0:Hid (∀ (x:Obj),Below w.heap.size w (w.alloc x)):=hid fun x=>(Below.refl _ _).alloc (Nat.le_refl _) _
 have Hz:Hid (rightL t=((t.y.op == 1) && rightT 20 t.y && (((t.x.op == 1) || (t.x.op == 2)) && rightT 20 t.x) && rightA t.a)):=hid (by
  unfold rightL
  rw[if_neg (by omega),if_neg (by omega),if_neg (by omega),if_pos h8]
  cases rightA t.a <;> cases rightT 20 t.x <;> cases rightT 20 t.y <;> cases (t.y.op == 1) <;> cases (t.x.op == 1) <;> cases (t.x.op == 2) <;> rfl)
 have hop:t.op=8∨t.op=9∨t.op=10:=by omega
 obtain⟨op,hop'⟩:∃ op,t.op=op:=⟨_,rfl⟩
 rw[hop'] at hop ⊢
 clear h8 hop'
 obtain⟨by1,hy1⟩:∃ b,(t.y.op != 1)=b:=⟨_,rfl⟩
 cases by1 with
 | true=>
  have Hz1:Hid (rightL t=false):=hid (by rw[Hz.out,show (t.y.op == 1)=false by simpa using hy1];rfl)
  rcases hop with rfl | rfl | rfl
  all_goals
   go_enter Tryz.func120,Tryz.ntmps120
   go_wp2
   go_ret
   exact⟨by rw[Hz1.out];rfl,HB0.out _⟩
 | false=>
  have Hz1:Hid (rightL t=(rightT 20 t.y && (((t.x.op == 1) || (t.x.op == 2)) && rightT 20 t.x) && rightA t.a)):=hid (by rw[Hz.out,show (t.y.op == 1)=true by simpa using hy1];rfl)
  clear Hz
  rcases hop with rfl | rfl | rfl
  all_goals
   go_enter Tryz.func120,Tryz.ntmps120
   go_wp2_with fail
   refine (HCY.out _ _ (by simp) (HB0.out _)).mono ?_
   rintro e w1 ⟨rfl,b1⟩
   have B1:Below w.heap.size w w1:=(HB0.out _).trans (((Below.refl _ _).alloc (by simp) _).trans (b1.mono (by simp;omega)))
   obtain⟨hc1,hf1⟩:=boxk w.heap.size b1 (by simp;omega)
   have hz1:w.heap.size+1 < w1.heap.size:=by have:=b1.size;simp at this;omega
   have hz1':w.heap.size < w1.heap.size:=by omega
   have herr1:=(HE.out.below B1).err
   cases hry:rightT 20 t.y with
   | false=>
    have Hz2:Hid (rightL t=false):=hid (by rw[Hz1.out,hry];rfl)
    clear hry
    simp only[okV_f]
    go_wp2
    go_ret
    exact⟨by rw[Hz2.out];rfl,B1⟩
   | true=>
    have Hz2:Hid (rightL t=(((t.x.op == 1) || (t.x.op == 2)) && rightT 20 t.x && rightA t.a)):=hid (by rw[Hz1.out,hry];rfl)
    clear hry Hz1
    simp only[okV_t]
    obtain⟨bx1,hx1⟩:∃ b,(t.x.op != 1)=b:=⟨_,rfl⟩
    obtain⟨bx2,hx2⟩:∃ b,(t.x.op != 2)=b:=⟨_,rfl⟩
    have hxx:((t.x.op == 1) || (t.x.op == 2))=!(bx1 && bx2):=by rw[← hx1,← hx2];cases h1:(t.x.op == 1) <;> cases h2:(t.x.op == 2) <;> simp[bne,h1,h2]
    have SB:Hid (∀ (u v x y:Value),Below w.heap.size w ((((w1.setCell ⟨w.heap.size,7,none⟩ u).setCell ⟨w.heap.size,8,none⟩ v).setCell ⟨w.heap.size,9,none⟩ x).setCell ⟨w.heap.size,10,none⟩ y)):=hid (fun u v x y=>(((B1.setCell (p:=⟨w.heap.size,7,none⟩) (Nat.le_refl _) u).setCell (p:=⟨w.heap.size,8,none⟩) (Nat.le_refl _) v).setCell (p:=⟨w.heap.size,9,none⟩) (Nat.le_refl _) x).setCell (p:=⟨w.heap.size,10,none⟩) (Nat.le_refl _) y)
    rw[hxx] at Hz2
    clear hxx
    have Hbad:Hid (bx1=true→bx2=true→rightL t=false):=hid (by rintro rfl rfl;rw[Hz2.out];rfl)
    have Hgo:Hid ((bx1 && bx2)=false→rightL t=(rightT 20 t.x && rightA t.a)):=hid (by intro h;rw[Hz2.out,h];rfl)
    clear Hz2
    cases bx1 <;> cases bx2
    case true.true=>
     have Hz3:=hid (Hbad.out rfl rfl)
     go_wp2
     go_ret
     exact⟨by rw[Hz3.out];rfl,SB.out _ _ _ _⟩
    all_goals
     have Hz3:=hid (Hgo.out rfl)
     go_wp2_with fail
     refine (HCX.out _ _ (by simp) (SB.out _ _ _ _)).mono ?_
     rintro e w2 ⟨rfl,b2⟩
     have B2:Below w.heap.size w w2:=(SB.out _ _ _ _).trans (((Below.refl _ _).alloc (by simp;omega) _).trans (b2.mono (by simp;omega)))
     obtain⟨hc2,hf2⟩:=boxk w.heap.size b2 (by simp;omega)
     have hz2:w.heap.size < w2.heap.size:=by have:=b2.size;simp at this;omega
     have hz2':w1.heap.size < w2.heap.size:=by have:=b2.size;simp at this;omega
     have herr2:=(HE.out.below B2).err
     cases hrx:rightT 20 t.x with
     | false=>
      have Hz4:Hid (rightL t=false):=hid (by rw[Hz3.out,hrx];rfl)
      clear hrx
      simp only[okV_f]
      go_wp2
      go_ret
      exact⟨by rw[Hz4.out];rfl,B2⟩
     | true=>
      have Hz4:Hid (rightL t=rightA t.a):=hid (by rw[Hz3.out,hrx];rfl)
      clear hrx
      simp only[okV_t]
      have SC:Hid (∀ (u v x y:Value),Below w.heap.size w ((((w2.setCell ⟨w.heap.size,3,none⟩ u).setCell ⟨w.heap.size,4,none⟩ v).setCell ⟨w.heap.size,5,none⟩ x).setCell ⟨w.heap.size,6,none⟩ y)):=hid (fun u v x y=>(((B2.setCell (p:=⟨w.heap.size,3,none⟩) (Nat.le_refl _) u).setCell (p:=⟨w.heap.size,4,none⟩) (Nat.le_refl _) v).setCell (p:=⟨w.heap.size,5,none⟩) (Nat.le_refl _) x).setCell (p:=⟨w.heap.size,6,none⟩) (Nat.le_refl _) y)
      go_wp2_with fail
      refine (HZ.out _).mono ?_
      rintro e w3 ⟨rfl,b3⟩
      have B3:Below w.heap.size w w3:=(SC.out _ _ _ _).trans (b3.mono (by simp;omega))
      obtain⟨hc3,hf3⟩:=boxk w.heap.size b3 (by simp;omega)
      have hz3:w.heap.size < w3.heap.size:=by have:=b3.size;simp at this;omega
      go_wp2_with fail
      refine (HZ.out _).mono ?_
      rintro e w4 ⟨rfl,b4⟩
      have B4:Below w.heap.size w w4:=B3.trans (b4.mono (by omega))
      obtain⟨hc4,hf4⟩:=boxk w.heap.size b4 (by omega)
      go_wp2_with fail
      refine (HCA.out _ B4).mono ?_
      rintro e w5 ⟨rfl,b5⟩
      go_wp2
      go_ret
      exact⟨by rw[Hz4.out];rfl,B4.trans (b5.mono (by have:=b4.size;omega))⟩
set_option maxRecDepth 100000 in
set_option maxHeartbeats 4000000 in
theorem checkLit_atom (t:Lt) (h1:t.op=1∨t.op=2) (a:Addr) (w:World) (cs:List Value) (hc:LtC w w.heap.size t cs) (E:TErr a w) :
  Calls Tryz.prog 120 #[.agg cs.toArray] w fun e w'=>e=.returned (okV a (rightL t))∧Below w.heap.size w w':=by
 obtain⟨o0,k0,o1,k1,o2,k2,rfl,_,HA,HX,HY⟩:=hc.look
 have HCA:=hid (fun (W:World) (hb:Below w.heap.size w W)=>checkAtom_c t.a a W [.string t.a.rel,.slice o0 t.a.l.length k0] ((HA.below hb).more hb.size) (E.below hb))
 have HZX:=hid (fun (W:World) (hb:Below w.heap.size w W)=>sameTerm_c t.x zeroT W [.int .i64 t.x.op,.string t.x.s,.int .i64 t.x.n,.slice o1 t.x.l.length k1] _ ((HX.under hb).more hb.size) (zero_c W _))
 rw[same_zero] at HZX
 have HZY:=hid (fun (W:World) (hb:Below w.heap.size w W)=>sameTerm_c t.y zeroT W [.int .i64 t.y.op,.string t.y.s,.int .i64 t.y.n,.slice o2 t.y.l.length k2] _ ((HY.under hb).more hb.size) (zero_c W _))
 rw[same_zero] at HZY
 have herr:=E.err
 have hgs:=E.size
 have HE:=hid E
 clear E
 clear hc HA HX HY
 have HB0:Hid (∀ (x:Obj),Below w.heap.size w (w.alloc x)):=hid fun x=>(Below.refl _ _).alloc (Nat.le_refl _) _
 have Hz:Hid (rightL t=(noT t.x && (noT t.y && rightA t.a))):=hid (by
  unfold rightL
  rw[if_pos h1]
  cases rightA t.a <;> cases noT t.x <;> cases noT t.y <;> rfl)
 obtain⟨op,hop'⟩:∃ op,t.op=op:=⟨_,rfl⟩
 rw[hop'] at h1 ⊢
 clear hop'
 rcases h1 with rfl | rfl
 all_goals
  go_enter Tryz.func120,Tryz.ntmps120
  go_wp2_with fail
  refine (HZX.out _ (HB0.out _)).mono ?_
  rintro e w1 ⟨rfl,b1⟩
  have B1:Below w.heap.size w w1:=(HB0.out _).trans (b1.mono (by simp))
  obtain⟨hc1,hf1⟩:=boxk w.heap.size b1 (by simp)
  have hz1:w.heap.size < w1.heap.size:=by have:=b1.size;simp at this;omega
  have herr1:=(HE.out.below B1).err
  cases hnx:noT t.x with
  | false=>
   have Hq:Hid (rightL t=false):=hid (by rw[Hz.out,hnx];rfl)
   clear hnx
   go_wp2
   go_ret
   exact⟨by rw[Hq.out];rfl,B1⟩
  | true=>
   have Hz1:Hid (rightL t=(noT t.y && rightA t.a)):=hid (by rw[Hz.out,hnx];rfl)
   clear hnx
   go_wp2_with fail
   refine (HZY.out _ B1).mono ?_
   rintro e w2 ⟨rfl,b2⟩
   have B2:Below w.heap.size w w2:=(B1).trans (b2.mono (by first | omega | (simp;omega)))
   obtain⟨hc2,hf2⟩:=boxk w.heap.size b2 (by first | omega | (simp;omega))
   have herr2:=(HE.out.below B2).err
   cases hny:noT t.y with
   | false=>
    have Hq:Hid (rightL t=false):=hid (by rw[Hz1.out,hny];rfl)
    clear hny
    go_wp2
    go_ret
    exact⟨by rw[Hq.out];rfl,B2⟩
   | true=>
    have Hq:Hid (rightL t=rightA t.a):=hid (by rw[Hz1.out,hny];rfl)
    clear hny
    go_wp2_with fail
    refine (HCA.out _ B2).mono ?_
    rintro e w9 ⟨rfl,b9⟩
    go_wp2
    go_ret
    exact⟨by rw[Hq.out];rfl,B2.trans (b9.mono B2.size)⟩
set_option maxRecDepth 100000 in
set_option maxHeartbeats 4000000 in
theorem checkLit_count (t:Lt) (h7:t.op=7) (a:Addr) (w:World) (cs:List Value) (hc:LtC w w.heap.size t cs) (E:TErr a w) :
  Calls Tryz.prog 120 #[.agg cs.toArray] w fun e w'=>e=.returned (okV a (rightL t))∧Below w.heap.size w w':=by
 obtain⟨o0,k0,o1,k1,o2,k2,rfl,_,HA,HX,HY⟩:=hc.look
 have HCA:=hid (fun (W:World) (hb:Below w.heap.size w W)=>checkAtom_c t.a a W [.string t.a.rel,.slice o0 t.a.l.length k0] ((HA.below hb).more hb.size) (E.below hb))
 have HCX:Hid (∀ (W:World) (n:Nat),W.heap.size=n→Below w.heap.size w W→Calls Tryz.prog 141 #[.slice (some ⟨n,0,none⟩) 1 1] (W.alloc (.cells #[.int .i64 t.x.op,.string t.x.s,.int .i64 t.x.n,.slice o1 t.x.l.length k1] 51)) fun e w'=>e=.returned (okV a (rightT 20 t.x))∧Below (W.alloc (.cells #[.int .i64 t.x.op,.string t.x.s,.int .i64 t.x.n,.slice o1 t.x.l.length k1] 51)).heap.size (W.alloc (.cells #[.int .i64 t.x.op,.string t.x.s,.int .i64 t.x.n,.slice o1 t.x.l.length k1] 51)) w'):=hid (by
  intro W n hn hb
  subst hn
  have:=checkTerms_c [t.x] _ a _ (one_slice W 51 t.x [.int .i64 t.x.op,.string t.x.s,.int .i64 t.x.n,.slice o1 t.x.l.length k1] ((HX.under hb).more hb.size)) ((E.below hb).below ((Below.refl _ _).alloc (Nat.le_refl _) _))
  rwa [show [t.x].all (rightT 20)=rightT 20 t.x by simp] at this)
 have HZY:=hid (fun (W:World) (hb:Below w.heap.size w W)=>sameTerm_c t.y zeroT W [.int .i64 t.y.op,.string t.y.s,.int .i64 t.y.n,.slice o2 t.y.l.length k2] _ ((HY.under hb).more hb.size) (zero_c W _))
 rw[same_zero] at HZY
 have HZ:=hid (fun (W:World)=>sameTerm_c zeroT zeroT W _ _ (zero_c W _) (zero_c W _))
 rw[zero_zero] at HZ
 have herr:=E.err
 have hgs:=E.size
 have HE:=hid E
 clear E
 clear hc HA HX HY
 have HB0:Hid (∀ (x:Obj),Below w.heap.size w (w.alloc x)):=hid fun x=>(Below.refl _ _).alloc (Nat.le_refl _) _
 have Hz:Hid (rightL t=(((t.x.op == 1) || (t.x.op == 2)) && rightT 20 t.x && (noT t.y && rightA t.a))):=hid (by
  unfold rightL
  rw[if_neg (by omega),if_neg (by omega),if_pos h7]
  cases rightA t.a <;> cases rightT 20 t.x <;> cases noT t.y <;> cases (t.x.op == 1) <;> cases (t.x.op == 2) <;> rfl)
 rw[h7]
 clear h7
 obtain⟨bx1,hx1⟩:∃ b,(t.x.op != 1)=b:=⟨_,rfl⟩
 obtain⟨bx2,hx2⟩:∃ b,(t.x.op != 2)=b:=⟨_,rfl⟩
 have hxx:((t.x.op == 1) || (t.x.op == 2))=!(bx1 && bx2):=by rw[← hx1,← hx2];cases h1:(t.x.op == 1) <;> cases h2:(t.x.op == 2) <;> simp[bne,h1,h2]
 rw[hxx] at Hz
 clear hxx
 have Hbad:Hid (bx1=true→bx2=true→rightL t=false):=hid (by rintro rfl rfl;rw[Hz.out];rfl)
 have Hgo:Hid ((bx1 && bx2)=false→rightL t=(rightT 20 t.x && (noT t.y && rightA t.a))):=hid (by intro h;rw[Hz.out,h];rfl)
 clear Hz
 cases bx1 <;> cases bx2
 case true.true=>
  have Hq:=hid (Hbad.out rfl rfl)
  go_enter Tryz.func120,Tryz.ntmps120
  go_wp2
  go_ret
  exact⟨by rw[Hq.out];rfl,HB0.out _⟩
 all_goals
  have Hz3:=hid (Hgo.out rfl)
  go_enter Tryz.func120,Tryz.ntmps120
  go_wp2_with fail
  refine (HCX.out _ _ (by simp) (HB0.out _)).mono ?_
  rintro e w2 ⟨rfl,b2⟩
  have B2:Below w.heap.size w w2:=(HB0.out _).trans (((Below.refl _ _).alloc (by simp) _).trans (b2.mono (by simp;omega)))
  obtain⟨hc2,hf2⟩:=boxk w.heap.size b2 (by simp;omega)
  have hz2:w.heap.size < w2.heap.size:=by have:=b2.size;simp at this;omega
  have herr2:=(HE.out.below B2).err
  cases hrx:rightT 20 t.x with
  | false=>
   have Hq:Hid (rightL t=false):=hid (by rw[Hz3.out,hrx];rfl)
   clear hrx
   simp only[okV_f]
   go_wp2
   go_ret
   exact⟨by rw[Hq.out];rfl,B2⟩
  | true=>
   have Hz4:Hid (rightL t=(noT t.y && rightA t.a)):=hid (by rw[Hz3.out,hrx];rfl)
   clear hrx
   simp only[okV_t]
   have SC:Hid (∀ (u v x y:Value),Below w.heap.size w ((((w2.setCell ⟨w.heap.size,3,none⟩ u).setCell ⟨w.heap.size,4,none⟩ v).setCell ⟨w.heap.size,5,none⟩ x).setCell ⟨w.heap.size,6,none⟩ y)):=hid (fun u v x y=>(((B2.setCell (p:=⟨w.heap.size,3,none⟩) (Nat.le_refl _) u).setCell (p:=⟨w.heap.size,4,none⟩) (Nat.le_refl _) v).setCell (p:=⟨w.heap.size,5,none⟩) (Nat.le_refl _) x).setCell (p:=⟨w.heap.size,6,none⟩) (Nat.le_refl _) y)
   go_wp2_with fail
   refine (HZ.out _).mono ?_
   rintro e w3 ⟨rfl,b3⟩
   have B3:Below w.heap.size w w3:=(SC.out _ _ _ _).trans (b3.mono (by simp;omega))
   obtain⟨hc3,hf3⟩:=boxk w.heap.size b3 (by simp;omega)
   have hz3:w.heap.size < w3.heap.size:=by have:=b3.size;simp at this;omega
   go_wp2_with fail
   refine (HZY.out _ B3).mono ?_
   rintro e w4 ⟨rfl,b4⟩
   have B4:Below w.heap.size w w4:=(B3).trans (b4.mono (by first | omega | (simp;omega)))
   obtain⟨hc4,hf4⟩:=boxk w.heap.size b4 (by first | omega | (simp;omega))
   have herr4:=(HE.out.below B4).err
   cases hny:noT t.y with
   | false=>
    have Hq:Hid (rightL t=false):=hid (by rw[Hz4.out,hny];rfl)
    clear hny
    go_wp2
    go_ret
    exact⟨by rw[Hq.out];rfl,B4⟩
   | true=>
    have Hq:Hid (rightL t=rightA t.a):=hid (by rw[Hz4.out,hny];rfl)
    clear hny
    go_wp2_with fail
    refine (HCA.out _ B4).mono ?_
    rintro e w9 ⟨rfl,b9⟩
    go_wp2
    go_ret
    exact⟨by rw[Hq.out];rfl,B4.trans (b9.mono B4.size)⟩
def zeroA:Am:=⟨⟨#[]⟩,[]⟩
theorem zeroA_c (w:World) (B:Nat):AmC w B zeroA [.string ⟨#[]⟩,.slice none 0 0]:=⟨_,rfl,by decide,.inl ⟨rfl,rfl⟩⟩
theorem same_zeroA (t:Am):sameA t zeroA=noA t:=by
 unfold sameA noA zeroA
 rw[sameTs_all]
 have h1:(t.rel.toList == (⟨#[]⟩:ByteArray).toList)=t.rel.toList.isEmpty:=by
  have:(⟨#[]⟩:ByteArray).toList=[]:=by rw[Lib.toList_data]
  rw[this]
  cases t.rel.toList <;> rfl
 have h2:allS sameT t.l []=t.l.isEmpty:=by cases t.l <;> rfl
 rw[h1,h2]
set_option maxRecDepth 100000 in
set_option maxHeartbeats 4000000 in
theorem checkLit_held (t:Lt) (h3:3≤t.op∧t.op≤6) (a:Addr) (w:World) (cs:List Value) (hc:LtC w w.heap.size t cs) (E:TErr a w) :
  Calls Tryz.prog 120 #[.agg cs.toArray] w fun e w'=>e=.returned (okV a (rightL t))∧Below w.heap.size w w':=by
 obtain⟨o0,k0,o1,k1,o2,k2,rfl,_,HA,HX,HY⟩:=hc.look
 have HCT:Hid (∀ (W:World) (n:Nat),W.heap.size=n→Below w.heap.size w W→Calls Tryz.prog 141 #[.slice (some ⟨n,0,none⟩) 2 2] (W.alloc (.cells #[.int .i64 t.x.op,.string t.x.s,.int .i64 t.x.n,.slice o1 t.x.l.length k1,.int .i64 t.y.op,.string t.y.s,.int .i64 t.y.n,.slice o2 t.y.l.length k2] 51)) fun e w'=>e=.returned (okV a (rightT 20 t.x && rightT 20 t.y))∧Below (W.alloc (.cells #[.int .i64 t.x.op,.string t.x.s,.int .i64 t.x.n,.slice o1 t.x.l.length k1,.int .i64 t.y.op,.string t.y.s,.int .i64 t.y.n,.slice o2 t.y.l.length k2] 51)).heap.size (W.alloc (.cells #[.int .i64 t.x.op,.string t.x.s,.int .i64 t.x.n,.slice o1 t.x.l.length k1,.int .i64 t.y.op,.string t.y.s,.int .i64 t.y.n,.slice o2 t.y.l.length k2] 51)) w'):=hid (by
  intro W n hn hb
  subst hn
  have:=checkTerms_c [t.x,t.y] _ a _ (two_slice W 51 t.x t.y [.int .i64 t.x.op,.string t.x.s,.int .i64 t.x.n,.slice o1 t.x.l.length k1] [.int .i64 t.y.op,.string t.y.s,.int .i64 t.y.n,.slice o2 t.y.l.length k2] ((HX.under hb).more hb.size) ((HY.under hb).more hb.size)) ((E.below hb).below ((Below.refl _ _).alloc (Nat.le_refl _) _))
  rwa [show [t.x,t.y].all (rightT 20)=(rightT 20 t.x && rightT 20 t.y) by simp] at this)
 have HZA:=hid (fun (W:World) (hb:Below w.heap.size w W)=>sameAtom_c t.a zeroA W [.string t.a.rel,.slice o0 t.a.l.length k0] _ ((HA.below hb).more hb.size) (zeroA_c W _))
 rw[same_zeroA] at HZA
 have herr:=E.err
 have hgs:=E.size
 have HE:=hid E
 clear E
 clear hc HA HX HY
 have HB0:Hid (∀ (x:Obj),Below w.heap.size w (w.alloc x)):=hid fun x=>(Below.refl _ _).alloc (Nat.le_refl _) _
 obtain⟨bx,hx⟩:∃ b,(t.x.op == 4)=b:=⟨_,rfl⟩
 obtain⟨by',hy⟩:∃ b,(t.y.op == 4)=b:=⟨_,rfl⟩
 have Hz:Hid (rightL t=(noA t.a && (!bx && (!by' && (rightT 20 t.x && rightT 20 t.y))))):=hid (by
  unfold rightL
  rw[if_neg (by omega),if_pos h3,← hx,← hy]
  unfold bne
  cases noA t.a <;> cases rightT 20 t.x <;> cases rightT 20 t.y <;> cases (t.x.op == 4) <;> cases (t.y.op == 4) <;> rfl)
 have hop:t.op=3∨t.op=4∨t.op=5∨t.op=6:=by omega
 obtain⟨op,hop'⟩:∃ op,t.op=op:=⟨_,rfl⟩
 rw[hop'] at hop ⊢
 clear hop' h3
 rcases hop with rfl | rfl | rfl | rfl
 all_goals
  go_enter Tryz.func120,Tryz.ntmps120
  go_wp2_with fail
  refine (HZA.out _ (HB0.out _)).mono ?_
  rintro e w1 ⟨rfl,b1⟩
  have B1:Below w.heap.size w w1:=(HB0.out _).trans (b1.mono (by simp))
  obtain⟨hc1,hf1⟩:=boxk w.heap.size b1 (by simp)
  have hz1:w.heap.size < w1.heap.size:=by have:=b1.size;simp at this;omega
  have herr1:=(HE.out.below B1).err
  cases hna:noA t.a with
  | false=>
   have Hq:Hid (rightL t=false):=hid (by rw[Hz.out,hna];rfl)
   clear hna
   go_wp2
   go_ret
   exact⟨by rw[Hq.out];rfl,B1⟩
  | true=>
   have Hz1:Hid (rightL t=(!bx && (!by' && (rightT 20 t.x && rightT 20 t.y)))):=hid (by rw[Hz.out,hna];rfl)
   clear hna
   cases bx with
   | true=>
    have Hq:Hid (rightL t=false):=hid (by rw[Hz1.out];rfl)
    go_wp2
    go_ret
    exact⟨by rw[Hq.out];rfl,B1⟩
   | false=>
    cases by' with
    | true=>
     have Hq:Hid (rightL t=false):=hid (by rw[Hz1.out];rfl)
     go_wp2
     go_ret
     exact⟨by rw[Hq.out];rfl,B1⟩
    | false=>
     have Hq:Hid (rightL t=(rightT 20 t.x && rightT 20 t.y)):=hid (by rw[Hz1.out];rfl)
     go_wp2_with fail
     refine (HCT.out _ _ rfl B1).mono ?_
     rintro e w2 ⟨rfl,b2⟩
     go_wp2
     go_ret
     exact⟨by rw[Hq.out];rfl,B1.trans (((Below.refl _ _).alloc (by omega) _).trans (b2.mono (by simp;omega)))⟩
set_option maxRecDepth 100000 in
set_option maxHeartbeats 4000000 in
theorem checkLit_none (t:Lt) (h0:t.op < 1∨10 < t.op) (a:Addr) (w:World) (cs:List Value) (hc:LtC w w.heap.size t cs) (E:TErr a w) :
  Calls Tryz.prog 120 #[.agg cs.toArray] w fun e w'=>e=.returned (okV a (rightL t))∧Below w.heap.size w w':=by
 obtain⟨o0,k0,o1,k1,o2,k2,rfl,_,HA,HX,HY⟩:=hc.look
 have herr:=E.err
 have hgs:=E.size
 have HE:=hid E
 clear E
 clear hc HA HX HY
 have HB0:Hid (∀ (x:Obj),Below w.heap.size w (w.alloc x)):=hid fun x=>(Below.refl _ _).alloc (Nat.le_refl _) _
 have Hq:Hid (rightL t=false):=hid (by unfold rightL;rw[if_neg (by omega),if_neg (by omega),if_neg (by omega),if_neg (by omega)])
 have e1:(t.op == 1)=false:=by rw[beq_eq_false_iff_ne];omega
 have e2:(t.op == 2)=false:=by rw[beq_eq_false_iff_ne];omega
 have e3:(t.op == 3)=false:=by rw[beq_eq_false_iff_ne];omega
 have e4:(t.op == 4)=false:=by rw[beq_eq_false_iff_ne];omega
 have e5:(t.op == 5)=false:=by rw[beq_eq_false_iff_ne];omega
 have e6:(t.op == 6)=false:=by rw[beq_eq_false_iff_ne];omega
 have e7:(t.op == 7)=false:=by rw[beq_eq_false_iff_ne];omega
 have e8:(t.op == 8)=false:=by rw[beq_eq_false_iff_ne];omega
 have e9:(t.op == 9)=false:=by rw[beq_eq_false_iff_ne];omega
 have e10:(t.op == 10)=false:=by rw[beq_eq_false_iff_ne];omega
 clear h0
 go_enter Tryz.func120,Tryz.ntmps120
 go_wp2
 go_ret
 exact⟨by rw[Hq.out];rfl,HB0.out _⟩
theorem checkLit_c (t:Lt) (a:Addr) (w:World) (cs:List Value) (hc:LtC w w.heap.size t cs) (E:TErr a w) :
  Calls Tryz.prog 120 #[.agg cs.toArray] w fun e w'=>e=.returned (okV a (rightL t))∧Below w.heap.size w w':=by
 by_cases h1:t.op=1∨t.op=2
 ·exact checkLit_atom t h1 a w cs hc E
 by_cases h3:3≤t.op∧t.op≤6
 ·exact checkLit_held t h3 a w cs hc E
 by_cases h7:t.op=7
 ·exact checkLit_count t h7 a w cs hc E
 by_cases h8:8≤t.op∧t.op≤10
 ·exact checkLit_agg t h8 a w cs hc E
 ·exact checkLit_none t (by omega) a w cs hc E
set_option maxRecDepth 100000 in
set_option maxHeartbeats 4000000 in
theorem checkRule_c (t:Ru) (a:Addr) (w:World) (cs:List Value) (hc:RuC w w.heap.size t cs) (E:TErr a w) :
  Calls Tryz.prog 84 #[.agg cs.toArray] w fun e w'=>e=.returned (okV a (rightR t))∧Below w.heap.size w w':=by
 obtain⟨o0,k0,o1,k1,rfl,_,H1,H2⟩:=hc.look
 have HH:=hid (fun (W:World) (hb:Below w.heap.size w W)=>checkHead_c t.head t.body.isEmpty a W _ ((H1.below hb).more hb.size) (E.below hb))
 obtain⟨o2,cap2,e2,hc2,hm2,SL⟩:=SlOf.open H2
 cases e2
 have herr:=E.err
 have hgs:=E.size
 have HE:=hid E
 clear E
 clear hc H1 H2
 have HB0:Hid (∀ (x:Obj),Below w.heap.size w (w.alloc x)):=hid fun x=>(Below.refl _ _).alloc (Nat.le_refl _) _
 have hie:((t.body.length:Int) == 0)=t.body.isEmpty:=by cases t.body <;> simp <;> omega
 by_cases hbig:20 < t.body.length
 ·have hbig':(20:Int) < (t.body.length:Int):=by omega
  have Hq:Hid (rightR t=false):=hid (by unfold rightR;rw[decide_eq_false (show ¬ t.body.length≤20 by omega)];simp)
  clear hie
  go_enter Tryz.func84,Tryz.ntmps84
  go_wp2
  go_ret
  exact⟨by rw[Hq.out];rfl,HB0.out _⟩
 have hbig':¬ (20:Int) < (t.body.length:Int):=by omega
 have Hz0:Hid (rightR t=((t.head.l.all (headT t.body.isEmpty) && rightA t.head) && t.body.all rightL)):=hid (by
  unfold rightR
  rw[decide_eq_true (show t.body.length≤20 by omega)]
  cases rightA t.head <;> cases t.head.l.all (headT t.body.isEmpty) <;> rfl)
 go_enter Tryz.func84,Tryz.ntmps84
 go_wp2_with fail
 refine (HH.out _ (HB0.out _)).mono ?_
 rintro e w1 ⟨rfl,b1⟩
 have B1:Below (w.heap.size+1) (w.alloc (.cells #[.string t.head.rel,.slice o0 t.head.l.length k0,.slice o1 t.body.length k1,.int .i64 t.line] 37)) w1:=b1.mono (by simp)
 obtain⟨hc1,hf1⟩:=boxk w.heap.size b1 (by simp)
 cases hh:(t.head.l.all (headT t.body.isEmpty) && rightA t.head) with
 | false=>
  have Hq:Hid (rightR t=false):=hid (by rw[Hz0.out,hh];rfl)
  clear hh hie
  simp only[okV_f]
  go_wp2
  go_ret
  exact⟨by rw[Hq.out];rfl,(HB0.out _).trans (B1.mono (by omega))⟩
 | true=>
 have Hz:Hid (rightR t=t.body.all rightL):=hid (by rw[Hz0.out,hh];rfl)
 clear hh hie
 simp only[okV_t]
 go_wp2
 go_loopw [25] (fun i wr=>∃ k:Nat,k≤t.body.length∧i=.int .i64 k∧t.body.all rightL=(t.body.drop k).all rightL∧Below (w.heap.size+1) (w.alloc (.cells #[.string t.head.rel,.slice o0 t.head.l.length k0,.slice o1 t.body.length k1,.int .i64 t.line] 37)) wr) (fun i _=>t.body.length - (intOf i).toNat)
 case atStart=>exact⟨0,Nat.zero_le _,rfl,rfl,B1⟩
 case round=>
  obtain⟨k,hk,rfl,hr,hB2⟩:=hrel
  have hB:Below w.heap.size w wr:=(HB0.out _).trans (hB2.mono (by omega))
  have Hr:=hid hr
  clear hr
  have hBs:=hB2.size
  simp only[World.size_alloc] at hBs
  have hz0:w.heap.size < wr.heap.size:=by omega
  by_cases hlt:k < t.body.length
  ·have hlt':(k:Int) < (t.body.length:Int):=by omega
   obtain⟨xe,ht⟩:∃ xe,t.body[k]?=some xe:=⟨t.body[k],List.getElem?_eq_getElem hlt⟩
   obtain⟨b,p3,q3,p4,q4,p5,q5,rfl,ha,Hc,c0,c1,c2,c3,c4,c5,c6,c7,c8,c9,c10⟩:=lt_at SL hB ht
   have hal:(b.add (k * 11)).block < wr.heap.size:=by rw[addBlock];omega
   have Hst:=hid (Hr.out.trans (all_drop (f:=rightL) ht))
   clear ht
   have HI:=hid (fun (W:World) (hb:Below wr.heap.size wr W)=>checkLit_c xe a W _ ((Hc.out.below hb).more hb.size) ((HE.out.below hB).below hb))
   go_wp2_with fail
   refine (HI.out _ ((Below.refl _ _).alloc (Nat.le_refl _) _)).mono ?_
   rintro e w1 ⟨rfl,b1⟩
   have b1':Below wr.heap.size wr w1:=((Below.refl _ _).alloc (Nat.le_refl _) _).trans (b1.mono (by simp))
   have hB3:=hB2.trans (b1'.mono (by omega))
   cases hs:rightL xe with
   | false=>
    have Hz2:=hid (Hst.out.trans (by rw[hs,Bool.false_and]))
    have Hq:Hid (rightR t=false):=hid (by rw[Hz.out,Hz2.out])
    clear hs
    simp only[okV_f]
    go_wp2
    go_ret
    exact⟨by rw[Hq.out];rfl,hB.trans (b1'.mono hB.size)⟩
   | true=>
    have Hz2:=hid (Hst.out.trans (by rw[hs,Bool.true_and]))
    clear hs
    simp only[okV_t]
    go_wp2
    go_roundw
    case rel=>exact⟨k+1,hlt,by go_num,Hz2.out,hB3⟩
    case measure=>simp[intOf];omega
  ·have hlt':¬ (k:Int) < (t.body.length:Int):=by omega
   have Hall:Hid (t.body.all rightL=true):=hid (by rw[Hr.out,List.drop_of_length_le (by omega)];rfl)
   have Hq:Hid (rightR t=true):=hid (by rw[Hz.out,Hall.out])
   go_wp2
   go_ret
   exact⟨by rw[Hq.out];rfl,hB⟩
theorem heldBrightRule_c {W w1:World} (b:Below W.heap.size W.drew w1) {n g:Nat} {v0 v1 v2 v3 v4:Value} (hn:n < W.heap.size) (hg:g < W.heap.size)
  (h:W.cell? ⟨n,0,none⟩=some v0∧W.cell? ⟨n,1,none⟩=some v1∧W.cell? ⟨n,2,none⟩=some v2∧W.cell? ⟨n,3,none⟩=some v3∧W.cell? ⟨g,0,none⟩=some v4):w1.cell? ⟨n,0,none⟩=some v0∧w1.cell? ⟨n,1,none⟩=some v1∧w1.cell? ⟨n,2,none⟩=some v2∧w1.cell? ⟨n,3,none⟩=some v3∧w1.cell? ⟨g,0,none⟩=some v4:=by
 obtain⟨h0,h1,h2,h3,h4⟩:=h
 exact⟨(b.cell (p:=⟨n,0,none⟩) hn).trans h0,(b.cell (p:=⟨n,1,none⟩) hn).trans h1,(b.cell (p:=⟨n,2,none⟩) hn).trans h2,(b.cell (p:=⟨n,3,none⟩) hn).trans h3,(b.cell (p:=⟨g,0,none⟩) hg).trans h4⟩
set_option maxRecDepth 100000 in
set_option maxHeartbeats 4000000 in
theorem rightRule_c (t:Ru) (a:Addr) (w:World) (cs:List Value) (hc:RuC w w.heap.size t cs) (E:TErr a w) :
  Calls Tryz.prog 50 #[.agg cs.toArray] w fun e w'=>e=.returned (.bool (rightR t))∧Below w.heap.size w w':=by
 have HC0:=fun (W:World) (hb:Below w.heap.size w W)=>checkRule_c t a W cs ((hc.below hb).more hb.size) (E.below hb)
 obtain⟨o0,k0,o1,k1,rfl,_,_,_⟩:=hc.look
 have HC:=hid HC0
 have herr:=E.err
 have hgs:=E.size
 have HE:=hid E
 clear E
 clear hc HC0
 have HB0:Hid (∀ (x:Obj),Below w.heap.size w (w.alloc x)):=hid fun x=>(Below.refl _ _).alloc (Nat.le_refl _) _
 have x0:(w.alloc (.cells #[.string t.head.rel,.slice o0 t.head.l.length k0,.slice o1 t.body.length k1,.int .i64 t.line] 37)).cell? ⟨w.heap.size,0,none⟩=some (.string t.head.rel):=by go_simp
 have x1:(w.alloc (.cells #[.string t.head.rel,.slice o0 t.head.l.length k0,.slice o1 t.body.length k1,.int .i64 t.line] 37)).cell? ⟨w.heap.size,1,none⟩=some (.slice o0 t.head.l.length k0):=by go_simp
 have x2:(w.alloc (.cells #[.string t.head.rel,.slice o0 t.head.l.length k0,.slice o1 t.body.length k1,.int .i64 t.line] 37)).cell? ⟨w.heap.size,2,none⟩=some (.slice o1 t.body.length k1):=by go_simp
 have x3:(w.alloc (.cells #[.string t.head.rel,.slice o0 t.head.l.length k0,.slice o1 t.body.length k1,.int .i64 t.line] 37)).cell? ⟨w.heap.size,3,none⟩=some (.int .i64 t.line):=by go_simp
 have xe:(w.alloc (.cells #[.string t.head.rel,.slice o0 t.head.l.length k0,.slice o1 t.body.length k1,.int .i64 t.line] 37)).cell? ⟨0,0,none⟩=some (.iface 191 (.pointer (some a))):=(HE.out.below (HB0.out _)).err
 have hgs2:0 < (w.alloc (.cells #[.string t.head.rel,.slice o0 t.head.l.length k0,.slice o1 t.body.length k1,.int .i64 t.line] 37)).heap.size:=by first | (simp;omega) | simp
 cases hr:rightR t with
 | true=>
  rw[hr,okV_t] at HC
  go_enter Tryz.func50,Tryz.ntmps50
  go_wp2
  go_region_held3 (fun w'=>w'.cell? ⟨w.heap.size,0,none⟩=some (.string t.head.rel)∧w'.cell? ⟨w.heap.size,1,none⟩=some (.slice o0 t.head.l.length k0)∧w'.cell? ⟨w.heap.size,2,none⟩=some (.slice o1 t.body.length k1)∧w'.cell? ⟨w.heap.size,3,none⟩=some (.int .i64 t.line)∧w'.cell? ⟨0,0,none⟩=some (.iface 191 (.pointer (some a)))) (first | exact⟨x0,x1,x2,x3,xe⟩ | exact hk) (first | (go_at_call 84;refine (HC.out _ ((HB0.out _).drew)).mono ?_;rintro e w1 ⟨rfl,b1⟩;have hk:=heldBrightRule_c b1 (by simp) hgs2 ⟨x0,x1,x2,x3,xe⟩) | (go_at_call 60;refine (is_nil _ _).mono ?_;rintro e w' ⟨rfl,rfl⟩))
  go_wp2
  go_ret
  exact⟨rfl,(HB0.out _).trans (((Below.refl _ _).drew).trans (b1.mono (by simp)))⟩
 | false=>
  rw[hr,okV_f] at HC
  go_enter Tryz.func50,Tryz.ntmps50
  go_wp2
  go_region_held3 (fun w'=>w'.cell? ⟨w.heap.size,0,none⟩=some (.string t.head.rel)∧w'.cell? ⟨w.heap.size,1,none⟩=some (.slice o0 t.head.l.length k0)∧w'.cell? ⟨w.heap.size,2,none⟩=some (.slice o1 t.body.length k1)∧w'.cell? ⟨w.heap.size,3,none⟩=some (.int .i64 t.line)∧w'.cell? ⟨0,0,none⟩=some (.iface 191 (.pointer (some a)))) (first | exact⟨x0,x1,x2,x3,xe⟩ | exact hk) (first | (go_at_call 84;refine (HC.out _ ((HB0.out _).drew)).mono ?_;rintro e w1 ⟨rfl,b1⟩;have hk:=heldBrightRule_c b1 (by simp) hgs2 ⟨x0,x1,x2,x3,xe⟩) | (go_at_call 60;refine (is_same _ _).mono ?_;rintro e w' ⟨rfl,rfl⟩))
  go_wp2
  go_ret
  exact⟨rfl,(HB0.out _).trans (((Below.refl _ _).drew).trans (b1.mono (by simp)))⟩
end Go.Proofs.YtfmldnbcjbflbaaGreatDoor
