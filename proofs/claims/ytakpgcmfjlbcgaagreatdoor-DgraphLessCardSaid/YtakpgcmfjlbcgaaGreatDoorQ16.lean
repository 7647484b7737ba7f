/- Yvars@0123, Tsame2@0123, Tchk@0123, Tlit@0123, Zfl@0123, Gs@0123, Gd0@0123 -/
import Derived.Maps.Range
import Derived.Maps.RangeWalk
import Derived.Maps.Views
import Derived.Test.YtakpgcmfjlbcgaaGreatDoorQ7
import Derived.Test.YtakpgcmfjlbcgaaGreatDoorQ11
import Derived.Test.YtakpgcmfjlbcgaaGreatDoorQ12
import Derived.Test.YtakpgcmfjlbcgaaGreatDoorQ13
import Derived.Test.YtakpgcmfjlbcgaaGreatDoorQ15
set_option linter.unusedSimpArgs false
set_option linter.unusedVariables false
namespace Go.Proofs.YtakpgcmfjlbcgaaGreatDoor
open Lib(hid)
open Go.RowKit Go.Shelf
attribute [local go_sem] Oper.semAt_some
def SV (M L:Nat) (W:World) (i:Nat):Prop:=i=M∨i=L∨∃ v,W.cell? ⟨L,0,none⟩=some v∧v.ownBlock=some i
theorem sv_cell {M L:Nat} {W W':World} (h:W'.cell? ⟨L,0,none⟩=W.cell? ⟨L,0,none⟩) (i:Nat) (hi:SV M L W' i):SV M L W i:=by
 rcases hi with h1 | h1 | ⟨v,h1,h2⟩
 ·exact .inl h1
 ·exact .inr (.inl h1)
 ·exact .inr (.inr ⟨v,h ▸ h1,h2⟩)
theorem sv_grow (M L:Nat):SGrow (SV M L):=fun W W' hw hb i hi=>by
 have hL:L < W.heap.size:=hw L (.inr (.inl rfl))
 exact sv_cell (World.cell?_of_block (hb.block L hL)) i hi
theorem sv_put {M L:Nat} (W:World) (l:Nat) (o o':Obj) (hl:L < l) (ho:W.heap[l]?=some o) (hc:o.isCells=false):KO (SV M L) W (W.putObj l o'):=by
 have hsz:(W.putObj l o').heap.size=W.heap.size:=by simp
 have hcell:(W.putObj l o').cell? ⟨L,0,none⟩=W.cell? ⟨L,0,none⟩:=World.cell?_of_block (World.putObj_heap_other (by show L≠l;omega))
 refine⟨by rw[hsz];exact Nat.le_refl _,fun i x hi hx _=>?_,fun i h=>.inl (sv_cell hcell i h),fun h i hi=>by rw[hsz];exact h i (sv_cell hcell i hi)⟩
 have hne:i≠l:=by rintro rfl;rw[ho] at hi;cases hi;rw[hc] at hx;cases hx
 exact (World.putObj_heap_other hne).trans hi
theorem sv_step {M L:Nat} {W W':World} {v v':Value} (hsz:W.heap.size≤W'.heap.size) (hb:∀ i,i < W.heap.size→i≠M→i≠L→some i≠v.ownBlock→W'.heap[i]?=W.heap[i]?) (hv:W.cell? ⟨L,0,none⟩=some v) (hv':W'.cell? ⟨L,0,none⟩=some v')
  (hown:v'.ownBlock=v.ownBlock∨∃ g,v'.ownBlock=some g∧W.heap.size≤g∧g < W'.heap.size):KO (SV M L) W W':=by
 have key:∀ i,SV M L W' i→SV M L W i∨(W.heap.size≤i∧i < W'.heap.size):=by
  rintro i (h1 | h1 | ⟨u,h1,h2⟩)
  ·exact .inl (.inl h1)
  ·exact .inl (.inr (.inl h1))
  ·rw[hv'] at h1
   cases h1
   rcases hown with h | ⟨g,h,g1,g2⟩
   ·exact .inl (.inr (.inr ⟨v,hv,h ▸ h2⟩))
   ·rw[h] at h2;cases h2;exact .inr ⟨g1,g2⟩
 refine⟨hsz,fun i o ho _ hs=>?_,fun i h=>(key i h).imp id (·.1),fun hw i hi=>?_⟩
 ·have hi:=(Array.getElem?_eq_some_iff.1 ho).1
  exact (hb i hi (fun e=>hs (.inl e)) (fun e=>hs (.inr (.inl e))) (fun e=>hs (.inr (.inr ⟨v,hv,e.symm⟩)))).trans ho
 ·rcases key i hi with h | h
  ·exact Nat.lt_of_lt_of_le (hw i h) hsz
  ·exact h.2
theorem mapI_block {P:Program} {w w':World} {kT eT:TypeId} {B n:Nat} {f:List UInt8→Int} {c:Nat} (h:MapI P w kT eT B n f c) (hb:w'.heap[B]?=w.heap[B]?):MapI P w' kT eT B n f c:=by
 obtain⟨D,⟨es,clock,h1,h2⟩,h3⟩:=h
 exact⟨D,⟨es,clock,hb.trans h1,h2⟩,h3⟩
def veil (b:Nat) (W:World):World:=W.putObj b (.map #[] 0)
theorem veil_cell {b:Nat} {W:World} {p:Addr} {c:Value} (h:(veil b W).cell? p=some c):p.block≠b∧W.cell? p=some c:=by
 by_cases e:p.block=b
 ·exfalso
  obtain⟨o,ho,hc⟩:=cells_of_cell h
  have hlt:b < W.heap.size:=by
   have:=(Array.getElem?_eq_some_iff.1 ho).1
   unfold veil at this
   simp at this
   omega
  unfold veil at ho
  rw[e,World.putObj_heap_same hlt] at ho
  cases ho
  cases hc
 ·exact⟨e,(World.cell?_of_block (World.putObj_heap_other e)).symm.trans h⟩
theorem cell_veil {b:Nat} {W:World} {p:Addr} {c:Value} (h:W.cell? p=some c) (e:p.block≠b):(veil b W).cell? p=some c:=(World.cell?_of_block (World.putObj_heap_other e)).trans h
def cntV:List Tm→List UInt8→Nat
 | [],_=>0
 | t::ts,s=>cntV ts s+(if t.op=1∧nm t=s then 1 else 0)
def stepV (ts:List Tm) (acc:List ByteArray) (t:Tm):List ByteArray:=if t.op=1∧cntV ts (nm t)=0 then acc++[t.s] else acc
def namesV:List Tm→List Tm→List ByteArray→List ByteArray
 | _,[],acc=>acc
 | past,t::ts,acc=>namesV (past++[t]) ts (stepV past acc t)
def varsV (ts:List Tm):List ByteArray:=namesV [] ts []
end Go.Proofs.YtakpgcmfjlbcgaaGreatDoor
namespace Go.Proofs.YtakpgcmfjlbcgaaGreatDoor
open Lib(hid)
open Go.RowKit
set_option maxRecDepth 100000 in
set_option maxHeartbeats 4000000 in
theorem sameAtom_c (t u:Am) (w:World) (cs ds:List Value) (hc:AmC w w.heap.size t cs) (hd:AmC w w.heap.size u ds) :
  Calls Tryz.prog 180 #[.agg cs.toArray,.agg ds.toArray] w fun e w'=>e=.returned (.bool (sameA t u))∧Below w.heap.size w w':=by
 obtain⟨p1,q1,rfl,_,t1⟩:=hc.look
 obtain⟨p2,q2,rfl,_,t2⟩:=hd.look
 have H:=hid (fun (W:World) (hb:Below w.heap.size w W)=>equalTerms_c t.l u.l (fun x _=>sameTerm_c x) _ _ W ((TmS.below t1 hb).more hb.size) ((TmS.below t2 hb).more hb.size))
 clear hc hd t1 t2
 obtain⟨b1,hb1⟩:∃ b,(t.rel.toList == u.rel.toList)=b:=⟨_,rfl⟩
 have Hz:Hid (sameA t u=(b1 && allS sameT t.l u.l)):=hid (by unfold sameA;rw[sameTs_all,hb1])
 cases b1
 ·go_enter Tryz.func180,Tryz.ntmps180
  go_wp2
  go_ret
  exact⟨by rw[Hz.out];rfl,((Below.refl _ _).alloc (Nat.le_refl _) _).alloc (by simp) _⟩
 ·go_enter Tryz.func180,Tryz.ntmps180
  go_wp2_with fail
  refine (H.out _ (((Below.refl _ _).alloc (Nat.le_refl _) _).alloc (by simp) _)).mono ?_
  rintro e w1 ⟨rfl,b1⟩
  go_wp2
  go_ret
  exact⟨by rw[Hz.out];rfl,(((Below.refl _ _).alloc (Nat.le_refl _) _).alloc (by simp) _).trans (b1.mono (by simp;omega))⟩
end Go.Proofs.YtakpgcmfjlbcgaaGreatDoor
namespace Go.Proofs.YtakpgcmfjlbcgaaGreatDoor
open Lib(hid)
open Go.RowKit
theorem okV_t (a:Addr):okV a true=.nilIface:=rfl
theorem okV_f (a:Addr):okV a false=.iface 250 (.pointer (some a)):=rfl
theorem all_drop {α:Type} {f:α→Bool} {l:List α} {k:Nat} {t:α} (h:l[k]?=some t):(l.drop k).all f=(f t && (l.drop (k+1)).all f):=by
 have h1:l.drop k=t::l.drop (k+1):=by rw[List.drop_eq_getElem_cons (List.getElem?_eq_some_iff.1 h).1,(List.getElem?_eq_some_iff.1 h).2]
 rw[h1];rfl
set_option maxRecDepth 100000 in
set_option maxHeartbeats 4000000 in
theorem checkAtom_c (t:Am) (a:Addr) (w:World) (cs:List Value) (hc:AmC w w.heap.size t cs) (E:TErr a w) :
  Calls Tryz.prog 177 #[.agg cs.toArray] w fun e w'=>e=.returned (okV a (rightA t))∧Below w.heap.size w w':=by
 obtain⟨p1,q1,rfl,hz,t1⟩:=hc.look
 have HN:=hid (fun w=>isName_any t.rel w hz)
 have HT:=hid (fun (W:World) (hb:Below w.heap.size w W)=>checkTerms_c t.l _ a W ((TmS.below t1 hb).more hb.size) (E.below hb))
 obtain⟨o1,cap1,e1,hc1,hm1,_⟩:=SlOf.open t1
 cases e1
 have herr:=E.err
 have hgs:=E.size
 have HE:=hid E
 clear E
 clear hc t1
 have HB0:Hid (∀ (x:Obj),Below w.heap.size w (w.alloc x)):=hid fun x=>(Below.refl _ _).alloc (Nat.le_refl _) _
 have Hz:Hid (rightA t=(nameB t.rel.data.toList && (decide (1≤(t.l.length:Int)) && decide ((t.l.length:Int)≤8)) && t.l.all (rightT 20))):=hid (by
  unfold rightA
  rw[show decide (1≤(t.l.length:Int))=decide (1≤t.l.length) from decide_eq_decide.2 (by omega),show decide ((t.l.length:Int)≤8)=decide (t.l.length≤8) from decide_eq_decide.2 (by omega)]
  cases nameB t.rel.data.toList <;> simp)
 go_enter Tryz.func177,Tryz.ntmps177
 go_wp2_with fail
 refine (HN.out _).mono ?_
 rintro e w1 ⟨rfl,b1⟩
 have B1:=(HB0.out _).trans (b1.mono (by simp))
 obtain⟨hc,hf⟩:=kept b1
 have hz1:w.heap.size < w1.heap.size:=by have:=b1.size;simp at this;omega
 have herr1:=(HE.out.below B1).err
 cases hnm:nameB t.rel.data.toList with
 | false=>
  have Hz1:Hid (rightA t=false):=hid (by rw[Hz.out,hnm];rfl)
  clear hnm
  go_wp2
  go_ret
  exact⟨by rw[Hz1.out];rfl,B1⟩
 | true=>
  have Hz1:Hid (rightA t=((decide (1≤(t.l.length:Int)) && decide ((t.l.length:Int)≤8)) && t.l.all (rightT 20))):=hid (by rw[Hz.out,hnm];rfl)
  clear hnm
  go_wp2_with fail
  refine (count_c _ _).mono ?_
  rintro e w' ⟨rfl,rfl⟩
  cases hcn:(decide (1≤(t.l.length:Int)) && decide ((t.l.length:Int)≤8)) with
  | false=>
   have Hz2:Hid (rightA t=false):=hid (by rw[Hz1.out,hcn];rfl)
   clear hcn
   go_wp2
   go_ret
   exact⟨by rw[Hz2.out];rfl,B1⟩
  | true=>
   have Hz2:Hid (rightA t=t.l.all (rightT 20)):=hid (by rw[Hz1.out,hcn];rfl)
   clear hcn
   go_wp2_with fail
   refine (HT.out _ B1).mono ?_
   rintro e w2 ⟨rfl,b2⟩
   go_wp2
   go_ret
   exact⟨by rw[Hz2.out];rfl,B1.trans (b2.mono (by omega))⟩
set_option maxRecDepth 100000 in
set_option maxHeartbeats 4000000 in
theorem checkHead_c (t:Am) (fact:Bool) (a:Addr) (w:World) (cs:List Value) (hc:AmC w w.heap.size t cs) (E:TErr a w) :
  Calls Tryz.prog 146 #[.agg cs.toArray,.bool fact] w fun e w'=>e=.returned (okV a (t.l.all (headT fact) && rightA t))∧Below w.heap.size w w':=by
 obtain⟨p1,q1,rfl,hz,t1⟩:=hc.look
 have HA:=hid (fun (W:World) (hb:Below w.heap.size w W)=>checkAtom_c t a W _ ((hc.below hb).more hb.size) (E.below hb))
 obtain⟨o1,cap1,e1,hc1,hm1,S1⟩:=SlOf.open t1
 cases e1
 have herr:=E.err
 have hgs:=E.size
 have HE:=hid E
 clear E
 clear hc t1
 have HB0:Hid (∀ (x:Obj),Below w.heap.size w (w.alloc x)):=hid fun x=>(Below.refl _ _).alloc (Nat.le_refl _) _
 go_enter Tryz.func146,Tryz.ntmps146
 go_wp2
 go_loopw [10] (fun i wr=>∃ k:Nat,k≤t.l.length∧i=.int .i64 k∧t.l.all (headT fact)=(t.l.drop k).all (headT fact)∧Below (w.heap.size+1) (w.alloc (.cells #[.string t.rel,.slice p1 t.l.length q1] 44)) wr) (fun i _=>t.l.length - (intOf i).toNat)
 case atStart=>exact⟨0,Nat.zero_le _,rfl,rfl,Below.refl _ _⟩
 case round=>
  obtain⟨k,hk,rfl,hr,hB2⟩:=hrel
  have hB:Below w.heap.size w wr:=(HB0.out _).trans (hB2.mono (by omega))
  have Hr:=hid hr
  clear hr
  have hBs:=hB2.size
  simp only[World.size_alloc] at hBs
  have hz0:w.heap.size < wr.heap.size:=by omega
  have x0:wr.cell? ⟨w.heap.size,0,none⟩=some (.string t.rel):=(hB2.cell (p:=⟨w.heap.size,0,none⟩) (by show w.heap.size < _;omega)).trans (by go_simp)
  have x1:wr.cell? ⟨w.heap.size,1,none⟩=some (.slice p1 t.l.length q1):=(hB2.cell (p:=⟨w.heap.size,1,none⟩) (by show w.heap.size < _;omega)).trans (by go_simp)
  have herr1:=(HE.out.below hB).err
  have hgs1:=(HE.out.below hB).size
  by_cases hlt:k < t.l.length
  ·have hlt':(k:Int) < (t.l.length:Int):=by omega
   obtain⟨xe,ht⟩:∃ xe,t.l[k]?=some xe:=⟨t.l[k],List.getElem?_eq_getElem hlt⟩
   obtain⟨b,p3,q3,rfl,ha,Hc,c0,c1,c2,c3⟩:=tm_at S1 hB ht
   have hal:(b.add (k * 4)).block < wr.heap.size:=by rw[addBlock];omega
   have Hst:=hid (Hr.out.trans (all_drop (f:=headT fact) ht))
   clear ht Hc
   obtain⟨op,xs,xn,xl⟩:=xe
   simp only[Tm.op_mk,Tm.s_mk,Tm.n_mk,Tm.l_mk] at c0 c1 c2 c3
   have Hno:Hid (headT fact (.mk op xs xn xl)=false→(t.l.all (headT fact) && rightA t)=false):=hid (fun h=>by rw[Hst.out,h];rfl)
   have Hyes:Hid (headT fact (.mk op xs xn xl)=true→t.l.all (headT fact)=(t.l.drop (k+1)).all (headT fact)):=hid (fun h=>by rw[Hst.out,h];rfl)
   have hw1:Below (w.heap.size+1) wr (wr.alloc (.cells #[.int .i64 op,.string xs,.int .i64 xn,.slice p3 xl.length q3] 51)):=(Below.refl _ _).alloc (by omega) _
   have Hw1:=hid hw1
   clear hw1
   by_cases o1:op=1
   ·subst o1
    cases fact with
    | true=>
     have Hz:=hid (Hno.out rfl)
     go_wp2
     go_ret
     exact⟨by rw[Hz.out];rfl,hB.trans (Hw1.out.mono (by omega))⟩
    | false=>
     have Hz:=hid (Hyes.out rfl)
     go_wp2
     go_roundw
     case rel=>exact⟨k+1,hlt,by go_num,Hz.out,hB2.trans Hw1.out⟩
     case measure=>simp[intOf];omega
   have e1:(op == 1)=false:=by simpa using o1
   by_cases o4:op=4∨op=5∨op=6∨op=7
   ·have Hz:=hid (Hno.out (by rcases o4 with rfl | rfl | rfl | rfl <;> rfl))
    clear o1
    rcases o4 with rfl | rfl | rfl | rfl
    all_goals
     go_wp2
     go_ret
     exact⟨by rw[Hz.out];rfl,hB.trans (Hw1.out.mono (by omega))⟩
   have e4:(op == 4)=false:=by rw[beq_eq_false_iff_ne];omega
   have e5:(op == 5)=false:=by rw[beq_eq_false_iff_ne];omega
   have e6:(op == 6)=false:=by rw[beq_eq_false_iff_ne];omega
   have e7:(op == 7)=false:=by rw[beq_eq_false_iff_ne];omega
   have Hz:=hid (Hyes.out (by unfold headT twoB;simp only[Tm.op_mk,e1,e4,e5,e6,e7];rfl))
   clear o1 o4
   go_wp2
   go_roundw
   case rel=>exact⟨k+1,hlt,by go_num,Hz.out,hB2.trans Hw1.out⟩
   case measure=>simp[intOf];omega
  ·have hlt':¬ (k:Int) < (t.l.length:Int):=by omega
   have Hz:Hid ((t.l.all (headT fact) && rightA t)=rightA t):=hid (by rw[Hr.out,List.drop_of_length_le (by omega)];rfl)
   go_wp2_with fail
   refine (HA.out _ hB).mono ?_
   rintro e w1 ⟨rfl,b1⟩
   go_wp2
   go_ret
   exact⟨by rw[Hz.out];rfl,hB.trans (b1.mono (by omega))⟩
end Go.Proofs.YtakpgcmfjlbcgaaGreatDoor
namespace Go.Proofs.YtakpgcmfjlbcgaaGreatDoor
open Lib(hid)
open Go.RowKit
def zeroT:Tm:=.mk 0 ⟨#[]⟩ 0 []
theorem zero_c (w:World) (B:Nat):TmC w B zeroT [.int .i64 0,.string ⟨#[]⟩,.int .i64 0,.slice none 0 0]:=.nil 0 ⟨#[]⟩ 0 ⟨by omega,by omega⟩ (by decide) ⟨by omega,by omega⟩
theorem same_zero (t:Tm):sameT t zeroT=noT t:=by
 rw[sameT_eq]
 unfold noT zeroT
 simp only[Tm.op_mk,Tm.s_mk,Tm.n_mk,Tm.l_mk]
 have h1:(t.s.toList == (⟨#[]⟩:ByteArray).toList)=t.s.toList.isEmpty:=by
  have:(⟨#[]⟩:ByteArray).toList=[]:=by rw[Lib.toList_data]
  rw[this]
  cases t.s.toList <;> rfl
 have h2:allS sameT t.l []=t.l.isEmpty:=by cases t.l <;> rfl
 rw[h1,h2]
theorem noT_zero:noT zeroT=true:=by
 unfold noT zeroT
 simp only[Tm.op_mk,Tm.s_mk,Tm.n_mk,Tm.l_mk]
 rw[Lib.toList_data]
 rfl
theorem zero_zero:sameT zeroT zeroT=true:=by rw[same_zero,noT_zero]
theorem boxk {W W1:World} {B:Nat} (n:Nat) (hb:Below B W W1) (hn:n < B):(∀ o,W1.cell? ⟨n,o,none⟩=W.cell? ⟨n,o,none⟩)∧(∀ o,W1.frozen? ⟨n,o,none⟩=W.frozen? ⟨n,o,none⟩):=
 ⟨fun o=>hb.cell (p:=⟨n,o,none⟩) hn,fun o=>hb.frozen (p:=⟨n,o,none⟩) hn⟩
theorem one_slice (W:World) (T:TypeId) (t:Tm) (cs:List Value) (h:TmC W W.heap.size t cs):TmS (W.alloc (.cells cs.toArray T)) (W.alloc (.cells cs.toArray T)).heap.size [t] (.slice (some ⟨W.heap.size,0,none⟩) 1 1):=by
 have hb:Below W.heap.size W (W.alloc (.cells cs.toArray T)):=(Below.refl _ _).alloc (Nat.le_refl _) _
 refine .inr ⟨⟨W.heap.size,0,none⟩,1,rfl,Nat.le_refl _,by unfold maxLen;omega,fun _=>by simp,fun i x hx=>?_⟩
 match i,hx with
 | 0,hx=>
  simp only[List.getElem?_cons_zero,Option.some.injEq] at hx
  subst hx
  exact⟨cs,h.len,(h.under hb).more hb.size,newCells W cs T⟩
theorem two_slice (W:World) (T:TypeId) (t u:Tm) (cs ds:List Value) (h:TmC W W.heap.size t cs) (h':TmC W W.heap.size u ds):TmS (W.alloc (.cells (cs++ds).toArray T)) (W.alloc (.cells (cs++ds).toArray T)).heap.size [t,u] (.slice (some ⟨W.heap.size,0,none⟩) 2 2):=by
 have hb:Below W.heap.size W (W.alloc (.cells (cs++ds).toArray T)):=(Below.refl _ _).alloc (Nat.le_refl _) _
 have hN:=newCells W (cs++ds) T
 refine .inr ⟨⟨W.heap.size,0,none⟩,2,rfl,Nat.le_refl _,by unfold maxLen;omega,fun _=>by simp,fun i x hx=>?_⟩
 match i,hx with
 | 0,hx=>
  simp only[List.getElem?_cons_zero,Option.some.injEq] at hx
  subst hx
  refine⟨cs,h.len,(h.under hb).more hb.size,fun j c hj=>hN j c ?_⟩
  rw[List.getElem?_append_left (List.getElem?_eq_some_iff.1 hj).1]
  exact hj
 | 1,hx=>
  simp only[List.getElem?_cons_succ,List.getElem?_cons_zero,Option.some.injEq] at hx
  subst hx
  refine⟨ds,h'.len,(h'.under hb).more hb.size,fun j c hj=>?_⟩
  have:=hN (4+j) c (by rw[List.getElem?_append_right (by rw[h.len];omega),h.len,Nat.add_sub_cancel_left];exact hj)
  simpa using this
set_option maxRecDepth 100000 in
set_option maxHeartbeats 4000000 in
theorem checkLit_agg (t:Lt) (h8:8≤t.op∧t.op≤10) (a:Addr) (w:World) (cs:List Value) (hc:LtC w w.heap.size t cs) (E:TErr a w) :
  Calls Tryz.prog 147 #[.agg cs.toArray] w fun e w'=>e=.returned (okV a (rightL t))∧Below w.heap.size w w':=by
 obtain⟨o0,k0,o1,k1,o2,k2,rfl,_,HA,HX,HY⟩:=hc.look
 have HCY:Hid (∀ (W:World) (n:Nat),W.heap.size=n→Below w.heap.size w W→Calls Tryz.prog 178 #[.slice (some ⟨n,0,none⟩) 1 1] (W.alloc (.cells #[.int .i64 t.y.op,.string t.y.s,.int .i64 t.y.n,.slice o2 t.y.l.length k2] 51)) fun e w'=>e=.returned (okV a (rightT 20 t.y))∧Below (W.alloc (.cells #[.int .i64 t.y.op,.string t.y.s,.int .i64 t.y.n,.slice o2 t.y.l.length k2] 51)).heap.size (W.alloc (.cells #[.int .i64 t.y.op,.string t.y.s,.int .i64 t.y.n,.slice o2 t.y.l.length k2] 51)) w'):=hid (by
  intro W n hn hb
  subst hn
  have:=checkTerms_c [t.y] _ a _ (one_slice W 51 t.y [.int .i64 t.y.op,.string t.y.s,.int .i64 t.y.n,.slice o2 t.y.l.length k2] ((HY.under hb).more hb.size)) ((E.below hb).below ((Below.refl _ _).alloc (Nat.le_refl _) _))
  rwa [show [t.y].all (rightT 20)=rightT 20 t.y by simp] at this)
 have HCX:Hid (∀ (W:World) (n:Nat),W.heap.size=n→Below w.heap.size w W→Calls Tryz.prog 178 #[.slice (some ⟨n,0,none⟩) 1 1] (W.alloc (.cells #[.int .i64 t.x.op,.string t.x.s,.int .i64 t.x.n,.slice o1 t.x.l.length k1] 51)) fun e w'=>e=.returned (okV a (rightT 20 t.x))∧Below (W.alloc (.cells #[.int .i64 t.x.op,.string t.x.s,.int .i64 t.x.n,.slice o1 t.x.l.length k1] 51)).heap.size (W.alloc (.cells #[.int .i64 t.x.op,.string t.x.s,.int .i64 t.x.n,.slice o1 t.x.l.length k1] 51)) w'):=hid (by
  intro W n hn hb
  subst hn
  have:=checkTerms_c [t.x] _ a _ (one_slice W 51 t.x [.int .i64 t.x.op,.string t.x.s,.int .i64 t.x.n,.slice o1 t.x.l.length k1] ((HX.under hb).more hb.size)) ((E.below hb).below ((Below.refl _ _).alloc (Nat.le_refl _) _))
  rwa [show [t.x].all (rightT 20)=rightT 20 t.x by simp] at this)
 have HCA:=hid (fun (W:World) (hb:Below w.heap.size w W)=>checkAtom_c t.a a W [.string t.a.rel,.slice o0 t.a.l.length k0] ((HA.below hb).more hb.size) (E.below hb))
 have HZ:=hid (fun (W:World)=>sameTerm_c zeroT zeroT W _ _ (zero_c W _) (zero_c W _))
 rw[zero_zero] at HZ
 have herr:=E.err
 have hgs:=E.size
 have HE:=hid E
 clear E
 clear hc HA HX HY
 have HB0:Hid (∀ (x:Obj),Below w.heap.size w (w.alloc x)):=hid fun x=>(Below.refl _ _).alloc (Nat.le_refl _) _
 have Hz:Hid (rightL t=((t.y.op == 1) && rightT 20 t.y && (((t.x.op == 1) || (t.x.op == 2)) && rightT 20 t.x) && rightA t.a)):=hid (by
  unfold rightL
  rw[if_neg (by omega),if_neg (by omega),if_neg (by omega),if_pos h8]
  cases rightA t.a <;> cases rightT 20 t.x <;> cases rightT 20 t.y <;> cases (t.y.op == 1) <;> cases (t.x.op == 1) <;> cases (t.x.op == 2) <;> rfl)
 have hop:t.op=8∨t.op=9∨t.op=10:=by omega
 obtain⟨op,hop'⟩:∃ op,t.op=op:=⟨_,rfl⟩
 rw[hop'] at hop ⊢
 clear h8 hop'
 obtain⟨by1,hy1⟩:∃ b,(t.y.op != 1)=b:=⟨_,rfl⟩
 cases by1 with
 | true=>
  have Hz1:Hid (rightL t=false):=hid (by rw[Hz.out,show (t.y.op == 1)=false by simpa using hy1];rfl)
  rcases hop with rfl | rfl | rfl
  all_goals
   go_enter Tryz.func147,Tryz.ntmps147
   go_wp2
   go_ret
   exact⟨by rw[Hz1.out];rfl,HB0.out _⟩
 | false=>
  have Hz1:Hid (rightL t=(rightT 20 t.y && (((t.x.op == 1) || (t.x.op == 2)) && rightT 20 t.x) && rightA t.a)):=hid (by rw[Hz.out,show (t.y.op == 1)=true by simpa using hy1];rfl)
  clear Hz
  rcases hop with rfl | rfl | rfl
  all_goals
   go_enter Tryz.func147,Tryz.ntmps147
   go_wp2_with fail
   refine (HCY.out _ _ (by simp) (HB0.out _)).mono ?_
   rintro e w1 ⟨rfl,b1⟩
   have B1:Below w.heap.size w w1:=(HB0.out _).trans (((Below.refl _ _).alloc (by simp) _).trans (b1.mono (by simp;omega)))
   obtain⟨hc1,hf1⟩:=boxk w.heap.size b1 (by simp;omega)
   have hz1:w.heap.size+1 < w1.heap.size:=by have:=b1.size;simp at this;omega
   have hz1':w.heap.size < w1.heap.size:=by omega
   have herr1:=(HE.out.below B1).err
   cases hry:rightT 20 t.y with
   | false=>
    have Hz2:Hid (rightL t=false):=hid (by rw[Hz1.out,hry];rfl)
    clear hry
    simp only[okV_f]
    go_wp2
    go_ret
    exact⟨by rw[Hz2.out];rfl,B1⟩
   | true=>
    have Hz2:Hid (rightL t=(((t.x.op == 1) || (t.x.op == 2)) && rightT 20 t.x && rightA t.a)):=hid (by rw[Hz1.out,hry];rfl)
    clear hry Hz1
    simp only[okV_t]
    obtain⟨bx1,hx1⟩:∃ b,(t.x.op != 1)=b:=⟨_,rfl⟩
    obtain⟨bx2,hx2⟩:∃ b,(t.x.op != 2)=b:=⟨_,rfl⟩
    have hxx:((t.x.op == 1) || (t.x.op == 2))=!(bx1 && bx2):=by rw[← hx1,← hx2];cases h1:(t.x.op == 1) <;> cases h2:(t.x.op == 2) <;> simp[bne,h1,h2]
    have SB:Hid (∀ (u v x y:Value),Below w.heap.size w ((((w1.setCell ⟨w.heap.size,7,none⟩ u).setCell ⟨w.heap.size,8,none⟩ v).setCell ⟨w.heap.size,9,none⟩ x).setCell ⟨w.heap.size,10,none⟩ y)):=hid (fun u v x y=>(((B1.setCell (p:=⟨w.heap.size,7,none⟩) (Nat.le_refl _) u).setCell (p:=⟨w.heap.size,8,none⟩) (Nat.le_refl _) v).setCell (p:=⟨w.heap.size,9,none⟩) (Nat.le_refl _) x).setCell (p:=⟨w.heap.size,10,none⟩) (Nat.le_refl _) y)
    rw[hxx] at Hz2
    clear hxx
    have Hbad:Hid (bx1=true→bx2=true→rightL t=false):=hid (by rintro rfl rfl;rw[Hz2.out];rfl)
    have Hgo:Hid ((bx1 && bx2)=false→rightL t=(rightT 20 t.x && rightA t.a)):=hid (by intro h;rw[Hz2.out,h];rfl)
    clear Hz2
    cases bx1 <;> cases bx2
    case true.true=>
     have Hz3:=hid (Hbad.out rfl rfl)
     go_wp2
     go_ret
     exact⟨by rw[Hz3.out];rfl,SB.out _ _ _ _⟩
    all_goals
     have Hz3:=hid (Hgo.out rfl)
     go_wp2_with fail
     refine (HCX.out _ _ (by simp) (SB.out _ _ _ _)).mono ?_
     rintro e w2 ⟨rfl,b2⟩
     have B2:Below w.heap.size w w2:=(SB.out _ _ _ _).trans (((Below.refl _ _).alloc (by simp;omega) _).trans (b2.mono (by simp;omega)))
     obtain⟨hc2,hf2⟩:=boxk w.heap.size b2 (by simp;omega)
     have hz2:w.heap.size < w2.heap.size:=by have:=b2.size;simp at this;omega
     have hz2':w1.heap.size < w2.heap.size:=by have:=b2.size;simp at this;omega
     have herr2:=(HE.out.below B2).err
     cases hrx:rightT 20 t.x with
     | false=>
      have Hz4:Hid (rightL t=false):=hid (by rw[Hz3.out,hrx];rfl)
      clear hrx
      simp only[okV_f]
      go_wp2
      go_ret
      exact⟨by rw[Hz4.out];rfl,B2⟩
     | true=>
      have Hz4:Hid (rightL t=rightA t.a):=hid (by rw[Hz3.out,hrx];rfl)
      clear hrx
      simp only[okV_t]
      have SC:Hid (∀ (u v x y:Value),Below w.heap.size w ((((w2.setCell ⟨w.heap.size,3,none⟩ u).setCell ⟨w.heap.size,4,none⟩ v).setCell ⟨w.heap.size,5,none⟩ x).setCell ⟨w.heap.size,6,none⟩ y)):=hid (fun u v x y=>(((B2.setCell (p:=⟨w.heap.size,3,none⟩) (Nat.le_refl _) u).setCell (p:=⟨w.heap.size,4,none⟩) (Nat.le_refl _) v).setCell (p:=⟨w.heap.size,5,none⟩) (Nat.le_refl _) x).setCell (p:=⟨w.heap.size,6,none⟩) (Nat.le_refl _) y)
      go_wp2_with fail
      refine (HZ.out _).mono ?_
      rintro e w3 ⟨rfl,b3⟩
      have B3:Below w.heap.size w w3:=(SC.out _ _ _ _).trans (b3.mono (by simp;omega))
      obtain⟨hc3,hf3⟩:=boxk w.heap.size b3 (by simp;omega)
      have hz3:w.heap.size < w3.heap.size:=by have:=b3.size;simp at this;omega
      go_wp2_with fail
      refine (HZ.out _).mono ?_
      rintro e w4 ⟨rfl,b4⟩
      have B4:Below w.heap.size w w4:=B3.trans (b4.mono (by omega))
      obtain⟨hc4,hf4⟩:=boxk w.heap.size b4 (by omega)
      go_wp2_with fail
      refine (HCA.out _ B4).mono ?_
      rintro e w5 ⟨rfl,b5⟩
      go_wp2
      go_ret
      exact⟨by rw[Hz4.out];rfl,B4.trans (b5.mono (by have:=b4.size;omega))⟩
set_option maxRecDepth 100000 in
set_option maxHeartbeats 4000000 in
theorem checkLit_atom (t:Lt) (h1:t.op=1∨t.op=2) (a:Addr) (w:World) (cs:List Value) (hc:LtC w w.heap.size t cs) (E:TErr a w) :
  Calls Tryz.prog 147 #[.agg cs.toArray] w fun e w'=>e=.returned (okV a (rightL t))∧Below w.heap.size w w':=by
 obtain⟨o0,k0,o1,k1,o2,k2,rfl,_,HA,HX,HY⟩:=hc.look
 have HCA:=hid (fun (W:World) (hb:Below w.heap.size w W)=>checkAtom_c t.a a W [.string t.a.rel,.slice o0 t.a.l.length k0] ((HA.below hb).more hb.size) (E.below hb))
 have HZX:=hid (fun (W:World) (hb:Below w.heap.size w W)=>sameTerm_c t.x zeroT W [.int .i64 t.x.op,.string t.x.s,.int .i64 t.x.n,.slice o1 t.x.l.length k1] _ ((HX.under hb).more hb.size) (zero_c W _))
 rw[same_zero] at HZX
 have HZY:=hid (fun (W:World) (hb:Below w.heap.size w W)=>sameTerm_c t.y zeroT W [.int .i64 t.y.op,.string t.y.s,.int .i64 t.y.n,.slice o2 t.y.l.length k2] _ ((HY.under hb).more hb.size) (zero_c W _))
 rw[same_zero] at HZY
 have herr:=E.err
 have hgs:=E.size
 have HE:=hid E
 clear E
 clear hc HA HX HY
 have HB0:Hid (∀ (x:Obj),Below w.heap.size w (w.alloc x)):=hid fun x=>(Below.refl _ _).alloc (Nat.le_refl _) _
 have Hz:Hid (rightL t=(noT t.x && (noT t.y && rightA t.a))):=hid (by
  unfold rightL
  rw[if_pos h1]
  cases rightA t.a <;> cases noT t.x <;> cases noT t.y <;> rfl)
 obtain⟨op,hop'⟩:∃ op,t.op=op:=⟨_,rfl⟩
 rw[hop'] at h1 ⊢
 clear hop'
 rcases h1 with rfl | rfl
 all_goals
  go_enter Tryz.func147,Tryz.ntmps147
  go_wp2_with fail
  refine (HZX.out _ (HB0.out _)).mono ?_
  rintro e w1 ⟨rfl,b1⟩
  have B1:Below w.heap.size w w1:=(HB0.out _).trans (b1.mono (by simp))
  obtain⟨hc1,hf1⟩:=boxk w.heap.size b1 (by simp)
  have hz1:w.heap.size < w1.heap.size:=by have:=b1.size;simp at this;omega
  have herr1:=(HE.out.below B1).err
  cases hnx:noT t.x with
  | false=>
   have Hq:Hid (rightL t=false):=hid (by rw[Hz.out,hnx];rfl)
   clear hnx
   go_wp2
   go_ret
   exact⟨by rw[Hq.out];rfl,B1⟩
  | true=>
   have Hz1:Hid (rightL t=(noT t.y && rightA t.a)):=hid (by rw[Hz.out,hnx];rfl)
   clear hnx
   go_wp2_with fail
   refine (HZY.out _ B1).mono ?_
   rintro e w2 ⟨rfl,b2⟩
   have B2:Below w.heap.size w w2:=(B1).trans (b2.mono (by first | omega | (simp;omega)))
   obtain⟨hc2,hf2⟩:=boxk w.heap.size b2 (by first | omega | (simp;omega))
   have herr2:=(HE.out.below B2).err
   cases hny:noT t.y with
   | false=>
    have Hq:Hid (rightL t=false):=hid (by rw[Hz1.out,hny];rfl)
    clear hny
    go_wp2
    go_ret
    exact⟨by rw[Hq.out];rfl,B2⟩
   | true=>
    have Hq:Hid (rightL t=rightA t.a):=hid (by rw[Hz1.out,hny];rfl)
    clear hny
    go_wp2_with fail
    refine (HCA.out _ B2).mono ?_
    rintro e w9 ⟨rfl,b9⟩
    go_wp2
    go_ret
    exact⟨by rw[Hq.out];rfl,B2.trans (b9.mono B2.size)⟩
set_option maxRecDepth 100000 in
set_option maxHeartbeats 4000000 in
theorem checkLit_count (t:Lt) (h7:t.op=7) (a:Addr) (w:World) (cs:List Value) (hc:LtC w w.heap.size t cs) (E:TErr a w) :
  Calls Tryz.prog 147 #[.agg cs.toArray] w fun e w'=>e=.returned (okV a (rightL t))∧Below w.heap.size w w':=by
 obtain⟨o0,k0,o1,k1,o2,k2,rfl,_,HA,HX,HY⟩:=hc.look
 have HCA:=hid (fun (W:World) (hb:Below w.heap.size w W)=>checkAtom_c t.a a W [.string t.a.rel,.slice o0 t.a.l.length k0] ((HA.below hb).more hb.size) (E.below hb))
 have HCX:Hid (∀ (W:World) (n:Nat),W.heap.size=n→Below w.heap.size w W→Calls Tryz.prog 178 #[.slice (some ⟨n,0,none⟩) 1 1] (W.alloc (.cells #[.int .i64 t.x.op,.string t.x.s,.int .i64 t.x.n,.slice o1 t.x.l.length k1] 51)) fun e w'=>e=.returned (okV a (rightT 20 t.x))∧Below (W.alloc (.cells #[.int .i64 t.x.op,.string t.x.s,.int .i64 t.x.n,.slice o1 t.x.l.length k1] 51)).heap.size (W.alloc (.cells #[.int .i64 t.x.op,.string t.x.s,.int .i64 t.x.n,.slice o1 t.x.l.length k1] 51)) w'):=hid (by
  intro W n hn hb
  subst hn
  have:=checkTerms_c [t.x] _ a _ (one_slice W 51 t.x [.int .i64 t.x.op,.string t.x.s,.int .i64 t.x.n,.slice o1 t.x.l.length k1] ((HX.under hb).more hb.size)) ((E.below hb).below ((Below.refl _ _).alloc (Nat.le_refl _) _))
  rwa [show [t.x].all (rightT 20)=rightT 20 t.x by simp] at this)
 have HZY:=hid (fun (W:World) (hb:Below w.heap.size w W)=>sameTerm_c t.y zeroT W [.int .i64 t.y.op,.string t.y.s,.int .i64 t.y.n,.slice o2 t.y.l.length k2] _ ((HY.under hb).more hb.size) (zero_c W _))
 rw[same_zero] at HZY
 have HZ:=hid (fun (W:World)=>sameTerm_c zeroT zeroT W _ _ (zero_c W _) (zero_c W _))
 rw[zero_zero] at HZ
 have herr:=E.err
 have hgs:=E.size
 have HE:=hid E
 clear E
 clear hc HA HX HY
 have HB0:Hid (∀ (x:Obj),Below w.heap.size w (w.alloc x)):=hid fun x=>(Below.refl _ _).alloc (Nat.le_refl _) _
 have Hz:Hid (rightL t=(((t.x.op == 1) || (t.x.op == 2)) && rightT 20 t.x && (noT t.y && rightA t.a))):=hid (by
  unfold rightL
  rw[if_neg (by omega),if_neg (by omega),if_pos h7]
  cases rightA t.a <;> cases rightT 20 t.x <;> cases noT t.y <;> cases (t.x.op == 1) <;> cases (t.x.op == 2) <;> rfl)
 rw[h7]
 clear h7
 obtain⟨bx1,hx1⟩:∃ b,(t.x.op != 1)=b:=⟨_,rfl⟩
 obtain⟨bx2,hx2⟩:∃ b,(t.x.op != 2)=b:=⟨_,rfl⟩
 have hxx:((t.x.op == 1) || (t.x.op == 2))=!(bx1 && bx2):=by rw[← hx1,← hx2];cases h1:(t.x.op == 1) <;> cases h2:(t.x.op == 2) <;> simp[bne,h1,h2]
 rw[hxx] at Hz
 clear hxx
 have Hbad:Hid (bx1=true→bx2=true→rightL t=false):=hid (by rintro rfl rfl;rw[Hz.out];rfl)
 have Hgo:Hid ((bx1 && bx2)=false→rightL t=(rightT 20 t.x && (noT t.y && rightA t.a))):=hid (by intro h;rw[Hz.out,h];rfl)
 clear Hz
 cases bx1 <;> cases bx2
 case true.true=>
  have Hq:=hid (Hbad.out rfl rfl)
  go_enter Tryz.func147,Tryz.ntmps147
  go_wp2
  go_ret
  exact⟨by rw[Hq.out];rfl,HB0.out _⟩
 all_goals
  have Hz3:=hid (Hgo.out rfl)
  go_enter Tryz.func147,Tryz.ntmps147
  go_wp2_with fail
  refine (HCX.out _ _ (by simp) (HB0.out _)).mono ?_
  rintro e w2 ⟨rfl,b2⟩
  have B2:Below w.heap.size w w2:=(HB0.out _).trans (((Below.refl _ _).alloc (by simp) _).trans (b2.mono (by simp;omega)))
  obtain⟨hc2,hf2⟩:=boxk w.heap.size b2 (by simp;omega)
  have hz2:w.heap.size < w2.heap.size:=by have:=b2.size;simp at this;omega
  have herr2:=(HE.out.below B2).err
  cases hrx:rightT 20 t.x with
  | false=>
   have Hq:Hid (rightL t=false):=hid (by rw[Hz3.out,hrx];rfl)
   clear hrx
   simp only[okV_f]
   go_wp2
   go_ret
   exact⟨by rw[Hq.out];rfl,B2⟩
  | true=>
   have Hz4:Hid (rightL t=(noT t.y && rightA t.a)):=hid (by rw[Hz3.out,hrx];rfl)
   clear hrx
   simp only[okV_t]
   have SC:Hid (∀ (u v x y:Value),Below w.heap.size w ((((w2.setCell ⟨w.heap.size,3,none⟩ u).setCell ⟨w.heap.size,4,none⟩ v).setCell ⟨w.heap.size,5,none⟩ x).setCell ⟨w.heap.size,6,none⟩ y)):=hid (fun u v x y=>(((B2.setCell (p:=⟨w.heap.size,3,none⟩) (Nat.le_refl _) u).setCell (p:=⟨w.heap.size,4,none⟩) (Nat.le_refl _) v).setCell (p:=⟨w.heap.size,5,none⟩) (Nat.le_refl _) x).setCell (p:=⟨w.heap.size,6,none⟩) (Nat.le_refl _) y)
   go_wp2_with fail
   refine (HZ.out _).mono ?_
   rintro e w3 ⟨rfl,b3⟩
   have B3:Below w.heap.size w w3:=(SC.out _ _ _ _).trans (b3.mono (by simp;omega))
   obtain⟨hc3,hf3⟩:=boxk w.heap.size b3 (by simp;omega)
   have hz3:w.heap.size < w3.heap.size:=by have:=b3.size;simp at this;omega
   go_wp2_with fail
   refine (HZY.out _ B3).mono ?_
   rintro e w4 ⟨rfl,b4⟩
   have B4:Below w.heap.size w w4:=(B3).trans (b4.mono (by first | omega | (simp;omega)))
   obtain⟨hc4,hf4⟩:=boxk w.heap.size b4 (by first | omega | (simp;omega))
   have herr4:=(HE.out.below B4).err
   cases hny:noT t.y with
   | false=>
    have Hq:Hid (rightL t=false):=hid (by rw[Hz4.out,hny];rfl)
    clear hny
    go_wp2
    go_ret
    exact⟨by rw[Hq.out];rfl,B4⟩
   | true=>
    have Hq:Hid (rightL t=rightA t.a):=hid (by rw[Hz4.out,hny];rfl)
    clear hny
    go_wp2_with fail
    refine (HCA.out _ B4).mono ?_
    rintro e w9 ⟨rfl,b9⟩
    go_wp2
    go_ret
    exact⟨by rw[Hq.out];rfl,B4.trans (b9.mono B4.size)⟩
def zeroA:Am:=⟨⟨#[]⟩,[]⟩
theorem zeroA_c (w:World) (B:Nat):AmC w B zeroA [.string ⟨#[]⟩,.slice none 0 0]:=⟨_,rfl,by decide,.inl ⟨rfl,rfl⟩⟩
theorem same_zeroA (t:Am):sameA t zeroA=noA t:=by
 unfold sameA noA zeroA
 rw[sameTs_all]
 have h1:(t.rel.toList == (⟨#[]⟩:ByteArray).toList)=t.rel.toList.isEmpty:=by
  have:(⟨#[]⟩:ByteArray).toList=[]:=by rw[Lib.toList_data]
  rw[this]
  cases t.rel.toList <;> rfl
 have h2:allS sameT t.l []=t.l.isEmpty:=by cases t.l <;> rfl
 rw[h1,h2]
set_option maxRecDepth 100000 in
set_option maxHeartbeats 4000000 in
theorem checkLit_held (t:Lt) (h3:3≤t.op∧t.op≤6) (a:Addr) (w:World) (cs:List Value) (hc:LtC w w.heap.size t cs) (E:TErr a w) :
  Calls Tryz.prog 147 #[.agg cs.toArray] w fun e w'=>e=.returned (okV a (rightL t))∧Below w.heap.size w w':=by
 obtain⟨o0,k0,o1,k1,o2,k2,rfl,_,HA,HX,HY⟩:=hc.look
 have HCT:Hid (∀ (W:World) (n:Nat),W.heap.size=n→Below w.heap.size w W→Calls Tryz.prog 178 #[.slice (some ⟨n,0,none⟩) 2 2] (W.alloc (.cells #[.int .i64 t.x.op,.string t.x.s,.int .i64 t.x.n,.slice o1 t.x.l.length k1,.int .i64 t.y.op,.string t.y.s,.int .i64 t.y.n,.slice o2 t.y.l.length k2] 51)) fun e w'=>e=.returned (okV a (rightT 20 t.x && rightT 20 t.y))∧Below (W.alloc (.cells #[.int .i64 t.x.op,.string t.x.s,.int .i64 t.x.n,.slice o1 t.x.l.length k1,.int .i64 t.y.op,.string t.y.s,.int .i64 t.y.n,.slice o2 t.y.l.length k2] 51)).heap.size (W.alloc (.cells #[.int .i64 t.x.op,.string t.x.s,.int .i64 t.x.n,.slice o1 t.x.l.length k1,.int .i64 t.y.op,.string t.y.s,.int .i64 t.y.n,.slice o2 t.y.l.length k2] 51)) w'):=hid (by
  intro W n hn hb
  subst hn
  have:=checkTerms_c [t.x,t.y] _ a _ (two_slice W 51 t.x t.y [.int .i64 t.x.op,.string t.x.s,.int .i64 t.x.n,.slice o1 t.x.l.length k1] [.int .i64 t.y.op,.string t.y.s,.int .i64 t.y.n,.slice o2 t.y.l.length k2] ((HX.under hb).more hb.size) ((HY.under hb).more hb.size)) ((E.below hb).below ((Below.refl _ _).alloc (Nat.le_refl _) _))
  rwa [show [t.x,t.y].all (rightT 20)=(rightT 20 t.x && rightT 20 t.y) by simp] at this)
 have HZA:=hid (fun (W:World) (hb:Below w.heap.size w W)=>sameAtom_c t.a zeroA W [.string t.a.rel,.slice o0 t.a.l.length k0] _ ((HA.below hb).more hb.size) (zeroA_c W _))
 rw[same_zeroA] at HZA
 have herr:=E.err
 have hgs:=E.size
 have HE:=hid E
 clear E
 clear hc HA HX HY
 have HB0:Hid (∀ (x:Obj),Below w.heap.size w (w.alloc x)):=hid fun x=>(Below.refl _ _).alloc (Nat.le_refl _) _
 obtain⟨bx,hx⟩:∃ b,(t.x.op == 4)=b:=⟨_,rfl⟩
 obtain⟨by',hy⟩:∃ b,(t.y.op == 4)=b:=⟨_,rfl⟩
 have Hz:Hid (rightL t=(noA t.a && (!bx && (!by' && (rightT 20 t.x && rightT 20 t.y))))):=hid (by
  unfold rightL
  rw[if_neg (by omega),if_pos h3,← hx,← hy]
  unfold bne
  cases noA t.a <;> cases rightT 20 t.x <;> cases rightT 20 t.y <;> cases (t.x.op == 4) <;> cases (t.y.op == 4) <;> rfl)
 have hop:t.op=3∨t.op=4∨t.op=5∨t.op=6:=by omega
 obtain⟨op,hop'⟩:∃ op,t.op=op:=⟨_,rfl⟩
 rw[hop'] at hop ⊢
 clear hop' h3
 rcases hop with rfl | rfl | rfl | rfl
 all_goals
  go_enter Tryz.func147,Tryz.ntmps147
  go_wp2_with fail
  refine (HZA.out _ (HB0.out _)).mono ?_
  rintro e w1 ⟨rfl,b1⟩
  have B1:Below w.heap.size w w1:=(HB0.out _).trans (b1.mono (by simp))
  obtain⟨hc1,hf1⟩:=boxk w.heap.size b1 (by simp)
  have hz1:w.heap.size < w1.heap.size:=by have:=b1.size;simp at this;omega
  have herr1:=(HE.out.below B1).err
  cases hna:noA t.a with
  | false=>
   have Hq:Hid (rightL t=false):=hid (by rw[Hz.out,hna];rfl)
   clear hna
   go_wp2
   go_ret
   exact⟨by rw[Hq.out];rfl,B1⟩
  | true=>
   have Hz1:Hid (rightL t=(!bx && (!by' && (rightT 20 t.x && rightT 20 t.y)))):=hid (by rw[Hz.out,hna];rfl)
   clear hna
   cases bx with
   | true=>
    have Hq:Hid (rightL t=false):=hid (by rw[Hz1.out];rfl)
    go_wp2
    go_ret
    exact⟨by rw[Hq.out];rfl,B1⟩
   | false=>
    cases by' with
    | true=>
     have Hq:Hid (rightL t=false):=hid (by rw[Hz1.out];rfl)
     go_wp2
     go_ret
     exact⟨by rw[Hq.out];rfl,B1⟩
    | false=>
     have Hq:Hid (rightL t=(rightT 20 t.x && rightT 20 t.y)):=hid (by rw[Hz1.out];rfl)
     go_wp2_with fail
     refine (HCT.out _ _ rfl B1).mono ?_
     rintro e w2 ⟨rfl,b2⟩
     go_wp2
     go_ret
     exact⟨by rw[Hq.out];rfl,B1.trans (((Below.refl _ _).alloc (by omega) _).trans (b2.mono (by simp;omega)))⟩
set_option maxRecDepth 100000 in
set_option maxHeartbeats 4000000 in
theorem checkLit_none (t:Lt) (h0:t.op < 1∨10 < t.op) (a:Addr) (w:World) (cs:List Value) (hc:LtC w w.heap.size t cs) (E:TErr a w) :
  Calls Tryz.prog 147 #[.agg cs.toArray] w fun e w'=>e=.returned (okV a (rightL t))∧Below w.heap.size w w':=by
 obtain⟨o0,k0,o1,k1,o2,k2,rfl,_,HA,HX,HY⟩:=hc.look
 have herr:=E.err
 have hgs:=E.size
 have HE:=hid E
 clear E
 clear hc HA HX HY
 have HB0:Hid (∀ (x:Obj),Below w.heap.size w (w.alloc x)):=hid fun x=>(Below.refl _ _).alloc (Nat.le_refl _) _
 have Hq:Hid (rightL t=false):=hid (by unfold rightL;rw[if_neg (by omega),if_neg (by omega),if_neg (by omega),if_neg (by omega)])
 have e1:(t.op == 1)=false:=by rw[beq_eq_false_iff_ne];omega
 have e2:(t.op == 2)=false:=by rw[beq_eq_false_iff_ne];omega
 have e3:(t.op == 3)=false:=by rw[beq_eq_false_iff_ne];omega
 have e4:(t.op == 4)=false:=by rw[beq_eq_false_iff_ne];omega
 have e5:(t.op == 5)=false:=by rw[beq_eq_false_iff_ne];omega
 have e6:(t.op == 6)=false:=by rw[beq_eq_false_iff_ne];omega
 have e7:(t.op == 7)=false:=by rw[beq_eq_false_iff_ne];omega
 have e8:(t.op == 8)=false:=by rw[beq_eq_false_iff_ne];omega
 have e9:(t.op == 9)=false:=by rw[beq_eq_false_iff_ne];omega
 have e10:(t.op == 10)=false:=by rw[beq_eq_false_iff_ne];omega
 clear h0
 go_enter Tryz.func147,Tryz.ntmps147
 go_wp2
 go_ret
 exact⟨by rw[Hq.out];rfl,HB0.out _⟩
theorem checkLit_c (t:Lt) (a:Addr) (w:World) (cs:List Value) (hc:LtC w w.heap.size t cs) (E:TErr a w) :
  Calls Tryz.prog 147 #[.agg cs.toArray] w fun e w'=>e=.returned (okV a (rightL t))∧Below w.heap.size w w':=by
 by_cases h1:t.op=1∨t.op=2
 ·exact checkLit_atom t h1 a w cs hc E
 by_cases h3:3≤t.op∧t.op≤6
 ·exact checkLit_held t h3 a w cs hc E
 by_cases h7:t.op=7
 ·exact checkLit_count t h7 a w cs hc E
 by_cases h8:8≤t.op∧t.op≤10
 ·exact checkLit_agg t h8 a w cs hc E
 ·exact checkLit_none t (by omega) a w cs hc E
end Go.Proofs.YtakpgcmfjlbcgaaGreatDoor
namespace Go.Proofs.YtakpgcmfjlbcgaaGreatDoor
open Lib(hid)
open Go.RowKit
def succOk (ops:Array Oper) (n:Nat) (succ:List Nat):Bool:=(List.range n).all fun i=>match succ[i]? with
 | some s=>decide (i < s) && decide (s≤n) && (match ops[s]? with | some o=>depG o i | none=>false)
 | none=>false
def LStep (P:Program) (Q:Exit→Act→World→Prop) (slots:List (Option Tmp)) (Rs:List (Value→World→Prop)) (a0:Act) (w0:World) (i:Nat) (o:Oper) (Fin:(Nat→Value)→World→Prop):Prop:=
 ∀ (A:Act) (w:World) (val:Nat→Value) (K:Act→World→Prop),Below w0.heap.size w0 w→(∀ s,(some s) ∉ slots→A.tmps[s]?.getD undef=a0.tmps[s]?.getD undef) →
  (∀ j s,slots[j]?=some (some s)→depG o j=true→factG Rs j (A.tmps[s]?.getD undef) w∧A.tmps[s]?.getD undef=val j)→(∀ j s,slots[j]?=some (some s)→j < i→factG Rs j (val j) w) →
  (∀ v w',Fin (updV val i v) w'→K (A.put o.dst v) w')→o.wp P A w K Q
theorem wpAny_last {P:Program} {ops:Array Oper} {Q:Exit→Act→World→Prop} (n:Nat) (succ:List Nat) (slots:List (Option Tmp)) (a0:Act) (w0:World) (Rs:List (Value→World→Prop)) (hn:ops.size=n+1) (hsucc:succOk ops n succ=true) (hdst:ops.toList.map (·.dst)=slots) (hok:slotsOk slots=true) (Fin:(Nat→Value)→World→Prop)
  (hac:(ops.toList.zipIdx.all fun q=>q.1.after.all fun e=>!Region.binds .any e || decide (e.on < q.2))=true) (hg:(ops.toList.all fun o=>o.guard.isNone)=true)
  (hsz:(slots.all fun d=>match d with | none=>true | some s=>decide (s < a0.tmps.size))=true)
  (mono:∀ p ∈ Rs,∀ v w w',p v w→Below w.heap.size w w'→p v w') (hst:AllG (GStep P Q slots Rs a0 w0) 0 (ops.toList.take n))
  (hlast:∀ (o:Oper),ops[n]?=some o→LStep P Q slots Rs a0 w0 n o Fin)
  (fin:∀ (val:Nat→Value) (w:World),Fin val w→Q .normal (putsA slots val 0 a0) w):wpAny P .any ops Q ops.size (Array.replicate ops.size false) a0 w0:=by
 have hat:∀ (i:Nat) (o:Oper),ops[i]?=some o→ops.toList[i]?=some o:=fun i o h=>(Array.getElem?_toList ..).trans h
 have hlen:slots.length=ops.size:=by rw[← hdst];simp
 have hD:∀ (i:Nat) (o:Oper),ops[i]?=some o→o.dst=slotG slots i:=by
  intro i o h
  unfold slotG
  rw[← hdst,List.getElem?_map,hat i o h]
  rfl
 have hS:∀ (i:Nat),i < ops.size→slots[i]?=some (slotG slots i):=by
  intro i hi
  unfold slotG
  rw[List.getElem?_eq_getElem (by omega)]
  rfl
 have hne:∀ i j,i < ops.size→j < ops.size→j≠i→slotG slots j≠slotG slots i∨slotG slots i=none:=by
  intro i j hi hj hji
  unfold slotsOk at hok
  have h1:=List.all_eq_true.1 hok i (List.mem_range.2 (by omega))
  have h2:=List.all_eq_true.1 h1 j (List.mem_range.2 (by omega))
  simp only[Bool.or_eq_true,decide_eq_true_eq,beq_iff_eq,Option.isNone_iff_eq_none] at h2
  rcases h2 with (h2 | h2) | h2
  ·exact absurd h2 hji
  ·exact .inl h2
  ·exact .inr h2
 have hlt:∀ (j:Nat) (s:Tmp),slots[j]?=some (some s)→s < a0.tmps.size:=fun j s h=>by
  have:=List.all_eq_true.1 hsz _ (List.mem_of_getElem? h)
  simpa using this
 have repF:∀ j,(Array.replicate ops.size false).getD j false=false:=by
  intro j
  simp[Array.getD_eq_getD_getElem?,Array.getElem?_replicate]
  split <;> simp
 refine wpAny_flow (slotG slots) hD hne ?_ ?_ a0 (fun l val w=>(∀ (i:Nat) (o:Oper),ops[i]?=some o→l.getD i false=true→∀ e ∈ o.after,Region.binds .any e=true→l.getD e.on false=true)∧(l.getD n false=false→Below w0.heap.size w0 w∧∀ j s,slots[j]?=some (some s)→l.getD j false=true→factG Rs j (val j) w)∧(l.getD n false=true→Fin val w)) ?_ ?_ w0 (fun _=>undef) ⟨?_,fun _=>⟨Below.refl _ _,?_⟩,?_⟩
 ·intro i o h e he hbn
  have hm:(o,i) ∈ ops.toList.zipIdx:=List.mem_zipIdx_iff_getElem?.2 (hat i o h)
  have:=List.all_eq_true.1 hac _ hm
  have:=Array.all_eq_true_iff_forall_mem.1 this e he
  rw[hbn] at this
  simpa using this
 ·intro i o h
  have:=List.all_eq_true.1 hg o (List.mem_of_getElem? (hat i o h))
  simpa using this
 ·rintro l val w i o ⟨hC,hN,hFin⟩ hl ho hf hd A K hA hK
  have hi:i < ops.size:=(Array.getElem?_eq_some_iff.1 ho).1
  have ev:∀ (B:Act) (s:Tmp),B.tmps[s]?.getD undef=B.eval (.tmp s):=fun B s=>by rw[← Array.getD_eq_getD_getElem?];rfl
  have hCl:∀ (k:Nat) (o':Oper),ops[k]?=some o'→(l.setIfInBounds i true).getD k false=true→∀ e ∈ o'.after,Region.binds .any e=true→(l.setIfInBounds i true).getD e.on false=true:=by
   intro k o' hk hkd e he hbn
   have h1:l.getD e.on false=true:=by
    by_cases ek:k=i
    ·subst ek
     rw[ho] at hk
     cases hk
     exact hd e he hbn
    ·rw[getD_set ek] at hkd
     exact hC k o' hk hkd e he hbn
   by_cases ee:e.on=i
   ·rw[ee];exact getD_same (by omega)
   ·rw[getD_set ee];exact h1
  have far:∀ s,(some s) ∉ slots→A.tmps[s]?.getD undef=a0.tmps[s]?.getD undef:=by
   intro s hs
   rw[ev,ev,hA]
   refine actsL_far _ _ fun j hj e=>hs ?_
   rw[← e]
   exact List.mem_of_getElem? (hS j (List.mem_range.1 hj))
  -- what all hangs on has run, if the last one may
  have all:(∀ (o':Oper),ops[n]?=some o'→∀ e ∈ o'.after,Region.binds .any e=true→l.getD e.on false=true)→∀ d k,k+d+1=n→l.getD k false=true:=by
   intro hr d
   induction d using Nat.strongRecOn with
   | _ d ih=>
    intro k hk
    unfold succOk at hsucc
    have h1:=List.all_eq_true.1 hsucc k (List.mem_range.2 (by omega))
    cases hs:succ[k]? with
    | none=>rw[hs] at h1;cases h1
    | some s=>
     rw[hs] at h1
     simp only[Bool.and_eq_true,decide_eq_true_eq] at h1
     obtain⟨⟨h2,h3⟩,h4⟩:=h1
     cases hos:ops[s]? with
     | none=>rw[hos] at h4;cases h4
     | some o'=>
      rw[hos] at h4
      by_cases hsn:s=n
      ·subst hsn
       exact depG_of h4 (hr o' hos)
      ·have hsd:=ih (n - 1 - s) (by omega) s (by omega)
       exact depG_of h4 (hC s o' hos hsd)
  have hnf:l.getD n false=false:=by
   cases hh:l.getD n false with
   | false=>rfl
   | true=>
    exfalso
    by_cases e:i=n
    ·subst e;rw[hf] at hh;cases hh
    ·have:=all (fun o' ho'=>hC n o' ho' hh) (n - 1 - i) i (by omega)
     rw[hf] at this
     cases this
  obtain⟨hb,hF⟩:=hN hnf
  have near:∀ j s,slots[j]?=some (some s)→depG o j=true→factG Rs j (A.tmps[s]?.getD undef) w∧A.tmps[s]?.getD undef=val j:=by
   intro j s hj hdep
   have hjl:=depG_of hdep hd
   have hjs:j < ops.size:=by rw[← hlen];exact (List.getElem?_eq_some_iff.1 hj).1
   have hsl:slotG slots j=some s:=by unfold slotG;rw[hj];rfl
   rw[ev,hA,actsL_eval hjl hsl _ _ (List.mem_range.2 hjs) List.nodup_range (fun k hk hkj e=>?_) (hlt j s hj)]
   ·exact⟨hF j s hj hjl,rfl⟩
   ·rcases hne j k hjs (List.mem_range.1 hk) hkj with h | h
    ·exact h (e.trans hsl.symm)
    ·rw[hsl] at h;cases h
  by_cases e:i=n
  ·subst e
   refine hlast o ho A w val K hb far near (fun j s hj hjn=>?_) fun v w' hR=>hK v w' ⟨hCl,fun h=>?_,fun _=>?_⟩
   ·have hjs:j < ops.size:=by rw[← hlen];exact (List.getElem?_eq_some_iff.1 hj).1
    exact hF j s hj (all (fun o' ho'=>by rw[ho] at ho';cases ho';exact hd) (i - 1 - j) j (by omega))
   ·rw[getD_same (by omega)] at h;cases h
   ·exact hR
  ·have ht:(ops.toList.take n)[i]?=some o:=by rw[List.getElem?_take_of_lt (by omega)];exact hat i o ho
   have hs:=hst.at ht
   rw[Nat.zero_add] at hs
   refine hs A w K hb far (fun j s hj hdep=>(near j s hj hdep).1) fun v w' hb' hR=>hK v w' ⟨hCl,fun _=>⟨hb.trans (hb'.mono hb.size),fun j s hj hjl=>?_⟩,fun h=>?_⟩
   ·by_cases e:j=i
    ·subst e;rw[updV_same];exact hR
    ·rw[getD_set e] at hjl
     rw[updV_other _ _ e]
     exact fun p hp=>mono p (List.mem_of_getElem? hp) _ _ _ (hF j s hj hjl p hp) hb'
   ·rw[getD_set (Ne.symm e),hnf] at h
    cases h
 ·rintro l val w ⟨_,_,hFin⟩ hall
  have h1:∀ i,i < slots.length→slots[i]?=some (slotG slots (0+i)):=fun i hi=>by rw[Nat.zero_add];exact hS i (by omega)
  have h2:∀ i,i < slots.length→l.getD (0+i) false=true:=fun i hi=>by rw[Nat.zero_add];exact hall i (by omega)
  have e:(List.range slots.length).map (0+·)=List.range ops.size:=by rw[hlen];simp
  have:=puts_all (D:=slotG slots) (l:=l) (val:=val) slots 0 a0 h1 h2
  rw[e] at this
  rw[this]
  exact fin val w (hFin (hall n (by omega)))
 ·intro i o _ h
  rw[repF] at h
  cases h
 ·intro j s hj h
  rw[repF] at h
  cases h
 ·intro h
  rw[repF] at h
  cases h
end Go.Proofs.YtakpgcmfjlbcgaaGreatDoor
namespace Go.Proofs.YtakpgcmfjlbcgaaGreatDoor
open Lib(hid)
open Go.RowKit Go.Maps
def kG (k:Nat):Lit:=.int .i64 (k:Int)
theorem kG_inj {a b:Nat} (h:kG a=kG b):a=b:=by
 unfold kG at h
 injection h with _ h
 omega
theorem kG_key (l:List Nat):∀ k ∈ l.map kG,WideAt.IsKeyLit k:=fun k hk=>by
 obtain⟨x,_,rfl⟩:=List.mem_map.1 hk
 trivial
def setG (l:List Nat):DataW Unit:=setOf (.agg []) (l.map kG)
theorem setG_snoc (l:List Nat) (x:Nat):setG (l++[x])=(setG l).put (kG x) (.agg []):=by
 unfold setG
 rw[List.map_append]
 exact setOf_snoc _ _ _
theorem hasG_iff {l:List Nat} {k:Lit}:Maps.has (setG l) k=true ↔ ∃ x ∈ l,k=kG x:=by
 unfold setG
 rw[has_setOf _ _ _ (kG_key l),List.any_eq_true]
 constructor
 ·rintro⟨y,hy,hs⟩
  obtain⟨x,hx,rfl⟩:=List.mem_map.1 hy
  exact⟨x,hx,(WideAt.sameKey_eq hs).symm⟩
 ·rintro⟨x,hx,rfl⟩
  exact⟨kG x,List.mem_map.2 ⟨x,hx,rfl⟩,WideAt.sameKey_self trivial⟩
theorem hasG_nat {l:List Nat} {x:Nat}:Maps.has (setG l) (kG x)=true ↔ x ∈ l:=by
 rw[hasG_iff]
 exact⟨fun ⟨y,hy,e⟩=>kG_inj e ▸ hy,fun h=>⟨x,h,rfl⟩⟩
theorem hasG_not {l:List Nat} {x:Nat} (h:x ∉ l):Maps.has (setG l) (kG x)=false:=by
 cases hh:Maps.has (setG l) (kG x) with
 | false=>rfl
 | true=>exact absurd (hasG_nat.1 hh) h
def SetG (w:World) (M n:Nat) (l:List Nat):Prop:=w.ownsMap Tryz.prog 3 (unitElem (H:=Unit)) M n (setG l)
theorem lawG:Keyed Tryz.prog 3:=int_keyed Tryz.underlying3
theorem zeroG (w:World):(zeroValue 87).run Tryz.prog w=.ok (.agg #[]) w:=by kernel_rfl
theorem wfG {k:Nat} (h:k < 1000000):(Lit.int .i64 (k:Int)).wf=true:=WalkArith.wf_i64 (by omega)
theorem keyG {k:Nat} (h:k < 1000000):keyOf Tryz.prog 3 (.int .i64 (k:Int))=some (kG k):=keyOf_int_mk Tryz.underlying3 (wfG h)
theorem SetG.lt {w:World} {M n:Nat} {l:List Nat} (h:SetG w M n l):M < w.heap.size:=World.ownsMap.lt h
theorem SetG.same {w w':World} {M n:Nat} {l:List Nat} (h:SetG w M n l) (hb:w'.heap[M]?=w.heap[M]?):SetG w' M n l:=by
 obtain⟨es,clock,h1,h2⟩:=h
 exact⟨es,clock,hb.trans h1,h2⟩
theorem SetG.below {w w':World} {M n N:Nat} {l:List Nat} (h:SetG w M n l) (hb:Below N w w') (hN:M < N):SetG w' M n l:=h.same (hb.block M hN)
theorem SetG.kept {w w':World} {M n:Nat} {l:List Nat} {row:Option Nat} (h:SetG w M n l) (hg:w.grownBy w' row) (hne:some M≠row):SetG w' M n l:=World.ownsMap.kept h hg hne
theorem setG_made (w:World):SetG (w.alloc (.map #[] 0)) w.heap.size 0 []:=World.ownsMap_made w _ _ _
def RgG (w:World) (M r n:Nat) (ms vs:List Nat) (cnt:Nat):Prop:=∃ left,w.ranges Tryz.prog 3 (unitElem (H:=Unit)) M r n (setG ms) left cnt∧∀ kl,left kl=true ↔ ∃ k,kl=kG k∧k ∈ ms∧k ∉ vs
theorem RgG.start {w:World} {M r n:Nat} {ms:List Nat} {cnt:Nat} (h:w.ranges Tryz.prog 3 (unitElem (H:=Unit)) M r n (setG ms) (Maps.has (setG ms)) cnt):RgG w M r n ms [] cnt:=
 ⟨_,h,fun kl=>by
  rw[hasG_iff]
  exact⟨fun ⟨x,h1,h2⟩=>⟨x,h2,h1,by simp⟩,fun ⟨x,h1,h2,_⟩=>⟨x,h2,h1⟩⟩⟩
theorem RgG.kept {w w':World} {M r n:Nat} {ms vs:List Nat} {cnt:Nat} {row:Option Nat} (h:RgG w M r n ms vs cnt) (hg:w.grownBy w' row) (h1:some M≠row) (h2:some r≠row):RgG w' M r n ms vs cnt:=by
 obtain⟨left,h3,h4⟩:=h
 exact⟨left,h3.kept hg h1 h2,h4⟩
theorem RgG.lt {w:World} {M r n:Nat} {ms vs:List Nat} {cnt:Nat} (h:RgG w M r n ms vs cnt):r < w.heap.size:=by
 obtain⟨left,h3,_⟩:=h
 exact h3.lt
theorem RgG.left {w:World} {M r n:Nat} {ms vs:List Nat} {cnt:Nat} (h:RgG w M r n ms vs cnt):w.rangeLeft M r=cnt:=by
 obtain⟨left,h3,_⟩:=h
 exact h3.left_eq
theorem RgG.set {w:World} {M r n:Nat} {ms vs:List Nat} {cnt:Nat} (h:RgG w M r n ms vs cnt):SetG w M n ms:=by
 obtain⟨left,h3,_⟩:=h
 exact h3.owns
theorem RgG.ne {w:World} {M r n:Nat} {ms vs:List Nat} {cnt:Nat} (h:RgG w M r n ms vs cnt):r≠M:=by
 obtain⟨left,h3,_⟩:=h
 exact h3.ne
section
variable (w:World) {ops:Array Oper} {rest:List Oper} {o:Oper} {a:Act} {Q:Exit→Act→World→Prop}
theorem wpList_rangeG (hg:o.guard=none) (m:Operand) (t:TypeId) (hop:o.op=Op.range t m) (ht:Tryz.prog.underlying t=some (.map 3 87)) (M n:Nat) (ms:List Nat) (hm:a.eval m=.map (some M)) (h:SetG w M n ms)
  (hK:∀ w' cnt,RgG w' M w.heap.size n ms [] cnt→w.grownBy w' none→w'.heap.size=w.heap.size+1→wpList Tryz.prog ops Q rest (a.put o.dst (.pointer (some ⟨w.heap.size,0,none⟩))) w'):wpList Tryz.prog ops Q (o::rest) a w:=
 wpList_range_own w hg m t hop 3 87 lawG ht (unitElem (H:=Unit)) M n _ hm h fun w0 h1 h2 h3=>hK w0 _ (RgG.start h1) h2 h3
theorem wpList_nextG (hg:o.guard=none) (it:Operand) (hop:o.op=Op.next it false) (M r n:Nat) (ms vs:List Nat) (cnt:Nat) (hit:a.eval it=.pointer (some ⟨r,0,none⟩)) (h:RgG w M r n ms vs cnt)
  (hDone:(∀ x ∈ ms,x ∈ vs)→wpList Tryz.prog ops Q rest (a.put o.dst (.tuple #[.bool false])) w)
  (hMore:∀ (x:Nat) (w':World) (cnt':Nat),x ∈ ms→x ∉ vs→RgG w' M r n ms (vs++[x]) cnt'→cnt' < cnt→w.grownBy w' (some r)→w'.heap.size=w.heap.size→(Instr.entry (.pointer (some ⟨r,0,none⟩))).run Tryz.prog w'=.ok (.tuple #[.int .i64 (x:Int),.agg #[]]) w'→wpList Tryz.prog ops Q rest (a.put o.dst (.tuple #[.bool true,.int .i64 (x:Int),.agg #[]])) w') :
  wpList Tryz.prog ops Q (o::rest) a w:=by
 obtain⟨left,h1,h2⟩:=h
 refine wpList_next_ranges w hg it hop 3 lawG (unitElem (H:=Unit)) (fun x:Int=>.int .i64 x) (fun _:Unit=>.agg #[]) (fun key kl h=>by obtain⟨x,e,_⟩:=keyOf_int_inv Tryz.underlying3 h;exact⟨x,e⟩) (fun v y h=>⟨(),(unitElem_inv h).1⟩) M r n _ _ _ hit h1 ?_ ?_
 ·intro _ h0
  refine hDone fun x hx=>Classical.byContradiction fun hn=>?_
  have:=(h2 (kG x)).2 ⟨x,rfl,hx,hn⟩
  rw[h0] at this
  cases this
 ·intro x c kl y w' cnt' hkey hl _ _ hr hlt hgr hsz hen
  obtain⟨k,rfl,hk,hv⟩:=(h2 kl).1 hl
  obtain⟨x',ex,e2,_⟩:=keyOf_int_inv Tryz.underlying3 hkey
  have e1:x'=x:=by simpa using ex.symm
  subst e1
  have e3:x'=(k:Int):=(Lit.int.inj e2).2.symm
  subst e3
  refine hMore k w' cnt' hk hv ⟨_,hr,fun z=>?_⟩ hlt hgr hsz hen
  rw[Bool.and_eq_true,h2,Bool.not_eq_true']
  constructor
  ·rintro⟨⟨j,rfl,h3,h4⟩,h5⟩
   refine⟨j,rfl,h3,fun hm=>?_⟩
   rcases List.mem_append.1 hm with hm | hm
   ·exact h4 hm
   ·rw[List.mem_singleton.1 hm,WideAt.sameKey_self (show WideAt.IsKeyLit (kG k) from trivial)] at h5
    cases h5
  ·rintro⟨j,rfl,h3,h4⟩
   refine⟨⟨j,rfl,h3,fun hm=>h4 (List.mem_append_left _ hm)⟩,?_⟩
   cases hh:(kG j).sameKey (kG k) with
   | false=>rfl
   | true=>
    have:=kG_inj (WideAt.sameKey_eq hh)
    subst this
    exact absurd (List.mem_append_right _ (List.mem_singleton.2 rfl)) h4
end
end Go.Proofs.YtakpgcmfjlbcgaaGreatDoor
namespace Go.Proofs.YtakpgcmfjlbcgaaGreatDoor
open Lib(hid)
def atomsG (ds:List De) (b:List Lt):List (Int × Nat):=b.filterMap fun l=>(findY l.a.rel ds).map fun k=>(l.op,k)
def headG (ds:List De) (r:Ru):Nat:=(findY r.head.rel ds).getD 0
def edgeG (ds:List De) (r:Ru):Ed:=(atomsG ds r.body).map fun x=>(headG ds r,x.2)
def edgesG (p:Pg):Ed:=p.rules.flatMap (edgeG p.decls)
theorem atomsG_app (ds:List De) (a b:List Lt):atomsG ds (a++b)=atomsG ds a++atomsG ds b:=List.filterMap_append ..
theorem atomsG_take {ds:List De} {b:List Lt} {k:Nat} {l:Lt} (h:b[k]?=some l):atomsG ds (b.take (k+1))=atomsG ds (b.take k)++(match findY l.a.rel ds with | none=>[] | some i=>[(l.op,i)]):=by
 rw[List.take_add_one,h,atomsG_app]
 congr 1
 unfold atomsG
 cases hf:findY l.a.rel ds <;> simp[hf]
theorem atomsG_pre (ds:List De) (b:List Lt) (k:Nat):atomsG ds (b.take k) <+: atomsG ds b:=⟨atomsG ds (b.drop k),by rw[← atomsG_app,List.take_append_drop]⟩
theorem findY_lt {s:ByteArray} {ds:List De} {k:Nat} (h:findY s ds=some k):k < ds.length:=by
 unfold findY at h
 rcases ixY_cases s ds 0 with ⟨h1,_⟩ | ⟨i,e,h1,h2,_⟩
 ·rw[h1] at h;simp at h
 ·rw[h1] at h
  have:=(List.getElem?_eq_some_iff.1 h2).1
  split at h
  ·cases h
  ·have:=Option.some.inj h
   omega
theorem atomsG_lt {ds:List De} {b:List Lt}:∀ x ∈ atomsG ds b,x.2 < ds.length:=by
 intro x hx
 obtain⟨l,_,h⟩:=List.mem_filterMap.1 hx
 obtain⟨k,hk,rfl⟩:=Option.map_eq_some_iff.1 h
 exact findY_lt hk
theorem atomsG_len (ds:List De) (b:List Lt):(atomsG ds b).length≤b.length:=List.length_filterMap_le ..
theorem edgesG_lt {p:Pg}:∀ x ∈ edgesG p,x.2 < p.decls.length:=by
 intro x hx
 obtain⟨r,_,h⟩:=List.mem_flatMap.1 hx
 obtain⟨y,hy,rfl⟩:=List.mem_map.1 h
 exact atomsG_lt y hy
end Go.Proofs.YtakpgcmfjlbcgaaGreatDoor
