/- Tsize@1, Tsmall@1, Tlen@1 -/
import Derived.Test.YtdgbajnhhhjbcaaGreatDoorQ26
set_option linter.unusedSimpArgs false
set_option linter.unusedVariables false
namespace Go.Proofs.YtdgbajnhhhjbcaaGreatDoor
open Lib(hid)
open Go.RowKit
def SizeAt (t:Tm):Prop:=∀ (left:Int) (w:World) (cs:List Value),0≤left→left≤1000000→TmC w w.heap.size t cs →
  Calls Tryz.prog 39 #[.agg cs.toArray,.int .i64 left] w fun e w'=>e=.returned (.int .i64 (sizeT t left))∧Below w.heap.size w w'
set_option maxRecDepth 100000 in
set_option maxHeartbeats 4000000 in
theorem size_c (t:Tm):SizeAt t:=by
 induction t using Tm.rec (motive_2:=fun l=>∀ t ∈ l,SizeAt t) with
 | nil x hx=>simp at hx
 | cons t ts ih ihs x hx=>
  rcases List.mem_cons.1 hx with rfl | hx
  ·exact ih
  ·exact ihs x hx
 | mk op s n l ih=>
  intro left w cs hl0 hl1 hc
  obtain⟨p1,q1,rfl,_,hz,_,t1⟩:=hc.look
  have Hs:=hid (sizeT_mk op s n l left)
  simp only[Tm.op_mk,Tm.s_mk,Tm.n_mk,Tm.l_mk] at Hs t1 hz ⊢
  unfold maxLen at hz
  obtain⟨o1,cap1,e1,hc1,hm1,S1⟩:=SlOf.open t1
  cases e1
  have IH:=hid ih
  clear hc t1 ih
  have HB0:Hid (∀ (x:Obj),Below w.heap.size w (w.alloc x)):=hid fun x=>(Below.refl _ _).alloc (Nat.le_refl _) _
  by_cases hbig:1000 < s.size
  ·have Hz:Hid (sizeT (.mk op s n l) left = -1):=hid (by rw[Hs.out,if_pos hbig])
   have hbig':(1000:Int) < (s.size:Int):=by omega
   go_enter Tryz.func39,Tryz.ntmps39
   go_wp2
   go_ret
   exact⟨retI (by rw[Hz.out]),HB0.out _⟩
  ·have Hz:Hid (sizeT (.mk op s n l) left=foldS sizeT l (left - 1)):=hid (by rw[Hs.out,if_neg hbig])
   have hbig':¬ (1000:Int) < (s.size:Int):=by omega
   clear Hs
   go_enter Tryz.func39,Tryz.ntmps39
   go_wp2
   go_loopw [1,5] (fun lv i wr=>∃ (k:Nat) (L:Int),k≤l.length∧i=.int .i64 k∧lv=.int .i64 L ∧ -1≤L∧L≤1000000∧foldS sizeT l (left - 1)=foldS sizeT (l.drop k) L∧Below (w.heap.size+1) (w.alloc (.cells #[.int .i64 op,.string s,.int .i64 n,.slice p1 l.length q1] 64)) wr) (fun _ i _=>l.length - (intOf i).toNat)
   case atStart=>exact⟨0,left - 1,Nat.zero_le _,rfl,rfl,by omega,by omega,rfl,Below.refl _ _⟩
   case round=>
    obtain⟨k,L,hk,rfl,rfl,hL0,hL1,hr,hB2⟩:=hrel
    have hB:Below w.heap.size w wr:=(HB0.out _).trans (hB2.mono (by omega))
    have Hr:=hid hr
    clear hr
    have hBs:=hB2.size
    simp only[World.size_alloc] at hBs
    have hz0:w.heap.size < wr.heap.size:=by omega
    have x0:wr.cell? ⟨w.heap.size,3,none⟩=some (.slice p1 l.length q1):=(hB2.cell (p:=⟨w.heap.size,3,none⟩) (by show w.heap.size < _;omega)).trans (by go_simp)
    by_cases hlt:k < l.length
    ·have hlt':(k:Int) < (l.length:Int):=by omega
     by_cases hL:0≤L
     ·obtain⟨xe,ht⟩:∃ xe,l[k]?=some xe:=⟨l[k],List.getElem?_eq_getElem hlt⟩
      obtain⟨a,p3,q3,rfl,ha,Hc,c0,c1,c2,c3⟩:=tm_at S1 hB ht
      have hal:(a.add (k * 4)).block < wr.heap.size:=by rw[addBlock];omega
      have Hst:=hid (Hr.out.trans (foldS_drop (f:=sizeT) ht hL))
      have Hm:=hid (List.mem_of_getElem? ht)
      clear ht
      go_wp2_with fail
      refine (IH.out xe Hm.out L _ [_,_,_,_] hL (by omega) Hc.out).mono ?_
      rintro e w1 ⟨rfl,b1⟩
      have hB3:=hB2.trans (b1.mono (by omega))
      have lo:=sizeT_lo xe L hL
      obtain⟨L2,hL2⟩:∃ L2,sizeT xe L=L2:=⟨_,rfl⟩
      rw[hL2] at lo ⊢
      have Hst2:Hid _:=hid (Hst.out.trans (by rw[hL2]))
      clear hL2
      go_wp2
      go_roundw
      case rel=>exact⟨k+1,L2,hlt,by go_num,rfl,lo.1,by omega,Hst2.out,hB3⟩
      case measure=>simp[intOf];omega
     ·have Hz2:=hid (Hr.out.trans (foldS_neg sizeT (l.drop k) (by omega)))
      go_wp2
      (go_ret;exact⟨retI (by rw[Hz.out,Hz2.out]),hB⟩)
    ·have hlt':¬ (k:Int) < (l.length:Int):=by omega
     have Hz2:Hid (foldS sizeT l (left - 1)=L):=hid (by rw[Hr.out,List.drop_of_length_le (by omega)];rfl)
     go_wp2
     (go_ret;exact⟨retI (by rw[Hz.out,Hz2.out]),hB⟩)
set_option maxRecDepth 100000 in
set_option maxHeartbeats 4000000 in
theorem sizeAtom_c (t:Am) (left:Int) (w:World) (cs:List Value) (hl0:-1≤left) (hl1:left≤1000000) (hc:AmC w w.heap.size t cs) :
  Calls Tryz.prog 38 #[.agg cs.toArray,.int .i64 left] w fun e w'=>e=.returned (.int .i64 (sizeA t left))∧Below w.heap.size w w':=by
 obtain⟨p1,q1,rfl,hz,t1⟩:=hc.look
 unfold maxLen at hz
 obtain⟨o1,cap1,e1,hc1,hm1,S1⟩:=SlOf.open t1
 cases e1
 clear hc t1
 have HB0:Hid (∀ (x:Obj),Below w.heap.size w (w.alloc x)):=hid fun x=>(Below.refl _ _).alloc (Nat.le_refl _) _
 by_cases hbig:1000 < t.rel.size
 ·have Hz:Hid (sizeA t left = -1):=hid (by unfold sizeA;rw[if_pos hbig])
  have hbig':(1000:Int) < (t.rel.size:Int):=by omega
  go_enter Tryz.func38,Tryz.ntmps38
  go_wp2
  go_ret
  exact⟨retI (by rw[Hz.out]),HB0.out _⟩
 ·have Hz:Hid (sizeA t left=foldS sizeT t.l left):=hid (by unfold sizeA;rw[if_neg hbig,sizeTs_fold])
  have hbig':¬ (1000:Int) < (t.rel.size:Int):=by omega
  go_enter Tryz.func38,Tryz.ntmps38
  go_wp2
  go_loopw [1,5] (fun lv i wr=>∃ (k:Nat) (L:Int),k≤t.l.length∧i=.int .i64 k∧lv=.int .i64 L ∧ -1≤L∧L≤1000000∧foldS sizeT t.l (left)=foldS sizeT (t.l.drop k) L∧Below (w.heap.size+1) (w.alloc (.cells #[.string t.rel,.slice p1 t.l.length q1] 38)) wr) (fun _ i _=>t.l.length - (intOf i).toNat)
  case atStart=>exact⟨0,left,Nat.zero_le _,rfl,rfl,by omega,by omega,rfl,Below.refl _ _⟩
  case round=>
   obtain⟨k,L,hk,rfl,rfl,hL0,hL1,hr,hB2⟩:=hrel
   have hB:Below w.heap.size w wr:=(HB0.out _).trans (hB2.mono (by omega))
   have Hr:=hid hr
   clear hr
   have hBs:=hB2.size
   simp only[World.size_alloc] at hBs
   have hz0:w.heap.size < wr.heap.size:=by omega
   have x0:wr.cell? ⟨w.heap.size,1,none⟩=some (.slice p1 t.l.length q1):=(hB2.cell (p:=⟨w.heap.size,1,none⟩) (by show w.heap.size < _;omega)).trans (by go_simp)
   by_cases hlt:k < t.l.length
   ·have hlt':(k:Int) < (t.l.length:Int):=by omega
    by_cases hL:0≤L
    ·obtain⟨xe,ht⟩:∃ xe,t.l[k]?=some xe:=⟨t.l[k],List.getElem?_eq_getElem hlt⟩
     obtain⟨a,p3,q3,rfl,ha,Hc,c0,c1,c2,c3⟩:=tm_at S1 hB ht
     have hal:(a.add (k * 4)).block < wr.heap.size:=by rw[addBlock];omega
     have Hst:=hid (Hr.out.trans (foldS_drop (f:=sizeT) ht hL))
     have Hm:=hid (List.mem_of_getElem? ht)
     clear ht
     go_wp2_with fail
     refine (size_c xe L _ [_,_,_,_] hL hL1 Hc.out).mono ?_
     rintro e w1 ⟨rfl,b1⟩
     have hB3:=hB2.trans (b1.mono (by omega))
     have lo:=sizeT_lo xe L hL
     obtain⟨L2,hL2⟩:∃ L2,sizeT xe L=L2:=⟨_,rfl⟩
     rw[hL2] at lo ⊢
     have Hst2:Hid _:=hid (Hst.out.trans (by rw[hL2]))
     clear hL2
     go_wp2
     go_roundw
     case rel=>exact⟨k+1,L2,hlt,by go_num,rfl,lo.1,by omega,Hst2.out,hB3⟩
     case measure=>simp[intOf];omega
    ·have Hz2:=hid (Hr.out.trans (foldS_neg sizeT (t.l.drop k) (by omega)))
     go_wp2
     (go_ret;exact⟨retI (by rw[Hz.out,Hz2.out]),hB⟩)
   ·have hlt':¬ (k:Int) < (t.l.length:Int):=by omega
    have Hz2:Hid (foldS sizeT t.l (left)=L):=hid (by rw[Hr.out,List.drop_of_length_le (by omega)];rfl)
    go_wp2
    (go_ret;exact⟨retI (by rw[Hz.out,Hz2.out]),hB⟩)
set_option maxRecDepth 100000 in
set_option maxHeartbeats 4000000 in
theorem sizeRule_c (t:Ru) (left:Int) (w:World) (cs:List Value) (hl0:0≤left) (hl1:left≤1000000) (hc:RuC w w.heap.size t cs) :
  Calls Tryz.prog 20 #[.agg cs.toArray,.int .i64 left] w fun e w'=>e=.returned (.int .i64 (sizeR t left))∧Below w.heap.size w w':=by
 obtain⟨p1,q1,r1,s1,rfl,_,a1,t1⟩:=hc.look
 obtain⟨o1,cap1,e1,hc1,hm1,S1⟩:=SlOf.open t1
 cases e1
 have HB0:Hid (∀ (x:Obj),Below w.heap.size w (w.alloc x)):=hid fun x=>(Below.refl _ _).alloc (Nat.le_refl _) _
 have HH:=hid (fun (W:World) (hb:Below w.heap.size w W)=>sizeAtom_c t.head (left - 1) W [_,_] (by omega) (by omega) ((a1.below hb).more hb.size))
 clear hc t1 a1
 have lo0:=sizeA_lo t.head (left - 1) (by omega)
 obtain⟨A0,hA0⟩:∃ A0,sizeA t.head (left - 1)=A0:=⟨_,rfl⟩
 have Hz:Hid (sizeR t left=foldS sizeL1 t.body A0):=hid (by unfold sizeR;rw[hA0])
 rw[hA0] at lo0 HH
 clear hA0
 go_enter Tryz.func20,Tryz.ntmps20
 go_wp2_with fail
 refine (HH.out _ (HB0.out _)).mono ?_
 rintro e w0 ⟨rfl,b0⟩
 have b0':=b0.mono (show w.heap.size+1≤_ by simp)
 go_wp2
 go_loopw [1,5] (fun lv i wr=>∃ (k:Nat) (L:Int),k≤t.body.length∧i=.int .i64 k∧lv=.int .i64 L ∧ -1≤L∧L≤1000000∧foldS sizeL1 t.body (A0)=foldS sizeL1 (t.body.drop k) L∧Below (w.heap.size+1) (w.alloc (.cells #[.string t.head.rel,.slice p1 t.head.l.length q1,.slice r1 t.body.length s1,.int .i64 t.line] 41)) wr) (fun _ i _=>t.body.length - (intOf i).toNat)
 case atStart=>exact⟨0,A0,Nat.zero_le _,rfl,rfl,by omega,by omega,rfl,b0'⟩
 case round=>
  obtain⟨k,L,hk,rfl,rfl,hL0,hL1,hr,hB2⟩:=hrel
  have hB:Below w.heap.size w wr:=(HB0.out _).trans (hB2.mono (by omega))
  have Hr:=hid hr
  clear hr
  have hBs:=hB2.size
  simp only[World.size_alloc] at hBs
  have hz0:w.heap.size < wr.heap.size:=by omega
  have x0:wr.cell? ⟨w.heap.size,2,none⟩=some (.slice r1 t.body.length s1):=(hB2.cell (p:=⟨w.heap.size,2,none⟩) (by show w.heap.size < _;omega)).trans (by go_simp)
  by_cases hlt:k < t.body.length
  ·have hlt':(k:Int) < (t.body.length:Int):=by omega
   by_cases hL:0≤L
   ·obtain⟨xe,ht⟩:∃ xe,t.body[k]?=some xe:=⟨t.body[k],List.getElem?_eq_getElem hlt⟩
    obtain⟨a,p3,q3,p4,q4,p5,q5,rfl,ha,Hc,c0,c1,c2,c3,c4,c5,c6,c7,c8,c9,c10⟩:=lt_at S1 hB ht
    have hal:(a.add (k * 11)).block < wr.heap.size:=by rw[addBlock];omega
    have Hst:=hid (Hr.out.trans (foldS_drop (f:=sizeL1) ht hL))
    have Hm:=hid (List.mem_of_getElem? ht)
    clear ht
    obtain⟨_,_,_,_,_,_,e1,_,La,Lx,Ly⟩:=Hc.out.look
    cases e1
    have HA:=hid (fun (l:Int) (h0:-1≤l) (h1:l≤1000000)=>sizeAtom_c xe.a l wr [_,_] h0 h1 La)
    have HX:=hid (fun (l:Int) (W:World) (hb:Below wr.heap.size wr W) (h0:0≤l) (h1:l≤1000000)=>size_c xe.x l W [_,_,_,_] h0 h1 ((Lx.under hb).more hb.size))
    have HY:=hid (fun (l:Int) (W:World) (hb:Below wr.heap.size wr W) (h0:0≤l) (h1:l≤1000000)=>size_c xe.y l W [_,_,_,_] h0 h1 ((Ly.under hb).more hb.size))
    clear La Lx Ly
    have lo:=sizeL1_lo xe L hL
    have lo1:=sizeA_lo xe.a (L - 1) (by omega)
    obtain⟨A1,hA1⟩:∃ A1,sizeA xe.a (L - 1)=A1:=⟨_,rfl⟩
    have hs1:sizeL1 xe L=if A1 < 0 then A1 else if sizeT xe.x A1 < 0 then sizeT xe.x A1 else sizeT xe.y (sizeT xe.x A1):=by unfold sizeL1;rw[hA1]
    go_wp2_with fail
    refine (HA.out _ (by omega) (by omega)).mono ?_
    rw[hA1]
    rw[hA1] at lo1
    rintro e w1 ⟨rfl,b1⟩
    obtain⟨kc,kf⟩:=(⟨fun p h=>b1.cell (p:=p) h,fun p h=>b1.frozen (p:=p) h⟩:(∀ p:Addr,p.block < _→w1.cell? p=_)∧(∀ p:Addr,p.block < _→w1.frozen? p=_))
    have g0:=(kc ⟨w.heap.size,2,none⟩ hz0).trans x0
    have f3:=(kc ⟨(a.add (k * 11)).block,(a.add (k * 11)).off+3,none⟩ hal).trans c3
    have f4:=(kc ⟨(a.add (k * 11)).block,(a.add (k * 11)).off+4,none⟩ hal).trans c4
    have f5:=(kc ⟨(a.add (k * 11)).block,(a.add (k * 11)).off+5,none⟩ hal).trans c5
    have f6:=(kc ⟨(a.add (k * 11)).block,(a.add (k * 11)).off+6,none⟩ hal).trans c6
    have f7:=(kc ⟨(a.add (k * 11)).block,(a.add (k * 11)).off+7,none⟩ hal).trans c7
    have f8:=(kc ⟨(a.add (k * 11)).block,(a.add (k * 11)).off+8,none⟩ hal).trans c8
    have f9:=(kc ⟨(a.add (k * 11)).block,(a.add (k * 11)).off+9,none⟩ hal).trans c9
    have f10:=(kc ⟨(a.add (k * 11)).block,(a.add (k * 11)).off+10,none⟩ hal).trans c10
    have hB3:=hB2.trans (b1.mono (by omega))
    have hk1:=b1.size
    clear kc kf hA1
    by_cases n1:A1 < 0
    ·have n1':¬ 0≤A1:=by omega
     have Hst2:Hid _:=hid (Hst.out.trans (by rw[hs1,if_pos n1]))
     clear hs1
     go_wp2
     go_roundw
     case rel=>exact⟨k+1,A1,hlt,by go_num,rfl,lo1.1,by omega,Hst2.out,hB3⟩
     case measure=>simp[intOf];omega
    ·have n1':0≤A1:=by omega
     rw[if_neg n1] at hs1
     have lo2:=sizeT_lo xe.x A1 n1'
     obtain⟨A2,hA2⟩:∃ A2,sizeT xe.x A1=A2:=⟨_,rfl⟩
     rw[hA2] at hs1 lo2
     have Hs1:=hid hs1
     have HA2:=hid hA2
     clear hs1 hA2
     go_wp2_with fail
     refine (HX.out _ _ b1 n1' (by omega)).mono ?_
     rw[HA2.out]
     rintro e w2 ⟨rfl,b2⟩
     have b12:=b1.trans (b2.mono hk1)
     obtain⟨kc,kf⟩:=(⟨fun p h=>b12.cell (p:=p) h,fun p h=>b12.frozen (p:=p) h⟩:(∀ p:Addr,p.block < _→w2.cell? p=_)∧(∀ p:Addr,p.block < _→w2.frozen? p=_))
     have u0:=(kc ⟨w.heap.size,2,none⟩ hz0).trans x0
     have u7:=(kc ⟨(a.add (k * 11)).block,(a.add (k * 11)).off+7,none⟩ hal).trans c7
     have u8:=(kc ⟨(a.add (k * 11)).block,(a.add (k * 11)).off+8,none⟩ hal).trans c8
     have u9:=(kc ⟨(a.add (k * 11)).block,(a.add (k * 11)).off+9,none⟩ hal).trans c9
     have u10:=(kc ⟨(a.add (k * 11)).block,(a.add (k * 11)).off+10,none⟩ hal).trans c10
     have hB4:=hB2.trans (b12.mono (by omega))
     clear kc kf
     by_cases n2:A2 < 0
     ·have n2':¬ 0≤A2:=by omega
      have Hst2:Hid _:=hid (Hst.out.trans (by rw[Hs1.out,if_pos n2]))
      go_wp2
      go_roundw
      case rel=>exact⟨k+1,A2,hlt,by go_num,rfl,lo2.1,by omega,Hst2.out,hB4⟩
      case measure=>simp[intOf];omega
     ·have n2':0≤A2:=by omega
      have lo3:=sizeT_lo xe.y A2 n2'
      have Hst2:Hid _:=hid (Hst.out.trans (by rw[Hs1.out,if_neg n2]))
      go_wp2_with fail
      refine (HY.out _ _ b12 n2' (by omega)).mono ?_
      rintro e w3 ⟨rfl,b3⟩
      have hk2:=b12.size
      have hB5:=hB2.trans ((b12.trans (b3.mono hk2)).mono (by omega))
      go_wp2
      go_roundw
      case rel=>exact⟨k+1,_,hlt,by go_num,rfl,lo3.1,by omega,Hst2.out,hB5⟩
      case measure=>simp[intOf];omega
   ·have Hz2:=hid (Hr.out.trans (foldS_neg sizeL1 (t.body.drop k) (by omega)))
    go_wp2
    (go_ret;exact⟨retI (by rw[Hz.out,Hz2.out]),hB⟩)
  ·have hlt':¬ (k:Int) < (t.body.length:Int):=by omega
   have Hz2:Hid (foldS sizeL1 t.body (A0)=L):=hid (by rw[Hr.out,List.drop_of_length_le (by omega)];rfl)
   go_wp2
   (go_ret;exact⟨retI (by rw[Hz.out,Hz2.out]),hB⟩)
theorem longB_drop {l:List ByteArray} {k:Nat} {t:ByteArray} (h:l[k]?=some t):longB' (l.drop k)=(decide (1000 < t.size) || longB' (l.drop (k+1))):=by
 have h1:l.drop k=t::l.drop (k+1):=by rw[List.drop_eq_getElem_cons (List.getElem?_eq_some_iff.1 h).1,(List.getElem?_eq_some_iff.1 h).2]
 rw[h1];rfl
theorem anyD_drop {α:Type} {f:α→Bool} {l:List α} {k:Nat} {t:α} (h:l[k]?=some t):(l.drop k).any f=(f t || (l.drop (k+1)).any f):=by
 have h1:l.drop k=t::l.drop (k+1):=by rw[List.drop_eq_getElem_cons (List.getElem?_eq_some_iff.1 h).1,(List.getElem?_eq_some_iff.1 h).2]
 rw[h1];rfl
set_option maxRecDepth 100000 in
set_option maxHeartbeats 4000000 in
theorem long_c (l:List ByteArray) (v:Value) (w:World) (h:SlOf w w.heap.size 1 StrC l v) :
  Calls Tryz.prog 19 #[v] w fun e w'=>e=.returned (.bool (longB' l))∧w=w':=by
 obtain⟨o1,cap1,rfl,hc1,hm1,S1⟩:=SlOf.open h
 clear h
 go_enter Tryz.func19,Tryz.ntmps19
 go_wp2
 go_loop [3] (fun i=>∃ k:Nat,k≤l.length∧i=.int .i64 k∧longB' l=longB' (l.drop k)) (fun i=>l.length - (intOf i).toNat)
 case atStart=>exact⟨0,Nat.zero_le _,rfl,rfl⟩
 case round=>
  obtain⟨k,hk,rfl,hr⟩:=hrel
  have Hr:=hid hr
  clear hr
  by_cases hlt:k < l.length
  ·have hlt':(k:Int) < (l.length:Int):=by omega
   obtain⟨xe,ht⟩:∃ xe,l[k]?=some xe:=⟨l[k],List.getElem?_eq_getElem hlt⟩
   obtain⟨a,rfl,ha,hz,c0⟩:=str_at S1 (Below.refl _ _) ht
   have Hst:=hid (Hr.out.trans (longB_drop ht))
   unfold maxLen at hz
   clear ht
   by_cases hbig:1000 < xe.size
   ·have hbig':(1000:Int) < (xe.size:Int):=by omega
    have Hz:Hid (longB' l=true):=hid (by rw[Hst.out,decide_eq_true hbig];rfl)
    go_wp2
    go_ret
    exact⟨by rw[Hz.out];rfl,rfl⟩
   ·have hbig':¬ (1000:Int) < (xe.size:Int):=by omega
    have Hz:Hid (longB' l=longB' (l.drop (k+1))):=hid (by rw[Hst.out,decide_eq_false hbig];rfl)
    go_wp2
    go_round
    case rel=>exact⟨k+1,hlt,by go_num,Hz.out⟩
    case measure=>simp[intOf];omega
  ·have hlt':¬ (k:Int) < (l.length:Int):=by omega
   have Hz:Hid (longB' l=false):=hid (by rw[Hr.out,List.drop_of_length_le (by omega)];rfl)
   go_wp2
   go_ret
   exact⟨by rw[Hz.out];rfl,rfl⟩
def smallI (p:Pg):Int:=if smallP p=true then 1 else 0
set_option maxRecDepth 100000 in
set_option maxHeartbeats 4000000 in
theorem small_c (t:Pg) (w:World) (cs:List Value) (hc:PgC w w.heap.size t cs) :
  Calls Tryz.prog 8 #[.agg cs.toArray] w fun e w'=>e=.returned (.int .i64 (smallI t))∧Below w.heap.size w w':=by
 obtain⟨p1,q1,r1,s1,rfl,a1,t1⟩:=hc.look
 obtain⟨o1,cap1,e1,hc1,hm1,S1⟩:=SlOf.open a1
 cases e1
 obtain⟨o2,cap2,e2,hc2,hm2,S2⟩:=SlOf.open t1
 cases e2
 clear hc a1 t1
 have HB0:Hid (∀ (x:Obj),Below w.heap.size w (w.alloc x)):=hid fun x=>(Below.refl _ _).alloc (Nat.le_refl _) _
 go_enter Tryz.func8,Tryz.ntmps8
 go_wp2
 go_loopw [4] (fun i wr=>∃ k:Nat,k≤t.decls.length∧i=.int .i64 k∧t.decls.any bigD=(t.decls.drop k).any bigD∧Below (w.heap.size+1) (w.alloc (.cells #[.slice p1 t.decls.length q1,.slice r1 t.rules.length s1] 25)) wr) (fun i _=>t.decls.length - (intOf i).toNat)
 case atStart=>exact⟨0,Nat.zero_le _,rfl,rfl,Below.refl _ _⟩
 case round=>
  obtain⟨k,hk,rfl,hr,hB2⟩:=hrel
  have hB:Below w.heap.size w wr:=(HB0.out _).trans (hB2.mono (by omega))
  have Hr:=hid hr
  clear hr
  have hBs:=hB2.size
  simp only[World.size_alloc] at hBs
  have hz0:w.heap.size < wr.heap.size:=by omega
  have x0:wr.cell? ⟨w.heap.size,0,none⟩=some (.slice p1 t.decls.length q1):=(hB2.cell (p:=⟨w.heap.size,0,none⟩) (by show w.heap.size < _;omega)).trans (by go_simp)
  by_cases hlt:k < t.decls.length
  ·have hlt':(k:Int) < (t.decls.length:Int):=by omega
   obtain⟨xe,ht⟩:∃ xe,t.decls[k]?=some xe:=⟨t.decls[k],List.getElem?_eq_getElem hlt⟩
   obtain⟨a,p3,q3,p4,q4,rfl,ha,Hc,c0,c1,c2,c3,c4,c5⟩:=de_at S1 hB ht
   have hal:(a.add (k * 6)).block < wr.heap.size:=by rw[addBlock];omega
   have Hst:=hid (Hr.out.trans (anyD_drop (f:=bigD) ht))
   clear ht
   obtain⟨_,_,_,_,e1,hz,_,Ln,_⟩:=Hc.out.look
   cases e1
   unfold maxLen at hz
   have HL:=hid (long_c xe.names _ wr Ln)
   clear Ln
   by_cases hbig:1000 < xe.rel.size
   ·have hbig':(1000:Int) < (xe.rel.size:Int):=by omega
    have Hz:Hid (smallI t=0):=hid (by unfold smallI smallP;rw[Hst.out,bigD,decide_eq_true hbig];simp)
    go_wp2
    go_ret
    exact⟨retI (by rw[Hz.out]),hB⟩
   ·have hbig':¬ (1000:Int) < (xe.rel.size:Int):=by omega
    go_wp2_with fail
    refine HL.out.mono ?_
    rintro e w' ⟨rfl,rfl⟩
    cases hlg:longB' xe.names with
    | true=>
     have Hz:Hid (smallI t=0):=hid (by unfold smallI smallP;rw[Hst.out,bigD,hlg];simp)
     clear hlg
     go_wp2
     go_ret
     exact⟨retI (by rw[Hz.out]),hB⟩
    | false=>
     have Hz:Hid (t.decls.any bigD=(t.decls.drop (k+1)).any bigD):=hid (by rw[Hst.out,bigD,hlg,decide_eq_false hbig];rfl)
     clear hlg
     go_wp2
     go_roundw
     case rel=>exact⟨k+1,hlt,by go_num,Hz.out,hB2⟩
     case measure=>simp[intOf];omega
  ·have hlt':¬ (k:Int) < (t.decls.length:Int):=by omega
   have HN:Hid (t.decls.any bigD=false):=hid (by rw[Hr.out,List.drop_of_length_le (by omega)];rfl)
   clear Hr
   go_wp2
   go_loopw [3,5] (fun lv i wr=>∃ (k:Nat) (L:Int),k≤t.rules.length∧i=.int .i64 k∧lv=.int .i64 L ∧ -1≤L∧L≤1000000∧foldS sizeR t.rules (2000)=foldS sizeR (t.rules.drop k) L∧Below (w.heap.size+1) (w.alloc (.cells #[.slice p1 t.decls.length q1,.slice r1 t.rules.length s1] 25)) wr) (fun _ i _=>t.rules.length - (intOf i).toNat)
   case atStart=>exact⟨0,2000,Nat.zero_le _,rfl,rfl,by omega,by omega,rfl,hB2⟩
   case round=>
    obtain⟨k,L,hk,rfl,rfl,hL0,hL1,hr,hB2⟩:=hrel
    have hB:Below w.heap.size w wr:=(HB0.out _).trans (hB2.mono (by omega))
    have Hr:=hid hr
    clear hr
    have hBs:=hB2.size
    simp only[World.size_alloc] at hBs
    have hz0:w.heap.size < wr.heap.size:=by omega
    have x0:wr.cell? ⟨w.heap.size,1,none⟩=some (.slice r1 t.rules.length s1):=(hB2.cell (p:=⟨w.heap.size,1,none⟩) (by show w.heap.size < _;omega)).trans (by go_simp)
    by_cases hlt:k < t.rules.length
    ·have hlt':(k:Int) < (t.rules.length:Int):=by omega
     by_cases hL:0≤L
     ·obtain⟨xe,ht⟩:∃ xe,t.rules[k]?=some xe:=⟨t.rules[k],List.getElem?_eq_getElem hlt⟩
      obtain⟨a,p3,q3,p4,q4,rfl,ha,Hc,c0,c1,c2,c3⟩:=ru_at S2 hB ht
      have hal:(a.add (k * 4)).block < wr.heap.size:=by rw[addBlock];omega
      have Hst:=hid (Hr.out.trans (foldS_drop (f:=sizeR) ht hL))
      have Hm:=hid (List.mem_of_getElem? ht)
      clear ht
      go_wp2_with fail
      refine (sizeRule_c xe L _ [_,_,_,_] hL hL1 Hc.out).mono ?_
      rintro e w1 ⟨rfl,b1⟩
      have hB3:=hB2.trans (b1.mono (by omega))
      have lo:=sizeR_lo xe L hL
      obtain⟨L2,hL2⟩:∃ L2,sizeR xe L=L2:=⟨_,rfl⟩
      rw[hL2] at lo ⊢
      have Hst2:Hid _:=hid (Hst.out.trans (by rw[hL2]))
      clear hL2
      go_wp2
      go_roundw
      case rel=>exact⟨k+1,L2,hlt,by go_num,rfl,lo.1,by omega,Hst2.out,hB3⟩
      case measure=>simp[intOf];omega
     ·have Hz2:=hid (Hr.out.trans (foldS_neg sizeR (t.rules.drop k) (by omega)))
      have Hz4:Hid (smallI t=0):=hid (by unfold smallI smallP;rw[Hz2.out,decide_eq_false hL];simp)
      have hL':L < 0:=by omega
      go_wp2
      (go_ret;exact⟨retI (by rw[Hz4.out]),hB⟩)
    ·have hlt':¬ (k:Int) < (t.rules.length:Int):=by omega
     have Hz2:Hid (foldS sizeR t.rules (2000)=L):=hid (by rw[Hr.out,List.drop_of_length_le (by omega)];rfl)
     have Hz3:=hid Hz2.out
     have xd:wr.cell? ⟨w.heap.size,0,none⟩=some (.slice p1 t.decls.length q1):=(hB2.cell (p:=⟨w.heap.size,0,none⟩) (by show w.heap.size < _;omega)).trans (by go_simp)
     by_cases f1:L < 0
     ·have Hz4:Hid (smallI t=0):=hid (by unfold smallI smallP;rw[Hz3.out,decide_eq_false (show ¬ 0≤L by omega)];simp)
      go_wp2
      (go_ret;exact⟨retI (by rw[Hz4.out]),hB⟩)
     by_cases f2:100 < t.decls.length
     ·have f2':(100:Int) < (t.decls.length:Int):=by omega
      have Hz4:Hid (smallI t=0):=hid (by unfold smallI smallP;rw[decide_eq_false (show ¬ t.decls.length≤100 by omega)];simp)
      go_wp2
      (go_ret;exact⟨retI (by rw[Hz4.out]),hB⟩)
     have f2':¬ (100:Int) < (t.decls.length:Int):=by omega
     by_cases f3:300 < t.rules.length
     ·have f3':(300:Int) < (t.rules.length:Int):=by omega
      have Hz4:Hid (smallI t=0):=hid (by unfold smallI smallP;rw[decide_eq_false (show ¬ t.rules.length≤300 by omega)];simp)
      go_wp2
      (go_ret;exact⟨retI (by rw[Hz4.out]),hB⟩)
     have f3':¬ (300:Int) < (t.rules.length:Int):=by omega
     have Hz4:Hid (smallI t=1):=hid (by unfold smallI smallP;rw[Hz3.out,decide_eq_true (show 0≤L by omega),decide_eq_true (show t.rules.length≤300 by omega),decide_eq_true (show t.decls.length≤100 by omega),HN.out];rfl)
     go_wp2
     (go_ret;exact⟨retI (by rw[Hz4.out]),hB⟩)
theorem TmC.n64 {w:World} {B:Nat} {t:Tm} {cs:List Value} (h:TmC w B t cs):N64 t:=by
 induction h with
 | nil op s n _ _ h3=>exact .mk op s n [] h3 (fun i t ht=>by simp at ht)
 | row op s n l a cap cs _ _ h3 _ _ _ _ _ ih=>exact .mk op s n l h3 ih
def A64 (a:Am):Prop:=∀ t ∈ a.l,N64 t
def L64 (l:Lt):Prop:=A64 l.a∧N64 l.x∧N64 l.y
def R64 (r:Ru):Prop:=A64 r.head∧∀ l ∈ r.body,L64 l
def P64 (p:Pg):Prop:=∀ r ∈ p.rules,R64 r
theorem SlOf.each {α:Type} {w:World} {B z:Nat} {R:α→List Value→Prop} {l:List α} {v:Value} (h:SlOf w B z R l v):∀ x ∈ l,∃ cs,R x cs:=by
 intro x hx
 obtain⟨i,hi⟩:=List.mem_iff_getElem?.1 hx
 obtain⟨o,cap,_,_,_,h4⟩:=SlOf.uni h
 obtain⟨_,cs,_,_,_,h5,_⟩:=h4 i x hi
 exact⟨cs,h5⟩
theorem AmC.a64 {w:World} {B:Nat} {a:Am} {cs:List Value} (h:AmC w B a cs):A64 a:=by
 obtain⟨v,_,_,h3⟩:=h
 intro t ht
 obtain⟨c,hc⟩:=SlOf.each h3 t ht
 exact hc.n64
theorem LtC.l64 {w:World} {B:Nat} {l:Lt} {cs:List Value} (h:LtC w B l cs):L64 l:=by
 obtain⟨_,_,_,_,_,h1,h2,h3⟩:=h
 exact⟨h1.a64,h2.n64,h3.n64⟩
theorem RuC.r64 {w:World} {B:Nat} {r:Ru} {cs:List Value} (h:RuC w B r cs):R64 r:=by
 obtain⟨_,v,_,_,h1,h2⟩:=h
 refine⟨h1.a64,fun l hl=>?_⟩
 obtain⟨c,hc⟩:=SlOf.each h2 l hl
 exact hc.l64
theorem PgC.p64 {w:World} {B:Nat} {p:Pg} {cs:List Value} (h:PgC w B p cs):P64 p:=by
 obtain⟨_,_,_,_,h2⟩:=h
 intro r hr
 obtain⟨c,hc⟩:=SlOf.each h2 r hr
 exact hc.r64
theorem nDigits_le':∀ (k u:Nat),u < 10 ^ (k+1)→Lib.nDigits u≤k+1
 | 0,u,h=>by rw[Lib.nDigits_small (by omega)];omega
 | k+1,u,h=>by
  by_cases h10:u < 10
  ·rw[Lib.nDigits_small h10];omega
  ·rw[Lib.nDigits_big h10]
   have:=nDigits_le' k (u / 10) (by rw[Nat.pow_succ] at h;omega)
   omega
theorem itoa_len' {n:Int} (h:I64 n):(Lib.itoa n).length≤20:=by
 have h0:=h.1
 have h1:=h.2
 have h19:∀ u:Nat,u≤9223372036854775808→(Lib.decDigits u).length≤19:=by
  intro u hu
  rw[Lib.decDigits_length]
  exact nDigits_le' 18 u (by omega)
 unfold Lib.itoa
 split
 ·have:=h19 n.natAbs (by omega)
  simp only[List.length_cons]
  omega
 ·have:=h19 n.toNat (by omega)
  omega
theorem quote_len' (l:List UInt8):(quoteL l).length≤4 * l.length+2:=by
 have:=flat_len l
 simp only[quoteL,List.length_cons,List.length_append,List.length_nil]
 omega
theorem dataLen (s:ByteArray):s.data.toList.length=s.size:=by simp
theorem foldS_step {α:Type} {f:α→Int→Int} {a:α} {l:List α} {left:Int} (h:0≤left):foldS f (a::l) left=foldS f l (f a left):=by
 show (if left < 0 then left else foldS f l (f a left))=_
 rw[if_neg (by omega)]
theorem join_len {α:Type} {f:α→Int→Int} {g:α→List UInt8} {C:Int} (hlo:∀ x left,0≤left → -1≤f x left∧f x left≤left):∀ (l:List α) (left:Int),(∀ x ∈ l,∀ left:Int,0≤left→0≤f x left→((g x).length:Int)+2≤C * (left - f x left))→0≤left→0≤foldS f l left→((joinL [44,32] (l.map g)).length:Int)≤C * (left - foldS f l left)
 | [],left,_,h,_=>by simp[joinL,foldS]
 | [x],left,hx,h,h2=>by
  have e:foldS f [x] left=f x left:=by unfold foldS;rw[if_neg (by omega)];rfl
  rw[e] at h2 ⊢
  have:=hx x (by simp) left h h2
  simp only[List.map_cons,List.map_nil,joinL]
  omega
 | x::y::l,left,hx,h,h2=>by
  have e:foldS f (x::y::l) left=foldS f (y::l) (f x left):=foldS_step (by omega)
  rw[e] at h2 ⊢
  have lo:=hlo x left h
  have h0:0≤f x left:=by
   rcases Int.lt_or_le (f x left) 0 with h3 | h3
   ·rw[foldS_neg f _ h3] at h2;exact h2
   ·exact h3
  have h3:=hx x (by simp) left h h0
  have h4:=join_len hlo (y::l) (f x left) (fun a ha=>hx a (by simp[ha])) h0 h2
  have h5:((joinL [44,32] ((x::y::l).map g)).length:Int)=(g x).length+2+(joinL [44,32] ((y::l).map g)).length:=by
   simp only[List.map_cons,joinL,List.length_append,List.length_cons,List.length_nil]
   omega
  rw[h5]
  have h6:C * (left - foldS f (y::l) (f x left))=C * (left - f x left)+C * (f x left - foldS f (y::l) (f x left)):=by rw[← Int.mul_add];congr 1;omega
  rw[h6]
  omega
theorem foldS_two {α:Type} {f:α→Int→Int} {a b:α} {left:Int} (h:0≤left) (h2:0≤f a left):foldS f [a,b] left=f b (f a left):=by
 unfold foldS
 rw[if_neg (by omega)]
 unfold foldS
 rw[if_neg (by omega)]
 rfl
theorem foldS_nonneg {α:Type} {f:α→Int→Int} {a:α} {l:List α} {left:Int} (h:0≤left) (h2:0≤foldS f (a::l) left):0≤f a left:=by
 have e:foldS f (a::l) left=foldS f l (f a left):=foldS_step (by omega)
 rw[e] at h2
 rcases Int.lt_or_le (f a left) 0 with h3 | h3
 ·rw[foldS_neg f _ h3] at h2;exact h2
 ·exact h3
theorem term_len:∀ (h:Nat) (t:Tm) (left:Int),N64 t→0≤left→0≤sizeT t left→((showT h t).length:Int)≤4100 * (left - sizeT t left) - 10
 | 0,t,left,hn,h0,h1=>by
  rw[sizeT_eq] at h1 ⊢
  split at h1
  ·omega
  ·rename_i hs
   rw[if_neg hs]
   have hl:0≤left - 1:=by
    rcases Int.lt_or_le (left - 1) 0 with h3 | h3
    ·rw[foldS_neg sizeT _ h3] at h1;omega
    ·exact h3
   have lo:=foldS_lo sizeT_lo t.l (left - 1) (by omega)
   simp only[showT,List.length_nil]
   omega
 | h+1,t,left,hn,h0,h1=>by
  rw[sizeT_eq] at h1 ⊢
  split at h1
  ·omega
  ·rename_i hs
   rw[if_neg hs]
   have hl:0≤left - 1:=by
    rcases Int.lt_or_le (left - 1) 0 with h3 | h3
    ·rw[foldS_neg sizeT _ h3] at h1;omega
    ·exact h3
   have lo:=foldS_lo sizeT_lo t.l (left - 1) (by omega)
   unfold showT
   split
   ·rw[dataLen];omega
   ·split
    ·have:=itoa_len' hn.n;omega
    ·split
     ·have:=quote_len' t.s.data.toList
      rw[dataLen] at this
      omega
     ·split
      ·simp only[List.length_cons,List.length_nil];omega
      ·split
       ·rename_i a b hab
        rw[hab] at h1 lo ⊢
        have ha:=foldS_nonneg hl h1
        rw[foldS_two hl ha] at h1 ⊢
        have e1:=term_len h a (left - 1) (hn.l a (by rw[hab];simp)) hl ha
        have e2:=term_len h b (sizeT a (left - 1)) (hn.l b (by rw[hab];simp)) ha h1
        simp only[List.length_append,List.length_cons,List.length_nil]
        omega
       ·simp only[List.length_nil];omega
theorem atom_lenT (a:Am) (left:Int) (ha:A64 a) (h0:0≤left) (h1:0≤sizeA a left):((showA a).length:Int)≤4100 * (left - sizeA a left)+1002:=by
 unfold sizeA at h1 ⊢
 split at h1
 ·omega
 ·rename_i hs
  rw[if_neg hs]
  rw[sizeTs_fold] at h1 ⊢
  have:=join_len (g:=showT 20) (C:=4100) sizeT_lo a.l left (fun x hx l2 g0 g1=>by have:=term_len 20 x l2 (ha x hx) g0 g1;omega) h0 h1
  unfold showA
  simp only[List.length_append,List.length_cons,List.length_nil,dataLen]
  omega
theorem sizeA_back (a:Am) {left:Int} (h:0≤sizeA a left):0≤left:=by
 rcases Int.lt_or_le left 0 with h3 | h3
 ·unfold sizeA at h
  split at h
  ·omega
  ·rw[sizeTs_fold,foldS_neg sizeT _ h3] at h;exact h
 ·exact h3
theorem wordL_len (n:Int):(wordL n).length≤5:=by
 unfold wordL
 repeat' split
 all_goals decide
theorem lit_len (l:Lt) (left:Int) (hl:L64 l) (_:0≤left) (h1:0≤sizeL1 l left):((showL l).length:Int)+2≤4100 * (left - sizeL1 l left):=by
 unfold sizeL1 at h1 ⊢
 split at h1
 ·omega
 ·rename_i ha
  rw[if_neg ha]
  have ha':0≤sizeA l.a (left - 1):=by omega
  split at h1
  ·omega
  ·rename_i hx
   rw[if_neg hx]
   have hx':0≤sizeT l.x (sizeA l.a (left - 1)):=by omega
   have e1:=atom_lenT l.a (left - 1) hl.1 (sizeA_back _ ha') ha'
   have e2:=term_len 20 l.x _ hl.2.1 ha' hx'
   have e3:=term_len 20 l.y _ hl.2.2 hx' h1
   have l1:=sizeA_lo l.a (left - 1) (by have:=sizeA_back _ ha';omega)
   have l2:=sizeT_lo l.x _ ha'
   have l3:=sizeT_lo l.y _ hx'
   have e4:=wordL_len l.op
   unfold showL
   split
   ·omega
   ·split
    ·simp only[List.length_append,List.length_cons,List.length_nil];omega
    ·split
     ·simp only[List.length_append,List.length_cons,List.length_nil];omega
     ·split
      ·simp only[List.length_append,List.length_cons,List.length_nil];omega
      ·simp only[List.length_append,List.length_cons,List.length_nil];omega
theorem rule_len (r:Ru) (left:Int) (hr:R64 r) (_:0≤left) (h1:0≤sizeR r left):((showR r).length:Int)+2≤4100 * (left - sizeR r left):=by
 unfold sizeR at h1 ⊢
 have ha:0≤sizeA r.head (left - 1):=by
  rcases Int.lt_or_le (sizeA r.head (left - 1)) 0 with h3 | h3
  ·rw[foldS_neg sizeL1 _ h3] at h1;exact h1
  ·exact h3
 have e1:=atom_lenT r.head (left - 1) hr.1 (sizeA_back _ ha) ha
 have e2:=join_len (g:=showL) (C:=4100) sizeL1_lo r.body _ (fun x hx l2 g0 g1=>lit_len x l2 (hr.2 x hx) g0 g1) ha h1
 have lo:=foldS_lo sizeL1_lo r.body _ (show -1≤sizeA r.head (left - 1) by omega)
 have l1:=sizeA_lo r.head (left - 1) (by have:=sizeA_back _ ha;omega)
 unfold showR
 split
 ·simp only[List.length_append,List.length_cons,List.length_nil];omega
 ·simp only[List.length_append,List.length_cons,List.length_nil];omega
theorem rules_len:∀ (l:List Ru) (left:Int),(∀ r ∈ l,R64 r)→0≤left→0≤foldS sizeR l left→((rulesT l).length:Int)≤4100 * (left - foldS sizeR l left)
 | [],left,_,_,_=>by simp[rulesT,foldS]
 | r::l,left,hr,h0,h1=>by
  have h2:=foldS_nonneg h0 h1
  have e:foldS sizeR (r::l) left=foldS sizeR l (sizeR r left):=foldS_step (by omega)
  rw[e] at h1 ⊢
  have h3:=rule_len r left (hr r (by simp)) h0 h2
  have h4:=rules_len l _ (fun x hx=>hr x (by simp[hx])) h2 h1
  rw[rules_cons]
  simp only[List.length_append,List.length_cons]
  omega
theorem join_le {α:Type} {g:α→List UInt8} {C:Nat}:∀ (l:List α),(∀ x ∈ l,(g x).length+2≤C)→(joinL [44,32] (l.map g)).length≤C * l.length
 | [],_=>by simp[joinL]
 | [x],h=>by
  have:=h x (by simp)
  simp only[List.map_cons,List.map_nil,joinL,List.length_cons,List.length_nil]
  omega
 | x::y::l,h=>by
  have h1:=h x (by simp)
  have h2:=join_le (y::l) (fun a ha=>h a (by simp[ha]))
  have h5:(joinL [44,32] ((x::y::l).map g)).length=(g x).length+2+(joinL [44,32] ((y::l).map g)).length:=by
   simp only[List.map_cons,joinL,List.length_append,List.length_cons,List.length_nil]
  rw[h5,List.length_cons (a:=x),Nat.mul_succ]
  omega
theorem typeL_len (n:Int):(typeL n).length≤6:=by
 unfold typeL
 split <;> decide
theorem decl_len {d:De} (h:rightD d=true):(showD d).length≤1000:=by
 obtain⟨h1,_,h3,h4,h5,_⟩:=rightD_parts h
 have n1:=name_len h1
 have e1:(joinL [44,32] ((d.names.zip d.types).map colL)).length≤50 * (d.names.zip d.types).length:=join_le _ (fun x hx=>by
  have a1:=name_len (h5 _ (List.of_mem_zip hx).1)
  have a2:=typeL_len x.2
  simp only[colL,List.length_append,List.length_cons,List.length_nil]
  omega)
 rw[List.length_zip,h4,Nat.min_self] at e1
 unfold showD
 split <;> split <;> simp only[List.length_append,List.length_cons,List.length_nil] <;> omega
theorem decls_len:∀ (l:List De),(∀ d ∈ l,rightD d=true)→(l.flatMap showD).length≤1000 * l.length
 | [],_=>by simp
 | d::l,h=>by
  have h1:=decl_len (h d (by simp))
  have h2:=decls_len l (fun x hx=>h x (by simp[hx]))
  rw[List.flatMap_cons,List.length_append,List.length_cons]
  omega
theorem prog_len {p:Pg} (hn:P64 p) (hs:smallP p=true) (hr:rightP p=true):(showP p).length≤8300000:=by
 obtain⟨h1,h2,h3,h4⟩:=rightP_parts hr
 unfold smallP at hs
 simp only[Bool.and_eq_true,decide_eq_true_eq] at hs
 have e1:=decls_len p.decls h3
 have e2:=rules_len p.rules 2000 hn (by omega) hs.1.1.2
 rw[showP_eq,List.length_append]
 omega
end Go.Proofs.YtdgbajnhhhjbcaaGreatDoor
