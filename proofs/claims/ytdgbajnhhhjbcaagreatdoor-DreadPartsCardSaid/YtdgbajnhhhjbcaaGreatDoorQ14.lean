/- Tchk2@012, Tright@012, Twr@012 -/
import Derived.Deep.RegionHeld3
import Derived.Test.YtdgbajnhhhjbcaaGreatDoorQ13
set_option linter.unusedSimpArgs false
namespace Go.Proofs.YtdgbajnhhhjbcaaGreatDoor
open Lib(hid)
open Go.RowKit
set_option maxRecDepth 100000 in
set_option maxHeartbeats 4000000 in
theorem checkRule_c (t:Ru) (a:Addr) (w:World) (cs:List Value) (hc:RuC w w.heap.size t cs) (E:TErr a w) :
  Calls Tryz.prog 57 #[.agg cs.toArray] w fun e w'=>e=.returned (okV a (rightR t))∧Below w.heap.size w w':=by
 obtain⟨o0,k0,o1,k1,rfl,_,H1,H2⟩:=hc.look
 have HH:=hid (fun (W:World) (hb:Below w.heap.size w W)=>checkHead_c t.head t.body.isEmpty a W _ ((H1.below hb).more hb.size) (E.below hb))
 obtain⟨o2,cap2,e2,hc2,hm2,SL⟩:=SlOf.open H2
 cases e2
 have herr:=E.err
 have hgs:=E.size
 have HE:=hid E
 clear E
 clear hc H1 H2
 have HB0:Hid (∀ (x:Obj),Below w.heap.size w (w.alloc x)):=hid fun x=>(Below.refl _ _).alloc (Nat.le_refl _) _
 have hie:((t.body.length:Int) == 0)=t.body.isEmpty:=by cases t.body <;> simp <;> omega
 by_cases hbig:20 < t.body.length
 ·have hbig':(20:Int) < (t.body.length:Int):=by omega
  have Hq:Hid (rightR t=false):=hid (by unfold rightR;rw[decide_eq_false (show ¬ t.body.length≤20 by omega)];simp)
  clear hie
  go_enter Tryz.func57,Tryz.ntmps57
  go_wp2
  go_ret
  exact⟨by rw[Hq.out];rfl,HB0.out _⟩
 have hbig':¬ (20:Int) < (t.body.length:Int):=by omega
 have Hz0:Hid (rightR t=((t.head.l.all (headT t.body.isEmpty) && rightA t.head) && t.body.all rightL)):=hid (by
  unfold rightR
  rw[decide_eq_true (show t.body.length≤20 by omega)]
  cases rightA t.head <;> cases t.head.l.all (headT t.body.isEmpty) <;> rfl)
 go_enter Tryz.func57,Tryz.ntmps57
 go_wp2_with fail
 refine (HH.out _ (HB0.out _)).mono ?_
 rintro e w1 ⟨rfl,b1⟩
 have B1:Below (w.heap.size+1) (w.alloc (.cells #[.string t.head.rel,.slice o0 t.head.l.length k0,.slice o1 t.body.length k1,.int .i64 t.line] 41)) w1:=b1.mono (by simp)
 obtain⟨hc1,hf1⟩:=boxk w.heap.size b1 (by simp)
 cases hh:(t.head.l.all (headT t.body.isEmpty) && rightA t.head) with
 | false=>
  have Hq:Hid (rightR t=false):=hid (by rw[Hz0.out,hh];rfl)
  clear hh hie
  simp only[okV_f]
  go_wp2
  go_ret
  exact⟨by rw[Hq.out];rfl,(HB0.out _).trans (B1.mono (by omega))⟩
 | true=>
 have Hz:Hid (rightR t=t.body.all rightL):=hid (by rw[Hz0.out,hh];rfl)
 clear hh hie
 simp only[okV_t]
 go_wp2
 go_loopw [25] (fun i wr=>∃ k:Nat,k≤t.body.length∧i=.int .i64 k∧t.body.all rightL=(t.body.drop k).all rightL∧Below (w.heap.size+1) (w.alloc (.cells #[.string t.head.rel,.slice o0 t.head.l.length k0,.slice o1 t.body.length k1,.int .i64 t.line] 41)) wr) (fun i _=>t.body.length - (intOf i).toNat)
 case atStart=>exact⟨0,Nat.zero_le _,rfl,rfl,B1⟩
 case round=>
  obtain⟨k,hk,rfl,hr,hB2⟩:=hrel
  have hB:Below w.heap.size w wr:=(HB0.out _).trans (hB2.mono (by omega))
  have Hr:=hid hr
  clear hr
  have hBs:=hB2.size
  simp only[World.size_alloc] at hBs
  have hz0:w.heap.size < wr.heap.size:=by omega
  by_cases hlt:k < t.body.length
  ·have hlt':(k:Int) < (t.body.length:Int):=by omega
   obtain⟨xe,ht⟩:∃ xe,t.body[k]?=some xe:=⟨t.body[k],List.getElem?_eq_getElem hlt⟩
   obtain⟨b,p3,q3,p4,q4,p5,q5,rfl,ha,Hc,c0,c1,c2,c3,c4,c5,c6,c7,c8,c9,c10⟩:=lt_at SL hB ht
   have hal:(b.add (k * 11)).block < wr.heap.size:=by rw[addBlock];omega
   have Hst:=hid (Hr.out.trans (all_drop (f:=rightL) ht))
   clear ht
   have HI:=hid (fun (W:World) (hb:Below wr.heap.size wr W)=>checkLit_c xe a W _ ((Hc.out.below hb).more hb.size) ((HE.out.below hB).below hb))
   go_wp2_with fail
   refine (HI.out _ ((Below.refl _ _).alloc (Nat.le_refl _) _)).mono ?_
   rintro e w1 ⟨rfl,b1⟩
   have b1':Below wr.heap.size wr w1:=((Below.refl _ _).alloc (Nat.le_refl _) _).trans (b1.mono (by simp))
   have hB3:=hB2.trans (b1'.mono (by omega))
   cases hs:rightL xe with
   | false=>
    have Hz2:=hid (Hst.out.trans (by rw[hs,Bool.false_and]))
    have Hq:Hid (rightR t=false):=hid (by rw[Hz.out,Hz2.out])
    clear hs
    simp only[okV_f]
    go_wp2
    go_ret
    exact⟨by rw[Hq.out];rfl,hB.trans (b1'.mono hB.size)⟩
   | true=>
    have Hz2:=hid (Hst.out.trans (by rw[hs,Bool.true_and]))
    clear hs
    simp only[okV_t]
    go_wp2
    go_roundw
    case rel=>exact⟨k+1,hlt,by go_num,Hz2.out,hB3⟩
    case measure=>simp[intOf];omega
  ·have hlt':¬ (k:Int) < (t.body.length:Int):=by omega
   have Hall:Hid (t.body.all rightL=true):=hid (by rw[Hr.out,List.drop_of_length_le (by omega)];rfl)
   have Hq:Hid (rightR t=true):=hid (by rw[Hz.out,Hall.out])
   go_wp2
   go_ret
   exact⟨by rw[Hq.out];rfl,hB⟩
def nameS (s:ByteArray):Bool:=nameB s.data.toList
def colB (x:ByteArray × Int):Bool:=nameS x.1 && rightTy x.2
theorem cols_all:∀ (l:List ByteArray) (m:List Int),l.length=m.length→(l.all nameS && m.all rightTy)=(l.zip m).all colB
 | [],[],_=>rfl
 | x::l,y::m,h=>by
  have ih:=cols_all l m (by simpa using h)
  simp only[List.all_cons,List.zip_cons_cons]
  rw[← ih]
  unfold colB
  simp only
  cases nameS x <;> cases rightTy y <;> cases l.all nameS <;> cases m.all rightTy <;> rfl
set_option maxRecDepth 100000 in
set_option maxHeartbeats 4000000 in
theorem checkDecl_c (t:De) (a:Addr) (w:World) (cs:List Value) (hc:DeC w w.heap.size t cs) (E:TErr a w) :
  Calls Tryz.prog 56 #[.agg cs.toArray] w fun e w'=>e=.returned (okV a (rightD t))∧Below w.heap.size w w':=by
 obtain⟨o0,k0,o1,k1,rfl,hz,_,H1,H2⟩:=hc.look
 have HN:=hid (fun w=>isName_any t.rel w hz)
 obtain⟨o2,cap2,e2,hc2,hm2,SL⟩:=SlOf.open H1
 cases e2
 obtain⟨o2,cap2,e2,hc3,hm3,SL2⟩:=SlOf.open H2
 cases e2
 have herr:=E.err
 have hgs:=E.size
 have HE:=hid E
 clear E
 clear hc H1 H2
 have HB0:Hid (∀ (x:Obj),Below w.heap.size w (w.alloc x)):=hid fun x=>(Below.refl _ _).alloc (Nat.le_refl _) _
 have Hz:Hid (rightD t=(nameB t.rel.data.toList && ((decide (1≤(t.names.length:Int)) && decide ((t.names.length:Int)≤8)) && (decide (t.types.length=t.names.length) && (t.names.all nameS && t.types.all rightTy))))):=hid (by
  unfold rightD
  rw[show decide (1≤(t.names.length:Int))=decide (1≤t.names.length) from decide_eq_decide.2 (by omega),show decide ((t.names.length:Int)≤8)=decide (t.names.length≤8) from decide_eq_decide.2 (by omega)]
  simp only[Bool.and_assoc]
  rfl)
 go_enter Tryz.func56,Tryz.ntmps56
 go_wp2_with fail
 refine (HN.out _).mono ?_
 rintro e w1 ⟨rfl,b1⟩
 have B1:=(HB0.out _).trans (b1.mono (by simp))
 have B1':Below (w.heap.size+1) (w.alloc (.cells #[.string t.rel,.slice o0 t.names.length k0,.slice o1 t.types.length k1,.bool t.inn,.bool t.out,.int .i64 t.line] 34)) w1:=b1.mono (by simp)
 obtain⟨hc,hf⟩:=boxk w.heap.size b1 (by simp)
 have herr1:=(HE.out.below B1).err
 cases hnm:nameB t.rel.data.toList with
 | false=>
  have Hq:Hid (rightD t=false):=hid (by rw[Hz.out,hnm];rfl)
  clear hnm
  go_wp2
  go_ret
  exact⟨by rw[Hq.out];rfl,B1⟩
 | true=>
 have Hz1:Hid (rightD t=((decide (1≤(t.names.length:Int)) && decide ((t.names.length:Int)≤8)) && (decide (t.types.length=t.names.length) && (t.names.all nameS && t.types.all rightTy)))):=hid (by rw[Hz.out,hnm];rfl)
 clear hnm
 go_wp2_with fail
 refine (count_c _ _).mono ?_
 rintro e w' ⟨rfl,rfl⟩
 cases hcn:(decide (1≤(t.names.length:Int)) && decide ((t.names.length:Int)≤8)) with
 | false=>
  have Hq:Hid (rightD t=false):=hid (by rw[Hz1.out,hcn];rfl)
  clear hcn
  go_wp2
  go_ret
  exact⟨by rw[Hq.out];rfl,B1⟩
 | true=>
 obtain⟨bl,hbl⟩:∃ b,((t.types.length:Int) != (t.names.length:Int))=b:=⟨_,rfl⟩
 cases bl with
 | true=>
  have Hq:Hid (rightD t=false):=hid (by rw[Hz1.out,hcn,decide_eq_false (show ¬ t.types.length=t.names.length by intro h;rw[h] at hbl;simp at hbl)];rfl)
  clear hcn
  go_wp2
  go_ret
  exact⟨by rw[Hq.out];rfl,B1⟩
 | false=>
 have Hlen:Hid (t.types.length=t.names.length):=hid (by
  have:(t.types.length:Int)=t.names.length:=by simpa using hbl
  omega)
 have Hz2:Hid (rightD t=(t.names.zip t.types).all colB):=hid (by rw[Hz1.out,hcn,decide_eq_true Hlen.out,← cols_all _ _ Hlen.out.symm];rfl)
 have HLZ:Hid ((t.names.zip t.types).length=t.names.length):=hid (by rw[List.length_zip,Hlen.out];omega)
 clear hcn
 go_wp2
 go_loopw [29] (fun i wr=>∃ k:Nat,k≤t.names.length∧i=.int .i64 k∧(t.names.zip t.types).all colB=((t.names.zip t.types).drop k).all colB∧Below (w.heap.size+1) (w.alloc (.cells #[.string t.rel,.slice o0 t.names.length k0,.slice o1 t.types.length k1,.bool t.inn,.bool t.out,.int .i64 t.line] 34)) wr) (fun i _=>t.names.length - (intOf i).toNat)
 case atStart=>exact⟨0,Nat.zero_le _,rfl,rfl,B1'⟩
 case round=>
  obtain⟨k,hk,rfl,hr,hB2⟩:=hrel
  have hB:Below w.heap.size w wr:=(HB0.out _).trans (hB2.mono (by omega))
  have Hr:=hid hr
  clear hr
  have hBs:=hB2.size
  simp only[World.size_alloc] at hBs
  have hz0:w.heap.size < wr.heap.size:=by omega
  by_cases hlt:k < t.names.length
  ·have hlt':(k:Int) < (t.names.length:Int):=by omega
   have hlt2:k < t.types.length:=by have:=Hlen.out;omega
   have hlt3:(k:Int) < (t.types.length:Int):=by omega
   obtain⟨xe,ht⟩:∃ xe,t.names[k]?=some xe:=⟨t.names[k],List.getElem?_eq_getElem hlt⟩
   obtain⟨ye,hv⟩:∃ ye,t.types[k]?=some ye:=⟨t.types[k],List.getElem?_eq_getElem hlt2⟩
   obtain⟨b,rfl,ha,hxz,c0⟩:=str_at SL hB ht
   have hzip:(t.names.zip t.types)[k]?=some (xe,ye):=by rw[List.getElem?_zip_eq_some];exact⟨ht,hv⟩
   have Hst:=hid (Hr.out.trans (all_drop (f:=colB) hzip))
   have HV:=hid hv
   clear ht hzip hv
   go_wp2_with fail
   refine (isName_any xe wr hxz).mono ?_
   rintro e w2 ⟨rfl,b2⟩
   have hB3:=hB2.trans (b2.mono (by omega))
   have hB4:=hB.trans (b2.mono (by omega))
   have x0:w2.cell? ⟨w.heap.size,2,none⟩=some (.slice o1 t.types.length k1):=(hB3.cell (p:=⟨w.heap.size,2,none⟩) (by show w.heap.size < _;omega)).trans (by go_simp)
   obtain⟨d,rfl,hd,_,d0⟩:=int_at SL2 hB4 HV.out
   have herr2:=(HE.out.below hB4).err
   cases hnm:nameB xe.data.toList with
   | false=>
    have Hq:Hid (rightD t=false):=hid (by rw[Hz2.out,Hst.out];unfold colB nameS;simp only[hnm];rfl)
    clear hnm
    go_wp2
    go_ret
    exact⟨by rw[Hq.out];rfl,hB4⟩
   | true=>
    obtain⟨b1',hy1⟩:∃ b,(ye != 1)=b:=⟨_,rfl⟩
    obtain⟨b2',hy2⟩:∃ b,(ye != 2)=b:=⟨_,rfl⟩
    have hty:rightTy ye=!(b1' && b2'):=by unfold rightTy;rw[← hy1,← hy2];cases h1:(ye == 1) <;> cases h2:(ye == 2) <;> simp[bne,h1,h2]
    have Hst2:Hid ((t.names.zip t.types).all colB=(!(b1' && b2') && ((t.names.zip t.types).drop (k+1)).all colB)):=hid (by rw[Hst.out];unfold colB nameS;simp only[hnm,hty,Bool.true_and])
    clear hnm hty
    have Hgo:Hid ((b1' && b2')=false→(t.names.zip t.types).all colB=((t.names.zip t.types).drop (k+1)).all colB):=hid (by intro h;rw[Hst2.out,h];rfl)
    have Hno:Hid (b1'=true→b2'=true→rightD t=false):=hid (by rintro rfl rfl;rw[Hz2.out,Hst2.out];rfl)
    cases b1' <;> cases b2'
    case true.true=>
     have Hq:=hid (Hno.out rfl rfl)
     go_wp2
     go_ret
     exact⟨by rw[Hq.out];rfl,hB4⟩
    all_goals
     have Hq:=hid (Hgo.out rfl)
     go_wp2
     go_roundw
     case rel=>exact⟨k+1,hlt,by go_num,Hq.out,hB3⟩
     case measure=>simp[intOf];omega
  ·have hlt':¬ (k:Int) < (t.names.length:Int):=by omega
   have Hq:Hid (rightD t=true):=hid (by rw[Hz2.out,Hr.out,List.drop_of_length_le (by rw[HLZ.out];omega)];rfl)
   go_wp2
   go_ret
   exact⟨by rw[Hq.out];rfl,hB⟩
set_option maxRecDepth 100000 in
set_option maxHeartbeats 4000000 in
theorem checkProg_c (t:Pg) (a:Addr) (w:World) (cs:List Value) (hc:PgC w w.heap.size t cs) (E:TErr a w) :
  Calls Tryz.prog 32 #[.agg cs.toArray] w fun e w'=>e=.returned (okV a (rightP t))∧Below w.heap.size w w':=by
 obtain⟨o0,k0,o1,k1,rfl,H1,H2⟩:=hc.look
 obtain⟨o2,cap2,e2,hc2,hm2,SL⟩:=SlOf.open H1
 cases e2
 obtain⟨o2,cap2,e2,hc3,hm3,SL2⟩:=SlOf.open H2
 cases e2
 have herr:=E.err
 have hgs:=E.size
 have HE:=hid E
 clear E
 clear hc H1 H2
 have HB0:Hid (∀ (x:Obj),Below w.heap.size w (w.alloc x)):=hid fun x=>(Below.refl _ _).alloc (Nat.le_refl _) _
 by_cases hbig:60 < t.decls.length
 ·have hbig':(60:Int) < (t.decls.length:Int):=by omega
  have Hq:Hid (rightP t=false):=hid (by unfold rightP;rw[decide_eq_false (show ¬ t.decls.length≤60 by omega)];rfl)
  go_enter Tryz.func32,Tryz.ntmps32
  go_wp2
  go_ret
  exact⟨by rw[Hq.out];rfl,HB0.out _⟩
 have hbig':¬ (60:Int) < (t.decls.length:Int):=by omega
 by_cases hbig2:200 < t.rules.length
 ·have hbig2':(200:Int) < (t.rules.length:Int):=by omega
  have Hq:Hid (rightP t=false):=hid (by unfold rightP;rw[decide_eq_false (show ¬ t.rules.length≤200 by omega)];simp)
  go_enter Tryz.func32,Tryz.ntmps32
  go_wp2
  go_ret
  exact⟨by rw[Hq.out];rfl,HB0.out _⟩
 have hbig2':¬ (200:Int) < (t.rules.length:Int):=by omega
 have Hz:Hid (rightP t=(t.decls.all rightD && t.rules.all rightR)):=hid (by
  unfold rightP
  rw[decide_eq_true (show t.decls.length≤60 by omega),decide_eq_true (show t.rules.length≤200 by omega)]
  rfl)
 go_enter Tryz.func32,Tryz.ntmps32
 go_wp2
 go_loopw [23] (fun i wr=>∃ k:Nat,k≤t.decls.length∧i=.int .i64 k∧t.decls.all rightD=(t.decls.drop k).all rightD∧Below (w.heap.size+1) (w.alloc (.cells #[.slice o0 t.decls.length k0,.slice o1 t.rules.length k1] 25)) wr) (fun i _=>t.decls.length - (intOf i).toNat)
 case atStart=>exact⟨0,Nat.zero_le _,rfl,rfl,Below.refl _ _⟩
 case round=>
  obtain⟨k,hk,rfl,hr,hB2⟩:=hrel
  have hB:Below w.heap.size w wr:=(HB0.out _).trans (hB2.mono (by omega))
  have Hr:=hid hr
  clear hr
  have hBs:=hB2.size
  simp only[World.size_alloc] at hBs
  have hz0:w.heap.size < wr.heap.size:=by omega
  have x0:wr.cell? ⟨w.heap.size,1,none⟩=some (.slice o1 t.rules.length k1):=(hB2.cell (p:=⟨w.heap.size,1,none⟩) (by show w.heap.size < _;omega)).trans (by go_simp)
  by_cases hlt:k < t.decls.length
  ·have hlt':(k:Int) < (t.decls.length:Int):=by omega
   obtain⟨xe,ht⟩:∃ xe,t.decls[k]?=some xe:=⟨t.decls[k],List.getElem?_eq_getElem hlt⟩
   obtain⟨b,p3,q3,p4,q4,rfl,ha,Hc,c0,c1,c2,c3,c4,c5⟩:=de_at SL hB ht
   have hal:(b.add (k * 6)).block < wr.heap.size:=by rw[addBlock];omega
   have Hst:=hid (Hr.out.trans (all_drop (f:=rightD) ht))
   clear ht
   have HI:=hid (fun (W:World) (hb:Below wr.heap.size wr W)=>checkDecl_c xe a W _ ((Hc.out.below hb).more hb.size) ((HE.out.below hB).below hb))
   go_wp2_with fail
   refine (HI.out _ ((Below.refl _ _).alloc (Nat.le_refl _) _)).mono ?_
   rintro e w1 ⟨rfl,b1⟩
   have b1':Below wr.heap.size wr w1:=((Below.refl _ _).alloc (Nat.le_refl _) _).trans (b1.mono (by simp))
   have hB3:=hB2.trans (b1'.mono (by omega))
   cases hs:rightD xe with
   | false=>
    have Hz2:=hid (Hst.out.trans (by rw[hs,Bool.false_and]))
    have Hq:Hid (rightP t=false):=hid (by rw[Hz.out,Hz2.out];rfl)
    clear hs
    simp only[okV_f]
    go_wp2
    go_ret
    exact⟨by rw[Hq.out];rfl,hB.trans (b1'.mono hB.size)⟩
   | true=>
    have Hz2:=hid (Hst.out.trans (by rw[hs,Bool.true_and]))
    clear hs
    simp only[okV_t]
    go_wp2
    go_roundw
    case rel=>exact⟨k+1,hlt,by go_num,Hz2.out,hB3⟩
    case measure=>simp[intOf];omega
  ·have hlt':¬ (k:Int) < (t.decls.length:Int):=by omega
   have Hall:Hid (t.decls.all rightD=true):=hid (by rw[Hr.out,List.drop_of_length_le (by omega)];rfl)
   clear Hr
   have Hz3:Hid (rightP t=t.rules.all rightR):=hid (by rw[Hz.out,Hall.out];rfl)
   go_wp2
   go_loopw [36] (fun i wr=>∃ k:Nat,k≤t.rules.length∧i=.int .i64 k∧t.rules.all rightR=(t.rules.drop k).all rightR∧Below (w.heap.size+1) (w.alloc (.cells #[.slice o0 t.decls.length k0,.slice o1 t.rules.length k1] 25)) wr) (fun i _=>t.rules.length - (intOf i).toNat)
   case atStart=>exact⟨0,Nat.zero_le _,rfl,rfl,hB2⟩
   case round=>
    obtain⟨k,hk,rfl,hr,hB2⟩:=hrel
    have hB:Below w.heap.size w wr:=(HB0.out _).trans (hB2.mono (by omega))
    have Hr:=hid hr
    clear hr
    have hBs:=hB2.size
    simp only[World.size_alloc] at hBs
    have hz0:w.heap.size < wr.heap.size:=by omega
    have x0:wr.cell? ⟨w.heap.size,1,none⟩=some (.slice o1 t.rules.length k1):=(hB2.cell (p:=⟨w.heap.size,1,none⟩) (by show w.heap.size < _;omega)).trans (by go_simp)
    by_cases hlt:k < t.rules.length
    ·have hlt':(k:Int) < (t.rules.length:Int):=by omega
     obtain⟨xe,ht⟩:∃ xe,t.rules[k]?=some xe:=⟨t.rules[k],List.getElem?_eq_getElem hlt⟩
     obtain⟨b,p3,q3,p4,q4,rfl,ha,Hc,c0,c1,c2,c3⟩:=ru_at SL2 hB ht
     have hal:(b.add (k * 4)).block < wr.heap.size:=by rw[addBlock];omega
     have Hst:=hid (Hr.out.trans (all_drop (f:=rightR) ht))
     clear ht
     have HI:=hid (fun (W:World) (hb:Below wr.heap.size wr W)=>checkRule_c xe a W _ ((Hc.out.below hb).more hb.size) ((HE.out.below hB).below hb))
     go_wp2_with fail
     refine (HI.out _ ((Below.refl _ _).alloc (Nat.le_refl _) _)).mono ?_
     rintro e w1 ⟨rfl,b1⟩
     have b1':Below wr.heap.size wr w1:=((Below.refl _ _).alloc (Nat.le_refl _) _).trans (b1.mono (by simp))
     have hB3:=hB2.trans (b1'.mono (by omega))
     cases hs:rightR xe with
     | false=>
      have Hz2:=hid (Hst.out.trans (by rw[hs,Bool.false_and]))
      have Hq:Hid (rightP t=false):=hid (by rw[Hz3.out,Hz2.out])
      clear hs
      simp only[okV_f]
      go_wp2
      go_ret
      exact⟨by rw[Hq.out];rfl,hB.trans (b1'.mono hB.size)⟩
     | true=>
      have Hz2:=hid (Hst.out.trans (by rw[hs,Bool.true_and]))
      clear hs
      simp only[okV_t]
      go_wp2
      go_roundw
      case rel=>exact⟨k+1,hlt,by go_num,Hz2.out,hB3⟩
      case measure=>simp[intOf];omega
    ·have hlt':¬ (k:Int) < (t.rules.length:Int):=by omega
     have Hall:Hid (t.rules.all rightR=true):=hid (by rw[Hr.out,List.drop_of_length_le (by omega)];rfl)
     have Hq:Hid (rightP t=true):=hid (by rw[Hz3.out,Hall.out])
     go_wp2
     go_ret
     exact⟨by rw[Hq.out];rfl,hB⟩
theorem heldBrightRule_c {W w1:World} (b:Below W.heap.size W.drew w1) {n g:Nat} {v0 v1 v2 v3 v4:Value} (hn:n < W.heap.size) (hg:g < W.heap.size)
  (h:W.cell? ⟨n,0,none⟩=some v0∧W.cell? ⟨n,1,none⟩=some v1∧W.cell? ⟨n,2,none⟩=some v2∧W.cell? ⟨n,3,none⟩=some v3∧W.cell? ⟨g,0,none⟩=some v4):w1.cell? ⟨n,0,none⟩=some v0∧w1.cell? ⟨n,1,none⟩=some v1∧w1.cell? ⟨n,2,none⟩=some v2∧w1.cell? ⟨n,3,none⟩=some v3∧w1.cell? ⟨g,0,none⟩=some v4:=by
 obtain⟨h0,h1,h2,h3,h4⟩:=h
 exact⟨(b.cell (p:=⟨n,0,none⟩) hn).trans h0,(b.cell (p:=⟨n,1,none⟩) hn).trans h1,(b.cell (p:=⟨n,2,none⟩) hn).trans h2,(b.cell (p:=⟨n,3,none⟩) hn).trans h3,(b.cell (p:=⟨g,0,none⟩) hg).trans h4⟩
set_option maxRecDepth 100000 in
set_option maxHeartbeats 4000000 in
theorem rightRule_c (t:Ru) (a:Addr) (w:World) (cs:List Value) (hc:RuC w w.heap.size t cs) (E:TErr a w) :
  Calls Tryz.prog 184 #[.agg cs.toArray] w fun e w'=>e=.returned (.bool (rightR t))∧Below w.heap.size w w':=by
 have HC0:=fun (W:World) (hb:Below w.heap.size w W)=>checkRule_c t a W cs ((hc.below hb).more hb.size) (E.below hb)
 obtain⟨o0,k0,o1,k1,rfl,_,_,_⟩:=hc.look
 have HC:=hid HC0
 have herr:=E.err
 have hgs:=E.size
 have HE:=hid E
 clear E
 clear hc HC0
 have HB0:Hid (∀ (x:Obj),Below w.heap.size w (w.alloc x)):=hid fun x=>(Below.refl _ _).alloc (Nat.le_refl _) _
 have x0:(w.alloc (.cells #[.string t.head.rel,.slice o0 t.head.l.length k0,.slice o1 t.body.length k1,.int .i64 t.line] 41)).cell? ⟨w.heap.size,0,none⟩=some (.string t.head.rel):=by go_simp
 have x1:(w.alloc (.cells #[.string t.head.rel,.slice o0 t.head.l.length k0,.slice o1 t.body.length k1,.int .i64 t.line] 41)).cell? ⟨w.heap.size,1,none⟩=some (.slice o0 t.head.l.length k0):=by go_simp
 have x2:(w.alloc (.cells #[.string t.head.rel,.slice o0 t.head.l.length k0,.slice o1 t.body.length k1,.int .i64 t.line] 41)).cell? ⟨w.heap.size,2,none⟩=some (.slice o1 t.body.length k1):=by go_simp
 have x3:(w.alloc (.cells #[.string t.head.rel,.slice o0 t.head.l.length k0,.slice o1 t.body.length k1,.int .i64 t.line] 41)).cell? ⟨w.heap.size,3,none⟩=some (.int .i64 t.line):=by go_simp
 have xe:(w.alloc (.cells #[.string t.head.rel,.slice o0 t.head.l.length k0,.slice o1 t.body.length k1,.int .i64 t.line] 41)).cell? ⟨0,0,none⟩=some (.iface 295 (.pointer (some a))):=(HE.out.below (HB0.out _)).err
 have hgs2:0 < (w.alloc (.cells #[.string t.head.rel,.slice o0 t.head.l.length k0,.slice o1 t.body.length k1,.int .i64 t.line] 41)).heap.size:=by first | (simp;omega) | simp
 cases hr:rightR t with
 | true=>
  rw[hr,okV_t] at HC
  go_enter Tryz.func184,Tryz.ntmps184
  go_wp2
  go_region_held3 (fun w'=>w'.cell? ⟨w.heap.size,0,none⟩=some (.string t.head.rel)∧w'.cell? ⟨w.heap.size,1,none⟩=some (.slice o0 t.head.l.length k0)∧w'.cell? ⟨w.heap.size,2,none⟩=some (.slice o1 t.body.length k1)∧w'.cell? ⟨w.heap.size,3,none⟩=some (.int .i64 t.line)∧w'.cell? ⟨0,0,none⟩=some (.iface 295 (.pointer (some a)))) (first | exact⟨x0,x1,x2,x3,xe⟩ | exact hk) (first | (go_at_call 57;refine (HC.out _ ((HB0.out _).drew)).mono ?_;rintro e w1 ⟨rfl,b1⟩;have hk:=heldBrightRule_c b1 (by simp) hgs2 ⟨x0,x1,x2,x3,xe⟩) | (go_at_call 31;refine (is_nil _ _).mono ?_;rintro e w' ⟨rfl,rfl⟩))
  go_wp2
  go_ret
  exact⟨rfl,(HB0.out _).trans (((Below.refl _ _).drew).trans (b1.mono (by simp)))⟩
 | false=>
  rw[hr,okV_f] at HC
  go_enter Tryz.func184,Tryz.ntmps184
  go_wp2
  go_region_held3 (fun w'=>w'.cell? ⟨w.heap.size,0,none⟩=some (.string t.head.rel)∧w'.cell? ⟨w.heap.size,1,none⟩=some (.slice o0 t.head.l.length k0)∧w'.cell? ⟨w.heap.size,2,none⟩=some (.slice o1 t.body.length k1)∧w'.cell? ⟨w.heap.size,3,none⟩=some (.int .i64 t.line)∧w'.cell? ⟨0,0,none⟩=some (.iface 295 (.pointer (some a)))) (first | exact⟨x0,x1,x2,x3,xe⟩ | exact hk) (first | (go_at_call 57;refine (HC.out _ ((HB0.out _).drew)).mono ?_;rintro e w1 ⟨rfl,b1⟩;have hk:=heldBrightRule_c b1 (by simp) hgs2 ⟨x0,x1,x2,x3,xe⟩) | (go_at_call 31;refine (is_same _ _).mono ?_;rintro e w' ⟨rfl,rfl⟩))
  go_wp2
  go_ret
  exact⟨rfl,(HB0.out _).trans (((Below.refl _ _).drew).trans (b1.mono (by simp)))⟩
theorem heldBright_c {W w1:World} (b:Below W.heap.size W.drew w1) {n g:Nat} {v0 v1 v2:Value} (hn:n < W.heap.size) (hg:g < W.heap.size)
  (h:W.cell? ⟨n,0,none⟩=some v0∧W.cell? ⟨n,1,none⟩=some v1∧W.cell? ⟨g,0,none⟩=some v2):w1.cell? ⟨n,0,none⟩=some v0∧w1.cell? ⟨n,1,none⟩=some v1∧w1.cell? ⟨g,0,none⟩=some v2:=by
 obtain⟨h0,h1,h2⟩:=h
 exact⟨(b.cell (p:=⟨n,0,none⟩) hn).trans h0,(b.cell (p:=⟨n,1,none⟩) hn).trans h1,(b.cell (p:=⟨g,0,none⟩) hg).trans h2⟩
set_option maxRecDepth 100000 in
set_option maxHeartbeats 4000000 in
theorem right_c (t:Pg) (a:Addr) (w:World) (cs:List Value) (hc:PgC w w.heap.size t cs) (E:TErr a w) :
  Calls Tryz.prog 15 #[.agg cs.toArray] w fun e w'=>e=.returned (.bool (rightP t))∧Below w.heap.size w w':=by
 have HC0:=fun (W:World) (hb:Below w.heap.size w W)=>checkProg_c t a W cs ((hc.below hb).more hb.size) (E.below hb)
 obtain⟨o0,k0,o1,k1,rfl,_,_⟩:=hc.look
 have HC:=hid HC0
 have herr:=E.err
 have hgs:=E.size
 have HE:=hid E
 clear E
 clear hc HC0
 have HB0:Hid (∀ (x:Obj),Below w.heap.size w (w.alloc x)):=hid fun x=>(Below.refl _ _).alloc (Nat.le_refl _) _
 have x0:(w.alloc (.cells #[.slice o0 t.decls.length k0,.slice o1 t.rules.length k1] 25)).cell? ⟨w.heap.size,0,none⟩=some (.slice o0 t.decls.length k0):=by go_simp
 have x1:(w.alloc (.cells #[.slice o0 t.decls.length k0,.slice o1 t.rules.length k1] 25)).cell? ⟨w.heap.size,1,none⟩=some (.slice o1 t.rules.length k1):=by go_simp
 have xe:(w.alloc (.cells #[.slice o0 t.decls.length k0,.slice o1 t.rules.length k1] 25)).cell? ⟨0,0,none⟩=some (.iface 295 (.pointer (some a))):=(HE.out.below (HB0.out _)).err
 have hgs2:0 < (w.alloc (.cells #[.slice o0 t.decls.length k0,.slice o1 t.rules.length k1] 25)).heap.size:=by first | (simp;omega) | simp
 cases hr:rightP t with
 | true=>
  rw[hr,okV_t] at HC
  go_enter Tryz.func15,Tryz.ntmps15
  go_wp2
  go_region_held3 (fun w'=>w'.cell? ⟨w.heap.size,0,none⟩=some (.slice o0 t.decls.length k0)∧w'.cell? ⟨w.heap.size,1,none⟩=some (.slice o1 t.rules.length k1)∧w'.cell? ⟨0,0,none⟩=some (.iface 295 (.pointer (some a)))) (first | exact⟨x0,x1,xe⟩ | exact hk) (first | (go_at_call 32;refine (HC.out _ ((HB0.out _).drew)).mono ?_;rintro e w1 ⟨rfl,b1⟩;have hk:=heldBright_c b1 (by simp) hgs2 ⟨x0,x1,xe⟩) | (go_at_call 31;refine (is_nil _ _).mono ?_;rintro e w' ⟨rfl,rfl⟩))
  go_wp2
  go_ret
  exact⟨rfl,(HB0.out _).trans (((Below.refl _ _).drew).trans (b1.mono (by simp)))⟩
 | false=>
  rw[hr,okV_f] at HC
  go_enter Tryz.func15,Tryz.ntmps15
  go_wp2
  go_region_held3 (fun w'=>w'.cell? ⟨w.heap.size,0,none⟩=some (.slice o0 t.decls.length k0)∧w'.cell? ⟨w.heap.size,1,none⟩=some (.slice o1 t.rules.length k1)∧w'.cell? ⟨0,0,none⟩=some (.iface 295 (.pointer (some a)))) (first | exact⟨x0,x1,xe⟩ | exact hk) (first | (go_at_call 32;refine (HC.out _ ((HB0.out _).drew)).mono ?_;rintro e w1 ⟨rfl,b1⟩;have hk:=heldBright_c b1 (by simp) hgs2 ⟨x0,x1,xe⟩) | (go_at_call 31;refine (is_same _ _).mono ?_;rintro e w' ⟨rfl,rfl⟩))
  go_wp2
  go_ret
  exact⟨rfl,(HB0.out _).trans (((Below.refl _ _).drew).trans (b1.mono (by simp)))⟩
def bs (l:List UInt8):Value:=.string ⟨l.toArray⟩
def typeTab:List Value:=[bs [],bs [110,117,109,98,101,114],bs [115,121,109,98,111,108]]
def signTab:List Value:=[bs [],bs [],bs [],bs [],bs [],bs [43],bs [45],bs [42]]
def wordTab:List Value:=[bs [],bs [],bs [],bs [61],bs [33,61],bs [60],bs [60,61],bs [99,111,117,110,116],bs [115,117,109],bs [109,105,110],bs [109,97,120]]
structure TEnv (a:Addr) (w:World):Prop where
 err:TErr a w
 types:∀ k v,typeTab[k]?=some v→w.cell? ⟨3,k,none⟩=some v
 signs:∀ k v,signTab[k]?=some v→w.cell? ⟨8,k,none⟩=some v
 words:∀ k v,wordTab[k]?=some v→w.cell? ⟨5,k,none⟩=some v
 tab : Lib.TabIs Tryz.prog w "internal/strconv.uint64pow10" .u64 Lib.pow10Tab
 size:14≤w.heap.size
theorem gPow : Tryz.prog.globalNamed "internal/strconv.uint64pow10" = some 9 := by kernel_rfl
theorem TEnv.belowB {a:Addr} {w w':World} {B:Nat} (h:TEnv a w) (hB:14≤B) (hb:Below B w w'):TEnv a w':=by
 refine⟨⟨(hb.cell (p:=⟨0,0,none⟩) (by show 0 < B;omega)).trans h.err.err,Nat.lt_of_lt_of_le h.err.size hb.size⟩,fun k v hk=>(hb.cell (p:=⟨3,k,none⟩) (by show 3 < B;omega)).trans (h.types k v hk),
  fun k v hk=>(hb.cell (p:=⟨8,k,none⟩) (by show 8 < B;omega)).trans (h.signs k v hk),fun k v hk=>(hb.cell (p:=⟨5,k,none⟩) (by show 5 < B;omega)).trans (h.words k v hk),?_,Nat.le_trans h.size hb.size⟩
 have ht:=h.tab
 have he:=hb.block 9 (by omega)
 unfold Lib.TabIs World.var? at ht ⊢
 simp only[gPow,Option.bind_some,he] at ht ⊢
 exact ht
theorem TEnv.below {a:Addr} {w w':World} (h:TEnv a w) (hb:Below w.heap.size w w'):TEnv a w':=h.belowB h.size hb
theorem bdLt {B b:Nat} {l:List UInt8} {W:World} (h:Bd B b l W):b < W.heap.size:=by
 rcases h with ⟨_,v,hb,_⟩ | ⟨_,v,hb,_⟩ <;> exact (Array.getElem?_eq_some_iff.1 hb).1
theorem Kp.alloc {B b:Nat} {w:World} (hB:B≤w.heap.size) (o:Obj):Kp B b w (w.alloc o):=
 ⟨(Below.refl _ _).alloc hB _,fun k _ hk _ _=>(Below.heap_alloc w o k (Array.getElem?_eq_some_iff.1 hk).1).trans hk⟩
theorem Bd.alloc {B b:Nat} {l:List UInt8} {w:World} (h:Bd B b l w) (o:Obj):Bd B b l (w.alloc o):=h.kept (World.grownBy_alloc w o none) (fun r e=>by cases e)
def Row (n:Nat) (T:TypeId) (cs:List Value) (w:World):Prop:=w.heap[n]?=some (.cells cs.toArray T (0,0))
theorem Row.new (w:World) (T:TypeId) (cs:List Value):Row w.heap.size T cs (w.alloc (.cells cs.toArray T)):=World.alloc_heap_new w _
theorem Row.kp {B b n:Nat} {T:TypeId} {cs:List Value} {w w':World} (h:Row n T cs w) (k:Kp B b w w') (hb:n≠b) (hT:T≠5):Row n T cs w':=
 k.others n _ h (fun e=>hb (Option.some.inj e)) (fun c fz e=>by cases e;exact hT rfl)
theorem Row.below {B n:Nat} {T:TypeId} {cs:List Value} {w w':World} (h:Row n T cs w) (k:Below B w w') (hn:n < B):Row n T cs w':=(k.block n hn).trans h
theorem Row.cells {n:Nat} {T:TypeId} {cs:List Value} {w:World} (h:Row n T cs w):CellsAt w ⟨n,0,none⟩ 0 cs:=by
 intro j c hj
 have hadd:(⟨n,0,none⟩:Addr).add (0+j)=⟨n,j,none⟩:=by unfold Addr.add;split <;> simp_all
 rw[hadd]
 unfold World.cell?
 simp only[show w.heap[n]?=_ from h]
 simpa using hj
theorem Row.at {n:Nat} {T:TypeId} {cs:List Value} {w:World} (h:Row n T cs w) (j:Nat) (c:Value) (hj:cs[j]?=some c):w.cell? ⟨n,j,none⟩=some c:=by
 have:=h.cells j c hj
 have hadd:(⟨n,0,none⟩:Addr).add (0+j)=⟨n,j,none⟩:=by unfold Addr.add;split <;> simp_all
 rwa [hadd] at this
theorem Bd.past {B b:Nat} {l:List UInt8} {W W':World} (h:Bd B b l W) (k:Below W.heap.size W W'):Bd B b l W':=
 h.kept (row:=none) ⟨k.os,k.tape,k.output,k.size,fun i hi _=>k.block i hi⟩ (fun r e=>by cases e)
theorem Kp.past {B b:Nat} {W W':World} (hB:B≤W.heap.size) (k:Below W.heap.size W W'):Kp B b W W':=
 ⟨k.mono hB,fun i _ hi _ _=>(k.block i (Array.getElem?_eq_some_iff.1 hi).1).trans hi⟩
theorem tm_atB {w wr:World} {B:Nat} {l:List Tm} {o:Option Addr} {k:Nat} {t:Tm} (S:Hid (SlIn w B 4 (TmC w B) l o)) (hB:Below B w wr) (ht:l[k]?=some t) :
  ∃ a o' cap',o=some a∧a.block < B∧Hid (TmC wr B t [.int .i64 t.op,.string t.s,.int .i64 t.n,.slice o' t.l.length cap']) ∧
   wr.cell? (a.add (k * 4))=some (.int .i64 t.op)∧wr.cell? ⟨(a.add (k * 4)).block,(a.add (k * 4)).off+1,none⟩=some (.string t.s)∧wr.cell? ⟨(a.add (k * 4)).block,(a.add (k * 4)).off+2,none⟩=some (.int .i64 t.n)∧wr.cell? ⟨(a.add (k * 4)).block,(a.add (k * 4)).off+3,none⟩=some (.slice o' t.l.length cap'):=by
 obtain⟨a,cs,rfl,ha,_,h1,h2⟩:=S.out k t ht
 obtain⟨o',cap',rfl,_⟩:=h1.look
 exact⟨a,o',cap',rfl,ha,hid (h1.under hB),(h2.below ha hB).four⟩
theorem bs_size (l:List UInt8):(⟨l.toArray⟩:ByteArray).size=l.length:=by simp[ByteArray.size]
def Wrote (B b:Nat) (l x:List UInt8) (w:World) (e:Ending) (w':World):Prop:=e=.returned (.tuple #[])∧Bd B b (l++x) w'∧Kp B b w w'
end Go.Proofs.YtdgbajnhhhjbcaaGreatDoor
