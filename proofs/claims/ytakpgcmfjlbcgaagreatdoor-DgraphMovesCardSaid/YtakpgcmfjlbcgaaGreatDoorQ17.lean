/- Tchk2@0123, Tright@0123, Ynum@0123 -/
import Derived.Stop.Asserts
import Derived.Test.YtakpgcmfjlbcgaaGreatDoorQ16
set_option linter.unusedSimpArgs false
set_option linter.unusedVariables false
namespace Go.Proofs.YtakpgcmfjlbcgaaGreatDoor
open Lib(hid)
open Go.RowKit
set_option maxRecDepth 100000 in
set_option maxHeartbeats 4000000 in
theorem checkRule_c (t:Ru) (a:Addr) (w:World) (cs:List Value) (hc:RuC w w.heap.size t cs) (E:TErr a w) :
  Calls Tryz.prog 94 #[.agg cs.toArray] w fun e w'=>e=.returned (okV a (rightR t))∧Below w.heap.size w w':=by
 obtain⟨o0,k0,o1,k1,rfl,_,H1,H2⟩:=hc.look
 have HH:=hid (fun (W:World) (hb:Below w.heap.size w W)=>checkHead_c t.head t.body.isEmpty a W _ ((H1.below hb).more hb.size) (E.below hb))
 obtain⟨o2,cap2,e2,hc2,hm2,SL⟩:=SlOf.open H2
 cases e2
 have herr:=E.err
 have hgs:=E.size
 have HE:=hid E
 clear E
 clear hc H1 H2
 have HB0:Hid (∀ (x:Obj),Below w.heap.size w (w.alloc x)):=hid fun x=>(Below.refl _ _).alloc (Nat.le_refl _) _
 have hie:((t.body.length:Int) == 0)=t.body.isEmpty:=by cases t.body <;> simp <;> omega
 by_cases hbig:20 < t.body.length
 ·have hbig':(20:Int) < (t.body.length:Int):=by omega
  have Hq:Hid (rightR t=false):=hid (by unfold rightR;rw[decide_eq_false (show ¬ t.body.length≤20 by omega)];simp)
  clear hie
  go_enter Tryz.func94,Tryz.ntmps94
  go_wp2
  go_ret
  exact⟨by rw[Hq.out];rfl,HB0.out _⟩
 have hbig':¬ (20:Int) < (t.body.length:Int):=by omega
 have Hz0:Hid (rightR t=((t.head.l.all (headT t.body.isEmpty) && rightA t.head) && t.body.all rightL)):=hid (by
  unfold rightR
  rw[decide_eq_true (show t.body.length≤20 by omega)]
  cases rightA t.head <;> cases t.head.l.all (headT t.body.isEmpty) <;> rfl)
 go_enter Tryz.func94,Tryz.ntmps94
 go_wp2_with fail
 refine (HH.out _ (HB0.out _)).mono ?_
 rintro e w1 ⟨rfl,b1⟩
 have B1:Below (w.heap.size+1) (w.alloc (.cells #[.string t.head.rel,.slice o0 t.head.l.length k0,.slice o1 t.body.length k1,.int .i64 t.line] 47)) w1:=b1.mono (by simp)
 obtain⟨hc1,hf1⟩:=boxk w.heap.size b1 (by simp)
 cases hh:(t.head.l.all (headT t.body.isEmpty) && rightA t.head) with
 | false=>
  have Hq:Hid (rightR t=false):=hid (by rw[Hz0.out,hh];rfl)
  clear hh hie
  simp only[okV_f]
  go_wp2
  go_ret
  exact⟨by rw[Hq.out];rfl,(HB0.out _).trans (B1.mono (by omega))⟩
 | true=>
 have Hz:Hid (rightR t=t.body.all rightL):=hid (by rw[Hz0.out,hh];rfl)
 clear hh hie
 simp only[okV_t]
 go_wp2
 go_loopw [25] (fun i wr=>∃ k:Nat,k≤t.body.length∧i=.int .i64 k∧t.body.all rightL=(t.body.drop k).all rightL∧Below (w.heap.size+1) (w.alloc (.cells #[.string t.head.rel,.slice o0 t.head.l.length k0,.slice o1 t.body.length k1,.int .i64 t.line] 47)) wr) (fun i _=>t.body.length - (intOf i).toNat)
 case atStart=>exact⟨0,Nat.zero_le _,rfl,rfl,B1⟩
 case round=>
  obtain⟨k,hk,rfl,hr,hB2⟩:=hrel
  have hB:Below w.heap.size w wr:=(HB0.out _).trans (hB2.mono (by omega))
  have Hr:=hid hr
  clear hr
  have hBs:=hB2.size
  simp only[World.size_alloc] at hBs
  have hz0:w.heap.size < wr.heap.size:=by omega
  by_cases hlt:k < t.body.length
  ·have hlt':(k:Int) < (t.body.length:Int):=by omega
   obtain⟨xe,ht⟩:∃ xe,t.body[k]?=some xe:=⟨t.body[k],List.getElem?_eq_getElem hlt⟩
   obtain⟨b,p3,q3,p4,q4,p5,q5,rfl,ha,Hc,c0,c1,c2,c3,c4,c5,c6,c7,c8,c9,c10⟩:=lt_at SL hB ht
   have hal:(b.add (k * 11)).block < wr.heap.size:=by rw[addBlock];omega
   have Hst:=hid (Hr.out.trans (all_drop (f:=rightL) ht))
   clear ht
   have HI:=hid (fun (W:World) (hb:Below wr.heap.size wr W)=>checkLit_c xe a W _ ((Hc.out.below hb).more hb.size) ((HE.out.below hB).below hb))
   go_wp2_with fail
   refine (HI.out _ ((Below.refl _ _).alloc (Nat.le_refl _) _)).mono ?_
   rintro e w1 ⟨rfl,b1⟩
   have b1':Below wr.heap.size wr w1:=((Below.refl _ _).alloc (Nat.le_refl _) _).trans (b1.mono (by simp))
   have hB3:=hB2.trans (b1'.mono (by omega))
   cases hs:rightL xe with
   | false=>
    have Hz2:=hid (Hst.out.trans (by rw[hs,Bool.false_and]))
    have Hq:Hid (rightR t=false):=hid (by rw[Hz.out,Hz2.out])
    clear hs
    simp only[okV_f]
    go_wp2
    go_ret
    exact⟨by rw[Hq.out];rfl,hB.trans (b1'.mono hB.size)⟩
   | true=>
    have Hz2:=hid (Hst.out.trans (by rw[hs,Bool.true_and]))
    clear hs
    simp only[okV_t]
    go_wp2
    go_roundw
    case rel=>exact⟨k+1,hlt,by go_num,Hz2.out,hB3⟩
    case measure=>simp[intOf];omega
  ·have hlt':¬ (k:Int) < (t.body.length:Int):=by omega
   have Hall:Hid (t.body.all rightL=true):=hid (by rw[Hr.out,List.drop_of_length_le (by omega)];rfl)
   have Hq:Hid (rightR t=true):=hid (by rw[Hz.out,Hall.out])
   go_wp2
   go_ret
   exact⟨by rw[Hq.out];rfl,hB⟩
def nameS (s:ByteArray):Bool:=nameB s.data.toList
def colB (x:ByteArray × Int):Bool:=nameS x.1 && rightTy x.2
theorem cols_all:∀ (l:List ByteArray) (m:List Int),l.length=m.length→(l.all nameS && m.all rightTy)=(l.zip m).all colB
 | [],[],_=>rfl
 | x::l,y::m,h=>by
  have ih:=cols_all l m (by simpa using h)
  simp only[List.all_cons,List.zip_cons_cons]
  rw[← ih]
  unfold colB
  simp only
  cases nameS x <;> cases rightTy y <;> cases l.all nameS <;> cases m.all rightTy <;> rfl
set_option maxRecDepth 100000 in
set_option maxHeartbeats 4000000 in
theorem checkDecl_c (t:De) (a:Addr) (w:World) (cs:List Value) (hc:DeC w w.heap.size t cs) (E:TErr a w) :
  Calls Tryz.prog 141 #[.agg cs.toArray] w fun e w'=>e=.returned (okV a (rightD t))∧Below w.heap.size w w':=by
 obtain⟨o0,k0,o1,k1,rfl,hz,_,H1,H2⟩:=hc.look
 have HN:=hid (fun w=>isName_any t.rel w hz)
 obtain⟨o2,cap2,e2,hc2,hm2,SL⟩:=SlOf.open H1
 cases e2
 obtain⟨o2,cap2,e2,hc3,hm3,SL2⟩:=SlOf.open H2
 cases e2
 have herr:=E.err
 have hgs:=E.size
 have HE:=hid E
 clear E
 clear hc H1 H2
 have HB0:Hid (∀ (x:Obj),Below w.heap.size w (w.alloc x)):=hid fun x=>(Below.refl _ _).alloc (Nat.le_refl _) _
 have Hz:Hid (rightD t=(nameB t.rel.data.toList && ((decide (1≤(t.names.length:Int)) && decide ((t.names.length:Int)≤8)) && (decide (t.types.length=t.names.length) && (t.names.all nameS && t.types.all rightTy))))):=hid (by
  unfold rightD
  rw[show decide (1≤(t.names.length:Int))=decide (1≤t.names.length) from decide_eq_decide.2 (by omega),show decide ((t.names.length:Int)≤8)=decide (t.names.length≤8) from decide_eq_decide.2 (by omega)]
  simp only[Bool.and_assoc]
  rfl)
 go_enter Tryz.func141,Tryz.ntmps141
 go_wp2_with fail
 refine (HN.out _).mono ?_
 rintro e w1 ⟨rfl,b1⟩
 have B1:=(HB0.out _).trans (b1.mono (by simp))
 have B1':Below (w.heap.size+1) (w.alloc (.cells #[.string t.rel,.slice o0 t.names.length k0,.slice o1 t.types.length k1,.bool t.inn,.bool t.out,.int .i64 t.line] 57)) w1:=b1.mono (by simp)
 obtain⟨hc,hf⟩:=boxk w.heap.size b1 (by simp)
 have herr1:=(HE.out.below B1).err
 cases hnm:nameB t.rel.data.toList with
 | false=>
  have Hq:Hid (rightD t=false):=hid (by rw[Hz.out,hnm];rfl)
  clear hnm
  go_wp2
  go_ret
  exact⟨by rw[Hq.out];rfl,B1⟩
 | true=>
 have Hz1:Hid (rightD t=((decide (1≤(t.names.length:Int)) && decide ((t.names.length:Int)≤8)) && (decide (t.types.length=t.names.length) && (t.names.all nameS && t.types.all rightTy)))):=hid (by rw[Hz.out,hnm];rfl)
 clear hnm
 go_wp2_with fail
 refine (count_c _ _).mono ?_
 rintro e w' ⟨rfl,rfl⟩
 cases hcn:(decide (1≤(t.names.length:Int)) && decide ((t.names.length:Int)≤8)) with
 | false=>
  have Hq:Hid (rightD t=false):=hid (by rw[Hz1.out,hcn];rfl)
  clear hcn
  go_wp2
  go_ret
  exact⟨by rw[Hq.out];rfl,B1⟩
 | true=>
 obtain⟨bl,hbl⟩:∃ b,((t.types.length:Int) != (t.names.length:Int))=b:=⟨_,rfl⟩
 cases bl with
 | true=>
  have Hq:Hid (rightD t=false):=hid (by rw[Hz1.out,hcn,decide_eq_false (show ¬ t.types.length=t.names.length by intro h;rw[h] at hbl;simp at hbl)];rfl)
  clear hcn
  go_wp2
  go_ret
  exact⟨by rw[Hq.out];rfl,B1⟩
 | false=>
 have Hlen:Hid (t.types.length=t.names.length):=hid (by
  have:(t.types.length:Int)=t.names.length:=by simpa using hbl
  omega)
 have Hz2:Hid (rightD t=(t.names.zip t.types).all colB):=hid (by rw[Hz1.out,hcn,decide_eq_true Hlen.out,← cols_all _ _ Hlen.out.symm];rfl)
 have HLZ:Hid ((t.names.zip t.types).length=t.names.length):=hid (by rw[List.length_zip,Hlen.out];omega)
 clear hcn
 go_wp2
 go_loopw [29] (fun i wr=>∃ k:Nat,k≤t.names.length∧i=.int .i64 k∧(t.names.zip t.types).all colB=((t.names.zip t.types).drop k).all colB∧Below (w.heap.size+1) (w.alloc (.cells #[.string t.rel,.slice o0 t.names.length k0,.slice o1 t.types.length k1,.bool t.inn,.bool t.out,.int .i64 t.line] 57)) wr) (fun i _=>t.names.length - (intOf i).toNat)
 case atStart=>exact⟨0,Nat.zero_le _,rfl,rfl,B1'⟩
 case round=>
  obtain⟨k,hk,rfl,hr,hB2⟩:=hrel
  have hB:Below w.heap.size w wr:=(HB0.out _).trans (hB2.mono (by omega))
  have Hr:=hid hr
  clear hr
  have hBs:=hB2.size
  simp only[World.size_alloc] at hBs
  have hz0:w.heap.size < wr.heap.size:=by omega
  by_cases hlt:k < t.names.length
  ·have hlt':(k:Int) < (t.names.length:Int):=by omega
   have hlt2:k < t.types.length:=by have:=Hlen.out;omega
   have hlt3:(k:Int) < (t.types.length:Int):=by omega
   obtain⟨xe,ht⟩:∃ xe,t.names[k]?=some xe:=⟨t.names[k],List.getElem?_eq_getElem hlt⟩
   obtain⟨ye,hv⟩:∃ ye,t.types[k]?=some ye:=⟨t.types[k],List.getElem?_eq_getElem hlt2⟩
   obtain⟨b,rfl,ha,hxz,c0⟩:=str_at SL hB ht
   have hzip:(t.names.zip t.types)[k]?=some (xe,ye):=by rw[List.getElem?_zip_eq_some];exact⟨ht,hv⟩
   have Hst:=hid (Hr.out.trans (all_drop (f:=colB) hzip))
   have HV:=hid hv
   clear ht hzip hv
   go_wp2_with fail
   refine (isName_any xe wr hxz).mono ?_
   rintro e w2 ⟨rfl,b2⟩
   have hB3:=hB2.trans (b2.mono (by omega))
   have hB4:=hB.trans (b2.mono (by omega))
   have x0:w2.cell? ⟨w.heap.size,2,none⟩=some (.slice o1 t.types.length k1):=(hB3.cell (p:=⟨w.heap.size,2,none⟩) (by show w.heap.size < _;omega)).trans (by go_simp)
   obtain⟨d,rfl,hd,_,d0⟩:=int_at SL2 hB4 HV.out
   have herr2:=(HE.out.below hB4).err
   cases hnm:nameB xe.data.toList with
   | false=>
    have Hq:Hid (rightD t=false):=hid (by rw[Hz2.out,Hst.out];unfold colB nameS;simp only[hnm];rfl)
    clear hnm
    go_wp2
    go_ret
    exact⟨by rw[Hq.out];rfl,hB4⟩
   | true=>
    obtain⟨b1',hy1⟩:∃ b,(ye != 1)=b:=⟨_,rfl⟩
    obtain⟨b2',hy2⟩:∃ b,(ye != 2)=b:=⟨_,rfl⟩
    have hty:rightTy ye=!(b1' && b2'):=by unfold rightTy;rw[← hy1,← hy2];cases h1:(ye == 1) <;> cases h2:(ye == 2) <;> simp[bne,h1,h2]
    have Hst2:Hid ((t.names.zip t.types).all colB=(!(b1' && b2') && ((t.names.zip t.types).drop (k+1)).all colB)):=hid (by rw[Hst.out];unfold colB nameS;simp only[hnm,hty,Bool.true_and])
    clear hnm hty
    have Hgo:Hid ((b1' && b2')=false→(t.names.zip t.types).all colB=((t.names.zip t.types).drop (k+1)).all colB):=hid (by intro h;rw[Hst2.out,h];rfl)
    have Hno:Hid (b1'=true→b2'=true→rightD t=false):=hid (by rintro rfl rfl;rw[Hz2.out,Hst2.out];rfl)
    cases b1' <;> cases b2'
    case true.true=>
     have Hq:=hid (Hno.out rfl rfl)
     go_wp2
     go_ret
     exact⟨by rw[Hq.out];rfl,hB4⟩
    all_goals
     have Hq:=hid (Hgo.out rfl)
     go_wp2
     go_roundw
     case rel=>exact⟨k+1,hlt,by go_num,Hq.out,hB3⟩
     case measure=>simp[intOf];omega
  ·have hlt':¬ (k:Int) < (t.names.length:Int):=by omega
   have Hq:Hid (rightD t=true):=hid (by rw[Hz2.out,Hr.out,List.drop_of_length_le (by rw[HLZ.out];omega)];rfl)
   go_wp2
   go_ret
   exact⟨by rw[Hq.out];rfl,hB⟩
set_option maxRecDepth 100000 in
set_option maxHeartbeats 4000000 in
theorem checkProg_c (t:Pg) (a:Addr) (w:World) (cs:List Value) (hc:PgC w w.heap.size t cs) (E:TErr a w) :
  Calls Tryz.prog 92 #[.agg cs.toArray] w fun e w'=>e=.returned (okV a (rightP t))∧Below w.heap.size w w':=by
 obtain⟨o0,k0,o1,k1,rfl,H1,H2⟩:=hc.look
 obtain⟨o2,cap2,e2,hc2,hm2,SL⟩:=SlOf.open H1
 cases e2
 obtain⟨o2,cap2,e2,hc3,hm3,SL2⟩:=SlOf.open H2
 cases e2
 have herr:=E.err
 have hgs:=E.size
 have HE:=hid E
 clear E
 clear hc H1 H2
 have HB0:Hid (∀ (x:Obj),Below w.heap.size w (w.alloc x)):=hid fun x=>(Below.refl _ _).alloc (Nat.le_refl _) _
 by_cases hbig:60 < t.decls.length
 ·have hbig':(60:Int) < (t.decls.length:Int):=by omega
  have Hq:Hid (rightP t=false):=hid (by unfold rightP;rw[decide_eq_false (show ¬ t.decls.length≤60 by omega)];rfl)
  go_enter Tryz.func92,Tryz.ntmps92
  go_wp2
  go_ret
  exact⟨by rw[Hq.out];rfl,HB0.out _⟩
 have hbig':¬ (60:Int) < (t.decls.length:Int):=by omega
 by_cases hbig2:200 < t.rules.length
 ·have hbig2':(200:Int) < (t.rules.length:Int):=by omega
  have Hq:Hid (rightP t=false):=hid (by unfold rightP;rw[decide_eq_false (show ¬ t.rules.length≤200 by omega)];simp)
  go_enter Tryz.func92,Tryz.ntmps92
  go_wp2
  go_ret
  exact⟨by rw[Hq.out];rfl,HB0.out _⟩
 have hbig2':¬ (200:Int) < (t.rules.length:Int):=by omega
 have Hz:Hid (rightP t=(t.decls.all rightD && t.rules.all rightR)):=hid (by
  unfold rightP
  rw[decide_eq_true (show t.decls.length≤60 by omega),decide_eq_true (show t.rules.length≤200 by omega)]
  rfl)
 go_enter Tryz.func92,Tryz.ntmps92
 go_wp2
 go_loopw [23] (fun i wr=>∃ k:Nat,k≤t.decls.length∧i=.int .i64 k∧t.decls.all rightD=(t.decls.drop k).all rightD∧Below (w.heap.size+1) (w.alloc (.cells #[.slice o0 t.decls.length k0,.slice o1 t.rules.length k1] 25)) wr) (fun i _=>t.decls.length - (intOf i).toNat)
 case atStart=>exact⟨0,Nat.zero_le _,rfl,rfl,Below.refl _ _⟩
 case round=>
  obtain⟨k,hk,rfl,hr,hB2⟩:=hrel
  have hB:Below w.heap.size w wr:=(HB0.out _).trans (hB2.mono (by omega))
  have Hr:=hid hr
  clear hr
  have hBs:=hB2.size
  simp only[World.size_alloc] at hBs
  have hz0:w.heap.size < wr.heap.size:=by omega
  have x0:wr.cell? ⟨w.heap.size,1,none⟩=some (.slice o1 t.rules.length k1):=(hB2.cell (p:=⟨w.heap.size,1,none⟩) (by show w.heap.size < _;omega)).trans (by go_simp)
  by_cases hlt:k < t.decls.length
  ·have hlt':(k:Int) < (t.decls.length:Int):=by omega
   obtain⟨xe,ht⟩:∃ xe,t.decls[k]?=some xe:=⟨t.decls[k],List.getElem?_eq_getElem hlt⟩
   obtain⟨b,p3,q3,p4,q4,rfl,ha,Hc,c0,c1,c2,c3,c4,c5⟩:=de_at SL hB ht
   have hal:(b.add (k * 6)).block < wr.heap.size:=by rw[addBlock];omega
   have Hst:=hid (Hr.out.trans (all_drop (f:=rightD) ht))
   clear ht
   have HI:=hid (fun (W:World) (hb:Below wr.heap.size wr W)=>checkDecl_c xe a W _ ((Hc.out.below hb).more hb.size) ((HE.out.below hB).below hb))
   go_wp2_with fail
   refine (HI.out _ ((Below.refl _ _).alloc (Nat.le_refl _) _)).mono ?_
   rintro e w1 ⟨rfl,b1⟩
   have b1':Below wr.heap.size wr w1:=((Below.refl _ _).alloc (Nat.le_refl _) _).trans (b1.mono (by simp))
   have hB3:=hB2.trans (b1'.mono (by omega))
   cases hs:rightD xe with
   | false=>
    have Hz2:=hid (Hst.out.trans (by rw[hs,Bool.false_and]))
    have Hq:Hid (rightP t=false):=hid (by rw[Hz.out,Hz2.out];rfl)
    clear hs
    simp only[okV_f]
    go_wp2
    go_ret
    exact⟨by rw[Hq.out];rfl,hB.trans (b1'.mono hB.size)⟩
   | true=>
    have Hz2:=hid (Hst.out.trans (by rw[hs,Bool.true_and]))
    clear hs
    simp only[okV_t]
    go_wp2
    go_roundw
    case rel=>exact⟨k+1,hlt,by go_num,Hz2.out,hB3⟩
    case measure=>simp[intOf];omega
  ·have hlt':¬ (k:Int) < (t.decls.length:Int):=by omega
   have Hall:Hid (t.decls.all rightD=true):=hid (by rw[Hr.out,List.drop_of_length_le (by omega)];rfl)
   clear Hr
   have Hz3:Hid (rightP t=t.rules.all rightR):=hid (by rw[Hz.out,Hall.out];rfl)
   go_wp2
   go_loopw [36] (fun i wr=>∃ k:Nat,k≤t.rules.length∧i=.int .i64 k∧t.rules.all rightR=(t.rules.drop k).all rightR∧Below (w.heap.size+1) (w.alloc (.cells #[.slice o0 t.decls.length k0,.slice o1 t.rules.length k1] 25)) wr) (fun i _=>t.rules.length - (intOf i).toNat)
   case atStart=>exact⟨0,Nat.zero_le _,rfl,rfl,hB2⟩
   case round=>
    obtain⟨k,hk,rfl,hr,hB2⟩:=hrel
    have hB:Below w.heap.size w wr:=(HB0.out _).trans (hB2.mono (by omega))
    have Hr:=hid hr
    clear hr
    have hBs:=hB2.size
    simp only[World.size_alloc] at hBs
    have hz0:w.heap.size < wr.heap.size:=by omega
    have x0:wr.cell? ⟨w.heap.size,1,none⟩=some (.slice o1 t.rules.length k1):=(hB2.cell (p:=⟨w.heap.size,1,none⟩) (by show w.heap.size < _;omega)).trans (by go_simp)
    by_cases hlt:k < t.rules.length
    ·have hlt':(k:Int) < (t.rules.length:Int):=by omega
     obtain⟨xe,ht⟩:∃ xe,t.rules[k]?=some xe:=⟨t.rules[k],List.getElem?_eq_getElem hlt⟩
     obtain⟨b,p3,q3,p4,q4,rfl,ha,Hc,c0,c1,c2,c3⟩:=ru_at SL2 hB ht
     have hal:(b.add (k * 4)).block < wr.heap.size:=by rw[addBlock];omega
     have Hst:=hid (Hr.out.trans (all_drop (f:=rightR) ht))
     clear ht
     have HI:=hid (fun (W:World) (hb:Below wr.heap.size wr W)=>checkRule_c xe a W _ ((Hc.out.below hb).more hb.size) ((HE.out.below hB).below hb))
     go_wp2_with fail
     refine (HI.out _ ((Below.refl _ _).alloc (Nat.le_refl _) _)).mono ?_
     rintro e w1 ⟨rfl,b1⟩
     have b1':Below wr.heap.size wr w1:=((Below.refl _ _).alloc (Nat.le_refl _) _).trans (b1.mono (by simp))
     have hB3:=hB2.trans (b1'.mono (by omega))
     cases hs:rightR xe with
     | false=>
      have Hz2:=hid (Hst.out.trans (by rw[hs,Bool.false_and]))
      have Hq:Hid (rightP t=false):=hid (by rw[Hz3.out,Hz2.out])
      clear hs
      simp only[okV_f]
      go_wp2
      go_ret
      exact⟨by rw[Hq.out];rfl,hB.trans (b1'.mono hB.size)⟩
     | true=>
      have Hz2:=hid (Hst.out.trans (by rw[hs,Bool.true_and]))
      clear hs
      simp only[okV_t]
      go_wp2
      go_roundw
      case rel=>exact⟨k+1,hlt,by go_num,Hz2.out,hB3⟩
      case measure=>simp[intOf];omega
    ·have hlt':¬ (k:Int) < (t.rules.length:Int):=by omega
     have Hall:Hid (t.rules.all rightR=true):=hid (by rw[Hr.out,List.drop_of_length_le (by omega)];rfl)
     have Hq:Hid (rightP t=true):=hid (by rw[Hz3.out,Hall.out])
     go_wp2
     go_ret
     exact⟨by rw[Hq.out];rfl,hB⟩
theorem heldBrightRule_c {W w1:World} (b:Below W.heap.size W.drew w1) {n g:Nat} {v0 v1 v2 v3 v4:Value} (hn:n < W.heap.size) (hg:g < W.heap.size)
  (h:W.cell? ⟨n,0,none⟩=some v0∧W.cell? ⟨n,1,none⟩=some v1∧W.cell? ⟨n,2,none⟩=some v2∧W.cell? ⟨n,3,none⟩=some v3∧W.cell? ⟨g,0,none⟩=some v4):w1.cell? ⟨n,0,none⟩=some v0∧w1.cell? ⟨n,1,none⟩=some v1∧w1.cell? ⟨n,2,none⟩=some v2∧w1.cell? ⟨n,3,none⟩=some v3∧w1.cell? ⟨g,0,none⟩=some v4:=by
 obtain⟨h0,h1,h2,h3,h4⟩:=h
 exact⟨(b.cell (p:=⟨n,0,none⟩) hn).trans h0,(b.cell (p:=⟨n,1,none⟩) hn).trans h1,(b.cell (p:=⟨n,2,none⟩) hn).trans h2,(b.cell (p:=⟨n,3,none⟩) hn).trans h3,(b.cell (p:=⟨g,0,none⟩) hg).trans h4⟩
set_option maxRecDepth 100000 in
set_option maxHeartbeats 4000000 in
theorem rightRule_c (t:Ru) (a:Addr) (w:World) (cs:List Value) (hc:RuC w w.heap.size t cs) (E:TErr a w) :
  Calls Tryz.prog 68 #[.agg cs.toArray] w fun e w'=>e=.returned (.bool (rightR t))∧Below w.heap.size w w':=by
 have HC0:=fun (W:World) (hb:Below w.heap.size w W)=>checkRule_c t a W cs ((hc.below hb).more hb.size) (E.below hb)
 obtain⟨o0,k0,o1,k1,rfl,_,_,_⟩:=hc.look
 have HC:=hid HC0
 have herr:=E.err
 have hgs:=E.size
 have HE:=hid E
 clear E
 clear hc HC0
 have HB0:Hid (∀ (x:Obj),Below w.heap.size w (w.alloc x)):=hid fun x=>(Below.refl _ _).alloc (Nat.le_refl _) _
 have x0:(w.alloc (.cells #[.string t.head.rel,.slice o0 t.head.l.length k0,.slice o1 t.body.length k1,.int .i64 t.line] 47)).cell? ⟨w.heap.size,0,none⟩=some (.string t.head.rel):=by go_simp
 have x1:(w.alloc (.cells #[.string t.head.rel,.slice o0 t.head.l.length k0,.slice o1 t.body.length k1,.int .i64 t.line] 47)).cell? ⟨w.heap.size,1,none⟩=some (.slice o0 t.head.l.length k0):=by go_simp
 have x2:(w.alloc (.cells #[.string t.head.rel,.slice o0 t.head.l.length k0,.slice o1 t.body.length k1,.int .i64 t.line] 47)).cell? ⟨w.heap.size,2,none⟩=some (.slice o1 t.body.length k1):=by go_simp
 have x3:(w.alloc (.cells #[.string t.head.rel,.slice o0 t.head.l.length k0,.slice o1 t.body.length k1,.int .i64 t.line] 47)).cell? ⟨w.heap.size,3,none⟩=some (.int .i64 t.line):=by go_simp
 have xe:(w.alloc (.cells #[.string t.head.rel,.slice o0 t.head.l.length k0,.slice o1 t.body.length k1,.int .i64 t.line] 47)).cell? ⟨2,0,none⟩=some (.iface 250 (.pointer (some a))):=(HE.out.below (HB0.out _)).err
 have hgs2:2 < (w.alloc (.cells #[.string t.head.rel,.slice o0 t.head.l.length k0,.slice o1 t.body.length k1,.int .i64 t.line] 47)).heap.size:=by first | (simp;omega) | simp
 cases hr:rightR t with
 | true=>
  rw[hr,okV_t] at HC
  go_enter Tryz.func68,Tryz.ntmps68
  go_wp2
  go_region_held3 (fun w'=>w'.cell? ⟨w.heap.size,0,none⟩=some (.string t.head.rel)∧w'.cell? ⟨w.heap.size,1,none⟩=some (.slice o0 t.head.l.length k0)∧w'.cell? ⟨w.heap.size,2,none⟩=some (.slice o1 t.body.length k1)∧w'.cell? ⟨w.heap.size,3,none⟩=some (.int .i64 t.line)∧w'.cell? ⟨2,0,none⟩=some (.iface 250 (.pointer (some a)))) (first | exact⟨x0,x1,x2,x3,xe⟩ | exact hk) (first | (go_at_call 94;refine (HC.out _ ((HB0.out _).drew)).mono ?_;rintro e w1 ⟨rfl,b1⟩;have hk:=heldBrightRule_c b1 (by simp) hgs2 ⟨x0,x1,x2,x3,xe⟩) | (go_at_call 75;refine (is_nil _ _).mono ?_;rintro e w' ⟨rfl,rfl⟩))
  go_wp2
  go_ret
  exact⟨rfl,(HB0.out _).trans (((Below.refl _ _).drew).trans (b1.mono (by simp)))⟩
 | false=>
  rw[hr,okV_f] at HC
  go_enter Tryz.func68,Tryz.ntmps68
  go_wp2
  go_region_held3 (fun w'=>w'.cell? ⟨w.heap.size,0,none⟩=some (.string t.head.rel)∧w'.cell? ⟨w.heap.size,1,none⟩=some (.slice o0 t.head.l.length k0)∧w'.cell? ⟨w.heap.size,2,none⟩=some (.slice o1 t.body.length k1)∧w'.cell? ⟨w.heap.size,3,none⟩=some (.int .i64 t.line)∧w'.cell? ⟨2,0,none⟩=some (.iface 250 (.pointer (some a)))) (first | exact⟨x0,x1,x2,x3,xe⟩ | exact hk) (first | (go_at_call 94;refine (HC.out _ ((HB0.out _).drew)).mono ?_;rintro e w1 ⟨rfl,b1⟩;have hk:=heldBrightRule_c b1 (by simp) hgs2 ⟨x0,x1,x2,x3,xe⟩) | (go_at_call 75;refine (is_same _ _).mono ?_;rintro e w' ⟨rfl,rfl⟩))
  go_wp2
  go_ret
  exact⟨rfl,(HB0.out _).trans (((Below.refl _ _).drew).trans (b1.mono (by simp)))⟩
theorem heldBright_c {W w1:World} (b:Below W.heap.size W.drew w1) {n g:Nat} {v0 v1 v2:Value} (hn:n < W.heap.size) (hg:g < W.heap.size)
  (h:W.cell? ⟨n,0,none⟩=some v0∧W.cell? ⟨n,1,none⟩=some v1∧W.cell? ⟨g,0,none⟩=some v2):w1.cell? ⟨n,0,none⟩=some v0∧w1.cell? ⟨n,1,none⟩=some v1∧w1.cell? ⟨g,0,none⟩=some v2:=by
 obtain⟨h0,h1,h2⟩:=h
 exact⟨(b.cell (p:=⟨n,0,none⟩) hn).trans h0,(b.cell (p:=⟨n,1,none⟩) hn).trans h1,(b.cell (p:=⟨g,0,none⟩) hg).trans h2⟩
set_option maxRecDepth 100000 in
set_option maxHeartbeats 4000000 in
theorem right_c (t:Pg) (a:Addr) (w:World) (cs:List Value) (hc:PgC w w.heap.size t cs) (E:TErr a w) :
  Calls Tryz.prog 65 #[.agg cs.toArray] w fun e w'=>e=.returned (.bool (rightP t))∧Below w.heap.size w w':=by
 have HC0:=fun (W:World) (hb:Below w.heap.size w W)=>checkProg_c t a W cs ((hc.below hb).more hb.size) (E.below hb)
 obtain⟨o0,k0,o1,k1,rfl,_,_⟩:=hc.look
 have HC:=hid HC0
 have herr:=E.err
 have hgs:=E.size
 have HE:=hid E
 clear E
 clear hc HC0
 have HB0:Hid (∀ (x:Obj),Below w.heap.size w (w.alloc x)):=hid fun x=>(Below.refl _ _).alloc (Nat.le_refl _) _
 have x0:(w.alloc (.cells #[.slice o0 t.decls.length k0,.slice o1 t.rules.length k1] 25)).cell? ⟨w.heap.size,0,none⟩=some (.slice o0 t.decls.length k0):=by go_simp
 have x1:(w.alloc (.cells #[.slice o0 t.decls.length k0,.slice o1 t.rules.length k1] 25)).cell? ⟨w.heap.size,1,none⟩=some (.slice o1 t.rules.length k1):=by go_simp
 have xe:(w.alloc (.cells #[.slice o0 t.decls.length k0,.slice o1 t.rules.length k1] 25)).cell? ⟨2,0,none⟩=some (.iface 250 (.pointer (some a))):=(HE.out.below (HB0.out _)).err
 have hgs2:2 < (w.alloc (.cells #[.slice o0 t.decls.length k0,.slice o1 t.rules.length k1] 25)).heap.size:=by first | (simp;omega) | simp
 cases hr:rightP t with
 | true=>
  rw[hr,okV_t] at HC
  go_enter Tryz.func65,Tryz.ntmps65
  go_wp2
  go_region_held3 (fun w'=>w'.cell? ⟨w.heap.size,0,none⟩=some (.slice o0 t.decls.length k0)∧w'.cell? ⟨w.heap.size,1,none⟩=some (.slice o1 t.rules.length k1)∧w'.cell? ⟨2,0,none⟩=some (.iface 250 (.pointer (some a)))) (first | exact⟨x0,x1,xe⟩ | exact hk) (first | (go_at_call 92;refine (HC.out _ ((HB0.out _).drew)).mono ?_;rintro e w1 ⟨rfl,b1⟩;have hk:=heldBright_c b1 (by simp) hgs2 ⟨x0,x1,xe⟩) | (go_at_call 75;refine (is_nil _ _).mono ?_;rintro e w' ⟨rfl,rfl⟩))
  go_wp2
  go_ret
  exact⟨rfl,(HB0.out _).trans (((Below.refl _ _).drew).trans (b1.mono (by simp)))⟩
 | false=>
  rw[hr,okV_f] at HC
  go_enter Tryz.func65,Tryz.ntmps65
  go_wp2
  go_region_held3 (fun w'=>w'.cell? ⟨w.heap.size,0,none⟩=some (.slice o0 t.decls.length k0)∧w'.cell? ⟨w.heap.size,1,none⟩=some (.slice o1 t.rules.length k1)∧w'.cell? ⟨2,0,none⟩=some (.iface 250 (.pointer (some a)))) (first | exact⟨x0,x1,xe⟩ | exact hk) (first | (go_at_call 92;refine (HC.out _ ((HB0.out _).drew)).mono ?_;rintro e w1 ⟨rfl,b1⟩;have hk:=heldBright_c b1 (by simp) hgs2 ⟨x0,x1,xe⟩) | (go_at_call 75;refine (is_same _ _).mono ?_;rintro e w' ⟨rfl,rfl⟩))
  go_wp2
  go_ret
  exact⟨rfl,(HB0.out _).trans (((Below.refl _ _).drew).trans (b1.mono (by simp)))⟩
open Go.RowKit Go.Extern Go.Extern.Rtype Go.Extern.Stop Go.Stop
theorem noIsE (v:Value) (xT:TypeId) (w:World):(Instr.typeAssert (.iface 250 v) xT 208 true).run Tryz.prog w=.ok (.tuple #[.nilIface,.bool false]) w:=run_typeAssert_lacksB Tryz.underlying208 (by kernel_rfl) (by kernel_rfl) v xT w
theorem noUnwrapE (v:Value) (xT:TypeId) (w:World):(Instr.typeAssert (.iface 250 v) xT 211 true).run Tryz.prog w=.ok (.tuple #[.nilIface,.bool false]) w:=run_typeAssert_lacksB Tryz.underlying211 (by kernel_rfl) (by kernel_rfl) v xT w
theorem noUnwrapsE (v:Value) (xT:TypeId) (w:World):(Instr.typeAssert (.iface 250 v) xT 213 true).run Tryz.prog w=.ok (.tuple #[.nilIface,.bool false]) w:=run_typeAssert_lacksB Tryz.underlying213 (by kernel_rfl) (by kernel_rfl) v xT w
set_option maxRecDepth 100000 in
set_option maxHeartbeats 2000000 in
theorem is_other (b c:Addr) (w:World) (hne:b≠c) {cb cc:Array Value} {tb tc:TypeId} (hb:w.heap[b.block]?=some (.cells cb tb (0,0))) (hc:w.heap[c.block]?=some (.cells cc tc (0,0))) :
  Calls Tryz.prog 75 #[.iface 250 (.pointer (some b)),.iface 250 (.pointer (some c))] w fun e w'=>e=.returned (.bool false)∧w=w':=by
 obtain⟨i,hi,hcmp⟩:=Option.map_eq_some_iff.1 isComp
 obtain⟨j,hj,hjs⟩:=Option.map_eq_some_iff.1 isSize
 have h39:=@run_callFunc_extern Tryz.prog 111 _ Extern.ReflectliteType.typeOf Tryz.func111 (by kernel_rfl) (by kernel_rfl) (by kernel_rfl) (by kernel_rfl)
 have tT:=isTypeOf
 have cT:=isCalled
 have mR:=isMethodComparable
 have nE:=noIsE
 have uE:=noUnwrapE
 have vE:=noUnwrapsE
 have heq:=run_eql_iface_ptr_other (P:=Tryz.prog) w Tryz.underlying95 Tryz.underlying250 hi hcmp hj (by rw[hjs];decide) hne hb hc
 clear hb hc
 go_enter Tryz.func75,Tryz.ntmps75
 go_wp2
 refine wp_loop_rounds 1 ?_
 rw[rounds_succ]
 go_wp2
 go_ret
 exact⟨rfl,rfl⟩
structure YDiff (a b c d:Addr) (w:World):Prop where
 ab:a≠b
 ac:a≠c
 ad:a≠d
 cb:c≠b
 db:d≠b
 dc:d≠c
 ra:∃ cs t,w.heap[a.block]?=some (.cells cs t (0,0))
 rb:∃ cs t,w.heap[b.block]?=some (.cells cs t (0,0))
 rc:∃ cs t,w.heap[c.block]?=some (.cells cs t (0,0))
 rd:∃ cs t,w.heap[d.block]?=some (.cells cs t (0,0))
set_option maxRecDepth 100000 in
set_option maxHeartbeats 2000000 in
theorem num_ty (n:Nat) (a b c d:Addr) (w:World) (E:YEnv n a b c d w) (D:YDiff a b c d w) :
  Calls Tryz.prog 67 #[errV a] w fun e w'=>e=.returned (.int .i64 53)∧w=w':=by
 have h1:=E.ty
 have h2:=E.tw
 have h3:=E.no
 have h4:=E.ar
 unfold errV at *
 obtain⟨ca,ta,ra⟩:=D.ra
 obtain⟨cb,tb,rb⟩:=D.rb
 obtain⟨cc,tc,rc⟩:=D.rc
 obtain⟨cd,td,rd⟩:=D.rd
 have Hab:=hid (is_other a b w D.ab ra rb)
 have Hac:=hid (is_other a c w D.ac ra rc)
 have Had:=hid (is_other a d w D.ad ra rd)
 have Hcb:=hid (is_other c b w D.cb rc rb)
 have Hdb:=hid (is_other d b w D.db rd rb)
 have Hdc:=hid (is_other d c w D.dc rd rc)
 clear ra rb rc rd E D
 go_enter Tryz.func67,Tryz.ntmps67
 go_wp2_with fail
 refine (Hab.out).mono ?_
 rintro e w' ⟨rfl,rfl⟩
 go_wp2_with fail
 refine (Hac.out).mono ?_
 rintro e w' ⟨rfl,rfl⟩
 go_wp2_with fail
 refine (Had.out).mono ?_
 rintro e w' ⟨rfl,rfl⟩
 go_wp2_with fail
 refine (is_same a w).mono ?_
 rintro e w' ⟨rfl,rfl⟩
 go_wp2
 go_ret
 exact⟨rfl,rfl⟩
set_option maxRecDepth 100000 in
set_option maxHeartbeats 2000000 in
theorem num_no (n:Nat) (a b c d:Addr) (w:World) (E:YEnv n a b c d w) (D:YDiff a b c d w) :
  Calls Tryz.prog 67 #[errV c] w fun e w'=>e=.returned (.int .i64 51)∧w=w':=by
 have h1:=E.ty
 have h2:=E.tw
 have h3:=E.no
 have h4:=E.ar
 unfold errV at *
 obtain⟨ca,ta,ra⟩:=D.ra
 obtain⟨cb,tb,rb⟩:=D.rb
 obtain⟨cc,tc,rc⟩:=D.rc
 obtain⟨cd,td,rd⟩:=D.rd
 have Hab:=hid (is_other a b w D.ab ra rb)
 have Hac:=hid (is_other a c w D.ac ra rc)
 have Had:=hid (is_other a d w D.ad ra rd)
 have Hcb:=hid (is_other c b w D.cb rc rb)
 have Hdb:=hid (is_other d b w D.db rd rb)
 have Hdc:=hid (is_other d c w D.dc rd rc)
 clear ra rb rc rd E D
 go_enter Tryz.func67,Tryz.ntmps67
 go_wp2_with fail
 refine (Hcb.out).mono ?_
 rintro e w' ⟨rfl,rfl⟩
 go_wp2_with fail
 refine (is_same c w).mono ?_
 rintro e w' ⟨rfl,rfl⟩
 go_wp2
 go_ret
 exact⟨rfl,rfl⟩
set_option maxRecDepth 100000 in
set_option maxHeartbeats 2000000 in
theorem num_ar (n:Nat) (a b c d:Addr) (w:World) (E:YEnv n a b c d w) (D:YDiff a b c d w) :
  Calls Tryz.prog 67 #[errV d] w fun e w'=>e=.returned (.int .i64 52)∧w=w':=by
 have h1:=E.ty
 have h2:=E.tw
 have h3:=E.no
 have h4:=E.ar
 unfold errV at *
 obtain⟨ca,ta,ra⟩:=D.ra
 obtain⟨cb,tb,rb⟩:=D.rb
 obtain⟨cc,tc,rc⟩:=D.rc
 obtain⟨cd,td,rd⟩:=D.rd
 have Hab:=hid (is_other a b w D.ab ra rb)
 have Hac:=hid (is_other a c w D.ac ra rc)
 have Had:=hid (is_other a d w D.ad ra rd)
 have Hcb:=hid (is_other c b w D.cb rc rb)
 have Hdb:=hid (is_other d b w D.db rd rb)
 have Hdc:=hid (is_other d c w D.dc rd rc)
 clear ra rb rc rd E D
 go_enter Tryz.func67,Tryz.ntmps67
 go_wp2_with fail
 refine (Hdb.out).mono ?_
 rintro e w' ⟨rfl,rfl⟩
 go_wp2_with fail
 refine (Hdc.out).mono ?_
 rintro e w' ⟨rfl,rfl⟩
 go_wp2_with fail
 refine (is_same d w).mono ?_
 rintro e w' ⟨rfl,rfl⟩
 go_wp2
 go_ret
 exact⟨rfl,rfl⟩
set_option maxRecDepth 100000 in
set_option maxHeartbeats 2000000 in
theorem num_tw (n:Nat) (a b c d:Addr) (w:World) (E:YEnv n a b c d w) (D:YDiff a b c d w) :
  Calls Tryz.prog 67 #[errV b] w fun e w'=>e=.returned (.int .i64 50)∧w=w':=by
 have h1:=E.ty
 have h2:=E.tw
 have h3:=E.no
 have h4:=E.ar
 unfold errV at *
 obtain⟨ca,ta,ra⟩:=D.ra
 obtain⟨cb,tb,rb⟩:=D.rb
 obtain⟨cc,tc,rc⟩:=D.rc
 obtain⟨cd,td,rd⟩:=D.rd
 have Hab:=hid (is_other a b w D.ab ra rb)
 have Hac:=hid (is_other a c w D.ac ra rc)
 have Had:=hid (is_other a d w D.ad ra rd)
 have Hcb:=hid (is_other c b w D.cb rc rb)
 have Hdb:=hid (is_other d b w D.db rd rb)
 have Hdc:=hid (is_other d c w D.dc rd rc)
 clear ra rb rc rd E D
 go_enter Tryz.func67,Tryz.ntmps67
 go_wp2_with fail
 refine (is_same b w).mono ?_
 rintro e w' ⟨rfl,rfl⟩
 go_wp2
 go_ret
 exact⟨rfl,rfl⟩
set_option maxRecDepth 100000 in
set_option maxHeartbeats 2000000 in
theorem num_nil (n:Nat) (a b c d:Addr) (w:World) (E:YEnv n a b c d w) (D:YDiff a b c d w) :
  Calls Tryz.prog 67 #[.nilIface] w fun e w'=>e=.returned (.int .i64 0)∧w=w':=by
 have h1:=E.ty
 have h2:=E.tw
 have h3:=E.no
 have h4:=E.ar
 unfold errV at *
 obtain⟨ca,ta,ra⟩:=D.ra
 obtain⟨cb,tb,rb⟩:=D.rb
 obtain⟨cc,tc,rc⟩:=D.rc
 obtain⟨cd,td,rd⟩:=D.rd
 have Hab:=hid (is_other a b w D.ab ra rb)
 have Hac:=hid (is_other a c w D.ac ra rc)
 have Had:=hid (is_other a d w D.ad ra rd)
 have Hcb:=hid (is_other c b w D.cb rc rb)
 have Hdb:=hid (is_other d b w D.db rd rb)
 have Hdc:=hid (is_other d c w D.dc rd rc)
 clear ra rb rc rd E D
 go_enter Tryz.func67,Tryz.ntmps67
 go_wp2_with fail
 refine (is_nil b w).mono ?_
 rintro e w' ⟨rfl,rfl⟩
 go_wp2_with fail
 refine (is_nil c w).mono ?_
 rintro e w' ⟨rfl,rfl⟩
 go_wp2_with fail
 refine (is_nil d w).mono ?_
 rintro e w' ⟨rfl,rfl⟩
 go_wp2_with fail
 refine (is_nil a w).mono ?_
 rintro e w' ⟨rfl,rfl⟩
 go_wp2
 go_ret
 exact⟨rfl,rfl⟩
structure EnvY (e a b c d:Addr) (w:World):Prop where
 tr:TErr e w
 y:YEnv w.heap.size a b c d w
 df:YDiff a b c d w
theorem heap_lt {w:World} {i:Nat} {o:Obj} (h:w.heap[i]?=some o):i < w.heap.size:=(Array.getElem?_eq_some_iff.1 h).1
theorem YDiff.below {a b c d:Addr} {w w':World} (h:YDiff a b c d w) (hb:Below w.heap.size w w'):YDiff a b c d w':=by
 have k:∀ {x:Addr},(∃ cs t,w.heap[x.block]?=some (.cells cs t (0,0)))→∃ cs t,w'.heap[x.block]?=some (.cells cs t (0,0)):=fun ⟨cs,t,h⟩=>⟨cs,t,(hb.block _ (heap_lt h)).trans h⟩
 exact⟨h.ab,h.ac,h.ad,h.cb,h.db,h.dc,k h.ra,k h.rb,k h.rc,k h.rd⟩
theorem YEnv.more {n m:Nat} {a b c d:Addr} {w:World} (h:YEnv n a b c d w) (hm:n≤m):YEnv m a b c d w:=⟨h.ty,h.tw,h.no,h.ar,by have:=h.big;omega⟩
theorem EnvY.below {e a b c d:Addr} {w w':World} (h:EnvY e a b c d w) (hb:Below w.heap.size w w'):EnvY e a b c d w':=
 ⟨h.tr.below hb,(h.y.below hb).more hb.size,h.df.below hb⟩
end Go.Proofs.YtakpgcmfjlbcgaaGreatDoor
