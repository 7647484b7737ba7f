/- Tchk2@2, Trright3@2 -/
import Derived.Test.YtfmldnbcjbflbaaGreatDoorQ18
import Derived.Test.YtfmldnbcjbflbaaGreatDoorQ10
set_option linter.unusedSimpArgs false
set_option linter.unusedVariables false
namespace Go.Proofs.YtfmldnbcjbflbaaGreatDoor
open Lib(hid)
open Go.RowKit
def nameS (s:ByteArray):Bool:=nameB s.data.toList
def colB (x:ByteArray × Int):Bool:=nameS x.1 && rightTy x.2
theorem cols_all:∀ (l:List ByteArray) (m:List Int),l.length=m.length→(l.all nameS && m.all rightTy)=(l.zip m).all colB
 | [],[],_=>rfl
 | x::l,y::m,h=>by
  have ih:=cols_all l m (by simpa using h)
  simp only[List.all_cons,List.zip_cons_cons]
  rw[← ih]
  unfold colB
  simp only
  cases nameS x <;> cases rightTy y <;> cases l.all nameS <;> cases m.all rightTy <;> rfl
set_option maxRecDepth 100000 in
set_option maxHeartbeats 4000000 in
theorem checkDecl_c (t:De) (a:Addr) (w:World) (cs:List Value) (hc:DeC w w.heap.size t cs) (E:TErr a w) :
  Calls Tryz.prog 95 #[.agg cs.toArray] w fun e w'=>e=.returned (okV a (rightD t))∧Below w.heap.size w w':=by
 obtain⟨o0,k0,o1,k1,rfl,hz,_,H1,H2⟩:=hc.look
 have HN:=hid (fun w=>isName_any t.rel w hz)
 obtain⟨o2,cap2,e2,hc2,hm2,SL⟩:=SlOf.open H1
 cases e2
 obtain⟨o2,cap2,e2,hc3,hm3,SL2⟩:=SlOf.open H2
 cases e2
 have herr:=E.err
 have hgs:=E.size
 have HE:=hid E
 clear E
 clear hc H1 H2
 have HB0:Hid (∀ (x:Obj),Below w.heap.size w (w.alloc x)):=hid fun x=>(Below.refl _ _).alloc (Nat.le_refl _) _
 have Hz:Hid (rightD t=(nameB t.rel.data.toList && ((decide (1≤(t.names.length:Int)) && decide ((t.names.length:Int)≤8)) && (decide (t.types.length=t.names.length) && (t.names.all nameS && t.types.all rightTy))))):=hid (by
  unfold rightD
  rw[show decide (1≤(t.names.length:Int))=decide (1≤t.names.length) from decide_eq_decide.2 (by omega),show decide ((t.names.length:Int)≤8)=decide (t.names.length≤8) from decide_eq_decide.2 (by omega)]
  simp only[Bool.and_assoc]
  rfl)
 go_enter Tryz.func95,Tryz.ntmps95
 go_wp2_with fail
 refine (HN.out _).mono ?_
 rintro e w1 ⟨rfl,b1⟩
 have B1:=(HB0.out _).trans (b1.mono (by simp))
 have B1':Below (w.heap.size+1) (w.alloc (.cells #[.string t.rel,.slice o0 t.names.length k0,.slice o1 t.types.length k1,.bool t.inn,.bool t.out,.int .i64 t.line] 58)) w1:=b1.mono (by simp)
 obtain⟨hc,hf⟩:=boxk w.heap.size b1 (by simp)
 have herr1:=(HE.out.below B1).err
 cases hnm:nameB t.rel.data.toList with
 | false=>
  have Hq:Hid (rightD t=false):=hid (by rw[Hz.out,hnm];rfl)
  clear hnm
  go_wp2
  go_ret
  exact⟨by rw[Hq.out];rfl,B1⟩
 | true=>
 have Hz1:Hid (rightD t=((decide (1≤(t.names.length:Int)) && decide ((t.names.length:Int)≤8)) && (decide (t.types.length=t.names.length) && (t.names.all nameS && t.types.all rightTy)))):=hid (by rw[Hz.out,hnm];rfl)
 clear hnm
 go_wp2_with fail
 refine (count_c _ _).mono ?_
 rintro e w' ⟨rfl,rfl⟩
 cases hcn:(decide (1≤(t.names.length:Int)) && decide ((t.names.length:Int)≤8)) with
 | false=>
  have Hq:Hid (rightD t=false):=hid (by rw[Hz1.out,hcn];rfl)
  clear hcn
  go_wp2
  go_ret
  exact⟨by rw[Hq.out];rfl,B1⟩
 | true=>
 obtain⟨bl,hbl⟩:∃ b,((t.types.length:Int) != (t.names.length:Int))=b:=⟨_,rfl⟩
 cases bl with
 | true=>
  have Hq:Hid (rightD t=false):=hid (by rw[Hz1.out,hcn,decide_eq_false (show ¬ t.types.length=t.names.length by intro h;rw[h] at hbl;simp at hbl)];rfl)
  clear hcn
  go_wp2
  go_ret
  exact⟨by rw[Hq.out];rfl,B1⟩
 | false=>
 have Hlen:Hid (t.types.length=t.names.length):=hid (by
  have:(t.types.length:Int)=t.names.length:=by simpa using hbl
  omega)
 have Hz2:Hid (rightD t=(t.names.zip t.types).all colB):=hid (by rw[Hz1.out,hcn,decide_eq_true Hlen.out,← cols_all _ _ Hlen.out.symm];rfl)
 have HLZ:Hid ((t.names.zip t.types).length=t.names.length):=hid (by rw[List.length_zip,Hlen.out];omega)
 clear hcn
 go_wp2
 go_loopw [29] (fun i wr=>∃ k:Nat,k≤t.names.length∧i=.int .i64 k∧(t.names.zip t.types).all colB=((t.names.zip t.types).drop k).all colB∧Below (w.heap.size+1) (w.alloc (.cells #[.string t.rel,.slice o0 t.names.length k0,.slice o1 t.types.length k1,.bool t.inn,.bool t.out,.int .i64 t.line] 58)) wr) (fun i _=>t.names.length - (intOf i).toNat)
 case atStart=>exact⟨0,Nat.zero_le _,rfl,rfl,B1'⟩
 case round=>
  obtain⟨k,hk,rfl,hr,hB2⟩:=hrel
  have hB:Below w.heap.size w wr:=(HB0.out _).trans (hB2.mono (by omega))
  have Hr:=hid hr
  clear hr
  have hBs:=hB2.size
  simp only[World.size_alloc] at hBs
  have hz0:w.heap.size < wr.heap.size:=by omega
  by_cases hlt:k < t.names.length
  ·have hlt':(k:Int) < (t.names.length:Int):=by omega
   have hlt2:k < t.types.length:=by have:=Hlen.out;omega
   have hlt3:(k:Int) < (t.types.length:Int):=by omega
   obtain⟨xe,ht⟩:∃ xe,t.names[k]?=some xe:=⟨t.names[k],List.getElem?_eq_getElem hlt⟩
   obtain⟨ye,hv⟩:∃ ye,t.types[k]?=some ye:=⟨t.types[k],List.getElem?_eq_getElem hlt2⟩
   obtain⟨b,rfl,ha,hxz,c0⟩:=str_at SL hB ht
   have hzip:(t.names.zip t.types)[k]?=some (xe,ye):=by rw[List.getElem?_zip_eq_some];exact⟨ht,hv⟩
   have Hst:=hid (Hr.out.trans (all_drop (f:=colB) hzip))
   have HV:=hid hv
   clear ht hzip hv
   go_wp2_with fail
   refine (isName_any xe wr hxz).mono ?_
   rintro e w2 ⟨rfl,b2⟩
   have hB3:=hB2.trans (b2.mono (by omega))
   have hB4:=hB.trans (b2.mono (by omega))
   have x0:w2.cell? ⟨w.heap.size,2,none⟩=some (.slice o1 t.types.length k1):=(hB3.cell (p:=⟨w.heap.size,2,none⟩) (by show w.heap.size < _;omega)).trans (by go_simp)
   obtain⟨d,rfl,hd,_,d0⟩:=int_at SL2 hB4 HV.out
   have herr2:=(HE.out.below hB4).err
   cases hnm:nameB xe.data.toList with
   | false=>
    have Hq:Hid (rightD t=false):=hid (by rw[Hz2.out,Hst.out];unfold colB nameS;simp only[hnm];rfl)
    clear hnm
    go_wp2
    go_ret
    exact⟨by rw[Hq.out];rfl,hB4⟩
   | true=>
    obtain⟨b1',hy1⟩:∃ b,(ye != 1)=b:=⟨_,rfl⟩
    obtain⟨b2',hy2⟩:∃ b,(ye != 2)=b:=⟨_,rfl⟩
    have hty:rightTy ye=!(b1' && b2'):=by unfold rightTy;rw[← hy1,← hy2];cases h1:(ye == 1) <;> cases h2:(ye == 2) <;> simp[bne,h1,h2]
    have Hst2:Hid ((t.names.zip t.types).all colB=(!(b1' && b2') && ((t.names.zip t.types).drop (k+1)).all colB)):=hid (by rw[Hst.out];unfold colB nameS;simp only[hnm,hty,Bool.true_and])
    clear hnm hty
    have Hgo:Hid ((b1' && b2')=false→(t.names.zip t.types).all colB=((t.names.zip t.types).drop (k+1)).all colB):=hid (by intro h;rw[Hst2.out,h];rfl)
    have Hno:Hid (b1'=true→b2'=true→rightD t=false):=hid (by rintro rfl rfl;rw[Hz2.out,Hst2.out];rfl)
    cases b1' <;> cases b2'
    case true.true=>
     have Hq:=hid (Hno.out rfl rfl)
     go_wp2
     go_ret
     exact⟨by rw[Hq.out];rfl,hB4⟩
    all_goals
     have Hq:=hid (Hgo.out rfl)
     go_wp2
     go_roundw
     case rel=>exact⟨k+1,hlt,by go_num,Hq.out,hB3⟩
     case measure=>simp[intOf];omega
  ·have hlt':¬ (k:Int) < (t.names.length:Int):=by omega
   have Hq:Hid (rightD t=true):=hid (by rw[Hz2.out,Hr.out,List.drop_of_length_le (by rw[HLZ.out];omega)];rfl)
   go_wp2
   go_ret
   exact⟨by rw[Hq.out];rfl,hB⟩
set_option maxRecDepth 100000 in
set_option maxHeartbeats 4000000 in
theorem checkProg_c (t:Pg) (a:Addr) (w:World) (cs:List Value) (hc:PgC w w.heap.size t cs) (E:TErr a w) :
  Calls Tryz.prog 61 #[.agg cs.toArray] w fun e w'=>e=.returned (okV a (rightP t))∧Below w.heap.size w w':=by
 obtain⟨o0,k0,o1,k1,rfl,H1,H2⟩:=hc.look
 obtain⟨o2,cap2,e2,hc2,hm2,SL⟩:=SlOf.open H1
 cases e2
 obtain⟨o2,cap2,e2,hc3,hm3,SL2⟩:=SlOf.open H2
 cases e2
 have herr:=E.err
 have hgs:=E.size
 have HE:=hid E
 clear E
 clear hc H1 H2
 have HB0:Hid (∀ (x:Obj),Below w.heap.size w (w.alloc x)):=hid fun x=>(Below.refl _ _).alloc (Nat.le_refl _) _
 by_cases hbig:60 < t.decls.length
 ·have hbig':(60:Int) < (t.decls.length:Int):=by omega
  have Hq:Hid (rightP t=false):=hid (by unfold rightP;rw[decide_eq_false (show ¬ t.decls.length≤60 by omega)];rfl)
  go_enter Tryz.func61,Tryz.ntmps61
  go_wp2
  go_ret
  exact⟨by rw[Hq.out];rfl,HB0.out _⟩
 have hbig':¬ (60:Int) < (t.decls.length:Int):=by omega
 by_cases hbig2:200 < t.rules.length
 ·have hbig2':(200:Int) < (t.rules.length:Int):=by omega
  have Hq:Hid (rightP t=false):=hid (by unfold rightP;rw[decide_eq_false (show ¬ t.rules.length≤200 by omega)];simp)
  go_enter Tryz.func61,Tryz.ntmps61
  go_wp2
  go_ret
  exact⟨by rw[Hq.out];rfl,HB0.out _⟩
 have hbig2':¬ (200:Int) < (t.rules.length:Int):=by omega
 have Hz:Hid (rightP t=(t.decls.all rightD && t.rules.all rightR)):=hid (by
  unfold rightP
  rw[decide_eq_true (show t.decls.length≤60 by omega),decide_eq_true (show t.rules.length≤200 by omega)]
  rfl)
 go_enter Tryz.func61,Tryz.ntmps61
 go_wp2
 go_loopw [23] (fun i wr=>∃ k:Nat,k≤t.decls.length∧i=.int .i64 k∧t.decls.all rightD=(t.decls.drop k).all rightD∧Below (w.heap.size+1) (w.alloc (.cells #[.slice o0 t.decls.length k0,.slice o1 t.rules.length k1] 25)) wr) (fun i _=>t.decls.length - (intOf i).toNat)
 case atStart=>exact⟨0,Nat.zero_le _,rfl,rfl,Below.refl _ _⟩
 case round=>
  obtain⟨k,hk,rfl,hr,hB2⟩:=hrel
  have hB:Below w.heap.size w wr:=(HB0.out _).trans (hB2.mono (by omega))
  have Hr:=hid hr
  clear hr
  have hBs:=hB2.size
  simp only[World.size_alloc] at hBs
  have hz0:w.heap.size < wr.heap.size:=by omega
  have x0:wr.cell? ⟨w.heap.size,1,none⟩=some (.slice o1 t.rules.length k1):=(hB2.cell (p:=⟨w.heap.size,1,none⟩) (by show w.heap.size < _;omega)).trans (by go_simp)
  by_cases hlt:k < t.decls.length
  ·have hlt':(k:Int) < (t.decls.length:Int):=by omega
   obtain⟨xe,ht⟩:∃ xe,t.decls[k]?=some xe:=⟨t.decls[k],List.getElem?_eq_getElem hlt⟩
   obtain⟨b,p3,q3,p4,q4,rfl,ha,Hc,c0,c1,c2,c3,c4,c5⟩:=de_at SL hB ht
   have hal:(b.add (k * 6)).block < wr.heap.size:=by rw[addBlock];omega
   have Hst:=hid (Hr.out.trans (all_drop (f:=rightD) ht))
   clear ht
   have HI:=hid (fun (W:World) (hb:Below wr.heap.size wr W)=>checkDecl_c xe a W _ ((Hc.out.below hb).more hb.size) ((HE.out.below hB).below hb))
   go_wp2_with fail
   refine (HI.out _ ((Below.refl _ _).alloc (Nat.le_refl _) _)).mono ?_
   rintro e w1 ⟨rfl,b1⟩
   have b1':Below wr.heap.size wr w1:=((Below.refl _ _).alloc (Nat.le_refl _) _).trans (b1.mono (by simp))
   have hB3:=hB2.trans (b1'.mono (by omega))
   cases hs:rightD xe with
   | false=>
    have Hz2:=hid (Hst.out.trans (by rw[hs,Bool.false_and]))
    have Hq:Hid (rightP t=false):=hid (by rw[Hz.out,Hz2.out];rfl)
    clear hs
    simp only[okV_f]
    go_wp2
    go_ret
    exact⟨by rw[Hq.out];rfl,hB.trans (b1'.mono hB.size)⟩
   | true=>
    have Hz2:=hid (Hst.out.trans (by rw[hs,Bool.true_and]))
    clear hs
    simp only[okV_t]
    go_wp2
    go_roundw
    case rel=>exact⟨k+1,hlt,by go_num,Hz2.out,hB3⟩
    case measure=>simp[intOf];omega
  ·have hlt':¬ (k:Int) < (t.decls.length:Int):=by omega
   have Hall:Hid (t.decls.all rightD=true):=hid (by rw[Hr.out,List.drop_of_length_le (by omega)];rfl)
   clear Hr
   have Hz3:Hid (rightP t=t.rules.all rightR):=hid (by rw[Hz.out,Hall.out];rfl)
   go_wp2
   go_loopw [36] (fun i wr=>∃ k:Nat,k≤t.rules.length∧i=.int .i64 k∧t.rules.all rightR=(t.rules.drop k).all rightR∧Below (w.heap.size+1) (w.alloc (.cells #[.slice o0 t.decls.length k0,.slice o1 t.rules.length k1] 25)) wr) (fun i _=>t.rules.length - (intOf i).toNat)
   case atStart=>exact⟨0,Nat.zero_le _,rfl,rfl,hB2⟩
   case round=>
    obtain⟨k,hk,rfl,hr,hB2⟩:=hrel
    have hB:Below w.heap.size w wr:=(HB0.out _).trans (hB2.mono (by omega))
    have Hr:=hid hr
    clear hr
    have hBs:=hB2.size
    simp only[World.size_alloc] at hBs
    have hz0:w.heap.size < wr.heap.size:=by omega
    have x0:wr.cell? ⟨w.heap.size,1,none⟩=some (.slice o1 t.rules.length k1):=(hB2.cell (p:=⟨w.heap.size,1,none⟩) (by show w.heap.size < _;omega)).trans (by go_simp)
    by_cases hlt:k < t.rules.length
    ·have hlt':(k:Int) < (t.rules.length:Int):=by omega
     obtain⟨xe,ht⟩:∃ xe,t.rules[k]?=some xe:=⟨t.rules[k],List.getElem?_eq_getElem hlt⟩
     obtain⟨b,p3,q3,p4,q4,rfl,ha,Hc,c0,c1,c2,c3⟩:=ru_at SL2 hB ht
     have hal:(b.add (k * 4)).block < wr.heap.size:=by rw[addBlock];omega
     have Hst:=hid (Hr.out.trans (all_drop (f:=rightR) ht))
     clear ht
     have HI:=hid (fun (W:World) (hb:Below wr.heap.size wr W)=>checkRule_c xe a W _ ((Hc.out.below hb).more hb.size) ((HE.out.below hB).below hb))
     go_wp2_with fail
     refine (HI.out _ ((Below.refl _ _).alloc (Nat.le_refl _) _)).mono ?_
     rintro e w1 ⟨rfl,b1⟩
     have b1':Below wr.heap.size wr w1:=((Below.refl _ _).alloc (Nat.le_refl _) _).trans (b1.mono (by simp))
     have hB3:=hB2.trans (b1'.mono (by omega))
     cases hs:rightR xe with
     | false=>
      have Hz2:=hid (Hst.out.trans (by rw[hs,Bool.false_and]))
      have Hq:Hid (rightP t=false):=hid (by rw[Hz3.out,Hz2.out])
      clear hs
      simp only[okV_f]
      go_wp2
      go_ret
      exact⟨by rw[Hq.out];rfl,hB.trans (b1'.mono hB.size)⟩
     | true=>
      have Hz2:=hid (Hst.out.trans (by rw[hs,Bool.true_and]))
      clear hs
      simp only[okV_t]
      go_wp2
      go_roundw
      case rel=>exact⟨k+1,hlt,by go_num,Hz2.out,hB3⟩
      case measure=>simp[intOf];omega
    ·have hlt':¬ (k:Int) < (t.rules.length:Int):=by omega
     have Hall:Hid (t.rules.all rightR=true):=hid (by rw[Hr.out,List.drop_of_length_le (by omega)];rfl)
     have Hq:Hid (rightP t=true):=hid (by rw[Hz3.out,Hall.out])
     go_wp2
     go_ret
     exact⟨by rw[Hq.out];rfl,hB⟩
set_option maxRecDepth 100000 in
set_option maxHeartbeats 4000000 in
theorem rrightDecl_c (t:De) (w:World) (cs:List Value) (hc:DeC w w.heap.size t cs) :
  Calls Tryz.prog 63 #[.agg cs.toArray] w fun e w'=>e=.returned (.bool (rightD t))∧Below w.heap.size w w':=by
 obtain⟨o0,k0,o1,k1,rfl,hz,_,H1,H2⟩:=hc.look
 have HN:=hid (fun w=>refName_any t.rel w hz)
 obtain⟨o2,cap2,e2,hc2,hm2,SL⟩:=SlOf.open H1
 cases e2
 obtain⟨o2,cap2,e2,hc3,hm3,SL2⟩:=SlOf.open H2
 cases e2
 clear hc H1 H2
 have HB0:Hid (∀ (x:Obj),Below w.heap.size w (w.alloc x)):=hid fun x=>(Below.refl _ _).alloc (Nat.le_refl _) _
 have Hz0:Hid (rightD t=(nameB t.rel.data.toList && decide (1≤t.names.length) && decide (t.names.length≤8) && decide (t.types.length=t.names.length) && (t.names.all nameS && t.types.all rightTy))):=hid (by
  unfold rightD
  simp only[Bool.and_assoc]
  rfl)
 cases hnm:nameB t.rel.data.toList with
 | false=>
  have Hz:Hid (rightD t=false):=hid (by rw[Hz0.out,hnm];rfl)
  rw[hnm] at HN
  clear hnm
  go_enter Tryz.func63,Tryz.ntmps63
  go_wp2_with fail
  refine (HN.out _).mono ?_
  rintro e w1 ⟨rfl,rfl⟩
  go_wp2
  go_ret
  exact⟨by rw[Hz.out];rfl,HB0.out _⟩
 | true=>
 rw[hnm] at HN
 by_cases g1:(t.names.length:Int) < 1
 ·have Hz:Hid (rightD t=false):=hid (by rw[Hz0.out,decide_eq_false (show ¬ 1≤t.names.length by omega)];simp)
  clear hnm
  go_enter Tryz.func63,Tryz.ntmps63
  go_wp2_with fail
  refine (HN.out _).mono ?_
  rintro e w1 ⟨rfl,rfl⟩
  go_wp2
  go_ret
  exact⟨by rw[Hz.out];rfl,HB0.out _⟩
 by_cases g2:(8:Int) < (t.names.length:Int)
 ·have Hz:Hid (rightD t=false):=hid (by rw[Hz0.out,decide_eq_false (show ¬ t.names.length≤8 by omega)];simp)
  clear hnm
  go_enter Tryz.func63,Tryz.ntmps63
  go_wp2_with fail
  refine (HN.out _).mono ?_
  rintro e w1 ⟨rfl,rfl⟩
  go_wp2
  go_ret
  exact⟨by rw[Hz.out];rfl,HB0.out _⟩
 obtain⟨bt,hbt⟩:∃ b,((t.types.length:Int) != (t.names.length:Int))=b:=⟨_,rfl⟩
 cases bt with
 | true=>
  have Hz:Hid (rightD t=false):=hid (by rw[Hz0.out,decide_eq_false (show ¬ t.types.length=t.names.length by intro e;rw[e] at hbt;simp at hbt)];simp)
  clear hnm
  go_enter Tryz.func63,Tryz.ntmps63
  go_wp2_with fail
  refine (HN.out _).mono ?_
  rintro e w1 ⟨rfl,rfl⟩
  go_wp2
  go_ret
  exact⟨by rw[Hz.out];rfl,HB0.out _⟩
 | false=>
 have hlen:t.types.length=t.names.length:=by have:(t.types.length:Int)=t.names.length:=(by simpa using hbt);omega
 have Hz:Hid (rightD t=(t.names.zip t.types).all colB):=hid (by rw[Hz0.out,hnm,decide_eq_true (show 1≤t.names.length by omega),decide_eq_true (show t.names.length≤8 by omega),decide_eq_true hlen,cols_all _ _ hlen.symm];rfl)
 have Hlen:=hid hlen
 clear hnm Hz0 hlen
 go_enter Tryz.func63,Tryz.ntmps63
 go_wp2_with fail
 refine (HN.out _).mono ?_
 rintro e w1 ⟨rfl,rfl⟩
 go_wp2
 go_loopw [4] (fun i wr=>∃ k:Nat,k≤t.names.length∧i=.int .i64 k∧(t.names.zip t.types).all colB=((t.names.zip t.types).drop k).all colB∧Below (w.heap.size+1) (w.alloc (.cells #[.string t.rel,.slice o0 t.names.length k0,.slice o1 t.types.length k1,.bool t.inn,.bool t.out,.int .i64 t.line] 58)) wr) (fun i _=>t.names.length - (intOf i).toNat)
 case atStart=>exact⟨0,Nat.zero_le _,rfl,rfl,Below.refl _ _⟩
 case round=>
  obtain⟨k,hk,rfl,hr,hB2⟩:=hrel
  have hB:Below w.heap.size w wr:=(HB0.out _).trans (hB2.mono (by omega))
  have Hr:=hid hr
  clear hr
  have hBs:=hB2.size
  simp only[World.size_alloc] at hBs
  have hz0:w.heap.size < wr.heap.size:=by omega
  have x1:wr.cell? ⟨w.heap.size,1,none⟩=some (.slice o0 t.names.length k0):=(hB2.cell (p:=⟨w.heap.size,1,none⟩) (by show w.heap.size < _;omega)).trans (by go_simp)
  have x2:wr.cell? ⟨w.heap.size,2,none⟩=some (.slice o1 t.types.length k1):=(hB2.cell (p:=⟨w.heap.size,2,none⟩) (by show w.heap.size < _;omega)).trans (by go_simp)
  by_cases hlt:k < t.names.length
  ·have hlt':(k:Int) < (t.names.length:Int):=by omega
   have hlt2:k < t.types.length:=by have:=Hlen.out;omega
   have hlt3:(k:Int) < (t.types.length:Int):=by omega
   obtain⟨xe,ht⟩:∃ xe,t.names[k]?=some xe:=⟨t.names[k],List.getElem?_eq_getElem hlt⟩
   obtain⟨ye,hv⟩:∃ ye,t.types[k]?=some ye:=⟨t.types[k],List.getElem?_eq_getElem hlt2⟩
   obtain⟨a,rfl,ha,hza,c0⟩:=str_at SL hB ht
   obtain⟨b,rfl,hb,_,d0⟩:=int_at SL2 hB hv
   have hal:(a.add k).block < wr.heap.size:=by rw[addBlock];omega
   have hbl:(b.add k).block < wr.heap.size:=by rw[addBlock];omega
   have Hst:=hid (Hr.out.trans (all_drop' (f:=colB) (show (t.names.zip t.types)[k]?=some (xe,ye) by simp[List.getElem?_zip_eq_some,ht,hv])))
   have Hcol:Hid (colB (xe,ye)=(nameB xe.data.toList && ((ye == 1) || (ye == 2)))):=hid rfl
   clear ht hv
   have HI:=hid (fun w=>refName_any xe w hza)
   go_wp2_with fail
   refine (HI.out _).mono ?_
   rintro e w1 ⟨rfl,rfl⟩
   obtain⟨bn,hbn⟩:∃ b,nameB xe.data.toList=b:=⟨_,rfl⟩
   rw[hbn] at Hcol ⊢
   clear hbn
   cases bn with
   | false=>
    have Hz2:=hid (Hz.out.trans (Hst.out.trans (by rw[Hcol.out];rfl:_=false)))
    go_wp2
    go_ret
    exact⟨by rw[Hz2.out];rfl,hB⟩
   | true=>
   by_cases y1:ye=1
   ·subst y1
    have Hz2:=hid (Hst.out.trans (by rw[Hcol.out];rfl:_=((t.names.zip t.types).drop (k+1)).all colB))
    go_wp2
    go_roundw
    case rel=>exact⟨k+1,hlt,by go_num,Hz2.out,hB2⟩
    case measure=>simp[intOf];omega
   have y1':(ye != 1)=true:=by simpa using y1
   by_cases y2:ye=2
   ·subst y2
    have Hz2:=hid (Hst.out.trans (by rw[Hcol.out];rfl:_=((t.names.zip t.types).drop (k+1)).all colB))
    go_wp2
    go_roundw
    case rel=>exact⟨k+1,hlt,by go_num,Hz2.out,hB2⟩
    case measure=>simp[intOf];omega
   have y2':(ye != 2)=true:=by simpa using y2
   have Hz2:=hid (Hz.out.trans (Hst.out.trans (by rw[Hcol.out,show (ye == 1)=false by simpa using y1,show (ye == 2)=false by simpa using y2];rfl:_=false)))
   clear y1 y2
   go_wp2
   go_ret
   exact⟨by rw[Hz2.out];rfl,hB⟩
  ·have hlt':¬ (k:Int) < (t.names.length:Int):=by omega
   have Hz2:=hid (Hz.out.trans (Hr.out.trans (by rw[List.drop_of_length_le (by rw[List.length_zip];have:=Hlen.out;omega)];rfl:_=true)))
   go_wp2
   go_ret
   exact⟨by rw[Hz2.out];rfl,hB⟩
set_option maxRecDepth 100000 in
set_option maxHeartbeats 4000000 in
theorem rright_c (t:Pg) (w:World) (cs:List Value) (hc:PgC w w.heap.size t cs) :
  Calls Tryz.prog 33 #[.agg cs.toArray] w fun e w'=>e=.returned (.bool (rightP t))∧Below w.heap.size w w':=by
 obtain⟨o0,k0,o1,k1,rfl,H1,H2⟩:=hc.look
 obtain⟨o2,cap2,e2,hc2,hm2,SL⟩:=SlOf.open H1
 cases e2
 obtain⟨o2,cap2,e2,hc3,hm3,SL2⟩:=SlOf.open H2
 cases e2
 clear hc H1 H2
 have HB0:Hid (∀ (x:Obj),Below w.heap.size w (w.alloc x)):=hid fun x=>(Below.refl _ _).alloc (Nat.le_refl _) _
 have Hz0:Hid (rightP t=(decide (t.decls.length≤60) && decide (t.rules.length≤200) && t.decls.all rightD && t.rules.all rightR)):=hid rfl
 by_cases g1:(60:Int) < (t.decls.length:Int)
 ·have Hz:Hid (rightP t=false):=hid (by rw[Hz0.out,decide_eq_false (show ¬ t.decls.length≤60 by omega)];rfl)
  go_enter Tryz.func33,Tryz.ntmps33
  go_wp2
  go_ret
  exact⟨by rw[Hz.out];rfl,HB0.out _⟩
 by_cases g2:(200:Int) < (t.rules.length:Int)
 ·have Hz:Hid (rightP t=false):=hid (by rw[Hz0.out,decide_eq_false (show ¬ t.rules.length≤200 by omega)];simp)
  go_enter Tryz.func33,Tryz.ntmps33
  go_wp2
  go_ret
  exact⟨by rw[Hz.out];rfl,HB0.out _⟩
 have Hz1:Hid (rightP t=(t.decls.all rightD && t.rules.all rightR)):=hid (by rw[Hz0.out,decide_eq_true (show t.decls.length≤60 by omega),decide_eq_true (show t.rules.length≤200 by omega)];rfl)
 clear Hz0
 go_enter Tryz.func33,Tryz.ntmps33
 go_wp2
 go_loopw [3] (fun i wr=>∃ k:Nat,k≤t.decls.length∧i=.int .i64 k∧t.decls.all rightD=(t.decls.drop k).all rightD∧Below (w.heap.size+1) (w.alloc (.cells #[.slice o0 t.decls.length k0,.slice o1 t.rules.length k1] 25)) wr) (fun i _=>t.decls.length - (intOf i).toNat)
 case atStart=>exact⟨0,Nat.zero_le _,rfl,rfl,Below.refl _ _⟩
 case round=>
  obtain⟨k,hk,rfl,hr,hB2⟩:=hrel
  have hB:Below w.heap.size w wr:=(HB0.out _).trans (hB2.mono (by omega))
  have Hr:=hid hr
  clear hr
  have hBs:=hB2.size
  simp only[World.size_alloc] at hBs
  have hz0:w.heap.size < wr.heap.size:=by omega
  have x1:wr.cell? ⟨w.heap.size,0,none⟩=some (.slice o0 t.decls.length k0):=(hB2.cell (p:=⟨w.heap.size,0,none⟩) (by show w.heap.size < _;omega)).trans (by go_simp)
  by_cases hlt:k < t.decls.length
  ·have hlt':(k:Int) < (t.decls.length:Int):=by omega
   obtain⟨xe,ht⟩:∃ xe,t.decls[k]?=some xe:=⟨t.decls[k],List.getElem?_eq_getElem hlt⟩
   obtain⟨a,p3,q3,p4,q4,rfl,ha,Hc,c0,c1,c2,c3,c4,c5⟩:=de_at SL hB ht
   have hal:(a.add (k * 6)).block < wr.heap.size:=by rw[addBlock];omega
   have Hst:=hid (Hr.out.trans (all_drop' (f:=rightD) ht))
   clear ht
   have HI:=hid (fun (W:World) (hb:Below wr.heap.size wr W)=>rrightDecl_c xe W _ ((Hc.out.below hb).more hb.size))
   go_wp2_with fail
   refine (HI.out _ (Below.refl _ _)).mono ?_
   rintro e w1 ⟨rfl,b1⟩
   have hB3:=hB2.trans (b1.mono (by omega))
   cases hs:rightD xe with
   | false=>
    have Hz2:Hid (rightP t=false):=hid (by rw[Hz1.out,Hst.out,hs];rfl)
    clear hs
    go_wp2
    go_ret
    exact⟨by rw[Hz2.out];rfl,(HB0.out _).trans (hB3.mono (by omega))⟩
   | true=>
    have Hz2:=hid (Hst.out.trans (by rw[hs,Bool.true_and]))
    clear hs
    go_wp2
    go_roundw
    case rel=>exact⟨k+1,hlt,by go_num,Hz2.out,hB3⟩
    case measure=>simp[intOf];omega
  ·have hlt':¬ (k:Int) < (t.decls.length:Int):=by omega
   have Hall:Hid (t.decls.all rightD=true):=hid (by rw[Hr.out,List.drop_of_length_le (by omega)];rfl)
   have Hz:Hid (rightP t=t.rules.all rightR):=hid (by rw[Hz1.out,Hall.out];rfl)
   clear Hr Hz1 Hall
   go_wp2
   go_loopw [5] (fun i wr=>∃ k:Nat,k≤t.rules.length∧i=.int .i64 k∧t.rules.all rightR=(t.rules.drop k).all rightR∧Below (w.heap.size+1) (w.alloc (.cells #[.slice o0 t.decls.length k0,.slice o1 t.rules.length k1] 25)) wr) (fun i _=>t.rules.length - (intOf i).toNat)
   case atStart=>exact⟨0,Nat.zero_le _,rfl,rfl,hB2⟩
   case round=>
    obtain⟨k,hk,rfl,hr,hB2⟩:=hrel
    have hB:Below w.heap.size w wr:=(HB0.out _).trans (hB2.mono (by omega))
    have Hr:=hid hr
    clear hr
    have hBs:=hB2.size
    simp only[World.size_alloc] at hBs
    have hz0:w.heap.size < wr.heap.size:=by omega
    have x2:wr.cell? ⟨w.heap.size,1,none⟩=some (.slice o1 t.rules.length k1):=(hB2.cell (p:=⟨w.heap.size,1,none⟩) (by show w.heap.size < _;omega)).trans (by go_simp)
    by_cases hlt:k < t.rules.length
    ·have hlt':(k:Int) < (t.rules.length:Int):=by omega
     obtain⟨xe,ht⟩:∃ xe,t.rules[k]?=some xe:=⟨t.rules[k],List.getElem?_eq_getElem hlt⟩
     obtain⟨b,p3,q3,p4,q4,rfl,ha,Hc,c0,c1,c2,c3⟩:=ru_at SL2 hB ht
     have hal:(b.add (k * 4)).block < wr.heap.size:=by rw[addBlock];omega
     have Hst:=hid (Hr.out.trans (all_drop' (f:=rightR) ht))
     clear ht
     have HI:=hid (fun (W:World) (hb:Below wr.heap.size wr W)=>rrightRule_c xe W _ ((Hc.out.below hb).more hb.size))
     go_wp2_with fail
     refine (HI.out _ (Below.refl _ _)).mono ?_
     rintro e w1 ⟨rfl,b1⟩
     have hB3:=hB2.trans (b1.mono (by omega))
     cases hs:rightR xe with
     | false=>
      have Hz2:=hid (Hz.out.trans (Hst.out.trans (by rw[hs,Bool.false_and])))
      clear hs
      go_wp2
      go_ret
      exact⟨by rw[Hz2.out];rfl,(HB0.out _).trans (hB3.mono (by omega))⟩
     | true=>
      have Hz2:=hid (Hst.out.trans (by rw[hs,Bool.true_and]))
      clear hs
      go_wp2
      go_roundw
      case rel=>exact⟨k+1,hlt,by go_num,Hz2.out,hB3⟩
      case measure=>simp[intOf];omega
    ·have hlt':¬ (k:Int) < (t.rules.length:Int):=by omega
     have Hz2:=hid (Hz.out.trans (Hr.out.trans (by rw[List.drop_of_length_le (by omega)];rfl:_=true)))
     go_wp2
     go_ret
     exact⟨by rw[Hz2.out];rfl,hB⟩
end Go.Proofs.YtfmldnbcjbflbaaGreatDoor
