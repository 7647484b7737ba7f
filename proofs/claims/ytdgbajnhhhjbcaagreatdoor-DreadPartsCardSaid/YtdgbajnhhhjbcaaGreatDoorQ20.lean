/- Twlits@012, Twrule@012, Twdecl@012 -/
import Derived.Test.YtdgbajnhhhjbcaaGreatDoorQ19
set_option linter.unusedSimpArgs false
namespace Go.Proofs.YtdgbajnhhhjbcaaGreatDoor
open Lib(hid)
open Go.RowKit
theorem lt_atB {w wr:World} {B:Nat} {l:List Lt} {o:Option Addr} {k:Nat} {t:Lt} (S:Hid (SlIn w B 11 (LtC w B) l o)) (hB:Below B w wr) (ht:l[k]?=some t) :
  ∃ a o0 k0 o1 k1 o2 k2,o=some a∧a.block < B∧Hid (LtC wr B t [.int .i64 t.op,.string t.a.rel,.slice o0 t.a.l.length k0,.int .i64 t.x.op,.string t.x.s,.int .i64 t.x.n,.slice o1 t.x.l.length k1,.int .i64 t.y.op,.string t.y.s,.int .i64 t.y.n,.slice o2 t.y.l.length k2]) ∧
   wr.cell? (a.add (k * 11))=some (.int .i64 t.op)∧wr.cell? ⟨(a.add (k * 11)).block,(a.add (k * 11)).off+1,none⟩=some (.string t.a.rel)∧wr.cell? ⟨(a.add (k * 11)).block,(a.add (k * 11)).off+2,none⟩=some (.slice o0 t.a.l.length k0)∧wr.cell? ⟨(a.add (k * 11)).block,(a.add (k * 11)).off+3,none⟩=some (.int .i64 t.x.op)∧wr.cell? ⟨(a.add (k * 11)).block,(a.add (k * 11)).off+4,none⟩=some (.string t.x.s)∧wr.cell? ⟨(a.add (k * 11)).block,(a.add (k * 11)).off+5,none⟩=some (.int .i64 t.x.n)∧wr.cell? ⟨(a.add (k * 11)).block,(a.add (k * 11)).off+6,none⟩=some (.slice o1 t.x.l.length k1)∧wr.cell? ⟨(a.add (k * 11)).block,(a.add (k * 11)).off+7,none⟩=some (.int .i64 t.y.op)∧wr.cell? ⟨(a.add (k * 11)).block,(a.add (k * 11)).off+8,none⟩=some (.string t.y.s)∧wr.cell? ⟨(a.add (k * 11)).block,(a.add (k * 11)).off+9,none⟩=some (.int .i64 t.y.n)∧wr.cell? ⟨(a.add (k * 11)).block,(a.add (k * 11)).off+10,none⟩=some (.slice o2 t.y.l.length k2):=by
 obtain⟨a,cs,rfl,ha,_,h1,h2⟩:=S.out k t ht
 obtain⟨o0,k0,o1,k1,o2,k2,rfl,_⟩:=h1.look
 exact⟨a,o0,k0,o1,k1,o2,k2,rfl,ha,hid (h1.below hB),(h2.below ha hB).n11⟩
theorem ru_atB {w wr:World} {B:Nat} {l:List Ru} {o:Option Addr} {k:Nat} {t:Ru} (S:Hid (SlIn w B 4 (RuC w B) l o)) (hB:Below B w wr) (ht:l[k]?=some t) :
  ∃ a o0 k0 o1 k1,o=some a∧a.block < B∧Hid (RuC wr B t [.string t.head.rel,.slice o0 t.head.l.length k0,.slice o1 t.body.length k1,.int .i64 t.line]) ∧
   wr.cell? (a.add (k * 4))=some (.string t.head.rel)∧wr.cell? ⟨(a.add (k * 4)).block,(a.add (k * 4)).off+1,none⟩=some (.slice o0 t.head.l.length k0)∧wr.cell? ⟨(a.add (k * 4)).block,(a.add (k * 4)).off+2,none⟩=some (.slice o1 t.body.length k1)∧wr.cell? ⟨(a.add (k * 4)).block,(a.add (k * 4)).off+3,none⟩=some (.int .i64 t.line):=by
 obtain⟨a,cs,rfl,ha,_,h1,h2⟩:=S.out k t ht
 obtain⟨o0,k0,o1,k1,rfl,_⟩:=h1.look
 exact⟨a,o0,k0,o1,k1,rfl,ha,hid (h1.below hB),(h2.below ha hB).four⟩
theorem de_atB {w wr:World} {B:Nat} {l:List De} {o:Option Addr} {k:Nat} {t:De} (S:Hid (SlIn w B 6 (DeC w B) l o)) (hB:Below B w wr) (ht:l[k]?=some t) :
  ∃ a o0 k0 o1 k1,o=some a∧a.block < B∧Hid (DeC wr B t [.string t.rel,.slice o0 t.names.length k0,.slice o1 t.types.length k1,.bool t.inn,.bool t.out,.int .i64 t.line]) ∧
   wr.cell? (a.add (k * 6))=some (.string t.rel)∧wr.cell? ⟨(a.add (k * 6)).block,(a.add (k * 6)).off+1,none⟩=some (.slice o0 t.names.length k0)∧wr.cell? ⟨(a.add (k * 6)).block,(a.add (k * 6)).off+2,none⟩=some (.slice o1 t.types.length k1)∧wr.cell? ⟨(a.add (k * 6)).block,(a.add (k * 6)).off+3,none⟩=some (.bool t.inn)∧wr.cell? ⟨(a.add (k * 6)).block,(a.add (k * 6)).off+4,none⟩=some (.bool t.out)∧wr.cell? ⟨(a.add (k * 6)).block,(a.add (k * 6)).off+5,none⟩=some (.int .i64 t.line):=by
 obtain⟨a,cs,rfl,ha,_,h1,h2⟩:=S.out k t ht
 obtain⟨o0,k0,o1,k1,rfl,_⟩:=h1.look
 exact⟨a,o0,k0,o1,k1,rfl,ha,hid (h1.below hB),(h2.below ha hB).n6⟩
set_option maxRecDepth 100000 in
set_option maxHeartbeats 4000000 in
theorem writeLits_c (L:List Lt) (B b:Nat) (l:List UInt8) (w:World) (v:Value) (a:Addr) (hr:L.all rightL=true) (hb:Bd B b l w) (hc:SlOf w B 11 (LtC w B) L v) (E:TEnv a w) (hV:14≤B) (hB:B≤w.heap.size) (hl:l.length+(joinL [44,32] (L.map showL)).length≤1073741824) :
  Calls Tryz.prog 74 #[.pointer (some ⟨b,0,none⟩),v,.func (.func 75) #[] #[]] w (Wrote B b l (joinL [44,32] (L.map showL)) w):=by
 obtain⟨o1,cap1,rfl,hc1,hm1,S1⟩:=SlOf.open hc
 have HE:=hid E
 have Hb:=hid hb
 have Hr:=hid hr
 have Hl:=hid hl
 clear E hc hb hr hl
 go_enter Tryz.func74,Tryz.ntmps74
 go_wp2
 go_loopw [10] (fun i wr=>∃ k:Nat,k≤L.length∧i=.int .i64 k∧Bd B b (l++joinL [44,32] ((L.take k).map showL)) wr∧Kp B b w wr) (fun i _=>L.length - (intOf i).toNat)
 case atStart=>exact⟨0,Nat.zero_le _,rfl,by simpa[joinL] using Hb.out,Kp.refl _ _ _⟩
 case round=>
  obtain⟨k,hk,rfl,hbk,hK⟩:=hrel
  have hsz:=hK.below.size
  by_cases hlt:k < L.length
  ·have hlt':(k:Int) < (L.length:Int):=by omega
   obtain⟨xe,ht⟩:∃ xe,L[k]?=some xe:=⟨L[k],List.getElem?_eq_getElem hlt⟩
   obtain⟨a1,o0,k0,o1,k1,o2,k2,rfl,ha,Hc,c0,c1,c2,c3,c4,c5,c6,c7,c8,c9,c10⟩:=lt_atB S1 hK.below ht
   have hal:(a1.add (k * 11)).block < wr.heap.size:=by rw[addBlock];omega
   have hj:=joinL_take (sep:=[44,32]) showL ht
   have hup:=joinL_upto (sep:=[44,32]) showL L (k+1)
   have hrt:rightL xe=true:=List.all_eq_true.1 Hr.out xe (List.mem_of_getElem? ht)
   have Hj:=hid hj
   obtain⟨oc,hoc⟩:∃ o:Obj,o=.cells #[.int .i64 xe.op,.string xe.a.rel,.slice o0 xe.a.l.length k0,.int .i64 xe.x.op,.string xe.x.s,.int .i64 xe.x.n,.slice o1 xe.x.l.length k1,.int .i64 xe.y.op,.string xe.y.s,.int .i64 xe.y.n,.slice o2 xe.y.l.length k2] 66:=⟨_,rfl⟩
   have b0:=hbk.alloc oc
   have k0':Kp B b wr (wr.alloc oc):=Kp.alloc (by omega) _
   have R0:Row wr.heap.size 66 [.int .i64 xe.op,.string xe.a.rel,.slice o0 xe.a.l.length k0,.int .i64 xe.x.op,.string xe.x.s,.int .i64 xe.x.n,.slice o1 xe.x.l.length k1,.int .i64 xe.y.op,.string xe.y.s,.int .i64 xe.y.n,.slice o2 xe.y.l.length k2] (wr.alloc oc):=by rw[hoc];exact Row.new wr _ _
   have hbl:=bdLt hbk
   have HW:Hid (∀ (W:World) (l:List UInt8),Bd B b l W→Kp B b (wr.alloc oc) W→l.length+(showL xe).length≤1073741824→_):=hid fun W l hb k hl=>writeLit_c xe B b l W _ a hrt hb (Hc.out.below (k0'.below.trans k.below)) (HE.out.belowB hV ((hK.below.trans k0'.below).trans k.below)) hV (by have:=k.below.size;simp at this;omega) hl
   have HR:Hid (∀ W,Kp B b (wr.alloc oc) W→W.cell? ⟨wr.heap.size,0,none⟩=some (.int .i64 xe.op)∧W.cell? ⟨wr.heap.size,1,none⟩=some (.string xe.a.rel)∧W.cell? ⟨wr.heap.size,2,none⟩=some (.slice o0 xe.a.l.length k0)∧W.cell? ⟨wr.heap.size,3,none⟩=some (.int .i64 xe.x.op)∧W.cell? ⟨wr.heap.size,4,none⟩=some (.string xe.x.s)∧W.cell? ⟨wr.heap.size,5,none⟩=some (.int .i64 xe.x.n)∧W.cell? ⟨wr.heap.size,6,none⟩=some (.slice o1 xe.x.l.length k1)∧W.cell? ⟨wr.heap.size,7,none⟩=some (.int .i64 xe.y.op)∧W.cell? ⟨wr.heap.size,8,none⟩=some (.string xe.y.s)∧W.cell? ⟨wr.heap.size,9,none⟩=some (.int .i64 xe.y.n)∧W.cell? ⟨wr.heap.size,10,none⟩=some (.slice o2 xe.y.l.length k2)∧wr.heap.size < W.heap.size):=hid fun W K=>by
    have R:=R0.kp K (by omega) (by decide)
    have:=K.below.size
    simp only[World.size_alloc] at this
    exact⟨R.at 0 _ rfl,R.at 1 _ rfl,R.at 2 _ rfl,R.at 3 _ rfl,R.at 4 _ rfl,R.at 5 _ rfl,R.at 6 _ rfl,R.at 7 _ rfl,R.at 8 _ rfl,R.at 9 _ rfl,R.at 10 _ rfl,by omega⟩
   have HK0:=hid (hK.trans k0')
   have hL:=Hl.out
   have hlen:(joinL [44,32] ((L.take (k+1)).map showL)).length≤(joinL [44,32] (L.map showL)).length:=hup
   rw[hj] at hlen
   clear R0 k0' hK ht Hc hbk hj hup hrt
   subst hoc
   by_cases h0:k=0
   ·subst h0
    have e0:l++joinL [44,32] ((L.take 0).map showL)=l:=by simp[joinL]
    rw[e0] at b0
    clear e0
    rw[if_pos rfl] at hlen
    simp only[List.nil_append] at hlen
    have hl2:l.length+(showL xe).length≤1073741824:=by omega
    have ea:a1.add 0=a1:=by unfold Addr.add;simp
    simp only[Nat.zero_mul,ea] at c0 c1 c2 c3 c4 c5 c6 c7 c8 c9 c10 hal
    clear hL hlen
    go_wp2_with fail
    refine (HW.out _ _ b0 (Kp.refl _ _ _) hl2).mono ?_
    rintro e w2 ⟨rfl,b2,k2⟩
    have Hb2:Hid (Bd B b (l++joinL [44,32] ((L.take (0+1)).map showL)) w2):=hid (by rw[Hj.out];exact b2)
    have Hk2:=hid (HK0.out.trans k2)
    clear b2 k2 b0 c0 c1 c2 c3 c4 c5 c6 c7 c8 c9 c10 hal ea
    go_wp2
    go_roundw
    case rel=>exact⟨0+1,hlt,by go_num,Hb2.out,Hk2.out⟩
    case measure=>simp[intOf];omega
   ·have h0':(0:Int) < (k:Int):=by omega
    rw[if_neg h0] at hlen
    simp only[List.length_append,List.length_cons,List.length_nil] at hlen
    have hl2:(l++joinL [44,32] ((L.take k).map showL)++[44,32]).length+(showL xe).length≤1073741824:=by simp only[List.length_append,List.length_cons,List.length_nil];omega
    have hl3:(l++joinL [44,32] ((L.take k).map showL)).length+(⟨#[44,32]⟩:ByteArray).size≤140737488355328:=by simp only[List.length_append,show (⟨#[44,32]⟩:ByteArray).size=2 from rfl];omega
    have hf:=Hj.out
    rw[if_neg h0] at hf
    have Hf:=hid hf
    clear hL hlen Hj hf
    go_wp2_with fail
    refine (writeString_c B b _ ⟨#[44,32]⟩ _ b0 hl3 (by simp;omega)).mono ?_
    rintro e w1 ⟨rfl,b1,k1⟩
    obtain⟨x0,x1,x2,x3,x4,x5,x6,x7,x8,x9,x10,hz0⟩:=HR.out _ k1
    have Hb1:=hid (show Bd B b (l++joinL [44,32] ((L.take k).map showL)++[44,32]) w1 from b1)
    have Hk1:=hid k1
    clear b1 k1 c0 c1 c2 c3 c4 c5 c6 c7 c8 c9 c10 b0 hal hl3
    go_wp2_with fail
    refine (HW.out _ _ Hb1.out Hk1.out hl2).mono ?_
    rintro e w2 ⟨rfl,b2,k2⟩
    have Hb2:Hid (Bd B b (l++joinL [44,32] ((L.take (k+1)).map showL)) w2):=hid (by rw[Hf.out];simpa using b2)
    have Hk2:=hid (HK0.out.trans (Hk1.out.trans k2))
    clear b2 k2 x0 x1 x2 x3 x4 x5 x6 x7 x8 x9 x10 hz0
    go_wp2
    go_roundw
    case rel=>exact⟨k+1,hlt,by go_num,Hb2.out,Hk2.out⟩
    case measure=>simp[intOf];omega
  ·have hlt':¬ (k:Int) < (L.length:Int):=by omega
   have hkl:L.take k=L:=List.take_of_length_le (by omega)
   rw[hkl] at hbk
   have Hbk:=hid hbk
   have HKk:=hid hK
   clear hbk hK
   go_wp2
   go_end0
   exact⟨rfl,Hbk.out,HKk.out⟩
set_option maxRecDepth 100000 in
set_option maxHeartbeats 4000000 in
theorem wrule_full (hd:Am) (body:List Lt) (line:Int) (o0 o1:Option Addr) (k0 k1:Nat) (B b:Nat) (l:List UInt8) (w:World) (a:Addr) (ha:rightA hd=true) (ca:AmC w B hd [.string hd.rel,.slice o0 hd.l.length k0]) (hne:0 < body.length) (hr:body.all rightL=true) (cb:SlOf w B 11 (LtC w B) body (.slice o1 body.length k1)) (hb:Bd B b l w) (E:TEnv a w) (hV:14≤B) (hB:B≤w.heap.size) (hl:l.length+(showA hd++[32,58,45,32]++joinL [44,32] (body.map showL)++[46]).length≤1073741824) :
  Calls Tryz.prog 41 #[.pointer (some ⟨b,0,none⟩),.agg #[.string hd.rel,.slice o0 hd.l.length k0,.slice o1 body.length k1,.int .i64 line]] w (Wrote B b l (showA hd++[32,58,45,32]++joinL [44,32] (body.map showL)++[46]) w):=by
 have hbl:=bdLt hb
 obtain⟨oc,hoc⟩:∃ o:Obj,o=.cells #[.string hd.rel,.slice o0 hd.l.length k0,.slice o1 body.length k1,.int .i64 line] 41:=⟨_,rfl⟩
 have R0:Row w.heap.size 41 [.string hd.rel,.slice o0 hd.l.length k0,.slice o1 body.length k1,.int .i64 line] (w.alloc oc):=by rw[hoc];exact Row.new w _ _
 have b0:=hb.alloc oc
 have k0':Kp B b w (w.alloc oc):=Kp.alloc hB _
 have E0:=E.belowB hV k0'.below
 have hB0:B≤(w.alloc oc).heap.size:=k0'.size hB
 have HR:Hid (∀ W,Kp B b (w.alloc oc) W→W.cell? ⟨w.heap.size,0,none⟩=some (.string hd.rel)∧W.cell? ⟨w.heap.size,1,none⟩=some (.slice o0 hd.l.length k0)∧W.cell? ⟨w.heap.size,2,none⟩=some (.slice o1 body.length k1)∧w.heap.size < W.heap.size):=hid fun W K=>by
  have R:=R0.kp K (by omega) (by decide)
  have:=K.below.size
  simp only[World.size_alloc] at this
  exact⟨R.at 0 _ rfl,R.at 1 _ rfl,R.at 2 _ rfl,by omega⟩
 have HA:=hid (w_atom (b:=b) ha (ca.below k0'.below) E0 hV hB0)
 have HL:Hid (∀ (W:World) (l:List UInt8),Bd B b l W→Kp B b (w.alloc oc) W→l.length+(joinL [44,32] (body.map showL)).length≤1073741824→_):=hid fun W l hb k hl=>writeLits_c body B b l W _ a hr hb (cb.below (k0'.below.trans k.below) fun _ _ _ h=>h.below (k0'.below.trans k.below)) (E0.belowB hV k.below) hV (k.size hB0) hl
 have hne':(0:Int) < (body.length:Int):=by omega
 have HK0:=hid k0'
 have Hl:=hid hl
 have Hb0:=hid b0
 clear R0 k0' hb E E0 hB0 hl b0 ha ca hne hr cb
 subst hoc
 go_enter Tryz.func41,Tryz.ntmps41
 have Hk0:=hid (Kp.refl B b (w.alloc (.cells #[.string hd.rel,.slice o0 hd.l.length k0,.slice o1 body.length k1,.int .i64 line] 41)))
 obtain⟨x0,x1,x2,hz0⟩:=HR.out _ Hk0.out
 go_wp2_with fail
 refine (HA.out _ _ Hb0.out Hk0.out (by have:=Hl.out;first | omega | (simp only[List.length_append,List.length_cons,List.length_nil] at this ⊢;omega))).mono ?_
 clear x0 x1 x2 hz0
 rintro e w1 ⟨rfl,b1,kk⟩
 have Hb1:Hid (Bd B b (l++showA hd) w1):=hid b1
 have Hk1:=hid (Hk0.out.trans kk)
 clear b1 kk Hb0
 obtain⟨x0,x1,x2,hz0⟩:=HR.out _ Hk1.out
 go_wp2_with fail
 have es:(⟨#[32,58,45,32]⟩:ByteArray).size=4:=rfl
 refine (writeString_c B b _ _ _ Hb1.out (by rw[es];have:=Hl.out;simp only[List.length_append,List.length_cons,List.length_nil] at this ⊢;omega) (Hk1.out.size (by simp;omega))).mono ?_
 clear es
 clear x0 x1 x2 hz0
 rintro e w2 ⟨rfl,b2,kk⟩
 have Hb2:Hid (Bd B b (l++showA hd++[32,58,45,32]) w2):=hid b2
 have Hk2:=hid (Hk1.out.trans kk)
 clear b2 kk Hb1
 obtain⟨x0,x1,x2,hz0⟩:=HR.out _ Hk2.out
 go_wp2_with fail
 refine (HL.out _ _ Hb2.out Hk2.out (by have:=Hl.out;first | omega | (simp only[List.length_append,List.length_cons,List.length_nil] at this ⊢;omega))).mono ?_
 clear x0 x1 x2 hz0
 rintro e w3 ⟨rfl,b3,kk⟩
 have Hb3:Hid (Bd B b (l++showA hd++[32,58,45,32]++joinL [44,32] (body.map showL)) w3):=hid b3
 have Hk3:=hid (Hk2.out.trans kk)
 clear b3 kk Hb2
 obtain⟨x0,x1,x2,hz0⟩:=HR.out _ Hk3.out
 go_wp2_with fail
 refine (writeByte_c B b _ 46 46 rfl _ Hb3.out (by have:=Hl.out;first | omega | (simp only[List.length_append,List.length_cons,List.length_nil] at this ⊢;omega)) (Hk3.out.size (by simp;omega))).mono ?_
 clear x0 x1 x2 hz0
 rintro e w4 ⟨rfl,b4,kk⟩
 have Hb4:Hid (Bd B b (l++showA hd++[32,58,45,32]++joinL [44,32] (body.map showL)++[46]) w4):=hid b4
 have Hk4:=hid (Hk3.out.trans kk)
 clear b4 kk Hb3
 have Hkz:=hid (HK0.out.trans Hk4.out)
 go_wp2
 go_end0
 exact⟨rfl,by simpa using Hb4.out,Hkz.out⟩
set_option maxRecDepth 100000 in
set_option maxHeartbeats 4000000 in
theorem wrule_fact (hd:Am) (body:List Lt) (line:Int) (o0 o1:Option Addr) (k0 k1:Nat) (B b:Nat) (l:List UInt8) (w:World) (a:Addr) (ha:rightA hd=true) (ca:AmC w B hd [.string hd.rel,.slice o0 hd.l.length k0]) (hne:body.length=0) (hb:Bd B b l w) (E:TEnv a w) (hV:14≤B) (hB:B≤w.heap.size) (hl:l.length+(showA hd++[46]).length≤1073741824) :
  Calls Tryz.prog 41 #[.pointer (some ⟨b,0,none⟩),.agg #[.string hd.rel,.slice o0 hd.l.length k0,.slice o1 body.length k1,.int .i64 line]] w (Wrote B b l (showA hd++[46]) w):=by
 have hbl:=bdLt hb
 obtain⟨oc,hoc⟩:∃ o:Obj,o=.cells #[.string hd.rel,.slice o0 hd.l.length k0,.slice o1 body.length k1,.int .i64 line] 41:=⟨_,rfl⟩
 have R0:Row w.heap.size 41 [.string hd.rel,.slice o0 hd.l.length k0,.slice o1 body.length k1,.int .i64 line] (w.alloc oc):=by rw[hoc];exact Row.new w _ _
 have b0:=hb.alloc oc
 have k0':Kp B b w (w.alloc oc):=Kp.alloc hB _
 have E0:=E.belowB hV k0'.below
 have hB0:B≤(w.alloc oc).heap.size:=k0'.size hB
 have HR:Hid (∀ W,Kp B b (w.alloc oc) W→W.cell? ⟨w.heap.size,0,none⟩=some (.string hd.rel)∧W.cell? ⟨w.heap.size,1,none⟩=some (.slice o0 hd.l.length k0)∧W.cell? ⟨w.heap.size,2,none⟩=some (.slice o1 body.length k1)∧w.heap.size < W.heap.size):=hid fun W K=>by
  have R:=R0.kp K (by omega) (by decide)
  have:=K.below.size
  simp only[World.size_alloc] at this
  exact⟨R.at 0 _ rfl,R.at 1 _ rfl,R.at 2 _ rfl,by omega⟩
 have HA:=hid (w_atom (b:=b) ha (ca.below k0'.below) E0 hV hB0)
 have hne':¬ (0:Int) < (body.length:Int):=by omega
 have HK0:=hid k0'
 have Hl:=hid hl
 have Hb0:=hid b0
 clear R0 k0' hb E E0 hB0 hl b0 ha ca hne
 subst hoc
 go_enter Tryz.func41,Tryz.ntmps41
 have Hk0:=hid (Kp.refl B b (w.alloc (.cells #[.string hd.rel,.slice o0 hd.l.length k0,.slice o1 body.length k1,.int .i64 line] 41)))
 obtain⟨x0,x1,x2,hz0⟩:=HR.out _ Hk0.out
 go_wp2_with fail
 refine (HA.out _ _ Hb0.out Hk0.out (by have:=Hl.out;first | omega | (simp only[List.length_append,List.length_cons,List.length_nil] at this ⊢;omega))).mono ?_
 clear x0 x1 x2 hz0
 rintro e w1 ⟨rfl,b1,kk⟩
 have Hb1:Hid (Bd B b (l++showA hd) w1):=hid b1
 have Hk1:=hid (Hk0.out.trans kk)
 clear b1 kk Hb0
 obtain⟨x0,x1,x2,hz0⟩:=HR.out _ Hk1.out
 go_wp2_with fail
 refine (writeByte_c B b _ 46 46 rfl _ Hb1.out (by have:=Hl.out;first | omega | (simp only[List.length_append,List.length_cons,List.length_nil] at this ⊢;omega)) (Hk1.out.size (by simp;omega))).mono ?_
 clear x0 x1 x2 hz0
 rintro e w2 ⟨rfl,b2,kk⟩
 have Hb2:Hid (Bd B b (l++showA hd++[46]) w2):=hid b2
 have Hk2:=hid (Hk1.out.trans kk)
 clear b2 kk Hb1
 have Hkz:=hid (HK0.out.trans Hk2.out)
 go_wp2
 go_end0
 exact⟨rfl,by simpa using Hb2.out,Hkz.out⟩
theorem writeRule_c (t:Ru) (B b:Nat) (l:List UInt8) (w:World) (cs:List Value) (a:Addr) (hr:rightR t=true) (hb:Bd B b l w) (hc:RuC w B t cs) (E:TEnv a w) (hV:14≤B) (hB:B≤w.heap.size) (hl:l.length+(showR t).length≤1073741824) :
  Calls Tryz.prog 41 #[.pointer (some ⟨b,0,none⟩),.agg cs.toArray] w (Wrote B b l (showR t) w):=by
 obtain⟨o0,k0,o1,k1,rfl,_,HA,HL⟩:=hc.look
 obtain⟨hd,body,line⟩:=t
 unfold rightR at hr
 simp only[Bool.and_eq_true] at hr HA HL ⊢
 cases body with
 | nil=>
  have e1:showR ⟨hd,[],line⟩=showA hd++[46]:=by simp[showR]
  rw[e1] at hl ⊢
  exact wrule_fact hd [] line o0 o1 k0 k1 B b l w a hr.1.1.1 HA rfl hb E hV hB hl
 | cons x xs=>
  have e1:showR ⟨hd,x::xs,line⟩=showA hd++[32,58,45,32]++joinL [44,32] ((x::xs).map showL)++[46]:=by simp[showR]
  rw[e1] at hl ⊢
  exact wrule_full hd (x::xs) line o0 o1 k0 k1 B b l w a hr.1.1.1 HA (by simp) hr.2 HL hb E hV hB hl
theorem str_atB {w wr:World} {B:Nat} {l:List ByteArray} {o:Option Addr} {k:Nat} {t:ByteArray} (S:Hid (SlIn w B 1 StrC l o)) (hB:Below B w wr) (ht:l[k]?=some t) :
  ∃ a,o=some a∧a.block < B∧wr.cell? (a.add k)=some (.string t):=by
 obtain⟨a,cs,rfl,ha,_,⟨rfl,hz⟩,h2⟩:=S.out k t ht
 have:=(h2.below ha hB).n1
 rw[Nat.mul_one] at this
 exact⟨a,rfl,ha,this⟩
theorem int_atB {w wr:World} {B:Nat} {l:List Int} {o:Option Addr} {k:Nat} {t:Int} (S:Hid (SlIn w B 1 IntC l o)) (hB:Below B w wr) (ht:l[k]?=some t) :
  ∃ a,o=some a∧a.block < B∧wr.cell? (a.add k)=some (.int .i64 t):=by
 obtain⟨a,cs,rfl,ha,_,⟨rfl,hz⟩,h2⟩:=S.out k t ht
 have:=(h2.below ha hB).n1
 rw[Nat.mul_one] at this
 exact⟨a,rfl,ha,this⟩
def inL (rel:ByteArray) (b:Bool):List UInt8:=if b=true then [46,105,110,112,117,116,32]++rel.data.toList++[10] else []
def outL (rel:ByteArray) (b:Bool):List UInt8:=if b=true then [46,111,117,116,112,117,116,32]++rel.data.toList++[10] else []
def headL (rel:ByteArray):List UInt8:=[46,100,101,99,108,32]++rel.data.toList++[40]
def colsL (n:List ByteArray) (t:List Int):List UInt8:=joinL [44,32] ((n.zip t).map colL)
theorem showD_parts (rel:ByteArray) (names:List ByteArray) (types:List Int) (inn out:Bool) (line:Int):showD ⟨rel,names,types,inn,out,line⟩=headL rel++colsL names types++[41,10]++inL rel inn++outL rel out:=by
 unfold showD headL colsL inL outL;simp
theorem colL_len (xn:ByteArray) (tn:Int):(colL (xn,tn)).length=xn.size+2+(typeL tn).length:=by
 have h:xn.data.toList.length=xn.size:=by simp
 unfold colL
 simp only[List.length_append,List.length_cons,List.length_nil]
 omega
theorem zip_at {names:List ByteArray} {types:List Int} {k:Nat} {s:ByteArray} {n:Int} (h:names[k]?=some s) (h':types[k]?=some n):(names.zip types)[k]?=some (s,n):=by
 rw[List.getElem?_zip_eq_some];exact⟨h,h'⟩
set_option maxRecDepth 100000 in
set_option maxHeartbeats 8000000 in
theorem wdecl (rel:ByteArray) (names:List ByteArray) (types:List Int) (inn out:Bool) (line:Int) (o0 o1:Option Addr) (k0 k1:Nat) (B b:Nat) (l:List UInt8) (w:World) (a:Addr) (hn8:names.length≤8) (hty:types.length=names.length) (hr:types.all rightTy=true) (cn:SlOf w B 1 StrC names (.slice o0 names.length k0)) (ct:SlOf w B 1 IntC types (.slice o1 types.length k1)) (hb:Bd B b l w) (E:TEnv a w) (hV:14≤B) (hB:B≤w.heap.size) (hl:l.length+(headL rel++colsL names types++[41,10]++inL rel inn++outL rel out).length≤1073741824) :
  Calls Tryz.prog 40 #[.pointer (some ⟨b,0,none⟩),.agg #[.string rel,.slice o0 names.length k0,.slice o1 types.length k1,.bool inn,.bool out,.int .i64 line]] w (Wrote B b l (headL rel++colsL names types++[41,10]++inL rel inn++outL rel out) w):=by
 have hbl:=bdLt hb
 obtain⟨o0',cap0,e0,hc0,hm0,S1⟩:=SlOf.open cn
 cases e0
 obtain⟨o1',cap1,e1,hc1,hm1,S2⟩:=SlOf.open ct
 cases e1
 obtain⟨oc,hoc⟩:∃ o:Obj,o=.cells #[.string rel,.slice o0 names.length k0,.slice o1 types.length k1,.bool inn,.bool out,.int .i64 line] 34:=⟨_,rfl⟩
 have R0:Row w.heap.size 34 [.string rel,.slice o0 names.length k0,.slice o1 types.length k1,.bool inn,.bool out,.int .i64 line] (w.alloc oc):=by rw[hoc];exact Row.new w _ _
 have b0:=hb.alloc oc
 have k0':Kp B b w (w.alloc oc):=Kp.alloc hB _
 have HR:Hid (∀ W,Kp B b (w.alloc oc) W→W.cell? ⟨w.heap.size,0,none⟩=some (.string rel)∧W.cell? ⟨w.heap.size,1,none⟩=some (.slice o0 names.length k0)∧W.cell? ⟨w.heap.size,2,none⟩=some (.slice o1 types.length k1)∧W.cell? ⟨w.heap.size,3,none⟩=some (.bool inn)∧W.cell? ⟨w.heap.size,4,none⟩=some (.bool out)∧w.heap.size < W.heap.size):=hid fun W K=>by
  have R:=R0.kp K (by omega) (by decide)
  have:=K.below.size
  simp only[World.size_alloc] at this
  exact⟨R.at 0 _ rfl,R.at 1 _ rfl,R.at 2 _ rfl,R.at 3 _ rfl,R.at 4 _ rfl,by omega⟩
 have HE:=hid (E.belowB hV k0'.below)
 have HK0:=hid k0'
 have Hl:=hid hl
 have Hb0:=hid b0
 have Hty:=hid hty
 have Hr:=hid hr
 have hrs:rel.data.toList.length=rel.size:=by simp
 have hhd:(headL rel).length=rel.size+7:=by unfold headL;simp
 have hg1:rel.size≤1073741824:=by simp only[List.length_append] at hl;omega
 have hg2:6+rel.size≤9223372036854775807:=by omega
 have hg3:6+rel.size+1≤9223372036854775807:=by omega
 have hg4:7+rel.size≤9223372036854775807:=by omega
 have hg5:7+rel.size+1≤9223372036854775807:=by omega
 have hg6:8+rel.size≤9223372036854775807:=by omega
 have hg7:8+rel.size+1≤9223372036854775807:=by omega
 clear R0 k0' hb E hl b0 cn ct hty hr
 subst hoc
 have ec:((⟨#[46,100,101,99,108,32]⟩:ByteArray)++rel++(⟨#[40]⟩:ByteArray)).data.toList=headL rel:=by unfold headL;simp
 have es:((⟨#[46,100,101,99,108,32]⟩:ByteArray)++rel++(⟨#[40]⟩:ByteArray)).size=rel.size+7:=by rw[ByteArray.size_append,ByteArray.size_append];show 6+rel.size+1=_;omega
 have Hes:=hid es
 have Hec:=hid ec
 clear es ec
 go_enter Tryz.func40,Tryz.ntmps40
 go_wp2_with fail
 refine (writeString_c B b _ _ _ Hb0.out (by rw[Hes.out];have:=Hl.out;simp only[List.length_append,List.length_cons,List.length_nil] at this;omega) (by simp;omega)).mono ?_
 rintro e w1 ⟨rfl,b1,k1'⟩
 rw[Hec.out] at b1
 have Hb1:=hid b1
 have Hk1:=hid k1'
 obtain⟨x0,x1,x2,x3,x4,hz0⟩:=HR.out _ k1'
 clear b1 k1' Hes Hec
 go_wp2
 clear x0 x1 x2 x3 x4 hz0
 go_loopw [15] (fun i wr=>∃ k:Nat,k≤names.length∧i=.int .i64 k∧Bd B b (l++headL rel++joinL [44,32] (((names.zip types).take k).map colL)) wr∧Kp B b (w.alloc (.cells #[.string rel,.slice o0 names.length k0,.slice o1 types.length k1,.bool inn,.bool out,.int .i64 line] 34)) wr) (fun i _=>names.length - (intOf i).toNat)
 case atStart=>exact⟨0,Nat.zero_le _,rfl,by simpa[joinL] using Hb1.out,Hk1.out⟩
 case round=>
  obtain⟨k,hk,rfl,hbk,hK⟩:=hrel
  obtain⟨x0,x1,x2,x3,x4,hz0⟩:=HR.out _ hK
  by_cases hlt:k < names.length
  ·have hlt':(k:Int) < (names.length:Int):=by omega
   have hlt2:(k:Int) < (types.length:Int):=by have:=Hty.out;omega
   obtain⟨xn,hxn⟩:∃ x,names[k]?=some x:=⟨names[k],List.getElem?_eq_getElem hlt⟩
   obtain⟨tn,htn⟩:∃ x,types[k]?=some x:=⟨types[k]'(by omega),List.getElem?_eq_getElem (by omega)⟩
   obtain⟨a1,rfl,ha1,c0⟩:=str_atB S1 (HK0.out.below.trans hK.below) hxn
   obtain⟨a2,rfl,ha2,d0⟩:=int_atB S2 (HK0.out.below.trans hK.below) htn
   have hj:=joinL_take (sep:=[44,32]) colL (zip_at hxn htn)
   have hup:=joinL_upto (sep:=[44,32]) colL (names.zip types) (k+1)
   have ht12:tn=1∨tn=2:=by
    have:=List.all_eq_true.1 Hr.out tn (List.mem_of_getElem? htn)
    unfold rightTy at this
    simpa using this
   have hL:=Hl.out
   unfold colsL at hL
   simp only[List.length_append] at hL
   rw[hj] at hup
   have hcl:(colL (xn,tn)).length=xn.size+2+(typeL tn).length:=colL_len xn tn
   have htl:(typeL tn).length=6:=by rcases ht12 with rfl | rfl <;> rfl
   have hxs:xn.size≤1073741824:=by
    have h1:(colL (xn,tn)).length≤((if k=0 then [] else joinL [44,32] (((names.zip types).take k).map colL)++[44,32])++colL (xn,tn)).length:=by rw[List.length_append];omega
    omega
   have hx1:xn.size+2≤9223372036854775807:=by omega
   have hx2:xn.size+2+6≤9223372036854775807:=by omega
   have Hj:=hid hj
   have Hup:=hid hup
   have HL:=hid hL
   have Hcl:=hid (show (colL (xn,tn)).length=xn.size+2+6 by rw[hcl,htl])
   have HW:Hid (∀ W k v,Kp B b (w.alloc (.cells #[.string rel,.slice (some a1) names.length k0,.slice (some a2) types.length k1,.bool inn,.bool out,.int .i64 line] 34)) W→typeTab[k]?=some v→W.cell? ⟨3,k,none⟩=some v):=hid fun W k v K h=>(HE.out.belowB hV K.below).types k v h
   have HC:Hid (∀ W,Below B wr W→W.cell? (a1.add k)=some (.string xn)∧W.cell? (a2.add k)=some (.int .i64 tn)∧(a1.add k).block < B∧(a2.add k).block < B):=hid fun W K=>⟨(K.cell (show (a1.add k).block < B by rw[addBlock];exact ha1)).trans c0,(K.cell (show (a2.add k).block < B by rw[addBlock];exact ha2)).trans d0,by rw[addBlock];exact ha1,by rw[addBlock];exact ha2⟩
   have hbs:B≤wr.heap.size:=by omega
   have HKk:=hid hK
   have Hbk:=hid hbk
   clear hj hup hL hcl htl hxn htn c0 d0 hK hbk
   by_cases hk0:k=0
   ·subst hk0
    have e0:l++headL rel++joinL [44,32] (((names.zip types).take 0).map colL)=l++headL rel:=by simp[joinL]
    have Hb0':Hid (Bd B b (l++headL rel) wr):=hid (by have:=Hbk.out;rwa [e0] at this)
    have Hj0:Hid (joinL [44,32] (((names.zip types).take (0+1)).map colL)=colL (xn,tn)):=hid (by rw[Hj.out];simp)
    have ea:a1.add 0=a1:=by unfold Addr.add;simp
    have ea2:a2.add 0=a2:=by unfold Addr.add;simp
    have Hup0:Hid ((colL (xn,tn)).length≤(joinL [44,32] ((names.zip types).map colL)).length):=hid (by have:=Hup.out;simpa using this)
    obtain⟨c0,d0,hal,hal2⟩:=HC.out wr (Below.refl _ _)
    simp only[ea,ea2] at c0 d0 hal hal2
    have hal':a1.block < wr.heap.size:=by omega
    have hal2':a2.block < wr.heap.size:=by omega
    clear Hbk Hj Hup e0 hal hal2
    rcases ht12 with rfl | rfl
    ·have ec:(xn++(⟨#[58,32]⟩:ByteArray)++(⟨#[110,117,109,98,101,114]⟩:ByteArray)).data.toList=colL (xn,1):=by show _=xn.data.toList++[58,32]++[110,117,109,98,101,114];simp
     have es:(xn++(⟨#[58,32]⟩:ByteArray)++(⟨#[110,117,109,98,101,114]⟩:ByteArray)).size=xn.size+2+6:=by rw[ByteArray.size_append,ByteArray.size_append];rfl
     have Hec:=hid ec
     have Hes:=hid es
     clear ec es
     have sg:=HW.out wr 1 _ HKk.out rfl
     change wr.cell? _=some (.string ⟨#[110,117,109,98,101,114]⟩) at sg
     go_wp2_with fail
     refine (writeString_c B b _ _ _ Hb0'.out (by rw[Hes.out];have:=HL.out;have:=Hup0.out;have:=Hcl.out;simp only[List.length_append] at *;omega) (by omega)).mono ?_
     clear x0 x1 x2 x3 x4 hz0 c0 d0 sg
     rintro e w2 ⟨rfl,b2,kk⟩
     rw[Hec.out] at b2
     have Hb2:Hid (Bd B b (l++headL rel++joinL [44,32] (((names.zip types).take (0+1)).map colL)) w2):=hid (by rw[Hj0.out];exact b2)
     have Hk2:=hid (HKk.out.trans kk)
     clear b2 kk
     go_wp2
     go_roundw
     case rel=>exact⟨0+1,hlt,by go_num,Hb2.out,Hk2.out⟩
     case measure=>simp[intOf];omega
    ·have ec:(xn++(⟨#[58,32]⟩:ByteArray)++(⟨#[115,121,109,98,111,108]⟩:ByteArray)).data.toList=colL (xn,2):=by show _=xn.data.toList++[58,32]++[115,121,109,98,111,108];simp
     have es:(xn++(⟨#[58,32]⟩:ByteArray)++(⟨#[115,121,109,98,111,108]⟩:ByteArray)).size=xn.size+2+6:=by rw[ByteArray.size_append,ByteArray.size_append];rfl
     have Hec:=hid ec
     have Hes:=hid es
     clear ec es
     have sg:=HW.out wr 2 _ HKk.out rfl
     change wr.cell? _=some (.string ⟨#[115,121,109,98,111,108]⟩) at sg
     go_wp2_with fail
     refine (writeString_c B b _ _ _ Hb0'.out (by rw[Hes.out];have:=HL.out;have:=Hup0.out;have:=Hcl.out;simp only[List.length_append] at *;omega) (by omega)).mono ?_
     clear x0 x1 x2 x3 x4 hz0 c0 d0 sg
     rintro e w2 ⟨rfl,b2,kk⟩
     rw[Hec.out] at b2
     have Hb2:Hid (Bd B b (l++headL rel++joinL [44,32] (((names.zip types).take (0+1)).map colL)) w2):=hid (by rw[Hj0.out];exact b2)
     have Hk2:=hid (HKk.out.trans kk)
     clear b2 kk
     go_wp2
     go_roundw
     case rel=>exact⟨0+1,hlt,by go_num,Hb2.out,Hk2.out⟩
     case measure=>simp[intOf];omega
   ·have hk0':(0:Int) < (k:Int):=by omega
    have Hj0:Hid (joinL [44,32] (((names.zip types).take (k+1)).map colL)=joinL [44,32] (((names.zip types).take k).map colL)++[44,32]++colL (xn,tn)):=hid (by rw[Hj.out,if_neg hk0])
    have Hup0:Hid ((joinL [44,32] (((names.zip types).take k).map colL)).length+2+(colL (xn,tn)).length≤(joinL [44,32] ((names.zip types).map colL)).length):=hid (by have:=Hup.out;rw[if_neg hk0] at this;simp only[List.length_append,List.length_cons,List.length_nil] at this;omega)
    obtain⟨c0,d0,hal,hal2⟩:=HC.out wr (Below.refl _ _)
    have hal':(a1.add k).block < wr.heap.size:=by omega
    have hal2':(a2.add k).block < wr.heap.size:=by omega
    clear Hj Hup hal hal2
    rcases ht12 with rfl | rfl
    ·have ec:(xn++(⟨#[58,32]⟩:ByteArray)++(⟨#[110,117,109,98,101,114]⟩:ByteArray)).data.toList=colL (xn,1):=by show _=xn.data.toList++[58,32]++[110,117,109,98,101,114];simp
     have es:(xn++(⟨#[58,32]⟩:ByteArray)++(⟨#[110,117,109,98,101,114]⟩:ByteArray)).size=xn.size+2+6:=by rw[ByteArray.size_append,ByteArray.size_append];rfl
     have Hec:=hid ec
     have Hes:=hid es
     clear ec es
     go_wp2_with fail
     refine (writeString_c B b _ ⟨#[44,32]⟩ _ Hbk.out (by have:=HL.out;have:=Hup0.out;simp only[List.length_append,show (⟨#[44,32]⟩:ByteArray).size=2 from rfl] at *;omega) (by omega)).mono ?_
     clear x0 x1 x2 x3 x4 hz0 c0 d0
     rintro e w2 ⟨rfl,b2,kk⟩
     have Hb2:Hid (Bd B b (l++headL rel++joinL [44,32] (((names.zip types).take k).map colL)++[44,32]) w2):=hid b2
     have Hk2:=hid (HKk.out.trans kk)
     have hw2:=kk.below.size
     obtain⟨c0,d0,hal,hal2⟩:=HC.out w2 kk.below
     clear b2 kk
     obtain⟨x0,x1,x2,x3,x4,hz0⟩:=HR.out _ Hk2.out
     have sg:=HW.out w2 1 _ Hk2.out rfl
     change w2.cell? _=some (.string ⟨#[110,117,109,98,101,114]⟩) at sg
     go_wp2_with fail
     refine (writeString_c B b _ _ _ Hb2.out (by rw[Hes.out];have:=HL.out;have:=Hup0.out;have:=Hcl.out;simp only[List.length_append,List.length_cons,List.length_nil] at *;omega) (by omega)).mono ?_
     clear x0 x1 x2 x3 x4 hz0 c0 d0 sg
     rintro e w3 ⟨rfl,b3,kk⟩
     rw[Hec.out] at b3
     have Hb3:Hid (Bd B b (l++headL rel++joinL [44,32] (((names.zip types).take (k+1)).map colL)) w3):=hid (by rw[Hj0.out];simpa using b3)
     have Hk3:=hid (Hk2.out.trans kk)
     clear b3 kk
     go_wp2
     go_roundw
     case rel=>exact⟨k+1,hlt,by go_num,Hb3.out,Hk3.out⟩
     case measure=>simp[intOf];omega
    ·have ec:(xn++(⟨#[58,32]⟩:ByteArray)++(⟨#[115,121,109,98,111,108]⟩:ByteArray)).data.toList=colL (xn,2):=by show _=xn.data.toList++[58,32]++[115,121,109,98,111,108];simp
     have es:(xn++(⟨#[58,32]⟩:ByteArray)++(⟨#[115,121,109,98,111,108]⟩:ByteArray)).size=xn.size+2+6:=by rw[ByteArray.size_append,ByteArray.size_append];rfl
     have Hec:=hid ec
     have Hes:=hid es
     clear ec es
     go_wp2_with fail
     refine (writeString_c B b _ ⟨#[44,32]⟩ _ Hbk.out (by have:=HL.out;have:=Hup0.out;simp only[List.length_append,show (⟨#[44,32]⟩:ByteArray).size=2 from rfl] at *;omega) (by omega)).mono ?_
     clear x0 x1 x2 x3 x4 hz0 c0 d0
     rintro e w2 ⟨rfl,b2,kk⟩
     have Hb2:Hid (Bd B b (l++headL rel++joinL [44,32] (((names.zip types).take k).map colL)++[44,32]) w2):=hid b2
     have Hk2:=hid (HKk.out.trans kk)
     have hw2:=kk.below.size
     obtain⟨c0,d0,hal,hal2⟩:=HC.out w2 kk.below
     clear b2 kk
     obtain⟨x0,x1,x2,x3,x4,hz0⟩:=HR.out _ Hk2.out
     have sg:=HW.out w2 2 _ Hk2.out rfl
     change w2.cell? _=some (.string ⟨#[115,121,109,98,111,108]⟩) at sg
     go_wp2_with fail
     refine (writeString_c B b _ _ _ Hb2.out (by rw[Hes.out];have:=HL.out;have:=Hup0.out;have:=Hcl.out;simp only[List.length_append,List.length_cons,List.length_nil] at *;omega) (by omega)).mono ?_
     clear x0 x1 x2 x3 x4 hz0 c0 d0 sg
     rintro e w3 ⟨rfl,b3,kk⟩
     rw[Hec.out] at b3
     have Hb3:Hid (Bd B b (l++headL rel++joinL [44,32] (((names.zip types).take (k+1)).map colL)) w3):=hid (by rw[Hj0.out];simpa using b3)
     have Hk3:=hid (Hk2.out.trans kk)
     clear b3 kk
     go_wp2
     go_roundw
     case rel=>exact⟨k+1,hlt,by go_num,Hb3.out,Hk3.out⟩
     case measure=>simp[intOf];omega
  ·have hlt':¬ (k:Int) < (names.length:Int):=by omega
   have hkl:(names.zip types).take k=names.zip types:=List.take_of_length_le (by rw[List.length_zip];omega)
   rw[hkl] at hbk
   have HKk:=hid hK
   have Hbk:=hid hbk
   clear hbk hK hkl
   have HL:Hid (l.length+(headL rel).length+(colsL names types).length+2+(inL rel inn).length+(outL rel out).length≤1073741824):=hid (by have:=Hl.out;simp only[List.length_append,List.length_cons,List.length_nil] at this;omega)
   have Hbs:Hid (∀ W,Kp B b (w.alloc (.cells #[.string rel,.slice o0 names.length k0,.slice o1 types.length k1,.bool inn,.bool out,.int .i64 line] 34)) W→B≤W.heap.size):=hid fun W K=>K.size (by simp;omega)
   go_wp2_with fail
   refine (writeString_c B b (l++headL rel++colsL names types) ⟨#[41,10]⟩ _ Hbk.out (by have:=HL.out;simp only[List.length_append,show (⟨#[41,10]⟩:ByteArray).size=2 from rfl] at *;omega) (Hbs.out _ HKk.out)).mono ?_
   clear x0 x1 x2 x3 x4 hz0
   rintro e w2 ⟨rfl,b2,kk⟩
   have Hb2:Hid (Bd B b (l++headL rel++colsL names types++[41,10]) w2):=hid b2
   have Hk2:=hid (HKk.out.trans kk)
   clear b2 kk
   cases inn with
   | false=>
    cases out with
    | false=>
     obtain⟨x0,x1,x2,x3,x4,hz0⟩:=HR.out _ Hk2.out
     have Hkz:=hid (HK0.out.trans Hk2.out)
     go_wp2
     go_end0
     exact⟨rfl,by have:=Hb2.out;simpa[inL,outL] using this,Hkz.out⟩
    | true=>
     obtain⟨x0,x1,x2,x3,x4,hz0⟩:=HR.out _ Hk2.out
     go_wp2_with fail
     have ec:((⟨#[46,111,117,116,112,117,116,32]⟩:ByteArray)++rel++(⟨#[10]⟩:ByteArray)).data.toList=outL rel true:=by show _=[46,111,117,116,112,117,116,32]++rel.data.toList++[10];simp
     have es:((⟨#[46,111,117,116,112,117,116,32]⟩:ByteArray)++rel++(⟨#[10]⟩:ByteArray)).size=(outL rel true).length:=by rw[← ec];simp only[Array.length_toList];rfl
     refine (writeString_c B b _ _ _ Hb2.out (by rw[es];have:=HL.out;simp only[List.length_append,List.length_cons,List.length_nil] at *;omega) (Hbs.out _ Hk2.out)).mono ?_
     clear x0 x1 x2 x3 x4 hz0
     rintro e w3 ⟨rfl,b3,kk⟩
     rw[ec] at b3
     have Hb3:Hid (Bd B b (l++headL rel++colsL names types++[41,10]++outL rel true) w3):=hid b3
     have Hk3:=hid (Hk2.out.trans kk)
     clear b3 kk ec es
     obtain⟨x0,x1,x2,x3,x4,hz0⟩:=HR.out _ Hk3.out
     have Hkz:=hid (HK0.out.trans Hk3.out)
     go_wp2
     go_end0
     exact⟨rfl,by have:=Hb3.out;simpa[inL,outL] using this,Hkz.out⟩
   | true=>
    cases out with
    | false=>
     obtain⟨x0,x1,x2,x3,x4,hz0⟩:=HR.out _ Hk2.out
     go_wp2_with fail
     have ec:((⟨#[46,105,110,112,117,116,32]⟩:ByteArray)++rel++(⟨#[10]⟩:ByteArray)).data.toList=inL rel true:=by show _=[46,105,110,112,117,116,32]++rel.data.toList++[10];simp
     have es:((⟨#[46,105,110,112,117,116,32]⟩:ByteArray)++rel++(⟨#[10]⟩:ByteArray)).size=(inL rel true).length:=by rw[← ec];simp only[Array.length_toList];rfl
     refine (writeString_c B b _ _ _ Hb2.out (by rw[es];have:=HL.out;simp only[List.length_append,List.length_cons,List.length_nil] at *;omega) (Hbs.out _ Hk2.out)).mono ?_
     clear x0 x1 x2 x3 x4 hz0
     rintro e w3 ⟨rfl,b3,kk⟩
     rw[ec] at b3
     have Hb3:Hid (Bd B b (l++headL rel++colsL names types++[41,10]++inL rel true) w3):=hid b3
     have Hk3:=hid (Hk2.out.trans kk)
     clear b3 kk ec es
     obtain⟨x0,x1,x2,x3,x4,hz0⟩:=HR.out _ Hk3.out
     have Hkz:=hid (HK0.out.trans Hk3.out)
     go_wp2
     go_end0
     exact⟨rfl,by have:=Hb3.out;simpa[inL,outL] using this,Hkz.out⟩
    | true=>
     obtain⟨x0,x1,x2,x3,x4,hz0⟩:=HR.out _ Hk2.out
     go_wp2_with fail
     have ec:((⟨#[46,105,110,112,117,116,32]⟩:ByteArray)++rel++(⟨#[10]⟩:ByteArray)).data.toList=inL rel true:=by show _=[46,105,110,112,117,116,32]++rel.data.toList++[10];simp
     have es:((⟨#[46,105,110,112,117,116,32]⟩:ByteArray)++rel++(⟨#[10]⟩:ByteArray)).size=(inL rel true).length:=by rw[← ec];simp only[Array.length_toList];rfl
     refine (writeString_c B b _ _ _ Hb2.out (by rw[es];have:=HL.out;simp only[List.length_append,List.length_cons,List.length_nil] at *;omega) (Hbs.out _ Hk2.out)).mono ?_
     clear x0 x1 x2 x3 x4 hz0
     rintro e w3 ⟨rfl,b3,kk⟩
     rw[ec] at b3
     have Hb3:Hid (Bd B b (l++headL rel++colsL names types++[41,10]++inL rel true) w3):=hid b3
     have Hk3:=hid (Hk2.out.trans kk)
     clear b3 kk ec es
     obtain⟨x0,x1,x2,x3,x4,hz0⟩:=HR.out _ Hk3.out
     go_wp2_with fail
     have ec:((⟨#[46,111,117,116,112,117,116,32]⟩:ByteArray)++rel++(⟨#[10]⟩:ByteArray)).data.toList=outL rel true:=by show _=[46,111,117,116,112,117,116,32]++rel.data.toList++[10];simp
     have es:((⟨#[46,111,117,116,112,117,116,32]⟩:ByteArray)++rel++(⟨#[10]⟩:ByteArray)).size=(outL rel true).length:=by rw[← ec];simp only[Array.length_toList];rfl
     refine (writeString_c B b _ _ _ Hb3.out (by rw[es];have:=HL.out;simp only[List.length_append,List.length_cons,List.length_nil] at *;omega) (Hbs.out _ Hk3.out)).mono ?_
     clear x0 x1 x2 x3 x4 hz0
     rintro e w4 ⟨rfl,b4,kk⟩
     rw[ec] at b4
     have Hb4:Hid (Bd B b (l++headL rel++colsL names types++[41,10]++inL rel true++outL rel true) w4):=hid b4
     have Hk4:=hid (Hk3.out.trans kk)
     clear b4 kk ec es
     obtain⟨x0,x1,x2,x3,x4,hz0⟩:=HR.out _ Hk4.out
     have Hkz:=hid (HK0.out.trans Hk4.out)
     go_wp2
     go_end0
     exact⟨rfl,by have:=Hb4.out;simpa[inL,outL] using this,Hkz.out⟩
end Go.Proofs.YtdgbajnhhhjbcaaGreatDoor
