/- Tsame2@012 -/
import Derived.Test.YtdgbajnhhhjbcaaGreatDoorQ10
set_option linter.unusedSimpArgs false
namespace Go.Proofs.YtdgbajnhhhjbcaaGreatDoor
open Lib(hid)
open Go.RowKit
set_option maxRecDepth 100000 in
set_option maxHeartbeats 4000000 in
theorem sameAtom_c (t u:Am) (w:World) (cs ds:List Value) (hc:AmC w w.heap.size t cs) (hd:AmC w w.heap.size u ds) :
  Calls Tryz.prog 45 #[.agg cs.toArray,.agg ds.toArray] w fun e w'=>e=.returned (.bool (sameA t u))∧Below w.heap.size w w':=by
 obtain⟨p1,q1,rfl,_,t1⟩:=hc.look
 obtain⟨p2,q2,rfl,_,t2⟩:=hd.look
 have H:=hid (fun (W:World) (hb:Below w.heap.size w W)=>equalTerms_c t.l u.l (fun x _=>sameTerm_c x) _ _ W ((TmS.below t1 hb).more hb.size) ((TmS.below t2 hb).more hb.size))
 clear hc hd t1 t2
 obtain⟨b1,hb1⟩:∃ b,(t.rel.toList == u.rel.toList)=b:=⟨_,rfl⟩
 have Hz:Hid (sameA t u=(b1 && allS sameT t.l u.l)):=hid (by unfold sameA;rw[sameTs_all,hb1])
 cases b1
 ·go_enter Tryz.func45,Tryz.ntmps45
  go_wp2
  go_ret
  exact⟨by rw[Hz.out];rfl,((Below.refl _ _).alloc (Nat.le_refl _) _).alloc (by simp) _⟩
 ·go_enter Tryz.func45,Tryz.ntmps45
  go_wp2_with fail
  refine (H.out _ (((Below.refl _ _).alloc (Nat.le_refl _) _).alloc (by simp) _)).mono ?_
  rintro e w1 ⟨rfl,b1⟩
  go_wp2
  go_ret
  exact⟨by rw[Hz.out];rfl,(((Below.refl _ _).alloc (Nat.le_refl _) _).alloc (by simp) _).trans (b1.mono (by simp;omega))⟩
set_option maxRecDepth 100000 in
set_option maxHeartbeats 4000000 in
theorem sameLit_c (t u:Lt) (w:World) (cs ds:List Value) (hc:LtC w w.heap.size t cs) (hd:LtC w w.heap.size u ds) :
  Calls Tryz.prog 47 #[.agg cs.toArray,.agg ds.toArray] w fun e w'=>e=.returned (.bool (sameL t u))∧Below w.heap.size w w':=by
 obtain⟨p1,q1,r1,s1,x1,y1,rfl,_,a1,t1,v1⟩:=hc.look
 obtain⟨p2,q2,r2,s2,x2,y2,rfl,_,a2,t2,v2⟩:=hd.look
 have HA:=hid (fun (W:World) (hb:Below w.heap.size w W)=>sameAtom_c t.a u.a W _ _ ((a1.below hb).more hb.size) ((a2.below hb).more hb.size))
 have HX:=hid (fun (W:World) (hb:Below w.heap.size w W)=>sameTerm_c t.x u.x W _ _ ((t1.under hb).more hb.size) ((t2.under hb).more hb.size))
 have HY:=hid (fun (W:World) (hb:Below w.heap.size w W)=>sameTerm_c t.y u.y W _ _ ((v1.under hb).more hb.size) ((v2.under hb).more hb.size))
 clear hc hd a1 a2 t1 t2 v1 v2
 obtain⟨b1,hb1⟩:∃ b,(t.op == u.op)=b:=⟨_,rfl⟩
 have hz:sameL t u=(b1 && sameA t.a u.a && sameT t.x u.x && sameT t.y u.y):=by unfold sameL;rw[hb1]
 have Hz:=hid hz
 clear hz
 cases b1
 ·go_enter Tryz.func47,Tryz.ntmps47
  go_wp2
  go_ret
  exact⟨by rw[Hz.out];rfl,((Below.refl _ _).alloc (Nat.le_refl _) _).alloc (by simp) _⟩
 ·go_enter Tryz.func47,Tryz.ntmps47
  go_wp2_with fail
  refine (HA.out _ (((Below.refl _ _).alloc (Nat.le_refl _) _).alloc (by simp) _)).mono ?_
  rintro e w1 ⟨rfl,b1⟩
  have B1:Below w.heap.size w w1:=(((Below.refl _ _).alloc (Nat.le_refl _) _).alloc (by simp) _).trans (b1.mono (by simp;omega))
  obtain⟨hc,hf⟩:=(⟨fun b o h=>b1.cell (p:=⟨b,o,none⟩) h,fun b o h=>b1.frozen (p:=⟨b,o,none⟩) h⟩:(∀ b o,b < _→w1.cell? ⟨b,o,none⟩=_)∧(∀ b o,b < _→w1.frozen? ⟨b,o,none⟩=_))
  have hz1:w.heap.size+1 < w1.heap.size:=by have:=b1.size;simp at this;omega
  have hz0:w.heap.size < w1.heap.size:=by omega
  cases h1:sameA t.a u.a
  ·have Hz1:Hid (sameL t u=false):=hid (by rw[Hz.out,h1];rfl)
   clear h1
   go_wp2
   go_ret
   exact⟨by rw[Hz1.out];rfl,B1⟩
  ·have Hz1:Hid (sameL t u=(sameT t.x u.x && sameT t.y u.y)):=hid (by rw[Hz.out,h1];rfl)
   clear h1
   go_wp2_with fail
   refine (HX.out _ B1).mono ?_
   rintro e w2 ⟨rfl,b2⟩
   have B2:Below w.heap.size w w2:=B1.trans (b2.mono (by omega))
   have hz2:w.heap.size+1 < w2.heap.size:=by have:=b2.size;omega
   obtain⟨hc2,hf2⟩:=(⟨fun b o h=>b2.cell (p:=⟨b,o,none⟩) h,fun b o h=>b2.frozen (p:=⟨b,o,none⟩) h⟩:(∀ b o,b < w1.heap.size→w2.cell? ⟨b,o,none⟩=w1.cell? ⟨b,o,none⟩)∧(∀ b o,b < w1.heap.size→w2.frozen? ⟨b,o,none⟩=w1.frozen? ⟨b,o,none⟩))
   cases h2:sameT t.x u.x
   ·have Hz2:Hid (sameL t u=false):=hid (by rw[Hz1.out,h2];rfl)
    clear h2
    go_wp2
    go_ret
    exact⟨by rw[Hz2.out];rfl,B2⟩
   ·have Hz2:Hid (sameL t u=sameT t.y u.y):=hid (by rw[Hz1.out,h2];rfl)
    clear h2
    go_wp2_with fail
    refine (HY.out _ B2).mono ?_
    rintro e w3 ⟨rfl,b3⟩
    go_wp2
    go_ret
    exact⟨by rw[Hz2.out];rfl,B2.trans (b3.mono (by omega))⟩
set_option maxRecDepth 100000 in
set_option maxHeartbeats 4000000 in
theorem equalLits_c (l m:List Lt) (v1 v2:Value) (w:World) (h1:SlOf w w.heap.size 11 (LtC w w.heap.size) l v1) (h2:SlOf w w.heap.size 11 (LtC w w.heap.size) m v2) :
  Calls Tryz.prog 46 #[v1,v2,.func (.func 47) #[] #[]] w fun e w'=>e=.returned (.bool (allS sameL l m))∧Below w.heap.size w w':=by
 obtain⟨o1,cap1,rfl,hc1,hm1,S1⟩:=SlOf.open h1
 obtain⟨o2,cap2,rfl,hc2,hm2,S2⟩:=SlOf.open h2
 clear h1 h2
 by_cases hlen:l.length=m.length
 ·have q:((l.length:Int) != (m.length:Int))=false:=by rw[hlen];simp
  have Hlen:=hid hlen
  clear hlen
  go_enter Tryz.func46,Tryz.ntmps46
  go_wp2
  go_loopw [17] (fun i wr=>∃ k:Nat,k≤l.length∧i=.int .i64 k∧allS sameL l m=allS sameL (l.drop k) (m.drop k)∧Below w.heap.size w wr) (fun i _=>l.length - (intOf i).toNat)
  case atStart=>exact⟨0,Nat.zero_le _,rfl,rfl,Below.refl _ _⟩
  case round=>
   obtain⟨k,hk,rfl,hr,hB⟩:=hrel
   have Hr:=hid hr
   clear hr
   have hBs:=hB.size
   by_cases hlt:k < l.length
   ·have hlt':(k:Int) < (l.length:Int):=by omega
    have hlt2:k < m.length:=by have:=Hlen.out;omega
    obtain⟨t,ht⟩:∃ t,l[k]?=some t:=⟨l[k],List.getElem?_eq_getElem hlt⟩
    obtain⟨u,hu⟩:∃ u,m[k]?=some u:=⟨m[k],List.getElem?_eq_getElem hlt2⟩
    obtain⟨a,p1,q1,r1,s1,x1,y1,rfl,ha,Hc,c0,c1,c2,c3,c4,c5,c6,c7,c8,c9,c10⟩:=lt_at S1 hB ht
    obtain⟨b,p2,q2,r2,s2,x2,y2,rfl,hb,Hd,d0,d1,d2,d3,d4,d5,d6,d7,d8,d9,d10⟩:=lt_at S2 hB hu
    have hal:(a.add (k * 11)).block < wr.heap.size:=by rw[addBlock];omega
    have hbl:(b.add (k * 11)).block < wr.heap.size:=by rw[addBlock];omega
    have Hs:=hid (allS_drop (f:=sameL) ht hu)
    clear ht hu
    have HI:=hid (fun (W:World) (hb:Below wr.heap.size wr W)=>sameLit_c t u W _ _ ((Hc.out.below hb).more hb.size) ((Hd.out.below hb).more hb.size))
    go_wp2_with fail
    refine (HI.out _ (((Below.refl _ _).alloc (Nat.le_refl _) _).alloc (by simp) _)).mono ?_
    rintro e w1 ⟨rfl,b1⟩
    have hB1:=hB.trans ((((Below.refl _ wr).alloc (Nat.le_refl _) _).alloc (by simp) _).mono hBs |>.trans (b1.mono (by simp;omega)))
    cases hs:sameL t u
    ·have Hz:=hid (Hr.out.trans (Hs.out.trans (by rw[hs,Bool.false_and])))
     clear hs
     go_wp2
     go_ret
     exact⟨by rw[Hz.out];rfl,hB1⟩
    ·have Hz:=hid (Hr.out.trans (Hs.out.trans (by rw[hs,Bool.true_and])))
     clear hs
     go_wp2
     go_roundw
     case rel=>exact⟨k+1,hlt,by go_num,Hz.out,hB1⟩
     case measure=>simp[intOf];omega
   ·have hlt':¬ (k:Int) < (l.length:Int):=by omega
    have Hz:=hid (allS_end (f:=sameL) (l:=l) (m:=m) (k:=k) (by omega) (by have:=Hlen.out;omega))
    go_wp2
    go_ret
    exact⟨by rw[Hr.out,Hz.out];rfl,hB⟩
 ·have q:((l.length:Int) != (m.length:Int))=true:=by rw[bne_iff_ne];omega
  have Hz:=hid (allS_len (f:=sameL) hlen)
  clear hlen
  go_enter Tryz.func46,Tryz.ntmps46
  go_wp2
  go_ret
  exact⟨by rw[Hz.out];rfl,Below.refl _ _⟩
set_option maxRecDepth 100000 in
set_option maxHeartbeats 4000000 in
theorem sameRule_c (t u:Ru) (w:World) (cs ds:List Value) (hc:RuC w w.heap.size t cs) (hd:RuC w w.heap.size u ds) :
  Calls Tryz.prog 28 #[.agg cs.toArray,.agg ds.toArray] w fun e w'=>e=.returned (.bool (sameR t u))∧Below w.heap.size w w':=by
 obtain⟨p1,q1,r1,s1,rfl,_,a1,t1⟩:=hc.look
 obtain⟨p2,q2,r2,s2,rfl,_,a2,t2⟩:=hd.look
 have HA:=hid (fun (W:World) (hb:Below w.heap.size w W)=>sameAtom_c t.head u.head W _ _ ((a1.below hb).more hb.size) ((a2.below hb).more hb.size))
 have HL:=hid (fun (W:World) (hb:Below w.heap.size w W)=>equalLits_c t.body u.body _ _ W (SlOf.lit t1 hb hb.size) (SlOf.lit t2 hb hb.size))
 clear hc hd a1 a2 t1 t2
 go_enter Tryz.func28,Tryz.ntmps28
 go_wp2_with fail
 refine (HA.out _ (((Below.refl _ _).alloc (Nat.le_refl _) _).alloc (by simp) _)).mono ?_
 rintro e w1 ⟨rfl,b1⟩
 have B1:Below w.heap.size w w1:=(((Below.refl _ _).alloc (Nat.le_refl _) _).alloc (by simp) _).trans (b1.mono (by simp;omega))
 obtain⟨hc,hf⟩:=(⟨fun b o h=>b1.cell (p:=⟨b,o,none⟩) h,fun b o h=>b1.frozen (p:=⟨b,o,none⟩) h⟩:(∀ b o,b < _→w1.cell? ⟨b,o,none⟩=_)∧(∀ b o,b < _→w1.frozen? ⟨b,o,none⟩=_))
 have hz1:w.heap.size+1 < w1.heap.size:=by have:=b1.size;simp at this;omega
 cases h1:sameA t.head u.head
 ·have Hz1:Hid (sameR t u=false):=hid (by unfold sameR;rw[h1];rfl)
  clear h1
  go_wp2
  go_ret
  exact⟨by rw[Hz1.out];rfl,B1⟩
 ·have Hz1:Hid (sameR t u=allS sameL t.body u.body):=hid (by unfold sameR;rw[h1];rfl)
  clear h1
  go_wp2_with fail
  refine (HL.out _ B1).mono ?_
  rintro e w2 ⟨rfl,b2⟩
  go_wp2
  go_ret
  exact⟨by rw[Hz1.out];rfl,B1.trans (b2.mono (by omega))⟩
set_option maxRecDepth 100000 in
set_option maxHeartbeats 4000000 in
theorem equalRules_c (l m:List Ru) (v1 v2:Value) (w:World) (h1:SlOf w w.heap.size 4 (RuC w w.heap.size) l v1) (h2:SlOf w w.heap.size 4 (RuC w w.heap.size) m v2) :
  Calls Tryz.prog 27 #[v1,v2,.func (.func 28) #[] #[]] w fun e w'=>e=.returned (.bool (allS sameR l m))∧Below w.heap.size w w':=by
 obtain⟨o1,cap1,rfl,hc1,hm1,S1⟩:=SlOf.open h1
 obtain⟨o2,cap2,rfl,hc2,hm2,S2⟩:=SlOf.open h2
 clear h1 h2
 by_cases hlen:l.length=m.length
 ·have q:((l.length:Int) != (m.length:Int))=false:=by rw[hlen];simp
  have Hlen:=hid hlen
  clear hlen
  go_enter Tryz.func27,Tryz.ntmps27
  go_wp2
  go_loopw [17] (fun i wr=>∃ k:Nat,k≤l.length∧i=.int .i64 k∧allS sameR l m=allS sameR (l.drop k) (m.drop k)∧Below w.heap.size w wr) (fun i _=>l.length - (intOf i).toNat)
  case atStart=>exact⟨0,Nat.zero_le _,rfl,rfl,Below.refl _ _⟩
  case round=>
   obtain⟨k,hk,rfl,hr,hB⟩:=hrel
   have Hr:=hid hr
   clear hr
   have hBs:=hB.size
   by_cases hlt:k < l.length
   ·have hlt':(k:Int) < (l.length:Int):=by omega
    have hlt2:k < m.length:=by have:=Hlen.out;omega
    obtain⟨t,ht⟩:∃ t,l[k]?=some t:=⟨l[k],List.getElem?_eq_getElem hlt⟩
    obtain⟨u,hu⟩:∃ u,m[k]?=some u:=⟨m[k],List.getElem?_eq_getElem hlt2⟩
    obtain⟨a,p1,q1,r1,s1,rfl,ha,Hc,c0,c1,c2,c3⟩:=ru_at S1 hB ht
    obtain⟨b,p2,q2,r2,s2,rfl,hb,Hd,d0,d1,d2,d3⟩:=ru_at S2 hB hu
    have hal:(a.add (k * 4)).block < wr.heap.size:=by rw[addBlock];omega
    have hbl:(b.add (k * 4)).block < wr.heap.size:=by rw[addBlock];omega
    have Hs:=hid (allS_drop (f:=sameR) ht hu)
    clear ht hu
    have HI:=hid (fun (W:World) (hb:Below wr.heap.size wr W)=>sameRule_c t u W _ _ ((Hc.out.below hb).more hb.size) ((Hd.out.below hb).more hb.size))
    go_wp2_with fail
    refine (HI.out _ (((Below.refl _ _).alloc (Nat.le_refl _) _).alloc (by simp) _)).mono ?_
    rintro e w1 ⟨rfl,b1⟩
    have hB1:=hB.trans ((((Below.refl _ wr).alloc (Nat.le_refl _) _).alloc (by simp) _).mono hBs |>.trans (b1.mono (by simp;omega)))
    cases hs:sameR t u
    ·have Hz:=hid (Hr.out.trans (Hs.out.trans (by rw[hs,Bool.false_and])))
     clear hs
     go_wp2
     go_ret
     exact⟨by rw[Hz.out];rfl,hB1⟩
    ·have Hz:=hid (Hr.out.trans (Hs.out.trans (by rw[hs,Bool.true_and])))
     clear hs
     go_wp2
     go_roundw
     case rel=>exact⟨k+1,hlt,by go_num,Hz.out,hB1⟩
     case measure=>simp[intOf];omega
   ·have hlt':¬ (k:Int) < (l.length:Int):=by omega
    have Hz:=hid (allS_end (f:=sameR) (l:=l) (m:=m) (k:=k) (by omega) (by have:=Hlen.out;omega))
    go_wp2
    go_ret
    exact⟨by rw[Hr.out,Hz.out];rfl,hB⟩
 ·have q:((l.length:Int) != (m.length:Int))=true:=by rw[bne_iff_ne];omega
  have Hz:=hid (allS_len (f:=sameR) hlen)
  clear hlen
  go_enter Tryz.func27,Tryz.ntmps27
  go_wp2
  go_ret
  exact⟨by rw[Hz.out];rfl,Below.refl _ _⟩
end Go.Proofs.YtdgbajnhhhjbcaaGreatDoor
