/- Yrt10@2, Sck@2, Scl@2 -/
import Derived.Test.YtfmldnbcjbflbaaGreatDoorQ48
import Derived.Test.YtfmldnbcjbflbaaGreatDoorQ41
set_option linter.unusedSimpArgs false
set_option linter.unusedVariables false
namespace Go.Proofs.YtfmldnbcjbflbaaGreatDoor
open Lib(hid)
open Go.RowKit
set_option maxRecDepth 100000 in
set_option maxHeartbeats 16000000 in
theorem rcheck_c (p:Pg) (cs:List Value) (w:World) (hp:PgC w w.heap.size p cs) (hf:FewP p) :
  Calls Tryz.prog 10 #[.agg cs.toArray] w fun e w'=>∃ ln k,e=.returned (.tuple #[.int .i64 ln,.int .i64 k])∧RefCh p ln k∧Below w.heap.size w w':=by
 obtain⟨p1,q1,r1,s1,rfl,H1,H2⟩:=hp.look
 obtain⟨o1,k1,e1,hc1,hm1,S1⟩:=SlOf.open H1
 cases e1
 obtain⟨o2,k2,e2,hc2,hm2,S2⟩:=SlOf.open H2
 cases e2
 have hb0:∀ C:Obj,Below w.heap.size w (w.alloc C):=fun C=>(Below.refl _ _).alloc (Nat.le_refl _) _
 have HB0:=hid hb0
 have HD:=hid H1
 have HF:=hid hf
 have HRI:=hid (fun C:Obj=>rright_c p (w.alloc C) _ ((hp.below (hb0 C)).more (hb0 C).size))
 clear H1 H2 hp hb0 hf
 go_enter Tryz.func10,Tryz.ntmps10
 go_wp2_with fail
 refine (HRI.out _).mono ?_
 rintro e1 w1 ⟨rfl,b1⟩
 have R1:=hid ((b1.block w.heap.size (by simp)).trans (World.alloc_heap_new w _))
 have B1:=hid ((HB0.out _).trans (b1.mono (by simp)))
 clear b1 HRI
 cases hr:rightP p with
 | false=>
  have Ha:=hid (RefCh.tree hr)
  clear hr
  go_wp2
  go_ret2
  exact⟨_,_,rfl,Ha.out,B1.out⟩
 | true=>
 have HR:=hid hr
 clear hr
 go_wp2
 go_loopw [5] (fun i wr=>∃ k:Nat,k≤p.decls.length∧i=.int .i64 k∧NoTw p.decls k∧Below w1.heap.size w1 wr) (fun i _=>p.decls.length - (intOf i).toNat)
 case atStart=>exact⟨0,Nat.zero_le _,rfl,fun i d h=>absurd h (Nat.not_lt_zero _),Below.refl _ _⟩
 case round=>
  obtain⟨k,hk,rfl,hn,hB2⟩:=hrel
  have HBw:=hid (B1.out.trans (hB2.mono B1.out.size))
  have qr:=(hB2.block w.heap.size (heap_lt R1.out)).trans R1.out
  have hz0:w.heap.size < wr.heap.size:=heap_lt qr
  have Hn:=hid hn
  have HB2:=hid hB2
  have x0:wr.cell? ⟨w.heap.size,0,none⟩=some (.slice p1 p.decls.length q1):=row_cells qr 0
  have x1:wr.cell? ⟨w.heap.size,1,none⟩=some (.slice r1 p.rules.length s1):=row_cells qr 1
  have QR:=hid qr
  clear hn hB2 qr
  by_cases hlt:k < p.decls.length
  ·have hlt':(k:Int) < (p.decls.length:Int):=by omega
   have hk0:(0:Int)≤(k:Int):=by omega
   obtain⟨xe,ht⟩:∃ xe,p.decls[k]?=some xe:=⟨p.decls[k],List.getElem?_eq_getElem hlt⟩
   obtain⟨j,hj,hjk⟩:=find_le ht
   obtain⟨ad,a3,b3,a4,b4,rfl,ha,Hc,c0,c1,c2,c3,c4,c5⟩:=de_at S1 HBw.out ht
   have hal:(ad.add (k * 6)).block < wr.heap.size:=by rw[addBlock];omega
   have Ht:=hid ht
   have Hj:=hid hj
   have HFd:=hid (fun (W:World) (hb:Below wr.heap.size wr W)=>find5_c xe.rel p.decls _ W (SlOf.decl HD.out (HBw.out.trans (hb.mono HBw.out.size)) (Nat.le_trans HBw.out.size hb.size)))
   rw[Hj.out,findV_some] at HFd
   have hS0:wr.drew.cell? ⟨w.heap.size,0,none⟩=some (.slice (some ad) p.decls.length q1)∧wr.drew.cell? (ad.add (k * 6))=some (.string xe.rel)∧wr.drew.cell? ⟨(ad.add (k * 6)).block,(ad.add (k * 6)).off+5,none⟩=some (.int .i64 xe.line)∧Below wr.heap.size wr.drew wr.drew:=⟨x0,c0,c5,Below.refl _ _⟩
   have HKp:Hid (∀ W:World,Below wr.heap.size wr.drew W→W.cell? ⟨w.heap.size,0,none⟩=some (.slice (some ad) p.decls.length q1)∧W.cell? (ad.add (k * 6))=some (.string xe.rel)∧W.cell? ⟨(ad.add (k * 6)).block,(ad.add (k * 6)).off+5,none⟩=some (.int .i64 xe.line)∧Below wr.heap.size wr.drew W):=hid fun W hW=>
    have q:∀ p:Addr,p.block < wr.heap.size→W.cell? p=wr.drew.cell? p:=fun p h1=>World.cell?_of_block (hW.block _ h1)
    ⟨(q _ hz0).trans x0,(q _ hal).trans c0,(q ⟨(ad.add (k * 6)).block,(ad.add (k * 6)).off+5,none⟩ hal).trans c5,hW⟩
   clear ht hj
   go_wp2_with fail
   go_region_held3 (fun W=>W.cell? ⟨w.heap.size,0,none⟩=some (.slice (some ad) p.decls.length q1)∧W.cell? (ad.add (k * 6))=some (.string xe.rel)∧W.cell? ⟨(ad.add (k * 6)).block,(ad.add (k * 6)).off+5,none⟩=some (.int .i64 xe.line)∧Below wr.heap.size wr.drew W) (first | exact hk1 | exact hS0)
    ((go_at_call 34;refine (HFd.out _ (Below.refl _ _).drew).mono ?_;rintro e3 w3 ⟨rfl,b3'⟩;have hk1:=HKp.out _ b3'))
   obtain⟨y0,_,y5,b3'⟩:=hk1
   have HB3:=hid (HB2.out.trans ((drewB b3').mono HB2.out.size))
   have hz3:w.heap.size < w3.heap.size:=by have:=b3'.size;simp at this;omega
   have hal3:(ad.add (k * 6)).block < w3.heap.size:=by have:=b3'.size;simp at this;omega
   clear b3' x0 x1 c0 c1 c2 c3 c4 c5
   by_cases hjlt:j < k
   ·have hne:((j:Int) != (k:Int))=true:=by simp;omega
    have Hf:Hid (findY xe.rel p.decls≠some k):=hid (by rw[Hj.out];intro h;have:=Option.some.inj h;omega)
    go_wp2
    go_ret2
    exact⟨_,_,rfl,.twice HR.out Ht.out Hf.out Hn.out,B1.out.trans (HB3.out.mono B1.out.size)⟩
   ·obtain rfl:j=k:=by omega
    have hne:((j:Int) != (j:Int))=false:=by simp
    have Hn2:Hid (NoTw p.decls (j+1)):=hid fun i d hi hd=>by
     rcases Nat.lt_or_ge i j with h | h
     ·exact Hn.out i d h hd
     ·obtain rfl:i=j:=by omega
      rw[Ht.out] at hd
      cases hd
      exact Hj.out
    go_wp2
    go_roundw
    case rel=>exact⟨j+1,hlt,by go_num,Hn2.out,HB3.out⟩
    case measure=>simp[intOf];omega
  ·have hlt':¬ (k:Int) < (p.decls.length:Int):=by omega
   obtain rfl:k=p.decls.length:=by omega
   go_wp2_with fail
   go_loopw [8] (fun i wv=>∃ k:Nat,k≤p.rules.length∧i=.int .i64 k∧(∀ (j:Nat) (r':Ru),j < k→p.rules[j]?=some r'→∃ l,RefT p.decls r' l 0)∧Below w1.heap.size w1 wv) (fun i _=>p.rules.length - (intOf i).toNat)
   case atStart=>exact⟨0,Nat.zero_le _,rfl,fun j r' h=>absurd h (Nat.not_lt_zero _),HB2.out⟩
   case round=>
    obtain⟨k,hk2,rfl,hg,hC2⟩:=hrel
    have HCw:=hid (B1.out.trans (hC2.mono B1.out.size))
    have qr:=(hC2.block w.heap.size (heap_lt R1.out)).trans R1.out
    have hz0:w.heap.size < wr.heap.size:=heap_lt qr
    have x0:wr.cell? ⟨w.heap.size,0,none⟩=some (.slice p1 p.decls.length q1):=row_cells qr 0
    have x1:wr.cell? ⟨w.heap.size,1,none⟩=some (.slice r1 p.rules.length s1):=row_cells qr 1
    have Hg:=hid hg
    have HC2:=hid hC2
    clear hg hC2 qr
    by_cases hlt2:k < p.rules.length
    ·have hlt2':(k:Int) < (p.rules.length:Int):=by omega
     have hk0:(0:Int)≤(k:Int):=by omega
     obtain⟨xe,ht⟩:∃ xe,p.rules[k]?=some xe:=⟨p.rules[k],List.getElem?_eq_getElem hlt2⟩
     obtain⟨ad,a3,b3,a4,b4,rfl,ha,Hc,c0,c1,c2,c3⟩:=ru_at S2 HCw.out ht
     have hal:(ad.add (k * 4)).block < wr.heap.size:=by rw[addBlock];omega
     have Ht:=hid ht
     have Hm:=hid (List.mem_of_getElem? ht)
     have HT:=hid (fun (W:World) (hb:Below wr.heap.size wr W)=>rtypes_c p.decls _ xe _ W (SlOf.decl HD.out (HCw.out.trans (hb.mono HCw.out.size)) (Nat.le_trans HCw.out.size hb.size)) ((Hc.out.below hb).more hb.size) (HF.out xe Hm.out).1)
     have hS0:wr.drew.cell? ⟨w.heap.size,0,none⟩=some (.slice p1 p.decls.length q1)∧wr.drew.cell? ⟨w.heap.size,1,none⟩=some (.slice (some ad) p.rules.length s1)∧wr.drew.cell? (ad.add (k * 4))=some (.string xe.head.rel)∧wr.drew.cell? ⟨(ad.add (k * 4)).block,(ad.add (k * 4)).off+1,none⟩=some (.slice a3 xe.head.l.length b3)∧wr.drew.cell? ⟨(ad.add (k * 4)).block,(ad.add (k * 4)).off+2,none⟩=some (.slice a4 xe.body.length b4)∧wr.drew.cell? ⟨(ad.add (k * 4)).block,(ad.add (k * 4)).off+3,none⟩=some (.int .i64 xe.line)∧Below wr.heap.size wr.drew wr.drew:=⟨x0,x1,c0,c1,c2,c3,Below.refl _ _⟩
     have HKp:Hid (∀ W:World,Below wr.heap.size wr.drew W→W.cell? ⟨w.heap.size,0,none⟩=some (.slice p1 p.decls.length q1)∧W.cell? ⟨w.heap.size,1,none⟩=some (.slice (some ad) p.rules.length s1)∧W.cell? (ad.add (k * 4))=some (.string xe.head.rel)∧W.cell? ⟨(ad.add (k * 4)).block,(ad.add (k * 4)).off+1,none⟩=some (.slice a3 xe.head.l.length b3)∧W.cell? ⟨(ad.add (k * 4)).block,(ad.add (k * 4)).off+2,none⟩=some (.slice a4 xe.body.length b4)∧W.cell? ⟨(ad.add (k * 4)).block,(ad.add (k * 4)).off+3,none⟩=some (.int .i64 xe.line)∧Below wr.heap.size wr.drew W):=hid fun W hW=>
      have q:∀ p:Addr,p.block < wr.heap.size→W.cell? p=wr.drew.cell? p:=fun p h1=>World.cell?_of_block (hW.block _ h1)
      ⟨(q _ hz0).trans x0,(q _ hz0).trans x1,(q _ hal).trans c0,(q ⟨(ad.add (k * 4)).block,(ad.add (k * 4)).off+1,none⟩ hal).trans c1,(q ⟨(ad.add (k * 4)).block,(ad.add (k * 4)).off+2,none⟩ hal).trans c2,(q ⟨(ad.add (k * 4)).block,(ad.add (k * 4)).off+3,none⟩ hal).trans c3,hW⟩
     clear ht
     go_wp2_with fail
     go_region_held3 (fun W=>W.cell? ⟨w.heap.size,0,none⟩=some (.slice p1 p.decls.length q1)∧W.cell? ⟨w.heap.size,1,none⟩=some (.slice (some ad) p.rules.length s1)∧W.cell? (ad.add (k * 4))=some (.string xe.head.rel)∧W.cell? ⟨(ad.add (k * 4)).block,(ad.add (k * 4)).off+1,none⟩=some (.slice a3 xe.head.l.length b3)∧W.cell? ⟨(ad.add (k * 4)).block,(ad.add (k * 4)).off+2,none⟩=some (.slice a4 xe.body.length b4)∧W.cell? ⟨(ad.add (k * 4)).block,(ad.add (k * 4)).off+3,none⟩=some (.int .i64 xe.line)∧Below wr.heap.size wr.drew W) (first | exact hk1 | exact hS0)
      ((go_at_call 35;refine (HT.out _ (Below.refl _ _).drew).mono ?_;rintro e3 w3 ⟨v3,l3,n3,rfl,hA3,hS3,b3'⟩;have hk1:=HKp.out _ b3'))
     obtain⟨y0,y1,_,_,_,y3,b3'⟩:=hk1
     have HB3:=hid (HC2.out.trans ((drewB b3').mono HC2.out.size))
     have hz3:w.heap.size < w3.heap.size:=by have:=b3'.size;simp at this;omega
     have hal3:(ad.add (k * 4)).block < w3.heap.size:=by have:=b3'.size;simp at this;omega
     have HA:=hid hA3
     clear b3' x0 x1 c0 c1 c2 c3 hA3 hS3
     by_cases hn0:n3=0
     ·subst hn0
      have Hg2:Hid (∀ (j:Nat) (r':Ru),j < k+1→p.rules[j]?=some r'→∃ l,RefT p.decls r' l 0):=hid fun j r' hj hr'=>by
       rcases Nat.lt_or_ge j k with h | h
       ·exact Hg.out j r' h hr'
       ·obtain rfl:j=k:=by omega
        rw[Ht.out] at hr'
        cases hr'
        exact⟨l3,HA.out⟩
      go_wp2
      go_roundw
      case rel=>exact⟨k+1,hlt2,by go_num,Hg2.out,HB3.out⟩
      case measure=>simp[intOf];omega
     ·have hne:(n3 != 0)=true:=by simpa using hn0
      have Hn0:=hid hn0
      clear hn0
      go_wp2
      go_ret2
      exact⟨_,_,rfl,.rule HR.out Hn.out Ht.out Hg.out HA.out Hn0.out,B1.out.trans (HB3.out.mono B1.out.size)⟩
    ·have hlt2':¬ (k:Int) < (p.rules.length:Int):=by omega
     have Hall:Hid (∀ r ∈ p.rules,∃ l,RefT p.decls r l 0):=hid fun r hr=>by
      obtain⟨j,hj,e⟩:=List.getElem_of_mem hr
      exact Hg.out j r (by omega) (by rw[List.getElem?_eq_getElem hj,e])
     go_wp2
     go_ret2
     exact⟨_,_,rfl,.ok HR.out Hn.out Hall.out,HCw.out⟩
theorem few_small' {p:Pg} (h:smallP p=true):FewP p:=fun r hr=>⟨Nat.le_trans (small_terms h r hr).1 (by decide),fun t ht=>Nat.le_trans ((small_terms h r hr).2 t ht) (by decide)⟩
set_option maxRecDepth 100000 in
set_option maxHeartbeats 16000000 in
theorem rcheck6_c (p:Pg) (cs:List Value) (w:World) (hp:PgC w w.heap.size p cs) (hf:FewP p) (hn:∀ r ∈ p.rules,(termsR r).length+r.body.length≤10000) :
  Calls Tryz.prog 24 #[.agg cs.toArray] w fun e w'=>∃ ln k,e=.returned (.tuple #[.int .i64 ln,.int .i64 k])∧DsC (RefCh p) p.rules ln k∧Below w.heap.size w w':=by
 obtain⟨p1,q1,r1,s1,rfl,H1,H2⟩:=hp.look
 obtain⟨o2,k2,e2,hc2,hm2,S2⟩:=SlOf.open H2
 cases e2
 have hb0:∀ C:Obj,Below w.heap.size w (w.alloc C):=fun C=>(Below.refl _ _).alloc (Nat.le_refl _) _
 have HB0:=hid hb0
 have HCk:=hid (fun C:Obj=>rcheck_c p _ (w.alloc C) ((hp.below (hb0 C)).more (hb0 C).size) hf)
 have HF:=hid hn
 clear H1 H2 hp hb0 hf hn
 go_enter Tryz.func24,Tryz.ntmps24
 go_wp2_with fail
 refine (HCk.out _).mono ?_
 rintro e1 w1 ⟨ln1,k1,rfl,hA1,b1⟩
 have R1:=hid ((b1.block w.heap.size (by simp)).trans (World.alloc_heap_new w _))
 have B1:=hid ((HB0.out _).trans (b1.mono (by simp)))
 have HA1:=hid hA1
 clear b1 HCk hA1
 obtain⟨x0,x1⟩:w1.cell? ⟨w.heap.size,0,none⟩=some (.slice p1 p.decls.length q1)∧w1.cell? ⟨w.heap.size,1,none⟩=some (.slice r1 p.rules.length s1):=⟨row_cells R1.out 0,row_cells R1.out 1⟩
 have hz1:w.heap.size < w1.heap.size:=heap_lt R1.out
 by_cases hk0:k1=0
 case neg=>
  have hne:(k1 != 0)=true:=by simpa using hk0
  have Hk0:=hid hk0
  clear hk0
  go_wp2
  go_ret2
  exact⟨_,_,rfl,.typ HA1.out Hk0.out,B1.out⟩
 subst hk0
 go_wp2
 go_loopw [6] (fun i wr=>∃ k:Nat,k≤p.rules.length∧i=.int .i64 k∧(∀ (j:Nat) (r':Ru),j < k→p.rules[j]?=some r'→ordE r'=0)∧Below w1.heap.size w1 wr) (fun i _=>p.rules.length - (intOf i).toNat)
 case atStart=>exact⟨0,Nat.zero_le _,rfl,fun j r' h=>absurd h (Nat.not_lt_zero _),Below.refl _ _⟩
 case round=>
  obtain⟨k,hk,rfl,hg,hB⟩:=hrel
  have HBw:=hid (B1.out.trans (hB.mono B1.out.size))
  have HB:=hid hB
  have Hg:=hid hg
  have QR:=hid ((hB.block w.heap.size (heap_lt R1.out)).trans R1.out)
  have hz0:w.heap.size < wr.heap.size:=heap_lt QR.out
  clear hg x0 x1
  have x1:wr.cell? ⟨w.heap.size,1,none⟩=some (.slice r1 p.rules.length s1):=row_cells QR.out 1
  by_cases hlt:k < p.rules.length
  ·have hlt':(k:Int) < (p.rules.length:Int):=by omega
   have hk0:(0:Int)≤(k:Int):=by omega
   obtain⟨xe,ht⟩:∃ xe,p.rules[k]?=some xe:=⟨p.rules[k],List.getElem?_eq_getElem hlt⟩
   obtain⟨ad,a3,b3,a4,b4,rfl,ha,Hc,c0,c1,c2,c3⟩:=ru_at S2 HBw.out ht
   have hal:(ad.add (k * 4)).block < wr.heap.size:=by rw[addBlock];have:=HBw.out.size;omega
   have Ht:=hid ht
   have HO:=hid (order6_c xe wr _ Hc.out (HF.out xe (List.mem_of_getElem? ht)))
   have HKc:Hid (∀ W:World,Below wr.heap.size wr W→W.cell? ⟨w.heap.size,1,none⟩=some (.slice (some ad) p.rules.length s1)∧W.cell? ⟨(ad.add (k * 4)).block,(ad.add (k * 4)).off+3,none⟩=some (.int .i64 xe.line)):=hid fun W hW=>⟨(hW.cell (p:=⟨w.heap.size,1,none⟩) hz0).trans x1,(hW.cell (p:=⟨(ad.add (k * 4)).block,(ad.add (k * 4)).off+3,none⟩) hal).trans c3⟩
   clear ht
   go_wp2_with fail
   refine HO.out.mono ?_
   rintro e2 w2 ⟨hR,b2⟩
   have B2:=hid (HB.out.trans (b2.mono HB.out.size))
   have BB2:=hid (HBw.out.trans (b2.mono HBw.out.size))
   have hal2:(ad.add (k * 4)).block < w2.heap.size:=Nat.lt_of_lt_of_le hal b2.size
   have hz2:w.heap.size < w2.heap.size:=Nat.lt_of_lt_of_le hz0 b2.size
   obtain⟨z1,z3⟩:=HKc.out w2 b2
   clear b2 x1 c0 c1 c2 c3 HO
   rcases hR with ⟨h0,rfl⟩ | ⟨h0,v,rfl,_⟩
   ·have H0:=hid h0
    have hne:(ordE xe != 0)=true:=by simpa using h0
    obtain⟨qe,hqe⟩:∃ q,ordE xe=q:=⟨_,rfl⟩
    have Hqe:=hid hqe
    rw[hqe] at hne ⊢
    clear h0 hqe
    go_wp2
    go_ret2
    refine⟨_,_,rfl,?_,BB2.out⟩
    rw[← Hqe.out]
    exact .bad HA1.out Ht.out Hg.out H0.out
   ·have H0:=hid h0
    clear h0
    have Hg2:Hid (∀ (j:Nat) (r':Ru),j < k+1→p.rules[j]?=some r'→ordE r'=0):=hid fun j r' hj hr'=>by
     rcases Nat.lt_or_ge j k with h | h
     ·exact Hg.out j r' h hr'
     ·obtain rfl:j=k:=by omega
      rw[Ht.out] at hr'
      cases hr'
      exact H0.out
    go_wp2
    go_roundw
    case rel=>exact⟨k+1,hlt,by go_num,Hg2.out,B2.out⟩
    case measure=>simp[intOf];omega
  ·have hlt':¬ (k:Int) < (p.rules.length:Int):=by omega
   have Hall:Hid (∀ (j:Nat) (r':Ru),p.rules[j]?=some r'→ordE r'=0):=hid fun j r' hr=>Hg.out j r' (by have:=(List.getElem?_eq_some_iff.1 hr).1;omega) hr
   go_wp2
   go_ret2
   exact⟨_,_,rfl,.ok HA1.out Hall.out,HBw.out⟩
set_option maxRecDepth 100000 in
set_option maxHeartbeats 16000000 in
theorem dsafeChecks_c (p:Pg) (e a b c d x y:Addr) (w:World) (cs:List Value) (hp:PgC w w.heap.size p cs) (E:EnvC e a b c d x y w) :
  Calls Tryz.prog 6 #[.agg cs.toArray] w fun e w'=>e=.returned (.bool true)∧Below w.heap.size w w':=by
 have HP:=hid hp
 have HE:=hid E
 have hb0:∀ C:Obj,Below w.heap.size w (w.alloc C):=fun C=>(Below.refl _ _).alloc (Nat.le_refl _) _
 have HB0:=hid hb0
 have HH:=hid (fun (W:World) (hb:Below w.heap.size w W)=>shown6_c e x y W (E.below hb).ez)
 have HS:=hid (fun (W:World) (hb:Below w.heap.size w W)=>small_c p W cs ((hp.below hb).more hb.size))
 obtain⟨p1,q1,r1,s1,rfl,_,_⟩:=hp.look
 clear hp E hb0
 go_enter Tryz.func6,Tryz.ntmps6
 go_wp2_with fail
 refine (HH.out _ (HB0.out _)).mono ?_
 rintro e1 w1 ⟨rfl,b1⟩
 have R1:=hid ((b1.block w.heap.size (by simp)).trans (World.alloc_heap_new w _))
 have B1:=hid ((HB0.out _).trans (b1.mono (by simp)))
 have x0:=row_cells R1.out 0
 have x1:=row_cells R1.out 1
 simp at x0 x1
 have hz1:w.heap.size < w1.heap.size:=heap_lt R1.out
 clear b1
 go_wp2_with fail
 refine (HS.out _ B1.out).mono ?_
 rintro e2 w2 ⟨rfl,b2⟩
 have R2:=hid ((b2.block w.heap.size hz1).trans R1.out)
 have B2:=hid (B1.out.trans (b2.mono B1.out.size))
 have y0:=row_cells R2.out 0
 have y1:=row_cells R2.out 1
 simp at y0 y1
 have hz2:w.heap.size < w2.heap.size:=heap_lt R2.out
 clear b2 x0 x1
 unfold smallI
 cases hs:smallP p with
 | false=>
  clear hs
  go_wp2
  go_ret
  exact⟨rfl,B2.out⟩
 | true=>
 have HF:=hid (few_small' hs)
 have HT:=hid (small_terms hs)
 clear hs
 have HC1:=hid (check6_c p _ e a b c d x y w2 ((HP.out.below B2.out).more B2.out.size) HF.out (fun r hr=>⟨few_small (HT.out r hr).1 fun t ht=>Nat.le_trans ((HT.out r hr).2 t ht) (by decide),fewP_small (HT.out r hr).1⟩) (HE.out.below B2.out))
 have HC2:=hid (fun (W:World) (hb:Below w.heap.size w W)=>rcheck6_c p _ W ((HP.out.below hb).more hb.size) HF.out (fun r hr=>by have:=body_len r;have:=(HT.out r hr).1;omega))
 go_wp2_with fail
 refine HC1.out.mono ?_
 rintro e3 w3 ⟨ln3,k3,rfl,hA3,b3⟩
 have R3:=hid ((b3.block w.heap.size hz2).trans R2.out)
 have B3:=hid (B2.out.trans (b3.mono B2.out.size))
 have HA3:=hid hA3
 have z0:=row_cells R3.out 0
 have z1:=row_cells R3.out 1
 simp at z0 z1
 have hz3:w.heap.size < w3.heap.size:=heap_lt R3.out
 clear b3 y0 y1 hA3 HC1
 have HCC:=hid (HC2.out w3 B3.out)
 go_wp2_with fail
 refine HCC.out.mono ?_
 rintro e4 w4 ⟨ln4,k4,rfl,hA4,b4⟩
 obtain⟨rfl,rfl⟩:=dsc_same (fun _ _ _ _ h h'=>refch_same h h') HA3.out hA4
 have B4:=hid (B3.out.trans (b4.mono B3.out.size))
 have e1':(ln3 == ln3)=true:=by simp
 have e2':(k3 == k3)=true:=by simp
 clear b4 z0 z1 hA4 HCC
 go_wp2
 go_ret
 exact⟨rfl,B4.out⟩
end Go.Proofs.YtfmldnbcjbflbaaGreatDoor
