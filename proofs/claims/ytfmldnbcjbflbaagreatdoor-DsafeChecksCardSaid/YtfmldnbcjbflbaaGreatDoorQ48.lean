/- Topen@2, Zck@2, Yrt9@2, Cframe@2 -/
import Derived.Deep.DeepHandedRow
import Derived.Deep.DeepWitnessRowRef
import Derived.LaidHandle
import Derived.LaidMore
import Derived.OpenShut
import Derived.ProofKit
import Derived.Stop.LaidErr
import Derived.Stop.LaidTwo
import Derived.Test.YtfmldnbcjbflbaaGreatDoorCards
import Derived.Test.YtfmldnbcjbflbaaGreatDoorTie
import Derived.Test.YtfmldnbcjbflbaaGreatDoorQ47
import Derived.Test.YtfmldnbcjbflbaaGreatDoorQ38
set_option linter.unusedSimpArgs false
set_option linter.unusedVariables false
namespace Go.Proofs.YtfmldnbcjbflbaaGreatDoor
open Lib(hid)
open Go.RowKit Go.ChangeShapes Go.WideShapes Go.Deep
theorem parts6 {H:Type} {enc:TypeId × Value→H} {P:Program} {w:World} {base:Nat} {spare:Nat→Bool} {held:Bool} {t:TypeId} {f0 f1 f2 f3 f4 f5:Field} {fuel:Nat} {cs:List Value} {x:DataW H × List MemPlace} (ht:P.underlying t=some (.struct #[f0,f1,f2,f3,f4,f5])) (h:DataW.trod enc P w base spare held fuel t cs=some x) :
  ∃ (y0 y1 y2 y3 y4 y5:DataW H × List MemPlace) (n:Nat),fuel=n+1∧cs.length=P.cellsOf t∧DataW.trod enc P w base spare held n f0.type ((cs.drop f0.offset).take (P.cellsOf f0.type))=some y0∧DataW.trod enc P w base spare held n f1.type ((cs.drop f1.offset).take (P.cellsOf f1.type))=some y1∧DataW.trod enc P w base spare held n f2.type ((cs.drop f2.offset).take (P.cellsOf f2.type))=some y2∧DataW.trod enc P w base spare held n f3.type ((cs.drop f3.offset).take (P.cellsOf f3.type))=some y3∧DataW.trod enc P w base spare held n f4.type ((cs.drop f4.offset).take (P.cellsOf f4.type))=some y4∧DataW.trod enc P w base spare held n f5.type ((cs.drop f5.offset).take (P.cellsOf f5.type))=some y5:=by
 obtain⟨xs,n,hn,rfl,hl,hlen,hf⟩:=DataW.trod_struct ht h
 match xs,hlen with
 | [y0,y1,y2,y3,y4,y5],_=>exact⟨y0,y1,y2,y3,y4,y5,n,hn,hl,by simpa using hf 0 f0 rfl,by simpa using hf 1 f1 rfl,by simpa using hf 2 f2 rfl,by simpa using hf 3 f3 rfl,by simpa using hf 4 f4 rfl,by simpa using hf 5 f5 rfl⟩
section
variable {H:Type} {enc:TypeId × Value→H} {w:World}
theorem cDecl:Tryz.prog.cellsOf 58=6:=by kernel_rfl
theorem cProg:Tryz.prog.cellsOf 25=2:=by kernel_rfl
theorem cBool:Tryz.prog.cellsOf 4=1:=by kernel_rfl
theorem cRules:Tryz.prog.cellsOf 23=1:=by kernel_rfl
theorem cDecls:Tryz.prog.cellsOf 22=1:=by kernel_rfl
theorem cStrs:Tryz.prog.cellsOf 45=1:=by kernel_rfl
theorem cInts:Tryz.prog.cellsOf 39=1:=by kernel_rfl
set_option maxRecDepth 100000 in
theorem open_decl (fuel:Nat) (cs:List Value) (x:DataW H × List MemPlace) (h:DataW.trod enc Tryz.prog w 0 (fun _=>true) true fuel 58 cs=some x):∃ t,DeC w w.heap.size t cs:=by
 obtain⟨y0,y1,y2,y3,y4,y5,n,rfl,hcl,h0,h1,h2,h3,h4,h5⟩:=parts6 Tryz.underlying58 h
 rw[cDecl] at hcl
 match cs,hcl with
 | [c0,c1,c2,c3,c4,c5],_=>
  simp only[cInt,cStr,cStrs,cInts,cBool,List.drop_zero,List.drop_succ_cons,List.take_succ_cons,List.take_zero] at h0 h1 h2 h3 h4 h5
  obtain⟨s0,e0,_,z0⟩:=DataW.trod_string Tryz.underlying9 h0
  obtain⟨b3,e3,_⟩:=DataW.trod_bool Tryz.underlying4 h3
  obtain⟨b4,e4,_⟩:=DataW.trod_bool Tryz.underlying4 h4
  obtain⟨k5,e5,_,w5⟩:=DataW.trod_int Tryz.underlying3 h5
  simp only[List.cons.injEq,and_true] at e0 e3 e4 e5
  subst e0 e3 e4 e5
  obtain⟨l,hl⟩:=open_sl (R:=StrC) Tryz.underlying45 cStr (by omega) (fun m cs y hm hy=>by obtain⟨s,e,_,z⟩:=DataW.trod_string Tryz.underlying9 hy;exact⟨s,e,z⟩) h1
  obtain⟨m,hm⟩:=open_sl (R:=IntC) Tryz.underlying39 cInt (by omega) (fun m cs y hm hy=>by obtain⟨s,e,_,z⟩:=DataW.trod_int Tryz.underlying3 hy;exact⟨s,e,wf_i64 z⟩) h2
  exact⟨⟨s0,l,m,b3,b4,k5⟩,_,_,rfl,z0,wf_i64 w5,hl,hm⟩
set_option maxRecDepth 100000 in
theorem open_prog (fuel:Nat) (cs:List Value) (x:DataW H × List MemPlace) (h:DataW.trod enc Tryz.prog w 0 (fun _=>true) true fuel 25 cs=some x):∃ t,PgC w w.heap.size t cs:=by
 obtain⟨y0,y1,n,rfl,hcl,h0,h1⟩:=parts2 Tryz.underlying25 h
 rw[cProg] at hcl
 match cs,hcl with
 | [c0,c1],_=>
  simp only[cDecls,cRules,List.drop_zero,List.drop_succ_cons,List.take_succ_cons,List.take_zero] at h0 h1
  obtain⟨l,hl⟩:=open_sl Tryz.underlying22 cDecl (by omega) (fun m cs y hm hy=>open_decl m cs y hy) h0
  obtain⟨m,hm⟩:=open_sl Tryz.underlying23 cRule (by omega) (fun m cs y hm hy=>open_rule m cs y hy) h1
  exact⟨⟨l,m⟩,_,_,rfl,hl,hm⟩
end
end Go.Proofs.YtfmldnbcjbflbaaGreatDoor
namespace Go.Proofs.YtfmldnbcjbflbaaGreatDoor
open Lib(hid)
open Go.RowKit
inductive DsC (C:Int→Int→Prop) (rs:List Ru):Int→Int→Prop
 | typ {ln e:Int}:C ln e→e≠0→DsC C rs ln e
 | bad {ln:Int} {k:Nat} {r:Ru}:C ln 0→rs[k]?=some r→(∀ (j:Nat) (r':Ru),j < k→rs[j]?=some r'→ordE r'=0)→ordE r≠0→DsC C rs r.line (ordE r)
 | ok {ln:Int}:C ln 0→(∀ (j:Nat) (r':Ru),rs[j]?=some r'→ordE r'=0)→DsC C rs 0 0
theorem dsc_same {C C':Int→Int→Prop} {rs:List Ru} (hs:∀ a b a' b',C a b→C' a' b'→a=a'∧b=b') {a b a' b':Int} (h:DsC C rs a b) (h':DsC C' rs a' b'):a=a'∧b=b':=by
 cases h with
 | typ h1 h2=>
  cases h' with
  | typ k1 k2=>exact hs _ _ _ _ h1 k1
  | bad k1=>exact absurd (hs _ _ _ _ h1 k1).2 h2
  | ok k1=>exact absurd (hs _ _ _ _ h1 k1).2 h2
 | @bad _ k r h1 h2 h3 h4=>
  cases h' with
  | typ k1 k2=>exact absurd (hs _ _ _ _ h1 k1).2.symm k2
  | @bad _ k' r' k1 k2 k3 k4=>
   rcases Nat.lt_trichotomy k k' with h | h | h
   ·exact absurd (k3 k r h h2) h4
   ·subst h
    rw[h2] at k2
    cases k2
    exact⟨rfl,rfl⟩
   ·exact absurd (h3 k' r' h k2) k4
  | ok k1 k2=>exact absurd (k2 _ _ h2) h4
 | ok h1 h2=>
  cases h' with
  | typ k1 k2=>exact absurd (hs _ _ _ _ h1 k1).2.symm k2
  | bad k1 k2 k3 k4=>exact absurd (h2 _ _ k2) k4
  | ok k1 k2=>exact⟨rfl,rfl⟩
structure EnvC (e a b c d x y:Addr) (w:World):Prop where
 ey:EnvY e a b c d w
 zz:ZEnv w.heap.size x y w
theorem EnvC.below {e a b c d x y:Addr} {w w':World} (h:EnvC e a b c d x y w) (hb:Below w.heap.size w w'):EnvC e a b c d x y w':=⟨h.ey.below hb,(h.zz.below hb).more hb.size⟩
theorem EnvC.ez {e a b c d x y:Addr} {w:World} (h:EnvC e a b c d x y w):EnvZ e x y w:=⟨h.ey.tr,h.zz⟩
def BadV (a u:Addr) (q:Int) (v:Value):Prop:=(∃ t x,v=.iface t x)∧∀ W,ZEnv W.heap.size a u W→Calls Tryz.prog 39 #[v] W fun e W'=>e=.returned (.int .i64 q)∧Below W.heap.size W W'
theorem wkR_two {n0:Nat} {w:World} {a u:Addr} {r:Ru} {e:Ending} {w':World} (h:WkR n0 w a r e w'):Below n0 w w' ∧
  ((ordE r≠0∧∃ v,e=.returned (.tuple #[.agg #[.slice none 0 0,.map none,.bool false],v])∧BadV a u (ordE r) v)∨(ordE r=0∧∃ o n c M,e=.returned (.tuple #[.agg #[.slice o n c,.map (some M),.bool (invZ r)],.nilIface]))):=by
 cases h with
 | tree h1 h2=>exact⟨h2,.inl ⟨by rw[ordE_tree h1];decide,_,rfl,⟨_,_,rfl⟩,fun W E=>by rw[ordE_tree h1];exact numT_c _ a u W E⟩⟩
 | ready k h1 h0 h2=>exact⟨h2,.inl ⟨by rw[ordE_un h1 h0];decide,_,rfl,⟨_,_,rfl⟩,fun W E=>by rw[ordE_un h1 h0];exact numR_c k _ a u W E (Nat.le_refl _)⟩⟩
 | bound s h1 h0 h2=>exact⟨h2,.inl ⟨by rw[ordE_un h1 h0];decide,_,rfl,⟨_,_,rfl⟩,fun W E=>by rw[ordE_un h1 h0];exact numB_c s _ a u W E (Nat.le_refl _)⟩⟩
 | good h1 h0 hs hm hM h2=>
  obtain⟨o,c,rfl,_⟩:=SlOf.open hs
  exact⟨h2,.inr ⟨ordE_ok h1 h0,_,_,_,_,rfl⟩⟩
set_option maxRecDepth 100000 in
set_option maxHeartbeats 16000000 in
theorem check6_c (p:Pg) (cs:List Value) (e a b c d x y:Addr) (w:World) (hp:PgC w w.heap.size p cs) (hf:FewP p) (hz:∀ r ∈ p.rules,FewR r∧FewP' (partsZ r)) (E:EnvC e a b c d x y w) :
  Calls Tryz.prog 23 #[.agg cs.toArray] w fun e w'=>∃ ln k,e=.returned (.tuple #[.int .i64 ln,.int .i64 k])∧DsC (ChA p) p.rules ln k∧Below w.heap.size w w':=by
 have HP:=hid hp
 obtain⟨p1,q1,r1,s1,rfl,H1,H2⟩:=hp.look
 obtain⟨o2,k2,e2,hc2,hm2,S2⟩:=SlOf.open H2
 cases e2
 have hb0:∀ C:Obj,Below w.heap.size w (w.alloc C):=fun C=>(Below.refl _ _).alloc (Nat.le_refl _) _
 have HB0:=hid hb0
 have HCk:=hid (fun C:Obj=>check_c p _ e a b c d (w.alloc C) ((hp.below (hb0 C)).more (hb0 C).size) hf (E.below (hb0 C)).ey)
 have HE:=hid E
 have HF:=hid hz
 clear H1 H2 hp E hb0 hf hz
 go_enter Tryz.func23,Tryz.ntmps23
 go_wp2_with fail
 refine (HCk.out _).mono ?_
 rintro e1 w1 ⟨ln1,k1,rfl,hA1,b1⟩
 have R1:=hid ((b1.block w.heap.size (by simp)).trans (World.alloc_heap_new w _))
 have B1:=hid ((HB0.out _).trans (b1.mono (by simp)))
 have HA1:=hid hA1
 clear b1 HCk hA1
 obtain⟨x0,x1⟩:w1.cell? ⟨w.heap.size,0,none⟩=some (.slice p1 p.decls.length q1)∧w1.cell? ⟨w.heap.size,1,none⟩=some (.slice r1 p.rules.length s1):=⟨row_cells R1.out 0,row_cells R1.out 1⟩
 have hz1:w.heap.size < w1.heap.size:=heap_lt R1.out
 by_cases hk0:k1=0
 case neg=>
  have hne:(k1 != 0)=true:=by simpa using hk0
  have Hk0:=hid hk0
  clear hk0
  go_wp2
  go_ret2
  exact⟨_,_,rfl,.typ HA1.out Hk0.out,B1.out⟩
 subst hk0
 go_wp2
 go_loopw [22] (fun i wr=>∃ k:Nat,k≤p.rules.length∧i=.int .i64 k∧(∀ (j:Nat) (r':Ru),j < k→p.rules[j]?=some r'→ordE r'=0)∧Below w1.heap.size w1 wr) (fun i _=>p.rules.length - (intOf i).toNat)
 case atStart=>exact⟨0,Nat.zero_le _,rfl,fun j r' h=>absurd h (Nat.not_lt_zero _),Below.refl _ _⟩
 case round=>
  obtain⟨k,hk,rfl,hg,hB⟩:=hrel
  have HBw:=hid (B1.out.trans (hB.mono B1.out.size))
  have HB:=hid hB
  have Hg:=hid hg
  clear hg
  by_cases hlt:k < p.rules.length
  ·have hlt':(k:Int) < (p.rules.length:Int):=by omega
   have hk0:(0:Int)≤(k:Int):=by omega
   obtain⟨xe,ht⟩:∃ xe,p.rules[k]?=some xe:=⟨p.rules[k],List.getElem?_eq_getElem hlt⟩
   obtain⟨ad,a3,b3,a4,b4,rfl,ha,Hc,c0,c1,c2,c3⟩:=ru_at S2 HBw.out ht
   have hal:(ad.add (k * 4)).block < wr.heap.size:=by rw[addBlock];have:=HBw.out.size;omega
   have Ht:=hid ht
   obtain⟨hfr,hfp⟩:=HF.out xe (List.mem_of_getElem? ht)
   obtain⟨W3,hW3⟩:∃ W,wr.alloc (.cells #[.string xe.head.rel,.slice a3 xe.head.l.length b3,.slice a4 xe.body.length b4,.int .i64 xe.line] 37)=W:=⟨_,rfl⟩
   have b3':Below wr.heap.size wr W3:=by rw[← hW3];exact (Below.refl _ _).alloc (Nat.le_refl _) _
   have r3:W3.heap[wr.heap.size]?=some (.cells #[.string xe.head.rel,.slice a3 xe.head.l.length b3,.slice a4 xe.body.length b4,.int .i64 xe.line] 37 (0,0)):=by rw[← hW3];exact World.alloc_heap_new wr _
   obtain⟨qr,hqr⟩:∃ q,wr.heap.size=q:=⟨_,rfl⟩
   have B3:=hid (HBw.out.trans (b3'.mono HBw.out.size))
   have HK:=hid (callsIn_wide.1 (walkThrough_in xe _ e x y W3.heap.size W3 rfl ((Hc.out.below b3').more b3'.size) hfr hfp (HE.out.below B3.out).zz (HE.out.below B3.out).ey.tr))
   have B13:=hid (HB.out.trans (b3'.mono HB.out.size))
   have R3:=hid r3
   have HW3:=hid hW3
   clear ht hfr hfp b3' hW3
   rw[hqr] at R3 r3
   obtain⟨y0,y1,y2,y3⟩:=row4 r3
   have hl3:=heap_lt r3
   clear r3
   go_wp2_with fail
   try rw[HW3.out]
   try rw[hqr]
   refine HK.out.mono ?_
   intro e4 w4 hT
   obtain⟨b4',hT⟩:=wkR_two (u:=y) hT
   have B4:=hid (B3.out.trans (b4'.mono B3.out.size))
   have B14:=hid (B13.out.trans (b4'.mono B13.out.size))
   have R4:=hid ((b4'.block _ hl3).trans R3.out)
   clear b4' HK y0 y1 y2 y3
   obtain⟨y0,y1,y2,y3⟩:=row4 R4.out
   have hl4:=heap_lt R4.out
   rcases hT with ⟨h0,v,rfl,⟨tv,xv,rfl⟩,hN⟩ | ⟨h0,o,n,cc,M,rfl⟩
   ·have HN:=hid (fun (W:World) (hb:Below w.heap.size w W)=>hN W (HE.out.below hb).zz)
    have H0:=hid h0
    obtain⟨qe,hqe⟩:∃ q,ordE xe=q:=⟨_,rfl⟩
    have Hqe:=hid hqe
    rw[hqe] at HN
    clear h0 hN hqe
    go_wp2_with fail
    obtain⟨W5,hW5⟩:∃ W,w4.alloc (.cells #[.slice none 0 0,.map none,.bool false] 72)=W:=⟨_,rfl⟩
    have b5:Below w4.heap.size w4 W5:=by rw[← hW5];exact (Below.refl _ _).alloc (Nat.le_refl _) _
    have B5:=hid (B4.out.trans (b5.mono B4.out.size))
    have B15:=hid (B14.out.trans (b5.mono B14.out.size))
    have R5:=hid ((b5.block _ hl4).trans R4.out)
    try rw[hW5]
    clear b5 hW5 y0 y1 y2 y3
    obtain⟨y0,y1,y2,y3⟩:=row4 R5.out
    have hl5:=heap_lt R5.out
    have hS0:W5.drew.cell? ⟨qr,3,none⟩=some (.int .i64 xe.line)∧Below w.heap.size w W5.drew:=⟨y3,below_drewN B5.out⟩
    have HKp:Hid (∀ W:World,Below W5.drew.heap.size W5.drew W→W.cell? ⟨qr,3,none⟩=some (.int .i64 xe.line)∧Below w.heap.size w W):=hid fun W hW=>⟨(hW.cell (p:=⟨qr,3,none⟩) hl5).trans y3,(below_drewN B5.out).trans (hW.mono B5.out.size)⟩
    have HN5:=hid (HN.out W5.drew (below_drewN B5.out))
    go_region_held3 (fun W=>W.cell? ⟨qr,3,none⟩=some (.int .i64 xe.line)∧Below w.heap.size w W) (first | exact hk1 | exact hS0)
     ((go_at_call 39;refine HN5.out.mono ?_;rintro e6 w6 ⟨rfl,b6⟩;have hk1:=HKp.out _ b6))
    obtain⟨z3,hbz⟩:=hk1
    have HBz:=hid hbz
    clear hbz
    go_wp2
    go_ret2
    refine⟨_,_,rfl,?_,HBz.out⟩
    rw[← Hqe.out]
    exact .bad HA1.out Ht.out Hg.out H0.out
   ·have H0:=hid h0
    clear h0
    have Hg2:Hid (∀ (j:Nat) (r':Ru),j < k+1→p.rules[j]?=some r'→ordE r'=0):=hid fun j r' hj hr'=>by
     rcases Nat.lt_or_ge j k with h | h
     ·exact Hg.out j r' h hr'
     ·obtain rfl:j=k:=by omega
      rw[Ht.out] at hr'
      cases hr'
      exact H0.out
    have B6:Hid (∀ X,Below w1.heap.size w1 (w4.alloc X)):=hid fun X=>B14.out.trans (((Below.refl _ _).alloc (Nat.le_refl _) X).mono B14.out.size)
    go_wp2
    go_roundw
    case rel=>exact⟨k+1,hlt,by go_num,Hg2.out,B6.out _⟩
    case measure=>simp[intOf];omega
  ·have hlt':¬ (k:Int) < (p.rules.length:Int):=by omega
   have Hall:Hid (∀ (j:Nat) (r':Ru),p.rules[j]?=some r'→ordE r'=0):=hid fun j r' hr=>Hg.out j r' (by have:=(List.getElem?_eq_some_iff.1 hr).1;omega) hr
   go_wp2
   go_ret2
   exact⟨_,_,rfl,.ok HA1.out Hall.out,HBw.out⟩
end Go.Proofs.YtfmldnbcjbflbaaGreatDoor
namespace Go.Proofs.YtfmldnbcjbflbaaGreatDoor
open Lib(hid)
open Go.RowKit
inductive RefCh (p:Pg):Int→Int→Prop
 | tree:rightP p=false→RefCh p 0 30
 | twice {i:Nat} {d:De}:rightP p=true→p.decls[i]?=some d→findY d.rel p.decls≠some i→NoTw p.decls i→RefCh p d.line 50
 | rule {k:Nat} {r:Ru} {l:List Int} {e:Int}:rightP p=true→NoTw p.decls p.decls.length→p.rules[k]?=some r→(∀ (j:Nat) (r':Ru),j < k→p.rules[j]?=some r'→∃ l,RefT p.decls r' l 0)→RefT p.decls r l e→e≠0→RefCh p r.line e
 | ok:rightP p=true→NoTw p.decls p.decls.length→(∀ r ∈ p.rules,∃ l,RefT p.decls r l 0)→RefCh p 0 0
theorem notw_le {ds:List De} {i:Nat} {d:De} (hd:ds[i]?=some d) (hf:findY d.rel ds≠some i) {k:Nat} (h:NoTw ds k):k≤i:=by
 rcases Nat.lt_or_ge i k with hlt | hge
 ·exact absurd (h i d hlt hd) hf
 ·exact hge
theorem refch_same {p:Pg} {ln e ln' e':Int} (h:ChA p ln e) (h':RefCh p ln' e'):ln=ln'∧e=e':=by
 cases h with
 | tree h1=>
  cases h' with
  | tree=>exact⟨rfl,rfl⟩
  | twice g1=>rw[h1] at g1;cases g1
  | rule g1=>rw[h1] at g1;cases g1
  | ok g1=>rw[h1] at g1;cases g1
 | @twice i d h1 h2 h3 h4=>
  have hil:=(List.getElem?_eq_some_iff.1 h2).1
  cases h' with
  | tree g1=>rw[h1] at g1;cases g1
  | @twice j d' g1 g2 g3 g4=>
   have a:=notw_le h2 h3 g4
   have b:=notw_le g2 g3 h4
   obtain rfl:i=j:=by omega
   rw[h2] at g2
   cases g2
   exact⟨rfl,rfl⟩
  | rule g1 g2=>have:=notw_le h2 h3 g2;omega
  | ok g1 g2=>have:=notw_le h2 h3 g2;omega
 | @rule k r l e h1 h2 h3 h4 h5 h6=>
  cases h' with
  | tree g1=>rw[h1] at g1;cases g1
  | twice g1 g2 g3 g4=>
   have:=notw_le g2 g3 h2
   have:=(List.getElem?_eq_some_iff.1 g2).1
   omega
  | @rule k' r' l' e' g1 g2 g3 g4 g5 g6=>
   rcases Nat.lt_trichotomy k k' with hlt | rfl | hgt
   ·obtain⟨m,hm⟩:=g4 k r hlt h3
    exact absurd (ref_same h5 hm).2 h6
   ·rw[h3] at g3
    cases g3
    exact⟨rfl,(ref_same h5 g5).2⟩
   ·obtain⟨m,hm⟩:=h4 k' r' hgt g3
    exact absurd (ref_same hm g5).2.symm g6
  | ok g1 g2 g3=>
   obtain⟨m,hm⟩:=g3 r (List.mem_of_getElem? h3)
   exact absurd (ref_same h5 hm).2 h6
 | ok h1 h2 h3=>
  cases h' with
  | tree g1=>rw[h1] at g1;cases g1
  | twice g1 g2 g3 g4=>
   have:=notw_le g2 g3 h2
   have:=(List.getElem?_eq_some_iff.1 g2).1
   omega
  | rule g1 g2 g3 g4 g5 g6=>
   obtain⟨m,hm⟩:=h3 _ (List.mem_of_getElem? g3)
   exact absurd (ref_same hm g5).2.symm g6
  | ok=>exact⟨rfl,rfl⟩
end Go.Proofs.YtfmldnbcjbflbaaGreatDoor
namespace Go.Proofs.YtfmldnbcjbflbaaGreatDoor
open Lib(hid)
open Go.ChangeShapes Go.WideShapes Go.ChangeAt Go.RowKit
theorem laid_skip {P:Program} {x y:String × DataW Unit} {r:List (String × DataW Unit)} {w:World} (h:laidMet P (x::y::r) w):laidMet P (x::r) w:=by
 obtain⟨ps,hv,hnd,hrows⟩:=h
 obtain⟨n,d⟩:=x
 obtain⟨m,e⟩:=y
 obtain⟨g,t,cs,fuel,p,q,h1,h2,h3,h4,hq,rfl⟩:=hv
 obtain⟨g',t',cs',fuel',p',q',_,_,_,_,hq',rfl⟩:=hq
 have hs:List.Sublist (MemPlace.row ⟨g,0,none⟩ cs.size++p++q') (MemPlace.row ⟨g,0,none⟩ cs.size++p++(MemPlace.row ⟨g',0,none⟩ cs'.size++p'++q')):=(List.sublist_append_right _ _).append_left _
 exact⟨_,⟨g,t,cs,fuel,p,q',h1,h2,h3,h4,hq',rfl⟩,hnd.sublist hs,fun b off hm=>hrows b off (hs.subset hm)⟩
theorem own:ownKnob Tryz.prog.godebug=none:=by kernel_rfl
theorem laidOut:laidOutB Tryz.prog=true:=by kernel_rfl
theorem cellsE:Tryz.prog.cellsOf 216=1:=by kernel_rfl
theorem cellsS:Tryz.prog.cellsOf 9=1:=by kernel_rfl
theorem star : "*" ++ "errors.errorString" = "*errors.errorString" := by decide
theorem rowE (u : TypeId) (h : Tryz.prog.typeName? 3 u = some "*errors.errorString") : u = 191 :=
 typeName_ptr_named (nm := "errors.errorString") (by rw [star]; kernel_rfl) (by kernel_rfl) (by decide) u (by rw [star]; exact h)
theorem gTree : Tryz.prog.globalNamed "sorites/dtree.errTree" = some 0 := by kernel_rfl
theorem gTreeType:(Tryz.prog.globals[0]?).map (·.type)=some 62:=by kernel_rfl
theorem gTw : Tryz.prog.globalNamed "sorites/dtype.errTwice" = some 1 := by kernel_rfl
theorem gTwT:(Tryz.prog.globals[1]?).map (·.type)=some 62:=by kernel_rfl
theorem gNo : Tryz.prog.globalNamed "sorites/dtype.errNoRel" = some 2 := by kernel_rfl
theorem gNoT:(Tryz.prog.globals[2]?).map (·.type)=some 62:=by kernel_rfl
theorem gAr : Tryz.prog.globalNamed "sorites/dtype.errArity" = some 3 := by kernel_rfl
theorem gArT:(Tryz.prog.globals[3]?).map (·.type)=some 62:=by kernel_rfl
theorem gTy : Tryz.prog.globalNamed "sorites/dtype.errType" = some 4 := by kernel_rfl
theorem gTyT:(Tryz.prog.globals[4]?).map (·.type)=some 62:=by kernel_rfl
theorem gZt : Tryz.prog.globalNamed "sorites/dsafe.errTree" = some 5 := by kernel_rfl
theorem gZtT:(Tryz.prog.globals[5]?).map (·.type)=some 62:=by kernel_rfl
theorem gZu : Tryz.prog.globalNamed "sorites/dsafe.errUnsafe" = some 6 := by kernel_rfl
theorem gZuT:(Tryz.prog.globals[6]?).map (·.type)=some 62:=by kernel_rfl
abbrev laidAll : List (String × DataW Unit) := [("sorites/dtree.errTree", Rows.laid_sorites_dtree_errTree), ("sorites/dtype.errTwice", Rows.laid_sorites_dtype_errTwice), ("sorites/dtype.errNoRel", Rows.laid_sorites_dtype_errNoRel), ("sorites/dtype.errArity", Rows.laid_sorites_dtype_errArity), ("sorites/dtype.errType", Rows.laid_sorites_dtype_errType), ("sorites/dsafe.errTree", Rows.laid_sorites_dsafe_errTree), ("sorites/dsafe.errUnsafe", Rows.laid_sorites_dsafe_errUnsafe)]
theorem var_lt {W:World} {n:String} {g:Nat} {cs:Array Value} (h:W.var? Tryz.prog n=some cs) (hg:Tryz.prog.globalNamed n=some g):g < W.heap.size:=by
 unfold World.var? at h
 simp only[hg,Option.bind_some] at h
 rcases Nat.lt_or_ge g W.heap.size with h' | h'
 ·exact h'
 ·simp[Array.getElem?_eq_none h'] at h
theorem same_ptr {W:World} {n:String} {a b:Addr} (h:W.var? Tryz.prog n=some #[.iface 191 (.pointer (some a))]) (k:W.var? Tryz.prog n=some #[.iface 191 (.pointer (some b))]):a=b:=by
 rw[h] at k
 simpa using k
theorem env_of_laid {W:World} (h:laidMetH Tryz.prog laidAll W):∃ e a b c d x y,EnvC e a b c d x y W:=by
 rw[MakeChecks.laidMetH_plain _ _ _ (by kernel_rfl)] at h
 have two := fun {n0 n1 : String} {text0 text1 : List UInt8} {r : List (String × DataW Unit)} {g0 g1 : Nat} (h : laidMet Tryz.prog ((n0, .iface "*errors.errorString" (.ptr (.agg [.lit (.string text0)]))) :: (n1, .iface "*errors.errorString" (.ptr (.agg [.lit (.string text1)]))) :: r) W) (hg0 : Tryz.prog.globalNamed n0 = some g0) (ht0 : (Tryz.prog.globals[g0]?).map (·.type) = some 62) (hg1 : Tryz.prog.globalNamed n1 = some g1) (ht1 : (Tryz.prog.globals[g1]?).map (·.type) = some 62) =>
  laid_sentinels2 h hg0 ht0 hg1 ht1 Tryz.underlying62 rowE Tryz.underlying191 Tryz.underlying216 rfl rfl Tryz.underlying9 cellsE cellsS
 obtain⟨e,se,hve,_⟩:=laid_sentinel h gTree gTreeType Tryz.underlying62 rowE Tryz.underlying191 Tryz.underlying216 rfl rfl Tryz.underlying9 cellsE cellsS
 have t1:=h.tail
 obtain⟨b,c,_,_,cb,cc,tb,tc,hvb,hvc,_,_,_,_,_,_,hbc,rb,rc⟩:=two t1 gTw gTwT gNo gNoT
 obtain⟨b2,d,_,_,_,cd,_,td,hvb2,hvd,_,_,_,_,_,_,hbd,_,rd⟩:=two (laid_skip t1) gTw gTwT gAr gArT
 obtain⟨b3,a,_,_,_,ca,_,ta,hvb3,hva,_,_,_,_,_,_,hba,_,ra⟩:=two (laid_skip (laid_skip t1)) gTw gTwT gTy gTyT
 obtain⟨c2,d2,_,_,_,_,_,_,hvc2,hvd2,_,_,_,_,_,_,hcd,_,_⟩:=two t1.tail gNo gNoT gAr gArT
 obtain⟨c3,a2,_,_,_,_,_,_,hvc3,hva2,_,_,_,_,_,_,hca,_,_⟩:=two (laid_skip t1.tail) gNo gNoT gTy gTyT
 obtain⟨d3,a3,_,_,_,_,_,_,hvd3,hva3,_,_,_,_,_,_,hda,_,_⟩:=two t1.tail.tail gAr gArT gTy gTyT
 obtain⟨x,y,_,_,cx,cy,tx,ty,hvx,hvy,_,_,_,_,_,_,hxy,rx,ry⟩:=two t1.tail.tail.tail.tail gZt gZtT gZu gZuT
 obtain rfl:=same_ptr hvb hvb2
 obtain rfl:=same_ptr hvb hvb3
 obtain rfl:=same_ptr hvc hvc2
 obtain rfl:=same_ptr hvc hvc3
 obtain rfl:=same_ptr hvd hvd2
 obtain rfl:=same_ptr hvd hvd3
 obtain rfl:=same_ptr hva hva2
 obtain rfl:=same_ptr hva hva3
 exact⟨e,a,b,c,d,x,y,⟨⟨by simpa using World.var?_cell gTree hve 0,var_lt hve gTree⟩,⟨by simpa[errV] using World.var?_cell gTy hva 0,by simpa[errV] using World.var?_cell gTw hvb 0,by simpa[errV] using World.var?_cell gNo hvc 0,by simpa[errV] using World.var?_cell gAr hvd 0,var_lt hva gTy,var_lt hvb gTw,var_lt hvc gNo,var_lt hvd gAr⟩,
  ⟨Ne.symm hba,Ne.symm hca,Ne.symm hda,Ne.symm hbc,Ne.symm hbd,Ne.symm hcd,⟨ca,ta,ra⟩,⟨cb,tb,rb⟩,⟨cc,tc,rc⟩,⟨cd,td,rd⟩⟩⟩,
  ⟨by simpa[errV] using World.var?_cell gZt hvx 0,by simpa[errV] using World.var?_cell gZu hvy 0,hxy,⟨cx,tx,rx⟩,⟨cy,ty,ry⟩,var_lt hvx gZt,var_lt hvy gZu,heap_lt rx,heap_lt ry⟩⟩
theorem door_met (os:Os) (args:Array Value):laidMetH Tryz.prog laidAll ((World.doorLaid Tryz.prog 142 os).forCall (fun _ _=>0) ⟨#[],args,[]⟩).memory:=by
 rw[MakeChecks.laidMetH_plain _ _ _ (by kernel_rfl)]
 exact laidMet_of_run' 8 (by kernel_rfl) (by kernel_rfl)
theorem below_trodAll {H:Type} {enc:TypeId × Value→H} {W W':World} (hb:Below W.heap.size W W') :
  ∀ {ts:List TypeId} {vs:List Value} {ds:List (DataW H)} {ps:List MemPlace},(∀ t ∈ ts,Tryz.prog.readableRec t=true∧t < Tryz.prog.types.size) →
   DataW.TrodAll enc Tryz.prog W 0 (fun _=>true) true ts vs ds ps→(∀ x ∈ ps,x.block < W.heap.size)→DataW.TrodAll enc Tryz.prog W' 0 (fun b=>decide (b < W.heap.size)) true ts vs ds ps
 | [],_,_,_,_,h,_=>by
  obtain⟨rfl,rfl,rfl⟩:=trodAll_nil h
  exact trodAll_mk0
 | t::ts,_,_,_,hr,h,hlt=>by
  obtain⟨v,vs',d,ds',p,q,rfl,rfl,rfl,h1,h2⟩:=trodAll_cons h
  exact trodAll_cons_mk (Below.trod laidOut (hr t (by simp)).1 (hr t (by simp)).2 h1 hb (fun x hx=>hlt x (by simp[hx])))
   (below_trodAll hb (fun t' ht'=>hr t' (by simp[ht'])) h2 (fun x hx=>hlt x (by simp[hx])))
theorem law_post {H:Type} {enc:TypeId × Value→H} {f:Func} {s:ChangeSpec} {W W':World} {args:Array Value} {ds gs:List (DataW H)} {before:List MemPlace}
  (hW:DataW.Whole enc Tryz.prog f.params.toList s.vars false W args.toList ds gs before) (hv:s.vars=[]) (hrt:f.resultTypes=#[4])
  (hfn:s.fn H ds={ results:=[.lit (.bool true)],args:=ds }) (hr:∀ t ∈ f.params.toList,Tryz.prog.readableRec t=true∧t < Tryz.prog.types.size) (hb:Below W.heap.size W W') :
  s.post enc Tryz.prog f false true false false W args (.bool true) W':=by
 have hlt:∀ x ∈ before,x.block < W.heap.size:=fun x hx=>by simpa using hW.lt x hx
 have hW0:=hW
 obtain⟨p,q,hA,hV,rfl,_,_⟩:=hW0
 rw[hv] at hV
 obtain⟨rfl,rfl⟩:=trodVars_none hV
 have e1:s.fn H (ds++[])={ results:=[.lit (.bool true)],args:=ds }:=by rw[List.append_nil];exact hfn
 refine⟨ds,[],p++[],[],p,[],hW,?_,?_,?_,World.keptBut_mono (fun _ h=>h.elim) (hb.frame (fun _=>False)),fun h=>by cases h⟩
 ·rw[e1,hrt]
  exact trodAll_mk1 (shut_bool Tryz.underlying4 true)
 ·rw[e1]
  exact below_trodAll hb hr hA (fun x hx=>hlt x (by simp[hx]))
 ·rw[e1,hv]
  rfl
end Go.Proofs.YtfmldnbcjbflbaaGreatDoor
