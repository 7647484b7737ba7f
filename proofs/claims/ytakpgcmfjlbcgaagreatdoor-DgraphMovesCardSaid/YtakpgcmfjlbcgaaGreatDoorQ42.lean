/- Ggs@0123, Gv@0123 -/
import Derived.Test.YtakpgcmfjlbcgaaGreatDoorQ39
import Derived.Test.YtakpgcmfjlbcgaaGreatDoorQ41
set_option linter.unusedSimpArgs false
set_option linter.unusedVariables false
namespace Go.Proofs.YtakpgcmfjlbcgaaGreatDoor
open Lib(hid)
open Go.RowKit Go.Maps
inductive GsR (n0:Nat) (w:World) (p:Pg):Ending→World→Prop
 | bad {ln k:Int} {w':World}:DsC (ChA p) p.rules ln k→k≠0→Below n0 w w'→GsR n0 w p (.returned (.tuple #[.slice none 0 0,.int .i64 ln,.int .i64 k])) w'
 | lay {ln:Int} {i:Nat} {r:Ru} {w':World}:DsC (ChA p) p.rules ln 0→p.rules[i]?=some r→(∀ r' ∈ p.rules.take i,layE (edgesG p) p.decls r'=0)→layE (edgesG p) p.decls r≠0→Below n0 w w'→GsR n0 w p (.returned (.tuple #[.slice none 0 0,.int .i64 r.line,.int .i64 (layE (edgesG p) p.decls r)])) w'
 | good {ln:Int} {L:List (List Nat)} {gv:Value} {w' w1:World} {G:Array Value} {M g:Nat} {D:List Nat}:DsC (ChA p) p.rules ln 0→(∀ r' ∈ p.rules,layE (edgesG p) p.decls r'=0)→GrpR (edgesG p) p.decls.length [] L→GpI w1 G M g p.decls.length D L [] gv w'→Below n0 w w1→Below n0 w w'→GsR n0 w p (.returned (.tuple #[gv,.int .i64 0,.int .i64 0])) w'
set_option maxRecDepth 100000 in
set_option maxHeartbeats 8000000 in
theorem groups7_c (p:Pg) (cs:List Value) (e1 e2 e3 e4 e5 x y:Addr) (w:World) (hp:PgC w w.heap.size p cs) (hf:FewP p) (hz:∀ r ∈ p.rules,FewR r∧FewP' (partsZ r)) (E:EnvC e1 e2 e3 e4 e5 x y w) (hn:p.decls.length≤1000) (he:(edgesG p).length≤1000000) :
  Calls Tryz.prog 17 #[.agg cs.toArray] w fun e w'=>GsR w.heap.size w p e w':=by
 obtain⟨p1,q1,r1,s1,rfl,_,_⟩:=hp.look
 obtain⟨W1,hW1⟩:∃ W1,w.alloc (.cells #[.slice p1 p.decls.length q1,.slice r1 p.rules.length s1] 25)=W1:=⟨_,rfl⟩
 have b1:Below w.heap.size w W1:=by rw[← hW1];exact (Below.refl _ _).alloc (Nat.le_refl _) _
 have rp:W1.heap[w.heap.size]?=some (.cells #[.slice p1 p.decls.length q1,.slice r1 p.rules.length s1] 25 (0,0)):=by rw[← hW1];exact World.alloc_heap_new w _
 have HP:=hid hp
 have HCk:=hid (check6_c p _ e1 e2 e3 e4 e5 x y W1 ((hp.below b1).more b1.size) hf hz (E.below b1))
 have RP:=hid rp
 have HB1:=hid b1
 have HW1:=hid hW1
 have HZz:=hid hz
 have HEv:=hid E
 clear hp hf hz E rp b1 hW1
 go_enter Tryz.func17,Tryz.ntmps17
 have x0:W1.cell? ⟨w.heap.size,0,none⟩=some (.slice p1 p.decls.length q1):=row_cells RP.out 0
 have x1:W1.cell? ⟨w.heap.size,1,none⟩=some (.slice r1 p.rules.length s1):=row_cells RP.out 1
 have lx:=heap_lt RP.out
 go_wp2_with fail
 rw[HW1.out]
 refine HCk.out.mono ?_
 rintro e w2 ⟨ln,q,rfl,hds,b2⟩
 have HD:=hid hds
 have B2:=hid (HB1.out.trans (b2.mono HB1.out.size))
 have rp:=(b2.block _ (heap_lt RP.out)).trans RP.out
 have RP2:=hid rp
 clear hds b2 HCk x0 x1 lx
 have x0:w2.cell? ⟨w.heap.size,0,none⟩=some (.slice p1 p.decls.length q1):=row_cells rp 0
 have x1:w2.cell? ⟨w.heap.size,1,none⟩=some (.slice r1 p.rules.length s1):=row_cells rp 1
 have lx:=heap_lt rp
 clear rp
 by_cases hk:q=0
 ·subst hk
  have HFi:=hid (fine_of HD.out)
  have HGo:=hid (callsIn_wide.1 (graphOf_in p _ w2 ((HP.out.below B2.out).more B2.out.size) (fun r hr=>(HFi.out.head hr).1) hn he))
  go_wp2_with fail
  refine HGo.out.mono ?_
  rintro e5 w5 ⟨v1,v2,bs1,bs2,rfl,hg1,hg2,b5⟩
  obtain⟨o1,c1,rfl,_⟩:=SlOf.uni hg1.gr.sl
  obtain⟨o2,c2,rfl,_⟩:=SlOf.uni hg2.gr.sl
  have rp5:=(b5.block _ (heap_lt RP2.out)).trans RP2.out
  have HG2:=hid hg2.gr
  have B5:=hid (B2.out.trans (b5.mono B2.out.size))
  have RP5:=hid rp5
  clear hg1 hg2 b5 x0 x1 lx
  obtain⟨W6,hW6⟩:∃ W6,w5.alloc (.cells #[.slice o1 bs1.length c1,.slice o2 bs2.length c2] 62)=W6:=⟨_,rfl⟩
  have b6:Below w5.heap.size w5 W6:=by rw[← hW6];exact (Below.refl _ _).alloc (Nat.le_refl _) _
  have rg6:W6.heap[w5.heap.size]?=some (.cells #[.slice o1 bs1.length c1,.slice o2 bs2.length c2] 62 (0,0)):=by rw[← hW6];exact World.alloc_heap_new w5 _
  have rp6:=(b6.block _ (heap_lt rp5)).trans rp5
  have B6:=hid (B5.out.trans (b6.mono B5.out.size))
  have RG6:=hid rg6
  have RP6:=hid rp6
  have HG6:=hid (HG2.out.below b6)
  have HW6:=hid hW6
  have x0:W6.cell? ⟨w.heap.size,0,none⟩=some (.slice p1 p.decls.length q1):=row_cells rp6 0
  have x1:W6.cell? ⟨w.heap.size,1,none⟩=some (.slice r1 p.rules.length s1):=row_cells rp6 1
  have lx:=heap_lt rp6
  have z0:w5.cell? ⟨w.heap.size,0,none⟩=some (.slice p1 p.decls.length q1):=row_cells rp5 0
  have z1:w5.cell? ⟨w.heap.size,1,none⟩=some (.slice r1 p.rules.length s1):=row_cells rp5 1
  have lz:=heap_lt rp5
  clear rp5 b6 rg6 rp6 hW6
  go_wp2_with fail
  rw[HW6.out]
  clear z0 z1 lz x0 x1 lx
  go_loopw [25] (fun iv wr=>∃ i:Nat,i≤p.rules.length∧iv=.int .i64 (i:Int)∧Hid (∀ r' ∈ p.rules.take i,layE (edgesG p) p.decls r'=0)∧Hid (Below W6.heap.size W6 wr)) (fun iv _=>p.rules.length - (intOf iv).toNat)
  case atStart=>exact⟨0,Nat.zero_le _,rfl,hid (by simp),hid (Below.refl _ _)⟩
  case round=>
   obtain⟨i,hi,rfl,HLy,HBw⟩:=hrel
   have rp:=(HBw.out.block _ (heap_lt RP6.out)).trans RP6.out
   have rg:=(HBw.out.block _ (heap_lt RG6.out)).trans RG6.out
   have x0:wr.cell? ⟨w.heap.size,0,none⟩=some (.slice p1 p.decls.length q1):=row_cells rp 0
   have x1:wr.cell? ⟨w.heap.size,1,none⟩=some (.slice r1 p.rules.length s1):=row_cells rp 1
   have lx:=heap_lt rp
   have y0:wr.cell? ⟨w5.heap.size,0,none⟩=some (.slice o1 bs1.length c1):=row_cells rg 0
   have y1:wr.cell? ⟨w5.heap.size,1,none⟩=some (.slice o2 bs2.length c2):=row_cells rg 1
   have ly:=heap_lt rg
   have BW:=hid (B6.out.trans (HBw.out.mono B6.out.size))
   have RPw:=hid rp
   have RGw:=hid rg
   clear rp rg
   by_cases hlt:i < p.rules.length
   ·have hlt':(i:Int) < (p.rules.length:Int):=by omega
    have hi0:(0:Int)≤(i:Int):=by omega
    obtain⟨r,hr⟩:∃ r,p.rules[i]?=some r:=⟨_,List.getElem?_eq_getElem hlt⟩
    have hpr:=(HP.out.below BW.out).more BW.out.size
    obtain⟨_,_,_,_,ee2,H1,H2⟩:=hpr.look
    simp only[List.cons.injEq,Value.slice.injEq,true_and,and_true] at ee2
    obtain⟨⟨rfl,rfl⟩,rfl,rfl⟩:=ee2
    obtain⟨_,_,ee3,_,_,S2⟩:=SlOf.open H2
    cases ee3
    obtain⟨ad,a3,b3,a4,b4,rfl,ha,Hc,k0,k1,k2,k3⟩:=ru_at S2 (Below.refl _ _) hr
    have hal:(ad.add (i * 4)).block < wr.heap.size:=by rw[addBlock];exact ha
    have Hr:=hid hr
    have HRm:=hid (List.mem_of_getElem? hr)
    have bV:∀ X,Below wr.heap.size wr (wr.alloc X):=fun X=>(Below.refl _ _).alloc (Nat.le_refl _) _
    have HLa:=hid (fun X=>callsIn_wide.1 (layers_in e1 x y (edgesG p) p.decls (.slice p1 p.decls.length q1) (.slice o1 bs1.length c1) (.slice o2 bs2.length c2) bs2 r _ (wr.alloc X) ⟨_,_,_,rfl⟩ (HG6.out.below (HBw.out.trans ((bV X).mono HBw.out.size))) (SlOf.decl H1 (bV X) (bV X).size) ((Hc.out.below (bV X)).more (bV X).size) (HFi.out.head HRm.out).1 (HZz.out r HRm.out).1 (HZz.out r HRm.out).2 (HFi.out.safe r HRm.out) ((HEv.out.below (BW.out.trans ((bV X).mono BW.out.size))).ez)))
    have HbV:=hid bV
    clear hpr H1 H2 S2 Hc bV hr
    go_wp2_with fail
    refine (HLa.out _).mono ?_
    rintro e7 w7 ⟨rfl,b7⟩
    have rr:=(b7.block wr.heap.size (by simp)).trans (World.alloc_heap_new wr _)
    have B7:=hid ((HBw.out.trans ((HbV.out _).mono HBw.out.size)).trans (b7.mono (Nat.le_trans HBw.out.size (HbV.out _).size)))
    have w3:w7.cell? ⟨wr.heap.size,3,none⟩=some (.int .i64 r.line):=row_cells rr 3
    have lr:=heap_lt rr
    obtain⟨z,hz⟩:∃ z,layE (edgesG p) p.decls r=z:=⟨_,rfl⟩
    have Hz:=hid hz
    rw[hz]
    clear b7 rr HLa x0 x1 y0 y1 lx ly hz
    by_cases h0:z=0
    ·subst h0
     have HLy':Hid (∀ r' ∈ p.rules.take (i+1),layE (edgesG p) p.decls r'=0):=hid (fun r' hr'=>by
      rw[List.take_add_one,Hr.out] at hr'
      rcases List.mem_append.1 hr' with h | h
      ·exact HLy.out r' h
      ·have:r'=r:=by simpa using h
       rw[this];exact Hz.out)
     go_wp2
     go_roundw
     case rel=>exact⟨i+1,hlt,by go_num,HLy',B7⟩
     case measure=>simp[intOf];omega
    ·have h0':(z != 0)=true:=by simpa using h0
     have HFin:Hid (∀ W,Below w7.heap.size w7 W→GsR w.heap.size w p (.returned (.tuple #[.slice none 0 0,.int .i64 r.line,.int .i64 z])) W):=hid (fun W hW=>by
      have h1:layE (edgesG p) p.decls r≠0:=by rw[Hz.out];exact h0
      have h2:=GsR.lay (p:=p) HD.out Hr.out HLy.out h1 ((B6.out.trans (B7.out.mono B6.out.size)).trans (hW.mono (Nat.le_trans B6.out.size B7.out.size)))
      rw[Hz.out] at h2
      exact h2)
     go_wp2_with fail
     go_quiet (fail)
     go_wp2
     go_ret3
     exact HFin.out _ ⟨rfl,rfl,rfl,Nat.le_refl _,fun _ _=>rfl⟩
   ·have hlt':¬ (i:Int) < (p.rules.length:Int):=by omega
    obtain rfl:i=p.rules.length:=by omega
    have HAll:Hid (∀ r' ∈ p.rules,layE (edgesG p) p.decls r'=0):=hid (by have:=HLy.out;rwa [List.take_of_length_le (Nat.le_refl _)] at this)
    have HGp:=hid (groups_c (edgesG p) p.decls.length (.slice o1 bs1.length c1) (.slice o2 bs2.length c2) bs2 wr ⟨_,_,_,rfl⟩ (HG6.out.below HBw.out) edgesG_lt)
    go_wp2_with fail
    refine HGp.out.mono ?_
    rintro e7 w7 ⟨L,gv,M,g,D,hgr,rfl,hgi⟩
    have HGi:=hid (And.intro hgr hgi)
    clear hgr hgi
    go_wp2_with fail
    go_ret3
    exact .good HD.out HAll.out HGi.out.1 HGi.out.2 BW.out (BW.out.trans (HGi.out.2.b.mono BW.out.size))
 ·have hk':(q != 0)=true:=by simpa using hk
  have HK:=hid hk
  go_wp2_with fail
  go_ret3
  exact .bad HD.out HK.out B2.out
set_option maxRecDepth 100000 in
theorem v7_c (s:ByteArray) (w:World):Calls Tryz.prog 45 #[.string s] w fun e w'=>e=.returned (.agg #[.int .i64 1,.string s,.int .i64 0,.slice none 0 0])∧Below w.heap.size w w':=by
 have hr:=World.alloc_heap_new w (.cells #[.int .i64 1,.string s,.int .i64 0,.slice none 0 0] 51)
 have h0:=row_cells hr 0
 have h1:=row_cells hr 1
 have h2:=row_cells hr 2
 have h3:=row_cells hr 3
 simp at h0 h1 h2 h3
 clear hr
 have hb:Below w.heap.size w (w.alloc (.cells #[.int .i64 1,.string s,.int .i64 0,.slice none 0 0] 51)):=(Below.refl _ _).alloc (Nat.le_refl _) _
 go_enter Tryz.func45,Tryz.ntmps45
 go_wp2
 refine bodyPost_ret (v:=.agg #[.int .i64 1,.string s,.int .i64 0,.slice none 0 0]) (by simp[results,Tryz.results45,go_sem,h0,h1,h2,h3]) rfl ?_
 exact⟨rfl,hb⟩
set_option maxRecDepth 100000 in
theorem at7_c (q s:ByteArray) (w:World):Calls Tryz.prog 21 #[.string q,.string s] w fun e w'=>∃ b,e=.returned (.agg #[.string q,.slice (some ⟨b,0,none⟩) 1 1])∧OneAt w' b s∧Below w.heap.size w w':=by
 obtain⟨W1,hW1⟩:∃ W,w.alloc (.cells #[.string ⟨#[]⟩,.slice none 0 0] 44)=W:=⟨_,rfl⟩
 have b1:Below w.heap.size w W1:=by rw[← hW1];exact (Below.refl _ _).alloc (Nat.le_refl _) _
 have r1:W1.heap[w.heap.size]?=some (.cells #[.string ⟨#[]⟩,.slice none 0 0] 44 (0,0)):=by rw[← hW1];exact World.alloc_heap_new w _
 have B1:=hid b1
 have R1:=hid r1
 clear b1 r1
 go_enter Tryz.func21,Tryz.ntmps21
 go_wp2_with fail
 try rw[hW1]
 refine (v7_c s _).mono ?_
 rintro e2 w2 ⟨rfl,b2⟩
 have hr2:=(b2.block _ (heap_lt R1.out)).trans R1.out
 have B2:=hid (B1.out.trans (b2.mono B1.out.size))
 obtain⟨b,hb⟩:∃ b,w2.heap.size=b:=⟨_,rfl⟩
 obtain⟨W3,hW3⟩:∃ W,w2.alloc (.cells #[.int .i64 1,.string s,.int .i64 0,.slice none 0 0] 51)=W:=⟨_,rfl⟩
 have b3:Below w2.heap.size w2 W3:=by rw[← hW3];exact (Below.refl _ _).alloc (Nat.le_refl _) _
 have r3:OneAt W3 b s:=by unfold OneAt;rw[← hW3,← hb];exact World.alloc_heap_new w2 _
 have hr3:=(b3.block _ (heap_lt hr2)).trans hr2
 have n3:b≠w.heap.size:=fun e=>by have:=heap_lt hr2;omega
 have y0:=row_cells hr3 0
 have y1:=row_cells hr3 1
 have f0:=frz_row hr3 0
 have f1:=frz_row hr3 1
 have l3:=heap_lt hr3
 have B3:=hid (B2.out.trans (b3.mono B2.out.size))
 have R3:=hid r3
 have HR3:=hid hr3
 have e4:=rowSet (rowSet hr3 0 (.string q)) 1 (.slice (some ⟨b,0,none⟩) 1 1)
 have z0:=row_cells e4 0
 have z1:=row_cells e4 1
 simp at y0 y1 z0 z1
 have Z0:=hid z0
 have Z1:=hid z1
 clear b2 hr2 b3 r3 hr3 e4 z0 z1
 go_wp2
 have g0:=Z0.out
 have g1:=Z1.out
 refine bodyPost_ret (v:=.agg #[.string q,.slice (some ⟨b,0,none⟩) 1 1]) (by simp[results,Tryz.results21,go_sem,g0,g1]) rfl ?_
 refine⟨b,rfl,?_,(B3.out.setCell (p:=⟨w.heap.size,0,none⟩) (Nat.le_refl _) _).setCell (p:=⟨w.heap.size,1,none⟩) (Nat.le_refl _) _⟩
 exact (set_oth n3).trans ((set_oth n3).trans R3.out)
set_option maxRecDepth 100000 in
theorem two7_c (w:World):Calls Tryz.prog 22 #[] w fun e w'=>∃ v,e=.returned v∧SlOf w' w'.heap.size 6 (DeC w' w'.heap.size) two7 v∧Below w.heap.size w w':=by
 obtain⟨W1,hW1⟩:∃ W1,w.alloc (.cells #[.string aG] 9)=W1:=⟨_,rfl⟩
 obtain⟨W2,hW2⟩:∃ W2,W1.alloc (.cells #[.int .i64 1] 3)=W2:=⟨_,rfl⟩
 obtain⟨W3,hW3⟩:∃ W3,W2.alloc (.cells #[.string aG] 9)=W3:=⟨_,rfl⟩
 obtain⟨W4,hW4⟩:∃ W4,W3.alloc (.cells #[.int .i64 1] 3)=W4:=⟨_,rfl⟩
 obtain⟨W5,hW5⟩:∃ W5,W4.alloc (.cells #[.string eG,.slice (some ⟨w.heap.size,0,none⟩) 1 1,.slice (some ⟨w.heap.size+1,0,none⟩) 1 1,.bool false,.bool false,.int .i64 0,.string pG,.slice (some ⟨w.heap.size+1+1,0,none⟩) 1 1,.slice (some ⟨w.heap.size+1+1+1,0,none⟩) 1 1,.bool false,.bool false,.int .i64 0] 57)=W5:=⟨_,rfl⟩
 have z1:W1.heap.size=w.heap.size+1:=by rw[← hW1];simp
 have z2:W2.heap.size=w.heap.size+1+1:=by rw[← hW2];simp[z1]
 have z3:W3.heap.size=w.heap.size+1+1+1:=by rw[← hW3];simp[z2]
 have z4:W4.heap.size=w.heap.size+1+1+1+1:=by rw[← hW4];simp[z3]
 have r1:W1.heap[w.heap.size]?=some (.cells #[.string aG] 9 (0,0)):=by rw[← hW1];exact World.alloc_heap_new w _
 have r2:W2.heap[w.heap.size+1]?=some (.cells #[.int .i64 1] 3 (0,0)):=by rw[← hW2,← z1];exact World.alloc_heap_new W1 _
 have r3:W3.heap[w.heap.size+1+1]?=some (.cells #[.string aG] 9 (0,0)):=by rw[← hW3,← z2];exact World.alloc_heap_new W2 _
 have r4:W4.heap[w.heap.size+1+1+1]?=some (.cells #[.int .i64 1] 3 (0,0)):=by rw[← hW4,← z3];exact World.alloc_heap_new W3 _
 have r5:W5.heap[w.heap.size+1+1+1+1]?=some (.cells #[.string eG,.slice (some ⟨w.heap.size,0,none⟩) 1 1,.slice (some ⟨w.heap.size+1,0,none⟩) 1 1,.bool false,.bool false,.int .i64 0,.string pG,.slice (some ⟨w.heap.size+1+1,0,none⟩) 1 1,.slice (some ⟨w.heap.size+1+1+1,0,none⟩) 1 1,.bool false,.bool false,.int .i64 0] 57 (0,0)):=by rw[← hW5,← z4];exact World.alloc_heap_new W4 _
 have q1:W5.heap[w.heap.size]?=some (.cells #[.string aG] 9 (0,0)):=by rw[← hW5];refine row_more ?_ _;rw[← hW4];refine row_more ?_ _;rw[← hW3];refine row_more ?_ _;rw[← hW2];exact row_more r1 _
 have q2:W5.heap[w.heap.size+1]?=some (.cells #[.int .i64 1] 3 (0,0)):=by rw[← hW5];refine row_more ?_ _;rw[← hW4];refine row_more ?_ _;rw[← hW3];exact row_more r2 _
 have q3:W5.heap[w.heap.size+1+1]?=some (.cells #[.string aG] 9 (0,0)):=by rw[← hW5];refine row_more ?_ _;rw[← hW4];exact row_more r3 _
 have q4:W5.heap[w.heap.size+1+1+1]?=some (.cells #[.int .i64 1] 3 (0,0)):=by rw[← hW5];exact row_more r4 _
 have hb:Below w.heap.size w W5:=by
  rw[← hW5,← hW4,← hW3,← hW2,← hW1]
  exact (((((Below.refl _ _).alloc (Nat.le_refl _) _).alloc (by simp) _).alloc (by simp;omega) _).alloc (by simp;omega) _).alloc (by simp;omega) _
 have one:∀ b,W5.heap[b]?=some (.cells #[.string aG] 9 (0,0))→SlOf W5 W5.heap.size 1 StrC [aG] (.slice (some ⟨b,0,none⟩) 1 1):=fun b h=>sl_cells (l:=[aG]) [[.string aG]] h rfl (by simp) (fun i x cs hx hc=>by
  match i,hx,hc with
  | 0,hx,hc=>simp at hx hc;subst hx hc;exact⟨rfl,by decide⟩
  | i+1,hx,_=>simp at hx) (by decide)
 have hs:SlOf W5 W5.heap.size 6 (DeC W5 W5.heap.size) two7 (.slice (some ⟨w.heap.size+1+1+1+1,0,none⟩) 2 2):=by
  refine sl_cells (l:=two7) [[.string eG,.slice (some ⟨w.heap.size,0,none⟩) 1 1,.slice (some ⟨w.heap.size+1,0,none⟩) 1 1,.bool false,.bool false,.int .i64 0],[.string pG,.slice (some ⟨w.heap.size+1+1,0,none⟩) 1 1,.slice (some ⟨w.heap.size+1+1+1,0,none⟩) 1 1,.bool false,.bool false,.int .i64 0]] r5 rfl (by simp) ?_ (by decide)
  intro i x cs hx hc
  match i,hx,hc with
  | 0,hx,hc=>
   obtain rfl:eD7=x:=by simpa[two7] using hx
   obtain rfl:([.string eG,.slice (some ⟨w.heap.size,0,none⟩) 1 1,.slice (some ⟨w.heap.size+1,0,none⟩) 1 1,.bool false,.bool false,.int .i64 0]:List Value)=cs:=by simpa using hc
   refine⟨_,_,rfl,by decide,by unfold I64;decide,one _ q1,?_⟩
   exact sl_cells (l:=[(1:Int)]) [[.int .i64 1]] q2 rfl (by simp) (fun i x cs hx hc=>by
    match i,hx,hc with
    | 0,hx,hc=>simp at hx hc;subst hx hc;exact⟨rfl,by unfold I64;decide⟩
    | i+1,hx,_=>simp at hx) (by decide)
  | 1,hx,hc=>
   obtain rfl:pD7=x:=by simpa[two7] using hx
   obtain rfl:([.string pG,.slice (some ⟨w.heap.size+1+1,0,none⟩) 1 1,.slice (some ⟨w.heap.size+1+1+1,0,none⟩) 1 1,.bool false,.bool false,.int .i64 0]:List Value)=cs:=by simpa using hc
   refine⟨_,_,rfl,by decide,by unfold I64;decide,one _ q3,?_⟩
   exact sl_cells (l:=[(1:Int)]) [[.int .i64 1]] q4 rfl (by simp) (fun i x cs hx hc=>by
    match i,hx,hc with
    | 0,hx,hc=>simp at hx hc;subst hx hc;exact⟨rfl,by unfold I64;decide⟩
    | i+1,hx,_=>simp at hx) (by decide)
  | i+2,hx,_=>simp[two7] at hx
 subst hW1 hW2 hW3 hW4 hW5
 clear r1 r2 r3 r4 r5 q1 q2 q3 q4 z1 z2 z3 z4 one
 have HS:=hid hs
 have HB:=hid hb
 clear hs hb
 go_enter Tryz.func22,Tryz.ntmps22
 go_wp2
 go_ret
 exact⟨_,rfl,HS.out,HB.out⟩
end Go.Proofs.YtakpgcmfjlbcgaaGreatDoor
