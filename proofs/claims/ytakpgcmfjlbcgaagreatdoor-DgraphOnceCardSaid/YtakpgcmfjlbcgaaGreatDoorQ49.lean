/- Zck@01, Ggw@01, Gmh@01, Gsz@01 -/
import Derived.Test.YtakpgcmfjlbcgaaGreatDoorQ44
set_option linter.unusedSimpArgs false
set_option linter.unusedVariables false
namespace Go.Proofs.YtakpgcmfjlbcgaaGreatDoor
open Lib(hid)
open Go.RowKit
theorem dsc_same {C C':Int→Int→Prop} {rs:List Ru} (hs:∀ a b a' b',C a b→C' a' b'→a=a'∧b=b') {a b a' b':Int} (h:DsC C rs a b) (h':DsC C' rs a' b'):a=a'∧b=b':=by
 cases h with
 | typ h1 h2=>
  cases h' with
  | typ k1 k2=>exact hs _ _ _ _ h1 k1
  | bad k1=>exact absurd (hs _ _ _ _ h1 k1).2 h2
  | ok k1=>exact absurd (hs _ _ _ _ h1 k1).2 h2
 | @bad _ k r h1 h2 h3 h4=>
  cases h' with
  | typ k1 k2=>exact absurd (hs _ _ _ _ h1 k1).2.symm k2
  | @bad _ k' r' k1 k2 k3 k4=>
   rcases Nat.lt_trichotomy k k' with h | h | h
   ·exact absurd (k3 k r h h2) h4
   ·subst h
    rw[h2] at k2
    cases k2
    exact⟨rfl,rfl⟩
   ·exact absurd (h3 k' r' h k2) k4
  | ok k1 k2=>exact absurd (k2 _ _ h2) h4
 | ok h1 h2=>
  cases h' with
  | typ k1 k2=>exact absurd (hs _ _ _ _ h1 k1).2.symm k2
  | bad k1 k2 k3 k4=>exact absurd (h2 _ _ k2) k4
  | ok k1 k2=>exact⟨rfl,rfl⟩
open Go.RowKit Go.Maps
theorem results_two {P:Program} {fn:Func} {p q:Tmp} {ty:TypeId} (h:fn.results=#[.cell p ty,.tmp q]) (tmps:Array Value) (w:World) (b:Nat) (v u:Value) (hp:tmps.getD p undef=.pointer (some ⟨b,0,none⟩)) (hu:tmps.getD q undef=u) (hr:(loadVar ty ⟨b,0,none⟩).run P w=.ok v w) :
  (results fn tmps).run P w=.ok (.tuple #[v,u]) w:=by
 have hp':tmps[p]?.getD undef=.pointer (some ⟨b,0,none⟩):=by simpa using hp
 have hu':tmps[q]?.getD undef=u:=by simpa using hu
 simp[results,h,hp',hu',asAddr,hr,Sem.run_bind,Result.andThen]
def placeB (k n:Int):Bool:=decide (0≤k) && decide (k < n)
set_option maxRecDepth 100000 in
theorem isPlace_c (k n:Int) (w:World):Calls Tryz.prog 33 #[.int .i64 k,.int .i64 n] w fun e w'=>e=.returned (.bool (placeB k n))∧w'=w:=by
 go_enter Tryz.func33,Tryz.ntmps33
 by_cases h:0≤k
 ·by_cases h2:k < n
  ·go_wp2
   go_ret
   exact⟨by simp[placeB,h,h2],rfl⟩
  ·go_wp2
   go_ret
   exact⟨by simp[placeB,h,h2],rfl⟩
 ·go_wp2
  go_ret
  exact⟨by unfold placeB;rw[decide_eq_false (show ¬ 0≤k by omega)];rfl,rfl⟩
inductive GwR (n0:Nat) (w:World) (p:Pg) (a b:Int):Ending→World→Prop
 | bad {ln k:Int} {w':World}:DsC (ChA p) p.rules ln k→k≠0→Below n0 w w'→GwR n0 w p a b (.returned (.tuple #[.agg #[.slice none 0 0,.slice none 0 0],.int .i64 k])) w'
 | arg {ln:Int} {w':World}:DsC (ChA p) p.rules ln 0→(placeB a p.decls.length && placeB b p.decls.length)=false→Below n0 w w'→GwR n0 w p a b (.returned (.tuple #[.agg #[.slice none 0 0,.slice none 0 0],.int .i64 2])) w'
 | good {ln:Int} {v1 v2:Value} {b1 b2:List Nat} {w':World}:DsC (ChA p) p.rules ln 0→(placeB a p.decls.length && placeB b p.decls.length)=true→GrN w' v1 b1 p.decls.length (fun i x=>(i,x) ∈ edgesG p)→GrN w' v2 b2 p.decls.length (Rch (edgesG p))→Below n0 w w'→GwR n0 w p a b (.returned (.tuple #[.agg #[v1,v2],.int .i64 0])) w'
set_option maxRecDepth 100000 in
set_option maxHeartbeats 8000000 in
theorem graphWith_c (p:Pg) (cs:List Value) (a b:Int) (e1 e2 e3 e4 e5 x y:Addr) (w:World) (hp:PgC w w.heap.size p cs) (hf:FewP p) (hz:∀ r ∈ p.rules,FewR r∧FewP' (partsZ r)) (E:EnvC e1 e2 e3 e4 e5 x y w) (hn:p.decls.length≤1000) (he:(edgesG p).length≤1000000) :
  Calls Tryz.prog 25 #[.agg cs.toArray,.int .i64 a,.int .i64 b] w fun e w'=>GwR w.heap.size w p a b e w':=by
 obtain⟨p1,q1,r1,s1,rfl,_,_⟩:=hp.look
 obtain⟨W1,hW1⟩:∃ W1,(w.alloc (.cells #[.slice p1 p.decls.length q1,.slice r1 p.rules.length s1] 25)).alloc (.cells #[.slice none 0 0,.slice none 0 0] 62)=W1:=⟨_,rfl⟩
 have b1:Below w.heap.size w W1:=by rw[← hW1];exact ((Below.refl _ _).alloc (Nat.le_refl _) _).alloc (by simp) _
 have rp:W1.heap[w.heap.size]?=some (.cells #[.slice p1 p.decls.length q1,.slice r1 p.rules.length s1] 25 (0,0)):=by
  rw[← hW1]
  exact (Below.heap_alloc _ _ _ (by simp)).trans (World.alloc_heap_new w _)
 have rg:W1.heap[w.heap.size+1]?=some (.cells #[.slice none 0 0,.slice none 0 0] 62 (0,0)):=by
  have h1:=World.alloc_heap_new (w.alloc (.cells #[.slice p1 p.decls.length q1,.slice r1 p.rules.length s1] 25)) (.cells #[.slice none 0 0,.slice none 0 0] 62)
  rw[World.size_alloc,hW1] at h1
  exact h1
 have HP:=hid hp
 have HCk:=hid (check6_c p _ e1 e2 e3 e4 e5 x y W1 ((hp.below b1).more b1.size) hf hz (E.below b1))
 have RP:=hid rp
 have RG:=hid rg
 have HB1:=hid b1
 have HW1:=hid hW1
 clear hp hf hz E rp rg b1 hW1
 go_enter Tryz.func25,Tryz.ntmps25
 have x0:W1.cell? ⟨w.heap.size,0,none⟩=some (.slice p1 p.decls.length q1):=row_cells RP.out 0
 have x1:W1.cell? ⟨w.heap.size,1,none⟩=some (.slice r1 p.rules.length s1):=row_cells RP.out 1
 have lx:=heap_lt RP.out
 go_wp2_with fail
 rw[HW1.out]
 refine HCk.out.mono ?_
 rintro e w2 ⟨ln,k,rfl,hds,b2⟩
 have HD:=hid hds
 have B2:=hid (HB1.out.trans (b2.mono HB1.out.size))
 have rp:=(b2.block _ (heap_lt RP.out)).trans RP.out
 have rg:=(b2.block _ (heap_lt RG.out)).trans RG.out
 have RP2:=hid rp
 have RG2:=hid rg
 clear hds b2 HCk x0 x1 lx
 have x0:w2.cell? ⟨w.heap.size,0,none⟩=some (.slice p1 p.decls.length q1):=row_cells rp 0
 have x1:w2.cell? ⟨w.heap.size,1,none⟩=some (.slice r1 p.rules.length s1):=row_cells rp 1
 have lx:=heap_lt rp
 have y0:w2.cell? ⟨w.heap.size+1,0,none⟩=some (.slice none 0 0):=row_cells rg 0
 have y1:w2.cell? ⟨w.heap.size+1,1,none⟩=some (.slice none 0 0):=row_cells rg 1
 have f0:=frz_row rg 0
 have f1:=frz_row rg 1
 have ly:=heap_lt rg
 clear rp rg
 by_cases hk:k=0
 ·subst hk
  have HI1:=hid (fun W=>isPlace_c a p.decls.length W)
  have HI2:=hid (fun W=>isPlace_c b p.decls.length W)
  have HFin:Hid (∀ W5:World,(w2.setCell ⟨w.heap.size+1,0,none⟩ (.slice none 0 0)).setCell ⟨w.heap.size+1,1,none⟩ (.slice none 0 0)=W5→W5.heap[w.heap.size+1]?=some (.cells #[.slice none 0 0,.slice none 0 0] 62 (0,0))∧Below w.heap.size w W5):=hid (fun W5 hW5=>by
   constructor
   ·have h1:=rowSet (rowSet RG2.out 0 (.slice none 0 0)) 1 (.slice none 0 0)
    rw[hW5] at h1
    simpa using h1
   ·rw[← hW5]
    exact (B2.out.setCell (by show w.heap.size≤w.heap.size+1;omega) _).setCell (by show w.heap.size≤w.heap.size+1;omega) _)
  have HArg:Hid ((placeB a p.decls.length && placeB b p.decls.length)=false→∀ W5:World,(w2.setCell ⟨w.heap.size+1,0,none⟩ (.slice none 0 0)).setCell ⟨w.heap.size+1,1,none⟩ (.slice none 0 0)=W5→GwR w.heap.size w p a b (.returned (.tuple #[.agg #[.slice none 0 0,.slice none 0 0],.int .i64 2])) W5):=hid (fun h W5 hW5=>.arg HD.out h (HFin.out W5 hW5).2)
  go_wp2_with fail
  refine (HI1.out w2).mono ?_
  rintro e3 w3 ⟨rfl,rfl⟩
  cases hpa:placeB a p.decls.length with
  | false=>
   have HQ:=hid (HArg.out (by rw[hpa];rfl))
   clear hpa
   go_wp2_with fail
   obtain⟨W5,hW5⟩:∃ W5,(w3.setCell ⟨w.heap.size+1,0,none⟩ (.slice none 0 0)).setCell ⟨w.heap.size+1,1,none⟩ (.slice none 0 0)=W5:=⟨_,rfl⟩
   have hr5:=(HFin.out W5 hW5).1
   have hg:=HQ.out W5 hW5
   rw[hW5]
   exact bodyPost_ret (results_two rfl _ _ _ _ (.int .i64 2) rfl rfl (load_graph hr5)) rfl hg
  | true=>
   have HPa:=hid hpa
   clear hpa
   go_wp2_with fail
   refine (HI2.out w3).mono ?_
   rintro e4 w4 ⟨rfl,rfl⟩
   cases hpb:placeB b p.decls.length with
   | false=>
    have HQ:=hid (HArg.out (by rw[hpb,Bool.and_false]))
    clear hpb
    go_wp2_with fail
    obtain⟨W5,hW5⟩:∃ W5,(w4.setCell ⟨w.heap.size+1,0,none⟩ (.slice none 0 0)).setCell ⟨w.heap.size+1,1,none⟩ (.slice none 0 0)=W5:=⟨_,rfl⟩
    have hr5:=(HFin.out W5 hW5).1
    have hg:=HQ.out W5 hW5
    rw[hW5]
    exact bodyPost_ret (results_two rfl _ _ _ _ (.int .i64 2) rfl rfl (load_graph hr5)) rfl hg
   | true=>
    have HPb:=hid hpb
    have HFi:=hid (fine_of HD.out)
    have HGo:=hid (callsIn_wide.1 (graphOf_in p _ w4 ((HP.out.below B2.out).more B2.out.size) (fun r hr=>(HFi.out.head hr).1) hn he))
    clear hpb
    go_wp2_with fail
    refine HGo.out.mono ?_
    rintro e5 w5 ⟨v1,v2,bs1,bs2,rfl,hg1,hg2,b5⟩
    obtain⟨o1,c1,rfl,_⟩:=SlOf.uni hg1.gr.sl
    obtain⟨o2,c2,rfl,_⟩:=SlOf.uni hg2.gr.sl
    have rg5:=(b5.block _ (heap_lt RG2.out)).trans RG2.out
    have lz:=heap_lt RG2.out
    have z0:w5.cell? ⟨w.heap.size+1,0,none⟩=some (.slice none 0 0):=row_cells rg5 0
    have z1:w5.cell? ⟨w.heap.size+1,1,none⟩=some (.slice none 0 0):=row_cells rg5 1
    have k0:=frz_row rg5 0
    have k1:=frz_row rg5 1
    have kz:=heap_lt rg5
    have HG1:=hid hg1
    have HG2:=hid hg2
    have HB5:=hid (B2.out.trans (b5.mono B2.out.size))
    have RG5:=hid rg5
    have LZ:=hid lz
    clear hg1 hg2 b5 rg5 y0 y1 f0 f1 lz
    go_wp2_with fail
    obtain⟨W5,hW5⟩:∃ W5,(w5.setCell ⟨w.heap.size+1,0,none⟩ (.slice o1 bs1.length c1)).setCell ⟨w.heap.size+1,1,none⟩ (.slice o2 bs2.length c2)=W5:=⟨_,rfl⟩
    have hr5:W5.heap[w.heap.size+1]?=some (.cells #[.slice o1 bs1.length c1,.slice o2 bs2.length c2] 62 (0,0)):=by
     have h1:=rowSet (rowSet RG5.out 0 (.slice o1 bs1.length c1)) 1 (.slice o2 bs2.length c2)
     rw[hW5] at h1
     simpa using h1
    have keep:∀ i,i≠w.heap.size+1→W5.heap[i]?=w5.heap[i]?:=fun i hi=>by rw[← hW5];exact (Below.heap_setCell _ _ _ _ hi).trans (Below.heap_setCell _ _ _ _ hi)
    have hb5:Below w.heap.size w W5:=by
     rw[← hW5]
     exact (HB5.out.setCell (by show w.heap.size≤w.heap.size+1;omega) _).setCell (by show w.heap.size≤w.heap.size+1;omega) _
    rw[hW5]
    refine bodyPost_ret (results_two rfl _ _ _ _ (.int .i64 0) rfl rfl (load_graph hr5)) rfl ?_
    exact .good HD.out (by rw[HPa.out,HPb.out];rfl) (HG1.out W5 fun b h1 _=>keep b (by have:=LZ.out;omega)) (HG2.out W5 fun b h1 _=>keep b (by have:=LZ.out;omega)) hb5
 ·have hk':(k != 0)=true:=by simpa using hk
  have HK:=hid hk
  go_wp2_with fail
  obtain⟨W5,hW5⟩:∃ W5,(w2.setCell ⟨w.heap.size+1,0,none⟩ (.slice none 0 0)).setCell ⟨w.heap.size+1,1,none⟩ (.slice none 0 0)=W5:=⟨_,rfl⟩
  have hr5:W5.heap[w.heap.size+1]?=some (.cells #[.slice none 0 0,.slice none 0 0] 62 (0,0)):=by
   have h1:=rowSet (rowSet RG2.out 0 (.slice none 0 0)) 1 (.slice none 0 0)
   rw[hW5] at h1
   simpa using h1
  have hb5:Below w.heap.size w W5:=by
   rw[← hW5]
   exact (B2.out.setCell (by show w.heap.size≤w.heap.size+1;omega) _).setCell (by show w.heap.size≤w.heap.size+1;omega) _
  rw[hW5]
  refine bodyPost_ret (results_two rfl _ _ _ _ _ rfl rfl (load_graph hr5)) rfl ?_
  exact .bad HD.out HK.out hb5
inductive PlR (n0:Nat) (w:World) (p:Pg) (a b:Int) (f:Bool):Ending→World→Prop
 | bad {ln k:Int} {w':World}:DsC (ChA p) p.rules ln k→k≠0→Below n0 w w'→PlR n0 w p a b f (.returned (.tuple #[.bool false,.int .i64 k])) w'
 | arg {ln:Int} {w':World}:DsC (ChA p) p.rules ln 0→(placeB a p.decls.length && placeB b p.decls.length)=false→Below n0 w w'→PlR n0 w p a b f (.returned (.tuple #[.bool false,.int .i64 2])) w'
 | good {ln:Int} {w':World}:DsC (ChA p) p.rules ln 0→(placeB a p.decls.length && placeB b p.decls.length)=true→Below n0 w w'→PlR n0 w p a b f (.returned (.tuple #[.bool f,.int .i64 0])) w'
theorem place_nat {k:Int} {n:Nat} (h:placeB k n=true):∃ i:Nat,k=(i:Int)∧i < n:=by
 unfold placeB at h
 simp only[Bool.and_eq_true,decide_eq_true_eq] at h
 exact⟨k.toNat,by omega,by omega⟩
set_option maxRecDepth 100000 in
set_option maxHeartbeats 8000000 in
theorem mutual_c (p:Pg) (cs:List Value) (a b:Int) (e1 e2 e3 e4 e5 x y:Addr) (w:World) (hp:PgC w w.heap.size p cs) (hf:FewP p) (hz:∀ r ∈ p.rules,FewR r∧FewP' (partsZ r)) (E:EnvC e1 e2 e3 e4 e5 x y w) (hn:p.decls.length≤1000) (he:(edgesG p).length≤1000000) :
  Calls Tryz.prog 13 #[.agg cs.toArray,.int .i64 a,.int .i64 b] w fun e w'=>PlR w.heap.size w p a b (mutB (edgesG p) a.toNat b.toNat) e w':=by
 obtain⟨p1,q1,r1,s1,rfl,_,_⟩:=hp.look
 obtain⟨W1,hW1⟩:∃ W1,w.alloc (.cells #[.slice p1 p.decls.length q1,.slice r1 p.rules.length s1] 25)=W1:=⟨_,rfl⟩
 have b1:Below w.heap.size w W1:=by rw[← hW1];exact (Below.refl _ _).alloc (Nat.le_refl _) _
 have HG:=hid (graphWith_c p _ a b e1 e2 e3 e4 e5 x y W1 ((hp.below b1).more b1.size) hf hz (E.below b1) hn he)
 have HB1:=hid b1
 have HW1:=hid hW1
 clear hp hf hz E b1 hW1
 go_enter Tryz.func13,Tryz.ntmps13
 go_wp2_with fail
 rw[HW1.out]
 refine HG.out.mono ?_
 intro e w2 hR
 cases hR with
 | @bad ln k _ h1 h2 b2=>
  have HQ:=hid (And.intro h1 h2)
  have B2:=hid (HB1.out.trans (b2.mono HB1.out.size))
  have hk':(k != 0)=true:=by simpa using h2
  clear h1 h2 b2
  go_wp2_with fail
  go_ret2
  exact .bad HQ.out.1 HQ.out.2 (B2.out.trans ((Below.refl _ _).alloc B2.out.size _))
 | arg h1 h2 b2=>
  have HQ:=hid (And.intro h1 h2)
  have B2:=hid (HB1.out.trans (b2.mono HB1.out.size))
  clear h1 h2 b2
  go_wp2_with fail
  go_ret2
  exact .arg HQ.out.1 HQ.out.2 (B2.out.trans ((Below.refl _ _).alloc B2.out.size _))
 | @good ln v1 v2 bs1 bs2 _ h1 h2 g1 g2 b2=>
  have HQ:=hid (And.intro h1 h2)
  have B2:=hid (HB1.out.trans (b2.mono HB1.out.size))
  rw[Bool.and_eq_true] at h2
  obtain⟨i,rfl,hi⟩:=place_nat h2.1
  obtain⟨j,rfl,hj⟩:=place_nat h2.2
  simp only[Int.toNat_natCast]
  obtain⟨o1,c1,rfl,_⟩:=SlOf.uni g1.sl
  obtain⟨o2,c2,rfl,_⟩:=SlOf.uni g2.sl
  have bA:∀ C,Below w2.heap.size w2 (w2.alloc C):=fun C=>(Below.refl _ _).alloc (Nat.le_refl _) _
  have HA:=hid (fun C=>areMut_c (edgesG p) p.decls.length i j (.slice o1 bs1.length c1) (.slice o2 bs2.length c2) bs2 (w2.alloc C) ⟨o1,_,c1,rfl⟩ (g2.below (bA C)) hi hj)
  have BA:=hid (fun C=>B2.out.trans ((bA C).mono B2.out.size))
  clear h1 h2 g1 g2 b2 bA
  go_wp2_with fail
  refine (HA.out _).mono ?_
  rintro e3 w3 ⟨rfl,b3⟩
  have B3:=hid ((BA.out _).trans (b3.mono (BA.out _).size))
  clear b3
  go_wp2_with fail
  go_ret2
  exact .good HQ.out.1 HQ.out.2 B3.out
def plE (n:Nat) (k a b:Int):Int:=if k=0 then (if (placeB a n && placeB b n)=true then 0 else 2) else k
def plF (n:Nat) (k a b:Int) (f:Bool):Bool:=decide (k=0) && (placeB a n && placeB b n) && f
theorem plR_one {n0:Nat} {w w':World} {p:Pg} {a b:Int} {f:Bool} {e:Ending} (h:PlR n0 w p a b f e w'):∃ ln k,DsC (ChA p) p.rules ln k∧e=.returned (.tuple #[.bool (plF p.decls.length k a b f),.int .i64 (plE p.decls.length k a b)])∧Below n0 w w':=by
 cases h with
 | bad h1 h2 hb=>
  refine⟨_,_,h1,?_,hb⟩
  unfold plF plE
  rw[if_neg h2,decide_eq_false h2]
  rfl
 | arg h1 h2 hb=>
  refine⟨_,_,h1,?_,hb⟩
  unfold plF plE
  rw[h2]
  rfl
 | good h1 h2 hb=>
  refine⟨_,_,h1,?_,hb⟩
  unfold plF plE
  rw[h2]
  rfl
theorem notw_le7 {ds:List De} {i:Nat} {d:De} (hd:ds[i]?=some d) (hf:findY d.rel ds≠some i) {k:Nat} (h:NoTw ds k):k≤i:=by
 rcases Nat.lt_or_ge i k with hlt | hge
 ·exact absurd (h i d hlt hd) hf
 ·exact hge
theorem cha_same {p:Pg} {ln e ln' e':Int} (h:ChA p ln e) (h':ChA p ln' e'):ln=ln'∧e=e':=by
 cases h with
 | tree h1=>
  cases h' with
  | tree=>exact⟨rfl,rfl⟩
  | twice g1=>rw[h1] at g1;cases g1
  | rule g1=>rw[h1] at g1;cases g1
  | ok g1=>rw[h1] at g1;cases g1
 | @twice i d h1 h2 h3 h4=>
  have hil:=(List.getElem?_eq_some_iff.1 h2).1
  cases h' with
  | tree g1=>rw[h1] at g1;cases g1
  | @twice j d' g1 g2 g3 g4=>
   have a:=notw_le7 h2 h3 g4
   have b:=notw_le7 g2 g3 h4
   obtain rfl:i=j:=by omega
   rw[h2] at g2
   cases g2
   exact⟨rfl,rfl⟩
  | rule g1 g2=>have:=notw_le7 h2 h3 g2;omega
  | ok g1 g2=>have:=notw_le7 h2 h3 g2;omega
 | @rule k r l e h1 h2 h3 h4 h5 h6=>
  cases h' with
  | tree g1=>rw[h1] at g1;cases g1
  | twice g1 g2 g3 g4=>
   have:=notw_le7 g2 g3 h2
   have:=(List.getElem?_eq_some_iff.1 g2).1
   omega
  | @rule k' r' l' e' g1 g2 g3 g4 g5 g6=>
   rcases Nat.lt_trichotomy k k' with hlt | rfl | hgt
   ·obtain⟨m,hm⟩:=g4 k r hlt h3
    exact absurd (h5.det hm) h6
   ·rw[h3] at g3
    cases g3
    exact⟨rfl,h5.det g5⟩
   ·obtain⟨m,hm⟩:=h4 k' r' hgt g3
    exact absurd (hm.det g5).symm g6
  | ok g1 g2 g3=>
   obtain⟨m,hm⟩:=g3 r (List.mem_of_getElem? h3)
   exact absurd (h5.det hm) h6
 | ok h1 h2 h3=>
  cases h' with
  | tree g1=>rw[h1] at g1;cases g1
  | twice g1 g2 g3 g4=>
   have:=notw_le7 g2 g3 h2
   have:=(List.getElem?_eq_some_iff.1 g2).1
   omega
  | rule _ _ g1 _ g2 g3=>
   obtain⟨m,hm⟩:=h3 _ (List.mem_of_getElem? g1)
   exact absurd (g2.det hm) g3
  | ok=>exact⟨rfl,rfl⟩
theorem ch_same {p:Pg} {ln k ln' k':Int} (h:DsC (ChA p) p.rules ln k) (h':DsC (ChA p) p.rules ln' k'):ln=ln'∧k=k':=dsc_same (fun _ _ _ _ h h'=>cha_same h h') h h'
end Go.Proofs.YtakpgcmfjlbcgaaGreatDoor
