/- Rm26@2 -/
import Derived.Test.YtdgbajnhhhjbcaaGreatDoorQ58
set_option linter.unusedSimpArgs false
set_option linter.unusedVariables false
namespace Go.Proofs.YtdgbajnhhhjbcaaGreatDoor
open Lib(hid)
open Go.RowKit
theorem box_pg {L:Nat} {w:World} {p:Pg} {v u:Value} (hp:PgC (past L w) w.heap.size p [v,u]):∃ o0 k0 o1 k1 W,v=.slice o0 p.decls.length k0∧u=.slice o1 p.rules.length k1∧w.alloc (.cells #[.slice o0 p.decls.length k0,.slice o1 p.rules.length k1] 25)=W ∧
  W.heap.size=w.heap.size+1∧Below w.heap.size w W∧PgC W W.heap.size p [.slice o0 p.decls.length k0,.slice o1 p.rules.length k1]∧Row w.heap.size 25 [.slice o0 p.decls.length k0,.slice o1 p.rules.length k1] W:=by
 have hp1:=Vis.pg hp (vis_past _ _) (Nat.le_refl _)
 obtain⟨o0,k0,o1,k1,hvu,_,_⟩:=hp1.look
 obtain⟨rfl,rfl⟩:v=.slice o0 p.decls.length k0∧u=.slice o1 p.rules.length k1:=by simpa using hvu
 have hb:=(Below.refl w.heap.size w).alloc (Nat.le_refl _) (.cells #[.slice o0 p.decls.length k0,.slice o1 p.rules.length k1] 25)
 exact⟨o0,k0,o1,k1,_,rfl,rfl,rfl,by simp,hb,(hp1.below hb).more hb.size,Row.new w 25 [.slice o0 p.decls.length k0,.slice o1 p.rules.length k1]⟩
structure InBox (n:Nat) (p:Pg) (o0:Option Addr) (k0:Nat) (o1:Option Addr) (k1:Nat) (w:World):Prop where
 row:Row n 25 [.slice o0 p.decls.length k0,.slice o1 p.rules.length k1] w
 pg:PgC w w.heap.size p [.slice o0 p.decls.length k0,.slice o1 p.rules.length k1]
theorem InBox.below {n:Nat} {p:Pg} {o0:Option Addr} {k0:Nat} {o1:Option Addr} {k1:Nat} {w w':World} (h:InBox n p o0 k0 o1 k1 w) (hb:Below w.heap.size w w'):InBox n p o0 k0 o1 k1 w':=
 ⟨h.row.below hb h.row.lt,(h.pg.below hb).more hb.size⟩
theorem InBox.c0 {n:Nat} {p:Pg} {o0:Option Addr} {k0:Nat} {o1:Option Addr} {k1:Nat} {w:World} (h:InBox n p o0 k0 o1 k1 w):w.cell? ⟨n,0,none⟩=some (.slice o0 p.decls.length k0):=h.row.at 0 _ rfl
theorem InBox.c1 {n:Nat} {p:Pg} {o0:Option Addr} {k0:Nat} {o1:Option Addr} {k1:Nat} {w:World} (h:InBox n p o0 k0 o1 k1 w):w.cell? ⟨n,1,none⟩=some (.slice o1 p.rules.length k1):=h.row.at 1 _ rfl
theorem InBox.sl {n:Nat} {p:Pg} {o0:Option Addr} {k0:Nat} {o1:Option Addr} {k1:Nat} {w:World} (h:InBox n p o0 k0 o1 k1 w):SlOf w w.heap.size 6 (DeC w w.heap.size) p.decls (.slice o0 p.decls.length k0)∧SlOf w w.heap.size 4 (RuC w w.heap.size) p.rules (.slice o1 p.rules.length k1):=by
 obtain⟨v,u,hvu,h1,h2⟩:=h.pg
 have e1:v=.slice o0 p.decls.length k0:=(List.cons.inj hvu).1.symm
 have e2:u=.slice o1 p.rules.length k1:=(List.cons.inj (List.cons.inj hvu).2).1.symm
 exact⟨e1 ▸ h1,e2 ▸ h2⟩
def cut2 (s:ByteArray):ByteArray:=s.extract 0 (min (s.size:Int) 2000).toNat
theorem cut2_size (s:ByteArray):(cutS (cut2 s)).data.toList.length≤2000:=by
 have h1:(cut2 s).size≤2000:=by unfold cut2;simp;omega
 have h2:(cutS (cut2 s)).size≤(cut2 s).size:=by unfold cutS;simp;omega
 have h3:(cutS (cut2 s)).data.toList.length=(cutS (cut2 s)).size:=by simp
 omega
theorem pair_of {u:Pg} {ds:List De} {rs:List Ru} {e m:Int} (h:(u,m,e)=((⟨ds,rs⟩:Pg),(0:Int),(0:Int))):u=⟨ds,rs⟩∧e=0:=by cases h;exact⟨rfl,rfl⟩
set_option maxRecDepth 100000 in
set_option maxHeartbeats 8000000 in
theorem dreadParts_c (s t:ByteArray) (a b c d:Addr) (w:World) (_:s.size≤maxLen) (_:t.size≤maxLen) (E:VEnv a b c d w) :
  Calls Tryz.prog 5 #[.string s,.string t] w fun e w'=>e=.returned (.bool true)∧Below w.heap.size w w':=by
 have HE:=hid E
 have HH:=hid (vshown_c a b c d w E)
 have m0:0≤min (s.size:Int) 2000:=by omega
 have m1:min (s.size:Int) 2000≤(s.size:Int):=by omega
 have m2:0≤min (t.size:Int) 2000:=by omega
 have m3:min (t.size:Int) 2000≤(t.size:Int):=by omega
 have hS:s.extract 0 (min (s.size:Int) 2000).toNat=cut2 s:=rfl
 have hT:t.extract 0 (min (t.size:Int) 2000).toNat=cut2 t:=rfl
 obtain⟨r,hr1⟩:∃ r,lexR (cutS (cut2 s)).data.toList=r:=⟨_,rfl⟩
 obtain⟨ts1,l1,f1⟩:=r
 obtain⟨r,hr2⟩:∃ r,lexR (cutS (cut2 t)).data.toList=r:=⟨_,rfl⟩
 obtain⟨ts2,l2,f2⟩:=r
 obtain⟨r,hq1⟩:∃ r,parseQ (ts1.map tokI)=r:=⟨_,rfl⟩
 obtain⟨p,i1,e1⟩:=r
 obtain⟨r,hq2⟩:∃ r,parseQ (ts2.map tokI)=r:=⟨_,rfl⟩
 obtain⟨q,i2,e2⟩:=r
 obtain⟨r,hq3⟩:∃ r,parseQ ((ts1++ts2).map tokI)=r:=⟨_,rfl⟩
 obtain⟨u,i3,e3⟩:=r
 have hn1:ts1.length≤2000:=Nat.le_trans (lexR_len hr1) (cut2_size s)
 have hn2:ts2.length≤2000:=Nat.le_trans (lexR_len hr2) (cut2_size t)
 have G1:=hid (lexR_tok hr1).2.1
 have G2:=hid (lexR_tok hr2).2.1
 have G3:Hid (∀ x ∈ (ts1++ts2).map tokI,GoodT x):=hid (by
  intro x hx
  rw[List.map_append] at hx
  rcases List.mem_append.1 hx with h | h
  ·exact G1.out x h
  ·exact G2.out x h)
 have Hr1:=hid hr1
 have Hr2:=hid hr2
 have Hq1:=hid hq1
 have Hq2:=hid hq2
 have Hq3:=hid hq3
 have Hn1:=hid hn1
 have Hn2:=hid hn2
 clear E hr1 hr2 hq1 hq2 hq3
 go_enter Tryz.func5,Tryz.ntmps5
 go_wp2_with fail
 refine HH.out.mono ?_
 rintro e w1 ⟨rfl,b1⟩
 have B1:=hid b1
 have HL:=hid (lexed_c (cut2 s) a b c d w1 (HE.out.below b1))
 clear b1
 go_wp2_with fail
 refine HL.out.mono ?_
 rintro e w2 ⟨v1,rfl,hown1,b2⟩
 rw[Hr1.out] at hown1
 obtain⟨oa,ca,rfl⟩:=own_form1 hown1
 have B2:=hid (B1.out.trans (b2.mono B1.out.size))
 have O1:=hid hown1
 have HL2:=hid (lexed_c (cut2 t) a b c d w2 (HE.out.below B2.out))
 clear hown1 b2
 go_wp2_with fail
 refine HL2.out.mono ?_
 rintro e w3 ⟨v2,rfl,hown2,b3⟩
 rw[Hr2.out] at hown2
 obtain⟨ob,cb,rfl⟩:=own_form1 hown2
 have B3:=hid (B2.out.trans (b3.mono B2.out.size))
 have O1:=hid (own_below O1.out b3)
 have O2:=hid hown2
 have HP:=hid (dparse_c (ts1.map tokI) _ d w3 (SliceOf.of_own O1.out) G1.out (HE.out.below B3.out).par)
 clear hown2 b3 m0 m1 m2 m3 hS hT
 go_wp2_with fail
 refine HP.out.mono ?_
 rintro e w4 ⟨x,y,rfl,hp,b4⟩
 rw[Hq1.out] at hp ⊢
 obtain⟨o0,k0,o1,k1,W4,rfl,rfl,hW4,hs4,bb4,P4,R4⟩:=box_pg hp
 obtain⟨n4,hn4⟩:∃ n4,w4.heap.size=n4:=⟨_,rfl⟩
 rw[hn4] at R4
 have I4:Hid (InBox n4 p o0 k0 o1 k1 W4):=hid ⟨R4,P4⟩
 have bw4:=b4.trans (bb4.mono b4.size)
 have B4:=hid (B3.out.trans (bw4.mono B3.out.size))
 have O1:=hid (own_below O1.out bw4)
 have O2:=hid (own_below O2.out bw4)
 have HP2:=hid (dparse_c (ts2.map tokI) _ d W4 (SliceOf.of_own O2.out) G2.out (HE.out.below B4.out).par)
 clear hp b4 hs4 bb4 P4 R4 bw4
 subst hW4
 go_wp2_with fail
 refine HP2.out.mono ?_
 rintro e w5 ⟨x,y,rfl,hp,b5⟩
 rw[Hq2.out] at hp ⊢
 obtain⟨o2,k2,o3,k3,W5,rfl,rfl,hW5,hs5,bb5,P5,R5⟩:=box_pg hp
 obtain⟨n5,hn5⟩:∃ n5,w5.heap.size=n5:=⟨_,rfl⟩
 rw[hn5] at R5
 have I5:Hid (InBox n5 q o2 k2 o3 k3 W5):=hid ⟨R5,P5⟩
 have bw5:=b5.trans (bb5.mono b5.size)
 have B5:=hid (B4.out.trans (bw5.mono B4.out.size))
 have I4:=hid (I4.out.below bw5)
 have O1:=hid (own_below O1.out bw5)
 have O2:=hid (own_below O2.out bw5)
 clear hp b5 hs5 bb5 P5 R5 bw5
 obtain⟨i0,hi,hz0,hz1,hz2⟩:=info_parts infoTok
 have K1:Hid (i0.bytes * (ts1.length+ts2.length)≤281474976710656):=hid (by rw[hz2];omega)
 have K2:Hid (ts1.length+ts2.length≤maxLen):=hid (by unfold maxLen;omega)
 have K3:Hid ((ts1.length:Int)+(ts2.length:Int)=((ts1.length+ts2.length:Nat):Int)):=hid (by omega)
 have K4:Hid (0+ts1.length≤maxLen∧0+ts1.length+ts2.length≤maxLen):=hid (by unfold maxLen;omega)
 have K5:Hid ((0+ts1.length) * 32≤140737488355328∧(0+ts1.length+ts2.length) * 32≤140737488355328):=hid (by omega)
 have Q1:=hid (Spread.own O1.out (toks_one ts1))
 have Q2:=hid (Spread.own O2.out (toks_one ts2))
 have HW5:=hid hW5
 have BB0:Hid (Below W5.heap.size W5 W5):=hid (Below.refl _ _)
 have HLAST:=hid (fun (v3:Value) (w8:World) (hb8:Below W5.heap.size W5 w8) (hown:w8.ownsRow W5.heap.size 89 3 v3 (0+ts1.length+ts2.length) ([]++tokCells ts1++tokCells ts2))=>
  show Calls Tryz.prog 13 #[v3] w8 (ParP (parseQ ((ts1++ts2).map tokI)) w8) from
   dparse_c ((ts1++ts2).map tokI) v3 d w8 (SliceOf.of_own (base:=W5.heap.size) (by rw[toks_app,List.length_append];simpa using hown)) G3.out (HE.out.below (B5.out.trans (hb8.mono B5.out.size))).par)
 clear hW5
 go_wp2_with (first
  | (at_make;rw[HW5.out];refine wpList_make_own _ rfl _ _ 47 rfl W5.heap.size 89 i0 _ 3 Tryz.underlying47 hi hz0 hz1 .i64 .i64 _ (ts1.length+ts2.length) rfl rfl K3.out K1.out K2.out (Nat.le_refl _) ?_;intro w6 hown6 hg6;have O6:=hid hown6;have B6:=hid (below_grown BB0.out (Nat.le_refl _) hg6 (fun g h=>by cases h));clear hown6 hg6)
  | (at_builtin;refine wpList_append_any _ rfl _ _ 47 rfl W5.heap.size 89 i0 _ 3 32 Tryz.underlying47 hi hz0 hz1 hz2 rfl (by decide) (.slice (some ⟨W5.heap.size,0,none⟩) 0 (ts1.length+ts2.length)) 0 [] rfl O6.out (.slice oa ts1.length ca) ts1.length (tokCells ts1) rfl (Q1.out.cells fun p c hc=>cellK B6.out rfl hc) K4.out.1 K5.out.1 B6.out.size ?_;intro v7 w7 hown7 hg7 hl7;have O7:=hid hown7;have B7:=hid (below_grown B6.out (Nat.le_refl _) hg7 (fun g h=>by cases h;exact Nat.le_refl _));have L7:Hid (∀ g,v7.ownBlock=some g→W5.heap.size≤g):=hid (fun g h=>(ownsRow_lt O7.out g h).1);clear hown7 hg7 hl7)
  | (at_builtin;refine wpList_append_any _ rfl _ _ 47 rfl W5.heap.size 89 i0 _ 3 32 Tryz.underlying47 hi hz0 hz1 hz2 rfl (by decide) v7 (0+ts1.length) _ rfl O7.out (.slice ob ts2.length cb) ts2.length (tokCells ts2) rfl (Q2.out.cells fun p c hc=>cellK B7.out rfl hc) K4.out.2 K5.out.2 B7.out.size ?_;intro v8 w8 hown8 hg8 hl8;have O8:=hid hown8;have B8:=hid (below_grown B7.out (Nat.le_refl _) hg8 L7.out);clear hown8 hg8 hl8))
 refine (HLAST.out _ _ B8.out O8.out).mono ?_
 rintro e w9 ⟨x,y,rfl,hp,b9⟩
 rw[Hq3.out] at hp ⊢
 obtain⟨o4,k4,o5,k5,W9,rfl,rfl,hW9,hs9,bb9,P9,R9⟩:=box_pg hp
 obtain⟨n9,hn9⟩:∃ n9,w9.heap.size=n9:=⟨_,rfl⟩
 rw[hn9] at R9
 have bw9:=B8.out.trans ((b9.trans (bb9.mono b9.size)).mono B8.out.size)
 have I9:Hid (InBox n9 u o4 k4 o5 k5 W9):=hid ⟨R9,P9⟩
 have I4:=hid (I4.out.below bw9)
 have I5:=hid (I5.out.below bw9)
 have B9:=hid (B5.out.trans (bw9.mono B5.out.size))
 have BB9:Hid (Below W9.heap.size W9 W9):=hid (Below.refl _ _)
 have HWx:Hid (w9.alloc (.cells #[.slice o4 u.decls.length k4,.slice o5 u.rules.length k5] 25)=W9):=hid hW9
 have hp1:=small_read Hr1.out Hq1.out
 have hp2:=small_read Hr2.out Hq2.out
 have hpd:=hp1.1
 have hpr:=hp1.2
 have hqd:=hp2.1
 have hqr:=hp2.2
 have c0:=I4.out.c0
 have c1:=I4.out.c1
 have d0:=I5.out.c0
 have d1:=I5.out.c1
 have l4:=I4.out.row.lt
 have l5:=I5.out.row.lt
 clear hp b9 hs9 bb9 P9 R9 bw9 O1 O2 O6 O7 O8 Q1 Q2 B6 B7 B8 L7 K1 K2 K3 K4 K5 HLAST HP HP2 HL HL2 HH G1 G2 G3 HW5 BB0 B1 B2 B3 B4 hi hz0 hz1 hz2 hp1 hp2
 have quit:∀ (K:Prop),(e1=0→e2=0→p.decls.length+q.decls.length≤60→p.rules.length+q.rules.length≤200→K)→((((e1:Int) != 0)=true)→K)→(e1=0→(((e2:Int) != 0)=true)→K)→(e1=0→e2=0→(60:Int) < (p.decls.length:Int)+(q.decls.length:Int)→K)→(e1=0→e2=0→p.decls.length+q.decls.length≤60→(200:Int) < (p.rules.length:Int)+(q.rules.length:Int)→K)→K:=by
  intro K h1 h2 h3 h4 h5
  by_cases a1:e1=0
  ·by_cases a2:e2=0
   ·by_cases a3:p.decls.length+q.decls.length≤60
    ·by_cases a4:p.rules.length+q.rules.length≤200
     ·exact h1 a1 a2 a3 a4
     ·exact h5 a1 a2 a3 (by omega)
    ·exact h4 a1 a2 (by omega)
   ·exact h3 a1 (by simpa using a2)
  ·exact h2 (by simpa using a1)
 refine quit _ (fun a1 a2 a3 a4=>?_) (fun a1=>?_) (fun a1 a2=>?_) (fun a1 a2 a3=>?_) (fun a1 a2 a3 a4=>?_)
 rotate_left
 ·clear quit
  subst hW9
  go_wp2
  go_ret
  exact⟨rfl,B9.out⟩
 ·clear quit
  subst a1
  subst hW9
  go_wp2
  go_ret
  exact⟨rfl,B9.out⟩
 ·clear quit
  subst a1
  subst a2
  subst hW9
  go_wp2
  go_ret
  exact⟨rfl,B9.out⟩
 ·clear quit
  subst a1
  subst a2
  have a3':¬ (60:Int) < (p.decls.length:Int)+(q.decls.length:Int):=by omega
  clear a3
  subst hW9
  go_wp2
  go_ret
  exact⟨rfl,B9.out⟩
 clear quit
 subst a1
 subst a2
 have a3':¬ (60:Int) < (p.decls.length:Int)+(q.decls.length:Int):=by omega
 have a4':¬ (200:Int) < (p.rules.length:Int)+(q.rules.length:Int):=by omega
 have A3:=hid a3
 have A4:=hid a4
 clear a3 a4
 obtain⟨_,_,ee,hcap,hcm,SP⟩:=SlOf.open I4.out.sl.1
 cases ee
 obtain⟨_,_,ee,hcap2,hcm2,SQ⟩:=SlOf.open I5.out.sl.1
 cases ee
 subst hW9
 go_simp
 repeat (first | go_values | go_skip | go_guarded | go_step | go_upon)
 clear c0 c1 d0 d1 l4 l5 HWx
 obtain⟨W9,hW9⟩:∃ W,(w9.alloc (.cells #[.slice o4 u.decls.length k4,.slice o5 u.rules.length k5] 25))=W:=⟨_,rfl⟩
 rw[hW9] at I4 I5 I9 B9 BB9 SP SQ ⊢
 clear hW9
 go_loopw [17] (fun i wr=>∃ k:Nat,k≤q.decls.length∧i=.int .i64 (k:Int)∧(∀ (i j:Nat) (x y:De),i < k→q.decls[i]?=some x→p.decls[j]?=some y→(y.rel.toList == x.rel.toList)=false)∧Below W9.heap.size W9 wr) (fun i _=>q.decls.length - (intOf i).toNat)
 case atStart=>exact⟨0,Nat.zero_le _,rfl,fun _ _ _ _ h=>absurd h (Nat.not_lt_zero _),BB9.out⟩
 case round=>
  obtain⟨k,hk,rfl,hd,hB⟩:=hrel
  have hBs:=hB.size
  have Hd:=hid hd
  have J4:=hid (I4.out.below hB)
  have J5:=hid (I5.out.below hB)
  have J9:=hid (I9.out.below hB)
  have x0:=J5.out.c0
  have y0:=J4.out.c0
  have l4:=J4.out.row.lt
  have l5:=J5.out.row.lt
  clear hd
  by_cases hlt:k < q.decls.length
  ·have hlt':(k:Int) < (q.decls.length:Int):=by omega
   have hk0:(0:Int)≤(k:Int):=by omega
   obtain⟨x,hx⟩:∃ x,q.decls[k]?=some x:=⟨q.decls[k],List.getElem?_eq_getElem hlt⟩
   obtain⟨W1,rfl⟩:∃ W1,W1=wr:=⟨_,rfl⟩
   have Hx:=hid hx
   have HB:=hid hB
   clear hx hB
   go_wp2
   go_loopw [18] (fun i wx=>∃ j:Nat,j≤p.decls.length∧i=.int .i64 (j:Int)∧(∀ (i:Nat) (y:De),i < j→p.decls[i]?=some y→(y.rel.toList == x.rel.toList)=false)∧Below W1.heap.size W1 wx) (fun i _=>p.decls.length - (intOf i).toNat)
   case atStart=>exact⟨0,Nat.zero_le _,rfl,fun _ _ h=>absurd h (Nat.not_lt_zero _),Below.refl _ _⟩
   case round=>
    obtain⟨j,hj,rfl,hf,hB2⟩:=hrel
    have Hf:=hid hf
    have hBw:Below W9.heap.size W9 wr:=HB.out.trans (hB2.mono hBs)
    have HBw:=hid hBw
    have HB2:=hid hB2
    have z0:=(J5.out.below hB2).c0
    have z1:=(J4.out.below hB2).c0
    have m4:=(J4.out.below hB2).row.lt
    have m5:=(J5.out.below hB2).row.lt
    have hBws:=hBw.size
    clear hf hB2 x0 y0 l4 l5
    by_cases hjt:j < p.decls.length
    ·have hjt':(j:Int) < (p.decls.length:Int):=by omega
     have hj0:(0:Int)≤(j:Int):=by omega
     obtain⟨y,hy⟩:∃ y,p.decls[j]?=some y:=⟨p.decls[j],List.getElem?_eq_getElem (by omega)⟩
     obtain⟨bx,_,_,_,_,ex1,hbb,_,v0,_⟩:=de_at SP hBw hy
     obtain⟨by',_,_,_,_,ex2,hbb2,_,v1,_⟩:=de_at SQ hBw Hx.out
     subst ex1
     subst ex2
     have hzl:(bx.add (j * 6)).block < wr.heap.size:=by rw[addBlock];omega
     have hzl2:(by'.add (k * 6)).block < wr.heap.size:=by rw[addBlock];omega
     have Hy:=hid hy
     clear hy hBw
     cases hq:(y.rel.toList == x.rel.toList) with
     | true=>
      go_wp2
      go_quiet (fail)
      go_wp2
      go_ret
      exact⟨rfl,below_drewN (B9.out.trans (HBw.out.mono B9.out.size)) _⟩
     | false=>
      have Hq:=hid hq
      go_wp2
      go_quiet (fail)
      go_wp2
      go_roundw
      case rel=>
       refine⟨j+1,hjt,by go_num,fun i z hi hz=>?_,below_drewN HB2.out _⟩
       rcases Nat.lt_or_ge i j with h | h
       ·exact Hf.out i z h hz
       ·have:i=j:=by omega
        subst this
        have hz2:=Hy.out.symm.trans hz
        cases hz2
        exact Hq.out
      case measure=>simp[intOf];omega
    ·have hjt':¬ (j:Int) < (p.decls.length:Int):=by omega
     have hjk:j=p.decls.length:=by omega
     subst hjk
     clear hBw
     go_wp2
     go_roundw
     case rel=>
      refine⟨k+1,hlt,by go_num,fun i' j' x' y' h1 h2 h3=>?_,HBw.out⟩
      rcases Nat.lt_or_ge i' k with h | h
      ·exact Hd.out i' j' x' y' h h2 h3
      ·have:i'=k:=by omega
       subst this
       have hz2:=Hx.out.symm.trans h2
       cases hz2
       exact Hf.out j' y' (List.getElem?_eq_some_iff.1 h3).1 h3
     case measure=>simp[intOf];omega
  ·have hlt':¬ (k:Int) < (q.decls.length:Int):=by omega
   have hkl:k=q.decls.length:=by omega
   subst hkl
   have hboth:=both_math Hq1.out Hq2.out (by rw[List.length_map,List.length_map];omega) A3.out A4.out (fun i j x y h1 h2=>Hd.out i j x y (List.getElem?_eq_some_iff.1 h1).1 h1 h2)
   rw[← List.map_append] at hboth
   obtain⟨hu,he3⟩:=pair_of (Hq3.out.symm.trans hboth)
   subst he3
   have Hu:=hid hu
   have Bw:=hid (B9.out.trans (hB.mono B9.out.size))
   obtain⟨xs1,LX1,SX1⟩:=sl_laid J4.out.sl.1 de_one
   obtain⟨xs2,LX2,SX2⟩:=sl_laid J5.out.sl.1 de_one
   obtain⟨ys1,LY1,SY1⟩:=sl_laid J4.out.sl.2 ru_one
   obtain⟨ys2,LY2,SY2⟩:=sl_laid J5.out.sl.2 ru_one
   have L1:=hid (LX1.app LX2)
   have L2:=hid (LY1.app LY2)
   have T1:=hid SX1
   have T2:=hid SX2
   have T3:=hid SY1
   have T4:=hid SY2
   clear hu hB hboth LX1 LX2 LY1 LY2 SX1 SX2 SY1 SY2
   go_wp2_with fail
   refine wp_region_any (by kernel_rfl) ?_
   refine flow17 ⟨wr.heap.size,wr.drew,_,n4,n5,.slice o0 p.decls.length k0,.slice o2 q.decls.length k2,.slice o1 p.rules.length k1,.slice o3 q.rules.length k3,p.decls.length,q.decls.length,p.rules.length,q.rules.length,xs1,xs2,ys1,ys2⟩
    ⟨by show (130:Nat)≤140;decide,rfl,rfl,J4.out.c0,J4.out.c1,J5.out.c0,J5.out.c1,rfl,T1.out.cells (fun _ _ h=>h),T2.out.cells (fun _ _ h=>h),T3.out.cells (fun _ _ h=>h),T4.out.cells (fun _ _ h=>h),by show p.decls.length+q.decls.length≤1000;have:=A3.out;omega,by show p.rules.length+q.rules.length≤1000;have:=A4.out;omega⟩
    (by kernel_rfl) (by kernel_rfl) (by kernel_rfl) (by kernel_rfl)
    ⟨st17_0 rfl,st17_1 rfl,st17_2 rfl (by kernel_rfl),st17_3 rfl (by kernel_rfl),st17_4 rfl,st17_5 rfl (by kernel_rfl),st17_6 rfl (by kernel_rfl),st17_7 rfl,st17_8 rfl,st17_9 rfl (by kernel_rfl),st17_10 rfl (by kernel_rfl),st17_11 rfl,st17_12 rfl (by kernel_rfl),st17_13 rfl (by kernel_rfl),st17_14 rfl (by kernel_rfl),st17_15 rfl,st17_16 rfl (by kernel_rfl),trivial⟩ ?_
   intro l val w10 hF hall
   rw[acts_all _ hall]
   obtain⟨kb,v15,hkb,ownA,ownB,hb10⟩:=hF.all hall
   rw[v15]
   have bw10:Below wr.heap.size wr w10:=(Below.refl wr.heap.size wr).drew.trans hb10
   have K9:=J9.out.below bw10
   have L1':Laid 6 (DeC w10 w10.heap.size) (p.decls++q.decls) (xs1++xs2):=L1.out.mono fun x cs h=>(h.below bw10).more bw10.size
   have L2':Laid 4 (RuC w10 w10.heap.size) (p.rules++q.rules) (ys1++ys2):=L2.out.mono fun x cs h=>(h.below bw10).more bw10.size
   have S1:SlOf w10 w10.heap.size 6 (DeC w10 w10.heap.size) (p.decls++q.decls) (val 6):=sl_own0 (by rw[List.length_append];exact ownA) L1'
   have S2:SlOf w10 w10.heap.size 4 (RuC w10 w10.heap.size) (p.rules++q.rules) (val 13):=sl_own0 (by rw[List.length_append];exact ownB) L2'
   have Rk:Row kb 25 [val 6,val 13] w10:=hkb
   obtain⟨oA,cA,eA⟩:=own_form1 ownA
   obtain⟨oB,cB,eB⟩:=own_form1 ownB
   have HS:=hid (same_c u ⟨p.decls++q.decls,p.rules++q.rules⟩ w10 _ [val 6,val 13] K9.pg ⟨_,_,rfl,S1,S2⟩)
   rw[eA,eB] at Rk HS
   have r0:=Rk.at 0 _ rfl
   have r1:=Rk.at 1 _ rfl
   have rl:=Rk.lt
   have t0:=K9.c0
   have t1:=K9.c1
   have tl:=K9.row.lt
   have B10:=hid (Bw.out.trans (bw10.mono Bw.out.size))
   rw[eA,eB]
   clear hF hall hkb ownA ownB hb10 bw10 K9 L1' L2' S1 S2 Rk L1 L2 T1 T2 T3 T4 v15 eA eB x0 y0 l4 l5 SP SQ Hd
   simp only[Exit.then,Act.put]
   go_simp
   go_wp2_with fail
   refine HS.out.mono ?_
   rintro e w11 ⟨rfl,b11⟩
   rw[Hu.out,sameP_refl]
   have B11:=hid (B10.out.trans (b11.mono B10.out.size))
   clear b11 r0 r1 t0 t1
   go_wp2
   go_ret
   exact⟨rfl,B11.out⟩
end Go.Proofs.YtdgbajnhhhjbcaaGreatDoor
