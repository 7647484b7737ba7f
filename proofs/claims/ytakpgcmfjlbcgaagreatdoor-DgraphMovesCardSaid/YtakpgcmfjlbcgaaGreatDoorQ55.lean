/- Gmo@3 -/
import Derived.Test.YtakpgcmfjlbcgaaGreatDoorQ52
import Derived.Test.YtakpgcmfjlbcgaaGreatDoorQ48
set_option linter.unusedSimpArgs false
set_option linter.unusedVariables false
namespace Go.Proofs.YtakpgcmfjlbcgaaGreatDoor
open Lib(hid)
open Go.RowKit
def slotsMo:List (Option Tmp):=[some 42,some 43,some 44,some 45,some 46,some 47,some 48,some 49,some 50,some 51,some 8,none]
def factsMo (b:Nat) (D V:Value) (n:Nat):List (Value→Prop):=
 [fun x=>x=.pointer (some ⟨b,0,none⟩),fun x=>x=D,fun x=>x=.pointer (some ⟨b,1,none⟩),fun x=>x=V,fun x=>x=.int .i64 (n:Int),fun _=>True,fun x=>x=.pointer (some ⟨b,1,none⟩),fun x=>x=V,fun _=>True,fun _=>True,fun _=>True]
def stateMo (N n:Nat) (D:Value) (xs:List Value):Nat→(Nat→Value)→World→Prop
 | 0,_,_=>True
 | 1,val,w=>w.ownsRow N 47 4 (val 5) 0 []
 | 2,val,w=>w.ownsRow N 47 4 (val 8) n xs
 | 3,val,w=>w.ownsRow N 47 4 (val 8) n xs∧val 9=.agg #[D,val 8]
 | 4,val,w=>w.ownsRow N 47 4 (val 8) n xs∧∃ b,val 10=.pointer (some ⟨b,0,none⟩)∧N≤b∧w.heap[b]?=some (.cells #[D,val 8] 25 (0,0))
 | _,_,_=>False
def slotsM5:List (Option Tmp):=[some 52,some 53,some 54,some 55,some 56,some 57,some 58,some 59,some 60,none]
def slotsM6:List (Option Tmp):=[some 61,some 62,some 63,some 64,some 65,some 66,some 67,some 68,some 69,none]
def factsM5 (b q:Nat) (ov bv:Value) (m n:Nat) (src dst:Addr) (L:Array Value):List (Value→Prop):=
 [fun x=>x=.pointer (some ⟨q,1,none⟩),fun x=>x=ov,fun x=>x=.int .i64 (m:Int),fun x=>x=.pointer (some ⟨b,1,none⟩),fun x=>x=bv,fun x=>x=.int .i64 (n:Int),fun x=>x=.pointer (some src),fun x=>x=.agg L,fun x=>x=.pointer (some dst)]
def stateM5 (N:Nat) (v:Value) (n:Nat) (xs ys:List Value):Nat→(Nat→Value)→World→Prop
 | 0,_,w=>w.ownsRow N 47 4 v n xs
 | _,_,w=>w.ownsRow N 47 4 v n ys
theorem gra_len {p:Pg} {L:List (List Nat)} {ln k:Int} (hn:p.decls.length≤1000) (h:GrA (ChA p) p L ln k):L.length≤1000:=by
 cases h with
 | chk=>exact Nat.zero_le _
 | lay=>exact Nat.zero_le _
 | ok _ _ h=>have:=(oncG_of edgesG_lt h).few;omega
def ruC7 (r:Ru) (o0:Option Addr) (k0:Nat) (o1:Option Addr) (k1:Nat):List Value:=[.string r.head.rel,.slice o0 r.head.l.length k0,.slice o1 r.body.length k1,.int .i64 r.line]
set_option maxRecDepth 100000 in
set_option maxHeartbeats 32000000 in
theorem dgraphMoves_c (p:Pg) (i:Int) (k:Int) (e1' e2' e3' e4' e5' x' y':Addr) (w:World) (cs:List Value) (hp:PgC w w.heap.size p cs) (_:-9223372036854775808≤i) (_:i≤9223372036854775807) (_:-9223372036854775808≤k) (_:k≤9223372036854775807) (E:EnvC e1' e2' e3' e4' e5' x' y' w) :
  Calls Tryz.prog 6 #[.agg cs.toArray,.int .i64 i,.int .i64 k] w fun e w'=>e=.returned (.bool true)∧Below w.heap.size w w':=by
 have HP:=hid hp
 have HE:=hid E
 have hb0:∀ C:Obj,Below w.heap.size w (w.alloc C):=fun C=>(Below.refl _ _).alloc (Nat.le_refl _) _
 have HB0:=hid hb0
 have HH:=hid (fun (W:World) (hb:Below w.heap.size w W)=>shown7_c e1' e2' e3' e4' e5' x' y' W (E.below hb))
 have HS:=hid (fun (W:World) (hb:Below w.heap.size w W)=>small_c p W cs ((hp.below hb).more hb.size))
 obtain⟨p1,q1,r1,s1,rfl,hds,hrs⟩:=hp.look
 have HDs:=hid hds
 have HRs:=hid hrs
 clear hp E hb0 hds hrs
 go_enter Tryz.func6,Tryz.ntmps6
 go_wp2_with fail
 refine (HH.out _ (HB0.out _)).mono ?_
 rintro e1 w1 ⟨rfl,b1⟩
 have R1:=hid ((b1.block w.heap.size (by simp)).trans (World.alloc_heap_new w _))
 have B1:=hid ((HB0.out _).trans (b1.mono (by simp)))
 have x0:=row_cells R1.out 0
 have x1:=row_cells R1.out 1
 simp at x0 x1
 have hz1:w.heap.size < w1.heap.size:=heap_lt R1.out
 clear b1
 go_wp2_with fail
 refine (HS.out _ B1.out).mono ?_
 rintro e2 w2 ⟨rfl,b2⟩
 have R2:=hid ((b2.block w.heap.size hz1).trans R1.out)
 have B2:=hid (B1.out.trans (b2.mono B1.out.size))
 have z0:=row_cells R2.out 0
 have z1:=row_cells R2.out 1
 simp at z0 z1
 have hz2:w.heap.size < w2.heap.size:=heap_lt R2.out
 clear b2 x0 x1
 unfold smallI
 cases hs:smallP p with
 | false=>
  clear hs
  go_wp2
  go_ret
  exact⟨rfl,B2.out⟩
 | true=>
 have HSm:=hid hs
 have HL:=hid (lil_small hs)
 have hlr:=(small_lens hs).2
 have HG:=hid (fun (l:List Ru) (cs:List Value) (hl:l.length≤p.rules.length) (hm:∀ r ∈ l,r ∈ p.rules) (W:World) (hb:Below w.heap.size w W) (hc:PgC W W.heap.size ⟨p.decls,l⟩ cs)=>groups7_c ⟨p.decls,l⟩ cs e1' e2' e3' e4' e5' x' y' W hc (lil_some HSm.out hl hm).few (lil_some HSm.out hl hm).rule (HE.out.below hb) (lil_some HSm.out hl hm).n (lil_some HSm.out hl hm).e)
 clear hs
 by_cases hi0:i < 0
 ·go_wp2
  go_ret
  exact⟨rfl,B2.out⟩
 by_cases hk0:k < 0
 ·go_wp2
  go_ret
  exact⟨rfl,B2.out⟩
 obtain⟨m,rfl⟩:=Int.eq_ofNat_of_zero_le (show 0≤i by omega)
 obtain⟨n,rfl⟩:=Int.eq_ofNat_of_zero_le (show 0≤k by omega)
 by_cases hi1:p.rules.length≤m
 ·have hi1':(p.rules.length:Int)≤(m:Int):=by omega
  go_wp2
  go_ret
  exact⟨rfl,B2.out⟩
 by_cases hk1:p.rules.length≤n
 ·have hi1':¬ (p.rules.length:Int)≤(m:Int):=by omega
  have hk1':(p.rules.length:Int)≤(n:Int):=by omega
  go_wp2
  go_ret
  exact⟨rfl,B2.out⟩
 have hi1':¬ (p.rules.length:Int)≤(m:Int):=by omega
 have hk1':¬ (p.rules.length:Int)≤(n:Int):=by omega
 obtain⟨i0,hi,hy0,hy1,hy2⟩:=info_parts infoRu7
 have mB:i0.bytes * p.rules.length≤281474976710656:=by rw[hy2];omega
 obtain⟨ra,rfl⟩:∃ ra,r1=some ra:=by
  rcases HRs.out with ⟨_,h2⟩ | ⟨a,cap,h,_⟩
  ·rw[h2] at hi1;simp at hi1
  ·cases h;exact⟨a,rfl⟩
 obtain⟨o2',cap2',e2',hc2',hm2',_⟩:=SlOf.open HRs.out
 cases e2'
 have hcap:p.rules.length≤s1:=hc2'
 have hcapm:s1≤9223372036854775807:=hm2'
 obtain⟨xs,hl1,hsp1⟩:=sl_laid HRs.out ru_one
 have HLd:=hid hl1
 have HSp1:=hid hsp1
 have Spr:=hid (fun (w':World) (u:Value) (n:Nat) (zs:List Value) (hs:Spread w 4 u n zs) (hb:Kp (fun _=>False) w2.drew w')=>(by
  rcases hs with h | ⟨ad,c,h1,h2,h3,h4⟩
  ·exact .inl h
  ·refine .inr ⟨ad,c,h1,h2,fun j u hu=>?_,h4⟩
   have hc:=h3 j u hu
   have hlt:=World.block_lt_of_cell? _ _ hc
   have hb4:=B2.out.block (ad.add j).block (by rw[addBlock];rw[addBlock] at hlt;exact hlt)
   exact (World.cell?_of_block ((hb.block _ (by show (ad.add j).block < w2.heap.size;have:=B2.out.size;omega) (fun h=>h)).trans hb4)).trans hc:Spread w' 4 u n zs))
 have HR0:=hid (fun (w':World) (hb:Kp (fun _=>False) w2.drew w')=>(hb.block w.heap.size (heap_lt R2.out) (fun h=>h)).trans R2.out)
 clear hl1 hsp1
 go_wp2_with fail
 clear z0 z1
 refine wp_region_any (by kernel_rfl) ?_
 (try (change wpAny _ _ _ _ _ _ _ (World.drew _)))
 refine wpAny_chainA slotsMo [5,8,9,11] _ _ (factsMo w.heap.size (.slice p1 p.decls.length q1) (.slice (some ra) p.rules.length s1) p.rules.length) (stateMo w2.heap.size p.rules.length (.slice p1 p.decls.length q1) xs) (fun _=>False) 10 (PgB w2.heap.size) (by decide) ?grow
  (by kernel_rfl) (by kernel_rfl) (by kernel_rfl) (by kernel_rfl) (by kernel_rfl) (by decide) (by decide) ?indep (fun c o hc ho=>by cases hc;cases ho;kernel_rfl) (by decide) trivial
  ⟨.p (by decide) rfl ?s0,.p (by decide) rfl ?s1,.p (by decide) rfl ?s2,.p (by decide) rfl ?s3,.p (by decide) rfl ?s4,.c 0 rfl (by kernel_rfl) (by decide) ?s5,.p (by decide) rfl ?s6,.p (by decide) rfl ?s7,.c 1 rfl (by kernel_rfl) (by decide) ?s8,.c 2 rfl (by kernel_rfl) (by decide) ?s9,.a rfl rfl ?s10,.c 3 rfl (by kernel_rfl) (by decide) ?s11,trivial⟩ ?fin
 case grow=>
  intro k val u v h hb
  have ob:∀ {b n:Nat} {x:Value} {l:List Value},u.ownsRow b 47 4 x n l→v.ownsRow b 47 4 x n l:=fun h=>own_below h hb
  match k,h with
  | 0,h=>exact trivial
  | 1,h=>exact ob h
  | 2,h=>exact ob h
  | 3,h=>exact⟨ob h.1,h.2⟩
  | 4,h=>
   obtain⟨h1,b,h2,h3,h4⟩:=h
   exact⟨ob h1,b,h2,h3,(hb.block b (heap_lt h4)).trans h4⟩
  | k+5,h=>exact False.elim h
 case indep=>
  intro k val val' w' h he hs
  match k,hs,he with
  | 0,hs,_=>exact trivial
  | 1,hs,_=>exact (by show w'.ownsRow _ _ _ (val' 5) 0 [];rw[← h 5 (by decide)];exact hs)
  | 2,hs,_=>exact (by show w'.ownsRow _ _ _ (val' 8) p.rules.length xs;rw[← h 8 (by decide)];exact hs)
  | 3,hs,_=>exact⟨by rw[← h 8 (by decide)];exact hs.1,by rw[← h 8 (by decide),← h 9 (by decide)];exact hs.2⟩
  | 4,hs,he=>
   obtain⟨h1,b,h2,h3,h4⟩:=hs
   exact⟨by rw[← h 8 (by decide)];exact h1,b,by rw[← he rfl];exact h2,h3,by rw[← h 8 (by decide)];exact h4⟩
  | k+5,hs,he=>exact False.elim hs
 case s0=>
  intro A w' K hb hfar hd hK
  have e1:A.tmps[3]?.getD undef=.pointer (some ⟨w.heap.size,0,none⟩):=hfar 3 (by decide)
  unfold Oper.wp
  simp[execOp,e1,go_sem,Result.andThen]
  exact hK _ (factV_mk rfl rfl)
 case s2=>
  intro A w' K hb hfar hd hK
  have e1:A.tmps[3]?.getD undef=.pointer (some ⟨w.heap.size,0,none⟩):=hfar 3 (by decide)
  unfold Oper.wp
  simp[execOp,e1,go_sem,Result.andThen]
  exact hK _ (factV_mk rfl rfl)
 case s6=>
  intro A w' K hb hfar hd hK
  have e1:A.tmps[3]?.getD undef=.pointer (some ⟨w.heap.size,0,none⟩):=hfar 3 (by decide)
  unfold Oper.wp
  simp[execOp,e1,go_sem,Result.andThen]
  exact hK _ (factV_mk rfl rfl)
 case s1=>
  intro A w' K hb hfar hd hK
  have e1:A.tmps[42]?.getD undef=.pointer (some ⟨w.heap.size,0,none⟩):=hd 0 42 rfl (by kernel_rfl) _ rfl
  have c2:w'.cell? ⟨w.heap.size,0,none⟩=some (.slice p1 p.decls.length q1):=row_cells (HR0.out w' hb) 0
  unfold Oper.wp
  simp[execOp,e1,c2,go_sem,Result.andThen]
  exact hK _ (factV_mk rfl rfl)
 case s3=>
  intro A w' K hb hfar hd hK
  have e1:A.tmps[44]?.getD undef=.pointer (some ⟨w.heap.size,1,none⟩):=hd 2 44 rfl (by kernel_rfl) _ rfl
  have c2:w'.cell? ⟨w.heap.size,1,none⟩=some (.slice (some ra) p.rules.length s1):=row_cells (HR0.out w' hb) 1
  unfold Oper.wp
  simp[execOp,e1,c2,go_sem,Result.andThen]
  exact hK _ (factV_mk rfl rfl)
 case s7=>
  intro A w' K hb hfar hd hK
  have e1:A.tmps[48]?.getD undef=.pointer (some ⟨w.heap.size,1,none⟩):=hd 6 48 rfl (by kernel_rfl) _ rfl
  have c2:w'.cell? ⟨w.heap.size,1,none⟩=some (.slice (some ra) p.rules.length s1):=row_cells (HR0.out w' hb) 1
  unfold Oper.wp
  simp[execOp,e1,c2,go_sem,Result.andThen]
  exact hK _ (factV_mk rfl rfl)
 case s4=>
  intro A w' K hb hfar hd hK
  have e1:A.tmps[45]?.getD undef=.slice (some ra) p.rules.length s1:=hd 3 45 rfl (by kernel_rfl) _ rfl
  unfold Oper.wp
  simp[execOp,e1,go_sem,Result.andThen]
  exact hK _ (factV_mk rfl rfl)
 case s5=>
  intro A w' val K hb hfar hd hs _ hK
  have e1:A.tmps[46]?.getD undef=.int .i64 (p.rules.length:Int):=(hd 4 46 rfl (by kernel_rfl)).1 _ rfl
  refine wp_make_any w' _ _ 23 rfl w2.heap.size 47 i0 _ 4 Tryz.underlying23 hi hy0 hy1 .i64 .i64 p.rules.length rfl ((evG7 _ _).trans e1) mB (by unfold maxLen;omega) hb.size fun w4 hown hg=>?_
  exact hK _ _ (hb.grown hg (fun b h=>by cases h)) (factV_mk rfl trivial) (by show w4.ownsRow _ _ _ (updV val 5 _ 5) 0 [];rw[updV_same];exact hown) fun u hu=>hu.kept hg (fun b h=>by cases h)
 case s8=>
  intro A w' val K hb hfar hd hs _ hK
  have e0:=(hd 5 47 rfl (by kernel_rfl)).2
  have e1:A.tmps[49]?.getD undef=.slice (some ra) p.rules.length s1:=(hd 7 49 rfl (by kernel_rfl)).1 _ rfl
  have hs2:w'.ownsRow w2.heap.size 47 4 (val 5) 0 []:=hs
  refine wp_append_any w' _ _ 23 rfl w2.heap.size 47 i0 _ 4 72 Tryz.underlying23 hi hy0 hy1 hy2 rfl (by decide) (val 5) 0 [] ((evG7 _ _).trans e0) hs2 (.slice (some ra) p.rules.length s1) p.rules.length xs ((evG7 _ _).trans e1) (Spr.out w' _ _ _ HSp1.out hb) (by unfold maxLen;omega) (by omega) hb.size fun v' w4 hown hg hat=>?_
  rw[Nat.zero_add,List.nil_append] at hown
  exact hK _ _ (hb.grown hg (fun b h=>.inl (hs2.lt b h).1)) (factV_mk rfl trivial) (by show w4.ownsRow _ _ _ (updV val 8 _ 8) p.rules.length xs;rw[updV_same];exact hown) fun u hu=>hu.kept hg (own_rule hs2)
 case s9=>
  intro A w' val K hb hfar hd hs _ hK
  have e1:A.tmps[43]?.getD undef=.slice p1 p.decls.length q1:=(hd 1 43 rfl (by kernel_rfl)).1 _ rfl
  have e0:=(hd 8 50 rfl (by kernel_rfl)).2
  have hs2:w'.ownsRow w2.heap.size 47 4 (val 8) p.rules.length xs:=hs
  obtain⟨ob,kb,eb⟩:=own_shape hs2
  rw[eb] at e0
  unfold Oper.wp
  simp[execOp,e0,e1,go_sem,Result.andThen]
  exact hK _ _ hb (factV_mk rfl trivial) ⟨by rw[updV_other _ _ (by decide)];exact hs2,by rw[updV_same,updV_other _ _ (by decide),eb]⟩ fun u hu=>hu
 case s10=>
  intro A w' K hb hfar hd hK
  unfold Oper.wp
  simp[execOp,go_sem,Result.andThen]
  exact hK _ _ ((Below.refl _ _).alloc (Nat.le_refl _) _) (factV_mk rfl trivial) ⟨_,_,_,rfl,hb.size,World.alloc_heap_new w' _⟩
 case s11=>
  intro A w' val K hb hfar hd hs hal hK
  obtain⟨bq,x,y,hv,hN,hc⟩:=hal (by kernel_rfl)
  have e0:=(hd 10 8 rfl (by kernel_rfl)).2
  rw[hv] at e0
  have e1:=(hd 9 51 rfl (by kernel_rfl)).2
  obtain⟨hs2,hs3⟩:=hs
  obtain⟨ob,kb,eb⟩:=own_shape hs2
  rw[hs3,eb] at e1
  have c0:w'.cell? ⟨bq,0,none⟩=some x:=row_cells hc 0
  have c1:w'.cell? ⟨bq,1,none⟩=some y:=row_cells hc 1
  have f0:=row_frozen7 hc 0
  have f1:=row_frozen7 hc 1
  have hl:=heap_lt hc
  have hrow:=set_row (set_row hc 0 (.slice p1 p.decls.length q1)) 1 (.slice ob p.rules.length kb)
  have hne:(val 8).ownBlock≠some bq:=fun e=>by
   obtain⟨cur,hcu⟩:=own_rule hs2 bq e
   rw[hc] at hcu
   simp only[Option.some.injEq,Obj.cells.injEq] at hcu
   exact absurd hcu.2.1 (by decide)
  have hgr:=(setCell_grown7 w' bq 0 (.slice p1 p.decls.length q1))
  have hgr2:=setCell_grown7 (w'.setCell ⟨bq,0,none⟩ (.slice p1 p.decls.length q1)) bq 1 (.slice ob p.rules.length kb)
  unfold Oper.wp
  simp[execOp,e0,e1,c0,c1,f0,f1,hl,go_sem,Result.andThen]
  refine hK undef _ ((hb.grown hgr (fun b h=>by cases h;exact .inl hN)).grown hgr2 (fun b h=>by cases h;exact .inl hN)) (fun p hp=>by cases hp) ⟨?_,bq,by rw[updV_other _ _ (by decide)];exact hv,hN,?_⟩ fun u hu=>?_
  ·rw[updV_other _ _ (by decide)]
   exact own_blkz hs2 fun g _ _ e=>(Below.heap_setCell _ ⟨bq,1,none⟩ _ g (fun e2=>hne (by rw[e,e2]))).trans (Below.heap_setCell _ ⟨bq,0,none⟩ _ g (fun e2=>hne (by rw[e,e2])))
  ·rw[updV_other _ _ (by decide),eb]
   simpa using hrow
  ·obtain⟨b,x',y',h1,h2,h3⟩:=hu
   by_cases e:b=bq
   ·subst e
    exact⟨b,_,_,h1,h2,by simpa using hrow⟩
   ·exact⟨b,x',y',h1,h2,((Below.heap_setCell _ ⟨bq,1,none⟩ _ b e).trans (Below.heap_setCell _ ⟨bq,0,none⟩ _ b e)).trans h3⟩
 case fin=>
  intro val w4 hF hb hs hx
  clear hx
  obtain⟨hs1,bq,hv10,hN,hs2⟩:=hs
  have B4:Below w.heap.size w w4:=B2.out.trans (((Below.refl _ w2).drew.trans (KpF.below hb)).mono B2.out.size)
  have hR4:=(hb.block _ (heap_lt R2.out) (fun h=>h)).trans R2.out
  obtain⟨g,cap,eg⟩:∃ g cap,val 8=.slice (some ⟨g,0,none⟩) p.rules.length cap:=by
   rcases hs1.2 with ⟨_,h0⟩ | ⟨g,cap,cur,hv,_⟩
   ·omega
   ·exact⟨g,cap,hv⟩
  rw[eg] at hs1 hs2
  obtain⟨xm,hxm⟩:∃ x,p.rules[m]?=some x:=⟨_,List.getElem?_eq_getElem (by omega)⟩
  obtain⟨xn,hxn⟩:∃ x,p.rules[n]?=some x:=⟨_,List.getElem?_eq_getElem (by omega)⟩
  have elemAt:∀ (k:Nat) (x:Ru),p.rules[k]?=some x→∃ o0 k0 o1 k1,RuC w w.heap.size x (ruC7 x o0 k0 o1 k1)∧ra.block < w.heap.size∧CellsAt w ra (k * 4) (ruC7 x o0 k0 o1 k1):=by
   intro k x hx
   rcases HRs.out with ⟨h,h2⟩ | ⟨a,cap,h,_,_,h3,h4⟩
   ·cases h
   ·cases h
    obtain⟨cs,c1,c2,c3⟩:=h4 k x hx
    obtain⟨o0,k0,o1,k1,e,_⟩:=c2.look
    subst e
    exact⟨o0,k0,o1,k1,c2,h3 (by rintro h;rw[h] at hx;simp at hx),c3⟩
  obtain⟨mo0,mk0,mo1,mk1,lm2,lm3,lm4⟩:=elemAt m xm hxm
  obtain⟨no0,nk0,no1,nk1,ln2,ln3,ln4⟩:=elemAt n xn hxn
  obtain⟨CM,hCM⟩:∃ C,ruC7 xm mo0 mk0 mo1 mk1=C:=⟨_,rfl⟩
  obtain⟨CN,hCN⟩:∃ C,ruC7 xn no0 nk0 no1 nk1=C:=⟨_,rfl⟩
  have hm0:(0:Int)≤(m:Int):=by omega
  have hn0:(0:Int)≤(n:Int):=by omega
  have hm1:(m:Int) < (p.rules.length:Int):=by omega
  have hn1:(n:Int) < (p.rules.length:Int):=by omega
  have hgg:w2.heap.size≤g:=(own_at hs1).2.2.2
  have hqg:bq≠g:=fun e=>by
   obtain⟨cur,hcu⟩:=own_rule hs1 g rfl
   rw[← e,hs2] at hcu
   simp only[Option.some.injEq,Obj.cells.injEq] at hcu
   exact absurd hcu.2.1 (by decide)
  have hwg:w.heap.size < g:=by omega
  have HCk:Hid (∀ (kk:Nat) (C:List Value),CellsAt w ra (kk * 4) C→∀ W,Below w.heap.size w W→∀ w',Kp (fun b=>b=g) W.drew w'→CellsAt w' ra (kk * 4) C):=hid (fun kk C hC W hW w' hb' j c hj=>(World.cell?_of_block ((hb'.block _ (by show (ra.add (kk * 4+j)).block < W.heap.size;rw[addBlock];have:=hW.size;omega) (by show ¬ (ra.add (kk * 4+j)).block=g;rw[addBlock];omega)).trans (hW.block _ (by rw[addBlock];exact ln3)))).trans (hC j c hj))
  have HM4:=hid lm4
  have HN4:=hid ln4
  have HM2:=hid lm2
  have HN2:=hid ln2
  have Nq:=hid hs2
  have Nn:=hid hR4
  have Hown:=hid hs1
  have B4':=hid B4
  have Hxm:=hid hxm
  have Hxn:=hid hxn
  simp only[slotsMo,putsA,Nat.zero_add,Nat.reduceAdd,hv10]
  generalize val 0=v0
  generalize val 1=v1
  generalize val 2=v2
  generalize val 3=v3
  generalize val 4=v4
  generalize val 5=v5
  generalize val 6=v6
  generalize val 7=v7
  generalize val 8=v8
  generalize val 9=v9
  generalize val 11=v11
  clear val hF hb hs1 hs2 B4 hR4 hv10 eg elemAt lm2 lm4 ln2 ln4 lm3 ln3 hxm hxn hCM hCN CM CN
  go_simp
  go_wp2_with fail
  go_simp
  refine wp_region_any (by kernel_rfl) ?_
  (try (change wpAny _ _ _ _ _ _ _ (World.drew _)))
  refine wpAny_chain slotsM5 [9] _ _ (factsM5 w.heap.size bq (.slice (some ⟨g,0,none⟩) p.rules.length cap) (.slice (some ra) p.rules.length s1) m n (ra.add (n * 4)) ⟨g,m * 4,none⟩ (ruC7 xn no0 nk0 no1 nk1).toArray) (stateM5 w2.heap.size (.slice (some ⟨g,0,none⟩) p.rules.length cap) p.rules.length xs (putAt xs (m * 4) (ruC7 xn no0 nk0 no1 nk1))) (fun b=>b=g)
   (by kernel_rfl) (by kernel_rfl) (by kernel_rfl) (by kernel_rfl) (by kernel_rfl) (by decide) (by decide) ?indept Hown.out
   ⟨.p rfl ?t0,.p rfl ?t1,.p rfl ?t2,.p rfl ?t3,.p rfl ?t4,.p rfl ?t5,.p rfl ?t6,.p rfl ?t7,.p rfl ?t8,.c 0 rfl rfl ?t9,trivial⟩ ?fint
  case indept=>
   intro k val val' w' h hs
   match k,hs with
   | 0,hs=>exact hs
   | k+1,hs=>exact hs
  case t0=>
   intro A w' K hb hfar hd hK
   have e1:A.tmps[8]?.getD undef=.pointer (some ⟨bq,0,none⟩):=hfar 8 (by decide)
   unfold Oper.wp
   simp[execOp,e1,go_sem,Result.andThen]
   exact hK _ (factV_mk rfl rfl)
  case t1=>
   intro A w' K hb hfar hd hK
   have e1:A.tmps[52]?.getD undef=.pointer (some ⟨bq,1,none⟩):=hd 0 52 rfl (by kernel_rfl) _ rfl
   have c2:w'.cell? ⟨bq,1,none⟩=some (.slice (some ⟨g,0,none⟩) p.rules.length cap):=row_cells ((hb.block _ (heap_lt Nq.out) (by omega)).trans Nq.out) 1
   unfold Oper.wp
   simp[execOp,e1,c2,go_sem,Result.andThen]
   exact hK _ (factV_mk rfl rfl)
  case t2=>
   intro A w' K hb hfar hd hK
   have e1:A.tmps[1]?.getD undef=.int .i64 (m:Int):=hfar 1 (by decide)
   unfold Oper.wp
   simp[execOp,e1,go_sem,Result.andThen]
   exact hK _ (factV_mk rfl rfl)
  case t3=>
   intro A w' K hb hfar hd hK
   have e1:A.tmps[3]?.getD undef=.pointer (some ⟨w.heap.size,0,none⟩):=hfar 3 (by decide)
   unfold Oper.wp
   simp[execOp,e1,go_sem,Result.andThen]
   exact hK _ (factV_mk rfl rfl)
  case t4=>
   intro A w' K hb hfar hd hK
   have e1:A.tmps[55]?.getD undef=.pointer (some ⟨w.heap.size,1,none⟩):=hd 3 55 rfl (by kernel_rfl) _ rfl
   have c2:w'.cell? ⟨w.heap.size,1,none⟩=some (.slice (some ra) p.rules.length s1):=row_cells ((hb.block _ (heap_lt Nn.out) (by omega)).trans Nn.out) 1
   unfold Oper.wp
   simp[execOp,e1,c2,go_sem,Result.andThen]
   exact hK _ (factV_mk rfl rfl)
  case t5=>
   intro A w' K hb hfar hd hK
   have e1:A.tmps[2]?.getD undef=.int .i64 (n:Int):=hfar 2 (by decide)
   unfold Oper.wp
   simp[execOp,e1,go_sem,Result.andThen]
   exact hK _ (factV_mk rfl rfl)
  case t6=>
   intro A w' K hb hfar hd hK
   have e1:A.tmps[56]?.getD undef=.slice (some ra) p.rules.length s1:=hd 4 56 rfl (by kernel_rfl) _ rfl
   have e2:A.tmps[57]?.getD undef=.int .i64 (n:Int):=hd 5 57 rfl (by kernel_rfl) _ rfl
   unfold Oper.wp
   simp[execOp,e1,e2,hn0,hn1,go_sem,Result.andThen]
   exact hK _ (factV_mk rfl rfl)
  case t7=>
   intro A w' K hb hfar hd hK
   have e1:A.tmps[58]?.getD undef=.pointer (some (ra.add (n * 4))):=hd 6 58 rfl (by kernel_rfl) _ rfl
   have hcs:=HCk.out n _ HN4.out _ B4'.out w' hb
   unfold ruC7 at hcs
   obtain⟨c0,c1,c2,c3⟩:=hcs.four
   unfold Oper.wp
   simp[execOp,e1,c0,c1,c2,c3,go_sem,Result.andThen]
   exact hK _ (factV_mk rfl rfl)
  case t8=>
   intro A w' K hb hfar hd hK
   have e1:A.tmps[53]?.getD undef=.slice (some ⟨g,0,none⟩) p.rules.length cap:=hd 1 53 rfl (by kernel_rfl) _ rfl
   have e2:A.tmps[54]?.getD undef=.int .i64 (m:Int):=hd 2 54 rfl (by kernel_rfl) _ rfl
   unfold Oper.wp
   simp[execOp,e1,e2,hm0,hm1,go_sem,Result.andThen]
   exact hK _ (factV_mk rfl rfl)
  case t9=>
   intro A w' val K hb hfar hd hs hK
   have e1:A.tmps[60]?.getD undef=.pointer (some ⟨g,m * 4,none⟩):=(hd 8 60 rfl (by kernel_rfl)).1 _ rfl
   have e2:A.tmps[59]?.getD undef=.agg (ruC7 xn no0 nk0 no1 nk1).toArray:=(hd 7 59 rfl (by kernel_rfl)).1 _ rfl
   have hs:w'.ownsRow w2.heap.size 47 4 (.slice (some ⟨g,0,none⟩) p.rules.length cap) p.rules.length xs:=hs
   have hc0:∀ t,t < 4→∃ u,w'.cell? ⟨g,m * 4+t,none⟩=some u:=fun t ht=>⟨_,(own_at hs).1 (m * 4+t) _ (List.getElem?_eq_getElem (by have:=hs.1;omega))⟩
   obtain⟨u0,k0⟩:=hc0 0 (by omega)
   obtain⟨u1,k1⟩:=hc0 1 (by omega)
   obtain⟨u2,k2⟩:=hc0 2 (by omega)
   obtain⟨u3,k3⟩:=hc0 3 (by omega)
   have f0:=(own_at hs).2.1 (m * 4)
   have f1:=(own_at hs).2.1 (m * 4+1)
   have f2:=(own_at hs).2.1 (m * 4+2)
   have f3:=(own_at hs).2.1 (m * 4+3)
   rw[Nat.add_zero] at k0
   have hgl:=(own_at hs).2.2.1
   unfold ruC7 at e2
   unfold Oper.wp
   simp[execOp,e1,e2,k0,f0,k1,f1,k2,f2,k3,f3,hgl,go_sem,Result.andThen]
   have hput:=own_put hs (k:=m * 4) (news:=(ruC7 xn no0 nk0 no1 nk1)) (by rw[hs.1];show _ * 4+4≤_ * 4;omega)
   have hgr:=(setC_grown (b:=g) ((ruC7 xn no0 nk0 no1 nk1)) (m * 4) w').1
   unfold ruC7 at hput hgr
   simp only[setC,Nat.add_assoc,Nat.reduceAdd] at hput hgr
   exact hK undef _ (hb.grown hgr (fun b h=>by cases h;exact .inr rfl)) (fun p hp=>by cases hp) hput
  case fint=>
   intro val2 w5 hF hb hs
   have hs':w5.ownsRow w2.heap.size 47 4 (.slice (some ⟨g,0,none⟩) p.rules.length cap) p.rules.length (putAt xs (m * 4) (ruC7 xn no0 nk0 no1 nk1)):=hs
   have Nq5:=hid ((hb.block _ (heap_lt Nq.out) (by omega)).trans Nq.out)
   have Nn5:=hid ((hb.block _ (heap_lt Nn.out) (by omega)).trans Nn.out)
   have B5:=hid (B4'.out.trans (⟨hb.os,hb.tape,hb.output,hb.size,fun i hi=>hb.block i (Nat.lt_of_lt_of_le hi B4'.out.size) (by omega)⟩:Below w.heap.size w4 w5))
   have Hown5:=hid hs'
   simp only[slotsM5,putsA,Nat.zero_add,Nat.reduceAdd]
   generalize val2 0=y0
   generalize val2 1=y1
   generalize val2 2=y2
   generalize val2 3=y3
   generalize val2 4=y4
   generalize val2 5=y5
   generalize val2 6=y6
   generalize val2 7=y7
   generalize val2 8=y8
   try generalize val2 9=y9
   clear val2 hF hb hs hs' Hown Nq Nn
   go_simp
   go_wp2_with fail
   go_simp
   refine wp_region_any (by kernel_rfl) ?_
   (try (change wpAny _ _ _ _ _ _ _ (World.drew _)))
   refine wpAny_chain slotsM6 [9] _ _ (factsM5 w.heap.size bq (.slice (some ⟨g,0,none⟩) p.rules.length cap) (.slice (some ra) p.rules.length s1) n m (ra.add (m * 4)) ⟨g,n * 4,none⟩ (ruC7 xm mo0 mk0 mo1 mk1).toArray) (stateM5 w2.heap.size (.slice (some ⟨g,0,none⟩) p.rules.length cap) p.rules.length (putAt xs (m * 4) (ruC7 xn no0 nk0 no1 nk1)) (putAt (putAt xs (m * 4) (ruC7 xn no0 nk0 no1 nk1)) (n * 4) (ruC7 xm mo0 mk0 mo1 mk1))) (fun b=>b=g)
    (by kernel_rfl) (by kernel_rfl) (by kernel_rfl) (by kernel_rfl) (by kernel_rfl) (by decide) (by decide) ?indepy Hown5.out
    ⟨.p rfl ?y0,.p rfl ?y1,.p rfl ?y2,.p rfl ?y3,.p rfl ?y4,.p rfl ?y5,.p rfl ?y6,.p rfl ?y7,.p rfl ?y8,.c 0 rfl rfl ?y9,trivial⟩ ?finy
   case indepy=>
    intro k val val' w' h hs
    match k,hs with
    | 0,hs=>exact hs
    | k+1,hs=>exact hs
   case y0=>
    intro A w' K hb hfar hd hK
    have e1:A.tmps[8]?.getD undef=.pointer (some ⟨bq,0,none⟩):=hfar 8 (by decide)
    unfold Oper.wp
    simp[execOp,e1,go_sem,Result.andThen]
    exact hK _ (factV_mk rfl rfl)
   case y1=>
    intro A w' K hb hfar hd hK
    have e1:A.tmps[61]?.getD undef=.pointer (some ⟨bq,1,none⟩):=hd 0 61 rfl (by kernel_rfl) _ rfl
    have c2:w'.cell? ⟨bq,1,none⟩=some (.slice (some ⟨g,0,none⟩) p.rules.length cap):=row_cells ((hb.block _ (heap_lt Nq5.out) (by omega)).trans Nq5.out) 1
    unfold Oper.wp
    simp[execOp,e1,c2,go_sem,Result.andThen]
    exact hK _ (factV_mk rfl rfl)
   case y2=>
    intro A w' K hb hfar hd hK
    have e1:A.tmps[2]?.getD undef=.int .i64 (n:Int):=hfar 2 (by decide)
    unfold Oper.wp
    simp[execOp,e1,go_sem,Result.andThen]
    exact hK _ (factV_mk rfl rfl)
   case y3=>
    intro A w' K hb hfar hd hK
    have e1:A.tmps[3]?.getD undef=.pointer (some ⟨w.heap.size,0,none⟩):=hfar 3 (by decide)
    unfold Oper.wp
    simp[execOp,e1,go_sem,Result.andThen]
    exact hK _ (factV_mk rfl rfl)
   case y4=>
    intro A w' K hb hfar hd hK
    have e1:A.tmps[64]?.getD undef=.pointer (some ⟨w.heap.size,1,none⟩):=hd 3 64 rfl (by kernel_rfl) _ rfl
    have c2:w'.cell? ⟨w.heap.size,1,none⟩=some (.slice (some ra) p.rules.length s1):=row_cells ((hb.block _ (heap_lt Nn5.out) (by omega)).trans Nn5.out) 1
    unfold Oper.wp
    simp[execOp,e1,c2,go_sem,Result.andThen]
    exact hK _ (factV_mk rfl rfl)
   case y5=>
    intro A w' K hb hfar hd hK
    have e1:A.tmps[1]?.getD undef=.int .i64 (m:Int):=hfar 1 (by decide)
    unfold Oper.wp
    simp[execOp,e1,go_sem,Result.andThen]
    exact hK _ (factV_mk rfl rfl)
   case y6=>
    intro A w' K hb hfar hd hK
    have e1:A.tmps[65]?.getD undef=.slice (some ra) p.rules.length s1:=hd 4 65 rfl (by kernel_rfl) _ rfl
    have e2:A.tmps[66]?.getD undef=.int .i64 (m:Int):=hd 5 66 rfl (by kernel_rfl) _ rfl
    unfold Oper.wp
    simp[execOp,e1,e2,hm0,hm1,go_sem,Result.andThen]
    exact hK _ (factV_mk rfl rfl)
   case y7=>
    intro A w' K hb hfar hd hK
    have e1:A.tmps[67]?.getD undef=.pointer (some (ra.add (m * 4))):=hd 6 67 rfl (by kernel_rfl) _ rfl
    have hcs:=HCk.out m _ HM4.out _ B5.out w' hb
    unfold ruC7 at hcs
    obtain⟨c0,c1,c2,c3⟩:=hcs.four
    unfold Oper.wp
    simp[execOp,e1,c0,c1,c2,c3,go_sem,Result.andThen]
    exact hK _ (factV_mk rfl rfl)
   case y8=>
    intro A w' K hb hfar hd hK
    have e1:A.tmps[62]?.getD undef=.slice (some ⟨g,0,none⟩) p.rules.length cap:=hd 1 62 rfl (by kernel_rfl) _ rfl
    have e2:A.tmps[63]?.getD undef=.int .i64 (n:Int):=hd 2 63 rfl (by kernel_rfl) _ rfl
    unfold Oper.wp
    simp[execOp,e1,e2,hn0,hn1,go_sem,Result.andThen]
    exact hK _ (factV_mk rfl rfl)
   case y9=>
    intro A w' val K hb hfar hd hs hK
    have e1:A.tmps[69]?.getD undef=.pointer (some ⟨g,n * 4,none⟩):=(hd 8 69 rfl (by kernel_rfl)).1 _ rfl
    have e2:A.tmps[68]?.getD undef=.agg (ruC7 xm mo0 mk0 mo1 mk1).toArray:=(hd 7 68 rfl (by kernel_rfl)).1 _ rfl
    have hs:w'.ownsRow w2.heap.size 47 4 (.slice (some ⟨g,0,none⟩) p.rules.length cap) p.rules.length (putAt xs (m * 4) (ruC7 xn no0 nk0 no1 nk1)):=hs
    have hc0:∀ t,t < 4→∃ u,w'.cell? ⟨g,n * 4+t,none⟩=some u:=fun t ht=>⟨_,(own_at hs).1 (n * 4+t) _ (List.getElem?_eq_getElem (by have:=hs.1;omega))⟩
    obtain⟨u0,k0⟩:=hc0 0 (by omega)
    obtain⟨u1,k1⟩:=hc0 1 (by omega)
    obtain⟨u2,k2⟩:=hc0 2 (by omega)
    obtain⟨u3,k3⟩:=hc0 3 (by omega)
    have f0:=(own_at hs).2.1 (n * 4)
    have f1:=(own_at hs).2.1 (n * 4+1)
    have f2:=(own_at hs).2.1 (n * 4+2)
    have f3:=(own_at hs).2.1 (n * 4+3)
    rw[Nat.add_zero] at k0
    have hgl:=(own_at hs).2.2.1
    unfold ruC7 at e2
    unfold Oper.wp
    simp[execOp,e1,e2,k0,f0,k1,f1,k2,f2,k3,f3,hgl,go_sem,Result.andThen]
    have hput:=own_put hs (k:=n * 4) (news:=(ruC7 xm mo0 mk0 mo1 mk1)) (by rw[hs.1];show _ * 4+4≤_ * 4;omega)
    have hgr:=(setC_grown (b:=g) ((ruC7 xm mo0 mk0 mo1 mk1)) (n * 4) w').1
    unfold ruC7 at hput hgr
    simp only[setC,Nat.add_assoc,Nat.reduceAdd] at hput hgr
    exact hK undef _ (hb.grown hgr (fun b h=>by cases h;exact .inr rfl)) (fun p hp=>by cases hp) hput
   case finy=>
    intro val3 w6 hF hb hs
    have hs':w6.ownsRow w2.heap.size 47 4 (.slice (some ⟨g,0,none⟩) p.rules.length cap) p.rules.length (putAt (putAt xs (m * 4) (ruC7 xn no0 nk0 no1 nk1)) (n * 4) (ruC7 xm mo0 mk0 mo1 mk1)):=hs
    have rq:=(hb.block _ (heap_lt Nq5.out) (by omega)).trans Nq5.out
    have rn:=(hb.block _ (heap_lt Nn5.out) (by omega)).trans Nn5.out
    have B6:Below w.heap.size w w6:=B5.out.trans (⟨hb.os,hb.tape,hb.output,hb.size,fun i hi=>hb.block i (Nat.lt_of_lt_of_le hi B5.out.size) (by omega)⟩:Below w.heap.size w5 w6)
    obtain⟨l,hl⟩:∃ l,(p.rules.set m xn).set n xm=l:=⟨_,rfl⟩
    have hll:l.length=p.rules.length:=by rw[← hl,List.length_set,List.length_set]
    have hlm:∀ r,r ∈ l ↔ r ∈ p.rules:=fun r=>by rw[← hl];exact swap_mem Hxm.out Hxn.out r
    have HLs:Laid 4 (RuC w6 w6.heap.size) l (putAt (putAt xs (m * 4) (ruC7 xn no0 nk0 no1 nk1)) (n * 4) (ruC7 xm mo0 mk0 mo1 mk1)):=by
     rw[← hl]
     exact ((HLd.out.set (by omega) rfl HN2.out).set (by rw[List.length_set];omega) rfl HM2.out).mono fun x cs h=>(h.below B6).more B6.size
    have HSl:SlOf w6 w6.heap.size 4 (RuC w6 w6.heap.size) l (.slice (some ⟨g,0,none⟩) p.rules.length cap):=sl_own0 (by rw[hll];exact hs') HLs
    have HPq:PgC w6 w6.heap.size ⟨p.decls,l⟩ [.slice p1 p.decls.length q1,.slice (some ⟨g,0,none⟩) p.rules.length cap]:=⟨_,_,rfl,SlOf.decl HDs.out B6 B6.size,HSl⟩
    have HPqh:=hid HPq
    have HLl:=hid hll
    have HLm:=hid hlm
    have HG1:=hid (HG.out p.rules _ (Nat.le_refl _) (fun _ h=>h) w6 B6 ((HP.out.below B6).more B6.size))
    have HG2:=hid (fun (W:World) (hb:Below w6.heap.size w6 W)=>HG.out l _ (Nat.le_of_eq HLl.out) (fun r hr=>(HLm.out r).1 hr) W (B6.trans (hb.mono B6.size)) ((HPqh.out.below hb).more hb.size))
    have HLq:=hid (lil_some HSm.out (l:=l) (Nat.le_of_eq hll) (fun r hr=>(hlm r).1 hr))
    have B6h:=hid B6
    have Rq:=hid rq
    have Rn:=hid rn
    have c0:w6.cell? ⟨w.heap.size,0,none⟩=some (.slice p1 p.decls.length q1):=row_cells rn 0
    have c1:w6.cell? ⟨w.heap.size,1,none⟩=some (.slice (some ra) p.rules.length s1):=row_cells rn 1
    have z6:w.heap.size < w6.heap.size:=heap_lt rn
    simp only[slotsM6,putsA,Nat.zero_add,Nat.reduceAdd]
    generalize val3 0=qq0
    generalize val3 1=qq1
    generalize val3 2=qq2
    generalize val3 3=qq3
    generalize val3 4=qq4
    generalize val3 5=qq5
    generalize val3 6=qq6
    generalize val3 7=qq7
    generalize val3 8=qq8
    try generalize val3 9=qq9
    clear val3 hF hb hs hs' HLs Hown5 Nq5 Nn5 HSl HPq hl hll hlm rq rn B6
    go_simp
    go_wp2_with fail
    refine HG1.out.mono ?_
    intro e7 w7 hR
    obtain⟨hA,b7⟩:=gsR_one HL.out.n hR
    obtain⟨hGA,hsl⟩:=hA
    rename_i ln1 k1 L1 gv1
    have B7:=hid (B6h.out.trans (b7.mono B6h.out.size))
    have hq7:=(b7.block _ (heap_lt Rq.out)).trans Rq.out
    have d0:w7.cell? ⟨bq,0,none⟩=some (.slice p1 p.decls.length q1):=row_cells hq7 0
    have d1:w7.cell? ⟨bq,1,none⟩=some (.slice (some ⟨g,0,none⟩) p.rules.length cap):=row_cells hq7 1
    have zq:bq < w7.heap.size:=heap_lt hq7
    have HGA:=hid hGA
    have HS1:=hid hsl
    have HG7:=hid (HG2.out w7 b7)
    obtain⟨og,cg,rfl,_⟩:=SlOf.uni hsl
    clear hR hGA hsl b7 hq7 c0 c1 z6
    go_wp2_with fail
    refine HG7.out.mono ?_
    intro e8 w8 hR
    obtain⟨hA,b8⟩:=gsR_one HLq.out.n hR
    obtain⟨hGA2,hsl2⟩:=hA
    rename_i ln2 k2 L2 gv2
    obtain⟨hkk,hLL⟩:=gra_moves (p:=p) HLl.out HLm.out HGA.out hGA2
    subst hLL
    have B8:=hid (B7.out.trans (b8.mono B7.out.size))
    have h8:=SlOf.ints HS1.out b8
    have hl8:(L1.map nI).length≤1000:=by rw[List.length_map];exact gra_len HL.out.n HGA.out
    have HSm8:=hid (same7_c (L1.map nI) (L1.map nI) _ _ w8 h8 hsl2 hl8)
    obtain⟨og2,cg2,rfl,_⟩:=SlOf.uni hsl2
    simp only[List.length_map] at HSm8
    clear hR hGA2 hsl2 b8 d0 d1 zq h8 hl8
    by_cases hk1:k1=0
    ·have hk2:=hkk.1 hk1
     subst hk1
     subst hk2
     clear hkk
     go_wp2_with fail
     refine HSm8.out.mono ?_
     rintro e9 w9 ⟨rfl,b9⟩
     have B9:=hid (B8.out.trans (b9.mono B8.out.size))
     simp only[decide_true]
     clear b9
     go_wp2
     go_ret
     exact⟨rfl,B9.out⟩
    ·have hk2:¬ k2=0:=fun h=>hk1 (hkk.2 h)
     have f1:(k1 == 0)=false:=by simpa using hk1
     have f2:(k2 == 0)=false:=by simpa using hk2
     clear hkk
     go_wp2_with fail
     refine HSm8.out.mono ?_
     rintro e9 w9 ⟨rfl,b9⟩
     have B9:=hid (B8.out.trans (b9.mono B8.out.size))
     simp only[decide_true]
     clear b9
     go_wp2
     go_ret
     exact⟨rfl,B9.out⟩
end Go.Proofs.YtakpgcmfjlbcgaaGreatDoor
