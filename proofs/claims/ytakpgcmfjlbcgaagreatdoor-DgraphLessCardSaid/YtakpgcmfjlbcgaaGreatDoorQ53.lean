/- Gl@2, Gls@2 -/
import Derived.Test.YtakpgcmfjlbcgaaGreatDoorQ52
set_option linter.unusedSimpArgs false
set_option linter.unusedVariables false
namespace Go.Proofs.YtakpgcmfjlbcgaaGreatDoor
open Lib(hid)
theorem gra_empty {p:Pg} {L:List (List Nat)} {ln:Int} (h:GrA (ChA p) p L ln 0):p.decls.length=0 ↔ L.length=0:=by
 obtain⟨_,_,g⟩:=gra_ok h
 obtain⟨_,h2,h3⟩:=grpR_flat edgesG_lt g (Whole.nil _ _)
 constructor
 ·intro hn
  cases L with
  | nil=>rfl
  | cons a L=>
   obtain⟨_,hne⟩:=h3 a (List.mem_cons_self ..)
   obtain⟨x,hx⟩:=List.exists_mem_of_ne_nil a hne
   have:=(h2 x).1 (by simp[hx])
   omega
 ·intro hn
  have:L=[]:=List.eq_nil_of_length_eq_zero hn
  subst this
  refine Nat.eq_zero_of_not_pos fun hp=>?_
  have:=(h2 0).2 hp
  simp at this
open Go.RowKit
def slotsLs:List (Option Tmp):=[some 35,some 36,some 37,some 38,some 39,some 40,some 41,some 42,some 43,some 44,some 45,some 46,some 47,some 48,some 49,some 50,some 51,some 52,some 9,none]
def factsLs (b:Nat) (D V U1 U2:Value) (n m:Nat):List (Value→Prop):=
 [fun x=>x=.pointer (some ⟨b,0,none⟩),fun x=>x=D,fun x=>x=.pointer (some ⟨b,1,none⟩),fun x=>x=V,fun x=>x=.int .i64 (n:Int),fun _=>True,fun x=>x=.pointer (some ⟨b,1,none⟩),fun x=>x=V,fun x=>x=.int .i64 (m:Int),fun x=>x=U1,fun _=>True,
  fun x=>x=.pointer (some ⟨b,1,none⟩),fun x=>x=V,fun x=>x=.int .i64 (m:Int),fun x=>x=.int .i64 ((m:Int)+1),fun x=>x=U2,fun _=>True,fun _=>True,fun _=>True]
def stateLs (N n1 n2:Nat) (D:Value) (xs ys:List Value):Nat→(Nat→Value)→World→Prop
 | 0,_,_=>True
 | 1,val,w=>w.ownsRow N 47 4 (val 5) 0 []
 | 2,val,w=>w.ownsRow N 47 4 (val 10) n1 xs
 | 3,val,w=>w.ownsRow N 47 4 (val 16) (n1+n2) (xs++ys)
 | 4,val,w=>w.ownsRow N 47 4 (val 16) (n1+n2) (xs++ys)∧val 17=.agg #[D,val 16]
 | 5,val,w=>w.ownsRow N 47 4 (val 16) (n1+n2) (xs++ys)∧∃ b,val 18=.pointer (some ⟨b,0,none⟩)∧N≤b∧w.heap[b]?=some (.cells #[D,val 16] 25 (0,0))
 | _,_,_=>False
set_option maxRecDepth 100000 in
set_option maxHeartbeats 32000000 in
theorem dgraphLess_c (p:Pg) (i:Int) (e1' e2' e3' e4' e5' x' y':Addr) (w:World) (cs:List Value) (hp:PgC w w.heap.size p cs) (_:-9223372036854775808≤i) (_:i≤9223372036854775807) (E:EnvC e1' e2' e3' e4' e5' x' y' w) :
  Calls Tryz.prog 8 #[.agg cs.toArray,.int .i64 i] w fun e w'=>e=.returned (.bool true)∧Below w.heap.size w w':=by
 have HP:=hid hp
 have HE:=hid E
 have hb0:∀ C:Obj,Below w.heap.size w (w.alloc C):=fun C=>(Below.refl _ _).alloc (Nat.le_refl _) _
 have HB0:=hid hb0
 have HH:=hid (fun (W:World) (hb:Below w.heap.size w W)=>shown7_c e1' e2' e3' e4' e5' x' y' W (E.below hb))
 have HS:=hid (fun (W:World) (hb:Below w.heap.size w W)=>small_c p W cs ((hp.below hb).more hb.size))
 obtain⟨p1,q1,r1,s1,rfl,hds,hrs⟩:=hp.look
 have HDs:=hid hds
 have HRs:=hid hrs
 clear hp E hb0 hds hrs
 go_enter Tryz.func8,Tryz.ntmps8
 go_wp2_with fail
 refine (HH.out _ (HB0.out _)).mono ?_
 rintro e1 w1 ⟨rfl,b1⟩
 have R1:=hid ((b1.block w.heap.size (by simp)).trans (World.alloc_heap_new w _))
 have B1:=hid ((HB0.out _).trans (b1.mono (by simp)))
 have x0:=row_cells R1.out 0
 have x1:=row_cells R1.out 1
 simp at x0 x1
 have hz1:w.heap.size < w1.heap.size:=heap_lt R1.out
 clear b1
 go_wp2_with fail
 refine (HS.out _ B1.out).mono ?_
 rintro e2 w2 ⟨rfl,b2⟩
 have R2:=hid ((b2.block w.heap.size hz1).trans R1.out)
 have B2:=hid (B1.out.trans (b2.mono B1.out.size))
 have z0:=row_cells R2.out 0
 have z1:=row_cells R2.out 1
 simp at z0 z1
 have hz2:w.heap.size < w2.heap.size:=heap_lt R2.out
 clear b2 x0 x1
 unfold smallI
 cases hs:smallP p with
 | false=>
  clear hs
  go_wp2
  go_ret
  exact⟨rfl,B2.out⟩
 | true=>
 have HSm:=hid hs
 have HL:=hid (lil_small hs)
 have hlr:=(small_lens hs).2
 have HG:=hid (fun (l:List Ru) (cs:List Value) (hl:l.length≤p.rules.length) (hm:∀ r ∈ l,r ∈ p.rules) (W:World) (hb:Below w.heap.size w W) (hc:PgC W W.heap.size ⟨p.decls,l⟩ cs)=>groups7_c ⟨p.decls,l⟩ cs e1' e2' e3' e4' e5' x' y' W hc (lil_some HSm.out hl hm).few (lil_some HSm.out hl hm).rule (HE.out.below hb) (lil_some HSm.out hl hm).n (lil_some HSm.out hl hm).e)
 clear hs
 by_cases hi0:i < 0
 ·go_wp2
  go_ret
  exact⟨rfl,B2.out⟩
 obtain⟨m,rfl⟩:=Int.eq_ofNat_of_zero_le (show 0≤i by omega)
 by_cases hi1:p.rules.length≤m
 ·have hi1':(p.rules.length:Int)≤(m:Int):=by omega
  go_wp2
  go_ret
  exact⟨rfl,B2.out⟩
 have hi1':¬ (p.rules.length:Int)≤(m:Int):=by omega
 go_wp2_with fail
 refine (HG.out p.rules _ (Nat.le_refl _) (fun _ h=>h) _ B2.out ((HP.out.below B2.out).more B2.out.size)).mono ?_
 intro e3 w3 hR
 obtain⟨hA,b3⟩:=gsR_one HL.out.n hR
 obtain⟨hGA,hsl⟩:=hA
 rename_i ln k L gv
 have R3:=hid ((b3.block w.heap.size hz2).trans R2.out)
 have B3:=hid (B2.out.trans (b3.mono B2.out.size))
 have HGA:=hid hGA
 obtain⟨og,cg,rfl,_⟩:=SlOf.uni hsl
 clear hR hGA hsl b3 z0 z1
 obtain⟨i0,hi,hy0,hy1,hy2⟩:=info_parts infoRu7
 have mB:i0.bytes * p.rules.length≤281474976710656:=by rw[hy2];omega
 obtain⟨ra,rfl⟩:∃ ra,r1=some ra:=by
  rcases HRs.out with ⟨_,h2⟩ | ⟨a,cap,h,_⟩
  ·rw[h2] at hi1;simp at hi1
  ·cases h;exact⟨a,rfl⟩
 obtain⟨o2',cap2',e2',hc2',hm2',_⟩:=SlOf.open HRs.out
 cases e2'
 have hcap:p.rules.length≤s1:=hc2'
 have hcapm:s1≤9223372036854775807:=hm2'
 obtain⟨P13,hP13⟩:∃ P,(if s1=m+1 then some ra else some (ra.add ((m+1) * 4)))=P:=⟨_,rfl⟩
 obtain⟨xs,hl1,hsp1⟩:=sl_laid (SlOf.take HRs.out (i:=m) (by omega)) ru_one
 have hdrop:=SlOf.drop HRs.out (i:=m+1) (by omega)
 rw[hP13] at hdrop
 obtain⟨ys,hl2,hsp2⟩:=sl_laid hdrop ru_one
 rw[List.length_take,Nat.min_eq_left (by omega)] at hsp1
 rw[List.length_drop] at hsp2
 have HLd:=hid (hl1.app hl2)
 have HSp1:=hid hsp1
 have HSp2:=hid hsp2
 have HPd:=hid hP13
 have hm1:(m:Int)+1≤(p.rules.length:Int):=by omega
 have Spr:=hid (fun (w':World) (u:Value) (n:Nat) (zs:List Value) (hs:Spread w 4 u n zs) (hb:Kp (fun _=>False) w3.drew w')=>(by
  rcases hs with h | ⟨ad,c,h1,h2,h3,h4⟩
  ·exact .inl h
  ·refine .inr ⟨ad,c,h1,h2,fun j u hu=>?_,h4⟩
   have hc:=h3 j u hu
   have hlt:=World.block_lt_of_cell? _ _ hc
   have hb4:=B3.out.block (ad.add j).block (by rw[addBlock];rw[addBlock] at hlt;exact hlt)
   exact (World.cell?_of_block ((hb.block _ (by show (ad.add j).block < w3.heap.size;have:=B3.out.size;omega) (fun h=>h)).trans hb4)).trans hc:Spread w' 4 u n zs))
 have HR0:=hid (fun (w':World) (hb:Kp (fun _=>False) w3.drew w')=>(hb.block w.heap.size (heap_lt R3.out) (fun h=>h)).trans R3.out)
 clear hl1 hl2 hsp1 hsp2 hdrop hP13
 have z0:=row_cells R3.out 0
 have z1:=row_cells R3.out 1
 simp at z0 z1
 have hz3:w.heap.size < w3.heap.size:=heap_lt R3.out
 go_wp2_with fail
 clear z0 z1
 refine wp_region_any (by kernel_rfl) ?_
 (try (change wpAny _ _ _ _ _ _ _ (World.drew _)))
 refine wpAny_chainA slotsLs [5,10,16,17,19] _ _ (factsLs w.heap.size (.slice p1 p.decls.length q1) (.slice (some ra) p.rules.length s1) (.slice (some ra) m s1) (.slice P13 (p.rules.length - (m+1)) (s1 - (m+1))) p.rules.length m) (stateLs w3.heap.size m (p.rules.length - (m+1)) (.slice p1 p.decls.length q1) xs ys) (fun _=>False) 18 (PgB w3.heap.size) (by decide) ?grow
  (by kernel_rfl) (by kernel_rfl) (by kernel_rfl) (by kernel_rfl) (by kernel_rfl) (by decide) (by decide) ?indep (fun c o hc ho=>by cases hc;cases ho;kernel_rfl) (by decide) trivial
  ⟨.p (by decide) rfl ?s0,.p (by decide) rfl ?s1,.p (by decide) rfl ?s2,.p (by decide) rfl ?s3,.p (by decide) rfl ?s4,.c 0 rfl (by kernel_rfl) (by decide) ?s5,.p (by decide) rfl ?s6,.p (by decide) rfl ?s7,.p (by decide) rfl ?s8,.p (by decide) rfl ?s9,.c 1 rfl (by kernel_rfl) (by decide) ?s10,.p (by decide) rfl ?s11,.p (by decide) rfl ?s12,.p (by decide) rfl ?s13,.p (by decide) rfl ?s14,.p (by decide) rfl ?s15,.c 2 rfl (by kernel_rfl) (by decide) ?s16,.c 3 rfl (by kernel_rfl) (by decide) ?s17,.a rfl rfl ?s18,.c 4 rfl (by kernel_rfl) (by decide) ?s19,trivial⟩ ?fin
 case grow=>
  intro k val u v h hb
  have ob:∀ {b n:Nat} {x:Value} {l:List Value},u.ownsRow b 47 4 x n l→v.ownsRow b 47 4 x n l:=fun h=>own_below h hb
  match k,h with
  | 0,h=>exact trivial
  | 1,h=>exact ob h
  | 2,h=>exact ob h
  | 3,h=>exact ob h
  | 4,h=>exact⟨ob h.1,h.2⟩
  | 5,h=>
   obtain⟨h1,b,h2,h3,h4⟩:=h
   exact⟨ob h1,b,h2,h3,(hb.block b (heap_lt h4)).trans h4⟩
  | k+6,h=>exact False.elim h
 case indep=>
  intro k val val' w' h he hs
  match k,hs,he with
  | 0,hs,_=>exact trivial
  | 1,hs,_=>exact (by show w'.ownsRow _ _ _ (val' 5) 0 [];rw[← h 5 (by decide)];exact hs)
  | 2,hs,_=>exact (by show w'.ownsRow _ _ _ (val' 10) m xs;rw[← h 10 (by decide)];exact hs)
  | 3,hs,_=>exact (by show w'.ownsRow _ _ _ (val' 16) (m+(p.rules.length - (m+1))) (xs++ys);rw[← h 16 (by decide)];exact hs)
  | 4,hs,_=>exact⟨by rw[← h 16 (by decide)];exact hs.1,by rw[← h 16 (by decide),← h 17 (by decide)];exact hs.2⟩
  | 5,hs,he=>
   obtain⟨h1,b,h2,h3,h4⟩:=hs
   exact⟨by rw[← h 16 (by decide)];exact h1,b,by rw[← he rfl];exact h2,h3,by rw[← h 16 (by decide)];exact h4⟩
  | k+6,hs,he=>
   exact False.elim hs
 case s0=>
  intro A w' K hb hfar hd hK
  have e1:A.tmps[2]?.getD undef=.pointer (some ⟨w.heap.size,0,none⟩):=hfar 2 (by decide)
  unfold Oper.wp
  simp[execOp,e1,go_sem,Result.andThen]
  exact hK _ (factV_mk rfl rfl)
 case s2=>
  intro A w' K hb hfar hd hK
  have e1:A.tmps[2]?.getD undef=.pointer (some ⟨w.heap.size,0,none⟩):=hfar 2 (by decide)
  unfold Oper.wp
  simp[execOp,e1,go_sem,Result.andThen]
  exact hK _ (factV_mk rfl rfl)
 case s6=>
  intro A w' K hb hfar hd hK
  have e1:A.tmps[2]?.getD undef=.pointer (some ⟨w.heap.size,0,none⟩):=hfar 2 (by decide)
  unfold Oper.wp
  simp[execOp,e1,go_sem,Result.andThen]
  exact hK _ (factV_mk rfl rfl)
 case s11=>
  intro A w' K hb hfar hd hK
  have e1:A.tmps[2]?.getD undef=.pointer (some ⟨w.heap.size,0,none⟩):=hfar 2 (by decide)
  unfold Oper.wp
  simp[execOp,e1,go_sem,Result.andThen]
  exact hK _ (factV_mk rfl rfl)
 case s1=>
  intro A w' K hb hfar hd hK
  have e1:A.tmps[35]?.getD undef=.pointer (some ⟨w.heap.size,0,none⟩):=hd 0 35 rfl (by kernel_rfl) _ rfl
  have c2:w'.cell? ⟨w.heap.size,0,none⟩=some (.slice p1 p.decls.length q1):=row_cells (HR0.out w' hb) 0
  unfold Oper.wp
  simp[execOp,e1,c2,go_sem,Result.andThen]
  exact hK _ (factV_mk rfl rfl)
 case s3=>
  intro A w' K hb hfar hd hK
  have e1:A.tmps[37]?.getD undef=.pointer (some ⟨w.heap.size,1,none⟩):=hd 2 37 rfl (by kernel_rfl) _ rfl
  have c2:w'.cell? ⟨w.heap.size,1,none⟩=some (.slice (some ra) p.rules.length s1):=row_cells (HR0.out w' hb) 1
  unfold Oper.wp
  simp[execOp,e1,c2,go_sem,Result.andThen]
  exact hK _ (factV_mk rfl rfl)
 case s7=>
  intro A w' K hb hfar hd hK
  have e1:A.tmps[41]?.getD undef=.pointer (some ⟨w.heap.size,1,none⟩):=hd 6 41 rfl (by kernel_rfl) _ rfl
  have c2:w'.cell? ⟨w.heap.size,1,none⟩=some (.slice (some ra) p.rules.length s1):=row_cells (HR0.out w' hb) 1
  unfold Oper.wp
  simp[execOp,e1,c2,go_sem,Result.andThen]
  exact hK _ (factV_mk rfl rfl)
 case s12=>
  intro A w' K hb hfar hd hK
  have e1:A.tmps[46]?.getD undef=.pointer (some ⟨w.heap.size,1,none⟩):=hd 11 46 rfl (by kernel_rfl) _ rfl
  have c2:w'.cell? ⟨w.heap.size,1,none⟩=some (.slice (some ra) p.rules.length s1):=row_cells (HR0.out w' hb) 1
  unfold Oper.wp
  simp[execOp,e1,c2,go_sem,Result.andThen]
  exact hK _ (factV_mk rfl rfl)
 case s4=>
  intro A w' K hb hfar hd hK
  have e1:A.tmps[38]?.getD undef=.slice (some ra) p.rules.length s1:=hd 3 38 rfl (by kernel_rfl) _ rfl
  unfold Oper.wp
  simp[execOp,e1,go_sem,Result.andThen]
  exact hK _ (factV_mk rfl rfl)
 case s8=>
  intro A w' K hb hfar hd hK
  have e1:A.tmps[1]?.getD undef=.int .i64 (m:Int):=hfar 1 (by decide)
  unfold Oper.wp
  simp[execOp,e1,go_sem,Result.andThen]
  exact hK _ (factV_mk rfl rfl)
 case s13=>
  intro A w' K hb hfar hd hK
  have e1:A.tmps[1]?.getD undef=.int .i64 (m:Int):=hfar 1 (by decide)
  unfold Oper.wp
  simp[execOp,e1,go_sem,Result.andThen]
  exact hK _ (factV_mk rfl rfl)
 case s9=>
  intro A w' K hb hfar hd hK
  have e1:A.tmps[42]?.getD undef=.slice (some ra) p.rules.length s1:=hd 7 42 rfl (by kernel_rfl) _ rfl
  have e2:A.tmps[43]?.getD undef=.int .i64 (m:Int):=hd 8 43 rfl (by kernel_rfl) _ rfl
  have g0:(0:Int)≤(m:Int):=by omega
  have g1:m≤s1:=by omega
  have g2:(m:Int)≤(s1:Int):=by omega
  unfold Oper.wp
  simp[execOp,e1,e2,g0,g1,g2,go_sem,Result.andThen]
  exact hK _ (factV_mk rfl rfl)
 case s14=>
  intro A w' K hb hfar hd hK
  have e1:A.tmps[48]?.getD undef=.int .i64 (m:Int):=hd 13 48 rfl (by kernel_rfl) _ rfl
  have hw:IntKind.i64.wrap ((m:Int)+1)=(m:Int)+1:=IntWalk.i64_in _ (by omega)
  unfold Oper.wp
  simp[execOp,e1,hw,go_sem,Result.andThen]
  exact hK _ (factV_mk rfl rfl)
 case s15=>
  intro A w' K hb hfar hd hK
  have e1:A.tmps[47]?.getD undef=.slice (some ra) p.rules.length s1:=hd 12 47 rfl (by kernel_rfl) _ rfl
  have e2:A.tmps[49]?.getD undef=.int .i64 ((m:Int)+1):=hd 14 49 rfl (by kernel_rfl) _ rfl
  have g0:(0:Int)≤(m:Int)+1:=by omega
  have g1:(m:Int)+1≤(s1:Int):=by omega
  have g2:((m:Int)+1).toNat=m+1:=by omega
  have g3:m+1≤p.rules.length:=by omega
  have g4:m+1≤s1:=by omega
  have hPo:=HPd.out
  unfold Oper.wp
  by_cases hcm:s1=m+1
  ·rw[if_pos hcm] at hPo
   subst hPo
   simp[execOp,e1,e2,g0,g1,g2,g3,g4,hm1,go_sem,Result.andThen]
   rw[if_pos hcm]
   exact hK _ (factV_mk rfl rfl)
  ·rw[if_neg hcm] at hPo
   subst hPo
   simp[execOp,e1,e2,g0,g1,g2,g3,g4,hcm,hm1,go_sem,Result.andThen]
   exact hK _ (factV_mk rfl rfl)
 case s5=>
  intro A w' val K hb hfar hd hs _ hK
  have e1:A.tmps[39]?.getD undef=.int .i64 (p.rules.length:Int):=(hd 4 39 rfl (by kernel_rfl)).1 _ rfl
  refine wp_make_any w' _ _ 23 rfl w3.heap.size 47 i0 _ 4 Tryz.underlying23 hi hy0 hy1 .i64 .i64 p.rules.length rfl ((evG7 _ _).trans e1) mB (by unfold maxLen;omega) hb.size fun w4 hown hg=>?_
  exact hK _ _ (hb.grown hg (fun b h=>by cases h)) (factV_mk rfl trivial) (by show w4.ownsRow _ _ _ (updV val 5 _ 5) 0 [];rw[updV_same];exact hown) fun u hu=>hu.kept hg (fun b h=>by cases h)
 case s10=>
  intro A w' val K hb hfar hd hs _ hK
  have e0:=(hd 5 40 rfl (by kernel_rfl)).2
  have e1:A.tmps[44]?.getD undef=.slice (some ra) m s1:=(hd 9 44 rfl (by kernel_rfl)).1 _ rfl
  have hs2:w'.ownsRow w3.heap.size 47 4 (val 5) 0 []:=hs
  refine wp_append_any w' _ _ 23 rfl w3.heap.size 47 i0 _ 4 72 Tryz.underlying23 hi hy0 hy1 hy2 rfl (by decide) (val 5) 0 [] ((evG7 _ _).trans e0) hs2 (.slice (some ra) m s1) m xs ((evG7 _ _).trans e1) (Spr.out w' _ _ _ HSp1.out hb) (by unfold maxLen;omega) (by omega) hb.size fun v' w4 hown hg hat=>?_
  rw[Nat.zero_add,List.nil_append] at hown
  exact hK _ _ (hb.grown hg (fun b h=>.inl (hs2.lt b h).1)) (factV_mk rfl trivial) (by show w4.ownsRow _ _ _ (updV val 10 _ 10) m xs;rw[updV_same];exact hown) fun u hu=>hu.kept hg (own_rule hs2)
 case s16=>
  intro A w' val K hb hfar hd hs _ hK
  have e0:=(hd 10 45 rfl (by kernel_rfl)).2
  have e1:A.tmps[50]?.getD undef=.slice P13 (p.rules.length - (m+1)) (s1 - (m+1)):=(hd 15 50 rfl (by kernel_rfl)).1 _ rfl
  have hs2:w'.ownsRow w3.heap.size 47 4 (val 10) m xs:=hs
  refine wp_append_any w' _ _ 23 rfl w3.heap.size 47 i0 _ 4 72 Tryz.underlying23 hi hy0 hy1 hy2 rfl (by decide) (val 10) m xs ((evG7 _ _).trans e0) hs2 (.slice P13 (p.rules.length - (m+1)) (s1 - (m+1))) (p.rules.length - (m+1)) ys ((evG7 _ _).trans e1) (Spr.out w' _ _ _ HSp2.out hb) (by unfold maxLen;omega) (by omega) hb.size fun v' w4 hown hg hat=>?_
  exact hK _ _ (hb.grown hg (fun b h=>.inl (hs2.lt b h).1)) (factV_mk rfl trivial) (by show w4.ownsRow _ _ _ (updV val 16 _ 16) (m+(p.rules.length - (m+1))) (xs++ys);rw[updV_same];exact hown) fun u hu=>hu.kept hg (own_rule hs2)
 case s17=>
  intro A w' val K hb hfar hd hs _ hK
  have e1:A.tmps[36]?.getD undef=.slice p1 p.decls.length q1:=(hd 1 36 rfl (by kernel_rfl)).1 _ rfl
  have e0:=(hd 16 51 rfl (by kernel_rfl)).2
  have hs2:w'.ownsRow w3.heap.size 47 4 (val 16) (m+(p.rules.length - (m+1))) (xs++ys):=hs
  obtain⟨ob,kb,eb⟩:=own_shape hs2
  rw[eb] at e0
  unfold Oper.wp
  simp[execOp,e0,e1,go_sem,Result.andThen]
  exact hK _ _ hb (factV_mk rfl trivial) ⟨by rw[updV_other _ _ (by decide)];exact hs2,by rw[updV_same,updV_other _ _ (by decide),eb]⟩ fun u hu=>hu
 case s18=>
  intro A w' K hb hfar hd hK
  unfold Oper.wp
  simp[execOp,go_sem,Result.andThen]
  exact hK _ _ ((Below.refl _ _).alloc (Nat.le_refl _) _) (factV_mk rfl trivial) ⟨_,_,_,rfl,hb.size,World.alloc_heap_new w' _⟩
 case s19=>
  intro A w' val K hb hfar hd hs hal hK
  obtain⟨bq,x,y,hv,hN,hc⟩:=hal (by kernel_rfl)
  have e0:=(hd 18 9 rfl (by kernel_rfl)).2
  rw[hv] at e0
  have e1:=(hd 17 52 rfl (by kernel_rfl)).2
  obtain⟨hs2,hs3⟩:=hs
  obtain⟨ob,kb,eb⟩:=own_shape hs2
  rw[hs3,eb] at e1
  have c0:w'.cell? ⟨bq,0,none⟩=some x:=row_cells hc 0
  have c1:w'.cell? ⟨bq,1,none⟩=some y:=row_cells hc 1
  have f0:=row_frozen7 hc 0
  have f1:=row_frozen7 hc 1
  have hl:=heap_lt hc
  have hrow:=set_row (set_row hc 0 (.slice p1 p.decls.length q1)) 1 (.slice ob (m+(p.rules.length - (m+1))) kb)
  have hne:(val 16).ownBlock≠some bq:=fun e=>by
   obtain⟨cur,hcu⟩:=own_rule hs2 bq e
   rw[hc] at hcu
   simp only[Option.some.injEq,Obj.cells.injEq] at hcu
   exact absurd hcu.2.1 (by decide)
  have hgr:=(setCell_grown7 w' bq 0 (.slice p1 p.decls.length q1))
  have hgr2:=setCell_grown7 (w'.setCell ⟨bq,0,none⟩ (.slice p1 p.decls.length q1)) bq 1 (.slice ob (m+(p.rules.length - (m+1))) kb)
  unfold Oper.wp
  simp[execOp,e0,e1,c0,c1,f0,f1,hl,go_sem,Result.andThen]
  refine hK undef _ ((hb.grown hgr (fun b h=>by cases h;exact .inl hN)).grown hgr2 (fun b h=>by cases h;exact .inl hN)) (fun p hp=>by cases hp) ⟨?_,bq,by rw[updV_other _ _ (by decide)];exact hv,hN,?_⟩ fun u hu=>?_
  ·rw[updV_other _ _ (by decide)]
   exact own_blkz hs2 fun g _ _ e=>(Below.heap_setCell _ ⟨bq,1,none⟩ _ g (fun e2=>hne (by rw[e,e2]))).trans (Below.heap_setCell _ ⟨bq,0,none⟩ _ g (fun e2=>hne (by rw[e,e2])))
  ·rw[updV_other _ _ (by decide),eb]
   simpa using hrow
  ·obtain⟨b,x',y',h1,h2,h3⟩:=hu
   by_cases e:b=bq
   ·subst e
    exact⟨b,_,_,h1,h2,by simpa using hrow⟩
   ·exact⟨b,x',y',h1,h2,((Below.heap_setCell _ ⟨bq,1,none⟩ _ b e).trans (Below.heap_setCell _ ⟨bq,0,none⟩ _ b e)).trans h3⟩
 case fin=>
  intro val w4 hF hb hs hx
  clear hx
  obtain⟨hs1,bq,hv18,hN,hs2⟩:=hs
  have B4:Below w.heap.size w w4:=B3.out.trans (((Below.refl _ w3).drew.trans (KpF.below hb)).mono B3.out.size)
  have hR4:=(hb.block _ (heap_lt R3.out) (fun h=>h)).trans R3.out
  obtain⟨l,hl⟩:∃ l,p.rules.take m++p.rules.drop (m+1)=l:=⟨_,rfl⟩
  have hll:l.length=m+(p.rules.length - (m+1)):=by rw[← hl];simp;omega
  have hlm:∀ r ∈ l,r ∈ p.rules:=fun r hr=>by
   rw[← hl] at hr
   rcases List.mem_append.1 hr with hr | hr
   ·exact List.mem_of_mem_take hr
   ·exact List.mem_of_mem_drop hr
  have HLs:Laid 4 (RuC w4 w4.heap.size) l (xs++ys):=by
   rw[← hl]
   exact HLd.out.mono fun x cs h=>(h.below B4).more B4.size
  obtain⟨v16,hv16⟩:∃ v,val 16=v:=⟨_,rfl⟩
  rw[hv16] at hs1 hs2
  rw[← hll] at hs1
  have HSl:SlOf w4 w4.heap.size 4 (RuC w4 w4.heap.size) l v16:=sl_own0 hs1 HLs
  have HPq:PgC w4 w4.heap.size ⟨p.decls,l⟩ [.slice p1 p.decls.length q1,v16]:=⟨_,_,rfl,SlOf.decl HDs.out B4 B4.size,HSl⟩
  have HG2:=hid (HG.out l _ (by omega) hlm w4 B4 HPq)
  have HLq:=hid (lil_some HSm.out (l:=l) (by omega) hlm)
  have HLl:=hid hll
  have HLm:=hid hlm
  have B4h:=hid B4
  have R4h:=hid hR4
  obtain⟨o16,c16,hv,_⟩:=SlOf.uni HSl
  subst hv
  have d0:w4.cell? ⟨bq,0,none⟩=some (.slice p1 p.decls.length q1):=row_cells hs2 0
  have d1:w4.cell? ⟨bq,1,none⟩=some (.slice o16 l.length c16):=row_cells hs2 1
  have zq:bq < w4.heap.size:=heap_lt hs2
  simp only[slotsLs,putsA,Nat.zero_add,Nat.reduceAdd,hv18]
  generalize val 0=v0
  generalize val 1=v1
  generalize val 2=v2
  generalize val 3=v3
  generalize val 4=v4
  generalize val 5=v5
  generalize val 6=v6
  generalize val 7=v7
  generalize val 8=v8
  generalize val 9=v9
  generalize val 10=v10
  generalize val 11=v11
  generalize val 12=v12
  generalize val 13=v13
  generalize val 14=v14
  generalize val 15=v15
  generalize val 16=v16
  generalize val 17=v17
  generalize val 19=v19
  clear val hF hb hs1 hs2 B4 hR4 hl hll hlm HLs HPq HSl hv18 hv16
  go_simp
  go_wp2_with fail
  refine HG2.out.mono ?_
  intro e5 w5 hR
  obtain⟨hA,b5⟩:=gsR_one HLq.out.n hR
  obtain⟨hGA2,hsl2⟩:=hA
  rename_i ln2 k2 L2 gv2
  obtain⟨og2,cg2,rfl,hcl2,hcm2,_⟩:=SlOf.uni hsl2
  unfold maxLen at hcm2
  rw[List.length_map] at hcl2 ⊢
  have B5:=hid (B4h.out.trans (b5.mono B4h.out.size))
  have hr5:=(b5.block _ (heap_lt R4h.out)).trans R4h.out
  have x0:=row_cells hr5 0
  have x1:=row_cells hr5 1
  simp at x0 x1
  have hz5:=heap_lt hr5
  by_cases hk:k=0
  ·subst hk
   have hk2:=gra_less (p:=p) (by have:=HLl.out;omega) HLm.out HGA.out hGA2
   subst hk2
   have hem:=gra_empty hGA2
   have hem':p.decls.length=0 ↔ L2.length=0:=hem
   clear hR hGA2 hsl2 b5 hr5 hem d0 d1 zq
   by_cases hd0:p.decls.length=0
   ·have hl0:=hem'.1 hd0
    have f1:((p.decls.length:Int) == 0)=true:=by rw[hd0];rfl
    have f2:((L2.length:Int) == 0)=true:=by rw[hl0];rfl
    have f3:(p.decls.length:Int)=0:=by omega
    have f4:(L2.length:Int)=0:=by omega
    clear hem' hd0 hl0
    go_wp2
    go_ret
    exact⟨rfl,B5.out⟩
   ·have hl0:¬ L2.length=0:=fun h=>hd0 (hem'.2 h)
    have f1:((p.decls.length:Int) == 0)=false:=by rw[beq_eq_false_iff_ne];omega
    have f2:((L2.length:Int) == 0)=false:=by rw[beq_eq_false_iff_ne];omega
    have f3:¬ (p.decls.length:Int)=0:=by omega
    have f4:¬ (L2.length:Int)=0:=by omega
    clear hem' hd0 hl0
    go_wp2
    go_ret
    exact⟨rfl,B5.out⟩
  ·have hk':(k != 0)=true:=by simpa using hk
   clear hR hGA2 hsl2 b5 hr5 d0 d1 zq
   go_wp2
   go_ret
   exact⟨rfl,B5.out⟩
end Go.Proofs.YtakpgcmfjlbcgaaGreatDoor
