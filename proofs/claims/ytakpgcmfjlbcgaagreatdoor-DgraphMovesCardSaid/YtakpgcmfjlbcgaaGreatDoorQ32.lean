/- Zy4@0123 -/
import Derived.Test.YtakpgcmfjlbcgaaGreatDoorQ31
set_option linter.unusedSimpArgs false
set_option linter.unusedVariables false
namespace Go.Proofs.YtakpgcmfjlbcgaaGreatDoor
open Lib(hid)
open Go.RowKit
attribute [local go_sem] Oper.semAt_some
set_option maxRecDepth 1000000 in
theorem idx_f (W:World):(Instr.index 157 (.agg #[.bool false,.bool true]) (.int .i64 0)).run Tryz.prog W=.ok (.bool false) W:=by
 have u:=Tryz.underlying157
 have z:=Tryz.sizeOf4
 have a:=Tryz.isAgg4
 simp[Instr.index,run_underlying u,z,a,go_sem]
set_option maxRecDepth 1000000 in
theorem idx_t (W:World):(Instr.index 157 (.agg #[.bool false,.bool true]) (.int .i64 1)).run Tryz.prog W=.ok (.bool true) W:=by
 have u:=Tryz.underlying157
 have z:=Tryz.sizeOf4
 have a:=Tryz.isAgg4
 simp[Instr.index,run_underlying u,z,a,go_sem]
theorem add_add (a:Addr) (i j:Nat):(a.add i).add j=a.add (i+j):=by
 unfold Addr.add
 by_cases hi:i=0
 ·subst hi;simp
 ·by_cases hj:j=0
  ·subst hj;simp
  ·rw[if_neg hi,if_neg hj,if_neg (by omega)]
   simp[Nat.add_assoc]
set_option maxRecDepth 100000 in
set_option maxHeartbeats 16000000 in
theorem steps_moves (n:Nat) (hn:1≤n) (S Bp Bb M:Nat) (v0:Value) (l0:List Pt) (B0:Bd) (hf:FewP' l0) :
  Moves2 Fence.wide n Tryz.prog 95 (fun l=>#[]++#[.func (.yield l) #[] #[]]++#[.pointer (some ⟨Bp,0,none⟩),.pointer (some ⟨Bb,0,none⟩)]) (fun x:SX=>#[.agg x.cs.toArray]) (SG S Bp Bb M v0 l0) (ST S Bp Bb M v0 l0) (SE M) (sx0 l0 v0 B0):=by
 intro lp A B X Z W hY hB h0
 have HY:=hid hY
 have HB:=hid hB
 have HF:=hid hf
 obtain⟨hg0,_,_⟩:=hB _ W h0
 have c0:W.cell? ⟨Bp,0,none⟩=some v0:=row_cells hg0.bx.p 0
 have l0':=heap_lt hg0.bx.p
 have HCl:=hid (callsIn_wide (n:=n - 1).2 (clone_left hg0.left (by have:=hf.n;show l0.length≤_;omega)))
 have H0:=hid h0
 have hsh:∃ o k c,v0=.slice o k c:=by obtain⟨_,xs,h1,_⟩:=hg0.left;obtain⟨o,c,e⟩:=own_shape h1;exact⟨o,_,c,e⟩
 obtain⟨ov,kv,cv,rfl⟩:=hsh
 have HG0:=hid hg0
 clear hY hB h0 hg0 hf
 simp only[List.append_toArray,List.cons_append,List.nil_append,List.append_nil]
 refine callsIn_of_wp Tryz.func95 rfl trivial ?_ rfl
 simp only[Tryz.ntmps95,List.size_toArray,List.length_cons,List.length_nil,Nat.reduceAdd,Nat.reduceSub,Array.replicate_succ,Array.replicate_zero,List.push_toArray,List.append_toArray,List.nil_append,List.cons_append]
 gi_wp2_with fail
 refine scopeW ?_
 gi_wp2_with fail
 refine⟨trivial,HCl.out.mono ?_⟩
 rintro e1 w1 ⟨u,rfl,hL1,b1,hu⟩
 have HS1:Hid (SH S Bp Bb M (.slice ov kv cv) l0 (sx0 l0 (.slice ov kv cv) B0) W u w1):=hid ⟨HG0.out.bx.below b1,HG0.out.m.below b1,hL1,fun p hp=>hp,HG0.out.few,(Fr.refl _ _ _).below b1,fun g hg=>.inr (hu g hg)⟩
 clear b1 hL1 hu HCl
 gi_wp2_with fail
 refine wpIn_label ?_
 gi_wp2_with fail
 gi_loopw [4,5] (fun lv dv wr=>∃ (x:SX) (W1:World),B x W1∧SH S Bp Bb M (.slice ov kv cv) l0 x W1 lv wr∧dv=.int .i64 (x.nxt.done+1:Nat)) (fun lv _ _=>lenV lv)
 case atStart=>exact⟨_,W,H0.out,HS1.out,rfl⟩
 case round=>
  obtain⟨x,W1,hBx,hS,rfl⟩:=hrel
  have HBx:=hid hBx
  have HS:=hid hS
  obtain⟨_,xs,hown,hlaid⟩:=hS.left
  obtain⟨ol,cl,rfl⟩:=own_shape hown
  obtain⟨Z,hZ⟩:∃ Z,x.nxt=Z:=⟨_,rfl⟩
  obtain⟨wo,hwo⟩:∃ wo,wo=wr:=⟨_,rfl⟩
  subst hwo
  rw[hZ] at HS
  obtain⟨dn,hdn⟩:∃ dn:Int,((x.nxt.done+1:Nat):Int)=dn:=⟨_,rfl⟩
  rw[hdn]
  try rw[hZ]
  have HDn:=hid hdn
  have HZe:=hid hZ
  clear hBx hS hown hlaid hdn hZ
  gi_wp2_with fail
  gi_loopw [4,15] (fun lv kv wq=>∃ j:Nat,j≤2∧lv=.slice ol Z.left.length cl∧kv=.int .i64 j∧(1≤j→pickZ Z.B false Z.left=none)∧(2≤j→pickZ Z.B true Z.left=none)∧Below wo.heap.size wo wq) (fun _ kv _=>2 - (intOf kv).toNat)
  case atStart=>exact⟨0,by omega,rfl,rfl,fun h=>by omega,fun h=>by omega,Below.refl _ _⟩
  case round=>
   obtain⟨wq,hwq⟩:∃ wq,wq=wr:=⟨_,rfl⟩
   subst hwq
   obtain⟨j,hj,rfl,rfl,hp0,hp1,hBq⟩:=hrel
   have HBq:=hid hBq
   by_cases h2:j=2
   ·subst h2
    have a1:=next_none (hp0 (by omega)) (hp1 (by omega))
    have a2:=HS.out.below hBq
    have hSE:SE M x W1 wq:=⟨(by rw[HZe.out];exact a1),a2.m,a2.fr⟩
    have HZ:=hid ((HB.out x W1 HBx.out).2.2 _ hSE)
    clear hSE hBq a1 a2
    gi_wp2_with fail
    rw[Exit.noGoto_ret]
    refine bodyPost_ret (results_none rfl _ _ _) rfl ?_
    exact⟨⟨_,rfl⟩,.inr HZ.out⟩
   ·obtain⟨b,hjb⟩:∃ b:Bool,j=(if b=true then 1 else 0):=⟨j == 1,by rcases (show j=0∨j=1 by omega) with rfl | rfl <;> rfl⟩
    have hx:∀ W,(Instr.index 157 (.agg #[.bool false,.bool true]) (.int .i64 (j:Int))).run Tryz.prog W=.ok (.bool b) W:=fun W=>by
     subst hjb
     cases b
     ·exact idx_f W
     ·exact idx_t W
    have HP0:Hid (b=true→pickZ Z.B false Z.left=none):=hid (fun h=>hp0 (by rw[hjb,if_pos h];exact Nat.le_refl _))
    have HPn:Hid (pickZ Z.B b Z.left=none→(1≤j+1→pickZ Z.B false Z.left=none)∧(2≤j+1→pickZ Z.B true Z.left=none)):=hid (fun h=>by
     cases b with
     | false=>exact⟨fun _=>h,fun h2=>by rw[hjb] at h2;simp at h2⟩
     | true=>exact⟨fun _=>hp0 (by rw[hjb];decide),fun _=>h⟩)
    have hj2:(j:Int) < 2:=by omega
    have wj:IntKind.i64.wrap ((j:Int)+1)=(j:Int)+1:=by rw[IntKind.wrap_i64];omega
    have hj1:j≤1:=by omega
    clear hp0 hp1 hBq hjb h2 hj
    gi_wp2_with fail
    gi_loopw [4,20] (fun lv iv wp'=>∃ m:Nat,m≤Z.left.length∧lv=.slice ol Z.left.length cl∧iv=.int .i64 m∧(∀ (j:Nat) (p:Pt),j < m→Z.left[j]?=some p→candZ Z.B b p=false)∧Below wo.heap.size wo wp') (fun _ iv _=>Z.left.length - (intOf iv).toNat)
    case atStart=>exact⟨0,Nat.zero_le _,rfl,rfl,fun j p h=>absurd h (Nat.not_lt_zero _),HBq.out⟩
    case round=>
     obtain⟨wp',hwp⟩:∃ wp',wp'=wr:=⟨_,rfl⟩
     subst hwp
     obtain⟨m,hm,rfl,rfl,hno,hBp⟩:=hrel
     have Hno:=hid hno
     have HSp:=hid (HS.out.below hBp)
     have HBp:=hid hBp
     clear hno hBp
     have hZl:Z.left.length≤2000:=by
      have h1:=HSp.out.few
      rw[HZe.out] at h1
      have h2:=HF.out.n
      omega
     by_cases hlt:m < Z.left.length
     ·have hlt':(m:Int) < (Z.left.length:Int):=by omega
      have hm0:(0:Int)≤(m:Int):=by omega
      have wm:IntKind.i64.wrap ((m:Int)+1)=(m:Int)+1:=by rw[IntKind.wrap_i64];omega
      obtain⟨p,hp⟩:∃ p,Z.left[m]?=some p:=⟨Z.left[m],List.getElem?_eq_getElem hlt⟩
      obtain⟨a,cap,cs,hv,ha,hpt,hcells⟩:=left_at (show LeftOk S wp' (.slice ol Z.left.length cl) Z.left from by have:=HSp.out.left;rw[HZe.out] at this;exact this) hp
      cases hv
      obtain⟨o0,k0,o1,k1,o2,k2,o3,k3,o4,k4,o5,k5,o6,k6,o7,k7,e17,_⟩:=hpt.look
      have Hpt:=hid hpt
      have Hp:=hid hp
      have E17:=hid e17
      have HL17:Hid (∀ (j:Nat) (c:Value),([.int .i64 (p.place:Int),.int .i64 p.lit.op,.string p.lit.a.rel,.slice o0 p.lit.a.l.length k0,.int .i64 p.lit.x.op,.string p.lit.x.s,.int .i64 p.lit.x.n,.slice o1 p.lit.x.l.length k1,.int .i64 p.lit.y.op,.string p.lit.y.s,.int .i64 p.lit.y.n,.slice o2 p.lit.y.l.length k2,.slice o3 p.x.length k3,.slice o4 p.y.length k4,.slice o5 p.a.length k5,.slice o6 p.rk.length k6,.slice o7 p.ou.length k7]:List Value)[j]?=some c→wp'.cell? ((a.add (m * 17)).add j)=some c):=hid fun j c hj=>by rw[add_add];exact hcells j c (by rw[e17];exact hj)
      obtain⟨WA,hWA⟩:∃ W,wp'.alloc (.cells #[.int .i64 (p.place:Int),.int .i64 p.lit.op,.string p.lit.a.rel,.slice o0 p.lit.a.l.length k0,.int .i64 p.lit.x.op,.string p.lit.x.s,.int .i64 p.lit.x.n,.slice o1 p.lit.x.l.length k1,.int .i64 p.lit.y.op,.string p.lit.y.s,.int .i64 p.lit.y.n,.slice o2 p.lit.y.l.length k2,.slice o3 p.x.length k3,.slice o4 p.y.length k4,.slice o5 p.a.length k5,.slice o6 p.rk.length k6,.slice o7 p.ou.length k7] 126)=W:=⟨_,rfl⟩
      have HR:Hid (WA.heap[wp'.heap.size]?=some (.cells cs.toArray 126 (0,0))):=hid (by rw[← hWA,e17];exact World.alloc_heap_new wp' _)
      have hbA:Below wp'.heap.size wp' WA:=by rw[← hWA];exact (Below.refl _ _).alloc (Nat.le_refl _) _
      have HSA:=hid (HSp.out.below hbA)
      have HBA:=hid (HBp.out.trans (hbA.mono HBp.out.size))
      have HptA:=hid (hpt.cells (fun q c hc=>(World.cell?_of_block (hbA.block _ (World.block_lt_of_cell? _ _ hc))).trans hc) (Nat.le_refl _))
      have hWA':=hid hWA
      clear hp hpt hcells hbA hWA e17
      have hcb:=HSp.out.bx.b
      have cb:wp'.cell? ⟨Bb,0,none⟩=some (.map (some M)):=row_cells hcb 0
      have lb:=heap_lt hcb
      have hcase:(p.lit.op == 1)=b∨(p.lit.op == 1)=!b:=by cases (p.lit.op == 1) <;> cases b <;> simp
      rcases hcase with hop | hop
      ·obtain⟨nm,cm,hnm,hmap⟩:=HSA.out.m
       rw[HZe.out] at hmap hnm
       have HMA:=hid hmap
       have HNm:=hid hnm
       have HRd:=hid (isReady_c p cs M nm cm Z.B WA (HptA.out.cells (fun _ _ h=>h) HSA.out.left.1) hmap)
       clear hmap hnm hcb
       gi_wp2_with (refine wpListIn_load17 (by simp[Region.wanted]) (.tmp 23) rfl (a.add (m * 17)) (by simp[Act.eval,Act.put]) rfl HL17.out ?_)
       have e17a:(#[.int .i64 (p.place:Int),.int .i64 p.lit.op,.string p.lit.a.rel,.slice o0 p.lit.a.l.length k0,.int .i64 p.lit.x.op,.string p.lit.x.s,.int .i64 p.lit.x.n,.slice o1 p.lit.x.l.length k1,.int .i64 p.lit.y.op,.string p.lit.y.s,.int .i64 p.lit.y.n,.slice o2 p.lit.y.l.length k2,.slice o3 p.x.length k3,.slice o4 p.y.length k4,.slice o5 p.a.length k5,.slice o6 p.rk.length k6,.slice o7 p.ou.length k7]:Array Value)=cs.toArray:=by rw[E17.out]
       rw[hWA'.out,e17a]
       obtain⟨bx,hbx⟩:∃ k,wp'.heap.size=k:=⟨_,rfl⟩
       have HRx:Hid (WA.heap[bx]?=some (.cells cs.toArray 126 (0,0))):=hid (by rw[← hbx];exact HR.out)
       rw[hbx]
       clear hWA' e17a cb lb HL17 HR hbx
       refine⟨trivial,(callsIn_wide.2 HRd.out).mono ?_⟩
       rintro e10 w10 ⟨rfl,b10⟩
       have HS10:=hid (HSA.out.below b10)
       have HB10:=hid (HBA.out.trans (b10.mono HBA.out.size))
       have HRx10:=hid ((b10.block _ (heap_lt HRx.out)).trans HRx.out)
       have Hpt10:=hid (HptA.out.cells (fun q c hc=>(World.cell?_of_block (b10.block _ (World.block_lt_of_cell? _ _ hc))).trans hc) (Nat.le_refl _))
       clear b10 HRd
       cases hrd:readyZ Z.B p with
       | false=>
        have HC:Hid (candZ Z.B b p=false):=hid (by unfold candZ;rw[hrd,Bool.and_false])
        have HBB:=HB10.out
        clear hrd
        gi_wp2
        go_roundw
        case rel=>exact⟨m+1,by omega,rfl,by go_num,fun j q hj hq=>by
         by_cases e:j=m
         ·subst e
          rw[Hp.out] at hq
          cases hq
          exact HC.out
         ·exact Hno.out j q (by omega) hq,HBB⟩
        case measure=>simp[intOf];omega
       | true=>
        have HC:Hid (candZ Z.B b p=true):=hid (by unfold candZ;rw[hrd,hop,beq_self_eq_true];rfl)
        have hnx:nextZ x.nxt=some m:=by rw[HZe.out];exact next_b HP0.out (pick_some Hp.out HC.out Hno.out)
        have hT:ST S Bp Bb M (.slice ov kv cv) l0 x W1 ⟨x.nxt,some (m,p),.slice (some a) Z.left.length cl,cs,bx⟩ w10:=HS10.out.found hnx (by rw[HZe.out];exact Hp.out) HRx10.out Hpt10.out
        have hA:=(HB.out x W1 HBx.out).2.1 _ w10 hT
        obtain⟨fn,tmps,assign,body,hyl,hR⟩:=HY.out _ _ hA
        have HX1:=hid hA
        have hl17:cs.length=17:=Hpt10.out.len
        clear hrd hT hA hnx
        try simp only at hR
        gi_wp2_with (refine wpListIn_load17 (by simp[Region.wanted]) (.tmp 9) rfl ⟨bx,0,none⟩ (by simp[Act.eval,Act.put]) hl17 (row_at HRx10.out) ?_)
        refine hR.mono ?_
        rintro e W5 (⟨rfl,hB5⟩ | ⟨rfl,hX5⟩)
        ·have G5:=hid (HB.out _ W5 hB5).1
         have HB5:=hid hB5
         obtain⟨n5,c5,hn5,hmap5⟩:=G5.out.m
         have hrow5:W5.heap[bx]?=some (.cells cs.toArray 126 (0,0)):=(G5.out.box m p rfl).1
         have hpt5:PtC W5 S p cs:=(G5.out.box m p rfl).2.1
         obtain⟨g,cap,xs,hv5,hown5,hlaid5,hone5⟩:=LeftOk.open (show LeftOk S W5 (.slice (some a) Z.left.length cl) Z.left from by have:=G5.out.left;simp only[HZe.out] at this;exact this) Hp.out
         cases hv5
         have hcb5:=row_cells G5.out.bx.b 0
         have hlb5:=heap_lt G5.out.bx.b
         have HMap5:=hid hmap5
         have HRow5:=hid hrow5
         have HPt5:=hid hpt5
         have HOwn5:=hid hown5
         have HLaid5:=hid hlaid5
         have HOne5:=hid hone5
         have hdn1:x.nxt.done+1≤1000000:=by
          have h1:=G5.out.few
          have h2:=HF.out.n
          simp only at h1
          omega
         have HNn5:Hid (n5+wtZ Z.left≤1000000):=hid (by have:=hn5;simp only[HZe.out] at this;exact this)
         have hwt:wtP p≤wtZ Z.left:=by have:=wtZ_erase _ _ _ Hp.out;omega
         have hbw:=binds_wt p
         clear hR hB5 hyl hmap5 hrow5 hpt5 hown5 hlaid5 hone5 hn5
         gi_wp2_with fail
         refine wpIn_wide.2 ?_
         refine wp_region_any (by kernel_rfl) ?_
         (try (change wpAny _ _ _ _ _ _ _ (World.drew _)))
         refine wpAny_last 4 [4,2,4,4] slotsQ _ _ (factsQ M (x.nxt.done+1) cs p) (by kernel_rfl) (by kernel_rfl) (by kernel_rfl) (by kernel_rfl)
          (fun _ W=>∃ wm c',Below W5.heap.size W5 wm∧wm.grownBy W (some M)∧MapI Tryz.prog W 9 3 M (n5+(bindsZ p).length) (addZ dn x.nxt.B (bindsZ p)) c')
          (by kernel_rfl) (by kernel_rfl) (by kernel_rfl) (factsQ_mono _ _ _ _) ⟨?s0,?s1,?s2,?s3,trivial⟩ ?last ?fin
         case s0=>
          intro A' w' K hb hfar hd hK
          have e2:A'.tmps[2]?.getD undef=.pointer (some ⟨Bb,0,none⟩):=hfar 2 (by decide)
          have cc:w'.cell? ⟨Bb,0,none⟩=some (.map (some M)):=(World.cell?_of_block (hb.block _ hlb5)).trans hcb5
          unfold Oper.wp
          simp[execOp,e2,cc,go_sem,Result.andThen]
          exact hK _ _ (Below.refl _ _) (factG_mk rfl rfl)
         case s1=>
          intro A' w' K hb hfar hd hK
          have e9:A'.tmps[9]?.getD undef=.pointer (some ⟨bx,0,none⟩):=hfar 9 (by decide)
          exact wp_load17 (.tmp 9) rfl ⟨bx,0,none⟩ (by simpa[Act.eval] using e9) hl17 (row_at ((hb.block _ (heap_lt HRow5.out)).trans HRow5.out)) (hK _ _ (Below.refl _ _) (factG_mk rfl rfl))
         case s2=>
          intro A' w' K hb hfar hd hK
          have e42:A'.tmps[42]?.getD undef=.agg cs.toArray:=hd 1 42 rfl (by kernel_rfl) _ rfl
          have hp':PtC w' w'.heap.size p cs:=HPt5.out.cells (fun q c hc=>(World.cell?_of_block (hb.block _ (World.block_lt_of_cell? _ _ hc))).trans hc) (Nat.le_trans G5.out.left.1 hb.size)
          unfold Oper.wp
          simp[execOp,e42,go_sem,Result.andThen]
          refine (binds_c p cs w' hp' (by unfold wtP at hwt;have:=HNn5.out;omega)).mono ?_
          rintro e3 w3 ⟨u,rfl,hu,b3⟩
          exact hK _ _ b3 (factG_mk rfl hu)
         case s3=>
          intro A' w' K hb hfar hd hK
          have e5:A'.tmps[5]?.getD undef=.int .i64 dn:=hfar 5 (by decide)
          unfold Oper.wp
          simp[execOp,e5,go_sem,Result.andThen]
          exact hK _ _ (Below.refl _ _) (factG_mk rfl (by rw[HDn.out]))
         case last=>
          rintro o ho
          cases ho
          intro A' w' val K hb hfar hd hF hK
          have e41:A'.tmps[41]?.getD undef=.map (some M):=(hd 0 41 rfl (by kernel_rfl)).1 _ rfl
          obtain⟨u43,e43⟩:∃ u,A'.tmps[43]?.getD undef=u:=⟨_,rfl⟩
          have hu:SlOf w' w'.heap.size 1 StrC (bindsZ p) (A'.tmps[43]?.getD undef):=(hd 2 43 rfl (by kernel_rfl)).1 _ rfl
          rw[e43] at hu
          have e44:A'.tmps[44]?.getD undef=.int .i64 ((x.nxt.done+1:Nat):Int):=(hd 3 44 rfl (by kernel_rfl)).1 _ rfl
          rw[HDn.out] at e44
          have hb5:Below W5.heap.size W5 w':=((Below.refl _ W5).drew).trans hb
          have hadd:=add_c (bindsZ p) u43 (x.nxt.done+1) (Nat.succ_pos _) hdn1 M n5 c5 x.nxt.B w' (by have:=HNn5.out;omega) hu (HMap5.out.below hb5 HMap5.out.lt)
          rw[HDn.out] at hadd
          unfold Oper.wp
          simp[execOp,e41,e43,e44,go_sem,Result.andThen]
          refine hadd.mono ?_
          rintro e3 w3 ⟨rfl,⟨c3,hm3⟩,hg3⟩
          exact hK _ _ ⟨w',c3,hb5,hg3,hm3⟩
         case fin=>
          rintro val W6 ⟨wm,c6,hbm,hgm,hm6⟩
          have hL6:=(G5.out.left.below hbm).map (HMap5.out.below hbm HMap5.out.lt) hgm
          have hmp:MapI Tryz.prog wm 9 3 M n5 x.nxt.B c5:=HMap5.out.below hbm HMap5.out.lt
          have hown6:W6.ownsRow 0 126 17 (.slice (some ⟨g,0,none⟩) Z.left.length cl) Z.left.length xs:=(own_below HOwn5.out hbm).kept hgm (.inr (fun e=>row_map hmp (own_below HOwn5.out hbm) e.symm))
          have hlaid6:Laid 17 (PtC (hidO (.slice (some ⟨g,0,none⟩) Z.left.length cl) W6) S) Z.left xs:=HLaid5.out.mono fun q cs hx=>hx.cells (fun p c hc=>by
           obtain⟨k1,k2⟩:=hidO_cell hc
           exact cell_hidO (mapI_cells hmp hgm ((World.cell?_of_block (hbm.block _ (World.block_lt_of_cell? _ _ k2))).trans k2)) k1) (Nat.le_refl _)
          have hdel:=delete_c 0 g Z.left.length cl m xs W6 hown6 hlt HOne5.out
          rw[show ((m+1:Nat):Int)=(m:Int)+1 from by push_cast;rfl] at hdel
          have HDel:=hid (callsIn_wide (n:=n - 1).2 hdel)
          have HBm:=hid hbm
          have HGm:=hid hgm
          have HM6:=hid hm6
          have HOwn6:=hid hown6
          have HLaid6:=hid hlaid6
          have HS6:=hid hL6.1
          simp only[slotsQ,putsA,Nat.zero_add,Nat.reduceAdd]
          generalize val 0=v41
          generalize val 1=v42
          generalize val 2=v43
          generalize val 3=v44
          generalize val 4=v45
          clear hbm hgm hm6 hL6 hmp hown6 hlaid6 hdel val
          go_simp
          gi_wp2_with fail
          refine⟨trivial,HDel.out.mono ?_⟩
          rintro e8 w8 ⟨rfl,ho8,hg8⟩
          have HSH:=hid (G5.out.again (v':=.slice (some ⟨g,0,none⟩) (Z.left.length - 1) cl) (n':=n5+(bindsZ p).length) (c':=c6) rfl (by simp only[HZe.out];exact Hp.out) HBm.out HGm.out (by have:=HM6.out;rw[← HDn.out] at this;exact this)
           (by simp only[HZe.out];have h1:=wtZ_erase _ _ _ Hp.out;have h2:=HNn5.out;omega) HS6.out (by simp only[HZe.out];exact HOwn6.out) (by simp only[HZe.out];exact HLaid6.out) rfl (by simp only[HZe.out];exact ho8) hg8)
          clear ho8 hg8
          have hwd:IntKind.i64.wrap (dn+1)=dn+1:=by rw[IntKind.wrap_i64];have:=HDn.out;omega
          have Hwd:=hid hwd
          clear hwd
          gi_wp2
          refine⟨⟨_,W5,HB5.out,HSH.out,?_⟩,by simp[lenV];omega⟩
          have h1:wrap64 (dn+1)=dn+1:=by first | exact Hwd.out | (rw[← IntKind.wrap_i64];exact Hwd.out) | (have:=HDn.out;unfold wrap64;omega)
          rw[h1,← HDn.out]
          rfl
        ·have HX:=hid hX5
         clear hR hX5 hyl
         gi_wp2
         rw[Exit.noGoto_ret]
         refine bodyPost_ret (results_none rfl _ _ _) rfl ?_
         exact⟨⟨_,rfl⟩,.inl HX.out⟩
      ·have HC:Hid (candZ Z.B b p=false):=hid (by unfold candZ;rw[hop];cases b <;> rfl)
       have HBB:=HBA.out
       rw[← hWA'.out] at HBB
       gi_wp2_with (refine wpListIn_load17 (by simp[Region.wanted]) (.tmp 23) rfl (a.add (m * 17)) (by simp[Act.eval,Act.put]) rfl HL17.out ?_)
       refine⟨trivial,?_⟩
       gi_wp2
       go_roundw
       case rel=>exact⟨m+1,by omega,rfl,by go_num,fun j q hj hq=>by
        by_cases e:j=m
        ·subst e
         rw[Hp.out] at hq
         cases hq
         exact HC.out
        ·exact Hno.out j q (by omega) hq,HBB⟩
       case measure=>simp[intOf];omega
     ·have HNn:=hid (HPn.out (pick_none fun j p hj=>Hno.out j p (by have:=(List.getElem?_eq_some_iff.1 hj).1;omega) hj))
      have hlt':¬ (m:Int) < (Z.left.length:Int):=by omega
      gi_wp2
      exact⟨⟨j+1,by omega,rfl,by go_num,HNn.out.1,HNn.out.2,HBp.out⟩,by simp[intOf];omega⟩
end Go.Proofs.YtakpgcmfjlbcgaaGreatDoor
