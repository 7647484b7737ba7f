/- Ytypes@2, Ymem@2, Yans@2, Yrm@2, Tright@2 -/
import Derived.Test.YtfmldnbcjbflbaaGreatDoorQ19
import Derived.Test.YtfmldnbcjbflbaaGreatDoorQ15
set_option linter.unusedSimpArgs false
set_option linter.unusedVariables false
namespace Go.Proofs.YtfmldnbcjbflbaaGreatDoor
open Lib(hid)
open Go.RowKit Go.Shelf Go.Maps Go.WideMaps
attribute [local go_sem] Oper.semAt_some
theorem chkA_zero {ds:List De}:∀ {l:List Am},chkA ds l=0→∀ t ∈ l,badA ds t=0
 | [],_,_,h=>by cases h
 | t::l,h,x,hx=>by
  unfold chkA at h
  by_cases h0:badA ds t=0
  ·rw[if_pos h0] at h
   rcases List.mem_cons.1 hx with rfl | hx
   ·exact h0
   ·exact chkA_zero h x hx
  ·rw[if_neg h0] at h
   exact absurd h h0
theorem loadVar_types {W:World} {b:Nat} {v:Value} (h:W.cell? ⟨b,0,none⟩=some v):(loadVar 87 ⟨b,0,none⟩).run Tryz.prog W=.ok v W:=by
 have ha:∀ w:World,(isAgg 87).run Tryz.prog w=.ok false w:=fun w=>by kernel_rfl
 have hl:b < W.heap.size:=World.block_lt_of_cell? _ _ h
 unfold loadVar
 go_simp
theorem set2 {W:World} {L1 L2 T1 T2:Nat} {o1 o2:Value} (v1 v2:Value) (h1:Boxed W L1 T1 o1) (h2:Boxed W L2 T2 o2) (hne:L1≠L2) :
  Boxed ((W.setCell ⟨L1,0,none⟩ v1).setCell ⟨L2,0,none⟩ v2) L1 T1 v1∧Boxed ((W.setCell ⟨L1,0,none⟩ v1).setCell ⟨L2,0,none⟩ v2) L2 T2 v2:=
 ⟨(Below.heap_setCell (W.setCell ⟨L1,0,none⟩ v1) ⟨L2,0,none⟩ v2 L1 hne).trans (Boxed.set v1 h1),Boxed.set v2 (show Boxed (W.setCell ⟨L1,0,none⟩ v1) L2 T2 o2 from (Below.heap_setCell W ⟨L1,0,none⟩ v1 L2 hne.symm).trans h2)⟩
inductive TypR (V:List (List UInt8)) (n0:Nat) (w:World) (a c d:Addr) (ds:List De) (r:Ru):Ending→World→Prop
 | atom {w':World}:chkA ds (atomsR r)≠0→Below n0 w w'→TypR V n0 w a c d ds r (.returned (.tuple #[.map none,badV c d (chkA ds (atomsR r))])) w'
 | place {w':World}:chkA ds (atomsR r)=0→learnL [] (baseL ds r)=none→Below n0 w w'→TypR V n0 w a c d ds r (.returned (.tuple #[.map none,errV a])) w'
 | other {w':World} {K:Kn}:chkA ds (atomsR r)=0→learnL [] (baseL ds r)=some K→Rounds (prsL r.body) K none→Below n0 w w'→TypR V n0 w a c d ds r (.returned (.tuple #[.map none,errV a])) w'
 | left {w':World} {K K':Kn}:chkA ds (atomsR r)=0→learnL [] (baseL ds r)=some K→Rounds (prsL r.body) K (some K')→(∃ t ∈ termsR r,t.op=1∧look K' (nm t)=0)→Below n0 w w'→TypR V n0 w a c d ds r (.returned (.tuple #[.map none,errV a])) w'
 | good {w':World} {K K':Kn} {B:Nat}:chkA ds (atomsR r)=0→learnL [] (baseL ds r)=some K→Rounds (prsL r.body) K (some K')→(∀ t ∈ termsR r,t.op=1→look K' (nm t)≠0)→n0≤B→KnM V w' B K'→Below n0 w w'→TypR V n0 w a c d ds r (.returned (.tuple #[.map (some B),.nilIface])) w'
set_option maxRecDepth 100000 in
set_option maxHeartbeats 8000000 in
theorem typesOf_in (ds:List De) (v:Value) (r:Ru) (cs:List Value) (V:List (List UInt8)) (hV:V.length≤1000000) (a b' c d:Addr) (n0:Nat) (w:World) (hn0:w.heap.size=n0) (hd:SlOf w n0 6 (DeC w n0) ds v) (hc:RuC w n0 r cs)
  (hA:∀ t ∈ atomsR r,∀ u ∈ t.l,u.op=1→nm u ∈ V) (hL:∀ l ∈ r.body,(l.x.op=1→nm l.x ∈ V)∧(l.y.op=1→nm l.y ∈ V)) (hT:∀ t ∈ termsR r,GT V t) (hS:∀ t ∈ termsR r,t.s.size≤maxLen) (hty:∀ e ∈ ds,∀ k ∈ e.types,k=1∨k=2) (E:YEnv n0 a b' c d w) :
  CallsIn Fence.wide 6 Tryz.prog 56 #[v,.agg cs.toArray] w (TypR V n0 w a c d ds r):=by
 obtain⟨o0,k0,o1,k1,rfl,_⟩:=hc.look
 have hmm:=@run_makeMap Tryz.prog
 have HC:=hid hc
 have HD:=hid hd
 have HE:=hid E
 have HA:=hid hA
 have HLt:=hid hL
 have HTt:=hid hT
 have HSt:=hid hS
 have Hty:=hid hty
 clear hc hd E hA hL hT hty hS
 refine callsIn_of_wp_marks Tryz.func56 rfl trivial ?_ rfl
 simp only[Tryz.ntmps56,List.size_toArray,List.length_cons,List.length_nil,Nat.reduceAdd,Nat.reduceSub,Array.replicate_succ,Array.replicate_zero,List.push_toArray,List.append_toArray,List.nil_append,List.cons_append]
 gi_wp2_with fail
 obtain⟨W3,hW3⟩:∃ W3,(((w.alloc (.cells #[.string r.head.rel,.slice o0 r.head.l.length k0,.slice o1 r.body.length k1,.int .i64 r.line] 37)).alloc (.cells #[.map none] 87)).alloc (.cells #[.nilIface] 62))=W3:=⟨_,rfl⟩
 have hs3:W3.heap.size=n0+3:=by rw[← hW3];simp;omega
 have hb3:Below n0 w W3:=by
  rw[← hW3]
  exact (((Below.refl n0 w).alloc (by omega) _).alloc (by simp;omega) _).alloc (by simp;omega) _
 have rr3:W3.heap[n0]?=some (.cells #[.string r.head.rel,.slice o0 r.head.l.length k0,.slice o1 r.body.length k1,.int .i64 r.line] 37 (0,0)):=by
  rw[← hW3]
  refine (Below.heap_alloc _ _ _ (by simp;omega)).trans ((Below.heap_alloc _ _ _ (by simp;omega)).trans ?_)
  have:=World.alloc_heap_new w (.cells #[.string r.head.rel,.slice o0 r.head.l.length k0,.slice o1 r.body.length k1,.int .i64 r.line] 37)
  rwa [hn0] at this
 have bm3:Boxed W3 (n0+1) 87 (.map none):=by
  have:=(Boxed.new (w.alloc (.cells #[.string r.head.rel,.slice o0 r.head.l.length k0,.slice o1 r.body.length k1,.int .i64 r.line] 37)) 87 (.map none)).alloc (.cells #[.nilIface] 62)
  rw[hW3] at this
  simpa[hn0] using this
 have be3:Boxed W3 (n0+1+1) 62 .nilIface:=by
  have:=Boxed.new ((w.alloc (.cells #[.string r.head.rel,.slice o0 r.head.l.length k0,.slice o1 r.body.length k1,.int .i64 r.line] 37)).alloc (.cells #[.map none] 87)) 62 .nilIface
  rw[hW3] at this
  simpa[hn0] using this
 rw[hW3]
 clear hW3
 have H1:=hid (checkAtoms_c ds v r _ n0 a b' c d W3 (SlOf.decl HD.out hb3 (Nat.le_refl _)) (HC.out.below hb3) (by omega) (HE.out.below hb3))
 refine⟨trivial,(callsIn_wide.2 H1.out).mono ?_⟩
 rintro e w1 ⟨rfl,b1⟩
 have B1:Below n0 w w1:=hb3.trans (b1.mono (by omega))
 have bm1:Boxed w1 (n0+1) 87 (.map none):=(b1.block _ (by omega)).trans bm3
 have be1:Boxed w1 (n0+1+1) 62 .nilIface:=(b1.block _ (by omega)).trans be3
 have rr1:w1.heap[n0]?=some (.cells #[.string r.head.rel,.slice o0 r.head.l.length k0,.slice o1 r.body.length k1,.int .i64 r.line] 37 (0,0)):=(b1.block _ (by omega)).trans rr3
 have hs1:=b1.size
 have Hbm:=hid bm1
 have Hbe:=hid be1
 have Hrr:=hid rr1
 have HB1:=hid B1
 clear b1 B1 hb3 bm3 be3 rr3 H1
 by_cases hk:chkA ds (atomsR r)=0
 ·rw[hk]
  have hbad:=chkA_zero hk
  have Hk:=hid hk
  have hG:∀ t ∈ atomsR r,GA ds V t:=fun t ht=>⟨hbad t ht,HA.out t ht⟩
  have HG:=hid hG
  have s0:w1.cell? ⟨n0,0,none⟩=some (.string r.head.rel):=by unfold World.cell?;rw[rr1];rfl
  have s1:w1.cell? ⟨n0,1,none⟩=some (.slice o0 r.head.l.length k0):=by unfold World.cell?;rw[rr1];rfl
  have s2:w1.cell? ⟨n0,2,none⟩=some (.slice o1 r.body.length k1):=by unfold World.cell?;rw[rr1];rfl
  have s3:w1.cell? ⟨n0,3,none⟩=some (.int .i64 r.line):=by unfold World.cell?;rw[rr1];rfl
  have hl0:n0 < w1.heap.size:=by omega
  clear hk hbad hG bm1 be1 rr1
  unfold badV
  gi_wp2_with fail
  obtain⟨m,hm⟩:∃ m,w1.heap.size=m:=⟨_,rfl⟩
  obtain⟨W5,hW5⟩:∃ W5,((w1.alloc (.map #[] 0)).alloc (.cells #[.map (some w1.heap.size)] 87))=W5:=⟨_,rfl⟩
  have hs5:W5.heap.size=m+2:=by rw[← hW5];simp;omega
  have hb5:Below w1.heap.size w1 W5:=by rw[← hW5];exact ((Below.refl _ _).alloc (Nat.le_refl _) _).alloc (by simp) _
  have M5:KnM V W5 m []:=⟨by
   have:=(mapI_made Tryz.prog w1 9 3).alloc (.cells #[.map (some w1.heap.size)] 87)
   rw[hW5,hm] at this
   exact this,⟨fun _ h=>(by cases h),List.nodup_nil⟩,fun _ h=>(by cases h),fun _ h=>(by cases h)⟩
  have bk5:Boxed W5 (m+1) 87 (.map (some m)):=by
   have:=Boxed.new (w1.alloc (.map #[] 0)) 87 (.map (some w1.heap.size))
   rw[hW5] at this
   simpa[hm] using this
  have HB5:=hid (HB1.out.trans (hb5.mono (by omega)))
  have HP:=hid (places_c ds v r _ m n0 V hV [] a b' c d W5 (SlOf.decl HD.out HB5.out (Nat.le_refl _)) (HC.out.below HB5.out) (by omega) M5 HG.out HLt.out HTt.out Hty.out (HE.out.below HB5.out))
  have Hbk:=hid bk5
  have hm3:n0+3≤m:=by omega
  have Hb5:=hid hb5
  rw[hW5,hm]
  refine⟨trivial,(callsIn_wide.2 HP.out).mono ?_⟩
  rintro e w2 hR
  clear hW5 M5 bk5 hb5 s0 s1 s2 s3
  cases hl:learnL [] (baseL ds r) with
  | none=>
   rw[hl] at hR
   cases hR with
   | bad hg=>
   have B2:Hid (Below n0 w w2):=hid (HB5.out.trans (gBelow hg (by omega) (by omega)))
   have gm:∀ q,q < n0+3→w2.heap[q]?=w1.heap[q]?:=fun q hq=>(hg.block q (by omega) (fun e=>by have:=Option.some.inj e;omega)).trans (Hb5.out.block q (by omega))
   have bm2:Boxed w2 (n0+1) 87 (.map none):=(gm _ (by omega)).trans Hbm.out
   have be2:Boxed w2 (n0+1+1) 62 .nilIface:=(gm _ (by omega)).trans Hbe.out
   have Hl:=hid hl
   have Hbm2:=hid bm2
   have Hbe2:=hid be2
   have c1:=bm2.cell
   have f1:=bm2.frozen
   have c2:=be2.cell
   have f2:=be2.frozen
   have z2:=be2.lt
   clear hl hg gm bm2 be2
   unfold errV
   gi_wp2
   obtain⟨x1,x2⟩:=set2 (.map none) (errV a) Hbm2.out Hbe2.out (by omega)
   refine⟨_,results_cell2 rfl _ _ (n0+1) (n0+1+1) _ _ rfl (loadVar_types x1.cell) rfl (loadVar_err x2.cell),?_⟩
   exact .place Hk.out Hl.out ((B2.out.setCell (p:=⟨n0+1,0,none⟩) (by show n0≤n0+1;omega) _).setCell (p:=⟨n0+1+1,0,none⟩) (by show n0≤n0+1+1;omega) _)
  | some K0=>
   rw[hl] at hR
   cases hR with
   | good hmK hg=>
   have gm:∀ q,q < n0+3→w2.heap[q]?=w1.heap[q]?:=fun q hq=>(hg.block q (by omega) (fun e=>by have:=Option.some.inj e;omega)).trans (Hb5.out.block q (by omega))
   have rr2:w2.heap[n0]?=some (.cells #[.string r.head.rel,.slice o0 r.head.l.length k0,.slice o1 r.body.length k1,.int .i64 r.line] 37 (0,0)):=(gm _ (by omega)).trans Hrr.out
   have bk2:Boxed w2 (m+1) 87 (.map (some m)):=(hg.block _ (by omega) (fun e=>by have:=Option.some.inj e;omega)).trans Hbk.out
   have hs2:=hg.size
   have B2:Hid (Below n0 w w2):=hid (HB5.out.trans (gBelow hg (by omega) (by omega)))
   have HO:=hid (eachOther_c r _ m n0 V hV K0 a b' c d w2 (HC.out.below B2.out) (by omega) hmK HLt.out (HE.out.below B2.out))
   have s0:w2.cell? ⟨n0,0,none⟩=some (.string r.head.rel):=by unfold World.cell?;rw[rr2];rfl
   have s1:w2.cell? ⟨n0,1,none⟩=some (.slice o0 r.head.l.length k0):=by unfold World.cell?;rw[rr2];rfl
   have s2:w2.cell? ⟨n0,2,none⟩=some (.slice o1 r.body.length k1):=by unfold World.cell?;rw[rr2];rfl
   have s3:w2.cell? ⟨n0,3,none⟩=some (.int .i64 r.line):=by unfold World.cell?;rw[rr2];rfl
   have s4:=bk2.cell
   have hl4:n0 < w2.heap.size:=by omega
   have hl5:m+1 < w2.heap.size:=by omega
   have Hl:=hid hl
   have Hgm:=hid gm
   have Hrr2:=hid rr2
   have Hbk2:=hid bk2
   have HmK:=hid hmK
   clear hl hg gm rr2 bk2 hmK
   gi_wp2_with fail
   refine⟨trivial,(callsIn_wide.2 HO.out).mono ?_⟩
   rintro e w3 ⟨rr,hRo,hR⟩
   cases hR with
   | bad hg=>
    have B3:Hid (Below n0 w w3):=hid (B2.out.trans (gBelow hg (by omega) (by omega)))
    have gm:∀ q,q < n0+3→w3.heap[q]?=w1.heap[q]?:=fun q hq=>(hg.block q (by omega) (fun e=>by have:=Option.some.inj e;omega)).trans (Hgm.out q hq)
    have bm2:Boxed w3 (n0+1) 87 (.map none):=(gm _ (by omega)).trans Hbm.out
    have be2:Boxed w3 (n0+1+1) 62 .nilIface:=(gm _ (by omega)).trans Hbe.out
    have HRo:=hid hRo
    have Hbm2:=hid bm2
    have Hbe2:=hid be2
    have c1:=bm2.cell
    have f1:=bm2.frozen
    have c2:=be2.cell
    have f2:=be2.frozen
    have z2:=be2.lt
    clear hRo hg gm bm2 be2 s0 s1 s2 s3 s4
    unfold errV
    gi_wp2
    obtain⟨x1,x2⟩:=set2 (.map none) (errV a) Hbm2.out Hbe2.out (by omega)
    refine⟨_,results_cell2 rfl _ _ (n0+1) (n0+1+1) _ _ rfl (loadVar_types x1.cell) rfl (loadVar_err x2.cell),?_⟩
    exact .other Hk.out Hl.out HRo.out ((B3.out.setCell (p:=⟨n0+1,0,none⟩) (by show n0≤n0+1;omega) _).setCell (p:=⟨n0+1+1,0,none⟩) (by show n0≤n0+1+1;omega) _)
   | @good K1 _ hm3K hg=>
    clear s0 s1 s2 s3 s4
    have rr3:w3.heap[n0]?=some (.cells #[.string r.head.rel,.slice o0 r.head.l.length k0,.slice o1 r.body.length k1,.int .i64 r.line] 37 (0,0)):=(hg.block _ (by omega) (fun e=>by have:=Option.some.inj e;omega)).trans Hrr2.out
    have bk3:Boxed w3 (m+1) 87 (.map (some m)):=(hg.block _ (by omega) (fun e=>by have:=Option.some.inj e;omega)).trans Hbk2.out
    have hs3w:=hg.size
    have B3:Hid (Below n0 w w3):=hid (B2.out.trans (gBelow hg (by omega) (by omega)))
    have s0:w3.cell? ⟨n0,0,none⟩=some (.string r.head.rel):=by unfold World.cell?;rw[rr3];rfl
    have s1:w3.cell? ⟨n0,1,none⟩=some (.slice o0 r.head.l.length k0):=by unfold World.cell?;rw[rr3];rfl
    have s2:w3.cell? ⟨n0,2,none⟩=some (.slice o1 r.body.length k1):=by unfold World.cell?;rw[rr3];rfl
    have s3:w3.cell? ⟨n0,3,none⟩=some (.int .i64 r.line):=by unfold World.cell?;rw[rr3];rfl
    have hl6:n0 < w3.heap.size:=by omega
    have gm:∀ q,q < n0+3→w3.heap[q]?=w1.heap[q]?:=fun q hq=>(hg.block q (by omega) (fun e=>by have:=Option.some.inj e;omega)).trans (Hgm.out q hq)
    have bm3:Boxed w3 (n0+1) 87 (.map none):=(gm _ (by omega)).trans Hbm.out
    have be3:Boxed w3 (n0+1+1) 62 .nilIface:=(gm _ (by omega)).trans Hbe.out
    have HRo:=hid hRo
    clear hRo hg gm rr3
    gi_wp2_with fail
    have HY2:=hid (yeach_in 5 r _ w3 ((HC.out.below B3.out).more (by omega)))
    refine⟨trivial,HY2.out.mono ?_⟩
    rintro e W6 ⟨rfl,hW6⟩
    gi_wp2_with fail
    rw[← hW6]
    have hs6:W6.heap.size=w3.heap.size+1:=by rw[hW6];simp
    have hb6:Below w3.heap.size w3 W6:=by rw[hW6];exact (Below.refl _ _).alloc (Nat.le_refl _) _
    have row6:W6.heap[w3.heap.size]?=some (.cells #[.string r.head.rel,.slice o0 r.head.l.length k0,.slice o1 r.body.length k1,.int .i64 r.line] 37 (0,0)):=by rw[hW6];exact World.alloc_heap_new w3 _
    have hB6:CellsAt W6 ⟨w3.heap.size,0,none⟩ 0 [.string r.head.rel,.slice o0 r.head.l.length k0,.slice o1 r.body.length k1,.int .i64 r.line]:=fun j c hj=>by
     rw[Nat.zero_add]
     exact World.news_of_block row6 j c (by simpa using hj)
    have hb06:Below n0 w W6:=B3.out.trans (hb6.mono (by omega))
    have hc6:=HC.out.below hb06
    have safe6:Safe (fun _ _=>False) W6 W6:=fun p c hp=>⟨hp,World.block_lt_of_cell? _ _ hp,id⟩
    have M6:KnM V W6 m K1:=hm3K.below hb6 hm3K.lt
    have bk6:Boxed W6 (m+1) 87 (.map (some m)):=(hb6.block _ (by omega)).trans bk3
    have bm6:Boxed W6 (n0+1) 87 (.map none):=(hb6.block _ (by omega)).trans bm3
    have be6:Boxed W6 (n0+1+1) 62 .nilIface:=(hb6.block _ (by omega)).trans be3
    clear hW6 s0 s1 s2 s3 HY2 bk3 bm3 be3 hm3K
    refine wpIn_rangeFunc_ownH rfl (by omega) (gf:=127) (lb:=#[.pointer (some ⟨w3.heap.size,0,none⟩)]) rfl trivial (enters_of Tryz.func127 (by kernel_rfl) rfl)
     (yeach_stops 5 w3.heap.size n0 r [.string r.head.rel,.slice o0 r.head.l.length k0,.slice o1 r.body.length k1,.int .i64 r.line] W6 W6 (fun _ _=>False) (fun _ _ _ _ _ h=>h) safe6 (fun _ h=>h.elim) hB6 hc6 (G:=fun t=>t.s.size≤maxLen) HSt.out) (fun h k=>h.trans k) ?hKb (Below.refl _ _) (fun _=>rfl)
     (fun pre W=>(∀ x ∈ pre,x.t.op=1→look K1 (nm x.t)≠0)∧Below W6.heap.size W6 W)
     (fun cd pre W=>(cd=.ret∧(∃ x ∈ pre,x.t.op=1∧look K1 (nm x.t)=0)∧Boxed W (n0+1) 87 (.map none)∧Boxed W (n0+1+1) 62 (errV a))∧Below n0 w W) ?hI ?hIx ⟨by simp,Below.refl _ _⟩
     (fun x a' W=>∃ Bx,W.heap[Bx]?=some (.cells x.cs.toArray 51 (0,0))∧w3.heap.size+1≤Bx∧a'={ tmps:=#[v,.agg #[.string r.head.rel,.slice o0 r.head.l.length k0,.slice o1 r.body.length k1,.int .i64 r.line],undef,.pointer (some ⟨n0,0,none⟩),.pointer (some ⟨n0+1,0,none⟩),.pointer (some ⟨n0+1+1,0,none⟩),.nilIface,.pointer (some ⟨m+1,0,none⟩),.nilIface,.nilIface,.pointer (some ⟨Bx,0,none⟩),v,.agg #[.string r.head.rel,.slice o0 r.head.l.length k0,.slice o1 r.body.length k1,.int .i64 r.line],.nilIface,.nilIface,.bool false,undef,.map (some m),.map (some m),v,.agg #[.string r.head.rel,.slice o0 r.head.l.length k0,.slice o1 r.body.length k1,.int .i64 r.line],.nilIface,.nilIface,.bool false,undef,.map (some m),.agg #[.string r.head.rel,.slice o0 r.head.l.length k0,.slice o1 r.body.length k1,.int .i64 r.line],.nilIface,.nilIface,.bool false,undef,.agg #[.string r.head.rel,.slice o0 r.head.l.length k0,.slice o1 r.body.length k1,.int .i64 r.line],.func (.func 127) #[] #[.pointer (some ⟨w3.heap.size,0,none⟩)],.agg x.cs.toArray,undef,undef,undef,undef,undef,undef,undef,undef,undef,undef,undef,undef],defers:=[] })
     ?hAx ?assign ?body ?done ?stop
    case hKb=>
     intro W l o o' hl ho hc _
     exact⟨by simp,fun i x hi hx _=>(World.putObj_heap_other (by rintro rfl;rw[ho] at hi;cases hi;rw[hc] at hx;cases hx)).trans hi,fun _ h=>h.elim,fun _ _ h=>h.elim⟩
    case hI=>
     rintro pre A B1 row ⟨h1,h2⟩ hg hr
     exact⟨h1,ownFrom_below (β:=Unit) (Nat.le_refl _) (Nat.le_refl _) () A B1 row h2 hg hr⟩
    case hIx=>
     rintro cd pre A B1 row ⟨⟨h0,h1,h2,h3⟩,h4⟩ hg hr
     exact⟨⟨h0,h1,boxed_own (n0+1) 87 (fun (_:Unit)=>.map none) () A B1 row h2 hg (fun r e=>(hr r e).2),boxed_own (n0+1+1) 62 (fun (_:Unit)=>errV a) () A B1 row h3 hg (fun r e=>(hr r e).2)⟩,ownFrom_below (β:=Unit) (by omega) (by omega) () A B1 row h4 hg hr⟩
    case hAx=>
     rintro x a' _ A B1 row ⟨Bx,h1,h2,h3⟩ hg hr
     refine⟨Bx,(hg.block Bx (Array.getElem?_eq_some_iff.1 h1).1 (fun e=>?_)).trans h1,h2,h3⟩
     obtain⟨_,o',ho',hc'⟩:=hr _ e.symm
     rw[h1] at ho'
     cases ho'
     cases hc'
    case assign=>
     rintro lp pre ⟨t',cs',ok',gd'⟩ W K1' ⟨h1,h2⟩ hK
     obtain⟨p',q',rfl,_⟩:=ok'.look
     have hb1:=(Below.refl W.heap.size W).alloc (Nat.le_refl _) (.cells #[.int .i64 t'.op,.string t'.s,.int .i64 t'.n,.slice p' t'.l.length q'] 51)
     have hko:KO (fun _ _=>False) W (W.alloc (.cells #[.int .i64 t'.op,.string t'.s,.int .i64 t'.n,.slice p' t'.l.length q'] 51)):=KO.of_below (fun _ _ _ _ _ h=>h) (fun _ h=>h.elim) hb1
     have HK:=hid (hK _ _ ((KeepsOthers.alloc W _).from _) hko ⟨h1,h2.trans (hb1.mono h2.size)⟩ ⟨W.heap.size,World.alloc_heap_new W _,by have:=h2.size;omega,rfl⟩)
     clear hK h1 h2 hb1 hko
     simp only[Ne.enc]
     gi_wp2
     exact HK.out
    case body=>
     rintro lp pre ⟨t',cs',ok',gd'⟩ a' W hlp hrec ⟨h1,h2⟩ ⟨Bx,hrow,hBx,rfl⟩ hlen2
     obtain⟨p',q',rfl,_⟩:=ok'.look
     have e0:W.cell? ⟨Bx,0,none⟩=some (.int .i64 t'.op):=by unfold World.cell?;rw[hrow];rfl
     have e1:W.cell? ⟨Bx,1,none⟩=some (.string t'.s):=by unfold World.cell?;rw[hrow];rfl
     have hBl:Bx < W.heap.size:=(Array.getElem?_eq_some_iff.1 hrow).1
     have hWs:=h2.size
     have hkW:=Boxed.cell (show Boxed W (m+1) 87 (.map (some m)) from (h2.block _ (by omega)).trans bk6)
     have hkl:m+1 < W.heap.size:=by omega
     have zE:∀ w:World,(zeroValue 3).run Tryz.prog w=.ok (.int .i64 0) w:=fun w=>by kernel_rfl
     have Hm:=hid (M6.below h2 (by omega):KnM V W m K1)
     have hrun:=mapI_run Hm.out.map 87 Tryz.underlying87 Tryz.underlying9 Tryz.underlying3 (zE _) t'.s gd'
     have bmW:Boxed W (n0+1) 87 (.map none):=(h2.block _ (by omega)).trans bm6
     have beW:Boxed W (n0+1+1) 62 .nilIface:=(h2.block _ (by omega)).trans be6
     have hbW:Below n0 w W:=hb06.trans (h2.mono (by omega))
     have hgt:=(HE.out.below hbW).ty
     have H1':=hid h1
     have H2':=hid h2
     have HbW:=hid hbW
     have HbmW:=hid bmW
     have HbeW:=hid beW
     have fin:Hid ((t'.op=1→look K1 (nm t')≠0)→∀ x ∈ pre++[(⟨t',_,ok',gd'⟩:Ne W6 n0 (fun t=>t.s.size≤maxLen))],x.t.op=1→look K1 (nm x.t)≠0):=hid fun h x hx=>(List.mem_append.1 hx).elim (H1'.out x) (fun hx=>by rw[List.mem_singleton.1 hx];exact h)
     clear h1 h2 hrow bmW beW hbW
     by_cases hop:t'.op=1
     ·by_cases hz:look K1 t'.s.data.toList=0
      ·have hz':(look K1 t'.s.data.toList == 0)=true:=by simpa using hz
       have Hz:=hid hz
       have Hop:=hid hop
       clear hz
       have c1:=HbmW.out.cell
       have f1:=HbmW.out.frozen
       have c2:=HbeW.out.cell
       have f2:=HbeW.out.frozen
       have z2:=HbeW.out.lt
       have hx2:=set2 (.map none) (errV a) HbmW.out HbeW.out (by omega)
       have Hx2:=hid hx2
       have hn1:¬ 4=n0+1:=by have:=HE.out.big;omega
       have hn2:¬ 4=n0+1+1:=by have:=HE.out.big;omega
       simp at hn1 hn2
       unfold errV at hgt
       clear hx2
       gi_wp2_with fail
       refine any_region (by kernel_rfl) (by kernel_rfl) (fun ⟨_,_,h⟩=>h) ?_
       (try (change wpAny _ _ _ _ _ _ _ (World.drew _)))
       refine wpAny_ready (rs:=[0,1]) (by kernel_rfl) (by simp) ?_
       refine (AllReady.cons rfl (fun K hK=>?_) (AllReady.cons rfl (fun K hK=>?_) AllReady.nil))
       ·go_simp
        refine hK _ _ ?_
        clear hK K
        refine wpAny_ready (rs:=[1]) (by kernel_rfl) (by simp) ?_
        refine AllReady.cons rfl (fun K hK=>?_) AllReady.nil
        go_simp
        refine hK _ _ ?_
        clear hK K
        refine wpAny_ready (rs:=[2]) (by kernel_rfl) (by simp) ?_
        refine AllReady.cons rfl (fun K hK=>?_) AllReady.nil
        go_simp
        refine hK _ _ ?_
        clear hK K
        refine (wpAny_done (by kernel_rfl) ?_) _
        gi_wp2
        have kf:=((KeepsOthers.setCell W ⟨n0+1,0,none⟩ (.map none)).trans (KeepsOthers.setCell _ ⟨n0+1+1,0,none⟩ (errV a))).from W6.heap.size
        have bf:=(HbW.out.setCell (p:=⟨n0+1,0,none⟩) (by show n0≤n0+1;omega) (.map none)).setCell (p:=⟨n0+1+1,0,none⟩) (by show n0≤n0+1+1;omega) (errV a)
        exact⟨⟨kf.size,kf.same⟩,⟨rfl,⟨⟨t',_,ok',gd'⟩,List.mem_append_right _ (List.mem_cons_self ..),Hop.out,Hz.out⟩,Hx2.out.1,Hx2.out.2⟩,⟨bf.os,bf.tape,bf.output,bf.size,bf.block⟩⟩
       ·go_simp
        refine hK _ _ ?_
        clear hK K
        refine wpAny_ready (rs:=[0]) (by kernel_rfl) (by simp) ?_
        refine AllReady.cons rfl (fun K hK=>?_) AllReady.nil
        go_simp
        refine hK _ _ ?_
        clear hK K
        refine wpAny_ready (rs:=[2]) (by kernel_rfl) (by simp) ?_
        refine AllReady.cons rfl (fun K hK=>?_) AllReady.nil
        go_simp
        refine hK _ _ ?_
        clear hK K
        refine (wpAny_done (by kernel_rfl) ?_) _
        gi_wp2
        have kf:=((KeepsOthers.setCell W ⟨n0+1,0,none⟩ (.map none)).trans (KeepsOthers.setCell _ ⟨n0+1+1,0,none⟩ (errV a))).from W6.heap.size
        have bf:=(HbW.out.setCell (p:=⟨n0+1,0,none⟩) (by show n0≤n0+1;omega) (.map none)).setCell (p:=⟨n0+1+1,0,none⟩) (by show n0≤n0+1+1;omega) (errV a)
        exact⟨⟨kf.size,kf.same⟩,⟨rfl,⟨⟨t',_,ok',gd'⟩,List.mem_append_right _ (List.mem_cons_self ..),Hop.out,Hz.out⟩,Hx2.out.1,Hx2.out.2⟩,⟨bf.os,bf.tape,bf.output,bf.size,bf.block⟩⟩
      ·have hz':(look K1 t'.s.data.toList == 0)=false:=by simpa using hz
       have Hz:=hid hz
       have Hop:=hid hop
       clear hz
       gi_wp2
       exact⟨KeepsFrom.refl _ _,KO.refl _ _,fin.out (fun _=>Hz.out),H2'.out⟩
     ·have Hop:=hid hop
      have hne:(t'.op == 1)=false:=by simpa using hop
      gi_wp2
      exact⟨KeepsFrom.refl _ _,KO.refl _ _,fin.out (fun h=>absurd h Hop.out),H2'.out⟩
    case done=>
     rintro D ys W hD hys ⟨h1,h2⟩ hK
     have hall:∀ t ∈ termsR r,t.op=1→look K1 (nm t)≠0:=fun t ht=>by
      rw[← hys] at ht
      obtain⟨y,hy,rfl⟩:=List.mem_map.1 ht
      exact h1 y hy
     have hWs:=h2.size
     have hkW:=Boxed.cell (show Boxed W (m+1) 87 (.map (some m)) from (h2.block _ (by omega)).trans bk6)
     have hkl:m+1 < W.heap.size:=by omega
     have bmW:Boxed W (n0+1) 87 (.map none):=(h2.block _ (by omega)).trans bm6
     have beW:Boxed W (n0+1+1) 62 .nilIface:=(h2.block _ (by omega)).trans be6
     have hbW:Below n0 w W:=hb06.trans (h2.mono (by omega))
     have hMW:KnM V W m K1:=M6.below h2 (by omega)
     have c1:=bmW.cell
     have f1:=bmW.frozen
     have c2:=beW.cell
     have f2:=beW.frozen
     have z2:=beW.lt
     have Hall:=hid hall
     have Hd:=hid hK
     have Hbm':=hid bmW
     have Hbe':=hid beW
     have HbW:=hid hbW
     have HMW:=hid hMW
     clear h1 h2 hK hys hall bmW beW hbW hMW
     gi_wp2
     obtain⟨x1,x2⟩:=set2 (.map (some m)) .nilIface Hbm'.out Hbe'.out (by omega)
     have hd3:((W.setCell ⟨n0+1,0,none⟩ (.map (some m))).setCell ⟨n0+1+1,0,none⟩ .nilIface).heap[D]?=some (.deferred (some [])):=(Below.heap_setCell _ ⟨n0+1+1,0,none⟩ _ D (by show D≠n0+1+1;omega)).trans ((Below.heap_setCell W ⟨n0+1,0,none⟩ _ D (by show D≠n0+1;omega)).trans Hd.out)
     refine⟨by simp,.inl ⟨_,_,rfl,run_takeDeferred hd3,?_⟩⟩
     have y1:Boxed (((W.setCell ⟨n0+1,0,none⟩ (.map (some m))).setCell ⟨n0+1+1,0,none⟩ .nilIface).putObj D (.deferred none)) (n0+1) 87 (.map (some m)):=(World.putObj_heap_other (by omega)).trans x1
     have y2:Boxed (((W.setCell ⟨n0+1,0,none⟩ (.map (some m))).setCell ⟨n0+1+1,0,none⟩ .nilIface).putObj D (.deferred none)) (n0+1+1) 62 .nilIface:=(World.putObj_heap_other (by omega)).trans x2
     refine⟨_,results_cell2 rfl _ _ (n0+1) (n0+1+1) _ _ rfl (loadVar_types y1.cell) rfl (loadVar_err y2.cell),?_⟩
     have B6:=(HbW.out.setCell (p:=⟨n0+1,0,none⟩) (by show n0≤n0+1;omega) (.map (some m))).setCell (p:=⟨n0+1+1,0,none⟩) (by show n0≤n0+1+1;omega) .nilIface
     refine .good Hk.out Hl.out HRo.out Hall.out (by omega) (HMW.out.same ?_) ⟨B6.os,B6.tape,B6.output,by have:=B6.size;simpa using this,fun q hq=>(World.putObj_heap_other (by omega)).trans (B6.block q hq)⟩
     exact (World.putObj_heap_other (by omega)).trans ((Below.heap_setCell _ ⟨n0+1+1,0,none⟩ _ m (by show m≠n0+1+1;omega)).trans (Below.heap_setCell W ⟨n0+1,0,none⟩ _ m (by show m≠n0+1;omega)))
    case stop=>
     rintro D cd pre W hD ⟨r1,hr1⟩ ⟨⟨rfl,⟨x,hx,hx1,hx2⟩,b1,b2⟩,h5⟩ hK
     have hbad:∃ t ∈ termsR r,t.op=1∧look K1 (nm t)=0:=⟨x.t,by rw[← hr1];exact List.mem_append_left _ (List.mem_map.2 ⟨x,hx,rfl⟩),hx1,hx2⟩
     have Hbad:=hid hbad
     have Hd:=hid hK
     have H5:=hid h5
     have Hb1:=hid b1
     have Hb2:=hid b2
     clear h5 hK b1 b2 hbad hr1 hx hx1 hx2
     gi_wp2
     refine⟨by simp,.inl ⟨_,_,rfl,run_takeDeferred Hd.out,?_⟩⟩
     have y1:Boxed (W.putObj D (.deferred none)) (n0+1) 87 (.map none):=(World.putObj_heap_other (by omega)).trans Hb1.out
     have y2:Boxed (W.putObj D (.deferred none)) (n0+1+1) 62 (errV a):=(World.putObj_heap_other (by omega)).trans Hb2.out
     refine⟨_,results_cell2 rfl _ _ (n0+1) (n0+1+1) _ _ rfl (loadVar_types y1.cell) rfl (loadVar_err y2.cell),?_⟩
     have B6:=H5.out
     exact .left Hk.out Hl.out HRo.out Hbad.out ⟨B6.os,B6.tape,B6.output,by have:=B6.size;simpa using this,fun q hq=>(World.putObj_heap_other (by omega)).trans (B6.block q hq)⟩
 ·have hbv:∃ p,badV c d (chkA ds (atomsR r))=.iface 191 (.pointer (some p)):=by
   cases h:chkA ds (atomsR r) with
   | zero=>exact absurd h hk
   | succ m=>cases m with
    | zero=>exact⟨c,rfl⟩
    | succ m=>exact⟨d,rfl⟩
  obtain⟨p,hp⟩:=hbv
  have c1:=bm1.cell
  have f1:=bm1.frozen
  have c2:=be1.cell
  have f2:=be1.frozen
  have Hk:=hid hk
  have Hp:=hid hp
  rw[hp]
  clear hk hp bm1 be1 rr1
  gi_wp2
  obtain⟨x1,x2⟩:=set2 (.map none) (.iface 191 (.pointer (some p))) Hbm.out Hbe.out (by omega)
  refine⟨_,results_cell2 rfl _ _ (n0+1) (n0+1+1) _ _ rfl (loadVar_types x1.cell) rfl (loadVar_err x2.cell),?_⟩
  rw[← Hp.out]
  exact .atom Hk.out ((HB1.out.setCell (p:=⟨n0+1,0,none⟩) (by show n0≤n0+1;omega) _).setCell (p:=⟨n0+1+1,0,none⟩) (by show n0≤n0+1+1;omega) _)
theorem typesOf_c (ds:List De) (v:Value) (r:Ru) (cs:List Value) (V:List (List UInt8)) (hV:V.length≤1000000) (a b' c d:Addr) (n0:Nat) (w:World) (hn0:w.heap.size=n0) (hd:SlOf w n0 6 (DeC w n0) ds v) (hc:RuC w n0 r cs)
  (hA:∀ t ∈ atomsR r,∀ u ∈ t.l,u.op=1→nm u ∈ V) (hL:∀ l ∈ r.body,(l.x.op=1→nm l.x ∈ V)∧(l.y.op=1→nm l.y ∈ V)) (hT:∀ t ∈ termsR r,GT V t) (hS:∀ t ∈ termsR r,t.s.size≤maxLen) (hty:∀ e ∈ ds,∀ k ∈ e.types,k=1∨k=2) (E:YEnv n0 a b' c d w) :
  Calls Tryz.prog 56 #[v,.agg cs.toArray] w (TypR V n0 w a c d ds r):=callsIn_wide.1 (typesOf_in ds v r cs V hV a b' c d n0 w hn0 hd hc hA hL hT hS hty E)
end Go.Proofs.YtfmldnbcjbflbaaGreatDoor
namespace Go.Proofs.YtfmldnbcjbflbaaGreatDoor
open Lib(hid)
open Go.RowKit
theorem atomsL_mem {t:Am}:∀ {l:List Lt},t ∈ atomsL l→∃ x ∈ l,x.a=t
 | x::l,h=>by
  unfold atomsL at h
  split at h
  ·obtain⟨y,hy,e⟩:=atomsL_mem h
   exact⟨y,List.mem_cons_of_mem _ hy,e⟩
  ·rcases List.mem_cons.1 h with rfl | h
   ·exact⟨x,List.mem_cons_self ..,rfl⟩
   ·obtain⟨y,hy,e⟩:=atomsL_mem h
    exact⟨y,List.mem_cons_of_mem _ hy,e⟩
theorem terms_atom {r:Ru} {t:Am} (ht:t ∈ atomsR r) {u:Tm} (hu:u ∈ t.l):u ∈ termsR r:=by
 rcases List.mem_cons.1 ht with rfl | ht
 ·exact List.mem_append_left _ (sub_mem hu)
 ·obtain⟨l,hl,rfl⟩:=atomsL_mem ht
  exact lit_terms hl (List.mem_append_right _ (sub_mem hu))
theorem typesOf_all (ds:List De) (v:Value) (r:Ru) (cs:List Value) (a b' c d:Addr) (n0:Nat) (w:World) (hn0:w.heap.size=n0) (hd:SlOf w n0 6 (DeC w n0) ds v) (hc:RuC w n0 r cs)
  (hlen:(termsR r).length≤1000000) (hS:∀ t ∈ termsR r,t.s.size≤maxLen) (hty:∀ e ∈ ds,∀ k ∈ e.types,k=1∨k=2) (E:YEnv n0 a b' c d w) :
  Calls Tryz.prog 56 #[v,.agg cs.toArray] w (TypR ((termsR r).map nm) n0 w a c d ds r):=
 typesOf_c ds v r cs _ (by rw[List.length_map];exact hlen) a b' c d n0 w hn0 hd hc (fun _ ht _ hu _=>List.mem_map.2 ⟨_,terms_atom ht hu,rfl⟩)
  (fun _ hl=>⟨fun _=>List.mem_map.2 ⟨_,(terms_xy hl).1,rfl⟩,fun _=>List.mem_map.2 ⟨_,(terms_xy hl).2,rfl⟩⟩) (fun _ ht _ hu _=>List.mem_map.2 ⟨_,terms_child ht hu,rfl⟩) hS hty E
end Go.Proofs.YtfmldnbcjbflbaaGreatDoor
namespace Go.Proofs.YtfmldnbcjbflbaaGreatDoor
open Lib(hid)
open Go.RowKit
theorem nodup_varsV (ts:List Tm):(varsV ts).Nodup:=by
 refine rev_ind (P:=fun ts=>(varsV ts).Nodup) List.nodup_nil (fun l t ih=>?_) ts
 rw[varsV_snoc]
 unfold stepV
 by_cases h:t.op=1∧cntV l (nm t)=0
 ·rw[if_pos h]
  refine List.nodup_append.2 ⟨ih,by simp,?_⟩
  rintro a ha b hb rfl
  rw[List.mem_singleton] at hb
  subst hb
  obtain⟨u,h1,h2,h3⟩:=(mem_varsV l _).1 ha
  exact cntV_zero.1 h.2 u h1 h2 (by unfold nm;rw[h3])
 ·rw[if_neg h];exact ih
theorem chkA_iff {ds:List De} {l:List Am}:chkA ds l=0 ↔ ∀ t ∈ l,badA ds t=0:=by
 refine⟨fun h=>?_,chkA_all⟩
 induction l with
 | nil=>intro t ht;cases ht
 | cons x l ih=>
  unfold chkA at h
  by_cases hx:badA ds x=0
  ·rw[if_pos hx] at h
   intro t ht
   rcases List.mem_cons.1 ht with rfl | ht
   ·exact hx
   ·exact ih h t ht
  ·rw[if_neg hx] at h;exact absurd h hx
theorem rightTy_or {n:Int} (h:rightTy n=true):n=1∨n=2:=by
 unfold rightTy at h
 simpa using h
theorem right_types {ds:List De} {l:List Ru} (h:rightP ⟨ds,l⟩=true):∀ e ∈ ds,∀ k ∈ e.types,k=1∨k=2:=by
 intro e he k hk
 unfold rightP at h
 simp only[Bool.and_eq_true,List.all_eq_true] at h
 have:=h.1.2 e he
 unfold rightD at this
 simp only[Bool.and_eq_true,List.all_eq_true] at this
 exact rightTy_or (this.2 k hk)
theorem base_ne {ds:List De} {r:Ru} (hty:∀ e ∈ ds,∀ k ∈ e.types,k=1∨k=2):∀ x ∈ baseL ds r,x.2≠0:=fun x hx=>by
 have one:∀ l:List Tm,x ∈ nums l→x.2≠0:=fun l h=>by
  unfold nums at h
  obtain⟨t,_,rfl⟩:=List.mem_map.1 h
  show (1:Int)≠0
  decide
 unfold baseL at hx
 rcases List.mem_append.1 hx with hx | hx
 ·obtain⟨a,_,h2⟩:=List.mem_flatMap.1 hx
  unfold plc at h2
  split at h2
  ·cases h2
  ·split at h2
   ·cases h2
   ·rename_i d hd
    obtain⟨t,k⟩:=x
    have hk:=(List.of_mem_zip h2).2
    rcases hty d (List.mem_of_getElem? hd) k hk with rfl | rfl
    ·show (1:Int)≠0
     decide
    ·show (2:Int)≠0
     decide
 ·rcases List.mem_append.1 hx with hx | hx
  ·exact one _ hx
  ·exact one _ hx
end Go.Proofs.YtfmldnbcjbflbaaGreatDoor
namespace Go.Proofs.YtfmldnbcjbflbaaGreatDoor
open Lib(hid)
open Go.RowKit
def NoTw (ds:List De) (n:Nat):Prop:=∀ (i:Nat) (d:De),i < n→ds[i]?=some d→findY d.rel ds=some i
theorem find_le {ds:List De} {i:Nat} {d:De} (h:ds[i]?=some d):∃ j:Nat,findY d.rel ds=some j∧j≤i:=by
 have key:∀ (l:List De) (k i:Nat),l[i]?=some d→∃ j:Nat,ixY d.rel k l=((k+j:Nat):Int)∧j≤i:=by
  intro l
  induction l with
  | nil=>intro k i h;cases h
  | cons x l ih=>
   intro k i h
   unfold ixY
   cases hx:relY d.rel x with
   | true=>exact⟨0,by simp,Nat.zero_le _⟩
   | false=>
    cases i with
    | zero=>
     have e:x=d:=by simpa using h
     subst e
     simp[relY] at hx
    | succ i=>
     obtain⟨j,h1,h2⟩:=ih (k+1) i (by simpa using h)
     exact⟨j+1,by simp only[Bool.false_eq_true,if_false];rw[h1];congr 1;omega,by omega⟩
 obtain⟨j,h1,h2⟩:=key ds 0 i h
 refine⟨j,?_,h2⟩
 unfold findY
 rw[h1,Nat.zero_add,if_neg (by omega)]
 simp
inductive ChA (p:Pg):Int→Int→Prop
 | tree:rightP p=false→ChA p 0 30
 | twice {i:Nat} {d:De}:rightP p=true→p.decls[i]?=some d→findY d.rel p.decls≠some i→NoTw p.decls i→ChA p d.line 50
 | rule {k:Nat} {r:Ru} {l:List Int} {e:Int}:rightP p=true→NoTw p.decls p.decls.length→p.rules[k]?=some r→(∀ (j:Nat) (r':Ru),j < k→p.rules[j]?=some r'→∃ l,TyA p.decls r' l 0)→TyA p.decls r l e→e≠0→ChA p r.line e
 | ok:rightP p=true→NoTw p.decls p.decls.length→(∀ r ∈ p.rules,∃ l,TyA p.decls r l 0)→ChA p 0 0
theorem rightP_less {p:Pg} (h:rightP p=true) {l:List Ru} (hl:l.length≤p.rules.length) (hm:∀ r ∈ l,r ∈ p.rules):rightP ⟨p.decls,l⟩=true:=by
 unfold rightP at h ⊢
 simp only[Bool.and_eq_true,decide_eq_true_eq,List.all_eq_true] at h ⊢
 exact⟨⟨⟨h.1.1.1,by omega⟩,h.1.2⟩,fun r hr=>h.2 r (hm r hr)⟩
theorem rightP_one {p:Pg} (h:rightP p=true) {r:Ru} (hr:r ∈ p.rules):rightP ⟨p.decls,[r]⟩=true:=
 rightP_less h (by have:=List.length_pos_of_mem hr;simp;omega) (fun x hx=>by rw[List.mem_singleton.1 hx];exact hr)
end Go.Proofs.YtfmldnbcjbflbaaGreatDoor
namespace Go.Proofs.YtfmldnbcjbflbaaGreatDoor
open Lib(hid)
theorem Lrn.comp {J:ByteArray→Int→Prop} {vs:List ByteArray} {N M:List Int→Prop} {ts a b:List Int} {m m':Bool} (h:Lrn J vs N ts a m) (k:Lrn J vs M a b m'):Lrn J vs (fun t=>N t∧M t) ts b (m || m'):=by
 refine⟨k.len.trans h.len,fun s=>k.snd (h.snd s),fun e=>?_,fun e=>?_⟩
 ·have h1:zerosL a≤zerosL ts:=by
   cases m with
   | true=>exact Nat.le_of_lt (h.less rfl)
   | false=>rw[(h.still rfl).1];exact Nat.le_refl _
  have h2:zerosL b≤zerosL a:=by
   cases m' with
   | true=>exact Nat.le_of_lt (k.less rfl)
   | false=>rw[(k.still rfl).1];exact Nat.le_refl _
  cases m with
  | true=>have:=h.less rfl;omega
  | false=>
   cases m' with
   | true=>have:=k.less rfl;omega
   | false=>cases e
 ·simp only[Bool.or_eq_false_iff] at e
  obtain⟨e1,n1⟩:=h.still e.1
  obtain⟨e2,n2⟩:=k.still e.2
  subst e1
  subst e2
  exact⟨rfl,n1,n2⟩
theorem Lrn.none {J:ByteArray→Int→Prop} {vs:List ByteArray} {N:List Int→Prop} {ts:List Int} (h:N ts):Lrn J vs N ts ts false:=⟨rfl,fun h=>h,fun e=>(by cases e),fun _=>⟨rfl,h⟩⟩
def Full (P:Tm→Int→Prop) (t:Tm) (k:Int):Prop:=P t k∧∀ u ∈ subTs t.l,P u 1
def knP (vs:List ByteArray) (ts:List Int) (t:Tm) (k:Int):Prop:=t.op=1→k=0∨typedV vs ts t.s≠0
def tyE (vs:List ByteArray) (ts:List Int) (t:Tm):Int:=if t.op=1 then typedV vs ts t.s else if t.op=3 then 2 else if t.op=4 then 0 else 1
def goodP (vs:List ByteArray) (ts:List Int) (t:Tm) (k:Int):Prop:=if t.op=1 then typedV vs ts t.s=k else tyC t=0∨tyC t=k
theorem parts_iff (u:Tm):∀ (n:Nat) (t:Tm),SizeOf.sizeOf t≤n→(u ∈ subTs t.l ↔ ∃ t' ∈ subT t,u ∈ t'.l)
 | 0,t,h=>by
  have:0 < SizeOf.sizeOf t:=by obtain⟨o,s,n,l⟩:=t;simp only[Tm.mk.sizeOf_spec];omega
  omega
 | n+1,t,h=>by
  constructor
  ·intro hu
   obtain⟨c,hc,hu⟩:=mem_subTs.1 hu
   rcases mem_subT.1 hu with rfl | hu
   ·exact⟨t,mem_self,hc⟩
   ·obtain⟨t',h1,h2⟩:=(parts_iff u n c (by have:=size_part hc;omega)).1 hu
    exact⟨t',mem_subT.2 (.inr (mem_subTs.2 ⟨c,hc,h1⟩)),h2⟩
  ·rintro⟨t',h1,h2⟩
   rcases mem_subT.1 h1 with rfl | h1
   ·exact mem_subTs.2 ⟨u,h2,mem_self⟩
   ·obtain⟨c,hc,h1⟩:=mem_subTs.1 h1
    exact mem_subTs.2 ⟨c,hc,mem_subT.2 (.inr ((parts_iff u n c (by have:=size_part hc;omega)).2 ⟨t',h1,h2⟩))⟩
theorem mem_parts {u:Tm} {L:List Tm}:u ∈ (subTs L).flatMap (fun t=>t.l) ↔ ∃ t ∈ L,u ∈ subTs t.l:=by
 rw[List.mem_flatMap]
 constructor
 ·rintro⟨t',h1,h2⟩
  obtain⟨t,ht,h1⟩:=mem_subTs.1 h1
  exact⟨t,ht,(parts_iff u _ t (Nat.le_refl _)).2 ⟨t',h1,h2⟩⟩
 ·rintro⟨t,ht,h⟩
  obtain⟨t',h1,h2⟩:=(parts_iff u _ t (Nat.le_refl _)).1 h
  exact⟨t',mem_subTs.2 ⟨t,ht,h1⟩,h2⟩
structure Asks (P:Tm→Int→Prop) (ds:List De) (r:Ru):Prop where
 atom:∀ a ∈ atomsR r,∀ x ∈ plc ds a,Full P x.1 x.2
 duo:∀ l ∈ r.body,duoB l=true→(∀ u ∈ subTs l.x.l,P u 1)∧(∀ u ∈ subTs l.y.l,P u 1)
 agg:∀ l ∈ r.body,aggB l=true→Full P l.x 1∧Full P l.y 1
theorem plc_mem {ds:List De} {a:Am} (hb:badA ds a=0):(∀ x ∈ plc ds a,x.1 ∈ a.l)∧∀ t ∈ a.l,∃ k,(t,k) ∈ plc ds a:=by
 unfold badA at hb
 unfold plc
 cases hf:findY a.rel ds with
 | none=>rw[hf] at hb;cases hb
 | some i=>
  rw[hf] at hb
  cases hd:ds[i]? with
  | none=>simp only[hd] at hb;cases hb
  | some d=>
   simp only[hd] at hb ⊢
   have hl:d.types.length=a.l.length:=by
    by_cases e:d.types.length=a.l.length
    ·exact e
    ·rw[if_neg e] at hb;cases hb
   refine⟨fun x hx=>(List.of_mem_zip hx).1,fun t ht=>?_⟩
   obtain⟨j,hj⟩:=List.mem_iff_getElem?.1 ht
   have hjl:=(List.getElem?_eq_some_iff.1 hj).1
   refine⟨d.types[j]'(by omega),List.mem_iff_getElem?.2 ⟨j,?_⟩⟩
   rw[List.getElem?_zip_eq_some]
   exact⟨hj,List.getElem?_eq_getElem (by omega)⟩
theorem asks_base {P:Tm→Int→Prop} {ds:List De} {r:Ru} (hr:rightR r=true) (hc:chkA ds (atomsR r)=0) (h0:∀ t,t.op=0→P t 1):Asks P ds r ↔ ∀ x ∈ baseL ds r,P x.1 x.2:=by
 have hb:=chkA_iff.1 hc
 have hL:∀ l ∈ r.body,rightL l=true:=by
  unfold rightR at hr
  simp only[Bool.and_eq_true,List.all_eq_true] at hr
  exact hr.2
 have split:∀ l ∈ r.body,duoB l=true∨(duoB l=false∧(l.op=1∨l.op=2))∨(duoB l=false∧aggB l=true):=fun l _=>by
  cases hd:duoB l with
  | true=>exact .inl rfl
  | false=>
   by_cases h1:l.op=1∨l.op=2
   ·exact .inr (.inl ⟨rfl,h1⟩)
   ·refine .inr (.inr ⟨rfl,?_⟩)
    unfold aggB
    rw[hd]
    simp only[Bool.not_false,Bool.true_and,Bool.and_eq_true,Bool.not_eq_true',beq_eq_false_iff_ne]
    omega
 have isAtom:∀ l ∈ r.body,duoB l=false→l.a ∈ atomsR r:=fun l hl hd=>List.mem_cons_of_mem _ (mem_atomsL.2 ⟨l,hl,hd,rfl⟩)
 constructor
 ·intro h x hx
  unfold baseL at hx
  rcases List.mem_append.1 hx with hx | hx
  ·obtain⟨a,ha,hx⟩:=List.mem_flatMap.1 hx
   exact (h.atom a ha x hx).1
  rcases List.mem_append.1 hx with hx | hx
  ·obtain⟨t,ht,rfl⟩:=List.mem_map.1 hx
   obtain⟨l,hl,ht⟩:=List.mem_flatMap.1 ht
   rcases split l hl with hd | ⟨hd,h1⟩ | ⟨hd,h1⟩
   ·rw[hd] at ht;simp at ht
   ·obtain⟨_,n1,n2⟩:=right_plain (hL l hl) h1
    rw[hd] at ht
    have ht:t=l.x∨t=l.y:=by simpa using ht
    rcases ht with rfl | rfl
    ·exact h0 _ (noT_op n1).1
    ·exact h0 _ (noT_op n2).1
   ·rw[hd] at ht
    have ht:t=l.x∨t=l.y:=by simpa using ht
    rcases ht with rfl | rfl
    ·exact (h.agg l hl h1).1.1
    ·exact (h.agg l hl h1).2.1
  ·obtain⟨u,hu,rfl⟩:=List.mem_map.1 hx
   have ofAtom:∀ a ∈ atomsR r,∀ t ∈ a.l,u ∈ subTs t.l→P u 1:=fun a ha t ht hu=>by
    obtain⟨k,hk⟩:=(plc_mem (hb a ha)).2 t ht
    exact (h.atom a ha _ hk).2 u hu
   unfold termsR at hu
   rw[List.flatMap_append,List.mem_append] at hu
   rcases hu with hu | hu
   ·obtain⟨t,ht,hu⟩:=mem_parts.1 hu
    exact ofAtom r.head (List.mem_cons_self ..) t ht hu
   ·obtain⟨t',h1,h2⟩:=List.mem_flatMap.1 hu
    obtain⟨l,hl,h1⟩:=List.mem_flatMap.1 h1
    have hu:u ∈ (subTs [l.x,l.y]++subTs l.a.l).flatMap (fun t=>t.l):=List.mem_flatMap.2 ⟨t',h1,h2⟩
    rw[List.flatMap_append,List.mem_append] at hu
    rcases hu with hu | hu
    ·obtain⟨t,ht,hu⟩:=mem_parts.1 hu
     have ht:t=l.x∨t=l.y:=by simpa using ht
     rcases split l hl with hd | ⟨hd,h1⟩ | ⟨hd,h1⟩
     ·rcases ht with rfl | rfl
      ·exact (h.duo l hl hd).1 u hu
      ·exact (h.duo l hl hd).2 u hu
     ·obtain⟨_,n1,n2⟩:=right_plain (hL l hl) h1
      rcases ht with rfl | rfl
      ·rw[(noT_op n1).2] at hu;simp[subTs] at hu
      ·rw[(noT_op n2).2] at hu;simp[subTs] at hu
     ·rcases ht with rfl | rfl
      ·exact (h.agg l hl h1).1.2 u hu
      ·exact (h.agg l hl h1).2.2 u hu
    ·obtain⟨t,ht,hu⟩:=mem_parts.1 hu
     rcases split l hl with hd | ⟨hd,h1⟩ | ⟨hd,h1⟩
     ·rw[noA_l (right_duo (hL l hl) hd).1] at ht;cases ht
     ·exact ofAtom l.a (isAtom l hl hd) t ht hu
     ·exact ofAtom l.a (isAtom l hl hd) t ht hu
 ·intro h
  have part:∀ u,u ∈ (termsR r).flatMap (fun t=>t.l)→P u 1:=fun u hu=>h (u,1) (by
   unfold baseL
   exact List.mem_append_right _ (List.mem_append_right _ (List.mem_map.2 ⟨u,hu,rfl⟩)))
  have inHead:∀ u,u ∈ (subTs r.head.l).flatMap (fun t=>t.l)→P u 1:=fun u hu=>part u (by
   unfold termsR
   rw[List.flatMap_append]
   exact List.mem_append_left _ hu)
  have inLit:∀ l ∈ r.body,∀ u,u ∈ (litTs l).flatMap (fun t=>t.l)→P u 1:=fun l hl u hu=>part u (by
   unfold termsR
   rw[List.flatMap_append]
   refine List.mem_append_right _ ?_
   obtain⟨t',h1,h2⟩:=List.mem_flatMap.1 hu
   exact List.mem_flatMap.2 ⟨t',List.mem_flatMap.2 ⟨l,hl,h1⟩,h2⟩)
  have inXY:∀ l ∈ r.body,∀ t,t=l.x∨t=l.y→∀ u ∈ subTs t.l,P u 1:=fun l hl t ht u hu=>inLit l hl u (by
   unfold litTs
   rw[List.flatMap_append]
   exact List.mem_append_left _ (mem_parts.2 ⟨t,by simpa using ht,hu⟩))
  refine⟨fun a ha x hx=>⟨?_,fun u hu=>?_⟩,fun l hl hd=>⟨inXY l hl _ (.inl rfl),inXY l hl _ (.inr rfl)⟩,fun l hl hg=>?_⟩
  ·refine h x ?_
   unfold baseL
   exact List.mem_append_left _ (List.mem_flatMap.2 ⟨a,ha,hx⟩)
  ·have hm:=(plc_mem (hb a ha)).1 x hx
   rcases List.mem_cons.1 ha with rfl | ha
   ·exact inHead u (mem_parts.2 ⟨x.1,hm,hu⟩)
   ·obtain⟨l,hl,_,rfl⟩:=mem_atomsL.1 ha
    exact inLit l hl u (by
     unfold litTs
     rw[List.flatMap_append]
     exact List.mem_append_right _ (mem_parts.2 ⟨x.1,hm,hu⟩))
  ·have hd:duoB l=false:=by
    unfold aggB at hg
    simp only[Bool.and_eq_true,Bool.not_eq_true'] at hg
    exact hg.1.1
   have inB:∀ t,t=l.x∨t=l.y→P t 1:=fun t ht=>h (t,1) (by
    unfold baseL
    refine List.mem_append_right _ (List.mem_append_left _ (List.mem_map.2 ⟨t,List.mem_flatMap.2 ⟨l,hl,?_⟩,rfl⟩))
    rw[hd]
    simpa using ht)
   exact⟨⟨inB _ (.inl rfl),inXY l hl _ (.inl rfl)⟩,⟨inB _ (.inr rfl),inXY l hl _ (.inr rfl)⟩⟩
theorem fits_iff (vs:List ByteArray) (ts:List Int):∀ (h:Nat) (t:Tm) (k:Int),rightT h t=true→(fitsR vs ts t k=true ↔ Full (goodP vs ts) t k)
 | 0,t,k,hr=>by unfold rightT at hr;cases hr
 | h+1,t,k,hr=>by
  rcases rightT_cases hr with ⟨h2,a,b,hl,ha,hb⟩ | ⟨h2,hl,ho⟩
  ·have iha:=fits_iff vs ts h a 1 ha
   have ihb:=fits_iff vs ts h b 1 hb
   obtain⟨o,s,n,l⟩:=t
   have hl:l=[a,b]:=hl
   subst hl
   have ho:o=5∨o=6∨o=7:=twoB_op h2
   have hty:tyC (.mk o s n [a,b])=1:=by
    unfold tyC
    rw[if_pos]
    show o=2∨o=5∨o=6∨o=7
    omega
   have hg:goodP vs ts (.mk o s n [a,b]) k ↔ k=1:=by
    unfold goodP
    rw[if_neg (by show ¬ o=1;omega),hty]
    omega
   unfold fitsR
   rw[if_neg (by omega),if_neg (by omega),if_neg (by omega),if_neg (by omega)]
   unfold Full
   rw[hg]
   show (k == 1 && (fitsR vs ts a 1 && (fitsR vs ts b 1 && true)))=true ↔ _
   rw[Bool.and_eq_true,Bool.and_eq_true,Bool.and_true,beq_iff_eq,iha,ihb]
   refine and_congr_right fun _=>⟨fun ⟨h1,h2⟩ u hu=>?_,fun hu=>⟨⟨hu a (mem_subTs.2 ⟨a,by simp[Tm.l],mem_self⟩),fun u h=>hu u (mem_subTs.2 ⟨a,by simp[Tm.l],mem_subT.2 (.inr h)⟩)⟩,⟨hu b (mem_subTs.2 ⟨b,by simp[Tm.l],mem_self⟩),fun u h=>hu u (mem_subTs.2 ⟨b,by simp[Tm.l],mem_subT.2 (.inr h)⟩)⟩⟩⟩
   obtain⟨c,hc,huc⟩:=mem_subTs.1 hu
   have hc:c=a∨c=b:=by simpa[Tm.l] using hc
   rcases hc with e | e
   ·rw[e] at huc
    rcases mem_subT.1 huc with e | h
    ·rw[e];exact h1.1
    ·exact h1.2 u h
   ·rw[e] at huc
    rcases mem_subT.1 huc with e | h
    ·rw[e];exact h2.1
    ·exact h2.2 u h
  ·have hF:Full (goodP vs ts) t k ↔ goodP vs ts t k:=⟨fun h=>h.1,fun h=>⟨h,fun u hu=>by rw[hl] at hu;simp[subTs] at hu⟩⟩
   rw[hF]
   obtain⟨o,s,n,l⟩:=t
   have hl:l=[]:=hl
   subst hl
   have ho:o=1∨o=2∨o=3∨o=4:=ho
   unfold fitsR goodP tyC
   simp only[Tm.op,Tm.s]
   rcases ho with rfl | rfl | rfl | rfl
   ·simp
   ·simp;omega
   ·simp;omega
   ·simp
def pairFit (vs:List ByteArray) (ts:List Int) (x y:Tm):Bool:=(fitsR vs ts x 1 && fitsR vs ts y 1) || (fitsR vs ts x 2 && fitsR vs ts y 2)
structure FitsU (ds:List De) (r:Ru) (vs:List ByteArray) (ts:List Int):Prop where
 atom:∀ a ∈ atomsR r,∀ x ∈ plc ds a,fitsR vs ts x.1 x.2=true
 duo:∀ l ∈ r.body,duoB l=true→pairFit vs ts l.x l.y=true
 agg:∀ l ∈ r.body,aggB l=true→fitsR vs ts l.x 1=true∧(l.op=7∨fitsR vs ts l.y 1=true)
def pairP (vs:List ByteArray) (ts:List Int) (p:Tm × Tm):Prop:=(goodP vs ts p.1 1∧goodP vs ts p.2 1)∨(goodP vs ts p.1 2∧goodP vs ts p.2 2)
theorem fits_base {ds:List De} {r:Ru} (hr:rightR r=true) (hc:chkA ds (atomsR r)=0) (vs:List ByteArray) (ts:List Int):FitsU ds r vs ts ↔ (∀ x ∈ baseL ds r,goodP vs ts x.1 x.2)∧∀ p ∈ prsL r.body,pairP vs ts p:=by
 have h0:∀ t:Tm,t.op=0→goodP vs ts t 1:=fun t ht=>by
  unfold goodP tyC
  rw[ht]
  simp
 have hb:=chkA_iff.1 hc
 rw[← asks_base (P:=goodP vs ts) hr hc h0]
 have argT:∀ a ∈ atomsR r,∀ x ∈ plc ds a,rightT 20 x.1=true:=fun a ha x hx=>right_arg (right_atoms hr a ha) _ ((plc_mem (hb a ha)).1 x hx)
 have pair:∀ x y:Tm,rightT 20 x=true→rightT 20 y=true→(pairFit vs ts x y=true ↔ (Full (goodP vs ts) x 1∧Full (goodP vs ts) y 1)∨(Full (goodP vs ts) x 2∧Full (goodP vs ts) y 2)):=fun x y hx hy=>by
  unfold pairFit
  rw[Bool.or_eq_true,Bool.and_eq_true,Bool.and_eq_true,fits_iff vs ts 20 x 1 hx,fits_iff vs ts 20 y 1 hy,fits_iff vs ts 20 x 2 hx,fits_iff vs ts 20 y 2 hy]
 constructor
 ·intro h
  refine⟨⟨fun a ha x hx=>(fits_iff vs ts 20 _ _ (argT a ha x hx)).1 (h.atom a ha x hx),fun l hl hd=>?_,fun l hl hg=>?_⟩,fun p hp=>?_⟩
  ·obtain⟨_,hx,hy⟩:=right_duo (right_lits hr l hl) hd
   rcases (pair _ _ hx hy).1 (h.duo l hl hd) with ⟨h1,h2⟩ | ⟨h1,h2⟩
   ·exact⟨h1.2,h2.2⟩
   ·exact⟨h1.2,h2.2⟩
  ·obtain⟨_,hx,hy⟩:=right_agg (right_lits hr l hl) hg
   obtain⟨f1,f2⟩:=h.agg l hl hg
   refine⟨(fits_iff vs ts 20 _ _ hx).1 f1,?_⟩
   rcases hy with ⟨_,hy⟩ | ⟨h8,_,hy⟩
   ·obtain⟨n1,n2⟩:=noT_op hy
    exact⟨h0 _ n1,fun u hu=>by rw[n2] at hu;simp[subTs] at hu⟩
   ·exact (fits_iff vs ts 20 _ _ hy).1 (f2.resolve_left (by omega))
  ·obtain⟨l,hl,hd,rfl⟩:=mem_prsL.1 hp
   obtain⟨_,hx,hy⟩:=right_duo (right_lits hr l hl) hd
   rcases (pair _ _ hx hy).1 (h.duo l hl hd) with ⟨h1,h2⟩ | ⟨h1,h2⟩
   ·exact .inl ⟨h1.1,h2.1⟩
   ·exact .inr ⟨h1.1,h2.1⟩
 ·rintro⟨h,hp⟩
  refine⟨fun a ha x hx=>(fits_iff vs ts 20 _ _ (argT a ha x hx)).2 (h.atom a ha x hx),fun l hl hd=>?_,fun l hl hg=>?_⟩
  ·obtain⟨_,hx,hy⟩:=right_duo (right_lits hr l hl) hd
   obtain⟨d1,d2⟩:=h.duo l hl hd
   refine (pair _ _ hx hy).2 ?_
   rcases hp _ (mem_prsL.2 ⟨l,hl,hd,rfl⟩) with ⟨h1,h2⟩ | ⟨h1,h2⟩
   ·exact .inl ⟨⟨h1,d1⟩,⟨h2,d2⟩⟩
   ·exact .inr ⟨⟨h1,d1⟩,⟨h2,d2⟩⟩
  ·obtain⟨_,hx,hy⟩:=right_agg (right_lits hr l hl) hg
   obtain⟨f1,f2⟩:=h.agg l hl hg
   refine⟨(fits_iff vs ts 20 _ _ hx).2 f1,?_⟩
   rcases hy with ⟨h7,_⟩ | ⟨h8,_,hy⟩
   ·exact .inl h7
   ·exact .inr ((fits_iff vs ts 20 _ _ hy).2 f2)
theorem typed_get {vs:List ByteArray} {ts:List Int} (hl:ts.length=vs.length) {s:ByteArray} (hs:s ∈ vs):∃ (i:Nat) (v:Int),placeV vs s=i∧vs[i]?=some s∧ts[i]?=some v∧typedV vs ts s=v:=by
 obtain⟨i,h1,h2⟩:=place_mem hs
 have hi:=(List.getElem?_eq_some_iff.1 h2).1
 refine⟨i,ts[i]'(by omega),h1,h2,List.getElem?_eq_getElem (by omega),?_⟩
 unfold typedV
 rw[h1,if_neg (by omega)]
 simp[List.getD,List.getElem?_eq_getElem (show i < ts.length by omega)]
theorem typed_in {vs:List ByteArray} {ts:List Int} {s:ByteArray} (h:typedV vs ts s≠0):s ∈ vs:=by
 by_cases e:placeV vs s < 0
 ·unfold typedV at h
  rw[if_pos (.inl e)] at h
  exact absurd rfl h
 ·exact Classical.not_not.1 fun hn=>e (place_neg.2 hn)
theorem SndT.typed {J:ByteArray→Int→Prop} {vs:List ByteArray} {ts:List Int} (h:SndT J vs ts) (hl:ts.length=vs.length) {s:ByteArray} (hne:typedV vs ts s≠0):J s (typedV vs ts s):=by
 obtain⟨i,v,_,h2,h3,h4⟩:=typed_get hl (typed_in hne)
 rw[h4] at hne ⊢
 exact h i s v h2 h3 hne
def nearP (vs:List ByteArray) (ts:List Int) (p:Tm × Tm):Prop:=(tyE vs ts p.1≠0∨tyE vs ts p.2≠0)→(p.1.op=1→typedV vs ts p.1.s≠0)∧(p.2.op=1→typedV vs ts p.2.s≠0)
theorem tyE_var {vs:List ByteArray} {ts:List Int} {t:Tm} (h:t.op=1):tyE vs ts t=typedV vs ts t.s:=by unfold tyE;rw[if_pos h]
theorem tyE_con {vs:List ByteArray} {ts:List Int} {t:Tm} (h:t.op≠1) (hn:tyC t≠0):tyE vs ts t≠0:=by
 unfold tyE tyC at *
 rw[if_neg h]
 by_cases h3:t.op=3
 ·rw[if_pos h3];decide
 ·rw[if_neg h3]
  by_cases h4:t.op=4
  ·rw[h4] at hn;exact absurd rfl hn
  ·rw[if_neg h4];decide
theorem der_known {ds:List De} {r:Ru} {vs:List ByteArray} {ts:List Int} (h0:∀ x ∈ baseL ds r,x.2≠0) (hN:∀ x ∈ baseL ds r,knP vs ts x.1 x.2) (hP:∀ p ∈ prsL r.body,nearP vs ts p) {n:List UInt8} {k:Int} (d:DerR ds r n k):∀ b:ByteArray,b.data.toList=n→typedV vs ts b≠0:=by
 induction d with
 | @base t k h1 h2=>
  intro b hb
  rw[bytes_ext hb]
  exact (hN _ h1 h2).resolve_left (h0 _ h1)
 | @lc x y k h1 h2 h3 h4 h5=>
  intro b hb
  rw[bytes_ext hb]
  exact (hP _ h1 (.inr (tyE_con h3 (by rw[h4];exact h5)))).1 h2
 | @lv x y k h1 h2 h3 _ ih=>
  intro b hb
  rw[bytes_ext hb]
  exact (hP _ h1 (.inr (by rw[tyE_var h3];exact ih _ rfl))).1 h2
 | @rc x y k h1 h2 h3 h4 h5=>
  intro b hb
  rw[bytes_ext hb]
  exact (hP _ h1 (.inl (tyE_con h3 (by rw[h4];exact h5)))).2 h2
 | @rv x y k h1 h2 h3 _ ih=>
  intro b hb
  rw[bytes_ext hb]
  exact (hP _ h1 (.inl (by rw[tyE_var h3];exact ih _ rfl))).2 h2
theorem good_var {vs:List ByteArray} {ts:List Int} {t:Tm} {k:Int} (h:t.op=1):goodP vs ts t k ↔ typedV vs ts t.s=k:=by unfold goodP;rw[if_pos h]
theorem good_con {vs:List ByteArray} {ts:List Int} {t:Tm} {k:Int} (h:t.op≠1):goodP vs ts t k ↔ tyC t=0∨tyC t=k:=by unfold goodP;rw[if_neg h]
theorem pair_any {vs:List ByteArray} {ts:List Int} {p:Tm × Tm}:pairP vs ts p→∃ j,goodP vs ts p.1 j∧goodP vs ts p.2 j:=fun h=>h.elim (fun h=>⟨1,h⟩) (fun h=>⟨2,h⟩)
theorem fits_one {ds:List De} {r:Ru} {vs:List ByteArray} {ts:List Int} (hN:∀ x ∈ baseL ds r,goodP vs ts x.1 x.2) (hP:∀ p ∈ prsL r.body,pairP vs ts p) {n:List UInt8} {k:Int} (d:DerR ds r n k):∀ b:ByteArray,b.data.toList=n→typedV vs ts b=k:=by
 induction d with
 | @base t k h1 h2=>
  intro b hb
  rw[bytes_ext hb]
  exact (good_var h2).1 (hN _ h1)
 | @lc x y k h1 h2 h3 h4 h5=>
  intro b hb
  rw[bytes_ext hb]
  obtain⟨j,g1,g2⟩:=pair_any (hP _ h1)
  rcases (good_con h3).1 g2 with h | h
  ·rw[h4] at h;exact absurd h h5
  ·exact ((good_var h2).1 g1).trans (h.symm.trans h4)
 | @lv x y k h1 h2 h3 _ ih=>
  intro b hb
  rw[bytes_ext hb]
  obtain⟨j,g1,g2⟩:=pair_any (hP _ h1)
  exact ((good_var h2).1 g1).trans (((good_var h3).1 g2).symm.trans (ih _ rfl))
 | @rc x y k h1 h2 h3 h4 h5=>
  intro b hb
  rw[bytes_ext hb]
  obtain⟨j,g1,g2⟩:=pair_any (hP _ h1)
  rcases (good_con h3).1 g1 with h | h
  ·rw[h4] at h;exact absurd h h5
  ·exact ((good_var h2).1 g2).trans (h.symm.trans h4)
 | @rv x y k h1 h2 h3 _ ih=>
  intro b hb
  rw[bytes_ext hb]
  obtain⟨j,g1,g2⟩:=pair_any (hP _ h1)
  exact ((good_var h2).1 g2).trans (((good_var h3).1 g1).symm.trans (ih _ rfl))
theorem fits_noconf {ds:List De} {r:Ru} {vs:List ByteArray} {ts:List Int} (hN:∀ x ∈ baseL ds r,goodP vs ts x.1 x.2) (hP:∀ p ∈ prsL r.body,pairP vs ts p):NoConf (baseL ds r) (prsL r.body):=by
 refine⟨fun n k k' h1 h2=>?_,fun t k hm hv=>(good_con hv).1 (hN _ hm),fun x y hm hx hy=>?_⟩
 ·have hb:(ByteArray.mk n.toArray).data.toList=n:=by simp
  exact (fits_one hN hP h1 _ hb).symm.trans (fits_one hN hP h2 _ hb)
 ·obtain⟨j,g1,g2⟩:=pair_any (hP _ hm)
  rcases (good_con hx).1 g1 with h | h
  ·exact .inl h
  ·rcases (good_con hy).1 g2 with h' | h'
   ·exact .inr (.inl h')
   ·exact .inr (.inr (h.trans h'.symm))
theorem tyC_or (t:Tm):tyC t=0∨tyC t=1∨tyC t=2:=by
 unfold tyC
 split
 ·exact .inr (.inl rfl)
 ·split
  ·exact .inr (.inr rfl)
  ·exact .inl rfl
theorem der_ty {b:List (Tm × Int)} {p:List (Tm × Tm)} (hb:∀ x ∈ b,x.2=1∨x.2=2) {n:List UInt8} {k:Int} (d:Der b p n k):k=1∨k=2:=by
 induction d with
 | base h1 h2=>exact hb _ h1
 | @lc x y k h1 h2 h3 h4 h5=>rcases tyC_or y with h | h | h <;> rw[h4] at h <;> omega
 | lv h1 h2 h3 _ ih=>exact ih
 | @rc x y k h1 h2 h3 h4 h5=>rcases tyC_or x with h | h | h <;> rw[h4] at h <;> omega
 | rv h1 h2 h3 _ ih=>exact ih
theorem base_ty {ds:List De} {r:Ru} (hty:∀ e ∈ ds,∀ k ∈ e.types,k=1∨k=2):∀ x ∈ baseL ds r,x.2=1∨x.2=2:=fun x hx=>by
 unfold baseL at hx
 rcases List.mem_append.1 hx with hx | hx
 ·obtain⟨a,_,hx⟩:=List.mem_flatMap.1 hx
  unfold plc at hx
  cases hf:findY a.rel ds with
  | none=>rw[hf] at hx;cases hx
  | some i=>
   rw[hf] at hx
   cases hd:ds[i]? with
   | none=>simp only[hd] at hx;cases hx
   | some d=>
    simp only[hd] at hx
    exact hty d (List.mem_of_getElem? hd) _ (List.of_mem_zip hx).2
 ·refine .inl ?_
  rcases List.mem_append.1 hx with hx | hx
  ·obtain⟨t,_,rfl⟩:=List.mem_map.1 hx;rfl
  ·obtain⟨t,_,rfl⟩:=List.mem_map.1 hx;rfl
theorem noconf_fits {ds:List De} {r:Ru} {vs:List ByteArray} {ts:List Int} (hty:∀ x ∈ baseL ds r,x.2=1∨x.2=2) (hl:ts.length=vs.length) (hS:SndT (fun s k=>DerR ds r s.data.toList k) vs ts) (hN:∀ x ∈ baseL ds r,knP vs ts x.1 x.2)
  (hall:∀ p ∈ prsL r.body,(p.1.op=1→typedV vs ts p.1.s≠0)∧(p.2.op=1→typedV vs ts p.2.s≠0)) (hf:NoConf (baseL ds r) (prsL r.body)):(∀ x ∈ baseL ds r,goodP vs ts x.1 x.2)∧∀ p ∈ prsL r.body,pairP vs ts p:=by
 have one:∀ (t:Tm) (k:Int),typedV vs ts t.s≠0→DerR ds r (nm t) k→typedV vs ts t.s=k:=fun t k hne d=>hf.one _ _ _ (hS.typed hl hne) d
 refine⟨fun x hx=>?_,fun p hp=>?_⟩
 ·by_cases hv:x.1.op=1
  ·refine (good_var hv).2 (one _ _ ?_ (.base (t:=x.1) (k:=x.2) hx hv))
   exact (hN x hx hv).resolve_left (by have:=hty x hx;omega)
  ·exact (good_con hv).2 (hf.con _ _ hx hv)
 ·obtain⟨a1,a2⟩:=hall p hp
  have fin:∀ j,j=1∨j=2→goodP vs ts p.1 j→goodP vs ts p.2 j→pairP vs ts p:=fun j hj h1 h2=>by
   rcases hj with rfl | rfl
   ·exact .inl ⟨h1,h2⟩
   ·exact .inr ⟨h1,h2⟩
  by_cases hx:p.1.op=1
  ·have nx:=a1 hx
   have dx:=hS.typed hl nx
   refine fin _ (der_ty hty dx) ((good_var hx).2 rfl) ?_
   by_cases hy:p.2.op=1
   ·refine (good_var hy).2 ?_
    exact (one _ _ nx (.lv (x:=p.1) (y:=p.2) hp hx hy (hS.typed hl (a2 hy)))).symm
   ·refine (good_con hy).2 ?_
    by_cases h0:tyC p.2=0
    ·exact .inl h0
    ·exact .inr (one _ _ nx (.lc (x:=p.1) (y:=p.2) hp hx hy rfl h0)).symm
  ·by_cases hy:p.2.op=1
   ·have ny:=a2 hy
    have dy:=hS.typed hl ny
    refine fin _ (der_ty hty dy) ((good_con hx).2 ?_) ((good_var hy).2 rfl)
    by_cases h0:tyC p.1=0
    ·exact .inl h0
    ·exact .inr (one _ _ ny (.rc (x:=p.1) (y:=p.2) hp hy hx rfl h0)).symm
   ·have h2:=hf.two _ _ (show (p.1,p.2) ∈ _ from hp) hx hy
    rcases tyC_or p.1 with h | h | h
    ·rcases tyC_or p.2 with k | k | k
     ·exact fin 1 (.inl rfl) ((good_con hx).2 (.inl h)) ((good_con hy).2 (.inl k))
     ·exact fin 1 (.inl rfl) ((good_con hx).2 (.inl h)) ((good_con hy).2 (.inr k))
     ·exact fin 2 (.inr rfl) ((good_con hx).2 (.inl h)) ((good_con hy).2 (.inr k))
    ·exact fin 1 (.inl rfl) ((good_con hx).2 (.inr h)) ((good_con hy).2 (by omega))
    ·exact fin 2 (.inr rfl) ((good_con hx).2 (.inr h)) ((good_con hy).2 (by omega))
structure StillR (ds:List De) (r:Ru) (vs:List ByteArray) (ts:List Int):Prop where
 asks:Asks (knP vs ts) ds r
 near:∀ l ∈ r.body,duoB l=true→nearP vs ts (l.x,l.y)
inductive RefT (ds:List De) (r:Ru):List Int→Int→Prop
 | tree:rightP ⟨ds,[r]⟩=false→RefT ds r [] 30
 | atom:rightP ⟨ds,[r]⟩=true→chkA ds (atomsR r)≠0→RefT ds r [] (atE (chkA ds (atomsR r)))
 | unk {ts:List Int}:rightP ⟨ds,[r]⟩=true→chkA ds (atomsR r)=0→ts.length=(varsV (termsR r)).length→SndT (fun s k=>DerR ds r s.data.toList k) (varsV (termsR r)) ts→StillR ds r (varsV (termsR r)) ts→0 ∈ ts→RefT ds r [] 53
 | bad {ts:List Int}:rightP ⟨ds,[r]⟩=true→chkA ds (atomsR r)=0→ts.length=(varsV (termsR r)).length→SndT (fun s k=>DerR ds r s.data.toList k) (varsV (termsR r)) ts→StillR ds r (varsV (termsR r)) ts→0 ∉ ts→¬ FitsU ds r (varsV (termsR r)) ts→RefT ds r [] 53
 | good {ts:List Int}:rightP ⟨ds,[r]⟩=true→chkA ds (atomsR r)=0→ts.length=(varsV (termsR r)).length→SndT (fun s k=>DerR ds r s.data.toList k) (varsV (termsR r)) ts→StillR ds r (varsV (termsR r)) ts→0 ∉ ts→FitsU ds r (varsV (termsR r)) ts→RefT ds r ts 0
theorem mem_xy {r:Ru} {l:Lt} (hl:l ∈ r.body):l.x ∈ termsR r∧l.y ∈ termsR r:=by
 have:∀ t,t=l.x∨t=l.y→t ∈ termsR r:=fun t ht=>by
  unfold termsR
  refine List.mem_append_right _ (List.mem_flatMap.2 ⟨l,hl,?_⟩)
  unfold litTs
  exact List.mem_append_left _ (mem_subTs.2 ⟨t,by simpa using ht,mem_self⟩)
 exact⟨this _ (.inl rfl),this _ (.inr rfl)⟩
theorem var_typed {r:Ru} {ts:List Int} (hl:ts.length=(varsV (termsR r)).length) (h0:0 ∉ ts) {t:Tm} (ht:t ∈ termsR r) (h1:t.op=1):typedV (varsV (termsR r)) ts t.s≠0:=by
 obtain⟨i,v,_,_,h3,h4⟩:=typed_get hl ((mem_varsV _ t.s).2 ⟨t,ht,h1,rfl⟩)
 rw[h4]
 rintro rfl
 exact h0 (List.mem_of_getElem? h3)
theorem ref_same {ds:List De} {r:Ru} {l l':List Int} {e e':Int} (h:TyA ds r l e) (h':RefT ds r l' e'):l=l'∧e=e':=by
 have hR:∀ {ts:List Int},rightP ⟨ds,[r]⟩=true→chkA ds (atomsR r)=0→StillR ds r (varsV (termsR r)) ts→(∀ x ∈ baseL ds r,x.2=1∨x.2=2)∧rightR r=true∧(∀ x ∈ baseL ds r,knP (varsV (termsR r)) ts x.1 x.2)∧∀ p ∈ prsL r.body,nearP (varsV (termsR r)) ts p:=fun {ts} hr hc hs=>by
  have hr':rightR r=true:=by
   unfold rightP at hr
   simp only[Bool.and_eq_true,List.all_cons,List.all_nil] at hr
   exact hr.2.1
  refine⟨base_ty (right_types hr),hr',(asks_base hr' hc fun t h0 h1=>by omega).1 hs.asks,fun p hp=>?_⟩
  obtain⟨l,hl,hd,rfl⟩:=mem_prsL.1 hp
  exact hs.near l hl hd
 have nofits:∀ {ts:List Int},rightP ⟨ds,[r]⟩=true→chkA ds (atomsR r)=0→ts.length=(varsV (termsR r)).length→SndT (fun s k=>DerR ds r s.data.toList k) (varsV (termsR r)) ts→StillR ds r (varsV (termsR r)) ts→0 ∉ ts→(Fits ds r ↔ FitsU ds r (varsV (termsR r)) ts):=fun {ts} hr hc hl hS hs h0=>by
  obtain⟨ty,hr',hN,hP⟩:=hR hr hc hs
  rw[fits_base hr' hc]
  constructor
  ·intro hf
   refine noconf_fits ty hl hS hN (fun p hp=>?_) hf.1
   obtain⟨l,hl',hd,rfl⟩:=mem_prsL.1 hp
   exact⟨fun h1=>var_typed hl h0 (mem_xy hl').1 h1,fun h1=>var_typed hl h0 (mem_xy hl').2 h1⟩
  ·rintro⟨g1,g2⟩
   exact⟨fits_noconf g1 g2,fun t ht h1=>⟨_,var_typed hl h0 ht h1,hS.typed hl (var_typed hl h0 ht h1)⟩⟩
 cases h with
 | tree h1=>
  cases h' with
  | tree=>exact⟨rfl,rfl⟩
  | atom g1=>rw[h1] at g1;cases g1
  | unk g1=>rw[h1] at g1;cases g1
  | bad g1=>rw[h1] at g1;cases g1
  | good g1=>rw[h1] at g1;cases g1
 | atom h1 h2=>
  cases h' with
  | tree g1=>rw[h1] at g1;cases g1
  | atom=>exact⟨rfl,rfl⟩
  | unk _ g2=>exact absurd g2 h2
  | bad _ g2=>exact absurd g2 h2
  | good _ g2=>exact absurd g2 h2
 | none h1 h2 h3=>
  cases h' with
  | tree g1=>rw[h1] at g1;cases g1
  | atom _ g2=>exact absurd h2 g2
  | unk=>exact⟨rfl,rfl⟩
  | bad=>exact⟨rfl,rfl⟩
  | good g1 g2 g3 g4 g5 g6 g7=>exact absurd ((nofits g1 g2 g3 g4 g5 g6).2 g7) h3
 | some h1 h2 h3 h4 h5=>
  cases h' with
  | tree g1=>rw[h1] at g1;cases g1
  | atom _ g2=>exact absurd h2 g2
  | unk g1 g2 g3 g4 g5 g6=>
   exfalso
   rename_i ts
   obtain⟨ty,hr',hN,hP⟩:=hR g1 g2 g5
   obtain⟨i,hi⟩:=List.mem_iff_getElem?.1 g6
   have hil:=(List.getElem?_eq_some_iff.1 hi).1
   obtain⟨s,hs⟩:∃ s,(varsV (termsR r))[i]?=some s:=⟨_,List.getElem?_eq_getElem (show i < (varsV (termsR r)).length by omega)⟩
   have hm:=List.mem_of_getElem? hs
   obtain⟨t,ht,ho,rfl⟩:=(mem_varsV _ _).1 hm
   obtain⟨k,hk,d⟩:=h3.2 t ht ho
   have hne:=der_known (fun x hx=>by have:=ty x hx;omega) hN hP d t.s rfl
   obtain⟨j,v,_,q2,q3,q4⟩:=typed_get g3 hm
   have:i=j:=by
    have hj:=(List.getElem?_eq_some_iff.1 q2).1
    have n:=nodup_varsV (termsR r)
    have e1:=(List.getElem?_eq_some_iff.1 hs).2
    have e2:=(List.getElem?_eq_some_iff.1 q2).2
    exact (List.getElem_inj n).1 (e1.trans e2.symm)
   subst this
   rw[hi] at q3
   cases q3
   exact hne q4
  | bad g1 g2 g3 g4 g5 g6 g7=>exact absurd ((nofits g1 g2 g3 g4 g5 g6).1 h3) g7
  | good g1 g2 g3 g4 g5 g6 g7=>
   refine⟨List.ext_getElem? fun i=>?_,rfl⟩
   rw[List.getElem?_map]
   by_cases hi:i < (varsV (termsR r)).length
   ·obtain⟨s,hs⟩:∃ s,(varsV (termsR r))[i]?=some s:=⟨_,List.getElem?_eq_getElem hi⟩
    obtain⟨v,hv⟩:∃ v,l'[i]?=some v:=⟨_,List.getElem?_eq_getElem (show i < l'.length by omega)⟩
    rw[hs,hv]
    have hne:v≠0:=by rintro rfl;exact g6 (List.mem_of_getElem? hv)
    show some (look _ s.data.toList)=some v
    rw[(h4 _ _ hne).2 (g4 i s v hs hv hne)]
   ·rw[List.getElem?_eq_none (by omega),List.getElem?_eq_none (by omega)]
    rfl
end Go.Proofs.YtfmldnbcjbflbaaGreatDoor
namespace Go.Proofs.YtfmldnbcjbflbaaGreatDoor
open Lib(hid)
open Go.RowKit
theorem heldBright_c {W w1:World} (b:Below W.heap.size W.drew w1) {n g:Nat} {v0 v1 v2:Value} (hn:n < W.heap.size) (hg:g < W.heap.size)
  (h:W.cell? ⟨n,0,none⟩=some v0∧W.cell? ⟨n,1,none⟩=some v1∧W.cell? ⟨g,0,none⟩=some v2):w1.cell? ⟨n,0,none⟩=some v0∧w1.cell? ⟨n,1,none⟩=some v1∧w1.cell? ⟨g,0,none⟩=some v2:=by
 obtain⟨h0,h1,h2⟩:=h
 exact⟨(b.cell (p:=⟨n,0,none⟩) hn).trans h0,(b.cell (p:=⟨n,1,none⟩) hn).trans h1,(b.cell (p:=⟨g,0,none⟩) hg).trans h2⟩
set_option maxRecDepth 100000 in
set_option maxHeartbeats 4000000 in
theorem right_c (t:Pg) (a:Addr) (w:World) (cs:List Value) (hc:PgC w w.heap.size t cs) (E:TErr a w) :
  Calls Tryz.prog 30 #[.agg cs.toArray] w fun e w'=>e=.returned (.bool (rightP t))∧Below w.heap.size w w':=by
 have HC0:=fun (W:World) (hb:Below w.heap.size w W)=>checkProg_c t a W cs ((hc.below hb).more hb.size) (E.below hb)
 obtain⟨o0,k0,o1,k1,rfl,_,_⟩:=hc.look
 have HC:=hid HC0
 have herr:=E.err
 have hgs:=E.size
 have HE:=hid E
 clear E
 clear hc HC0
 have HB0:Hid (∀ (x:Obj),Below w.heap.size w (w.alloc x)):=hid fun x=>(Below.refl _ _).alloc (Nat.le_refl _) _
 have x0:(w.alloc (.cells #[.slice o0 t.decls.length k0,.slice o1 t.rules.length k1] 25)).cell? ⟨w.heap.size,0,none⟩=some (.slice o0 t.decls.length k0):=by go_simp
 have x1:(w.alloc (.cells #[.slice o0 t.decls.length k0,.slice o1 t.rules.length k1] 25)).cell? ⟨w.heap.size,1,none⟩=some (.slice o1 t.rules.length k1):=by go_simp
 have xe:(w.alloc (.cells #[.slice o0 t.decls.length k0,.slice o1 t.rules.length k1] 25)).cell? ⟨0,0,none⟩=some (.iface 191 (.pointer (some a))):=(HE.out.below (HB0.out _)).err
 have hgs2:0 < (w.alloc (.cells #[.slice o0 t.decls.length k0,.slice o1 t.rules.length k1] 25)).heap.size:=by first | (simp;omega) | simp
 cases hr:rightP t with
 | true=>
  rw[hr,okV_t] at HC
  go_enter Tryz.func30,Tryz.ntmps30
  go_wp2
  go_region_held3 (fun w'=>w'.cell? ⟨w.heap.size,0,none⟩=some (.slice o0 t.decls.length k0)∧w'.cell? ⟨w.heap.size,1,none⟩=some (.slice o1 t.rules.length k1)∧w'.cell? ⟨0,0,none⟩=some (.iface 191 (.pointer (some a)))) (first | exact⟨x0,x1,xe⟩ | exact hk) (first | (go_at_call 61;refine (HC.out _ ((HB0.out _).drew)).mono ?_;rintro e w1 ⟨rfl,b1⟩;have hk:=heldBright_c b1 (by simp) hgs2 ⟨x0,x1,xe⟩) | (go_at_call 60;refine (is_nil _ _).mono ?_;rintro e w' ⟨rfl,rfl⟩))
  go_wp2
  go_ret
  exact⟨rfl,(HB0.out _).trans (((Below.refl _ _).drew).trans (b1.mono (by simp)))⟩
 | false=>
  rw[hr,okV_f] at HC
  go_enter Tryz.func30,Tryz.ntmps30
  go_wp2
  go_region_held3 (fun w'=>w'.cell? ⟨w.heap.size,0,none⟩=some (.slice o0 t.decls.length k0)∧w'.cell? ⟨w.heap.size,1,none⟩=some (.slice o1 t.rules.length k1)∧w'.cell? ⟨0,0,none⟩=some (.iface 191 (.pointer (some a)))) (first | exact⟨x0,x1,xe⟩ | exact hk) (first | (go_at_call 61;refine (HC.out _ ((HB0.out _).drew)).mono ?_;rintro e w1 ⟨rfl,b1⟩;have hk:=heldBright_c b1 (by simp) hgs2 ⟨x0,x1,xe⟩) | (go_at_call 60;refine (is_same _ _).mono ?_;rintro e w' ⟨rfl,rfl⟩))
  go_wp2
  go_ret
  exact⟨rfl,(HB0.out _).trans (((Below.refl _ _).drew).trans (b1.mono (by simp)))⟩
end Go.Proofs.YtfmldnbcjbflbaaGreatDoor
