/- Ytypes@0123, Ymem@0123, Yans@0123 -/
import Derived.Test.YtakpgcmfjlbcgaaGreatDoorQ16
import Derived.Test.YtakpgcmfjlbcgaaGreatDoorQ19
set_option linter.unusedSimpArgs false
set_option linter.unusedVariables false
namespace Go.Proofs.YtakpgcmfjlbcgaaGreatDoor
open Lib(hid)
open Go.RowKit Go.Shelf Go.Maps Go.WideMaps
attribute [local go_sem] Oper.semAt_some
theorem chkA_zero {ds:List De}:∀ {l:List Am},chkA ds l=0→∀ t ∈ l,badA ds t=0
 | [],_,_,h=>by cases h
 | t::l,h,x,hx=>by
  unfold chkA at h
  by_cases h0:badA ds t=0
  ·rw[if_pos h0] at h
   rcases List.mem_cons.1 hx with rfl | hx
   ·exact h0
   ·exact chkA_zero h x hx
  ·rw[if_neg h0] at h
   exact absurd h h0
theorem results_cell2 {P:Program} {fn:Func} {p q:Tmp} {ty tz:TypeId} (h:fn.results=#[.cell p ty,.cell q tz]) (tmps:Array Value) (w:World) (b b2:Nat) (v v2:Value) (hp:tmps.getD p undef=.pointer (some ⟨b,0,none⟩)) (hr:(loadVar ty ⟨b,0,none⟩).run P w=.ok v w)
  (hq:tmps.getD q undef=.pointer (some ⟨b2,0,none⟩)) (hr2:(loadVar tz ⟨b2,0,none⟩).run P w=.ok v2 w) :
  (results fn tmps).run P w=.ok (.tuple #[v,v2]) w:=by
 have hp':tmps[p]?.getD undef=.pointer (some ⟨b,0,none⟩):=by simpa using hp
 have hq':tmps[q]?.getD undef=.pointer (some ⟨b2,0,none⟩):=by simpa using hq
 simp[results,h,hp',hq',asAddr,hr,hr2,Sem.run_bind,Result.andThen]
theorem loadVar_types {W:World} {b:Nat} {v:Value} (h:W.cell? ⟨b,0,none⟩=some v):(loadVar 151 ⟨b,0,none⟩).run Tryz.prog W=.ok v W:=by
 have ha:∀ w:World,(isAgg 151).run Tryz.prog w=.ok false w:=fun w=>by kernel_rfl
 have hl:b < W.heap.size:=World.block_lt_of_cell? _ _ h
 unfold loadVar
 go_simp
theorem mapI_run {P:Program} {w:World} {kT eT:TypeId} {B n:Nat} {f:List UInt8→Int} {c:Nat} (h:MapI P w kT eT B n f c) (t:TypeId) (ht:P.underlying t=some (.map kT eT)) (hkT:P.underlying kT=some .string) (heT:P.underlying eT=some (.int .i64))
  (hz:(zeroValue eT).run P w=.ok (.int .i64 0) w) (s:ByteArray) (hs:s.size≤maxLen):(Instr.lookup t (.map (some B)) (.string s) false).run P w=.ok (.int .i64 (f s.data.toList)) w:=by
 obtain⟨D,h1,h2,h3,h4,h5⟩:=h
 obtain⟨c,hrun,hat,hwc⟩:=h1.lookup_int (string_keyed hkT) ht heT hz (keyOf_string_mk hkT hs)
 rw[h3] at hat
 have:f s.data.toList=c:=by simpa using hat
 subst this
 exact hrun
theorem set2 {W:World} {L1 L2 T1 T2:Nat} {o1 o2:Value} (v1 v2:Value) (h1:Boxed W L1 T1 o1) (h2:Boxed W L2 T2 o2) (hne:L1≠L2) :
  Boxed ((W.setCell ⟨L1,0,none⟩ v1).setCell ⟨L2,0,none⟩ v2) L1 T1 v1∧Boxed ((W.setCell ⟨L1,0,none⟩ v1).setCell ⟨L2,0,none⟩ v2) L2 T2 v2:=
 ⟨(Below.heap_setCell (W.setCell ⟨L1,0,none⟩ v1) ⟨L2,0,none⟩ v2 L1 hne).trans (Boxed.set v1 h1),Boxed.set v2 (show Boxed (W.setCell ⟨L1,0,none⟩ v1) L2 T2 o2 from (Below.heap_setCell W ⟨L1,0,none⟩ v1 L2 hne.symm).trans h2)⟩
inductive TypR (V:List (List UInt8)) (n0:Nat) (w:World) (a c d:Addr) (ds:List De) (r:Ru):Ending→World→Prop
 | atom {w':World}:chkA ds (atomsR r)≠0→Below n0 w w'→TypR V n0 w a c d ds r (.returned (.tuple #[.map none,badV c d (chkA ds (atomsR r))])) w'
 | place {w':World}:chkA ds (atomsR r)=0→learnL [] (baseL ds r)=none→Below n0 w w'→TypR V n0 w a c d ds r (.returned (.tuple #[.map none,errV a])) w'
 | other {w':World} {K:Kn}:chkA ds (atomsR r)=0→learnL [] (baseL ds r)=some K→Rounds (prsL r.body) K none→Below n0 w w'→TypR V n0 w a c d ds r (.returned (.tuple #[.map none,errV a])) w'
 | left {w':World} {K K':Kn}:chkA ds (atomsR r)=0→learnL [] (baseL ds r)=some K→Rounds (prsL r.body) K (some K')→(∃ t ∈ termsR r,t.op=1∧look K' (nm t)=0)→Below n0 w w'→TypR V n0 w a c d ds r (.returned (.tuple #[.map none,errV a])) w'
 | good {w':World} {K K':Kn} {B:Nat}:chkA ds (atomsR r)=0→learnL [] (baseL ds r)=some K→Rounds (prsL r.body) K (some K')→(∀ t ∈ termsR r,t.op=1→look K' (nm t)≠0)→n0≤B→KnM V w' B K'→Below n0 w w'→TypR V n0 w a c d ds r (.returned (.tuple #[.map (some B),.nilIface])) w'
set_option maxRecDepth 100000 in
set_option maxHeartbeats 8000000 in
theorem typesOf_in (ds:List De) (v:Value) (r:Ru) (cs:List Value) (V:List (List UInt8)) (hV:V.length≤1000000) (a b' c d:Addr) (n0:Nat) (w:World) (hn0:w.heap.size=n0) (hd:SlOf w n0 6 (DeC w n0) ds v) (hc:RuC w n0 r cs)
  (hA:∀ t ∈ atomsR r,∀ u ∈ t.l,u.op=1→nm u ∈ V) (hL:∀ l ∈ r.body,(l.x.op=1→nm l.x ∈ V)∧(l.y.op=1→nm l.y ∈ V)) (hT:∀ t ∈ termsR r,GT V t) (hS:∀ t ∈ termsR r,t.s.size≤maxLen) (hty:∀ e ∈ ds,∀ k ∈ e.types,k=1∨k=2) (E:YEnv n0 a b' c d w) :
  CallsIn Fence.wide 6 Tryz.prog 93 #[v,.agg cs.toArray] w (TypR V n0 w a c d ds r):=by
 obtain⟨o0,k0,o1,k1,rfl,_⟩:=hc.look
 have hmm:=@run_makeMap Tryz.prog
 have HC:=hid hc
 have HD:=hid hd
 have HE:=hid E
 have HA:=hid hA
 have HLt:=hid hL
 have HTt:=hid hT
 have HSt:=hid hS
 have Hty:=hid hty
 clear hc hd E hA hL hT hty hS
 refine callsIn_of_wp_marks Tryz.func93 rfl trivial ?_ rfl
 simp only[Tryz.ntmps93,List.size_toArray,List.length_cons,List.length_nil,Nat.reduceAdd,Nat.reduceSub,Array.replicate_succ,Array.replicate_zero,List.push_toArray,List.append_toArray,List.nil_append,List.cons_append]
 gi_wp2_with fail
 obtain⟨W3,hW3⟩:∃ W3,(((w.alloc (.cells #[.string r.head.rel,.slice o0 r.head.l.length k0,.slice o1 r.body.length k1,.int .i64 r.line] 47)).alloc (.cells #[.map none] 151)).alloc (.cells #[.nilIface] 95))=W3:=⟨_,rfl⟩
 have hs3:W3.heap.size=n0+3:=by rw[← hW3];simp;omega
 have hb3:Below n0 w W3:=by
  rw[← hW3]
  exact (((Below.refl n0 w).alloc (by omega) _).alloc (by simp;omega) _).alloc (by simp;omega) _
 have rr3:W3.heap[n0]?=some (.cells #[.string r.head.rel,.slice o0 r.head.l.length k0,.slice o1 r.body.length k1,.int .i64 r.line] 47 (0,0)):=by
  rw[← hW3]
  refine (Below.heap_alloc _ _ _ (by simp;omega)).trans ((Below.heap_alloc _ _ _ (by simp;omega)).trans ?_)
  have:=World.alloc_heap_new w (.cells #[.string r.head.rel,.slice o0 r.head.l.length k0,.slice o1 r.body.length k1,.int .i64 r.line] 47)
  rwa [hn0] at this
 have bm3:Boxed W3 (n0+1) 151 (.map none):=by
  have:=(Boxed.new (w.alloc (.cells #[.string r.head.rel,.slice o0 r.head.l.length k0,.slice o1 r.body.length k1,.int .i64 r.line] 47)) 151 (.map none)).alloc (.cells #[.nilIface] 95)
  rw[hW3] at this
  simpa[hn0] using this
 have be3:Boxed W3 (n0+1+1) 95 .nilIface:=by
  have:=Boxed.new ((w.alloc (.cells #[.string r.head.rel,.slice o0 r.head.l.length k0,.slice o1 r.body.length k1,.int .i64 r.line] 47)).alloc (.cells #[.map none] 151)) 95 .nilIface
  rw[hW3] at this
  simpa[hn0] using this
 rw[hW3]
 clear hW3
 have H1:=hid (checkAtoms_c ds v r _ n0 a b' c d W3 (SlOf.decl HD.out hb3 (Nat.le_refl _)) (HC.out.below hb3) (by omega) (HE.out.below hb3))
 refine⟨trivial,(callsIn_wide.2 H1.out).mono ?_⟩
 rintro e w1 ⟨rfl,b1⟩
 have B1:Below n0 w w1:=hb3.trans (b1.mono (by omega))
 have bm1:Boxed w1 (n0+1) 151 (.map none):=(b1.block _ (by omega)).trans bm3
 have be1:Boxed w1 (n0+1+1) 95 .nilIface:=(b1.block _ (by omega)).trans be3
 have rr1:w1.heap[n0]?=some (.cells #[.string r.head.rel,.slice o0 r.head.l.length k0,.slice o1 r.body.length k1,.int .i64 r.line] 47 (0,0)):=(b1.block _ (by omega)).trans rr3
 have hs1:=b1.size
 have Hbm:=hid bm1
 have Hbe:=hid be1
 have Hrr:=hid rr1
 have HB1:=hid B1
 clear b1 B1 hb3 bm3 be3 rr3 H1
 by_cases hk:chkA ds (atomsR r)=0
 ·rw[hk]
  have hbad:=chkA_zero hk
  have Hk:=hid hk
  have hG:∀ t ∈ atomsR r,GA ds V t:=fun t ht=>⟨hbad t ht,HA.out t ht⟩
  have HG:=hid hG
  have s0:w1.cell? ⟨n0,0,none⟩=some (.string r.head.rel):=by unfold World.cell?;rw[rr1];rfl
  have s1:w1.cell? ⟨n0,1,none⟩=some (.slice o0 r.head.l.length k0):=by unfold World.cell?;rw[rr1];rfl
  have s2:w1.cell? ⟨n0,2,none⟩=some (.slice o1 r.body.length k1):=by unfold World.cell?;rw[rr1];rfl
  have s3:w1.cell? ⟨n0,3,none⟩=some (.int .i64 r.line):=by unfold World.cell?;rw[rr1];rfl
  have hl0:n0 < w1.heap.size:=by omega
  clear hk hbad hG bm1 be1 rr1
  unfold badV
  gi_wp2_with fail
  obtain⟨m,hm⟩:∃ m,w1.heap.size=m:=⟨_,rfl⟩
  obtain⟨W5,hW5⟩:∃ W5,((w1.alloc (.map #[] 0)).alloc (.cells #[.map (some w1.heap.size)] 151))=W5:=⟨_,rfl⟩
  have hs5:W5.heap.size=m+2:=by rw[← hW5];simp;omega
  have hb5:Below w1.heap.size w1 W5:=by rw[← hW5];exact ((Below.refl _ _).alloc (Nat.le_refl _) _).alloc (by simp) _
  have M5:KnM V W5 m []:=⟨by
   have:=(mapI_made Tryz.prog w1 9 3).alloc (.cells #[.map (some w1.heap.size)] 151)
   rw[hW5,hm] at this
   exact this,⟨fun _ h=>(by cases h),List.nodup_nil⟩,fun _ h=>(by cases h),fun _ h=>(by cases h)⟩
  have bk5:Boxed W5 (m+1) 151 (.map (some m)):=by
   have:=Boxed.new (w1.alloc (.map #[] 0)) 151 (.map (some w1.heap.size))
   rw[hW5] at this
   simpa[hm] using this
  have HB5:=hid (HB1.out.trans (hb5.mono (by omega)))
  have HP:=hid (places_c ds v r _ m n0 V hV [] a b' c d W5 (SlOf.decl HD.out HB5.out (Nat.le_refl _)) (HC.out.below HB5.out) (by omega) M5 HG.out HLt.out HTt.out Hty.out (HE.out.below HB5.out))
  have Hbk:=hid bk5
  have hm3:n0+3≤m:=by omega
  have Hb5:=hid hb5
  rw[hW5,hm]
  refine⟨trivial,(callsIn_wide.2 HP.out).mono ?_⟩
  rintro e w2 hR
  clear hW5 M5 bk5 hb5 s0 s1 s2 s3
  cases hl:learnL [] (baseL ds r) with
  | none=>
   rw[hl] at hR
   cases hR with
   | bad hg=>
   have B2:Hid (Below n0 w w2):=hid (HB5.out.trans (gBelow hg (by omega) (by omega)))
   have gm:∀ q,q < n0+3→w2.heap[q]?=w1.heap[q]?:=fun q hq=>(hg.block q (by omega) (fun e=>by have:=Option.some.inj e;omega)).trans (Hb5.out.block q (by omega))
   have bm2:Boxed w2 (n0+1) 151 (.map none):=(gm _ (by omega)).trans Hbm.out
   have be2:Boxed w2 (n0+1+1) 95 .nilIface:=(gm _ (by omega)).trans Hbe.out
   have Hl:=hid hl
   have Hbm2:=hid bm2
   have Hbe2:=hid be2
   have c1:=bm2.cell
   have f1:=bm2.frozen
   have c2:=be2.cell
   have f2:=be2.frozen
   have z2:=be2.lt
   clear hl hg gm bm2 be2
   unfold errV
   gi_wp2
   obtain⟨x1,x2⟩:=set2 (.map none) (errV a) Hbm2.out Hbe2.out (by omega)
   refine⟨_,results_cell2 rfl _ _ (n0+1) (n0+1+1) _ _ rfl (loadVar_types x1.cell) rfl (loadVar_err x2.cell),?_⟩
   exact .place Hk.out Hl.out ((B2.out.setCell (p:=⟨n0+1,0,none⟩) (by show n0≤n0+1;omega) _).setCell (p:=⟨n0+1+1,0,none⟩) (by show n0≤n0+1+1;omega) _)
  | some K0=>
   rw[hl] at hR
   cases hR with
   | good hmK hg=>
   have gm:∀ q,q < n0+3→w2.heap[q]?=w1.heap[q]?:=fun q hq=>(hg.block q (by omega) (fun e=>by have:=Option.some.inj e;omega)).trans (Hb5.out.block q (by omega))
   have rr2:w2.heap[n0]?=some (.cells #[.string r.head.rel,.slice o0 r.head.l.length k0,.slice o1 r.body.length k1,.int .i64 r.line] 47 (0,0)):=(gm _ (by omega)).trans Hrr.out
   have bk2:Boxed w2 (m+1) 151 (.map (some m)):=(hg.block _ (by omega) (fun e=>by have:=Option.some.inj e;omega)).trans Hbk.out
   have hs2:=hg.size
   have B2:Hid (Below n0 w w2):=hid (HB5.out.trans (gBelow hg (by omega) (by omega)))
   have HO:=hid (eachOther_c r _ m n0 V hV K0 a b' c d w2 (HC.out.below B2.out) (by omega) hmK HLt.out (HE.out.below B2.out))
   have s0:w2.cell? ⟨n0,0,none⟩=some (.string r.head.rel):=by unfold World.cell?;rw[rr2];rfl
   have s1:w2.cell? ⟨n0,1,none⟩=some (.slice o0 r.head.l.length k0):=by unfold World.cell?;rw[rr2];rfl
   have s2:w2.cell? ⟨n0,2,none⟩=some (.slice o1 r.body.length k1):=by unfold World.cell?;rw[rr2];rfl
   have s3:w2.cell? ⟨n0,3,none⟩=some (.int .i64 r.line):=by unfold World.cell?;rw[rr2];rfl
   have s4:=bk2.cell
   have hl4:n0 < w2.heap.size:=by omega
   have hl5:m+1 < w2.heap.size:=by omega
   have Hl:=hid hl
   have Hgm:=hid gm
   have Hrr2:=hid rr2
   have Hbk2:=hid bk2
   have HmK:=hid hmK
   clear hl hg gm rr2 bk2 hmK
   gi_wp2_with fail
   refine⟨trivial,(callsIn_wide.2 HO.out).mono ?_⟩
   rintro e w3 ⟨rr,hRo,hR⟩
   cases hR with
   | bad hg=>
    have B3:Hid (Below n0 w w3):=hid (B2.out.trans (gBelow hg (by omega) (by omega)))
    have gm:∀ q,q < n0+3→w3.heap[q]?=w1.heap[q]?:=fun q hq=>(hg.block q (by omega) (fun e=>by have:=Option.some.inj e;omega)).trans (Hgm.out q hq)
    have bm2:Boxed w3 (n0+1) 151 (.map none):=(gm _ (by omega)).trans Hbm.out
    have be2:Boxed w3 (n0+1+1) 95 .nilIface:=(gm _ (by omega)).trans Hbe.out
    have HRo:=hid hRo
    have Hbm2:=hid bm2
    have Hbe2:=hid be2
    have c1:=bm2.cell
    have f1:=bm2.frozen
    have c2:=be2.cell
    have f2:=be2.frozen
    have z2:=be2.lt
    clear hRo hg gm bm2 be2 s0 s1 s2 s3 s4
    unfold errV
    gi_wp2
    obtain⟨x1,x2⟩:=set2 (.map none) (errV a) Hbm2.out Hbe2.out (by omega)
    refine⟨_,results_cell2 rfl _ _ (n0+1) (n0+1+1) _ _ rfl (loadVar_types x1.cell) rfl (loadVar_err x2.cell),?_⟩
    exact .other Hk.out Hl.out HRo.out ((B3.out.setCell (p:=⟨n0+1,0,none⟩) (by show n0≤n0+1;omega) _).setCell (p:=⟨n0+1+1,0,none⟩) (by show n0≤n0+1+1;omega) _)
   | @good K1 _ hm3K hg=>
    clear s0 s1 s2 s3 s4
    have rr3:w3.heap[n0]?=some (.cells #[.string r.head.rel,.slice o0 r.head.l.length k0,.slice o1 r.body.length k1,.int .i64 r.line] 47 (0,0)):=(hg.block _ (by omega) (fun e=>by have:=Option.some.inj e;omega)).trans Hrr2.out
    have bk3:Boxed w3 (m+1) 151 (.map (some m)):=(hg.block _ (by omega) (fun e=>by have:=Option.some.inj e;omega)).trans Hbk2.out
    have hs3w:=hg.size
    have B3:Hid (Below n0 w w3):=hid (B2.out.trans (gBelow hg (by omega) (by omega)))
    have s0:w3.cell? ⟨n0,0,none⟩=some (.string r.head.rel):=by unfold World.cell?;rw[rr3];rfl
    have s1:w3.cell? ⟨n0,1,none⟩=some (.slice o0 r.head.l.length k0):=by unfold World.cell?;rw[rr3];rfl
    have s2:w3.cell? ⟨n0,2,none⟩=some (.slice o1 r.body.length k1):=by unfold World.cell?;rw[rr3];rfl
    have s3:w3.cell? ⟨n0,3,none⟩=some (.int .i64 r.line):=by unfold World.cell?;rw[rr3];rfl
    have hl6:n0 < w3.heap.size:=by omega
    have gm:∀ q,q < n0+3→w3.heap[q]?=w1.heap[q]?:=fun q hq=>(hg.block q (by omega) (fun e=>by have:=Option.some.inj e;omega)).trans (Hgm.out q hq)
    have bm3:Boxed w3 (n0+1) 151 (.map none):=(gm _ (by omega)).trans Hbm.out
    have be3:Boxed w3 (n0+1+1) 95 .nilIface:=(gm _ (by omega)).trans Hbe.out
    have HRo:=hid hRo
    clear hRo hg gm rr3
    gi_wp2_with fail
    have HY2:=hid (yeach_in 5 r _ w3 ((HC.out.below B3.out).more (by omega)))
    refine⟨trivial,HY2.out.mono ?_⟩
    rintro e W6 ⟨rfl,hW6⟩
    gi_wp2_with fail
    rw[← hW6]
    have hs6:W6.heap.size=w3.heap.size+1:=by rw[hW6];simp
    have hb6:Below w3.heap.size w3 W6:=by rw[hW6];exact (Below.refl _ _).alloc (Nat.le_refl _) _
    have row6:W6.heap[w3.heap.size]?=some (.cells #[.string r.head.rel,.slice o0 r.head.l.length k0,.slice o1 r.body.length k1,.int .i64 r.line] 47 (0,0)):=by rw[hW6];exact World.alloc_heap_new w3 _
    have hB6:CellsAt W6 ⟨w3.heap.size,0,none⟩ 0 [.string r.head.rel,.slice o0 r.head.l.length k0,.slice o1 r.body.length k1,.int .i64 r.line]:=fun j c hj=>by
     rw[Nat.zero_add]
     exact World.news_of_block row6 j c (by simpa using hj)
    have hb06:Below n0 w W6:=B3.out.trans (hb6.mono (by omega))
    have hc6:=HC.out.below hb06
    have safe6:Safe (fun _ _=>False) W6 W6:=fun p c hp=>⟨hp,World.block_lt_of_cell? _ _ hp,id⟩
    have M6:KnM V W6 m K1:=hm3K.below hb6 hm3K.lt
    have bk6:Boxed W6 (m+1) 151 (.map (some m)):=(hb6.block _ (by omega)).trans bk3
    have bm6:Boxed W6 (n0+1) 151 (.map none):=(hb6.block _ (by omega)).trans bm3
    have be6:Boxed W6 (n0+1+1) 95 .nilIface:=(hb6.block _ (by omega)).trans be3
    clear hW6 s0 s1 s2 s3 HY2 bk3 bm3 be3 hm3K
    refine wpIn_rangeFunc_ownH rfl (by omega) (gf:=175) (lb:=#[.pointer (some ⟨w3.heap.size,0,none⟩)]) rfl trivial (enters_of Tryz.func175 (by kernel_rfl) rfl)
     (yeach_stops 5 w3.heap.size n0 r [.string r.head.rel,.slice o0 r.head.l.length k0,.slice o1 r.body.length k1,.int .i64 r.line] W6 W6 (fun _ _=>False) (fun _ _ _ _ _ h=>h) safe6 (fun _ h=>h.elim) hB6 hc6 (G:=fun t=>t.s.size≤maxLen) HSt.out) (fun h k=>h.trans k) ?hKb (Below.refl _ _) (fun _=>rfl)
     (fun pre W=>(∀ x ∈ pre,x.t.op=1→look K1 (nm x.t)≠0)∧Below W6.heap.size W6 W)
     (fun cd pre W=>(cd=.ret∧(∃ x ∈ pre,x.t.op=1∧look K1 (nm x.t)=0)∧Boxed W (n0+1) 151 (.map none)∧Boxed W (n0+1+1) 95 (errV a))∧Below n0 w W) ?hI ?hIx ⟨by simp,Below.refl _ _⟩
     (fun x a' W=>∃ Bx,W.heap[Bx]?=some (.cells x.cs.toArray 51 (0,0))∧w3.heap.size+1≤Bx∧a'={ tmps:=#[v,.agg #[.string r.head.rel,.slice o0 r.head.l.length k0,.slice o1 r.body.length k1,.int .i64 r.line],undef,.pointer (some ⟨n0,0,none⟩),.pointer (some ⟨n0+1,0,none⟩),.pointer (some ⟨n0+1+1,0,none⟩),.nilIface,.pointer (some ⟨m+1,0,none⟩),.nilIface,.nilIface,.pointer (some ⟨Bx,0,none⟩),v,.agg #[.string r.head.rel,.slice o0 r.head.l.length k0,.slice o1 r.body.length k1,.int .i64 r.line],.nilIface,.nilIface,.bool false,undef,.map (some m),.map (some m),v,.agg #[.string r.head.rel,.slice o0 r.head.l.length k0,.slice o1 r.body.length k1,.int .i64 r.line],.nilIface,.nilIface,.bool false,undef,.map (some m),.agg #[.string r.head.rel,.slice o0 r.head.l.length k0,.slice o1 r.body.length k1,.int .i64 r.line],.nilIface,.nilIface,.bool false,undef,.agg #[.string r.head.rel,.slice o0 r.head.l.length k0,.slice o1 r.body.length k1,.int .i64 r.line],.func (.func 175) #[] #[.pointer (some ⟨w3.heap.size,0,none⟩)],.agg x.cs.toArray,undef,undef,undef,undef,undef,undef,undef,undef,undef,undef,undef,undef],defers:=[] })
     ?hAx ?assign ?body ?done ?stop
    case hKb=>
     intro W l o o' hl ho hc _
     exact⟨by simp,fun i x hi hx _=>(World.putObj_heap_other (by rintro rfl;rw[ho] at hi;cases hi;rw[hc] at hx;cases hx)).trans hi,fun _ h=>h.elim,fun _ _ h=>h.elim⟩
    case hI=>
     rintro pre A B1 row ⟨h1,h2⟩ hg hr
     exact⟨h1,ownFrom_below (β:=Unit) (Nat.le_refl _) (Nat.le_refl _) () A B1 row h2 hg hr⟩
    case hIx=>
     rintro cd pre A B1 row ⟨⟨h0,h1,h2,h3⟩,h4⟩ hg hr
     exact⟨⟨h0,h1,boxed_own (n0+1) 151 (fun (_:Unit)=>.map none) () A B1 row h2 hg (fun r e=>(hr r e).2),boxed_own (n0+1+1) 95 (fun (_:Unit)=>errV a) () A B1 row h3 hg (fun r e=>(hr r e).2)⟩,ownFrom_below (β:=Unit) (by omega) (by omega) () A B1 row h4 hg hr⟩
    case hAx=>
     rintro x a' _ A B1 row ⟨Bx,h1,h2,h3⟩ hg hr
     refine⟨Bx,(hg.block Bx (Array.getElem?_eq_some_iff.1 h1).1 (fun e=>?_)).trans h1,h2,h3⟩
     obtain⟨_,o',ho',hc'⟩:=hr _ e.symm
     rw[h1] at ho'
     cases ho'
     cases hc'
    case assign=>
     rintro lp pre ⟨t',cs',ok',gd'⟩ W K1' ⟨h1,h2⟩ hK
     obtain⟨p',q',rfl,_⟩:=ok'.look
     have hb1:=(Below.refl W.heap.size W).alloc (Nat.le_refl _) (.cells #[.int .i64 t'.op,.string t'.s,.int .i64 t'.n,.slice p' t'.l.length q'] 51)
     have hko:KO (fun _ _=>False) W (W.alloc (.cells #[.int .i64 t'.op,.string t'.s,.int .i64 t'.n,.slice p' t'.l.length q'] 51)):=KO.of_below (fun _ _ _ _ _ h=>h) (fun _ h=>h.elim) hb1
     have HK:=hid (hK _ _ ((KeepsOthers.alloc W _).from _) hko ⟨h1,h2.trans (hb1.mono h2.size)⟩ ⟨W.heap.size,World.alloc_heap_new W _,by have:=h2.size;omega,rfl⟩)
     clear hK h1 h2 hb1 hko
     simp only[Ne.enc]
     gi_wp2
     exact HK.out
    case body=>
     rintro lp pre ⟨t',cs',ok',gd'⟩ a' W hlp hrec ⟨h1,h2⟩ ⟨Bx,hrow,hBx,rfl⟩ hlen2
     obtain⟨p',q',rfl,_⟩:=ok'.look
     have e0:W.cell? ⟨Bx,0,none⟩=some (.int .i64 t'.op):=by unfold World.cell?;rw[hrow];rfl
     have e1:W.cell? ⟨Bx,1,none⟩=some (.string t'.s):=by unfold World.cell?;rw[hrow];rfl
     have hBl:Bx < W.heap.size:=(Array.getElem?_eq_some_iff.1 hrow).1
     have hWs:=h2.size
     have hkW:=Boxed.cell (show Boxed W (m+1) 151 (.map (some m)) from (h2.block _ (by omega)).trans bk6)
     have hkl:m+1 < W.heap.size:=by omega
     have zE:∀ w:World,(zeroValue 3).run Tryz.prog w=.ok (.int .i64 0) w:=fun w=>by kernel_rfl
     have Hm:=hid (M6.below h2 (by omega):KnM V W m K1)
     have hrun:=mapI_run Hm.out.map 151 Tryz.underlying151 Tryz.underlying9 Tryz.underlying3 (zE _) t'.s gd'
     have bmW:Boxed W (n0+1) 151 (.map none):=(h2.block _ (by omega)).trans bm6
     have beW:Boxed W (n0+1+1) 95 .nilIface:=(h2.block _ (by omega)).trans be6
     have hbW:Below n0 w W:=hb06.trans (h2.mono (by omega))
     have hgt:=(HE.out.below hbW).ty
     have H1':=hid h1
     have H2':=hid h2
     have HbW:=hid hbW
     have HbmW:=hid bmW
     have HbeW:=hid beW
     have fin:Hid ((t'.op=1→look K1 (nm t')≠0)→∀ x ∈ pre++[(⟨t',_,ok',gd'⟩:Ne W6 n0 (fun t=>t.s.size≤maxLen))],x.t.op=1→look K1 (nm x.t)≠0):=hid fun h x hx=>(List.mem_append.1 hx).elim (H1'.out x) (fun hx=>by rw[List.mem_singleton.1 hx];exact h)
     clear h1 h2 hrow bmW beW hbW
     by_cases hop:t'.op=1
     ·by_cases hz:look K1 t'.s.data.toList=0
      ·have hz':(look K1 t'.s.data.toList == 0)=true:=by simpa using hz
       have Hz:=hid hz
       have Hop:=hid hop
       clear hz
       have c1:=HbmW.out.cell
       have f1:=HbmW.out.frozen
       have c2:=HbeW.out.cell
       have f2:=HbeW.out.frozen
       have z2:=HbeW.out.lt
       have hx2:=set2 (.map none) (errV a) HbmW.out HbeW.out (by omega)
       have Hx2:=hid hx2
       have hn1:¬ 6=n0+1:=by have:=HE.out.big;omega
       have hn2:¬ 6=n0+1+1:=by have:=HE.out.big;omega
       simp at hn1 hn2
       unfold errV at hgt
       clear hx2
       gi_wp2_with fail
       refine any_region (by kernel_rfl) (by kernel_rfl) (fun ⟨_,_,h⟩=>h) ?_
       (try (change wpAny _ _ _ _ _ _ _ (World.drew _)))
       refine wpAny_ready (rs:=[0,1]) (by kernel_rfl) (by simp) ?_
       refine (AllReady.cons rfl (fun K hK=>?_) (AllReady.cons rfl (fun K hK=>?_) AllReady.nil))
       ·go_simp
        refine hK _ _ ?_
        clear hK K
        refine wpAny_ready (rs:=[1]) (by kernel_rfl) (by simp) ?_
        refine AllReady.cons rfl (fun K hK=>?_) AllReady.nil
        go_simp
        refine hK _ _ ?_
        clear hK K
        refine wpAny_ready (rs:=[2]) (by kernel_rfl) (by simp) ?_
        refine AllReady.cons rfl (fun K hK=>?_) AllReady.nil
        go_simp
        refine hK _ _ ?_
        clear hK K
        refine (wpAny_done (by kernel_rfl) ?_) _
        gi_wp2
        have kf:=((KeepsOthers.setCell W ⟨n0+1,0,none⟩ (.map none)).trans (KeepsOthers.setCell _ ⟨n0+1+1,0,none⟩ (errV a))).from W6.heap.size
        have bf:=(HbW.out.setCell (p:=⟨n0+1,0,none⟩) (by show n0≤n0+1;omega) (.map none)).setCell (p:=⟨n0+1+1,0,none⟩) (by show n0≤n0+1+1;omega) (errV a)
        exact⟨⟨kf.size,kf.same⟩,⟨rfl,⟨⟨t',_,ok',gd'⟩,List.mem_append_right _ (List.mem_cons_self ..),Hop.out,Hz.out⟩,Hx2.out.1,Hx2.out.2⟩,⟨bf.os,bf.tape,bf.output,bf.size,bf.block⟩⟩
       ·go_simp
        refine hK _ _ ?_
        clear hK K
        refine wpAny_ready (rs:=[0]) (by kernel_rfl) (by simp) ?_
        refine AllReady.cons rfl (fun K hK=>?_) AllReady.nil
        go_simp
        refine hK _ _ ?_
        clear hK K
        refine wpAny_ready (rs:=[2]) (by kernel_rfl) (by simp) ?_
        refine AllReady.cons rfl (fun K hK=>?_) AllReady.nil
        go_simp
        refine hK _ _ ?_
        clear hK K
        refine (wpAny_done (by kernel_rfl) ?_) _
        gi_wp2
        have kf:=((KeepsOthers.setCell W ⟨n0+1,0,none⟩ (.map none)).trans (KeepsOthers.setCell _ ⟨n0+1+1,0,none⟩ (errV a))).from W6.heap.size
        have bf:=(HbW.out.setCell (p:=⟨n0+1,0,none⟩) (by show n0≤n0+1;omega) (.map none)).setCell (p:=⟨n0+1+1,0,none⟩) (by show n0≤n0+1+1;omega) (errV a)
        exact⟨⟨kf.size,kf.same⟩,⟨rfl,⟨⟨t',_,ok',gd'⟩,List.mem_append_right _ (List.mem_cons_self ..),Hop.out,Hz.out⟩,Hx2.out.1,Hx2.out.2⟩,⟨bf.os,bf.tape,bf.output,bf.size,bf.block⟩⟩
      ·have hz':(look K1 t'.s.data.toList == 0)=false:=by simpa using hz
       have Hz:=hid hz
       have Hop:=hid hop
       clear hz
       gi_wp2
       exact⟨KeepsFrom.refl _ _,KO.refl _ _,fin.out (fun _=>Hz.out),H2'.out⟩
     ·have Hop:=hid hop
      have hne:(t'.op == 1)=false:=by simpa using hop
      gi_wp2
      exact⟨KeepsFrom.refl _ _,KO.refl _ _,fin.out (fun h=>absurd h Hop.out),H2'.out⟩
    case done=>
     rintro D ys W hD hys ⟨h1,h2⟩ hK
     have hall:∀ t ∈ termsR r,t.op=1→look K1 (nm t)≠0:=fun t ht=>by
      rw[← hys] at ht
      obtain⟨y,hy,rfl⟩:=List.mem_map.1 ht
      exact h1 y hy
     have hWs:=h2.size
     have hkW:=Boxed.cell (show Boxed W (m+1) 151 (.map (some m)) from (h2.block _ (by omega)).trans bk6)
     have hkl:m+1 < W.heap.size:=by omega
     have bmW:Boxed W (n0+1) 151 (.map none):=(h2.block _ (by omega)).trans bm6
     have beW:Boxed W (n0+1+1) 95 .nilIface:=(h2.block _ (by omega)).trans be6
     have hbW:Below n0 w W:=hb06.trans (h2.mono (by omega))
     have hMW:KnM V W m K1:=M6.below h2 (by omega)
     have c1:=bmW.cell
     have f1:=bmW.frozen
     have c2:=beW.cell
     have f2:=beW.frozen
     have z2:=beW.lt
     have Hall:=hid hall
     have Hd:=hid hK
     have Hbm':=hid bmW
     have Hbe':=hid beW
     have HbW:=hid hbW
     have HMW:=hid hMW
     clear h1 h2 hK hys hall bmW beW hbW hMW
     gi_wp2
     obtain⟨x1,x2⟩:=set2 (.map (some m)) .nilIface Hbm'.out Hbe'.out (by omega)
     have hd3:((W.setCell ⟨n0+1,0,none⟩ (.map (some m))).setCell ⟨n0+1+1,0,none⟩ .nilIface).heap[D]?=some (.deferred (some [])):=(Below.heap_setCell _ ⟨n0+1+1,0,none⟩ _ D (by show D≠n0+1+1;omega)).trans ((Below.heap_setCell W ⟨n0+1,0,none⟩ _ D (by show D≠n0+1;omega)).trans Hd.out)
     refine⟨by simp,.inl ⟨_,_,rfl,run_takeDeferred hd3,?_⟩⟩
     have y1:Boxed (((W.setCell ⟨n0+1,0,none⟩ (.map (some m))).setCell ⟨n0+1+1,0,none⟩ .nilIface).putObj D (.deferred none)) (n0+1) 151 (.map (some m)):=(World.putObj_heap_other (by omega)).trans x1
     have y2:Boxed (((W.setCell ⟨n0+1,0,none⟩ (.map (some m))).setCell ⟨n0+1+1,0,none⟩ .nilIface).putObj D (.deferred none)) (n0+1+1) 95 .nilIface:=(World.putObj_heap_other (by omega)).trans x2
     refine⟨_,results_cell2 rfl _ _ (n0+1) (n0+1+1) _ _ rfl (loadVar_types y1.cell) rfl (loadVar_err y2.cell),?_⟩
     have B6:=(HbW.out.setCell (p:=⟨n0+1,0,none⟩) (by show n0≤n0+1;omega) (.map (some m))).setCell (p:=⟨n0+1+1,0,none⟩) (by show n0≤n0+1+1;omega) .nilIface
     refine .good Hk.out Hl.out HRo.out Hall.out (by omega) (HMW.out.same ?_) ⟨B6.os,B6.tape,B6.output,by have:=B6.size;simpa using this,fun q hq=>(World.putObj_heap_other (by omega)).trans (B6.block q hq)⟩
     exact (World.putObj_heap_other (by omega)).trans ((Below.heap_setCell _ ⟨n0+1+1,0,none⟩ _ m (by show m≠n0+1+1;omega)).trans (Below.heap_setCell W ⟨n0+1,0,none⟩ _ m (by show m≠n0+1;omega)))
    case stop=>
     rintro D cd pre W hD ⟨r1,hr1⟩ ⟨⟨rfl,⟨x,hx,hx1,hx2⟩,b1,b2⟩,h5⟩ hK
     have hbad:∃ t ∈ termsR r,t.op=1∧look K1 (nm t)=0:=⟨x.t,by rw[← hr1];exact List.mem_append_left _ (List.mem_map.2 ⟨x,hx,rfl⟩),hx1,hx2⟩
     have Hbad:=hid hbad
     have Hd:=hid hK
     have H5:=hid h5
     have Hb1:=hid b1
     have Hb2:=hid b2
     clear h5 hK b1 b2 hbad hr1 hx hx1 hx2
     gi_wp2
     refine⟨by simp,.inl ⟨_,_,rfl,run_takeDeferred Hd.out,?_⟩⟩
     have y1:Boxed (W.putObj D (.deferred none)) (n0+1) 151 (.map none):=(World.putObj_heap_other (by omega)).trans Hb1.out
     have y2:Boxed (W.putObj D (.deferred none)) (n0+1+1) 95 (errV a):=(World.putObj_heap_other (by omega)).trans Hb2.out
     refine⟨_,results_cell2 rfl _ _ (n0+1) (n0+1+1) _ _ rfl (loadVar_types y1.cell) rfl (loadVar_err y2.cell),?_⟩
     have B6:=H5.out
     exact .left Hk.out Hl.out HRo.out Hbad.out ⟨B6.os,B6.tape,B6.output,by have:=B6.size;simpa using this,fun q hq=>(World.putObj_heap_other (by omega)).trans (B6.block q hq)⟩
 ·have hbv:∃ p,badV c d (chkA ds (atomsR r))=.iface 250 (.pointer (some p)):=by
   cases h:chkA ds (atomsR r) with
   | zero=>exact absurd h hk
   | succ m=>cases m with
    | zero=>exact⟨c,rfl⟩
    | succ m=>exact⟨d,rfl⟩
  obtain⟨p,hp⟩:=hbv
  have c1:=bm1.cell
  have f1:=bm1.frozen
  have c2:=be1.cell
  have f2:=be1.frozen
  have Hk:=hid hk
  have Hp:=hid hp
  rw[hp]
  clear hk hp bm1 be1 rr1
  gi_wp2
  obtain⟨x1,x2⟩:=set2 (.map none) (.iface 250 (.pointer (some p))) Hbm.out Hbe.out (by omega)
  refine⟨_,results_cell2 rfl _ _ (n0+1) (n0+1+1) _ _ rfl (loadVar_types x1.cell) rfl (loadVar_err x2.cell),?_⟩
  rw[← Hp.out]
  exact .atom Hk.out ((HB1.out.setCell (p:=⟨n0+1,0,none⟩) (by show n0≤n0+1;omega) _).setCell (p:=⟨n0+1+1,0,none⟩) (by show n0≤n0+1+1;omega) _)
theorem typesOf_c (ds:List De) (v:Value) (r:Ru) (cs:List Value) (V:List (List UInt8)) (hV:V.length≤1000000) (a b' c d:Addr) (n0:Nat) (w:World) (hn0:w.heap.size=n0) (hd:SlOf w n0 6 (DeC w n0) ds v) (hc:RuC w n0 r cs)
  (hA:∀ t ∈ atomsR r,∀ u ∈ t.l,u.op=1→nm u ∈ V) (hL:∀ l ∈ r.body,(l.x.op=1→nm l.x ∈ V)∧(l.y.op=1→nm l.y ∈ V)) (hT:∀ t ∈ termsR r,GT V t) (hS:∀ t ∈ termsR r,t.s.size≤maxLen) (hty:∀ e ∈ ds,∀ k ∈ e.types,k=1∨k=2) (E:YEnv n0 a b' c d w) :
  Calls Tryz.prog 93 #[v,.agg cs.toArray] w (TypR V n0 w a c d ds r):=callsIn_wide.1 (typesOf_in ds v r cs V hV a b' c d n0 w hn0 hd hc hA hL hT hS hty E)
end Go.Proofs.YtakpgcmfjlbcgaaGreatDoor
namespace Go.Proofs.YtakpgcmfjlbcgaaGreatDoor
open Lib(hid)
open Go.RowKit
theorem sub_mem {u:Tm}:∀ {l:List Tm},u ∈ l→u ∈ subTs l
 | t::l,h=>by
  unfold subTs
  rcases List.mem_cons.1 h with rfl | h
  ·exact List.mem_append_left _ (by rw[subT_eq];exact List.mem_cons_self ..)
  ·exact List.mem_append_right _ (sub_mem h)
mutual
theorem subT_child (u:Tm):∀ (t s:Tm),s ∈ subT t→u ∈ s.l→u ∈ subT t
 | .mk o b n l,s,hs,hu=>by
  unfold subT at hs ⊢
  rcases List.mem_cons.1 hs with rfl | hs
  ·exact List.mem_cons_of_mem _ (sub_mem hu)
  ·exact List.mem_cons_of_mem _ (subTs_child u l s hs hu)
theorem subTs_child (u:Tm):∀ (l:List Tm) (s:Tm),s ∈ subTs l→u ∈ s.l→u ∈ subTs l
 | [],s,hs,_=>by unfold subTs at hs;cases hs
 | t::l,s,hs,hu=>by
  unfold subTs at hs ⊢
  rcases List.mem_append.1 hs with hs | hs
  ·exact List.mem_append_left _ (subT_child u t s hs hu)
  ·exact List.mem_append_right _ (subTs_child u l s hs hu)
end
theorem lit_terms {r:Ru} {l:Lt} (h:l ∈ r.body) {u:Tm} (hu:u ∈ litTs l):u ∈ termsR r:=List.mem_append_right _ (List.mem_flatMap.2 ⟨l,h,hu⟩)
theorem terms_child {r:Ru} {t u:Tm} (ht:t ∈ termsR r) (hu:u ∈ t.l):u ∈ termsR r:=by
 rcases List.mem_append.1 ht with ht | ht
 ·exact List.mem_append_left _ (subTs_child u _ t ht hu)
 ·obtain⟨l,hl,ht⟩:=List.mem_flatMap.1 ht
  refine lit_terms hl ?_
  unfold litTs at ht ⊢
  rcases List.mem_append.1 ht with ht | ht
  ·exact List.mem_append_left _ (subTs_child u _ t ht hu)
  ·exact List.mem_append_right _ (subTs_child u _ t ht hu)
theorem terms_xy {r:Ru} {l:Lt} (h:l ∈ r.body):l.x ∈ termsR r∧l.y ∈ termsR r:=
 ⟨lit_terms h (List.mem_append_left _ (sub_mem (List.mem_cons_self ..))),lit_terms h (List.mem_append_left _ (sub_mem (List.mem_cons_of_mem _ (List.mem_cons_self ..))))⟩
theorem atomsL_mem {t:Am}:∀ {l:List Lt},t ∈ atomsL l→∃ x ∈ l,x.a=t
 | x::l,h=>by
  unfold atomsL at h
  split at h
  ·obtain⟨y,hy,e⟩:=atomsL_mem h
   exact⟨y,List.mem_cons_of_mem _ hy,e⟩
  ·rcases List.mem_cons.1 h with rfl | h
   ·exact⟨x,List.mem_cons_self ..,rfl⟩
   ·obtain⟨y,hy,e⟩:=atomsL_mem h
    exact⟨y,List.mem_cons_of_mem _ hy,e⟩
theorem terms_atom {r:Ru} {t:Am} (ht:t ∈ atomsR r) {u:Tm} (hu:u ∈ t.l):u ∈ termsR r:=by
 rcases List.mem_cons.1 ht with rfl | ht
 ·exact List.mem_append_left _ (sub_mem hu)
 ·obtain⟨l,hl,rfl⟩:=atomsL_mem ht
  exact lit_terms hl (List.mem_append_right _ (sub_mem hu))
theorem typesOf_all (ds:List De) (v:Value) (r:Ru) (cs:List Value) (a b' c d:Addr) (n0:Nat) (w:World) (hn0:w.heap.size=n0) (hd:SlOf w n0 6 (DeC w n0) ds v) (hc:RuC w n0 r cs)
  (hlen:(termsR r).length≤1000000) (hS:∀ t ∈ termsR r,t.s.size≤maxLen) (hty:∀ e ∈ ds,∀ k ∈ e.types,k=1∨k=2) (E:YEnv n0 a b' c d w) :
  Calls Tryz.prog 93 #[v,.agg cs.toArray] w (TypR ((termsR r).map nm) n0 w a c d ds r):=
 typesOf_c ds v r cs _ (by rw[List.length_map];exact hlen) a b' c d n0 w hn0 hd hc (fun _ ht _ hu _=>List.mem_map.2 ⟨_,terms_atom ht hu,rfl⟩)
  (fun _ hl=>⟨fun _=>List.mem_map.2 ⟨_,(terms_xy hl).1,rfl⟩,fun _=>List.mem_map.2 ⟨_,(terms_xy hl).2,rfl⟩⟩) (fun _ ht _ hu _=>List.mem_map.2 ⟨_,terms_child ht hu,rfl⟩) hS hty E
end Go.Proofs.YtakpgcmfjlbcgaaGreatDoor
namespace Go.Proofs.YtakpgcmfjlbcgaaGreatDoor
open Lib(hid)
open Go.RowKit
theorem bytes_ext {s t:ByteArray} (h:s.data.toList=t.data.toList):s=t:=by
 cases s;cases t;congr 1;exact Array.toList_inj.1 h
theorem rev_ind {α:Type} {P:List α→Prop} (h0:P []) (h1:∀ l x,P l→P (l++[x])) (l:List α):P l:=by
 have:∀ m:List α,P m.reverse:=by
  intro m
  induction m with
  | nil=>exact h0
  | cons x m ih=>rw[List.reverse_cons];exact h1 _ _ ih
 rw[← List.reverse_reverse l]
 exact this _
structure Sub (r r':Ru):Prop where
 head:r.head=r'.head
 body:∀ l ∈ r.body,l ∈ r'.body
theorem mem_atomsL {t:Am} {l:List Lt}:t ∈ atomsL l ↔ ∃ x ∈ l,duoB x=false∧x.a=t:=by
 induction l with
 | nil=>exact⟨fun h=>(by cases h),fun ⟨_,h,_⟩=>by cases h⟩
 | cons y l ih=>
  unfold atomsL
  cases hd:duoB y with
  | true=>
   simp only[if_true]
   rw[ih]
   refine⟨fun ⟨x,h1,h2⟩=>⟨x,List.mem_cons_of_mem _ h1,h2⟩,fun ⟨x,h1,h2,h3⟩=>?_⟩
   rcases List.mem_cons.1 h1 with rfl | h1
   ·rw[hd] at h2;cases h2
   ·exact⟨x,h1,h2,h3⟩
  | false=>
   simp only[Bool.false_eq_true,if_false]
   rw[List.mem_cons,ih]
   refine⟨?_,fun ⟨x,h1,h2,h3⟩=>?_⟩
   ·rintro (rfl | ⟨x,h1,h2⟩)
    ·exact⟨y,List.mem_cons_self ..,hd,rfl⟩
    ·exact⟨x,List.mem_cons_of_mem _ h1,h2⟩
   ·rcases List.mem_cons.1 h1 with rfl | h1
    ·exact .inl h3.symm
    ·exact .inr ⟨x,h1,h2,h3⟩
theorem mem_prsL {p:Tm × Tm} {l:List Lt}:p ∈ prsL l ↔ ∃ x ∈ l,duoB x=true∧(x.x,x.y)=p:=by
 induction l with
 | nil=>exact⟨fun h=>(by cases h),fun ⟨_,h,_⟩=>by cases h⟩
 | cons y l ih=>
  unfold prsL
  cases hd:duoB y with
  | false=>
   simp only[Bool.false_eq_true,if_false]
   rw[ih]
   refine⟨fun ⟨x,h1,h2⟩=>⟨x,List.mem_cons_of_mem _ h1,h2⟩,fun ⟨x,h1,h2,h3⟩=>?_⟩
   rcases List.mem_cons.1 h1 with rfl | h1
   ·rw[hd] at h2;cases h2
   ·exact⟨x,h1,h2,h3⟩
  | true=>
   simp only[if_true]
   rw[List.mem_cons,ih]
   refine⟨?_,fun ⟨x,h1,h2,h3⟩=>?_⟩
   ·rintro (rfl | ⟨x,h1,h2⟩)
    ·exact⟨y,List.mem_cons_self ..,hd,rfl⟩
    ·exact⟨x,List.mem_cons_of_mem _ h1,h2⟩
   ·rcases List.mem_cons.1 h1 with rfl | h1
    ·exact .inl h3.symm
    ·exact .inr ⟨x,h1,h2,h3⟩
theorem Sub.atoms {r r':Ru} (h:Sub r r'):∀ t ∈ atomsR r,t ∈ atomsR r':=fun t ht=>by
 rcases List.mem_cons.1 ht with rfl | ht
 ·rw[h.head];exact List.mem_cons_self ..
 ·obtain⟨x,h1,h2⟩:=mem_atomsL.1 ht
  exact List.mem_cons_of_mem _ (mem_atomsL.2 ⟨x,h.body x h1,h2⟩)
theorem Sub.prs {r r':Ru} (h:Sub r r'):∀ t ∈ prsL r.body,t ∈ prsL r'.body:=fun t ht=>by
 obtain⟨x,h1,h2⟩:=mem_prsL.1 ht
 exact mem_prsL.2 ⟨x,h.body x h1,h2⟩
theorem Sub.terms {r r':Ru} (h:Sub r r'):∀ t ∈ termsR r,t ∈ termsR r':=fun t ht=>by
 rcases List.mem_append.1 ht with ht | ht
 ·rw[h.head] at ht;exact List.mem_append_left _ ht
 ·obtain⟨l,h1,h2⟩:=List.mem_flatMap.1 ht
  exact List.mem_append_right _ (List.mem_flatMap.2 ⟨l,h.body l h1,h2⟩)
theorem mem_nums {l m:List Tm} (h:∀ t ∈ l,t ∈ m):∀ x ∈ nums l,x ∈ nums m:=fun x hx=>by
 unfold nums at hx ⊢
 obtain⟨t,h1,h2⟩:=List.mem_map.1 hx
 exact List.mem_map.2 ⟨t,h t h1,h2⟩
theorem Sub.base {r r':Ru} (h:Sub r r') (ds:List De):∀ t ∈ baseL ds r,t ∈ baseL ds r':=fun t ht=>by
 unfold baseL at ht ⊢
 rcases List.mem_append.1 ht with ht | ht
 ·obtain⟨a,h1,h2⟩:=List.mem_flatMap.1 ht
  exact List.mem_append_left _ (List.mem_flatMap.2 ⟨a,h.atoms a h1,h2⟩)
 ·refine List.mem_append_right _ ?_
  rcases List.mem_append.1 ht with ht | ht
  ·refine List.mem_append_left _ (mem_nums (fun u hu=>?_) t ht)
   obtain⟨l,h1,h2⟩:=List.mem_flatMap.1 hu
   exact List.mem_flatMap.2 ⟨l,h.body l h1,h2⟩
  ·refine List.mem_append_right _ (mem_nums (fun u hu=>?_) t ht)
   obtain⟨l,h1,h2⟩:=List.mem_flatMap.1 hu
   exact List.mem_flatMap.2 ⟨l,h.terms l h1,h2⟩
theorem chkA_iff {ds:List De} {l:List Am}:chkA ds l=0 ↔ ∀ t ∈ l,badA ds t=0:=by
 refine⟨fun h=>?_,chkA_all⟩
 induction l with
 | nil=>intro t ht;cases ht
 | cons x l ih=>
  unfold chkA at h
  by_cases hx:badA ds x=0
  ·rw[if_pos hx] at h
   intro t ht
   rcases List.mem_cons.1 ht with rfl | ht
   ·exact hx
   ·exact ih h t ht
  ·rw[if_neg hx] at h;exact absurd h hx
theorem Sub.chk {r r':Ru} (h:Sub r r') {ds:List De} (hc:chkA ds (atomsR r')=0):chkA ds (atomsR r)=0:=chkA_iff.2 fun t ht=>chkA_iff.1 hc t (h.atoms t ht)
abbrev DerR (ds:List De) (r:Ru):List UInt8→Int→Prop:=Der (baseL ds r) (prsL r.body)
def Fits (ds:List De) (r:Ru):Prop:=NoConf (baseL ds r) (prsL r.body)∧∀ t ∈ termsR r,t.op=1→∃ k,k≠0∧DerR ds r (nm t) k
def atE:Nat→Int
 | 0=>0
 | 1=>51
 | _=>52
theorem atE_ne {n:Nat} (h:n≠0):atE n=51∨atE n=52:=by
 cases n with
 | zero=>exact absurd rfl h
 | succ n=>cases n with
  | zero=>exact .inl rfl
  | succ n=>exact .inr rfl
inductive TyA (ds:List De) (r:Ru):List Int→Int→Prop
 | tree:rightP ⟨ds,[r]⟩=false→TyA ds r [] 30
 | atom:rightP ⟨ds,[r]⟩=true→chkA ds (atomsR r)≠0→TyA ds r [] (atE (chkA ds (atomsR r)))
 | none:rightP ⟨ds,[r]⟩=true→chkA ds (atomsR r)=0→¬ Fits ds r→TyA ds r [] 53
 | some {K:Kn}:rightP ⟨ds,[r]⟩=true→chkA ds (atomsR r)=0→Fits ds r→(∀ s k,k≠0→(look K s=k ↔ DerR ds r s k))→(∀ s,look K s=0∨look K s=1∨look K s=2)→TyA ds r ((varsV (termsR r)).map fun s=>look K s.data.toList) 0
theorem rightTy_or {n:Int} (h:rightTy n=true):n=1∨n=2:=by
 unfold rightTy at h
 simpa using h
theorem right_types {ds:List De} {l:List Ru} (h:rightP ⟨ds,l⟩=true):∀ e ∈ ds,∀ k ∈ e.types,k=1∨k=2:=by
 intro e he k hk
 unfold rightP at h
 simp only[Bool.and_eq_true,List.all_eq_true] at h
 have:=h.1.2 e he
 unfold rightD at this
 simp only[Bool.and_eq_true,List.all_eq_true] at this
 exact rightTy_or (this.2 k hk)
theorem base_ne {ds:List De} {r:Ru} (hty:∀ e ∈ ds,∀ k ∈ e.types,k=1∨k=2):∀ x ∈ baseL ds r,x.2≠0:=fun x hx=>by
 have one:∀ l:List Tm,x ∈ nums l→x.2≠0:=fun l h=>by
  unfold nums at h
  obtain⟨t,_,rfl⟩:=List.mem_map.1 h
  show (1:Int)≠0
  decide
 unfold baseL at hx
 rcases List.mem_append.1 hx with hx | hx
 ·obtain⟨a,_,h2⟩:=List.mem_flatMap.1 hx
  unfold plc at h2
  split at h2
  ·cases h2
  ·split at h2
   ·cases h2
   ·rename_i d hd
    obtain⟨t,k⟩:=x
    have hk:=(List.of_mem_zip h2).2
    rcases hty d (List.mem_of_getElem? hd) k hk with rfl | rfl
    ·show (1:Int)≠0
     decide
    ·show (2:Int)≠0
     decide
 ·rcases List.mem_append.1 hx with hx | hx
  ·exact one _ hx
  ·exact one _ hx
theorem TyA.len {ds:List De} {r:Ru} {l:List Int} (h:TyA ds r l 0):l.length=(varsV (termsR r)).length:=by
 generalize he:(0:Int)=e at h
 cases h with
 | tree h=>cases he
 | atom h1 h2=>rcases atE_ne h2 with h | h <;> rw[h] at he <;> cases he
 | none h1 h2 h3=>cases he
 | some h1 h2 h3 h4 h5=>simp
theorem TyA.errs {ds:List De} {r:Ru} {l:List Int} {e:Int} (h:TyA ds r l e):(e=30∧rightP ⟨ds,[r]⟩=false)∨(rightP ⟨ds,[r]⟩=true∧((e=atE (chkA ds (atomsR r))∧(e=51∨e=52)∧chkA ds (atomsR r)≠0)∨(e=53∧chkA ds (atomsR r)=0∧¬ Fits ds r)∨(e=0∧chkA ds (atomsR r)=0∧Fits ds r))):=by
 cases h with
 | tree h=>exact .inl ⟨rfl,h⟩
 | atom h1 h2=>exact .inr ⟨h1,.inl ⟨rfl,atE_ne h2,h2⟩⟩
 | none h1 h2 h3=>exact .inr ⟨h1,.inr (.inl ⟨rfl,h2,h3⟩)⟩
 | some h1 h2 h3 h4 h5=>exact .inr ⟨h1,.inr (.inr ⟨rfl,h2,h3⟩)⟩
theorem TyA.nil {ds:List De} {r:Ru} {l:List Int} {e:Int} (h:TyA ds r l e) (he:e≠0):l=[]:=by
 cases h with
 | tree h=>rfl
 | atom h1 h2=>rfl
 | none h1 h2 h3=>rfl
 | some h1 h2 h3 h4 h5=>exact absurd rfl he
theorem TyA.det {ds:List De} {r:Ru} {l l':List Int} {e e':Int} (h:TyA ds r l e) (k:TyA ds r l' e'):e=e':=by
 rcases h.errs with ⟨rfl,h1⟩ | ⟨h1,h2⟩ <;> rcases k.errs with ⟨rfl,k1⟩ | ⟨k1,k2⟩
 ·rfl
 ·rw[h1] at k1;cases k1
 ·rw[h1] at k1;cases k1
 ·rcases h2 with ⟨rfl,_,h2⟩ | ⟨rfl,h2,h3⟩ | ⟨rfl,h2,h3⟩ <;> rcases k2 with ⟨rfl,_,k2⟩ | ⟨rfl,k2,k3⟩ | ⟨rfl,k2,k3⟩
  ·rfl
  ·exact absurd k2 h2
  ·exact absurd k2 h2
  ·exact absurd h2 k2
  ·rfl
  ·exact absurd k3 h3
  ·exact absurd h2 k2
  ·exact absurd h3 k3
  ·rfl
def placeV (l:List ByteArray) (s:ByteArray):Int:=
 match l.findIdx? fun x=>x.toList == s.toList with
 | none => -1
 | some i=>i
def typedV (vars:List ByteArray) (types:List Int) (s:ByteArray):Int:=if placeV vars s < 0∨(types.length:Int)≤placeV vars s then 0 else types.getD (placeV vars s).toNat 0
theorem place_mem {l:List ByteArray} {s:ByteArray} (h:s ∈ l):∃ i:Nat,placeV l s=i∧l[i]?=some s:=by
 unfold placeV
 cases hf:l.findIdx? fun x=>x.toList == s.toList with
 | none=>
  rw[List.findIdx?_eq_none_iff] at hf
  have:=hf s h
  simp at this
 | some i=>
  obtain⟨hi,h1,_⟩:=List.findIdx?_eq_some_iff_getElem.1 hf
  refine⟨i,rfl,?_⟩
  rw[List.getElem?_eq_getElem hi]
  congr 1
  have h1:l[i].toList=s.toList:=by simpa using h1
  rw[ByteArray.toList_eq,ByteArray.toList_eq] at h1
  exact bytes_ext h1
theorem Fits.of {ds:List De} {r r':Ru} (h:Sub r r') (k:Sub r' r) (hf:Fits ds r'):Fits ds r:=
 ⟨hf.1.sub (h.base ds) h.prs,fun t ht hv=>by
  obtain⟨n,h1,h2⟩:=hf.2 t (h.terms t ht) hv
  exact⟨n,h1,h2.sub (k.base ds) k.prs⟩⟩
end Go.Proofs.YtakpgcmfjlbcgaaGreatDoor
namespace Go.Proofs.YtakpgcmfjlbcgaaGreatDoor
open Lib(hid)
open Go.RowKit
def NoTw (ds:List De) (n:Nat):Prop:=∀ (i:Nat) (d:De),i < n→ds[i]?=some d→findY d.rel ds=some i
theorem find_le {ds:List De} {i:Nat} {d:De} (h:ds[i]?=some d):∃ j:Nat,findY d.rel ds=some j∧j≤i:=by
 have key:∀ (l:List De) (k i:Nat),l[i]?=some d→∃ j:Nat,ixY d.rel k l=((k+j:Nat):Int)∧j≤i:=by
  intro l
  induction l with
  | nil=>intro k i h;cases h
  | cons x l ih=>
   intro k i h
   unfold ixY
   cases hx:relY d.rel x with
   | true=>exact⟨0,by simp,Nat.zero_le _⟩
   | false=>
    cases i with
    | zero=>
     have e:x=d:=by simpa using h
     subst e
     simp[relY] at hx
    | succ i=>
     obtain⟨j,h1,h2⟩:=ih (k+1) i (by simpa using h)
     exact⟨j+1,by simp only[Bool.false_eq_true,if_false];rw[h1];congr 1;omega,by omega⟩
 obtain⟨j,h1,h2⟩:=key ds 0 i h
 refine⟨j,?_,h2⟩
 unfold findY
 rw[h1,Nat.zero_add,if_neg (by omega)]
 simp
inductive ChA (p:Pg):Int→Int→Prop
 | tree:rightP p=false→ChA p 0 30
 | twice {i:Nat} {d:De}:rightP p=true→p.decls[i]?=some d→findY d.rel p.decls≠some i→NoTw p.decls i→ChA p d.line 50
 | rule {k:Nat} {r:Ru} {l:List Int} {e:Int}:rightP p=true→NoTw p.decls p.decls.length→p.rules[k]?=some r→(∀ (j:Nat) (r':Ru),j < k→p.rules[j]?=some r'→∃ l,TyA p.decls r' l 0)→TyA p.decls r l e→e≠0→ChA p r.line e
 | ok:rightP p=true→NoTw p.decls p.decls.length→(∀ r ∈ p.rules,∃ l,TyA p.decls r l 0)→ChA p 0 0
theorem rightP_less {p:Pg} (h:rightP p=true) {l:List Ru} (hl:l.length≤p.rules.length) (hm:∀ r ∈ l,r ∈ p.rules):rightP ⟨p.decls,l⟩=true:=by
 unfold rightP at h ⊢
 simp only[Bool.and_eq_true,decide_eq_true_eq,List.all_eq_true] at h ⊢
 exact⟨⟨⟨h.1.1.1,by omega⟩,h.1.2⟩,fun r hr=>h.2 r (hm r hr)⟩
theorem rightP_one {p:Pg} (h:rightP p=true) {r:Ru} (hr:r ∈ p.rules):rightP ⟨p.decls,[r]⟩=true:=
 rightP_less h (by have:=List.length_pos_of_mem hr;simp;omega) (fun x hx=>by rw[List.mem_singleton.1 hx];exact hr)
theorem ChA.right {p:Pg} {ln e:Int} (h:ChA p ln e) (he:e≠30):rightP p=true:=by
 cases h with
 | tree h=>exact absurd rfl he
 | twice h=>exact h
 | rule h=>exact h
 | ok h=>exact h
end Go.Proofs.YtakpgcmfjlbcgaaGreatDoor
