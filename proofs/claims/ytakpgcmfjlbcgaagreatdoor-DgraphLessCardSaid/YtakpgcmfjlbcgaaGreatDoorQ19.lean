/- Ychk@0123, Yplc@0123 -/
import Derived.StillTailTactics
import Derived.Test.YtakpgcmfjlbcgaaGreatDoorQ7
import Derived.Test.YtakpgcmfjlbcgaaGreatDoorQ12
import Derived.Test.YtakpgcmfjlbcgaaGreatDoorQ18
import Derived.Test.YtakpgcmfjlbcgaaGreatDoorQ15
set_option linter.unusedSimpArgs false
set_option linter.unusedVariables false
namespace Go.Proofs.YtakpgcmfjlbcgaaGreatDoor
open Lib(hid)
open Go.RowKit Go.Shelf
attribute [local go_sem] Oper.semAt_some
theorem region_quiet_round {lp n id:Nat} {P:Program} {Q:Exit→Act→World→Prop} {a:Act} {w:World} {l:List Oper} (hm:P.follows .mixedOrders=true) (hd:noDefer l.toArray=true) (hQ:¬ LetsOut Q) (hB:Region.lexB .any l.toArray=true)
  (h:wpQuiet P l.toArray (fun w'=>∃ n,w'=w.drewN n) (fun a'=>∀ w',(∃ n,w'=w.drewN n)→Q .normal a' w') l a):(Code.region id l.toArray true).wpIn (Fence.wide.inRound lp) n P Q a w:=by
 simp only[Region.lexB,Bool.and_eq_true] at hB
 refine any_region hm hd hQ (wpAny_of_quiet (C:=fun w'=>∃ n,w'=w.drewN n) (Q:=fun a'=>∀ w',(∃ n,w'=w.drewN n)→Q .normal a' w') (fun _ w' hw' h=>h w' hw') _ _ _ _ ⟨1,rfl⟩ ?_)
 have:=wpAnyQ_lex (C:=fun w'=>∃ n,w'=w.drewN n) (md:=.any) hB.1 l 0 (Array.replicate l.toArray.size false) a (by simp) (by simpa using hB.2) h
 simpa using this
theorem loadVar_err {W:World} {b:Nat} {v:Value} (h:W.cell? ⟨b,0,none⟩=some v):(loadVar 95 ⟨b,0,none⟩).run Tryz.prog W=.ok v W:=by
 have ha:∀ w:World,(isAgg 95).run Tryz.prog w=.ok false w:=fun w=>by kernel_rfl
 have hl:b < W.heap.size:=World.block_lt_of_cell? _ _ h
 unfold loadVar
 go_simp
theorem keepsFrom_drewN {B n:Nat} {W W':World} (h:KeepsFrom B W W'):KeepsFrom B W (W'.drewN n):=⟨h.size,h.same⟩
theorem koF_drewN {n:Nat} {W W':World} (h:KO (fun _ _=>False) W W'):KO (fun _ _=>False) W (W'.drewN n):=⟨h.size,h.same,fun _ h=>h.elim,fun _ _ h=>h.elim⟩
theorem below_drewN {B n:Nat} {W W':World} (h:Below B W W'):Below B W (W'.drewN n):=⟨h.os,h.tape,h.output,h.size,h.block⟩
def badA (ds:List De) (t:Am):Nat:=
 match findY t.rel ds with
 | none=>1
 | some i=>match ds[i]? with
  | none=>1
  | some d=>if d.types.length=t.l.length then 0 else 2
def badV (c d:Addr):Nat→Value
 | 0=>.nilIface
 | 1=>errV c
 | _=>errV d
def chkA (ds:List De):List Am→Nat
 | []=>0
 | t::l=>if badA ds t=0 then chkA ds l else badA ds t
theorem chkA_all {ds:List De}:∀ {l:List Am},(∀ t ∈ l,badA ds t=0)→chkA ds l=0
 | [],_=>rfl
 | t::l,h=>by
  unfold chkA
  rw[if_pos (h t (List.mem_cons_self ..))]
  exact chkA_all fun x hx=>h x (List.mem_cons_of_mem _ hx)
theorem chkA_first {ds:List De} {t:Am} (ht:badA ds t≠0):∀ {l m:List Am},(∀ t ∈ l,badA ds t=0)→chkA ds (l++t::m)=badA ds t
 | [],m,_=>by
  show (if badA ds t=0 then chkA ds m else badA ds t)=_
  rw[if_neg ht]
 | u::l,m,h=>by
  show (if badA ds u=0 then chkA ds (l++t::m) else badA ds u)=_
  rw[if_pos (h u (List.mem_cons_self ..))]
  exact chkA_first ht fun x hx=>h x (List.mem_cons_of_mem _ hx)
theorem findY_some {s:ByteArray} {l:List De} {i:Nat} (h:findY s l=some i):∃ d,l[i]?=some d∧relY s d=true:=by
 unfold findY at h
 rcases ixY_cases s l 0 with ⟨h1,_⟩ | ⟨j,d,h1,h2,h3⟩
 ·rw[h1] at h;simp at h
 ·rw[h1,Nat.zero_add,if_neg (by omega)] at h
  have:j=i:=by simpa using h
  subst this
  exact⟨d,h2,h3⟩
theorem results_cell1 {P:Program} {fn:Func} {p:Tmp} {ty:TypeId} (h:fn.results=#[.cell p ty]) (tmps:Array Value) (w:World) (b:Nat) (v:Value) (hp:tmps.getD p undef=.pointer (some ⟨b,0,none⟩)) (hr:(loadVar ty ⟨b,0,none⟩).run P w=.ok v w) :
  (results fn tmps).run P w=.ok v w:=by
 have hp':tmps[p]?.getD undef=.pointer (some ⟨b,0,none⟩):=by simpa using hp
 simp[results,h,hp',asAddr,hr,Sem.run_bind,Result.andThen]
set_option maxRecDepth 100000 in
set_option maxHeartbeats 4000000 in
theorem checkAtoms_in (ds:List De) (v:Value) (r:Ru) (cs:List Value) (n₀:Nat) (a b' c d:Addr) (w:World) (hd:SlOf w n₀ 6 (DeC w n₀) ds v) (hc:RuC w n₀ r cs) (hn:n₀≤w.heap.size) (E:YEnv n₀ a b' c d w) :
  CallsIn Fence.wide 6 Tryz.prog 142 #[v,.agg cs.toArray] w fun e w'=>e=.returned (badV c d (chkA ds (atomsR r)))∧Below w.heap.size w w':=by
 obtain⟨o0,k0,o1,k1,rfl,_⟩:=hc.look
 obtain⟨od,kd,rfl,hdc,hdm,SD⟩:=SlOf.open hd
 have HC:=hid hc
 have HD:=hid hd
 have HE:=hid E
 clear hc hd E
 refine callsIn_of_wp_marks Tryz.func142 rfl trivial ?_ rfl
 simp only[Tryz.ntmps142,List.size_toArray,List.length_cons,List.length_nil,Nat.reduceAdd,Nat.reduceSub,Array.replicate_succ,Array.replicate_zero,List.push_toArray,List.append_toArray,List.nil_append,List.cons_append]
 obtain⟨n0,hn0⟩:∃ n0,w.heap.size=n0:=⟨_,rfl⟩
 gi_wp2_with fail
 obtain⟨W4,hW4⟩:∃ W4,(((w.alloc (.cells #[.slice od ds.length kd] 22)).alloc (.cells #[.string r.head.rel,.slice o0 r.head.l.length k0,.slice o1 r.body.length k1,.int .i64 r.line] 47)).alloc (.cells #[.nilIface] 95))=W4:=⟨_,rfl⟩
 have hs4:W4.heap.size=n0+3:=by rw[← hW4];simp;omega
 have hb4:Below n0 w W4:=by
  rw[← hW4]
  exact (((Below.refl n0 w).alloc (by omega) _).alloc (by simp;omega) _).alloc (by simp;omega) _
 have bd4:Boxed W4 n0 22 (.slice od ds.length kd):=by
  have:=((Boxed.new w 22 (.slice od ds.length kd)).alloc (.cells #[.string r.head.rel,.slice o0 r.head.l.length k0,.slice o1 r.body.length k1,.int .i64 r.line] 47)).alloc (.cells #[.nilIface] 95)
  rw[hn0,hW4] at this
  exact this
 have be4:Boxed W4 (n0+1+1) 95 .nilIface:=by
  have:=Boxed.new ((w.alloc (.cells #[.slice od ds.length kd] 22)).alloc (.cells #[.string r.head.rel,.slice o0 r.head.l.length k0,.slice o1 r.body.length k1,.int .i64 r.line] 47)) 95 .nilIface
  rw[hW4] at this
  simpa[hn0] using this
 rw[hW4]
 have HA:=hid (yatom_in 5 r _ W4 ((HC.out.below (hb4.mono (by omega))).more (by omega)))
 refine⟨trivial,HA.out.mono ?_⟩
 rintro e W5 ⟨rfl,hW5⟩
 rw[hs4]
 clear hW4
 gi_wp2_with fail
 rw[← hW5]
 have hs5:W5.heap.size=n0+4:=by rw[hW5];simp;omega
 have hb45:Below W4.heap.size W4 W5:=by rw[hW5];exact (Below.refl _ _).alloc (Nat.le_refl _) _
 have hb5:Below n0 w W5:=hb4.trans (hb45.mono (by omega))
 have bd5:Boxed W5 n0 22 (.slice od ds.length kd):=(hb45.block _ bd4.lt).trans bd4
 have be5:Boxed W5 (n0+1+1) 95 .nilIface:=(hb45.block _ be4.lt).trans be4
 have row5:W5.heap[n0+3]?=some (.cells #[.string r.head.rel,.slice o0 r.head.l.length k0,.slice o1 r.body.length k1,.int .i64 r.line] 47 (0,0)):=by rw[hW5,← hs4];exact World.alloc_heap_new W4 _
 have hB5:CellsAt W5 ⟨n0+3,0,none⟩ 0 [.string r.head.rel,.slice o0 r.head.l.length k0,.slice o1 r.body.length k1,.int .i64 r.line]:=fun j c hj=>by
  rw[Nat.zero_add]
  exact World.news_of_block row5 j c (by simpa using hj)
 have hc5:=HC.out.below (hb5.mono (by omega))
 have safe:Safe (fun _ _=>False) W5 W5:=fun p c hp=>⟨hp,World.block_lt_of_cell? _ _ hp,id⟩
 clear hW5 bd4 be4 hb45 HA
 refine wpIn_rangeFunc_ownH rfl (by omega) (gf:=191) (lb:=#[.pointer (some ⟨n0+3,0,none⟩)]) rfl trivial (enters_of Tryz.func191 (by kernel_rfl) rfl)
  (yatom_stops 5 (n0+3) n₀ r [.string r.head.rel,.slice o0 r.head.l.length k0,.slice o1 r.body.length k1,.int .i64 r.line] W5 W5 (fun _ _=>False) (fun _ _ _ _ _ h=>h) safe (fun _ h=>h.elim) hB5 hc5 (G:=fun _=>True) (fun _ _=>trivial)) (fun h k=>h.trans k) ?hKb (Below.refl _ _) (fun _=>rfl)
  (fun pre W=>(∀ x ∈ pre,badA ds x.t=0)∧KO (fun _ _=>False) W5 W∧Below n0 w W)
  (fun cd pre W=>(cd=.ret∧(∃ pre' x,pre=pre'++[x]∧(∀ y ∈ pre',badA ds y.t=0)∧badA ds x.t≠0∧Boxed W (n0+1+1) 95 (badV c d (badA ds x.t))))∧Below n0 w W) ?hI ?hIx ⟨by simp,KO.refl _ _,hb5⟩
  (fun x a' W=>∃ Bx,W.heap[Bx]?=some (.cells x.cs.toArray 44 (0,0))∧n0+4≤Bx∧a'={ tmps:=#[.slice od ds.length kd,.agg #[.string r.head.rel,.slice o0 r.head.l.length k0,.slice o1 r.body.length k1,.int .i64 r.line],.pointer (some ⟨n0,0,none⟩),.pointer (some ⟨n0+1,0,none⟩),.pointer (some ⟨n0+1+1,0,none⟩),.pointer (some ⟨Bx,0,none⟩),undef,undef,.agg #[.string r.head.rel,.slice o0 r.head.l.length k0,.slice o1 r.body.length k1,.int .i64 r.line],.func (.func 191) #[] #[.pointer (some ⟨n0+3,0,none⟩)],.agg x.cs.toArray,undef,undef,undef,undef,undef,undef,undef,undef,undef,undef,undef,undef,undef,undef,undef,undef,undef,undef,undef,undef,undef],defers:=[] })
  ?hAx ?assign ?body ?done ?stop
 case hKb=>
  intro W l o o' hl ho hc _
  exact⟨by simp,fun i x hi hx _=>(World.putObj_heap_other (by rintro rfl;rw[ho] at hi;cases hi;rw[hc] at hx;cases hx)).trans hi,fun _ h=>h.elim,fun _ _ h=>h.elim⟩
 case hI=>
  rintro pre A B row ⟨h1,h2,h3⟩ hg hr
  refine⟨h1,h2.trans ⟨hg.size,fun i o ho hc _=>(hg.block i (Array.getElem?_eq_some_iff.1 ho).1 (fun e=>?_)).trans ho,fun _ h=>h.elim,fun _ _ h=>h.elim⟩,ownFrom_below (β:=Unit) (by rw[hn0];exact Nat.le_refl _) (by omega) () A B row h3 hg hr⟩
  obtain⟨_,o',ho',hc'⟩:=hr _ e.symm
  rw[ho] at ho'
  cases ho'
  rw[hc] at hc'
  cases hc'
 case hIx=>
  rintro cd pre A B row ⟨⟨h0,pre',x,h1,h2,h3,h4⟩,h5⟩ hg hr
  exact⟨⟨h0,pre',x,h1,h2,h3,boxed_own (n0+1+1) 95 (fun (_:Unit)=>badV c d (badA ds x.t)) () A B row h4 hg (fun r e=>(hr r e).2)⟩,ownFrom_below (β:=Unit) (by rw[hn0];exact Nat.le_refl _) (by omega) () A B row h5 hg hr⟩
 case hAx=>
  rintro x a' _ A B row ⟨Bx,h1,h2,h3⟩ hg hr
  refine⟨Bx,(hg.block Bx (Array.getElem?_eq_some_iff.1 h1).1 (fun e=>?_)).trans h1,h2,h3⟩
  obtain⟨_,o',ho',hc'⟩:=hr _ e.symm
  rw[h1] at ho'
  cases ho'
  cases hc'
 case assign=>
  rintro lp pre ⟨t',cs',ok',gd'⟩ W K ⟨h1,h2,h3⟩ hK
  obtain⟨p',q',rfl,_⟩:=ok'.look
  have hb1:=(Below.refl W.heap.size W).alloc (Nat.le_refl _) (.cells #[.string t'.rel,.slice p' t'.l.length q'] 44)
  have hko:KO (fun _ _=>False) W (W.alloc (.cells #[.string t'.rel,.slice p' t'.l.length q'] 44)):=KO.of_below (fun _ _ _ _ _ h=>h) (fun _ h=>h.elim) hb1
  have HK:=hid (hK _ _ ((KeepsOthers.alloc W _).from _) hko ⟨h1,h2.trans hko,h3.trans (hb1.mono (by have:=h3.size;omega))⟩ ⟨W.heap.size,World.alloc_heap_new W _,by have:=h2.size;omega,rfl⟩)
  clear hK h1 h2 h3 hb1 hko
  simp only[Na.enc]
  gi_wp2
  exact HK.out
 case body=>
  rintro lp pre ⟨t',cs',ok',gd'⟩ a' W hlp hrec ⟨h1,h2,h3⟩ ⟨Bx,hrow,hBx,rfl⟩ hlen2
  obtain⟨p',q',rfl,_⟩:=ok'.look
  have e0:W.cell? ⟨Bx,0,none⟩=some (.string t'.rel):=by unfold World.cell?;rw[hrow];rfl
  have e1:W.cell? ⟨Bx,1,none⟩=some (.slice p' t'.l.length q'):=by unfold World.cell?;rw[hrow];rfl
  have hBl:Bx < W.heap.size:=(Array.getElem?_eq_some_iff.1 hrow).1
  have bdW:Boxed W n0 22 (.slice od ds.length kd):=h2.same _ _ bd5 rfl id
  have beW:Boxed W (n0+1+1) 95 .nilIface:=h2.same _ _ be5 rfl id
  have hdW:=bdW.cell
  have hdl:=bdW.lt
  have hWs:=h2.size
  have HF:=hid (find_c t'.rel n₀ ds (.slice od ds.length kd) W (SlOf.decl HD.out (h3.mono (by omega)) (Nat.le_refl _)) (by omega))
  have H1:=hid h1
  have H2:=hid h2
  have H3:=hid h3
  have Hbe:=hid beW
  clear h1 h2 h3 hrow beW bdW
  gi_wp2_with fail
  refine⟨trivial,(CallsIn.inRound lp (callsIn_wide.2 HF.out)).mono ?_⟩
  rintro e W3 ⟨rfl,b3⟩
  have B3:=hid (H3.out.trans (b3.mono (by omega)))
  have be3:Boxed W3 (n0+1+1) 95 .nilIface:=(b3.block _ Hbe.out.lt).trans Hbe.out
  have hec:=be3.cell
  have hef:=be3.frozen
  have hs3:=b3.size
  have hk3:Hid (KeepsOthers W W3):=hid ⟨b3.size,fun i _ hi _=>(b3.block i (Array.getElem?_eq_some_iff.1 hi).1).trans hi⟩
  have hko:Hid (KO (fun _ _=>False) W W3):=hid (KO.of_below (fun _ _ _ _ _ h=>h) (fun _ h=>h.elim) b3)
  have hbox:=fun (o:Nat)=>b3.cell (p:=⟨Bx,o,none⟩) hBl
  have e0':=(hbox 0).trans e0
  have e1':=(hbox 1).trans e1
  have hdW':=(b3.cell (p:=⟨n0,0,none⟩) hdl).trans hdW
  have hno:=(HE.out.below (B3.out.mono (by omega))).no
  have har:=(HE.out.below (B3.out.mono (by omega))).ar
  have Hbe3:=hid be3
  unfold errV at hno har
  clear hbox b3 be3 e0 e1 hdW
  cases hf:findY t'.rel ds with
  | none=>
   have Hq:Hid (badA ds t'=1):=hid (by unfold badA;rw[hf])
   clear hf har
   unfold findV
   gi_wp2
   refine⟨(hk3.out.trans (KeepsOthers.setCell _ _ _)).from _,⟨rfl,pre,_,rfl,H1.out,?_,?_⟩,B3.out.setCell (p:=⟨n0+1+1,0,none⟩) (by show n0≤n0+1+1;omega) _⟩
   ·show badA ds t'≠0
    rw[Hq.out]
    decide
   ·show Boxed _ _ _ (badV c d (badA ds t'))
    rw[Hq.out]
    exact Hbe3.out.set _
  | some i=>
   obtain⟨dd,hi,_⟩:=findY_some hf
   have hil:i < ds.length:=(List.getElem?_eq_some_iff.1 hi).1
   have hil':(i:Int) < (ds.length:Int):=by omega
   have hi0:(0:Int)≤(i:Int):=by omega
   obtain⟨b,p3,q3,p4,q4,rfl,hbb,Hc3,hca⟩:=de_in SD (B3.out.mono (by omega)) hi
   obtain⟨f0,f1,f2,f3,f4,f5⟩:=hca.n6
   have hbl:(b.add (i * 6)).block < W3.heap.size:=by rw[addBlock];omega
   have Hq0:Hid (badA ds t'=if dd.types.length=t'.l.length then 0 else 2):=hid (by unfold badA;rw[hf];simp only[hi])
   clear hf hno hi hca Hc3
   unfold findV
   by_cases hlen3:dd.types.length=t'.l.length
   ·have Hq:Hid (badA ds t'=0):=hid (by rw[Hq0.out,if_pos hlen3])
    have hne:((dd.types.length:Int) != (t'.l.length:Int))=false:=by simp[hlen3]
    gi_wp2_with fail
    refine region_quiet_round (by kernel_rfl) (by kernel_rfl) (fun ⟨_,_,h⟩=>h) (by kernel_rfl) ?_
    repeat (go_big_quiet_step (fail))
    refine wpQuiet_nil ?_
    intro _ hw'
    obtain⟨nq,hw''⟩:=hw'
    subst hw''
    gi_wp2
    exact⟨keepsFrom_drewN (hk3.out.from _),koF_drewN hko.out,fun x hx=>(List.mem_append.1 hx).elim (H1.out x) (fun hx=>by rw[List.mem_singleton.1 hx];exact Hq.out),koF_drewN (H2.out.trans hko.out),below_drewN B3.out⟩
   ·have Hq:Hid (badA ds t'=2):=hid (by rw[Hq0.out,if_neg hlen3])
    have hne:((dd.types.length:Int) != (t'.l.length:Int))=true:=by rw[bne_iff_ne];intro h;exact hlen3 (by omega)
    gi_wp2_with fail
    refine region_quiet_round (by kernel_rfl) (by kernel_rfl) (fun ⟨_,_,h⟩=>h) (by kernel_rfl) ?_
    repeat (go_big_quiet_step (fail))
    refine wpQuiet_nil ?_
    intro _ hw'
    obtain⟨nq,hw''⟩:=hw'
    subst hw''
    gi_wp2
    refine⟨(KeepsOthers.trans (⟨hk3.out.size,hk3.out.same⟩:KeepsOthers W (W3.drewN nq)) (KeepsOthers.setCell _ _ _)).from _,⟨rfl,pre,_,rfl,H1.out,?_,?_⟩,(below_drewN B3.out).setCell (p:=⟨n0+1+1,0,none⟩) (by show n0≤n0+1+1;omega) _⟩
    ·show badA ds t'≠0
     rw[Hq.out]
     decide
    ·show Boxed _ _ _ (badV c d (badA ds t'))
     rw[Hq.out]
     exact Boxed.set _ (show Boxed (W3.drewN nq) (n0+1+1) 95 .nilIface from Hbe3.out)
 case done=>
  rintro D ys W hD hys ⟨h1,h2,h3⟩ hK
  have hall:chkA ds (atomsR r)=0:=chkA_all fun x hx=>by
   rw[← hys] at hx
   obtain⟨y,hy,rfl⟩:=List.mem_map.1 hx
   exact h1 y hy
  have beW:Boxed W (n0+1+1) 95 .nilIface:=h2.same _ _ be5 rfl id
  have hec:=beW.cell
  have hef:=beW.frozen
  have hel:=beW.lt
  have hne:n0+1+1≠D:=by omega
  have Hd:=hid hK
  have H3:=hid h3
  have Hall:=hid hall
  have Hbe:=hid beW
  clear h1 h2 h3 hK hall beW
  gi_wp2
  have hd2:(W.setCell ⟨n0+1+1,0,none⟩ .nilIface).heap[D]?=some (.deferred (some [])):=(Below.heap_setCell W ⟨n0+1+1,0,none⟩ .nilIface D (fun e=>hne e.symm)).trans Hd.out
  have Hbs:=hid (Boxed.set .nilIface Hbe.out)
  have hsz:D < (W.setCell ⟨n0+1+1,0,none⟩ .nilIface).heap.size:=(Array.getElem?_eq_some_iff.1 hd2).1
  refine⟨by simp,.inl ⟨_,_,rfl,run_takeDeferred hd2,?_⟩⟩
  have hbx:Boxed ((W.setCell ⟨n0+1+1,0,none⟩ .nilIface).putObj D (.deferred none)) (n0+1+1) 95 .nilIface:=(World.putObj_heap_other hne).trans Hbs.out
  refine⟨_,results_cell1 rfl _ _ (n0+1+1) .nilIface rfl (loadVar_err hbx.cell),?_,?_⟩
  ·rw[Hall.out]
   rfl
  ·have B6:=H3.out.setCell (p:=⟨n0+1+1,0,none⟩) (by show n0≤n0+1+1;omega) .nilIface
   rw[hn0]
   exact⟨B6.os,B6.tape,B6.output,by simpa using B6.size,fun i hi=>(World.putObj_heap_other (by omega)).trans (B6.block i hi)⟩
 case stop=>
  rintro D cd pre W hD ⟨r1,hr1⟩ ⟨⟨rfl,pre',x,rfl,hg,hbad,hbx⟩,h5⟩ hK
  have hall:chkA ds (atomsR r)=badA ds x.t:=by
   rw[← hr1,List.map_append,List.map_cons,List.map_nil,List.append_assoc]
   exact chkA_first hbad fun t ht=>by
    obtain⟨y,hy,rfl⟩:=List.mem_map.1 ht
    exact hg y hy
  have hne:n0+1+1≠D:=by omega
  have Hd:=hid hK
  have H5:=hid h5
  have Hall:=hid hall
  have Hbx:=hid hbx
  clear h5 hK hall hbx hg hbad hr1
  gi_wp2
  refine⟨by simp,.inl ⟨_,_,rfl,run_takeDeferred Hd.out,?_⟩⟩
  have hbx:Boxed (W.putObj D (.deferred none)) (n0+1+1) 95 (badV c d (badA ds x.t)):=(World.putObj_heap_other hne).trans Hbx.out
  refine⟨_,results_cell1 rfl _ _ (n0+1+1) _ rfl (loadVar_err hbx.cell),?_,?_⟩
  ·rw[Hall.out]
  ·have B6:=H5.out
   rw[hn0]
   exact⟨B6.os,B6.tape,B6.output,by simpa using B6.size,fun i hi=>(World.putObj_heap_other (by omega)).trans (B6.block i hi)⟩
theorem checkAtoms_c (ds:List De) (v:Value) (r:Ru) (cs:List Value) (n₀:Nat) (a b' c d:Addr) (w:World) (hd:SlOf w n₀ 6 (DeC w n₀) ds v) (hc:RuC w n₀ r cs) (hn:n₀≤w.heap.size) (E:YEnv n₀ a b' c d w) :
  Calls Tryz.prog 142 #[v,.agg cs.toArray] w fun e w'=>e=.returned (badV c d (chkA ds (atomsR r)))∧Below w.heap.size w w':=callsIn_wide.1 (checkAtoms_in ds v r cs n₀ a b' c d w hd hc hn E)
end Go.Proofs.YtakpgcmfjlbcgaaGreatDoor
namespace Go.Proofs.YtakpgcmfjlbcgaaGreatDoor
open Lib(hid)
open Go.RowKit Go.Shelf
attribute [local go_sem] Oper.semAt_some
theorem region_still_round {lp m id:Nat} {P:Program} {Q:Exit→Act→World→Prop} {a:Act} {w:World} {l:List Oper} (n:Nat) (hm:P.follows .mixedOrders=true) (hd:noDefer l.toArray=true) (hQ:¬ LetsOut Q) (hB:Region.lexTailB .any l.toArray n=true)
  (h:wpStill P l.toArray w.drew (fun a'=>wpList P l.toArray Q (l.drop n) a' w.drew) (l.take n) a):(Code.region id l.toArray true).wpIn (Fence.wide.inRound lp) m P Q a w:=by
 simp only[Region.lexTailB,Bool.and_eq_true,decide_eq_true_eq] at hB
 obtain⟨⟨⟨⟨hsel,hn⟩,hs⟩,hc⟩,hlex⟩:=hB
 have hn':n < l.length:=by simpa using hn
 have htl:(l.take n).length=n:=by simp;omega
 have hdl:(l.drop n).length=l.toArray.size - n:=by simp
 have inv0:HeadInv .any l.toArray n (Array.replicate l.toArray.size false):=
  ⟨by simp,fun j oj _ hl=>(by rw[getD_replicate_false] at hl;cases hl),fun t _ ht=>getD_in (by simpa using ht) (getD_replicate_false _ _)⟩
 have H:=wpAnyL_lex (md:=.any) (g:=l.toArray.size - n) hsel hs hc hn (l.take n) 0 _ a (fun j hj=>by
  have hj':j < n:=by rw[htl] at hj;exact hj
  simp[hj']) (by simpa using htl) inv0 (by rw[htl];exact hlex) h
 refine any_region hm hd hQ ?_
 have:=wpAny_of_head (Q':=Q) (g:=l.toArray.size - n) (fun listed a' hL=>by
  have:=wpAny_of_seq (md:=.any) (Q':=Q) (l.drop n) n listed a' w.drew (fun j=>by simp[List.getElem?_drop]) (by rw[hdl];exact hL.1) hL.2
  rwa [hdl] at this) _ _ _ H
 rw[htl,show n+(l.toArray.size - n)=l.toArray.size by omega] at this
 exact this
theorem koF_kc {W W':World} (h:KC W W'):KO (fun _ _=>False) W W':=⟨h.size,fun i o hi ho _=>h.same i o hi ho,fun _ h=>h.elim,fun _ _ h=>h.elim⟩
def plc (ds:List De) (t:Am):List (Tm × Int):=
 match findY t.rel ds with
 | none=>[]
 | some i=>match ds[i]? with
  | none=>[]
  | some d=>t.l.zip d.types
def plcs (ds:List De) (l:List Am):List (Tm × Int):=l.flatMap (plc ds)
theorem plcs_snoc (ds:List De) (l:List Am) (t:Am):plcs ds (l++[t])=plcs ds l++plc ds t:=by simp[plcs]
theorem learnL_app (K:Kn):∀ (l m:List (Tm × Int)),learnL K (l++m)=(learnL K l).bind fun K'=>learnL K' m:=by
 intro l
 induction l generalizing K with
 | nil=>intro m;rfl
 | cons x l ih=>
  obtain⟨t,k⟩:=x
  intro m
  rw[List.cons_append,learnL_cons,learnL_cons]
  cases learn1 K t k with
  | none=>rfl
  | some K'=>exact ih K' m
theorem learnL_app_some {K K':Kn} {l:List (Tm × Int)} (h:learnL K l=some K') (m:List (Tm × Int)):learnL K (l++m)=learnL K' m:=by rw[learnL_app,h];rfl
theorem learnL_app_none {K:Kn} {l:List (Tm × Int)} (h:learnL K l=none) (m:List (Tm × Int)):learnL K (l++m)=none:=by rw[learnL_app,h];rfl
def aggT (l:List Lt):List Tm:=l.flatMap fun t=>if duoB t then [] else [t.x,t.y]
theorem aggT_drop {l:List Lt} {k:Nat} {t:Lt} (h:l[k]?=some t):aggT (l.drop k)=(if duoB t then [] else [t.x,t.y])++aggT (l.drop (k+1)):=by
 have h1:l.drop k=t::l.drop (k+1):=by rw[List.drop_eq_getElem_cons (List.getElem?_eq_some_iff.1 h).1,(List.getElem?_eq_some_iff.1 h).2]
 rw[h1];rfl
def baseL (ds:List De) (r:Ru):List (Tm × Int):=plcs ds (atomsR r)++(nums (aggT r.body)++nums ((termsR r).flatMap fun t=>t.l))
theorem ytwo_slice (W:World) (n₀:Nat) (hn:n₀≤W.heap.size) (x y:Tm) {x0 x1 x2 x3 y0 y1 y2 y3:Value} (hx:TmC W n₀ x [x0,x1,x2,x3]) (hy:TmC W n₀ y [y0,y1,y2,y3]) :
  SlOf (W.alloc (.cells #[x0,x1,x2,x3,y0,y1,y2,y3] 51)) (W.alloc (.cells #[x0,x1,x2,x3,y0,y1,y2,y3] 51)).heap.size 4 (TmC (W.alloc (.cells #[x0,x1,x2,x3,y0,y1,y2,y3] 51)) n₀) [x,y] (.slice (some ⟨W.heap.size,0,none⟩) 2 2):=by
 have hb:Below n₀ W (W.alloc (.cells #[x0,x1,x2,x3,y0,y1,y2,y3] 51)):=(Below.refl _ _).alloc hn _
 have hrow:=World.alloc_heap_new W (.cells #[x0,x1,x2,x3,y0,y1,y2,y3] 51)
 have news:=World.news_of_block hrow
 refine .inr ⟨⟨W.heap.size,0,none⟩,2,rfl,Nat.le_refl _,by unfold maxLen;omega,fun _=>by simp,fun i z hz=>?_⟩
 match i,hz with
 | 0,hz=>
  obtain rfl:x=z:=by simpa using hz
  refine⟨_,rfl,TmC.under hx hb,fun j c hj=>news (0 * 4+j) c ?_⟩
  rcases j with _ | _ | _ | _ | j <;> simp_all
 | 1,hz=>
  obtain rfl:y=z:=by simpa using hz
  refine⟨_,rfl,TmC.under hy hb,fun j c hj=>news (1 * 4+j) c ?_⟩
  rcases j with _ | _ | _ | _ | j <;> simp_all
 | i+2,hz=>simp at hz
theorem grown_end {B D L:Nat} {v:Value} {o:Obj} {w W:World} (h:w.grownBy W (some B)) (hD:w.heap.size≤D) (hL:w.heap.size≤L):w.grownBy ((W.setCell ⟨L,0,none⟩ v).putObj D o) (some B):=
 ⟨h.os,h.tape,h.output,by have:=h.size;simpa using this,fun q hq he=>(World.putObj_heap_other (by omega)).trans ((Below.heap_setCell W ⟨L,0,none⟩ v q (by show q≠L;omega)).trans (h.block q hq he))⟩
theorem nums_app (l m:List Tm):nums (l++m)=nums l++nums m:=by simp[nums]
def GA (ds:List De) (V:List (List UInt8)) (t:Am):Prop:=badA ds t=0∧∀ u ∈ t.l,u.op=1→nm u ∈ V
def GT (V:List (List UInt8)) (t:Tm):Prop:=∀ u ∈ t.l,u.op=1→nm u ∈ V
set_option maxRecDepth 100000 in
set_option maxHeartbeats 8000000 in
theorem places_in (ds:List De) (v:Value) (r:Ru) (cs:List Value) (B n₀:Nat) (V:List (List UInt8)) (hV:V.length≤1000000) (K:Kn) (a b' c d:Addr) (w:World) (hd:SlOf w n₀ 6 (DeC w n₀) ds v) (hc:RuC w n₀ r cs) (hB:n₀≤B) (hM:KnM V w B K)
  (hA:∀ t ∈ atomsR r,GA ds V t) (hL:∀ l ∈ r.body,(l.x.op=1→nm l.x ∈ V)∧(l.y.op=1→nm l.y ∈ V)) (hT:∀ t ∈ termsR r,GT V t) (hty:∀ e ∈ ds,∀ k ∈ e.types,k=1∨k=2) (E:YEnv n₀ a b' c d w) :
  CallsIn Fence.wide 6 Tryz.prog 143 #[.map (some B),v,.agg cs.toArray] w (LearnR V w B a (learnL K (baseL ds r))):=by
 obtain⟨o0,k0,o1,k1,rfl,_⟩:=hc.look
 obtain⟨od,kd,rfl,hdc,hdm,SD⟩:=SlOf.open hd
 have hBw:=hM.lt
 have HC:=hid hc
 have HD:=hid hd
 have HE:=hid E
 have HM:=hid hM
 have HA:=hid hA
 have HLt:=hid hL
 have HTt:=hid hT
 have Hty:=hid hty
 clear hc hd E hM hA hL hT hty
 refine callsIn_of_wp_marks Tryz.func143 rfl trivial ?_ rfl
 simp only[Tryz.ntmps143,List.size_toArray,List.length_cons,List.length_nil,Nat.reduceAdd,Nat.reduceSub,Array.replicate_succ,Array.replicate_zero,List.push_toArray,List.append_toArray,List.nil_append,List.cons_append]
 obtain⟨n0,hn0⟩:∃ n0,w.heap.size=n0:=⟨_,rfl⟩
 gi_wp2_with fail
 obtain⟨W4,hW4⟩:∃ W4,((((w.alloc (.cells #[.map (some B)] 151)).alloc (.cells #[.slice od ds.length kd] 22)).alloc (.cells #[.string r.head.rel,.slice o0 r.head.l.length k0,.slice o1 r.body.length k1,.int .i64 r.line] 47)).alloc (.cells #[.nilIface] 95))=W4:=⟨_,rfl⟩
 have hs4:W4.heap.size=n0+4:=by rw[← hW4];simp;omega
 have hb4:Below n0 w W4:=by
  rw[← hW4]
  exact ((((Below.refl n0 w).alloc (by omega) _).alloc (by simp;omega) _).alloc (by simp;omega) _).alloc (by simp;omega) _
 have bk4:Boxed W4 n0 151 (.map (some B)):=by
  have:=(((Boxed.new w 151 (.map (some B))).alloc (.cells #[.slice od ds.length kd] 22)).alloc (.cells #[.string r.head.rel,.slice o0 r.head.l.length k0,.slice o1 r.body.length k1,.int .i64 r.line] 47)).alloc (.cells #[.nilIface] 95)
  rw[hn0,hW4] at this
  exact this
 have bd4:Boxed W4 (n0+1) 22 (.slice od ds.length kd):=by
  have:=((Boxed.new (w.alloc (.cells #[.map (some B)] 151)) 22 (.slice od ds.length kd)).alloc (.cells #[.string r.head.rel,.slice o0 r.head.l.length k0,.slice o1 r.body.length k1,.int .i64 r.line] 47)).alloc (.cells #[.nilIface] 95)
  rw[hW4] at this
  simpa[hn0] using this
 have be4:Boxed W4 (n0+1+1+1) 95 .nilIface:=by
  have:=Boxed.new (((w.alloc (.cells #[.map (some B)] 151)).alloc (.cells #[.slice od ds.length kd] 22)).alloc (.cells #[.string r.head.rel,.slice o0 r.head.l.length k0,.slice o1 r.body.length k1,.int .i64 r.line] 47)) 95 .nilIface
  rw[hW4] at this
  simpa[hn0] using this
 have rr4:W4.heap[n0+1+1]?=some (.cells #[.string r.head.rel,.slice o0 r.head.l.length k0,.slice o1 r.body.length k1,.int .i64 r.line] 47 (0,0)):=by
  rw[← hW4]
  refine (Below.heap_alloc _ _ _ (by simp;omega)).trans ?_
  have:=World.alloc_heap_new ((w.alloc (.cells #[.map (some B)] 151)).alloc (.cells #[.slice od ds.length kd] 22)) (.cells #[.string r.head.rel,.slice o0 r.head.l.length k0,.slice o1 r.body.length k1,.int .i64 r.line] 47)
  simpa[hn0] using this
 rw[hW4]
 have HY1:=hid (yatom_in 5 r _ W4 ((HC.out.below (hb4.mono (by omega))).more (by omega)))
 refine⟨trivial,HY1.out.mono ?_⟩
 rintro e W5 ⟨rfl,hW5⟩
 rw[hs4]
 clear hW4
 gi_wp2_with fail
 rw[← hW5]
 have hs5:W5.heap.size=n0+5:=by rw[hW5];simp;omega
 have hb45:Below W4.heap.size W4 W5:=by rw[hW5];exact (Below.refl _ _).alloc (Nat.le_refl _) _
 have hb5:Below n0 w W5:=hb4.trans (hb45.mono (by omega))
 have bk5:Boxed W5 n0 151 (.map (some B)):=(hb45.block _ bk4.lt).trans bk4
 have bd5:Boxed W5 (n0+1) 22 (.slice od ds.length kd):=(hb45.block _ bd4.lt).trans bd4
 have be5:Boxed W5 (n0+1+1+1) 95 .nilIface:=(hb45.block _ be4.lt).trans be4
 have rr5:W5.heap[n0+1+1]?=some (.cells #[.string r.head.rel,.slice o0 r.head.l.length k0,.slice o1 r.body.length k1,.int .i64 r.line] 47 (0,0)):=(hb45.block _ (by omega)).trans rr4
 have row5:W5.heap[n0+4]?=some (.cells #[.string r.head.rel,.slice o0 r.head.l.length k0,.slice o1 r.body.length k1,.int .i64 r.line] 47 (0,0)):=by rw[hW5,← hs4];exact World.alloc_heap_new W4 _
 have hB5:CellsAt W5 ⟨n0+4,0,none⟩ 0 [.string r.head.rel,.slice o0 r.head.l.length k0,.slice o1 r.body.length k1,.int .i64 r.line]:=fun j c hj=>by
  rw[Nat.zero_add]
  exact World.news_of_block row5 j c (by simpa using hj)
 have hc5:=HC.out.below (hb5.mono (by omega))
 have safe:Safe (fun _ _=>False) W5 W5:=fun p c hp=>⟨hp,World.block_lt_of_cell? _ _ hp,id⟩
 have M5:KnM V W5 B K:=HM.out.below hb5 (by omega)
 have g05:Hid (w.grownBy W5 (some B)):=hid ⟨hb5.os,hb5.tape,hb5.output,by omega,fun k hk _=>hb5.block k (by omega)⟩
 clear hW5 bk4 bd4 be4 rr4 hb45 HY1
 refine wpIn_rangeFunc_ownH rfl (by omega) (gf:=191) (lb:=#[.pointer (some ⟨n0+4,0,none⟩)]) rfl trivial (enters_of Tryz.func191 (by kernel_rfl) rfl)
  (yatom_stops 5 (n0+4) n₀ r [.string r.head.rel,.slice o0 r.head.l.length k0,.slice o1 r.body.length k1,.int .i64 r.line] W5 W5 (fun _ _=>False) (fun _ _ _ _ _ h=>h) safe (fun _ h=>h.elim) hB5 hc5 (G:=GA ds V) HA.out) (fun h k=>h.trans k) ?hKb (Below.refl _ _) (fun _=>rfl)
  (fun pre W=>∃ Kk,learnL K (plcs ds (pre.map Na.t))=some Kk∧KnM V W B Kk∧W5.grownBy W (some B))
  (fun cd pre W=>cd=.ret∧learnL K (plcs ds (pre.map Na.t))=none∧Boxed W (n0+1+1+1) 95 (errV a)∧w.grownBy W (some B)) ?hI ?hIx ⟨K,rfl,M5,World.grownBy.refl _ _⟩
  (fun x a' W=>∃ Bx,W.heap[Bx]?=some (.cells x.cs.toArray 44 (0,0))∧n0+5≤Bx∧a'={ tmps:=#[.map (some B),.slice od ds.length kd,.agg #[.string r.head.rel,.slice o0 r.head.l.length k0,.slice o1 r.body.length k1,.int .i64 r.line],.pointer (some ⟨n0,0,none⟩),.pointer (some ⟨n0+1,0,none⟩),.pointer (some ⟨n0+1+1,0,none⟩),.pointer (some ⟨n0+1+1+1,0,none⟩),.pointer (some ⟨Bx,0,none⟩),undef,undef,undef,undef,undef,undef,undef,undef,undef,undef,.agg #[.string r.head.rel,.slice o0 r.head.l.length k0,.slice o1 r.body.length k1,.int .i64 r.line],.func (.func 191) #[] #[.pointer (some ⟨n0+4,0,none⟩)],.agg x.cs.toArray,undef,undef,undef,undef,undef,undef,undef,undef,undef,undef,undef,undef,undef,undef,undef,undef,undef,undef,undef,undef,undef,undef,undef,undef,undef,undef,undef,undef,undef,undef,undef,undef,undef,undef,undef,undef,undef,undef,undef,undef,undef,undef,undef,undef,undef,undef,undef,undef,undef,undef,undef,undef,undef,undef,undef,undef,undef,undef,undef,undef],defers:=[] })
  ?hAx ?assign ?body ?done ?stop
 case hKb=>
  intro W l o o' hl ho hc _
  exact⟨by simp,fun i x hi hx _=>(World.putObj_heap_other (by rintro rfl;rw[ho] at hi;cases hi;rw[hc] at hx;cases hx)).trans hi,fun _ h=>h.elim,fun _ _ h=>h.elim⟩
 case hI=>
  rintro pre A B1 row ⟨Kk,h1,h2,h3⟩ hg hr
  refine⟨Kk,h1,h2.same (hg.block B h2.lt (fun e=>by have:=(hr _ e.symm).1;omega)),⟨hg.os.trans h3.os,hg.tape.trans h3.tape,hg.output.trans h3.output,Nat.le_trans h3.size hg.size,fun k hk hne=>(hg.block k (Nat.lt_of_lt_of_le hk h3.size) (fun e=>by have:=(hr _ e.symm).1;omega)).trans (h3.block k hk hne)⟩⟩
 case hIx=>
  rintro cd pre A B1 row ⟨h0,h1,h2,h3⟩ hg hr
  exact⟨h0,h1,boxed_own (n0+1+1+1) 95 (fun (_:Unit)=>errV a) () A B1 row h2 hg (fun r e=>(hr r e).2),⟨hg.os.trans h3.os,hg.tape.trans h3.tape,hg.output.trans h3.output,Nat.le_trans h3.size hg.size,fun k hk hne=>(hg.block k (Nat.lt_of_lt_of_le hk h3.size) (fun e=>by have:=(hr _ e.symm).1;omega)).trans (h3.block k hk hne)⟩⟩
 case hAx=>
  rintro x a' _ A B1 row ⟨Bx,h1,h2,h3⟩ hg hr
  refine⟨Bx,(hg.block Bx (Array.getElem?_eq_some_iff.1 h1).1 (fun e=>?_)).trans h1,h2,h3⟩
  obtain⟨_,o',ho',hc'⟩:=hr _ e.symm
  rw[h1] at ho'
  cases ho'
  cases hc'
 case assign=>
  rintro lp pre ⟨t',cs',ok',gd'⟩ W K1 ⟨Kk,h1,h2,h3⟩ hK
  obtain⟨p',q',rfl,_⟩:=ok'.look
  have hb1:=(Below.refl W.heap.size W).alloc (Nat.le_refl _) (.cells #[.string t'.rel,.slice p' t'.l.length q'] 44)
  have hko:KO (fun _ _=>False) W (W.alloc (.cells #[.string t'.rel,.slice p' t'.l.length q'] 44)):=KO.of_below (fun _ _ _ _ _ h=>h) (fun _ h=>h.elim) hb1
  have HK:=hid (hK _ _ ((KeepsOthers.alloc W _).from _) hko ⟨Kk,h1,h2.below hb1 h2.lt,h3.trans (gB hb1 _)⟩ ⟨W.heap.size,World.alloc_heap_new W _,by have:=h3.size;omega,rfl⟩)
  clear hK h1 h2 h3 hb1 hko
  simp only[Na.enc]
  gi_wp2
  exact HK.out
 case body=>
  rintro lp pre ⟨t',cs',ok',gd'⟩ a' W hlp hrec ⟨Kp,h1,h2,h3⟩ ⟨Bx,hrow,hBx,rfl⟩ hlen2
  obtain⟨p',q',rfl,_,hts⟩:=ok'.look
  obtain⟨_,_,et,hc1,hc2,ST⟩:=SlOf.open hts
  cases et
  have hbad':=gd'.1
  obtain⟨hbad,hvs⟩:=id gd'
  obtain⟨i,dd,hf,hi,hdl⟩:∃ i dd,findY t'.rel ds=some i∧ds[i]?=some dd∧dd.types.length=t'.l.length:=by
   unfold badA at hbad
   cases hf:findY t'.rel ds with
   | none=>rw[hf] at hbad;cases hbad
   | some i=>
    obtain⟨dd,hi,_⟩:=findY_some hf
    rw[hf] at hbad
    simp only[hi] at hbad
    refine⟨i,dd,rfl,hi,?_⟩
    by_cases hh:dd.types.length=t'.l.length
    ·exact hh
    ·rw[if_neg hh] at hbad;cases hbad
  have Hplc:Hid (plc ds t'=t'.l.zip dd.types):=hid (by unfold plc;rw[hf];simp only[hi])
  have e0:W.cell? ⟨Bx,0,none⟩=some (.string t'.rel):=by unfold World.cell?;rw[hrow];rfl
  have e1:W.cell? ⟨Bx,1,none⟩=some (.slice p' t'.l.length q'):=by unfold World.cell?;rw[hrow];rfl
  have hBl:Bx < W.heap.size:=(Array.getElem?_eq_some_iff.1 hrow).1
  have hWs:=h3.size
  have bkW:Boxed W n0 151 (.map (some B)):=(h3.block n0 (by omega) (fun e=>by have:=Option.some.inj e;omega)).trans bk5
  have bdW:Boxed W (n0+1) 22 (.slice od ds.length kd):=(h3.block (n0+1) (by omega) (fun e=>by have:=Option.some.inj e;omega)).trans bd5
  have beW:Boxed W (n0+1+1+1) 95 .nilIface:=(h3.block (n0+1+1+1) (by omega) (fun e=>by have:=Option.some.inj e;omega)).trans be5
  have hdW:=bdW.cell
  have hdWl:=bdW.lt
  have hb5W:Below n₀ w W:=gBelow (g05.out.trans h3) hB (by omega)
  have HF:=hid (find_c t'.rel n₀ ds (.slice od ds.length kd) W (SlOf.decl HD.out hb5W (Nat.le_refl _)) (by omega))
  have hil:i < ds.length:=(List.getElem?_eq_some_iff.1 hi).1
  have hil':(i:Int) < (ds.length:Int):=by omega
  have hi0:(0:Int)≤(i:Int):=by omega
  obtain⟨b,p3,q3,p4,q4,rfl,hbb,Hc3,hca⟩:=de_in SD hb5W hi
  obtain⟨_,_,_,_,ed,_,_,_,hti⟩:=Hc3.out.look
  simp only[List.cons.injEq,Value.slice.injEq,true_and,and_true] at ed
  obtain⟨⟨rfl,rfl⟩,rfl,rfl⟩:=ed
  obtain⟨_,_,e4,hd1,hd2,SI⟩:=SlOf.open hti
  cases e4
  have H1:=hid h1
  have H2:=hid h2
  have H3:=hid h3
  have Hb5W:=hid hb5W
  have Hbk:=hid bkW
  have Hbd:=hid bdW
  have Hbe:=hid beW
  have Hca:=hid hca
  have Hdl:=hid hdl
  have Hvs:=hid hvs
  have Hrow:=hid hrow
  have Htk:=hid (fun k hk=>Hty.out dd (List.mem_of_getElem? hi) k hk)
  clear h1 h2 h3 hrow beW bdW bkW hca hdl hvs hbad hi hti Hc3 hts
  gi_wp2_with fail
  refine⟨trivial,(CallsIn.inRound lp (callsIn_wide.2 HF.out)).mono ?_⟩
  rintro e W3 ⟨rfl,b3⟩
  rw[hf]
  clear hf
  unfold findV
  have B3:=hid b3
  have hs3:=b3.size
  have e1':=(b3.cell (p:=⟨Bx,1,none⟩) hBl).trans e1
  clear b3 e0 e1 hdW
  gi_wp2
  gi_loopw [31] (fun jv wr=>∃ (k:Nat) (Kk:Kn),k≤t'.l.length∧jv=.int .i64 k∧learnL Kp (t'.l.zip dd.types)=learnL Kk ((t'.l.zip dd.types).drop k)∧KnM V wr B Kk∧W3.grownBy wr (some B)) (fun jv _=>t'.l.length - (intOf jv).toNat)
  case atStart=>exact⟨0,Kp,Nat.zero_le _,rfl,rfl,H2.out.below B3.out H2.out.lt,World.grownBy.refl _ _⟩
  case round=>
   obtain⟨k,Kk,hk,rfl,hr,hM2,hg2⟩:=hrel
   have Hr:=hid hr
   have HM2:=hid hM2
   have Hg2:=hid hg2
   have hBs:=hg2.size
   have hgW:Hid (W.grownBy wr (some B)):=hid ((gB B3.out _).trans hg2)
   have hg5:Hid (W5.grownBy wr (some B)):=hid (H3.out.trans hgW.out)
   clear hr hM2 hg2
   by_cases hlt:k < t'.l.length
   ·have hlt':(k:Int) < (t'.l.length:Int):=by omega
    have hk0:(0:Int)≤(k:Int):=by omega
    obtain⟨u,hu⟩:∃ u,t'.l[k]?=some u:=⟨t'.l[k],List.getElem?_eq_getElem hlt⟩
    have hlt3:k < dd.types.length:=by rw[Hdl.out];exact hlt
    have hlt4:(k:Int) < (dd.types.length:Int):=by omega
    obtain⟨kd1,hkd⟩:∃ x,dd.types[k]?=some x:=⟨dd.types[k],List.getElem?_eq_getElem hlt3⟩
    have hb5r:Below n₀ W5 wr:=gBelow hg5.out hB (by omega)
    have hbWr:Below n₀ W wr:=gBelow hgW.out hB (by omega)
    have hbwr:Below n₀ w wr:=Hb5W.out.trans hbWr
    obtain⟨pa,csu,rfl,hpa,_,hTu,hcu⟩:=ST.out k u hu
    obtain⟨pu,qu,rfl,_⟩:=hTu.look
    obtain⟨c0,c1,c2,c3⟩:=(hcu.below hpa hb5r).four
    obtain⟨pb,csi,rfl,hpb,_,hTi,hci⟩:=SI.out k kd1 hkd
    obtain⟨rfl,hki⟩:=hTi
    have g0:=(hci.below hpb hbWr).n1
    rw[Nat.mul_one] at g0
    have hbA:(b.add (i * 6)).block < n₀:=by rw[addBlock];exact hbb
    obtain⟨f0,f1,f2,f3,f4,f5⟩:=(Hca.out.below hbb hbWr).n6
    have d0:wr.cell? ⟨n0,0,none⟩=some (.map (some B)):=Boxed.cell (show Boxed wr n0 151 (.map (some B)) from (hgW.out.block n0 (by omega) (fun e=>by have:=Option.some.inj e;omega)).trans Hbk.out)
    have d1:wr.cell? ⟨n0+1,0,none⟩=some (.slice (some b) ds.length kd):=Boxed.cell (show Boxed wr (n0+1) 22 (.slice (some b) ds.length kd) from (hgW.out.block (n0+1) (by omega) (fun e=>by have:=Option.some.inj e;omega)).trans Hbd.out)
    have hl1:(pa.add (k * 4)).block < wr.heap.size:=by rw[addBlock];omega
    have hl2:(pb.add k).block < wr.heap.size:=by rw[addBlock];omega
    have hl3:(b.add (i * 6)).block < wr.heap.size:=by omega
    have hl4:n0 < wr.heap.size:=by omega
    have hl5:n0+1 < wr.heap.size:=by omega
    have hBwr:B < wr.heap.size:=HM2.out.lt
    have HI:=hid (fun (W':World) (hb:Below wr.heap.size wr W')=>learn_c u kd1 _ B n₀ V hV Kk a b' c d W' (TmC.under hTu (hb5r.trans (hb.mono (by omega)))) hB (HM2.out.below hb hBwr) (Hvs.out u (List.mem_of_getElem? hu)) (Htk.out kd1 (List.mem_of_getElem? hkd)) (HE.out.below (hbwr.trans (hb.mono (by omega)))))
    have Hz:Hid ((t'.l.zip dd.types).drop k=(u,kd1)::(t'.l.zip dd.types).drop (k+1)):=hid (by
     have h1:(t'.l.zip dd.types)[k]?=some (u,kd1):=List.getElem?_zip_eq_some.2 ⟨hu,hkd⟩
     rw[List.drop_eq_getElem_cons (List.getElem?_eq_some_iff.1 h1).1,(List.getElem?_eq_some_iff.1 h1).2])
    clear hTu hcu hci hki hu hkd
    gi_wp2_with fail
    refine region_still_round 10 (by kernel_rfl) (by kernel_rfl) (fun ⟨_,_,h⟩=>h) (by kernel_rfl) ?_
    simp only[List.take_succ_cons,List.take_zero,List.drop_succ_cons,List.drop_zero]
    repeat still_step
    refine wpStill_nil ?_
    go_wp2_with fail
    have hb1:Below wr.heap.size wr (wr.alloc (.cells #[.int .i64 u.op,.string u.s,.int .i64 u.n,.slice pu u.l.length qu] 51)).drew:=((Below.refl _ _).alloc (Nat.le_refl _) _).drew
    have G1:=hid (gB hb1 (some B))
    refine (HI.out _ hb1).mono ?_
    rintro e w1 hR
    cases hl:learn1 Kk u kd1 with
    | none=>
     rw[hl] at hR
     cases hR with
     | bad hg3=>
     have Hq:Hid (learnL K (plcs ds (pre.map Na.t++[t']))=none):=hid (by
      rw[plcs_snoc,learnL_app_some H1.out,Hplc.out,Hr.out,Hz.out,learnL_cons,hl])
     have hgW2:Hid (W.grownBy w1 (some B)):=hid (hgW.out.trans (G1.out.trans hg3))
     have be1:Boxed w1 (n0+1+1+1) 95 .nilIface:=(hgW2.out.block _ (by omega) (fun e=>by have:=Option.some.inj e;omega)).trans Hbe.out
     have hec:=be1.cell
     have hef:=be1.frozen
     have Hbe1:=hid be1
     clear hl hg3 be1
     unfold errV
     go_wp2
     gi_wp2
     have hw2:Hid (w.grownBy w1 (some B)):=hid ((g05.out.trans H3.out).trans hgW2.out)
     have hnb:n0+1+1+1 < w1.heap.size:=Hbe1.out.lt
     refine⟨KeepsFrom.trans (KeepsFrom.of_grownBy hgW2.out (fun j e=>by have:=Option.some.inj e;omega)) ((KeepsOthers.setCell _ _ _).from _),rfl,by rw[List.map_append];exact Hq.out,Boxed.set _ Hbe1.out,?_⟩
     have hw3:=hw2.out
     exact⟨hw3.os,hw3.tape,hw3.output,by have:=hw3.size;simpa using this,fun q hq he=>(Below.heap_setCell w1 ⟨n0+1+1+1,0,none⟩ _ q (by show q≠n0+1+1+1;omega)).trans (hw3.block q hq he)⟩
    | some K'=>
     rw[hl] at hR
     cases hR with
     | good hm3 hg3=>
     have Hz2:Hid (learnL Kp (t'.l.zip dd.types)=learnL K' ((t'.l.zip dd.types).drop (k+1))):=hid (by rw[Hr.out,Hz.out,learnL_cons,hl])
     have Hg3:=hid (Hg2.out.trans (G1.out.trans hg3))
     have Hm3:=hid hm3
     clear hl hg3 hm3
     go_wp2
     gi_wp2
     go_roundw
     case rel=>exact⟨k+1,K',hlt,by go_num,Hz2.out,Hm3.out,Hg3.out⟩
     case measure=>simp[intOf];omega
   ·have hlt':¬ (k:Int) < (t'.l.length:Int):=by omega
    have Hq:Hid (learnL K (plcs ds (pre.map Na.t++[t']))=some Kk):=hid (by
     rw[plcs_snoc,learnL_app_some H1.out,Hplc.out,Hr.out,List.drop_of_length_le (by rw[List.length_zip,Hdl.out];omega)]
     rfl)
    gi_wp2
    exact⟨KeepsFrom.of_grownBy hgW.out (fun j e=>by have:=Option.some.inj e;omega),koF_kc (H2.out.kc hgW.out),Kk,by rw[List.map_append];exact Hq.out,HM2.out,hg5.out⟩
 case done=>
  rintro D ys W hD hys ⟨Kk,h1,h2,h3⟩ hK
  rw[hys] at h1
  obtain⟨_,_,_,_,er,_,_,hbd⟩:=HC.out.look
  simp only[List.cons.injEq,Value.slice.injEq,true_and,and_true] at er
  obtain⟨⟨rfl,rfl⟩,rfl,rfl⟩:=er
  obtain⟨_,_,e2,hcap,hmax,SL⟩:=SlOf.open hbd
  cases e2
  have hDl:D < W.heap.size:=(Array.getElem?_eq_some_iff.1 hK).1
  have hWs:=h3.size
  have hBD:B≠D:=by omega
  have rrW:W.heap[n0+1+1]?=some (.cells #[.string r.head.rel,.slice o0 r.head.l.length k0,.slice o1 r.body.length k1,.int .i64 r.line] 47 (0,0)):=(h3.block (n0+1+1) (by omega) (fun e=>by have:=Option.some.inj e;omega)).trans rr5
  have bkW:Boxed W n0 151 (.map (some B)):=(h3.block n0 (by omega) (fun e=>by have:=Option.some.inj e;omega)).trans bk5
  have beW:Boxed W (n0+1+1+1) 95 .nilIface:=(h3.block (n0+1+1+1) (by omega) (fun e=>by have:=Option.some.inj e;omega)).trans be5
  have r2:W.cell? ⟨n0+1+1,2,none⟩=some (.slice o1 r.body.length k1):=by unfold World.cell?;rw[rrW];rfl
  have hw2:Hid (w.grownBy W (some B)):=hid (g05.out.trans h3)
  have H1:=hid h1
  have H2:=hid h2
  have Hd:=hid hK
  have Hrr:=hid rrW
  have Hbk:=hid bkW
  have Hbe:=hid beW
  clear h1 h2 h3 hK hys rrW bkW beW hbd
  gi_wp2
  gi_loopw [54] (fun jv wr=>∃ (k:Nat) (Kj:Kn),k≤r.body.length∧jv=.int .i64 k∧learnL Kk (nums (aggT r.body))=learnL Kj (nums (aggT (r.body.drop k)))∧KnM V wr B Kj∧W.grownBy wr (some B)) (fun jv _=>r.body.length - (intOf jv).toNat)
  case atStart=>exact⟨0,Kk,Nat.zero_le _,rfl,rfl,H2.out,World.grownBy.refl _ _⟩
  case round=>
   obtain⟨k,Kj,hk,rfl,hr,hM3,hg3⟩:=hrel
   have Hr:=hid hr
   have HM3:=hid hM3
   have Hg3:=hid hg3
   have hBx:=hg3.size
   have hgw:Hid (w.grownBy wr (some B)):=hid (hw2.out.trans hg3)
   have hB':Below n₀ w wr:=gBelow hgw.out hB (by omega)
   clear hr hM3 hg3
   by_cases hlt2:k < r.body.length
   ·have hlt':(k:Int) < (r.body.length:Int):=by omega
    obtain⟨t,ht⟩:∃ t,r.body[k]?=some t:=⟨r.body[k],List.getElem?_eq_getElem hlt2⟩
    obtain⟨b,p3,q3,p4,q4,p5,q5,rfl,ha,Hc,c0,c1,c2,c3,c4,c5,c6,c7,c8,c9,c10⟩:=lt_in SL hB' ht
    have hal:(b.add (k * 11)).block < wr.heap.size:=by rw[addBlock];omega
    have Hdr:=hid (aggT_drop ht)
    have Hvb:=hid (HLt.out t (List.mem_of_getElem? ht))
    have hkw:wr.cell? ⟨n0,0,none⟩=some (.map (some B)):=Boxed.cell (show Boxed wr n0 151 (.map (some B)) from (Hg3.out.block n0 (by omega) (fun e=>by have:=Option.some.inj e;omega)).trans Hbk.out)
    clear ht
    gi_wp2_with fail
    have hb0:Below wr.heap.size wr (wr.alloc (.cells #[.int .i64 t.op,.string t.a.rel,.slice p3 t.a.l.length q3,.int .i64 t.x.op,.string t.x.s,.int .i64 t.x.n,.slice p4 t.x.l.length q4,.int .i64 t.y.op,.string t.y.s,.int .i64 t.y.n,.slice p5 t.y.l.length q5] 53)):=(Below.refl _ _).alloc (Nat.le_refl _) _
    have Hb0:=hid hb0
    refine⟨trivial,(callsIn_wide.2 (holdsTwo_v t _ _ _ _ _ _ _ _ _ _ _)).mono ?_⟩
    rintro e w1 ⟨rfl,b1⟩
    have b2:Below wr.heap.size wr w1:=hb0.trans (b1.mono (by simp))
    have Hb2:=hid b2
    obtain⟨hc1,hf1⟩:=boxY wr.heap.size b1 (by simp)
    have hBw2:B < wr.heap.size:=by omega
    have hs1:=b1.size
    simp only[World.size_alloc] at hs1
    have hkw1:=(b2.cell (p:=⟨n0,0,none⟩) (by show n0 < _;omega)).trans hkw
    clear hb0 b1 b2 hkw
    cases hd:duoB t with
    | true=>
     have Hz:Hid (learnL Kk (nums (aggT r.body))=learnL Kj (nums (aggT (r.body.drop (k+1))))):=hid (by rw[Hr.out,Hdr.out,hd];rfl)
     clear hd
     gi_wp2
     go_roundw
     case rel=>exact⟨k+1,Kj,hlt2,by go_num,Hz.out,HM3.out.below Hb2.out hBw2,Hg3.out.trans (gB Hb2.out _)⟩
     case measure=>simp[intOf];omega
    | false=>
     have Hz:Hid (learnL Kk (nums (aggT r.body))=learnL Kj (nums [t.x,t.y]++nums (aggT (r.body.drop (k+1))))):=hid (by rw[Hr.out,Hdr.out,hd];rfl)
     clear hd
     gi_wp2_with fail
     have hx1:TmC w1 n₀ t.x [.int .i64 t.x.op,.string t.x.s,.int .i64 t.x.n,.slice p4 t.x.l.length q4]:=TmC.under Hc.out.look2.1 (Hb2.out.mono (by omega))
     have hy1:TmC w1 n₀ t.y [.int .i64 t.y.op,.string t.y.s,.int .i64 t.y.n,.slice p5 t.y.l.length q5]:=TmC.under Hc.out.look2.2 (Hb2.out.mono (by omega))
     have hb3:Below wr.heap.size wr (w1.alloc (.cells #[.int .i64 t.x.op,.string t.x.s,.int .i64 t.x.n,.slice p4 t.x.l.length q4,.int .i64 t.y.op,.string t.y.s,.int .i64 t.y.n,.slice p5 t.y.l.length q5] 51)):=Hb2.out.alloc (by omega) _
     have Hb3:=hid hb3
     refine⟨trivial,(callsIn_wide.2 (learnNumbers_c [t.x,t.y] _ B n₀ V hV Kj a b' c d _ (ytwo_slice w1 n₀ (by omega) t.x t.y hx1 hy1) hB (HM3.out.below hb3 hBw2) (fun u hu=>by
      rcases List.mem_cons.1 hu with rfl | hu
      ·exact Hvb.out.1
      ·rw[List.mem_singleton.1 hu];exact Hvb.out.2) (HE.out.below (hB'.trans (hb3.mono (by omega)))))).mono ?_⟩
     rintro e w2 hR
     clear hb3 hx1 hy1
     cases hl:learnL Kj (nums [t.x,t.y]) with
     | none=>
      rw[hl] at hR
      cases hR with
      | bad hg4=>
      have Hq:Hid (learnL K (baseL ds r)=none):=hid (by
       unfold baseL
       rw[learnL_app_some H1.out]
       refine learnL_app_none ?_ _
       rw[Hz.out]
       exact learnL_app_none hl _)
      have hg5:Hid (W.grownBy w2 (some B)):=hid (Hg3.out.trans ((gB Hb3.out _).trans hg4))
      have hgw5:Hid (w.grownBy w2 (some B)):=hid (hw2.out.trans hg5.out)
      have be2:Boxed w2 (n0+1+1+1) 95 .nilIface:=(hg5.out.block _ (by omega) (fun e=>by have:=Option.some.inj e;omega)).trans Hbe.out
      have hd2:w2.heap[D]?=some (.deferred (some [])):=(hg5.out.block D hDl (fun e=>hBD (Option.some.inj e).symm)).trans Hd.out
      have hec:=be2.cell
      have hef:=be2.frozen
      have hel:=be2.lt
      have Hbe2:=hid be2
      have Hd2:=hid hd2
      clear hl hg4 be2 hd2
      unfold errV
      gi_wp2
      have hne:n0+1+1+1≠D:=by omega
      have hd3:(w2.setCell ⟨n0+1+1+1,0,none⟩ (errV a)).heap[D]?=some (.deferred (some [])):=(Below.heap_setCell w2 ⟨n0+1+1+1,0,none⟩ (errV a) D (fun e=>hne e.symm)).trans Hd2.out
      refine⟨by simp,.inl ⟨_,_,rfl,run_takeDeferred hd3,?_⟩⟩
      have hbx:Boxed ((w2.setCell ⟨n0+1+1+1,0,none⟩ (errV a)).putObj D (.deferred none)) (n0+1+1+1) 95 (errV a):=(World.putObj_heap_other hne).trans (Boxed.set _ Hbe2.out)
      refine⟨_,results_cell1 rfl _ _ (n0+1+1+1) _ rfl (loadVar_err hbx.cell),?_⟩
      rw[Hq.out]
      exact .bad (grown_end hgw5.out (by omega) (by omega))
     | some K'=>
      rw[hl] at hR
      cases hR with
      | good hm4 hg4=>
      have Hz2:Hid (learnL Kk (nums (aggT r.body))=learnL K' (nums (aggT (r.body.drop (k+1))))):=hid (by rw[Hz.out];exact learnL_app_some hl _)
      have Hg4:=hid (Hg3.out.trans ((gB Hb3.out _).trans hg4))
      have Hm4:=hid hm4
      clear hl hg4 hm4
      gi_wp2
      go_roundw
      case rel=>exact⟨k+1,K',hlt2,by go_num,Hz2.out,Hm4.out,Hg4.out⟩
      case measure=>simp[intOf];omega
   ·have hlt':¬ (k:Int) < (r.body.length:Int):=by omega
    have Hq:Hid (learnL Kk (nums (aggT r.body))=some Kj):=hid (by rw[Hr.out,List.drop_of_length_le (by omega)];rfl)
    have rr:wr.heap[n0+1+1]?=some (.cells #[.string r.head.rel,.slice o0 r.head.l.length k0,.slice o1 r.body.length k1,.int .i64 r.line] 47 (0,0)):=(Hg3.out.block _ (by omega) (fun e=>by have:=Option.some.inj e;omega)).trans Hrr.out
    have s0:wr.cell? ⟨n0+1+1,0,none⟩=some (.string r.head.rel):=by unfold World.cell?;rw[rr];rfl
    have s1:wr.cell? ⟨n0+1+1,1,none⟩=some (.slice o0 r.head.l.length k0):=by unfold World.cell?;rw[rr];rfl
    have s2:wr.cell? ⟨n0+1+1,2,none⟩=some (.slice o1 r.body.length k1):=by unfold World.cell?;rw[rr];rfl
    have s3:wr.cell? ⟨n0+1+1,3,none⟩=some (.int .i64 r.line):=by unfold World.cell?;rw[rr];rfl
    clear rr
    gi_wp2_with fail
    have hs3':n0+5≤wr.heap.size:=by omega
    have HY2:=hid (yeach_in 5 r _ wr ((HC.out.below hB').more (by omega)))
    refine⟨trivial,HY2.out.mono ?_⟩
    rintro e W6 ⟨rfl,hW6⟩
    gi_wp2_with fail
    rw[← hW6]
    have hs6:W6.heap.size=wr.heap.size+1:=by rw[hW6];simp
    have hb6:Below wr.heap.size wr W6:=by rw[hW6];exact (Below.refl _ _).alloc (Nat.le_refl _) _
    have row6:W6.heap[wr.heap.size]?=some (.cells #[.string r.head.rel,.slice o0 r.head.l.length k0,.slice o1 r.body.length k1,.int .i64 r.line] 47 (0,0)):=by rw[hW6];exact World.alloc_heap_new wr _
    have hB6:CellsAt W6 ⟨wr.heap.size,0,none⟩ 0 [.string r.head.rel,.slice o0 r.head.l.length k0,.slice o1 r.body.length k1,.int .i64 r.line]:=fun j c hj=>by
     rw[Nat.zero_add]
     exact World.news_of_block row6 j c (by simpa using hj)
    have hc6:=HC.out.below (hB'.trans (hb6.mono (by omega)))
    have safe6:Safe (fun _ _=>False) W6 W6:=fun p c hp=>⟨hp,World.block_lt_of_cell? _ _ hp,id⟩
    have hBw6:B < wr.heap.size:=HM3.out.lt
    have M6:KnM V W6 B Kj:=HM3.out.below hb6 hBw6
    have g6:Hid (w.grownBy W6 (some B)):=hid (hgw.out.trans (gB hb6 _))
    have gW6:Hid (W.grownBy W6 (some B)):=hid (Hg3.out.trans (gB hb6 _))
    have d6:W6.heap[D]?=some (.deferred (some [])):=(gW6.out.block D hDl (fun e=>hBD (Option.some.inj e).symm)).trans Hd.out
    have be6:Boxed W6 (n0+1+1+1) 95 .nilIface:=(gW6.out.block _ (by omega) (fun e=>by have:=Option.some.inj e;omega)).trans Hbe.out
    have bk6:Boxed W6 n0 151 (.map (some B)):=(gW6.out.block _ (by omega) (fun e=>by have:=Option.some.inj e;omega)).trans Hbk.out
    clear hW6 s0 s1 s2 s3 HY2 r2
    refine wpIn_rangeFunc_ownH rfl (by omega) (gf:=175) (lb:=#[.pointer (some ⟨wr.heap.size,0,none⟩)]) rfl trivial (enters_of Tryz.func175 (by kernel_rfl) rfl)
     (yeach_stops 5 wr.heap.size n₀ r [.string r.head.rel,.slice o0 r.head.l.length k0,.slice o1 r.body.length k1,.int .i64 r.line] W6 W6 (fun _ _=>False) (fun _ _ _ _ _ h=>h) safe6 (fun _ h=>h.elim) hB6 hc6 (G:=GT V) HTt.out) (fun h k=>h.trans k) ?hKb2 (Below.refl _ _) (fun _=>rfl)
     (fun pre W=>∃ Kq,learnL Kj (nums ((pre.map Ne.t).flatMap fun t=>t.l))=some Kq∧KnM V W B Kq∧W6.grownBy W (some B))
     (fun cd pre W=>cd=.ret∧learnL Kj (nums ((pre.map Ne.t).flatMap fun t=>t.l))=none∧Boxed W (n0+1+1+1) 95 (errV a)∧w.grownBy W (some B)∧W.heap[D]?=some (.deferred (some []))) ?hI2 ?hIx2 ⟨Kj,rfl,M6,World.grownBy.refl _ _⟩
     (fun x a' W=>∃ Bx,W.heap[Bx]?=some (.cells x.cs.toArray 51 (0,0))∧wr.heap.size+1≤Bx∧a'={ tmps:=#[.map (some B),.slice od ds.length kd,.agg #[.string r.head.rel,.slice o0 r.head.l.length k0,.slice o1 r.body.length k1,.int .i64 r.line],.pointer (some ⟨n0,0,none⟩),.pointer (some ⟨n0+1,0,none⟩),.pointer (some ⟨n0+1+1,0,none⟩),.pointer (some ⟨n0+1+1+1,0,none⟩),undef,undef,undef,undef,undef,undef,undef,u14,u15,.pointer (some ⟨Bx,0,none⟩),undef,.agg #[.string r.head.rel,.slice o0 r.head.l.length k0,.slice o1 r.body.length k1,.int .i64 r.line],.func (.func 191) #[] #[.pointer (some ⟨n0+4,0,none⟩)],undef,undef,undef,undef,undef,undef,undef,undef,undef,undef,undef,undef,undef,undef,undef,undef,undef,undef,undef,undef,undef,undef,undef,undef,undef,undef,undef,undef,undef,undef,undef,.pointer (some ⟨n0+1+1,2,none⟩),.slice o1 r.body.length k1,.int .i64 r.body.length,.int .i64 k,.bool false,u56,u57,u58,u59,u60,u61,u62,u63,u64,u65,u66,u67,u68,u69,u70,.agg #[.string r.head.rel,.slice o0 r.head.l.length k0,.slice o1 r.body.length k1,.int .i64 r.line],.func (.func 175) #[] #[.pointer (some ⟨wr.heap.size,0,none⟩)],.agg x.cs.toArray,undef,undef,undef,undef,undef,undef,undef],defers:=[] })
     ?hAx2 ?assign2 ?body2 ?done2 ?stop2
    case hKb2=>
     intro W l o o' hl ho hc _
     exact⟨by simp,fun i x hi hx _=>(World.putObj_heap_other (by rintro rfl;rw[ho] at hi;cases hi;rw[hc] at hx;cases hx)).trans hi,fun _ h=>h.elim,fun _ _ h=>h.elim⟩
    case hI2=>
     rintro pre A B1 row ⟨Kq,h1,h2,h3⟩ hg hr
     refine⟨Kq,h1,h2.same (hg.block B h2.lt (fun e=>by have:=(hr _ e.symm).1;omega)),⟨hg.os.trans h3.os,hg.tape.trans h3.tape,hg.output.trans h3.output,Nat.le_trans h3.size hg.size,fun q hq hne=>(hg.block q (Nat.lt_of_lt_of_le hq h3.size) (fun e=>by have:=(hr _ e.symm).1;omega)).trans (h3.block q hq hne)⟩⟩
    case hIx2=>
     rintro cd pre A B1 row ⟨h0,h1,h2,h3,h4⟩ hg hr
     refine⟨h0,h1,boxed_own (n0+1+1+1) 95 (fun (_:Unit)=>errV a) () A B1 row h2 hg (fun r e=>(hr r e).2),⟨hg.os.trans h3.os,hg.tape.trans h3.tape,hg.output.trans h3.output,Nat.le_trans h3.size hg.size,fun q hq hne=>(hg.block q (Nat.lt_of_lt_of_le hq h3.size) (fun e=>by have:=(hr _ e.symm).1;omega)).trans (h3.block q hq hne)⟩,(hg.block D (Array.getElem?_eq_some_iff.1 h4).1 (fun e=>by have:=(hr _ e.symm).1;omega)).trans h4⟩
    case hAx2=>
     rintro x a' _ A B1 row ⟨Bx,h1,h2,h3⟩ hg hr
     refine⟨Bx,(hg.block Bx (Array.getElem?_eq_some_iff.1 h1).1 (fun e=>?_)).trans h1,h2,h3⟩
     obtain⟨_,o',ho',hc'⟩:=hr _ e.symm
     rw[h1] at ho'
     cases ho'
     cases hc'
    case assign2=>
     rintro lp pre ⟨t',cs',ok',gd'⟩ W K1 ⟨Kq,h1,h2,h3⟩ hK
     obtain⟨p',q',rfl,_⟩:=ok'.look
     have hb1:=(Below.refl W.heap.size W).alloc (Nat.le_refl _) (.cells #[.int .i64 t'.op,.string t'.s,.int .i64 t'.n,.slice p' t'.l.length q'] 51)
     have hko:KO (fun _ _=>False) W (W.alloc (.cells #[.int .i64 t'.op,.string t'.s,.int .i64 t'.n,.slice p' t'.l.length q'] 51)):=KO.of_below (fun _ _ _ _ _ h=>h) (fun _ h=>h.elim) hb1
     have HK:=hid (hK _ _ ((KeepsOthers.alloc W _).from _) hko ⟨Kq,h1,h2.below hb1 h2.lt,h3.trans (gB hb1 _)⟩ ⟨W.heap.size,World.alloc_heap_new W _,by have:=h3.size;omega,rfl⟩)
     clear hK h1 h2 h3 hb1 hko
     simp only[Ne.enc]
     gi_wp2
     exact HK.out
    case body2=>
     rintro lp pre ⟨t',cs',ok',gd'⟩ a' W' hlp hrec ⟨Kq,h1,h2,h3⟩ ⟨Bx,hrow,hBx,rfl⟩ hlen2
     obtain⟨p',q',rfl,_,_,_,hts⟩:=ok'.look
     have e3:W'.cell? ⟨Bx,3,none⟩=some (.slice p' t'.l.length q'):=by unfold World.cell?;rw[hrow];rfl
     have hBl:Bx < W'.heap.size:=(Array.getElem?_eq_some_iff.1 hrow).1
     have hWs6:=h3.size
     have bkW:Boxed W' n0 151 (.map (some B)):=(h3.block n0 (by omega) (fun e=>by have:=Option.some.inj e;omega)).trans bk6
     have beW:Boxed W' (n0+1+1+1) 95 .nilIface:=(h3.block _ (by omega) (fun e=>by have:=Option.some.inj e;omega)).trans be6
     have dW:W'.heap[D]?=some (.deferred (some [])):=(h3.block D (by omega) (fun e=>hBD (Option.some.inj e).symm)).trans d6
     have hkW:=bkW.cell
     have hb6W:Below n₀ W6 W':=gBelow h3 hB (by omega)
     have hbwW:Below n₀ w W':=gBelow (g6.out.trans h3) hB (by omega)
     have HI:=hid (learnNumbers_c t'.l _ B n₀ V hV Kq a b' c d W' (SlOf.more (TmS.below hts hb6W) (by omega) (fun _ _ _ h=>h)) hB h2 gd' (HE.out.below hbwW))
     have H1':=hid h1
     have H2':=hid h2
     have H3':=hid h3
     have Hbe':=hid beW
     have Hd':=hid dW
     clear h1 h2 h3 hrow beW bkW dW hts
     gi_wp2_with fail
     refine⟨trivial,(CallsIn.inRound lp (callsIn_wide.2 HI.out)).mono ?_⟩
     rintro e w2 hR
     cases hl:learnL Kq (nums t'.l) with
     | none=>
      rw[hl] at hR
      cases hR with
      | bad hg4=>
      have Hq:Hid (learnL Kj (nums ((pre.map Ne.t++[t']).flatMap fun t=>t.l))=none):=hid (by
       rw[List.flatMap_append,nums_app,learnL_app_some H1'.out]
       simpa using hl)
      have hg5:Hid (W'.grownBy w2 (some B)):=hid hg4
      have hgw5:Hid (w.grownBy w2 (some B)):=hid ((g6.out.trans H3'.out).trans hg4)
      have be2:Boxed w2 (n0+1+1+1) 95 .nilIface:=(hg4.block _ (by omega) (fun e=>by have:=Option.some.inj e;omega)).trans Hbe'.out
      have hd2:w2.heap[D]?=some (.deferred (some [])):=(hg4.block D (by omega) (fun e=>hBD (Option.some.inj e).symm)).trans Hd'.out
      have hec:=be2.cell
      have hef:=be2.frozen
      have hel:=be2.lt
      have Hbe2:=hid be2
      have Hd2:=hid hd2
      clear hl hg4 be2 hd2
      unfold errV
      gi_wp2
      have hne:n0+1+1+1≠D:=by omega
      have hw3:=hgw5.out
      refine⟨KeepsFrom.trans (KeepsFrom.of_grownBy hg5.out (fun j e=>by have:=Option.some.inj e;omega)) ((KeepsOthers.setCell _ _ _).from _),rfl,by rw[List.map_append];exact Hq.out,Boxed.set _ Hbe2.out,?_,(Below.heap_setCell w2 ⟨n0+1+1+1,0,none⟩ _ D (fun e=>hne e.symm)).trans Hd2.out⟩
      exact⟨hw3.os,hw3.tape,hw3.output,by have:=hw3.size;simpa using this,fun q hq he=>(Below.heap_setCell w2 ⟨n0+1+1+1,0,none⟩ _ q (by show q≠n0+1+1+1;omega)).trans (hw3.block q hq he)⟩
     | some K'=>
      rw[hl] at hR
      cases hR with
      | good hm4 hg4=>
      have Hq:Hid (learnL Kj (nums ((pre.map Ne.t++[t']).flatMap fun t=>t.l))=some K'):=hid (by
       rw[List.flatMap_append,nums_app,learnL_app_some H1'.out]
       simpa using hl)
      have Hg4:=hid hg4
      have Hm4:=hid hm4
      clear hl hg4 hm4
      gi_wp2
      exact⟨KeepsFrom.of_grownBy Hg4.out (fun j e=>by have:=Option.some.inj e;omega),koF_kc (H2'.out.kc Hg4.out),K',by rw[List.map_append];exact Hq.out,Hm4.out,H3'.out.trans Hg4.out⟩
    case done2=>
     rintro D2 zs W' hD2 hzs ⟨Kq,h1,h2,h3⟩ hK2
     rw[hzs] at h1
     have hall:learnL K (baseL ds r)=some Kq:=by
      unfold baseL
      rw[learnL_app_some H1.out,learnL_app_some Hq.out,h1]
     have hWs6:=h3.size
     have hDD:D≠D2:=by omega
     have hne:n0+1+1+1≠D:=by omega
     have hne2:n0+1+1+1≠D2:=by omega
     have hB2:B≠D2:=by omega
     have beW:Boxed W' (n0+1+1+1) 95 .nilIface:=(h3.block _ (by omega) (fun e=>by have:=Option.some.inj e;omega)).trans be6
     have dW:W'.heap[D]?=some (.deferred (some [])):=(h3.block D (by omega) (fun e=>hBD (Option.some.inj e).symm)).trans d6
     have hgw:Hid (w.grownBy W' (some B)):=hid (g6.out.trans h3)
     have hec:=beW.cell
     have hef:=beW.frozen
     have hel:=beW.lt
     have Hd1:=hid dW
     have Hd2:=hid hK2
     have Hbe':=hid beW
     have H2':=hid h2
     have Hall:=hid hall
     clear h1 h2 h3 hK2 hall beW dW hzs
     gi_wp2
     have hd3:(W'.setCell ⟨n0+1+1+1,0,none⟩ .nilIface).heap[D2]?=some (.deferred (some [])):=(Below.heap_setCell W' ⟨n0+1+1+1,0,none⟩ .nilIface D2 (fun e=>hne2 e.symm)).trans Hd2.out
     refine⟨by simp,.inl ⟨_,_,rfl,run_takeDeferred hd3,?_⟩⟩
     have hd4:((W'.setCell ⟨n0+1+1+1,0,none⟩ .nilIface).putObj D2 (.deferred none)).heap[D]?=some (.deferred (some [])):=(World.putObj_heap_other hDD).trans ((Below.heap_setCell W' ⟨n0+1+1+1,0,none⟩ .nilIface D (fun e=>hne e.symm)).trans Hd1.out)
     refine⟨by simp,.inl ⟨_,_,rfl,run_takeDeferred hd4,?_⟩⟩
     have hbx:Boxed (((W'.setCell ⟨n0+1+1+1,0,none⟩ .nilIface).putObj D2 (.deferred none)).putObj D (.deferred none)) (n0+1+1+1) 95 .nilIface:=(World.putObj_heap_other hne).trans ((World.putObj_heap_other hne2).trans (Boxed.set _ Hbe'.out))
     refine⟨_,results_cell1 rfl _ _ (n0+1+1+1) _ rfl (loadVar_err hbx.cell),?_⟩
     rw[Hall.out]
     have B6:=grown_end (v:=.nilIface) (o:=.deferred none) hgw.out (D:=D2) (L:=n0+1+1+1) (by omega) (by omega)
     refine .good (H2'.out.same ?_) ⟨B6.os,B6.tape,B6.output,by have:=B6.size;simpa using this,fun q hq he=>(World.putObj_heap_other (by omega)).trans (B6.block q hq he)⟩
     exact (World.putObj_heap_other hBD).trans ((World.putObj_heap_other hB2).trans (Below.heap_setCell W' ⟨n0+1+1+1,0,none⟩ .nilIface B (by show B≠n0+1+1+1;omega)))
    case stop2=>
     rintro D2 cd pre W' hD2 ⟨r1,hr1⟩ ⟨rfl,hbad,hbx,h5,h6⟩ hK2
     have hall:learnL K (baseL ds r)=none:=by
      unfold baseL
      rw[learnL_app_some H1.out,learnL_app_some Hq.out,← hr1,List.flatMap_append,nums_app]
      exact learnL_app_none hbad _
     have hDD:D≠D2:=by omega
     have hne:n0+1+1+1≠D:=by omega
     have hne2:n0+1+1+1≠D2:=by omega
     have Hd1:=hid h6
     have Hd2:=hid hK2
     have H5:=hid h5
     have Hall:=hid hall
     have Hbx:=hid hbx
     clear h5 h6 hK2 hall hbx hbad hr1
     gi_wp2
     refine⟨by simp,.inl ⟨_,_,rfl,run_takeDeferred Hd2.out,?_⟩⟩
     have hd3:(W'.putObj D2 (.deferred none)).heap[D]?=some (.deferred (some [])):=(World.putObj_heap_other hDD).trans Hd1.out
     refine⟨by simp,.inl ⟨_,_,rfl,run_takeDeferred hd3,?_⟩⟩
     have hbx:Boxed ((W'.putObj D2 (.deferred none)).putObj D (.deferred none)) (n0+1+1+1) 95 (errV a):=(World.putObj_heap_other hne).trans ((World.putObj_heap_other hne2).trans Hbx.out)
     refine⟨_,results_cell1 rfl _ _ (n0+1+1+1) _ rfl (loadVar_err hbx.cell),?_⟩
     rw[Hall.out]
     have B6:=H5.out
     exact .bad ⟨B6.os,B6.tape,B6.output,by simpa using B6.size,fun q hq he=>(World.putObj_heap_other (by omega)).trans ((World.putObj_heap_other (by omega)).trans (B6.block q hq he))⟩
 case stop=>
  rintro D cd pre W hD ⟨r1,hr1⟩ ⟨rfl,hbad,hbx,h5⟩ hK
  have hall:learnL K (baseL ds r)=none:=by
   unfold baseL
   refine learnL_app_none ?_ _
   rw[← hr1]
   unfold plcs at hbad ⊢
   rw[List.flatMap_append]
   exact learnL_app_none hbad _
  have hne:n0+1+1+1≠D:=by omega
  have Hd:=hid hK
  have H5:=hid h5
  have Hall:=hid hall
  have Hbx:=hid hbx
  clear h5 hK hall hbx hbad hr1
  gi_wp2
  refine⟨by simp,.inl ⟨_,_,rfl,run_takeDeferred Hd.out,?_⟩⟩
  have hbx:Boxed (W.putObj D (.deferred none)) (n0+1+1+1) 95 (errV a):=(World.putObj_heap_other hne).trans Hbx.out
  refine⟨_,results_cell1 rfl _ _ (n0+1+1+1) _ rfl (loadVar_err hbx.cell),?_⟩
  rw[Hall.out]
  have B6:=H5.out
  exact .bad ⟨B6.os,B6.tape,B6.output,by simpa using B6.size,fun i hi he=>(World.putObj_heap_other (by omega)).trans (B6.block i hi he)⟩
theorem places_c (ds:List De) (v:Value) (r:Ru) (cs:List Value) (B n₀:Nat) (V:List (List UInt8)) (hV:V.length≤1000000) (K:Kn) (a b' c d:Addr) (w:World) (hd:SlOf w n₀ 6 (DeC w n₀) ds v) (hc:RuC w n₀ r cs) (hB:n₀≤B) (hM:KnM V w B K)
  (hA:∀ t ∈ atomsR r,GA ds V t) (hL:∀ l ∈ r.body,(l.x.op=1→nm l.x ∈ V)∧(l.y.op=1→nm l.y ∈ V)) (hT:∀ t ∈ termsR r,GT V t) (hty:∀ e ∈ ds,∀ k ∈ e.types,k=1∨k=2) (E:YEnv n₀ a b' c d w) :
  Calls Tryz.prog 143 #[.map (some B),v,.agg cs.toArray] w (LearnR V w B a (learnL K (baseL ds r))):=callsIn_wide.1 (places_in ds v r cs B n₀ V hV K a b' c d w hd hc hB hM hA hL hT hty E)
end Go.Proofs.YtakpgcmfjlbcgaaGreatDoor
