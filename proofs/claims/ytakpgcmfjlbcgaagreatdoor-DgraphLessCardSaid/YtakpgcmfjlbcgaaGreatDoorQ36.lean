/- Gha@0123, Gmu@0123 -/
import Derived.Test.YtakpgcmfjlbcgaaGreatDoorQ34
set_option linter.unusedSimpArgs false
set_option linter.unusedVariables false
namespace Go.Proofs.YtakpgcmfjlbcgaaGreatDoor
open Lib(hid)
open Go.RowKit Go.Shelf
attribute [local go_sem] Oper.semAt_some
def encE (x:Nat × Nat):Array Value:=#[.int .i64 (x.1:Int),.int .i64 (x.2:Int)]
def edgeN (ds:List De) (rs:List Ru) (k:Nat):Nat:=((rs.take k).flatMap (edgeG ds)).length
theorem edgeN_succ {ds:List De} {rs:List Ru} {k:Nat} {r:Ru} (h:rs[k]?=some r):edgeN ds rs (k+1)=edgeN ds rs k+(atomsG ds r.body).length:=by
 unfold edgeN
 rw[List.take_add_one,h,List.flatMap_append,List.length_append]
 simp[edgeG]
theorem edge_at {ds:List De} {rs:List Ru} {k j:Nat} {r:Ru} {x:Int × Nat} (h:rs[k]?=some r) (hj:(atomsG ds r.body)[j]?=some x):(rs.flatMap (edgeG ds))[edgeN ds rs k+j]?=some (headG ds r,x.2):=by
 have hs:rs=rs.take k++r::rs.drop (k+1):=by
  have h1:=List.take_append_drop k rs
  rw[List.drop_eq_getElem_cons (List.getElem?_eq_some_iff.1 h).1,(List.getElem?_eq_some_iff.1 h).2] at h1
  exact h1.symm
 have hl:((rs.take k).flatMap (edgeG ds)).length=edgeN ds rs k:=rfl
 rw[hs,List.flatMap_append,← hs,← hl,List.getElem?_append_right (by omega),Nat.add_sub_cancel_left,List.flatMap_cons]
 have hlt:=(List.getElem?_eq_some_iff.1 hj).1
 rw[List.getElem?_append_left (by unfold edgeG;rw[List.length_map];exact hlt)]
 unfold edgeG
 rw[List.getElem?_map,hj]
 rfl
theorem leaves_deaf {F:Fence} {n:Nat} {P:Program} {fn:Func} {tmps:Array Value} (hres:∀ W:World,(results fn tmps).run P W=.ok (.tuple #[]) W) {n0:Nat} {S:World→Prop} (hS:Deaf n0 S):∀ (Ds:List Nat) (W:World),Marks n0 W Ds→S W →
  LeavesInM F n P fn tmps (fun e W'=>(∃ v,e=.returned v)∧S W') (Ds.map mark) .returning W
 | [],W,_,hs=>⟨_,hres W,⟨_,rfl⟩,hs⟩
 | D::Ds,W,⟨⟨h1,h2,h3⟩,h4⟩,hs=>by
  refine⟨by simp,.inl ⟨D,W.putObj D (.deferred none),rfl,run_takeDeferred h1,leaves_deaf hres hS Ds _ ?_ (hS.put hs h2 h1 rfl)⟩⟩
  have key:∀ (Es:List Nat),(∀ E ∈ Es,E≠D)→Marks n0 W Es→Marks n0 (W.putObj D (.deferred none)) Es:=by
   intro Es
   induction Es with
   | nil=>intro _ _;trivial
   | cons E Es ih=>
    intro hne hm
    obtain⟨⟨m1,m2,m3⟩,m4⟩:=hm
    exact⟨⟨(World.putObj_heap_other (fun e=>hne E (by simp) e)).trans m1,m2,m3⟩,ih (fun x hx=>hne x (by simp[hx])) m4⟩
  exact key Ds h3 h4
theorem Marks.ge {n0:Nat} {W:World}:∀ {Ds:List Nat},Marks n0 W Ds→∀ D ∈ Ds,n0≤D
 | _::_,⟨⟨_,h2,_⟩,h4⟩,D,hD=>by
  rcases List.mem_cons.1 hD with rfl | hD
  ·exact h2
  ·exact Marks.ge h4 D hD
theorem ghang_in (n:Nat) (cs:List Value) (w:World) (hp:∃ u v,cs=[u,v]) :
  CallsIn Fence.wide n Tryz.prog 52 #[.agg cs.toArray] w fun e w'=>e=.returned (.func (.func 76) #[] #[.pointer (some ⟨w.heap.size,0,none⟩)])∧w'=w.alloc (.cells cs.toArray 25):=by
 obtain⟨u,v,rfl⟩:=hp
 refine callsIn_of_wp Tryz.func52 rfl trivial ?_ rfl
 simp only[Tryz.ntmps52,List.size_toArray,List.length_cons,List.length_nil,Nat.reduceAdd,Nat.reduceSub,Array.replicate_succ,Array.replicate_zero,List.push_toArray,List.append_toArray,List.nil_append,List.cons_append]
 gi_wp2
 go_ret
 exact⟨rfl,rfl⟩
set_option maxRecDepth 100000 in
set_option maxHeartbeats 8000000 in
theorem ghang_nest (n m Bp:Nat) (p:Pg) (cs:List Value) (w:World) (hn:1≤n) (hm:m≤w.heap.size) (hb:w.heap[Bp]?=some (.cells cs.toArray 25 (0,0))) (hp:PgC w w.heap.size p cs) (hh:∀ r ∈ p.rules,findY r.head.rel p.decls=some (headG p.decls r)) :
  SeqNest Fence.wide n Tryz.prog 76 #[.pointer (some ⟨Bp,0,none⟩)] encE (edgesG p) m w:=by
 intro l J Jx W hW hJ hJx hY h0
 have hKW:KC w W:=KC.of_below hW
 obtain⟨p1,q1,r1,s1,rfl,_,_⟩:=hp.look
 have HY:=hid hY
 have HJ:=hid hJ
 have HJx:=hid hJx
 have HP:=hid hp
 have HW:=hid hW
 have Hh:=hid hh
 have e1:W.heap[Bp]?=some (.cells #[.slice p1 p.decls.length q1,.slice r1 p.rules.length s1] 25 (0,0)):=hKW.same _ _ hb rfl
 have l1:=heap_lt e1
 have HE1:=hid e1
 obtain⟨n0,hn0⟩:∃ n0,W.heap.size=n0:=⟨_,rfl⟩
 have Hn0:=hid hn0
 have HJ0:=hid h0
 have HKW:=hid hKW
 have hX:∀ X,(W.alloc X).cell? ⟨Bp,0,none⟩=some (.slice p1 p.decls.length q1)∧(W.alloc X).cell? ⟨Bp,1,none⟩=some (.slice r1 p.rules.length s1):=fun X=>by
  have:=(((Below.refl W.heap.size W).alloc (Nat.le_refl _) X).block _ l1).trans e1
  exact⟨row_cells this 0,row_cells this 1⟩
 obtain⟨x0,x1⟩:=hX (.cells #[.func (.yield l) #[] #[]] 69)
 have ry:(W.alloc (.cells #[.func (.yield l) #[] #[]] 69)).heap[n0]?=some (.cells #[.func (.yield l) #[] #[]] 69 (0,0)):=by rw[← hn0];exact World.alloc_heap_new W _
 have b1:Below W.heap.size W (W.alloc (.cells #[.func (.yield l) #[] #[]] 69)):=(Below.refl _ _).alloc (Nat.le_refl _) _
 have HRy:=hid ry
 have Hb1:=hid b1
 have HS:Hid (Deaf n0 fun W'=>J (edgesG p).length W'∨∃ k,Jx k W'):=hid fun A B h hb hk=>by
  rw[← hn0] at hb
  rcases h with h | ⟨q,h⟩
  ·exact .inl (hJ _ _ _ h hb hk)
  ·exact .inr ⟨q,hJx _ _ _ h hb hk⟩
 clear hY hJ hJx hp hW hh e1 hX h0 hKW hb ry b1
 refine callsIn_of_wp_marks Tryz.func76 rfl trivial ?_ rfl
 simp only[Tryz.ntmps76,List.size_toArray,List.length_cons,List.length_nil,Nat.reduceAdd,Nat.reduceSub,Array.replicate_succ,Array.replicate_zero,List.push_toArray,List.append_toArray,List.nil_append,List.cons_append]
 gi_wp2_with fail
 refine wpIn_loop (fun a' wr=>∃ (k:Nat) (Ds:List Nat) (u4 u5 u6 u13 u14 u15 u16 u17 u18 u19 u20 u21 u22 u23 u24 u25 u26 u27 u28 u36:Value),a'={ tmps:=#[.func (.yield l) #[] #[],.pointer (some ⟨Bp,0,none⟩),.pointer (some ⟨n0,0,none⟩),undef,u4,u5,u6,undef,undef,.pointer (some ⟨Bp,1,none⟩),.slice r1 p.rules.length s1,.int .i64 p.rules.length,.int .i64 (k:Int),u13,u14,u15,u16,u17,u18,u19,u20,u21,u22,u23,u24,u25,u26,u27,u28,undef,undef,undef,undef,undef,undef,undef,u36],defers:=Ds.map mark } ∧
  k≤p.rules.length∧J (edgeN p.decls p.rules k) wr∧KC (W.alloc (.cells #[.func (.yield l) #[] #[]] 69)) wr∧Marks (n0+1) wr Ds) (fun a' _=>p.rules.length - (intOf (a'.tmps.getD 12 undef)).toNat) ?start ?round
 case start=>exact⟨0,[],_,_,_,_,_,_,_,_,_,_,_,_,_,_,_,_,_,_,_,_,rfl,Nat.zero_le _,HJ.out _ _ _ HJ0.out Hb1.out (KC.of_below Hb1.out),KC.refl _,trivial⟩
 case round=>
  rintro a' wr ⟨k,Ds,u4,u5,u6,u13,u14,u15,u16,u17,u18,u19,u20,u21,u22,u23,u24,u25,u26,u27,u28,u36,rfl,hk,hj,hkc,hM⟩
  have zr:n0+1≤wr.heap.size:=by have:=hkc.size;simp at this;omega
  have kw:KC w wr:=(HKW.out.trans (KC.of_below Hb1.out)).trans hkc
  by_cases hlt:k < p.rules.length
  ·have hlt':(k:Int) < (p.rules.length:Int):=by omega
   have hk0:(0:Int)≤(k:Int):=by omega
   obtain⟨r,hr⟩:∃ r,p.rules[k]?=some r:=⟨p.rules[k],List.getElem?_eq_getElem hlt⟩
   have hpr:=HP.out.kc kw kw.size
   obtain⟨_,_,_,_,e2,H1,H2⟩:=hpr.look
   simp only[List.cons.injEq,Value.slice.injEq,true_and,and_true] at e2
   obtain⟨⟨rfl,rfl⟩,rfl,rfl⟩:=e2
   obtain⟨_,_,e3,_,_,S2⟩:=SlOf.open H2
   cases e3
   obtain⟨a,a3,b3,a4,b4,rfl,ha,Hc,c0,c1,c2,c3⟩:=ru_at S2 (Below.refl _ _) hr
   have hal:(a.add (k * 4)).block < wr.heap.size:=by rw[addBlock];exact ha
   have Hr:=hid hr
   have Hhr:=hid (Hh.out r (List.mem_of_getElem? hr))
   obtain⟨nr,hnr⟩:∃ nr,wr.heap.size=nr:=⟨_,rfl⟩
   have bV:Below wr.heap.size wr (wr.alloc (.cells #[.string r.head.rel,.slice a3 r.head.l.length b3,.slice a4 r.body.length b4,.int .i64 r.line] 47)):=(Below.refl _ _).alloc (Nat.le_refl _) _
   have rV:(wr.alloc (.cells #[.string r.head.rel,.slice a3 r.head.l.length b3,.slice a4 r.body.length b4,.int .i64 r.line] 47)).heap[nr]?=some (.cells #[.string r.head.rel,.slice a3 r.head.l.length b3,.slice a4 r.body.length b4,.int .i64 r.line] 47 (0,0)):=by rw[← hnr];exact World.alloc_heap_new wr _
   have ep:wr.heap[Bp]?=some (.cells #[.slice p1 p.decls.length q1,.slice (some a) p.rules.length s1] 25 (0,0)):=hkc.same _ _ ((Hb1.out.block _ l1).trans HE1.out) rfl
   have lp':=heap_lt ep
   have zp:(wr.alloc (.cells #[.string r.head.rel,.slice a3 r.head.l.length b3,.slice a4 r.body.length b4,.int .i64 r.line] 47)).cell? ⟨Bp,0,none⟩=some (.slice p1 p.decls.length q1):=row_cells ((bV.block _ lp').trans ep) 0
   have hF:=find_c r.head.rel (wr.alloc (.cells #[.string r.head.rel,.slice a3 r.head.l.length b3,.slice a4 r.body.length b4,.int .i64 r.line] 47)).heap.size p.decls _ (wr.alloc (.cells #[.string r.head.rel,.slice a3 r.head.l.length b3,.slice a4 r.body.length b4,.int .i64 r.line] 47)) (SlOf.decl H1 bV bV.size) (Nat.le_refl _)
   rw[Hhr.out] at hF
   have HF:=hid hF
   have zr0:(wr.alloc (.cells #[.string r.head.rel,.slice a3 r.head.l.length b3,.slice a4 r.body.length b4,.int .i64 r.line] 47)).cell? ⟨nr,0,none⟩=some (.string r.head.rel):=row_cells rV 0
   have HbV:=hid bV
   have HrV:=hid rV
   have Hep:=hid ep
   have Hj:=hid hj
   have Hkc:=hid hkc
   have HM:=hid hM
   have Hnr:=hid hnr
   have HD1:=hid H1
   have HCc:=hid Hc.out
   clear hr hpr H1 H2 bV rV ep hF hj hkc hM kw x0 x1
   gi_wp2_with fail
   try rw[Hnr.out]
   refine⟨trivial,(callsIn_wide.2 HF.out).mono ?_⟩
   rintro e w2 ⟨rfl,b2⟩
   obtain⟨n2,hn2⟩:∃ n2,w2.heap.size=n2:=⟨_,rfl⟩
   obtain⟨h,hh⟩:∃ h,headG p.decls r=h:=⟨_,rfl⟩
   have B2:=hid (HbV.out.trans (b2.mono HbV.out.size))
   have z2:nr+1≤n2:=by have:=b2.size;simp at this;omega
   obtain⟨W3,hW3⟩:∃ W3,w2.alloc (.cells #[.int .i64 (h:Int)] 3)=W3:=⟨_,rfl⟩
   have b3':Below w2.heap.size w2 W3:=by rw[← hW3];exact (Below.refl _ _).alloc (Nat.le_refl _) _
   have rh:W3.heap[n2]?=some (.cells #[.int .i64 (h:Int)] 3 (0,0)):=by rw[← hW3,← hn2];exact World.alloc_heap_new w2 _
   have s3:W3.heap.size=n2+1:=by rw[← hW3,← hn2];simp
   have B3:=hid (B2.out.trans (b3'.mono B2.out.size))
   have g1:W3.heap[nr]?=some (.cells #[.string r.head.rel,.slice a3 r.head.l.length b3,.slice a4 r.body.length b4,.int .i64 r.line] 47 (0,0)):=((b2.trans (b3'.mono b2.size)).block _ (by simp;omega)).trans HrV.out
   have g2:W3.heap[Bp]?=some (.cells #[.slice p1 p.decls.length q1,.slice (some a) p.rules.length s1] 25 (0,0)):=(B3.out.block _ lp').trans Hep.out
   obtain⟨y0,y1,y2,y3⟩:=row4 g1
   have yd:W3.cell? ⟨Bp,0,none⟩=some (.slice p1 p.decls.length q1):=row_cells g2 0
   have m3:nr < W3.heap.size:=heap_lt g1
   have m4:Bp < W3.heap.size:=heap_lt g2
   have HA:=hid (gatom_in (n - 1) p1 p.decls.length q1 r _ W3 ((HCc.out.below B3.out).more B3.out.size))
   have HRh:=hid rh
   have Hs3:=hid s3
   have Hh2:=hid hh
   have Hn2:=hid hn2
   unfold findV
   rw[hh]
   clear b2 zp zr0 b3' rh g1 g2 hh s3 HF
   subst hW3
   gi_wp2_with fail
   refine⟨trivial,HA.out.mono ?_⟩
   rintro e w4 ⟨rfl,hw4⟩
   generalize hW3:w2.alloc (.cells #[.int .i64 (h:Int)] 3)=W3 at *
   have s3:=Hs3.out
   have b4':Below W3.heap.size W3 w4:=by rw[hw4];exact ((Below.refl _ _).alloc (Nat.le_refl _) _).alloc (by simp) _
   have rd4:w4.heap[n2+1]?=some (.cells #[.slice p1 p.decls.length q1] 22 (0,0)):=by
    rw[hw4,← s3]
    exact (Below.heap_alloc _ _ _ (by simp)).trans (World.alloc_heap_new W3 _)
   have rr4:w4.heap[n2+2]?=some (.cells #[.string r.head.rel,.slice a3 r.head.l.length b3,.slice a4 r.body.length b4,.int .i64 r.line] 47 (0,0)):=by
    have h1:=World.alloc_heap_new (W3.alloc (.cells #[.slice p1 p.decls.length q1] 22)) (.cells #[.string r.head.rel,.slice a3 r.head.l.length b3,.slice a4 r.body.length b4,.int .i64 r.line] 47)
    rw[World.size_alloc,s3] at h1
    rw[hw4]
    exact h1
   have hnr2:=Hnr.out
   have hn22:=Hn2.out
   have B4:Below wr.heap.size wr w4:=B3.out.trans (b4'.mono (by omega))
   have z4:n0+1≤w4.heap.size:=by have:=B4.size;omega
   have rh4:w4.heap[n2]?=some (.cells #[.int .i64 (h:Int)] 3 (0,0)):=(b4'.block _ (by omega)).trans HRh.out
   have ry4:w4.heap[n0]?=some (.cells #[.func (.yield l) #[] #[]] 69 (0,0)):=(B4.block _ (by omega)).trans (Hkc.out.same _ _ HRy.out rfl)
   have HSq:=hid (gatom_nest (n - 1) m (n2+1) (n2+2) p.decls _ r _ w4 rd4 rr4 (SlOf.decl HD1.out B4 B4.size) ((HCc.out.below B4).more B4.size))
   have Rh4:=hid rh4
   have Ry4:=hid ry4
   have HB4:=hid B4
   have J4:=hid (HJ.out _ _ _ Hj.out (B4.mono (by rw[Hn0.out];omega)) (KC.of_below B4))
   have M4:=hid (HM.out.below B4)
   have HMl:=hid (Marks.lt HM.out)
   obtain⟨N4,hN4⟩:∃ N,w4.heap.size=N:=⟨_,rfl⟩
   have HN4:=hid hN4
   rw[s3]
   clear hw4 b4' rd4 rr4 B4 rh4 ry4 hW3 s3 y0 y1 y2 y3 yd m3 m4 HA
   gi_wp2_with fail
   refine range_nest rfl (by omega) (gf:=115) (lb:=#[.pointer (some ⟨n2+2,0,none⟩),.pointer (some ⟨n2+1,0,none⟩)]) rfl trivial (enters_of Tryz.func115 (by kernel_rfl) rfl)
    HSq.out (by have h1:=HW.out.size;have h2:=Hn0.out;omega) (Below.refl _ _) (fun _=>rfl)
    (fun j W'=>J (edgeN p.decls p.rules k+j) W'∧KC w4 W'∧Marks (n0+1) W' Ds)
    (fun _ c W'=>c=.ret∧(∃ j,Jx j W')∧Marks (n0+1) W' Ds) ?hI ?hIx ⟨J4.out,KC.refl _,M4.out⟩
    (fun j x a' W'=>(J (edgeN p.decls p.rules k+j) W'∧KC w4 W'∧Marks (n0+1) W' Ds)∧a'={ tmps:=#[.func (.yield l) #[] #[],.pointer (some ⟨Bp,0,none⟩),.pointer (some ⟨n0,0,none⟩),undef,.pointer (some ⟨nr,0,none⟩),.pointer (some ⟨n2,0,none⟩),.bool true,undef,.int .i64 (x.2:Int),.pointer (some ⟨Bp,1,none⟩),.slice (some a) p.rules.length s1,.int .i64 p.rules.length,.int .i64 (k:Int),.bool true,.pointer (some (a.add (k * 4))),.agg #[.string r.head.rel,.slice a3 r.head.l.length b3,.slice a4 r.body.length b4,.int .i64 r.line],.tuple #[.int .i64 (h:Int),.bool true],.pointer (some ⟨Bp,0,none⟩),.slice p1 p.decls.length q1,.pointer (some ⟨nr,0,none⟩),.pointer (some ⟨nr,0,none⟩),.string r.head.rel,.tuple #[.int .i64 (h:Int),.bool true],.int .i64 (h:Int),.bool true,.pointer (some ⟨Bp,0,none⟩),.slice p1 p.decls.length q1,.agg #[.string r.head.rel,.slice a3 r.head.l.length b3,.slice a4 r.body.length b4,.int .i64 r.line],.func (.func 115) #[] #[.pointer (some ⟨n2+2,0,none⟩),.pointer (some ⟨n2+1,0,none⟩)],.int .i64 x.1,.int .i64 (x.2:Int),undef,undef,undef,undef,undef,u36],defers:=[] })
    ?hM ?assign ?body ?done ?stop
   case hI=>
    rintro j A B ⟨h1,h2,h3⟩ hb hk
    exact⟨HJ.out _ _ _ h1 (hb.mono (by rw[Hn0.out];omega)) hk,h2.trans hk,Marks.kept (fun D hD h=>(hb.block D (Nat.lt_of_lt_of_le (HMl.out D hD) HB4.out.size)).trans h) h3⟩
   case hIx=>
    rintro j c A B ⟨h1,⟨q,h2⟩,h3⟩ hb hk
    exact⟨h1,⟨q,HJx.out _ _ _ h2 (hb.mono (by rw[Hn0.out];omega)) hk⟩,Marks.kept (fun D hD h=>(hb.block D (Nat.lt_of_lt_of_le (HMl.out D hD) HB4.out.size)).trans h) h3⟩
   case hM=>
    rintro j x a' A B ⟨⟨h1,h2,h3⟩,h4⟩ hb hk
    exact⟨⟨HJ.out _ _ _ h1 (hb.mono (by rw[Hn0.out];omega)) hk,h2.trans hk,Marks.kept (fun D hD h=>(hb.block D (Nat.lt_of_lt_of_le (HMl.out D hD) HB4.out.size)).trans h) h3⟩,h4⟩
   case assign=>
    rintro lp j ⟨x1',x2⟩ A hx hA
    have HAA:=hid hA
    clear hA
    simp only[encA]
    gi_wp2
    exact⟨KeepsFrom.refl _ _,KC.refl _,Below.refl _ _,HAA.out,trivial⟩
   case body=>
    rintro lp j ⟨x1',x2⟩ a' A hx ⟨⟨h1,h2,h3⟩,rfl⟩
    have hml:=edge_at Hr.out hx
    rw[Hh2.out] at hml
    obtain⟨fn2,tmps2,assign2,body2,hy2,hR2⟩:=HY.out _ (h,x2) A hml h1
    have hR3:RoundIn (Fence.wide.inRound lp) (n - 1 - 1 - 1) Tryz.prog l fn2 tmps2 assign2 body2 A _:=roundAny (F:=Fence.wide) rfl hR2
    unfold encE at hy2
    have y0:A.cell? ⟨n0,0,none⟩=some (.func (.yield l) #[] #[]):=row_cells (h2.same _ _ Ry4.out rfl) 0
    have yl:n0 < A.heap.size:=heap_lt (h2.same _ _ Ry4.out rfl)
    have hh0:A.cell? ⟨n2,0,none⟩=some (.int .i64 (h:Int)):=row_cells (h2.same _ _ Rh4.out rfl) 0
    have hhl:n2 < A.heap.size:=heap_lt (h2.same _ _ Rh4.out rfl)
    have H2:=hid h2
    have H3:=hid h3
    clear hR2 h1 h2 h3 hml hx
    gi_wp2
    refine⟨fun h=>(by cases h),hR3.mono ?_⟩
    rintro e W4 (⟨rfl,k1,k2,k3,k4⟩ | ⟨rfl,k1,k2⟩)
    ·have Q1:=hid k1
     have Q2:=hid k2
     have Q3:Hid (KeepsFrom w4.heap.size A W4):=hid (keepsFrom_up k3 (by rw[Hn0.out];omega))
     have Q4:=hid k4
     have Q5:Hid (Marks (n0+1) W4 Ds):=hid (Marks.kept (fun D hD h=>k3.same D _ (by rw[Hn0.out];have:=Marks.ge H3.out D hD;omega) h rfl) H3.out)
     clear k1 k2 k3 k4
     gi_wp2
     exact⟨Q3.out,Q2.out,Q4.out,Q1.out,H2.out.trans Q2.out,Q5.out⟩
    ·have Q1:=hid k1
     have Q3:Hid (KeepsFrom w4.heap.size A W4):=hid (keepsFrom_up k2 (by rw[Hn0.out];omega))
     have Q5:Hid (Marks (n0+1) W4 Ds):=hid (Marks.kept (fun D hD h=>k2.same D _ (by rw[Hn0.out];have:=Marks.ge H3.out D hD;omega) h rfl) H3.out)
     clear k1 k2
     gi_wp2
     exact⟨Q3.out,rfl,⟨_,Q1.out⟩,Q5.out⟩
   case done=>
    rintro D A hD ⟨h1,h2,h3⟩ hK
    have Hj2:Hid (J (edgeN p.decls p.rules (k+1)) A):=hid (by rw[edgeN_succ Hr.out];exact h1)
    have Hk2:=hid ((Hkc.out.trans (KC.of_below HB4.out)).trans h2)
    have Hm2:Hid (Marks (n0+1) A (D::Ds)):=hid ⟨⟨hK,by omega,fun E hE e=>by have:=HMl.out E hE;have:=HB4.out.size;omega⟩,h3⟩
    clear h1 h2 h3 hK
    gi_wp2
    rw[show ((k:Int)+1)=((k+1:Nat):Int) by omega]
    exact⟨⟨k+1,D::Ds,_,_,_,_,_,_,_,_,_,_,_,_,_,_,_,_,_,_,_,_,rfl,hlt,Hj2.out,Hk2.out,Hm2.out⟩,by simp[intOf];omega⟩
   case stop=>
    rintro D j c A hD ⟨rfl,⟨q,h2⟩,h3⟩ hK
    have Hm2:Hid (Marks n0 A (D::Ds)):=hid ⟨⟨hK,by omega,fun E hE e=>by have:=HMl.out E hE;have:=HB4.out.size;omega⟩,h3.weak (by omega)⟩
    have H2:=hid h2
    clear h2 h3 hK
    gi_wp2
    exact leaves_deaf (S:=fun W'=>J (edgesG p).length W'∨∃ k,Jx k W') (fun W=>results_none rfl _ _ _) HS.out (D::Ds) A Hm2.out (.inr ⟨_,H2.out⟩)
  ·have hlt':¬ (k:Int) < (p.rules.length:Int):=by omega
   have Hall:Hid (J (edgesG p).length wr):=hid (by
    have e:edgeN p.decls p.rules k=(edgesG p).length:=by unfold edgeN edgesG;rw[List.take_of_length_le (by omega)]
    rw[← e];exact hj)
   have HM:=hid hM
   clear hj hkc hM kw x0 x1
   gi_wp2
   exact leaves_deaf (S:=fun W'=>J (edgesG p).length W'∨∃ k,Jx k W') (fun W=>results_none rfl _ _ _) HS.out Ds wr (HM.out.weak (by omega)) (.inl Hall.out)
end Go.Proofs.YtakpgcmfjlbcgaaGreatDoor
namespace Go.Proofs.YtakpgcmfjlbcgaaGreatDoor
open Lib(hid)
open Go.RowKit Go.Shelf
attribute [local go_sem] Oper.semAt_some
noncomputable def mutL (E:Ed) (ds:List De) (r:Ru):List Int:=((atomsG ds r.body).filter fun x=>mutB E (headG ds r) x.2).map (·.1)
def encM (x:Int):Array Value:=#[.int .i64 x]
noncomputable def mutN (E:Ed) (h:Nat) (pre:List (Int × Nat)):Nat:=(pre.filter fun x=>mutB E h x.2).length
theorem mutN_snoc (E:Ed) (h:Nat) (pre:List (Int × Nat)) (x:Int × Nat):mutN E h (pre++[x])=mutN E h pre+(if mutB E h x.2=true then 1 else 0):=by
 unfold mutN
 rw[List.filter_append,List.length_append]
 congr 1
 cases hb:mutB E h x.2 <;> simp[hb]
theorem mutL_at {E:Ed} {ds:List De} {r:Ru} {pre:List (Int × Nat)} {x:Int × Nat} (hp:pre++[x] <+: atomsG ds r.body) (hm:mutB E (headG ds r) x.2=true):(mutL E ds r)[mutN E (headG ds r) pre]?=some x.1:=by
 obtain⟨q,hq⟩:=hp
 unfold mutL mutN
 rw[← hq,List.filter_append,List.filter_append,List.map_append,List.map_append,List.append_assoc,List.getElem?_append_right (by simp)]
 simp[hm]
theorem gmut_in (n:Nat) (gc:List Value) (o:Option Addr) (len cap:Nat) (r:Ru) (cs:List Value) (w:World) (hg:∃ u v,gc=[u,v]) (hc:RuC w w.heap.size r cs) :
  CallsIn Fence.wide n Tryz.prog 55 #[.agg gc.toArray,.slice o len cap,.agg cs.toArray] w fun e w'=>e=.returned (.func (.func 79) #[] #[.pointer (some ⟨w.heap.size+1,0,none⟩),.pointer (some ⟨w.heap.size+2,0,none⟩),.pointer (some ⟨w.heap.size,0,none⟩)])∧w'=((w.alloc (.cells gc.toArray 62)).alloc (.cells #[.slice o len cap] 22)).alloc (.cells cs.toArray 47):=by
 obtain⟨o0,k0,o1,k1,rfl,_⟩:=hc.look
 obtain⟨u,v,rfl⟩:=hg
 clear hc
 refine callsIn_of_wp Tryz.func55 rfl trivial ?_ rfl
 simp only[Tryz.ntmps55,List.size_toArray,List.length_cons,List.length_nil,Nat.reduceAdd,Nat.reduceSub,Array.replicate_succ,Array.replicate_zero,List.push_toArray,List.append_toArray,List.nil_append,List.cons_append]
 gi_wp2
 go_ret
 exact⟨rfl,rfl⟩
set_option maxRecDepth 100000 in
set_option maxHeartbeats 8000000 in
theorem gmut_nest (E:Ed) (n Bd Br Bg:Nat) (ds:List De) (dv nv v:Value) (bs:List Nat) (r:Ru) (cs:List Value) (w:World) (hn:1≤n) (hd:w.heap[Bd]?=some (.cells #[dv] 22 (0,0))) (hr:w.heap[Br]?=some (.cells cs.toArray 47 (0,0)))
  (hg:w.heap[Bg]?=some (.cells #[nv,v] 62 (0,0))) (ho:∃ o l c,nv=.slice o l c) (hG:GrN w v bs ds.length (Rch E)) (hD:SlOf w w.heap.size 6 (DeC w w.heap.size) ds dv) (hc:RuC w w.heap.size r cs) (hh:findY r.head.rel ds=some (headG ds r)) :
  SeqNest Fence.wide n Tryz.prog 79 #[.pointer (some ⟨Bd,0,none⟩),.pointer (some ⟨Br,0,none⟩),.pointer (some ⟨Bg,0,none⟩)] encM (mutL E ds r) w.heap.size w:=by
 intro l J Jx W hW hJ hJx hY h0
 have hKW:KC w W:=KC.of_below hW
 obtain⟨o0,k0,o1,k1,rfl,_,hA,hL⟩:=hc.look
 obtain⟨od,cd,rfl,_⟩:=SlOf.uni hD
 have HY:=hid hY
 have HJ:=hid hJ
 have HJx:=hid hJx
 have HD:=hid hD
 have HC:=hid hc
 have HG:=hid hG
 have HW:=hid hW
 have Ho:=hid ho
 have hlt:=findY_lt hh
 have Hh:=hid hh
 have q1:W.heap[Br]?=some (.cells #[.string r.head.rel,.slice o0 r.head.l.length k0,.slice o1 r.body.length k1,.int .i64 r.line] 47 (0,0)):=hKW.same _ _ hr rfl
 have q2:W.heap[Bd]?=some (.cells #[.slice od ds.length cd] 22 (0,0)):=hKW.same _ _ hd rfl
 have q3:W.heap[Bg]?=some (.cells #[nv,v] 62 (0,0)):=hKW.same _ _ hg rfl
 have l1:=heap_lt q1
 have l2:=heap_lt q2
 have l3:=heap_lt q3
 obtain⟨n0,hn0⟩:∃ n0,W.heap.size=n0:=⟨_,rfl⟩
 obtain⟨W1,hW1⟩:∃ W1,W.alloc (.cells #[.func (.yield l) #[] #[]] 67)=W1:=⟨_,rfl⟩
 have b1:Below W.heap.size W W1:=by rw[← hW1];exact (Below.refl _ _).alloc (Nat.le_refl _) _
 have ry:W1.heap[n0]?=some (.cells #[.func (.yield l) #[] #[]] 67 (0,0)):=by rw[← hW1,← hn0];exact World.alloc_heap_new W _
 have s1:W1.heap.size=n0+1:=by rw[← hW1,← hn0];simp
 have hF:=find_c r.head.rel W1.heap.size ds _ W1 (SlOf.declK hD (hKW.trans (KC.of_below b1)) (hKW.trans (KC.of_below b1)).size) (Nat.le_refl _)
 rw[hh] at hF
 have HF:=hid hF
 have x0:W1.cell? ⟨Bd,0,none⟩=some (.slice od ds.length cd):=row_cells ((b1.block _ l2).trans q2) 0
 have x1:W1.cell? ⟨Br,0,none⟩=some (.string r.head.rel):=row_cells ((b1.block _ l1).trans q1) 0
 have m1:Bd < W1.heap.size:=Nat.lt_of_lt_of_le l2 b1.size
 have m2:Br < W1.heap.size:=Nat.lt_of_lt_of_le l1 b1.size
 have HQ1:=hid q1
 have HQ2:=hid q2
 have HQ3:=hid q3
 have HRy:=hid ry
 have Hb1:=hid b1
 have Hn0:=hid hn0
 have HW1:=hid hW1
 have Hs1:=hid s1
 have HJ0:=hid h0
 clear hY hJ hJx hD hc hG hW ho hh q1 q2 q3 ry b1 hA hL hF h0 hKW hd hr hg
 refine callsIn_of_wp_marks Tryz.func79 rfl trivial ?_ rfl
 simp only[Tryz.ntmps79,List.size_toArray,List.length_cons,List.length_nil,Nat.reduceAdd,Nat.reduceSub,Array.replicate_succ,Array.replicate_zero,List.push_toArray,List.append_toArray,List.nil_append,List.cons_append]
 subst hW1
 gi_wp2_with fail
 refine⟨trivial,(callsIn_wide.2 HF.out).mono ?_⟩
 rintro e w2 ⟨rfl,b2⟩
 have B2:Below n0 W w2:=by rw[← Hn0.out];exact Hb1.out.trans (b2.mono Hb1.out.size)
 have z2:n0+1≤w2.heap.size:=by have:=b2.size;have:=Hs1.out;omega
 obtain⟨n2,hn2⟩:∃ n2,w2.heap.size=n2:=⟨_,rfl⟩
 obtain⟨h,hh⟩:∃ h,headG ds r=h:=⟨_,rfl⟩
 obtain⟨W3,hW3⟩:∃ W3,w2.alloc (.cells #[.int .i64 (h:Int)] 3)=W3:=⟨_,rfl⟩
 have b3:Below w2.heap.size w2 W3:=by rw[← hW3];exact (Below.refl _ _).alloc (Nat.le_refl _) _
 have rh:W3.heap[n2]?=some (.cells #[.int .i64 (h:Int)] 3 (0,0)):=by rw[← hW3,← hn2];exact World.alloc_heap_new w2 _
 have s3:W3.heap.size=n2+1:=by rw[← hW3,← hn2];simp
 have B3:Below n0 W W3:=B2.trans (b3.mono (by omega))
 have hWn:w.heap.size≤n0:=by rw[← Hn0.out];exact HW.out.size
 have BW3:Below w.heap.size w W3:=HW.out.trans (B3.mono hWn)
 have g1:W3.heap[Br]?=some (.cells #[.string r.head.rel,.slice o0 r.head.l.length k0,.slice o1 r.body.length k1,.int .i64 r.line] 47 (0,0)):=(B3.block _ (by rw[← Hn0.out];exact l1)).trans HQ1.out
 have g2:W3.heap[Bd]?=some (.cells #[.slice od ds.length cd] 22 (0,0)):=(B3.block _ (by rw[← Hn0.out];exact l2)).trans HQ2.out
 obtain⟨y0,y1,y2,y3⟩:=row4 g1
 have yd:W3.cell? ⟨Bd,0,none⟩=some (.slice od ds.length cd):=row_cells g2 0
 have m3:Br < W3.heap.size:=heap_lt g1
 have m4:Bd < W3.heap.size:=heap_lt g2
 have ry3:W3.heap[n0]?=some (.cells #[.func (.yield l) #[] #[]] 67 (0,0)):=((b2.trans (b3.mono b2.size)).block _ (by have:=Hs1.out;omega)).trans HRy.out
 have HA:=hid (gatom_in (n - 1) od ds.length cd r _ W3 ((HC.out.below BW3).more BW3.size))
 have HRh:=hid rh
 have HRy3:=hid ry3
 have HB3:=hid B3
 have HBW3:=hid BW3
 have Hs3:=hid s3
 have Hh2:=hid hh
 have Hn2:=hid hn2
 unfold findV
 rw[hh]
 clear b2 x0 x1 m1 m2 B2 b3 rh ry3 B3 BW3 g1 g2 hh s3 HF
 subst hW3
 gi_wp2_with fail
 refine⟨trivial,HA.out.mono ?_⟩
 rintro e w4 ⟨rfl,hw4⟩
 generalize hW3:w2.alloc (.cells #[.int .i64 (h:Int)] 3)=W3 at *
 have s3:=Hs3.out
 have b4:Below W3.heap.size W3 w4:=by rw[hw4];exact ((Below.refl _ _).alloc (Nat.le_refl _) _).alloc (by simp) _
 have rd4:w4.heap[n2+1]?=some (.cells #[.slice od ds.length cd] 22 (0,0)):=by
  rw[hw4,← s3]
  exact (Below.heap_alloc _ _ _ (by simp)).trans (World.alloc_heap_new W3 _)
 have rr4:w4.heap[n2+2]?=some (.cells #[.string r.head.rel,.slice o0 r.head.l.length k0,.slice o1 r.body.length k1,.int .i64 r.line] 47 (0,0)):=by
  have h1:=World.alloc_heap_new (W3.alloc (.cells #[.slice od ds.length cd] 22)) (.cells #[.string r.head.rel,.slice o0 r.head.l.length k0,.slice o1 r.body.length k1,.int .i64 r.line] 47)
  rw[World.size_alloc,s3] at h1
  rw[hw4]
  exact h1
 have B4:Below n0 W w4:=HB3.out.trans (b4.mono (by have:=Hn2.out;omega))
 have BW4:Below w.heap.size w w4:=HBW3.out.trans (b4.mono (by have:=Hn2.out;omega))
 have z4:n0≤w4.heap.size:=by have:=B4.size;rw[Hn0.out] at this;exact this
 have rh4:w4.heap[n2]?=some (.cells #[.int .i64 (h:Int)] 3 (0,0)):=(b4.block _ (by omega)).trans HRh.out
 have ry4:w4.heap[n0]?=some (.cells #[.func (.yield l) #[] #[]] 67 (0,0)):=(b4.block _ (by have:=Hn2.out;omega)).trans HRy3.out
 have rg4:w4.heap[Bg]?=some (.cells #[nv,v] 62 (0,0)):=(B4.block _ (by rw[← Hn0.out];exact l3)).trans HQ3.out
 have HSq:=hid (gatom_nest (n - 1) w.heap.size (n2+1) (n2+2) ds _ r _ w4 rd4 rr4 (SlOf.decl HD.out BW4 BW4.size) ((HC.out.below BW4).more BW4.size))
 have Rh4:=hid rh4
 have Ry4:=hid ry4
 have Rg4:=hid rg4
 have HB4:=hid B4
 have HBW4:=hid BW4
 have J4:=hid (HJ.out 0 _ _ HJ0.out (by rw[Hn0.out];exact B4) (KC.of_below (by rw[Hn0.out];exact B4)))
 have Hhlt:Hid (h < ds.length):=hid (by rw[← Hh2.out];exact hlt)
 obtain⟨N4,hN4⟩:∃ N,w4.heap.size=N:=⟨_,rfl⟩
 have HN4:=hid hN4
 rw[s3]
 clear hw4 b4 rd4 rr4 B4 BW4 rh4 ry4 rg4 hW3 s3 y0 y1 y2 y3 yd m3 m4 HA
 gi_wp2_with fail
 refine range_nest rfl (by omega) (gf:=115) (lb:=#[.pointer (some ⟨n2+2,0,none⟩),.pointer (some ⟨n2+1,0,none⟩)]) rfl trivial (enters_of Tryz.func115 (by kernel_rfl) rfl)
  HSq.out (by have:=HBW4.out.size;exact this) (Below.refl _ _) (fun _=>rfl)
  (fun k W'=>J (mutN E h ((atomsG ds r.body).take k)) W'∧KC w4 W'∧Below w.heap.size w4 W')
  (fun _ c W'=>c=.ret∧(∃ k,Jx k W')∧n0≤W'.heap.size) ?hI ?hIx ⟨J4.out,KC.refl _,Below.refl _ _⟩
  (fun k x a' W'=>(J (mutN E h ((atomsG ds r.body).take k)) W'∧KC w4 W'∧Below w.heap.size w4 W')∧a'={ tmps:=#[.func (.yield l) #[] #[],.pointer (some ⟨Bd,0,none⟩),.pointer (some ⟨Br,0,none⟩),.pointer (some ⟨Bg,0,none⟩),.pointer (some ⟨n0,0,none⟩),.pointer (some ⟨n2,0,none⟩),.bool true,.int .i64 x.1,.int .i64 (x.2:Int),.tuple #[.int .i64 (h:Int),.bool true],.slice od ds.length cd,.pointer (some ⟨Br,0,none⟩),.pointer (some ⟨Br,0,none⟩),.string r.head.rel,.tuple #[.int .i64 (h:Int),.bool true],.int .i64 (h:Int),.bool true,.slice od ds.length cd,.agg #[.string r.head.rel,.slice o0 r.head.l.length k0,.slice o1 r.body.length k1,.int .i64 r.line],.func (.func 115) #[] #[.pointer (some ⟨n2+2,0,none⟩),.pointer (some ⟨n2+1,0,none⟩)],.int .i64 x.1,.int .i64 (x.2:Int),undef,undef,undef,undef,undef,undef,undef,undef,undef,undef],defers:=[] })
  ?hM ?assign ?body ?done ?stop
 case hI=>
  rintro k A B ⟨h1,h2,h3⟩ hb hk
  exact⟨HJ.out _ _ _ h1 (hb.mono (by rw[Hn0.out];exact z4)) hk,h2.trans hk,h3.trans (hb.mono HBW4.out.size)⟩
 case hIx=>
  rintro k c A B ⟨h1,⟨j,h2⟩,h3⟩ hb hk
  exact⟨h1,⟨j,HJx.out _ _ _ h2 (hb.mono (by rw[Hn0.out];exact z4)) hk⟩,Nat.le_trans h3 hk.size⟩
 case hM=>
  rintro k x a' A B ⟨⟨h1,h2,h3⟩,h4⟩ hb hk
  exact⟨⟨HJ.out _ _ _ h1 (hb.mono (by rw[Hn0.out];exact z4)) hk,h2.trans hk,h3.trans (hb.mono HBW4.out.size)⟩,h4⟩
 case assign=>
  rintro lp k ⟨x1,x2⟩ A hx hA
  have HAA:=hid hA
  clear hA
  simp only[encA]
  gi_wp2
  exact⟨KeepsFrom.refl _ _,KC.refl _,Below.refl _ _,HAA.out,trivial⟩
 case body=>
  rintro lp k ⟨x1,x2⟩ a' A hx ⟨⟨h1,h2,h3⟩,rfl⟩
  have hb:x2 < ds.length:=atomsG_lt _ (List.mem_of_getElem? hx)
  have hst:(atomsG ds r.body).take (k+1)=(atomsG ds r.body).take k++[(x1,x2)]:=by rw[List.take_add_one,hx];rfl
  have Hst:=hid hst
  have Hpre:Hid ((atomsG ds r.body).take k++[(x1,x2)] <+: atomsG ds r.body):=hid (by rw[← hst];exact List.take_prefix _ _)
  have HM:=hid (areMut_c E ds.length h x2 nv v bs A Ho.out (HG.out.below (HBW4.out.trans h3)) Hhlt.out hb)
  have g0:A.cell? ⟨Bg,0,none⟩=some nv:=row_cells (h2.same _ _ Rg4.out rfl) 0
  have g1:A.cell? ⟨Bg,1,none⟩=some v:=row_cells (h2.same _ _ Rg4.out rfl) 1
  have gl:Bg < A.heap.size:=heap_lt (h2.same _ _ Rg4.out rfl)
  have hh0:A.cell? ⟨n2,0,none⟩=some (.int .i64 (h:Int)):=row_cells (h2.same _ _ Rh4.out rfl) 0
  have hhl:n2 < A.heap.size:=heap_lt (h2.same _ _ Rh4.out rfl)
  have RyA:=hid (h2.same _ _ Ry4.out rfl)
  have H1:=hid h1
  have H2:=hid h2
  have H3:=hid h3
  obtain⟨o5,l5,c5,hnv⟩:=Ho.out
  have Hv:Hid (∃ o l c,v=.slice o l c):=hid (by obtain⟨o,c,e,_⟩:=SlOf.uni HG.out.sl;exact⟨o,_,c,e⟩)
  obtain⟨o6,l6,c6,hv6⟩:=Hv.out
  subst hnv hv6
  clear h1 h2 h3 hx hst hb
  gi_wp2_with fail
  refine⟨trivial,fun h=>(by cases h),(CallsIn.inRound lp (callsIn_wide.2 HM.out)).mono ?_⟩
  rintro e W3 ⟨rfl,b3⟩
  have K3:=hid (KC.of_below b3)
  have zA:N4≤A.heap.size:=by have:=H2.out.size;rw[HN4.out] at this;exact this
  have D3:=hid (HJ.out _ _ _ H1.out (b3.mono (by rw[Hn0.out];have:=HN4.out;omega)) K3.out)
  have M3:=hid (b3.mono (show w.heap.size≤A.heap.size by have:=HBW4.out.size;have:=HN4.out;omega))
  have F3:Hid (KeepsFrom N4 A W3):=hid ⟨b3.size,fun i o _ ho _=>(b3.block i (heap_lt ho)).trans ho⟩
  have y0:W3.cell? ⟨n0,0,none⟩=some (.func (.yield l) #[] #[]):=row_cells (K3.out.same _ _ RyA.out rfl) 0
  have yl:n0 < W3.heap.size:=heap_lt (K3.out.same _ _ RyA.out rfl)
  clear b3 HM
  cases hm:mutB E h x2 with
  | false=>
   have Hnx:Hid (mutN E h ((atomsG ds r.body).take (k+1))=mutN E h ((atomsG ds r.body).take k)):=hid (by rw[Hst.out,mutN_snoc,hm];rfl)
   clear hm
   gi_wp2
   refine⟨fun f h=>(by cases h),?_⟩
   gi_wp2
   rw[HN4.out]
   exact⟨F3.out,K3.out,M3.out,by rw[Hnx.out];exact D3.out,H2.out.trans K3.out,H3.out.trans M3.out⟩
  | true=>
   have Hnx:Hid (mutN E h ((atomsG ds r.body).take (k+1))=mutN E h ((atomsG ds r.body).take k)+1):=hid (by rw[Hst.out,mutN_snoc,hm];rfl)
   have hml:(mutL E ds r)[mutN E h ((atomsG ds r.body).take k)]?=some x1:=by rw[← Hh2.out];exact mutL_at Hpre.out (by rw[Hh2.out];exact hm)
   obtain⟨fn2,tmps2,assign2,body2,hy2,hR2⟩:=HY.out _ x1 W3 hml D3.out
   unfold encM at hy2
   clear hm hml
   have hR3:RoundIn (Fence.wide.inRound lp) (n - 1 - 1 - 1) Tryz.prog l fn2 tmps2 assign2 body2 W3 _:=roundAny (F:=Fence.wide) rfl hR2
   clear hR2
   gi_wp2
   refine⟨fun h=>(by cases h),hR3.mono ?_⟩
   rintro e W4 (⟨rfl,k1,k2,k3,k4⟩ | ⟨rfl,k1,k2⟩)
   ·have Q1:=hid k1
    have Q2:=hid (K3.out.trans k2)
    have Q3:Hid (KeepsFrom N4 A W4):=hid (F3.out.trans (keepsFrom_up k3 (by rw[Hn0.out];have:=HN4.out;omega)))
    have Q4:=hid (M3.out.trans k4)
    clear k1 k2 k3 k4
    gi_wp2
    rw[HN4.out]
    exact⟨Q3.out,Q2.out,Q4.out,by rw[Hnx.out];exact Q1.out,H2.out.trans Q2.out,H3.out.trans Q4.out⟩
   ·have Q1:=hid k1
    have Q3:Hid (KeepsFrom N4 A W4):=hid (F3.out.trans (keepsFrom_up k2 (by rw[Hn0.out];have:=HN4.out;omega)))
    clear k1 k2
    gi_wp2
    rw[HN4.out]
    exact⟨Q3.out,rfl,⟨_,Q1.out⟩,by have:=Q3.out.size;have:=HN4.out;omega⟩
 case done=>
  rintro D A hD ⟨h1,h2,h3⟩ hK
  have hall:(atomsG ds r.body).take (atomsG ds r.body).length=atomsG ds r.body:=List.take_of_length_le (Nat.le_refl _)
  rw[hall] at h1
  have hlen:mutN E h (atomsG ds r.body)=(mutL E ds r).length:=by unfold mutN mutL;rw[List.length_map,Hh2.out]
  rw[hlen] at h1
  have H1:=hid ((HJ.out (mutL E ds r).length).put (l:=D) (o':=.deferred none) h1 (by rw[Hn0.out];have:=HN4.out;omega) hK rfl)
  have HK:=hid hK
  clear h1 h2 h3 hK hall hlen
  gi_wp2
  exact⟨by simp,.inl ⟨_,_,rfl,run_takeDeferred HK.out,⟨_,results_none rfl _ _ _,⟨_,rfl⟩,.inl H1.out⟩⟩⟩
 case stop=>
  rintro D k c A hD ⟨rfl,⟨j,h2⟩,h3⟩ hK
  have H1:=hid ((HJx.out j).put (l:=D) (o':=.deferred none) h2 (by rw[Hn0.out];have:=HN4.out;omega) hK rfl)
  have HK:=hid hK
  clear h2 h3 hK
  gi_wp2
  exact⟨by simp,.inl ⟨_,_,rfl,run_takeDeferred HK.out,⟨_,results_none rfl _ _ _,⟨_,rfl⟩,.inr ⟨_,H1.out⟩⟩⟩⟩
end Go.Proofs.YtakpgcmfjlbcgaaGreatDoor
