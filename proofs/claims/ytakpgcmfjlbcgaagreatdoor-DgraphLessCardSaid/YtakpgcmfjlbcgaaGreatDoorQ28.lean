/- Ze@0123, Zs@0123, Zu@0123 -/
import Derived.Test.YtakpgcmfjlbcgaaGreatDoorQ25
import Derived.Test.YtakpgcmfjlbcgaaGreatDoorQ27
set_option linter.unusedSimpArgs false
set_option linter.unusedVariables false
namespace Go.Proofs.YtakpgcmfjlbcgaaGreatDoor
open Lib(hid)
open Go.RowKit
attribute [local go_sem] Oper.semAt_some
structure PlX where
 j:Nat
 l:List Tm
 v:Value
 l2:List Tm
 v2:Value
abbrev LtS (w0 W:World) (l:List Tm) (v:Value):Prop:=SlOf W W.heap.size 4 (TmC w0 w0.heap.size) l v
structure PlG (r:Ru) (cs:List Value) (w0:World) (Bx:Nat) (x:PlX) (W:World):Prop where
 few:x.j≤(placesZ r).length
 b:Below w0.heap.size w0 W
 row:W.heap[Bx]?=some (.cells cs.toArray 47 (0,0))
 two:LtS w0 W x.l2 x.v2
structure PlT (r:Ru) (w0:World) (x:PlX) (W:World) (x':PlX) (W':World):Prop where
 next:x'.j=x.j+1
 at_:(placesZ r)[x.j]?=some x'.l
 b:Below W.heap.size W W'
 one:LtS w0 W' x'.l x'.v
 two:LtS w0 W' x'.l2 x'.v2
structure PlE (r:Ru) (x:PlX) (W W':World):Prop where
 all:x.j=(placesZ r).length
 b:Below W.heap.size W W'
theorem placesL_take {b:List Lt} {k:Nat} {l:Lt} (h:b[k]?=some l):placesL (b.take (k+1))=placesL (b.take k)++placesL [l]:=by
 rw[List.take_add_one,h];exact placesL_app _ _
theorem places_at {r:Ru} {k:Nat} {l:Lt} (h:r.body[k]?=some l) (i:Nat) (p:List Tm) (hp:(placesL [l])[i]?=some p):(placesZ r)[1+(placesL (r.body.take k)).length+i]?=some p:=by
 have hb:r.body=r.body.take k++([l]++r.body.drop (k+1)):=by
  have h1:r.body.drop k=l::r.body.drop (k+1):=by rw[List.drop_eq_getElem_cons (List.getElem?_eq_some_iff.1 h).1,(List.getElem?_eq_some_iff.1 h).2]
  rw[List.singleton_append,← h1,List.take_append_drop]
 have e:placesZ r=r.head.l::(placesL (r.body.take k)++(placesL [l]++placesL (r.body.drop (k+1)))):=by
  unfold placesZ
  conv=>lhs;rw[hb]
  rw[placesL_app,placesL_app]
 rw[e,show 1+(placesL (r.body.take k)).length+i=((placesL (r.body.take k)).length+i)+1 by omega,List.getElem?_cons_succ,List.getElem?_append_right (by omega),show (placesL (r.body.take k)).length+i - (placesL (r.body.take k)).length=i by omega]
 rw[List.getElem?_append_left (List.getElem?_eq_some_iff.1 hp).1]
 exact hp
theorem places_len (r:Ru) (k:Nat):1+(placesL (r.body.take k)).length≤(placesZ r).length:=by
 have hb:r.body=r.body.take k++r.body.drop k:=(List.take_append_drop k r.body).symm
 unfold placesZ
 rw[List.length_cons]
 conv=>rhs;rw[hb]
 rw[placesL_app,List.length_append]
 omega
def x0P:PlX:=⟨0,[],.slice none 0 0,[],.slice none 0 0⟩
theorem lts_nil (w0 W:World):LtS w0 W [] (.slice none 0 0):=.inl ⟨rfl,rfl⟩
theorem lts_old {w0 W:World} {l:List Tm} {v:Value} (h:TmS w0 w0.heap.size l v) (hb:Below w0.heap.size w0 W):LtS w0 W l v:=by
 rcases h with h | ⟨a,cap,h1,h2,h3,h4,h5⟩
 ·exact .inl h
 ·refine .inr ⟨a,cap,h1,h2,h3,fun h=>Nat.lt_of_lt_of_le (h4 h) hb.size,fun i x hx=>?_⟩
  obtain⟨cs,c1,c2,c3⟩:=h5 i x hx
  exact⟨cs,c1,c2,c3.below (h4 (by rintro rfl;simp at hx)) hb⟩
theorem tm_one {w:World} {B:Nat} (x:Tm) (cs:List Value) (h:TmC w B x cs):∀ u ∈ cs,u.oneCell'=true:=by
 obtain⟨o,cap,rfl,_⟩:=h.look
 simp[Value.oneCell']
theorem lt_at0 {w wr:World} {l:List Lt} {o:Option Addr} {k:Nat} {t:Lt} (S:Hid (SlIn w w.heap.size 11 (LtC w w.heap.size) l o)) (hB:Below w.heap.size w wr) (ht:l[k]?=some t) :
  ∃ a o0 k0 o1 k1 o2 k2,o=some a∧a.block < w.heap.size∧Hid (LtC w w.heap.size t [.int .i64 t.op,.string t.a.rel,.slice o0 t.a.l.length k0,.int .i64 t.x.op,.string t.x.s,.int .i64 t.x.n,.slice o1 t.x.l.length k1,.int .i64 t.y.op,.string t.y.s,.int .i64 t.y.n,.slice o2 t.y.l.length k2]) ∧
   CellsAt wr a (k * 11) [.int .i64 t.op,.string t.a.rel,.slice o0 t.a.l.length k0,.int .i64 t.x.op,.string t.x.s,.int .i64 t.x.n,.slice o1 t.x.l.length k1,.int .i64 t.y.op,.string t.y.s,.int .i64 t.y.n,.slice o2 t.y.l.length k2]:=by
 obtain⟨a,cs,rfl,ha,_,h1,h2⟩:=S.out k t ht
 obtain⟨o0,k0,o1,k1,o2,k2,rfl,_⟩:=h1.look
 exact⟨a,o0,k0,o1,k1,o2,k2,rfl,ha,hid h1,h2.below ha hB⟩
theorem row11 {W:World} {b:Nat} {T:TypeId} {c0 c1 c2 c3 c4 c5 c6 c7 c8 c9 c10:Value} (h:W.heap[b]?=some (.cells #[c0,c1,c2,c3,c4,c5,c6,c7,c8,c9,c10] T (0,0))) :
  W.cell? ⟨b,0,none⟩=some c0∧W.cell? ⟨b,1,none⟩=some c1∧W.cell? ⟨b,2,none⟩=some c2∧W.cell? ⟨b,3,none⟩=some c3∧W.cell? ⟨b,4,none⟩=some c4∧W.cell? ⟨b,5,none⟩=some c5∧W.cell? ⟨b,6,none⟩=some c6∧W.cell? ⟨b,7,none⟩=some c7∧W.cell? ⟨b,8,none⟩=some c8∧W.cell? ⟨b,9,none⟩=some c9∧W.cell? ⟨b,10,none⟩=some c10:=
 ⟨row_cells h 0,row_cells h 1,row_cells h 2,row_cells h 3,row_cells h 4,row_cells h 5,row_cells h 6,row_cells h 7,row_cells h 8,row_cells h 9,row_cells h 10⟩
set_option maxRecDepth 100000 in
set_option maxHeartbeats 16000000 in
theorem eachPlace_moves (n:Nat) (hn:1≤n) (r:Ru) (cs:List Value) (w0:World) (Bx:Nat) (hc:RuC w0 w0.heap.size r cs) (hBx:w0.heap.size≤Bx) (hfw:r.body.length≤1000000∧∀ l ∈ r.body,l.a.l.length≤1000000) :
  Moves2 Fence.wide n Tryz.prog 183 (fun l=>#[]++#[.func (.yield l) #[] #[]]++#[.pointer (some ⟨Bx,0,none⟩)]) (fun x:PlX=>#[x.v]) (PlG r cs w0 Bx) (PlT r w0) (PlE r) x0P:=by
 intro lp A B X Z W hY hB h0
 obtain⟨o0,k0,o1,k1,rfl,_,hh,hbd⟩:=hc.look
 have hh':TmS w0 w0.heap.size r.head.l (.slice o0 r.head.l.length k0):=by obtain⟨v,e,_,h⟩:=hh;cases e;exact h
 obtain⟨o2,k2,e2,hc2,hm2,S2⟩:=SlOf.open hbd
 cases e2
 obtain⟨i0,hi,hz0,hz1,hz2⟩:=info_parts info_tm
 have HY:=hid hY
 have HB:=hid hB
 have HH:=hid hh'
 have HF:=hid hfw
 obtain⟨⟨_,hb0,hrow0,_⟩,hT0,_⟩:=hB x0P W h0
 have f0:=row4 hrow0
 obtain⟨c0,c1,c2,c3⟩:=f0
 have hltB:=heap_lt hrow0
 have hA:=hT0 ⟨1,r.head.l,.slice o0 r.head.l.length k0,[],.slice none 0 0⟩ W ⟨rfl,rfl,Below.refl _ _,lts_old hh' hb0,lts_nil _ _⟩
 obtain⟨fn,tmps,assign,body,hy,hR⟩:=hY _ W hA
 clear hY hB hh hh' hbd hc hfw hT0 hA h0 hb0 hrow0
 simp only[List.append_toArray,List.cons_append,List.nil_append,List.append_nil]
 refine callsIn_of_wp Tryz.func183 rfl trivial ?_ rfl
 simp only[Tryz.ntmps183,List.size_toArray,List.length_cons,List.length_nil,Nat.reduceAdd,Nat.reduceSub,Array.replicate_succ,Array.replicate_zero,List.push_toArray,List.append_toArray,List.nil_append,List.cons_append]
 gi_wp2
 refine hR.mono ?_
 rintro e W1 (⟨rfl,hB1⟩ | ⟨rfl,hX1⟩)
 ·have HB1:=hid hB1
  obtain⟨⟨_,hb1,hrow1,_⟩,_,_⟩:=HB.out _ W1 hB1
  obtain⟨d0,d1,d2,d3⟩:=row4 hrow1
  have hltB1:=heap_lt hrow1
  clear hB1 hR c0 c1 c2 c3 hltB hb1 hrow1 hy
  gi_wp2
  gi_loopw [15] (fun i wr=>∃ (k:Nat) (x:PlX),k≤r.body.length∧i=.int .i64 k∧x.j=1+(placesL (r.body.take k)).length∧B x wr) (fun i _=>r.body.length - (intOf i).toNat)
  case atStart=>exact⟨0,_,Nat.zero_le _,rfl,rfl,HB1.out⟩
  case round=>
   obtain⟨k,x,hk,rfl,hj,hBx2⟩:=hrel
   obtain⟨⟨hfew,hb,hrow,htwo⟩,hT,hE⟩:=HB.out x wr hBx2
   have Hb:=hid hb
   have HT:=hid hT
   have hsz:=hb.size
   by_cases hlt:k < r.body.length
   ·have hlt':(k:Int) < (r.body.length:Int):=by omega
    have hk0:(0:Int)≤(k:Int):=by omega
    obtain⟨t,ht⟩:∃ t,r.body[k]?=some t:=⟨r.body[k],List.getElem?_eq_getElem hlt⟩
    obtain⟨a,p0,q0,p1,q1,p2,q2,rfl,ha,Hc,hcells⟩:=lt_at0 S2 hb ht
    obtain⟨z0,z1,z2,z3,z4,z5,ze,_,hta,htx,hty⟩:=Hc.out.look
    cases ze
    have hta':TmS w0 w0.heap.size t.a.l (.slice p0 t.a.l.length q0):=by obtain⟨v,e,_,h⟩:=hta;cases e;exact h
    obtain⟨c0,c1,c2,c3,c4,c5,c6,c7,c8,c9,c10⟩:=hcells.n11
    have hal:(a.add (k * 11)).block < wr.heap.size:=by rw[addBlock];omega
    have Hj:=hid hj
    have HP:=hid (fun (i:Nat) (p:List Tm) (hp:(placesL [t])[i]?=some p)=>places_at ht i p hp)
    have HPn:=hid (placesL_take ht)
    have HPl:=hid (places_len r (k+1))
    have Htx:=hid htx
    have Hty:=hid hty
    have hlen:t.a.l.length≤1000000:=HF.out.2 t (List.mem_of_getElem? ht)
    obtain⟨V,hV⟩:∃ V,wr.alloc (.cells #[.int .i64 t.op,.string t.a.rel,.slice p0 t.a.l.length q0,.int .i64 t.x.op,.string t.x.s,.int .i64 t.x.n,.slice p1 t.x.l.length q1,.int .i64 t.y.op,.string t.y.s,.int .i64 t.y.n,.slice p2 t.y.l.length q2] 53)=V:=⟨_,rfl⟩
    have hVb:Below wr.heap.size wr V:=by rw[← hV];exact (Below.refl _ _).alloc (Nat.le_refl _) _
    have hVs:V.heap.size=wr.heap.size+1:=by rw[← hV];simp
    have hVr:V.heap[wr.heap.size]?=some (.cells #[.int .i64 t.op,.string t.a.rel,.slice p0 t.a.l.length q0,.int .i64 t.x.op,.string t.x.s,.int .i64 t.x.n,.slice p1 t.x.l.length q1,.int .i64 t.y.op,.string t.y.s,.int .i64 t.y.n,.slice p2 t.y.l.length q2] 53 (0,0)):=by rw[← hV];exact World.alloc_heap_new wr _
    obtain⟨e0,e1,e2,e3,e4,e5,e6,e7,e8,e9,e10⟩:=row11 hVr
    have hVlt:wr.heap.size < V.heap.size:=by omega
    obtain⟨V2,hV2⟩:∃ V2,V.alloc (.cells (#[.int .i64 t.y.op,.string t.y.s,.int .i64 t.y.n,.slice p2 t.y.l.length q2]) 51)=V2:=⟨_,rfl⟩
    have hV2b:Below V.heap.size V V2:=by rw[← hV2];exact (Below.refl _ _).alloc (Nat.le_refl _) _
    have hV2s:V2.heap.size=V.heap.size+1:=by rw[← hV2];simp
    have hV2r:V2.heap[V.heap.size]?=some (.cells (#[.int .i64 t.y.op,.string t.y.s,.int .i64 t.y.n,.slice p2 t.y.l.length q2]) 51 (0,0)):=by rw[← hV2];exact World.alloc_heap_new V _
    have HO2:=hid (own_built (z:=4) (n:=1) (cs:=[.int .i64 t.y.op,.string t.y.s,.int .i64 t.y.n,.slice p2 t.y.l.length q2]) hV2r rfl (by decide) V.heap.size (Nat.le_refl _))
    have hb2:Below w0.heap.size w0 V2:=hb.trans ((hVb.trans (hV2b.mono (by omega))).mono hsz)
    obtain⟨xs,hlaid,hsp⟩:=sl_laid (lts_old hta' hb2) tm_one
    have HSp:=hid hsp
    have HLd:=hid (Laid.app (Laid.one (z:=4) (L:=TmC w0 w0.heap.size) (x:=t.y) (cs:=[.int .i64 t.y.op,.string t.y.s,.int .i64 t.y.n,.slice p2 t.y.l.length q2]) rfl hty) hlaid)
    have HR2:Hid (V2.heap[wr.heap.size]?=some (.cells #[.int .i64 t.op,.string t.a.rel,.slice p0 t.a.l.length q0,.int .i64 t.x.op,.string t.x.s,.int .i64 t.x.n,.slice p1 t.x.l.length q1,.int .i64 t.y.op,.string t.y.s,.int .i64 t.y.n,.slice p2 t.y.l.length q2] 53 (0,0))):=hid ((hV2b.block _ hVlt).trans hVr)
    obtain⟨g0,g1,g2,g3,g4,g5,g6,g7,g8,g9,g10⟩:=row11 HR2.out
    have hV2lt:wr.heap.size < V2.heap.size:=by omega
    have HB2:Hid (Below wr.heap.size wr V2):=hid (hVb.trans (hV2b.mono (by omega)))
    have HS1:Hid (1+t.a.l.length≤maxLen):=hid (by unfold maxLen;omega)
    have HS2:Hid ((1+t.a.l.length) * 56≤140737488355328):=hid (by omega)
    clear hb hrow htwo hT hE hBx2 hfew hj hcells hta hta' htx hty ht hlaid hsp hVb hV2b hVr hV2r hb2
    subst hV2
    subst hV
    have HAG:=hid (fun (W:World)=>callsIn_wide (n:=n - 1).2 (isAgg_v t (.string t.a.rel) (.slice p0 t.a.l.length q0) (.int .i64 t.x.op) (.string t.x.s) (.int .i64 t.x.n) (.slice p1 t.x.l.length q1) (.int .i64 t.y.op) (.string t.y.s) (.int .i64 t.y.n) (.slice p2 t.y.l.length q2) W))
    gi_wp2_with (gi_at_builtin;refine wpListIn_append_any _ rfl (.tmp 21) (.tmp 24) 42 rfl (wr.heap.size+1) 51 i0 _ 4 56 Tryz.underlying42 hi hz0 hz1 hz2 rfl (by decide) (.slice (some ⟨wr.heap.size+1,0,none⟩) 1 1) 1 _ rfl (by have:=HO2.out;simpa only[World.size_alloc] using this) (.slice p0 t.a.l.length q0) t.a.l.length _ rfl HSp.out HS1.out HS2.out (by simp) ?_;intro v5 V5 hown5 hg5 _;have R5:Hid (V5.heap[wr.heap.size]?=some (.cells #[.int .i64 t.op,.string t.a.rel,.slice p0 t.a.l.length q0,.int .i64 t.x.op,.string t.x.s,.int .i64 t.x.n,.slice p1 t.x.l.length q1,.int .i64 t.y.op,.string t.y.s,.int .i64 t.y.n,.slice p2 t.y.l.length q2] 53 (0,0))):=hid ((hg5.block _ (by simp;omega) (by simp[Value.ownBlock])).trans HR2.out);obtain⟨h0,h1,h2,h3,h4,h5,h6,h7,h8,h9,h10⟩:=row11 R5.out;have hlt5:=heap_lt R5.out;obtain⟨ov5,cv5,rfl⟩:=own_shape hown5;have O5:=hid hown5;have B5:Hid (Below wr.heap.size wr V5):=hid (HB2.out.grown hg5 (by simp;omega) (fun q hq=>by simp[Value.ownBlock] at hq;omega));clear hown5 hg5 e0 e1 e2 e3 e4 e5 e6 e7 e8 e9 e10 g0 g1 g2 g3 g4 g5 g6 g7 g8 g9 g10)
    refine⟨trivial,(HAG.out _).mono ?_⟩
    rintro e6 V6 ⟨rfl,b6⟩
    have R6:Hid (V6.heap[wr.heap.size]?=some (.cells #[.int .i64 t.op,.string t.a.rel,.slice p0 t.a.l.length q0,.int .i64 t.x.op,.string t.x.s,.int .i64 t.x.n,.slice p1 t.x.l.length q1,.int .i64 t.y.op,.string t.y.s,.int .i64 t.y.n,.slice p2 t.y.l.length q2] 53 (0,0))):=hid ((b6.block _ hlt5).trans R5.out)
    obtain⟨j0,j1,j2,j3,j4,j5,j6,j7,j8,j9,j10⟩:=row11 R6.out
    have hlt6:=heap_lt R6.out
    have O6:=hid (own_below O5.out b6)
    have B6:Hid (Below wr.heap.size wr V6):=hid (B5.out.trans (b6.mono B5.out.size))
    have hz6:=B6.out.size
    clear b6 h0 h1 h2 h3 h4 h5 h6 h7 h8 h9 h10
    cases hag:aggO t.op with
    | true=>
     have hP0:=HP.out 0 [t.x] (by unfold placesL;rw[hag];rfl)
     have hP1:=HP.out 1 (t.y::t.a.l) (by unfold placesL;rw[hag];rfl)
     rw[← Hj.out] at hP0 hP1
     have hl5:1+t.a.l.length=(t.y::t.a.l).length:=by rw[List.length_cons,Nat.add_comm]
     have hO7:=O6.out.alloc (.cells (#[.int .i64 t.x.op,.string t.x.s,.int .i64 t.x.n,.slice p1 t.x.l.length q1]) 51)
     rw[hl5] at hO7
     have hA:=HT.out ⟨x.j+1,[t.x],.slice (some ⟨V6.heap.size,0,none⟩) 1 1,t.y::t.a.l,.slice ov5 (1+t.a.l.length) cv5⟩ (V6.alloc (.cells (#[.int .i64 t.x.op,.string t.x.s,.int .i64 t.x.n,.slice p1 t.x.l.length q1]) 51))
      ⟨rfl,hP0,B6.out.alloc hz6 _,sl_own0 (acc:=[t.x]) (own_built (z:=4) (n:=1) (cs:=[.int .i64 t.x.op,.string t.x.s,.int .i64 t.x.n,.slice p1 t.x.l.length q1]) (World.alloc_heap_new V6 _) rfl (by decide) V6.heap.size (Nat.le_refl _)) (Laid.one rfl Htx.out),by rw[hl5];exact sl_own0 (acc:=t.y::t.a.l) hO7 HLd.out⟩
     obtain⟨fn1,tmps1,assign1,body1,hy1,hR1⟩:=HY.out _ _ hA
     clear hA hP0 hO7 hl5
     gi_wp2_with fail
     refine hR1.mono ?_
     rintro e W7 (⟨rfl,hB7⟩ | ⟨rfl,hX7⟩)
     ·obtain⟨hG7,hT7,_⟩:=HB.out _ W7 hB7
      have hA:=hT7 ⟨x.j+1+1,t.y::t.a.l,.slice ov5 (1+t.a.l.length) cv5,[],.slice none 0 0⟩ W7 ⟨rfl,hP1,Below.refl _ _,hG7.two,lts_nil _ _⟩
      obtain⟨fn2,tmps2,assign2,body2,hy2,hR2⟩:=HY.out _ _ hA
      clear hA hG7 hT7 hB7 hy1 hR1 j0 j1 j2 j3 j4 j5 j6 j7 j8 j9 j10 hP1
      gi_wp2_with fail
      refine hR2.mono ?_
      rintro e WN (⟨rfl,hBN⟩ | ⟨rfl,hXN⟩)
      ·have HBN:=hid hBN
       have Hj2:Hid (x.j+1+1=1+(placesL (r.body.take (k+1))).length):=hid (by have h:=congrArg List.length HPn.out;have h2:=Hj.out;rw[List.length_append,show (placesL [t]).length=2 from by unfold placesL;rw[hag];rfl] at h;omega)
       clear hR2 hBN hy2
       gi_wp2
       go_roundw
       case rel=>exact⟨k+1,_,hlt,by go_num,Hj2.out,HBN.out⟩
       case measure=>simp[intOf];omega
      ·have HX:=hid hXN
       clear hR2 hXN hy2
       gi_wp2
       refine bodyPost_ret (results_none rfl _ _ _) rfl ?_
       exact⟨⟨_,rfl⟩,.inl HX.out⟩
     ·have HX:=hid hX7
      clear hR1 hX7 hy1
      gi_wp2
      refine bodyPost_ret (results_none rfl _ _ _) rfl ?_
      exact⟨⟨_,rfl⟩,.inl HX.out⟩
    | false=>
     have hP0:=HP.out 0 ((t.y::t.a.l)++[t.x]) (by unfold placesL;rw[hag];rfl)
     rw[← Hj.out] at hP0
     have HP0:=hid hP0
     have HS3:Hid (1+t.a.l.length+1≤maxLen):=hid (by unfold maxLen;omega)
     have HS4:Hid ((1+t.a.l.length+1) * 56≤140737488355328):=hid (by omega)
     have Hl8:Hid (1+t.a.l.length+1=((t.y::t.a.l)++[t.x]).length):=hid (by rw[List.length_append,List.length_cons,Nat.add_comm 1];rfl)
     have HL8:=hid (HLd.out.app (Laid.one (z:=4) (L:=TmC w0 w0.heap.size) (x:=t.x) (cs:=[.int .i64 t.x.op,.string t.x.s,.int .i64 t.x.n,.slice p1 t.x.l.length q1]) rfl Htx.out))
     clear hP0
     gi_wp2_with (gi_at_builtin;refine wpListIn_append_own_at _ rfl (.tmp 29) (.tmp 32) 42 rfl (wr.heap.size+1) 51 i0 _ 4 56 Tryz.underlying42 hi hz0 hz1 hz2 rfl (by decide) (.slice ov5 (1+t.a.l.length) cv5) (1+t.a.l.length) _ rfl (O6.out.alloc _) ⟨V6.heap.size,0,none⟩ 1 1 [.int .i64 t.x.op,.string t.x.s,.int .i64 t.x.n,.slice p1 t.x.l.length q1] rfl rfl (World.news_of_block (World.alloc_heap_new _ _)) (by simp[Value.oneCell']) HS3.out HS4.out (by simp;omega) ?_;intro v8 V8 hown8 hg8 _ _;have hg8':=grown_past hg8;have B8:Below wr.heap.size wr V8:=B6.out.grown hg8' hz6 (fun q hq=>by have:=(O6.out.lt q hq).1;omega);obtain⟨ov8,cv8,rfl⟩:=own_shape hown8;rw[Hl8.out] at hown8;have hA:=HT.out ⟨x.j+1,(t.y::t.a.l)++[t.x],.slice ov8 (1+t.a.l.length+1) cv8,[],.slice none 0 0⟩ V8 ⟨rfl,HP0.out,B8,(by have:=sl_own0 (acc:=(t.y::t.a.l)++[t.x]) hown8 HL8.out;rw[← Hl8.out] at this;exact this),lts_nil _ _⟩;obtain⟨fn2,tmps2,assign2,body2,hy2,hR2⟩:=HY.out _ _ hA;clear hA hown8 hg8 hg8' B8)
     refine hR2.mono ?_
     rintro e WN (⟨rfl,hBN⟩ | ⟨rfl,hXN⟩)
     ·have HBN:=hid hBN
      have Hj2:Hid (x.j+1=1+(placesL (r.body.take (k+1))).length):=hid (by have h:=congrArg List.length HPn.out;have h2:=Hj.out;rw[List.length_append,show (placesL [t]).length=1 from by unfold placesL;rw[hag];rfl] at h;omega)
      clear hR2 hBN hy2
      gi_wp2
      go_roundw
      case rel=>exact⟨k+1,_,hlt,by go_num,Hj2.out,HBN.out⟩
      case measure=>simp[intOf];omega
     ·have HX:=hid hXN
      clear hR2 hXN hy2
      gi_wp2
      refine bodyPost_ret (results_none rfl _ _ _) rfl ?_
      exact⟨⟨_,rfl⟩,.inl HX.out⟩
   ·have hlt':¬ (k:Int) < (r.body.length:Int):=by omega
    have HZ:=hid (hE wr ⟨by
     rw[hj]
     unfold placesZ
     rw[List.take_of_length_le (by omega),List.length_cons]
     omega,Below.refl _ _⟩)
    clear hb hrow htwo hT hE hBx2 hfew hj HT Hb
    gi_wp2
    go_end0
    exact⟨⟨_,rfl⟩,.inr HZ.out⟩
 ·have HX:=hid hX1
  clear hR hX1
  gi_wp2
  refine bodyPost_ret (results_none rfl _ _ _) rfl ?_
  exact⟨⟨_,rfl⟩,.inl HX.out⟩
end Go.Proofs.YtakpgcmfjlbcgaaGreatDoor
namespace Go.Proofs.YtakpgcmfjlbcgaaGreatDoor
open Lib(hid)
open Go.RowKit Go.Shelf
attribute [local go_sem] Oper.semAt_some
structure FewR (r:Ru):Prop where
 p:∀ p ∈ placesZ r,FewT p
 n:((placesZ r).flatMap vz).length≤300000
 b:r.body.length≤1000000∧∀ l ∈ r.body,l.a.l.length≤1000000
theorem keepsB {W W':World} (h:Below W.heap.size W W') (B:Nat):KeepsFrom B W W':=KeepsFrom.of_grownBy (row:=none) ⟨h.os,h.tape,h.output,h.size,fun k hk _=>h.block k hk⟩ (fun j e=>by cases e)
def namesZ (r:Ru) (j:Nat):List ByteArray:=((placesZ r).take j).flatMap vz
theorem namesZ_snoc {r:Ru} {j:Nat} {p:List Tm} (h:(placesZ r)[j]?=some p):namesZ r (j+1)=namesZ r j++vz p:=by
 unfold namesZ
 rw[List.take_add_one,h,List.flatMap_append]
 simp
theorem namesZ_le (r:Ru) (j:Nat):(namesZ r j).length≤((placesZ r).flatMap vz).length:=by
 unfold namesZ
 have:(placesZ r).flatMap vz=((placesZ r).take j).flatMap vz++((placesZ r).drop j).flatMap vz:=by rw[← List.flatMap_append,List.take_append_drop]
 rw[this,List.length_append];omega
structure StI (r:Ru) (cs:List Value) (w:World) (j:Nat) (x:PlX) (W:World):Prop where
 g:PlG r cs w (w.heap.size+3) x W
 m:∃ c,MapI Tryz.prog W 9 3 (w.heap.size+1) (namesZ r j).length (fun s=>(cntN (namesZ r j) s:Int)) c
 b:W.heap[w.heap.size+2]?=some (.cells #[.map (some (w.heap.size+1))] 90 (0,0))
theorem StI.put {r:Ru} {cs:List Value} {w:World} {j:Nat} {x:PlX} {W W':World} {B:Nat} (h:StI r cs w j x W) (hp:Put B W W') (hB:w.heap.size+2≤B):StI r cs w j x W':=by
 obtain⟨⟨g1,g2,g3,g4⟩,⟨c,D,⟨es,clock,h1,h2⟩,h3⟩,b⟩:=h
 exact⟨⟨g1,put_bel hp g2 (by omega),put_block hp g3 (.inl rfl),sl_cellsTo g4 (fun p c hc=>put_cell hp hc) (by rw[put_sz hp];exact Nat.le_refl _)⟩,⟨c,D,⟨es,clock,put_block hp h1 (.inr (by omega)),h2⟩,h3⟩,put_block hp b (.inl rfl)⟩
theorem StI.below {r:Ru} {cs:List Value} {w:World} {j:Nat} {x:PlX} {W W':World} (h:StI r cs w j x W) (hb:Below W.heap.size W W') (x':PlX) (hx:x'.j≤(placesZ r).length) (h2:LtS w W' x'.l2 x'.v2):StI r cs w j x' W':=by
 obtain⟨⟨g1,g2,g3,g4⟩,⟨c,m⟩,b⟩:=h
 exact⟨⟨hx,g2.trans (hb.mono g2.size),(hb.block _ (heap_lt g3)).trans g3,h2⟩,⟨c,m.below hb m.lt⟩,(hb.block _ (heap_lt b)).trans b⟩
theorem eachPlace_in (n:Nat) (cs:List Value) (w:World) :
  CallsIn Fence.wide n Tryz.prog 151 #[.agg cs.toArray] w fun e w'=>e=.returned (.func (.func 183) #[] #[.pointer (some ⟨w.heap.size,0,none⟩)])∧w'=w.alloc (.cells cs.toArray 47):=by
 refine callsIn_of_wp Tryz.func151 rfl trivial ?_ rfl
 simp only[Tryz.ntmps151,List.size_toArray,List.length_cons,List.length_nil,Nat.reduceAdd,Nat.reduceSub,Array.replicate_succ,Array.replicate_zero,List.push_toArray,List.append_toArray,List.nil_append,List.cons_append]
 gi_wp2
 go_ret
 exact⟨rfl,rfl⟩
set_option maxRecDepth 100000 in
set_option maxHeartbeats 16000000 in
theorem standings_c (r:Ru) (cs:List Value) (w:World) (hc:RuC w w.heap.size r cs) (hf:FewR r) :
  Calls Tryz.prog 101 #[.agg cs.toArray] w fun e w'=>∃ M n c,e=.returned (.map (some M))∧w.heap.size≤M∧MapI Tryz.prog w' 9 3 M n (fun s=>(standZ r s:Int)) c∧Below w.heap.size w w':=by
 refine callsIn_wide (n:=8).1 ?_
 have HC:=hid hc
 have HF:=hid hf
 have hmm:=@run_makeMap Tryz.prog
 have zE:∀ w:World,(zeroValue 3).run Tryz.prog w=.ok (.int .i64 0) w:=fun w=>by kernel_rfl
 obtain⟨o0,k0,o1,k1,rfl,_,hh,hbd⟩:=hc.look
 obtain⟨n0,hn0⟩:∃ n0,w.heap.size=n0:=⟨_,rfl⟩
 clear hc hf hh hbd
 refine callsIn_of_wp_marks Tryz.func101 rfl trivial ?_ rfl
 simp only[Tryz.ntmps101,List.size_toArray,List.length_cons,List.length_nil,Nat.reduceAdd,Nat.reduceSub,Array.replicate_succ,Array.replicate_zero,List.push_toArray,List.append_toArray,List.nil_append,List.cons_append]
 gi_wp2_with fail
 refine⟨trivial,(eachPlace_in 7 _ _).mono ?_⟩
 rintro e WL ⟨rfl,hWL⟩
 have hsz:WL.heap.size=n0+4:=by rw[hWL];simp;omega
 have hbL:Below n0 w WL:=by
  rw[hWL]
  exact ((((Below.refl n0 w).alloc (by omega) _).alloc (by simp;omega) _).alloc (by simp;omega) _).alloc (by simp;omega) _
 have hI0:StI r [.string r.head.rel,.slice o0 r.head.l.length k0,.slice o1 r.body.length k1,.int .i64 r.line] w 0 x0P WL:=by
  refine⟨⟨Nat.zero_le _,by rw[hn0];exact hbL,?_,lts_nil _ _⟩,⟨0,?_⟩,?_⟩
  ·rw[hWL,hn0]
   have:=World.alloc_heap_new (((w.alloc (.cells #[.string r.head.rel,.slice o0 r.head.l.length k0,.slice o1 r.body.length k1,.int .i64 r.line] 47)).alloc (.map #[] 0)).alloc (.cells #[.map (some (n0+1))] 90)) (.cells #[.string r.head.rel,.slice o0 r.head.l.length k0,.slice o1 r.body.length k1,.int .i64 r.line] 47)
   simpa[hn0] using this
  ·have:=((mapI_made Tryz.prog (w.alloc (.cells #[.string r.head.rel,.slice o0 r.head.l.length k0,.slice o1 r.body.length k1,.int .i64 r.line] 47)) 9 3).alloc (.cells #[.map (some (n0+1))] 90)).alloc (.cells #[.string r.head.rel,.slice o0 r.head.l.length k0,.slice o1 r.body.length k1,.int .i64 r.line] 47)
   rw[hWL,hn0]
   simpa[hn0,namesZ,cntN] using this
  ·rw[hWL,hn0]
   have:=row_more (World.alloc_heap_new ((w.alloc (.cells #[.string r.head.rel,.slice o0 r.head.l.length k0,.slice o1 r.body.length k1,.int .i64 r.line] 47)).alloc (.map #[] 0)) (.cells #[.map (some (n0+1))] 90)) (.cells #[.string r.head.rel,.slice o0 r.head.l.length k0,.slice o1 r.body.length k1,.int .i64 r.line] 47)
   simpa[hn0] using this
 have HI0:=hid hI0
 have Hn0:=hid hn0
 have Hs:=hid hsz
 have e4:(((w.alloc (.cells #[.string r.head.rel,.slice o0 r.head.l.length k0,.slice o1 r.body.length k1,.int .i64 r.line] 47)).alloc (.map #[] 0)).alloc (.cells #[.map (some (n0+1))] 90)).heap.size=n0+3:=by simp;omega
 rw[e4]
 clear hI0 hsz hbL e4 hWL
 gi_wp2_with fail
 refine range_moves2 rfl (by omega) (gf:=183) (bd:=#[]) (lb:=#[.pointer (some ⟨n0+3,0,none⟩)]) rfl trivial (enters_of Tryz.func183 (by kernel_rfl) rfl)
  (eachPlace_moves 7 (by omega) r _ w (n0+3) HC.out (by omega) HF.out.b) (fun _=>rfl)
  (fun x W=>∃ j,x.j=j+1∧StI r [.string r.head.rel,.slice o0 r.head.l.length k0,.slice o1 r.body.length k1,.int .i64 r.line] w j x W∧(placesZ r)[j]?=some x.l∧LtS w W x.l x.v)
  (fun x W=>StI r [.string r.head.rel,.slice o0 r.head.l.length k0,.slice o1 r.body.length k1,.int .i64 r.line] w x.j x W)
  (fun _ _=>False)
  (fun W=>∃ x,StI r [.string r.head.rel,.slice o0 r.head.l.length k0,.slice o1 r.body.length k1,.int .i64 r.line] w (placesZ r).length x W)
  (fun x a' W=>(∃ j,x.j=j+1∧StI r [.string r.head.rel,.slice o0 r.head.l.length k0,.slice o1 r.body.length k1,.int .i64 r.line] w j x W∧(placesZ r)[j]?=some x.l∧LtS w W x.l x.v) ∧
   a'={ tmps:=#[.agg #[.string r.head.rel,.slice o0 r.head.l.length k0,.slice o1 r.body.length k1,.int .i64 r.line],.pointer (some ⟨n0,0,none⟩),.map none,.pointer (some ⟨n0+1+1,0,none⟩),x.v,undef,undef,.map (some (n0+1)),.agg #[.string r.head.rel,.slice o0 r.head.l.length k0,.slice o1 r.body.length k1,.int .i64 r.line],.func (.func 183) #[] #[.pointer (some ⟨n0+3,0,none⟩)],x.v,undef,undef,undef,undef,undef,undef,undef,undef,undef,undef,undef,undef,undef],defers:=[] })
  ?fB ?fX ?fZ ?fM ?h0 ?hB ?assign ?body ?done ?stop
 case fB=>
  rintro x W W' hp hI
  exact hI.put hp (by rw[Hs.out,Hn0.out];omega)
 case fX=>exact fun c W W' hp h=>h
 case fZ=>
  rintro W W' hp ⟨x,hI⟩
  exact⟨x,hI.put hp (by rw[Hs.out,Hn0.out];omega)⟩
 case fM=>
  rintro x a' W W' hp ⟨⟨j,h1,h2,h3,h4⟩,h5⟩
  exact⟨⟨j,h1,h2.put hp (by rw[Hs.out,Hn0.out];omega),h3,sl_cellsTo h4 (fun p c hc=>put_cell hp hc) (by rw[put_sz hp];exact Nat.le_refl _)⟩,h5⟩
 case h0=>
  intro o o'
  exact HI0.out.below (((Below.refl _ _).alloc (Nat.le_refl _) _).alloc (by simp) _) _ (Nat.zero_le _) (lts_nil _ _)
 case hB=>
  rintro x W1 hI
  have hg:=hI.g
  rw[Hn0.out] at hg
  refine⟨hg,?_,?_⟩
  ·rintro x' W2 ⟨t1,t2,t3,t4,t5⟩
   exact⟨keepsB t3 _,x.j,t1,hI.below t3 x' (by have:=(List.getElem?_eq_some_iff.1 t2).1;omega) t5,t2,t4⟩
  ·rintro W2 ⟨t1,t2⟩
   have:=hI.below t2 x hI.g.few (sl_cellsTo hI.g.two (fun p c hc=>(t2.cell (World.block_lt_of_cell? _ _ hc)).trans hc) t2.size)
   exact⟨keepsB t2 _,x,by rw[← t1];exact this⟩
 case assign=>
  rintro l x W hA
  have HA:=hid hA
  clear hA
  gi_wp2
  exact⟨KeepsFrom.refl _ _,HA.out,by trivial⟩
 case body=>
  rintro l x a' W ⟨⟨j,h1,h2,h3,h4⟩,rfl⟩
  have HJ:=hid h1
  have HI:=hid h2
  have hT:TmS W W.heap.size x.l x.v:=SlOf.more h4 (Nat.le_refl _) fun y _ cs hy=>(hy.under h2.g.b).more h2.g.b.size
  obtain⟨ov,kv,hv,_⟩:=SlOf.uni hT
  have HV:=hid (vz_c x.l x.v W hT (HF.out.p x.l (List.mem_of_getElem? h3)))
  have HVm:=hid (vz_max (HF.out.p x.l (List.mem_of_getElem? h3)))
  have Hst:=hid (namesZ_snoc h3)
  rw[hv] at HV ⊢
  obtain⟨N,hN⟩:∃ N,vz x.l=N:=⟨_,rfl⟩
  rw[hN] at HV HVm Hst
  clear h1 h2 h3 h4 hT hN
  gi_wp2_with fail
  refine⟨trivial,(CallsIn.inRound l (callsIn_wide.2 HV.out)).mono ?_⟩
  rintro e w1 ⟨v1,rfl,hS1,b1⟩
  obtain⟨o3,k3,rfl,_,_,S3⟩:=SlOf.open hS1
  have HI1:=hid (HI.out.below b1 x HI.out.g.few (sl_cellsTo HI.out.g.two (fun p c hc=>(b1.cell (World.block_lt_of_cell? _ _ hc)).trans hc) b1.size))
  have HK1:Hid (KeepsFrom WL.heap.size W w1):=hid (keepsB b1 _)
  clear b1 hS1 HV
  gi_wp2
  gi_loopw [14] (fun i wr=>∃ (k c:Nat),k≤N.length∧i=.int .i64 k∧MapI Tryz.prog wr 9 3 (n0+1) ((namesZ r j).length+k) (fun s=>(cntN (namesZ r j++N.take k) s:Int)) c∧w1.grownBy wr (some (n0+1))) (fun i _=>N.length - (intOf i).toNat)
  case atStart=>
   obtain⟨c,hm⟩:=HI1.out.m
   rw[Hn0.out] at hm
   exact⟨0,c,Nat.zero_le _,rfl,by simpa using hm,World.grownBy.refl _ _⟩
  case round=>
   obtain⟨k,c,hk,rfl,hM,hg⟩:=hrel
   have HM:=hid hM
   have HG:=hid hg
   have bx:wr.heap[n0+2]?=some (.cells #[.map (some (n0+1))] 90 (0,0)):=by
    obtain⟨c',hm⟩:=HI1.out.m
    have h:=mapI_rows hm (by rw[Hn0.out];exact hg) HI1.out.b
    rwa [Hn0.out] at h
   have bc:wr.cell? ⟨n0+2,0,none⟩=some (.map (some (n0+1))):=row_cells bx 0
   have bl:n0+2 < wr.heap.size:=heap_lt bx
   by_cases hlt:k < N.length
   ·have hlt':(k:Int) < (N.length:Int):=by omega
    obtain⟨s,hs⟩:∃ s,N[k]?=some s:=⟨N[k],List.getElem?_eq_getElem hlt⟩
    obtain⟨p,rfl,hp,hxs,c0'⟩:=str_at S3 (Below.refl _ _) hs
    have c0:wr.cell? (p.add k)=some (.string s):=by
     obtain⟨c',hm⟩:=HI1.out.m
     exact mapI_cells hm (by rw[Hn0.out];exact hg) c0'
    have hpl:(p.add k).block < wr.heap.size:=World.block_lt_of_cell? _ _ c0
    obtain⟨L,hL⟩:∃ L,namesZ r j++N.take k=L:=⟨_,rfl⟩
    have hL2:namesZ r j++N.take (k+1)=L++[s]:=by rw[List.take_add_one,hs,← hL];simp
    have HL2:=hid hL2
    rw[hL] at HM
    have hct:=cntN_le L s.data.toList
    have hLn:L.length≤300000:=by
     have h1:=namesZ_le r (j+1)
     rw[Hst.out,List.length_append] at h1
     have h2:=HF.out.n
     rw[← hL,List.length_append,List.length_take]
     omega
    have hct0:(0:Int)≤(cntN L s.data.toList:Int):=by omega
    have hct1:(cntN L s.data.toList:Int)≤1000000:=by omega
    have hf:updF (fun s=>(cntN L s:Int)) s.data.toList ((cntN L s.data.toList:Int)+1)=fun n=>(cntN (L++[s]) n:Int):=by
     funext n
     rw[cntN_snoc]
     by_cases e:n=s.data.toList
     ·subst e;rw[updF_same,if_pos rfl];omega
     ·rw[updF_other _ _ e,if_neg (fun h=>e h.symm)];omega
    have Hf:=hid hf
    have Hle:Hid ((namesZ r j).length+k < maxLen):=hid (by
     rw[← hL,List.length_append,List.length_take] at hLn
     unfold maxLen;omega)
    have Hne:Hid ((cntN L s.data.toList:Int)+1≠0):=hid (by omega)
    have Hwf:Hid ((Lit.int .i64 ((cntN L s.data.toList:Int)+1)).wf=true):=hid (WalkArith.wf_i64 (by omega))
    clear hM hg hs hL hL2 hf bx hct hLn c0'
    gi_wp2_with (first
     | (gi_at_mapUpdate;refine wpListIn_mapI_put _ rfl _ _ _ 90 rfl 9 3 Tryz.underlying90 Tryz.underlying9 Tryz.underlying3 (n0+1) ((namesZ r j).length+k) (fun s=>(cntN L s:Int)) c rfl HM.out Hle.out s ((cntN L s.data.toList:Int)+1) rfl rfl hxs Hne.out Hwf.out ?_;intro w4 hm4 hg4;rw[Hf.out] at hm4;have HM4:=hid hm4;have HG4:=hid hg4;clear hm4 hg4)
     | (gi_at_lookup;refine wpListIn_mapI_get _ rfl _ _ 90 rfl 9 3 Tryz.underlying90 Tryz.underlying9 Tryz.underlying3 (zE _) (n0+1) ((namesZ r j).length+k) (fun s=>(cntN L s:Int)) c rfl HM.out s rfl hxs ?_;intro _))
    go_roundw
    case rel=>exact⟨k+1,_,hlt,by go_num,by rw[HL2.out];exact HM4.out,HG.out.trans HG4.out⟩
    case measure=>simp[intOf];omega
   ·have hlt':¬ (k:Int) < (N.length:Int):=by omega
    have hEnd:KeepsFrom WL.heap.size W wr∧StI r [.string r.head.rel,.slice o0 r.head.l.length k0,.slice o1 r.body.length k1,.int .i64 r.line] w x.j x wr:=by
     obtain⟨⟨g1,g2,g3,g4⟩,⟨c',m⟩,b⟩:=HI1.out
     have hg':w1.grownBy wr (some (w.heap.size+1)):=by rw[Hn0.out];exact hg
     refine⟨HK1.out.trans (KeepsFrom.of_grownBy hg (fun j e=>by have:=Option.some.inj e;have:=Hs.out;omega)),⟨g1,g2.trans (gBelow hg' (by omega) g2.size),mapI_rows m hg' g3,sl_cellsTo g4 (fun p c hc=>mapI_cells m hg' hc) hg.size⟩,⟨c,?_⟩,mapI_rows m hg' b⟩
     rw[Hn0.out,HJ.out,Hst.out]
     rw[List.take_of_length_le (by omega)] at hM
     rw[List.length_append]
     exact hM.mono (by omega)
    have HEnd:=hid hEnd
    clear hEnd hM hg bx
    gi_wp2
    exact⟨HEnd.out.1,HEnd.out.2⟩
 case done=>
  rintro D W hD ⟨x,hI⟩ hd
  obtain⟨⟨_,g2,_,_⟩,⟨c,m⟩,b⟩:=hI
  rw[Hn0.out] at m b
  have bc:W.cell? ⟨n0+2,0,none⟩=some (.map (some (n0+1))):=row_cells b 0
  have bl:n0+2 < W.heap.size:=heap_lt b
  have hne:n0+2≠D:=by have:=Hs.out;omega
  have Hd:=hid hd
  have HM:=hid m
  have HB:=hid g2
  have hDl:D < W.heap.size:=heap_lt hd
  have HD:=hid hD
  clear hd m b g2 hD
  gi_wp2
  have Pt:Put (n0+4) W (W.putObj D (.deferred none)):=⟨D,_,_,by have:=HD.out;rw[Hs.out] at this;exact this,Hd.out,rfl,rfl,rfl⟩
  refine⟨by simp,.inl ⟨_,_,rfl,run_takeDeferred Hd.out,?_⟩⟩
  refine⟨_,results_tmp rfl _ _ _,n0+1,(namesZ r (placesZ r).length).length,c,rfl,by rw[Hn0.out];omega,?_,put_bel Pt HB.out (by rw[Hn0.out];omega)⟩
  obtain⟨D',⟨es,clock,h1,h2⟩,h3⟩:=HM.out
  have e:(fun s=>(standZ r s:Int))=fun s=>(cntN (namesZ r (placesZ r).length) s:Int):=by
   funext s
   unfold standZ namesZ
   rw[List.take_of_length_le (Nat.le_refl _)]
  rw[e]
  exact⟨D',⟨es,clock,put_block Pt h1 (.inr (by omega)),h2⟩,h3⟩
 case stop=>exact fun _ _ _ _ h=>h.elim
end Go.Proofs.YtakpgcmfjlbcgaaGreatDoor
namespace Go.Proofs.YtakpgcmfjlbcgaaGreatDoor
open Lib(hid)
open Go.RowKit
theorem rowSet {w:World} {b:Nat} {cs:Array Value} {T:TypeId} {fz:Nat × Nat} (h:w.heap[b]?=some (.cells cs T fz)) (k:Nat) (u:Value):(w.setCell ⟨b,k,none⟩ u).heap[b]?=some (.cells (cs.setIfInBounds k u) T fz):=by
 have hlt:=(Array.getElem?_eq_some_iff.1 h).1
 have h':w.heap[b]=.cells cs T fz:=by simpa[Array.getElem?_eq_getElem hlt] using h
 show (w.heap.modify b _)[b]?=_
 rw[Array.getElem?_eq_getElem (by simpa using hlt),Array.getElem_modify_self,h']
 rfl
theorem own_set {w:World} {base:Nat} {e:TypeId} {z:Nat} {v:Value} {n:Nat} {xs:List Value} (h:w.ownsRow base e z v n xs) {b k:Nat} {u:Value} (hb:v.ownBlock≠some b):(w.setCell ⟨b,k,none⟩ u).ownsRow base e z v n xs:=
 h.kept (row:=some b) ⟨rfl,rfl,rfl,by simp[World.setCell],fun i _ hr=>Below.heap_setCell w ⟨b,k,none⟩ u i (fun e=>hr (by rw[e]))⟩ (.inr hb)
def hidO (v:Value) (w:World):World:=match v.ownBlock with
 | some g=>veil g w
 | none=>w
theorem hidO_cell {v:Value} {w:World} {p:Addr} {c:Value} (h:(hidO v w).cell? p=some c):v.ownBlock≠some p.block∧w.cell? p=some c:=by
 unfold hidO at h
 cases hv:v.ownBlock with
 | none=>rw[hv] at h;exact⟨(by intro e;cases e),h⟩
 | some g=>
  rw[hv] at h
  obtain⟨h1,h2⟩:=veil_cell h
  exact⟨fun e=>h1 (Option.some.inj e).symm,h2⟩
theorem cell_hidO {v:Value} {w:World} {p:Addr} {c:Value} (h:w.cell? p=some c) (hb:v.ownBlock≠some p.block):(hidO v w).cell? p=some c:=by
 unfold hidO
 cases hv:v.ownBlock with
 | none=>exact h
 | some g=>exact cell_veil h (fun e=>hb (by rw[hv,e]))
theorem TmC.cells {w w':World} {B:Nat} {t:Tm} {cs:List Value} (h:TmC w B t cs) (hk:∀ p c,w.cell? p=some c→w'.cell? p=some c):TmC w' B t cs:=by
 induction h with
 | nil op s n h1 h2 h3=>exact .nil op s n h1 h2 h3
 | row op s n l a cap cs h1 h2 h3 h4 h5 h6 _ h8 ih=>exact .row op s n l a cap cs h1 h2 h3 h4 h5 h6 ih fun i x hx=>⟨(h8 i x hx).1,fun j c hc=>hk _ _ ((h8 i x hx).2 j c hc)⟩
theorem SlOf.cells {α:Type} {w w':World} {B z:Nat} {R R':α→List Value→Prop} {l:List α} {v:Value} (h:SlOf w B z R l v) (hk:∀ p c,w.cell? p=some c→w'.cell? p=some c) (hR:∀ x ∈ l,∀ cs,R x cs→R' x cs):SlOf w' B z R' l v:=by
 rcases h with h | ⟨a,cap,h1,h2,h3,h4,h5⟩
 ·exact .inl h
 ·refine .inr ⟨a,cap,h1,h2,h3,h4,fun i x hx=>?_⟩
  obtain⟨cs,c1,c2,c3⟩:=h5 i x hx
  exact⟨cs,c1,hR x (List.mem_of_getElem? hx) cs c2,fun j c hj=>hk _ _ (c3 j c hj)⟩
theorem LtC.cells {w w':World} {B:Nat} {t:Lt} {cs:List Value} (h:LtC w B t cs) (hk:∀ p c,w.cell? p=some c→w'.cell? p=some c):LtC w' B t cs:=by
 obtain⟨ca,cx,cy,h1,h2,⟨v,g1,g2,g3⟩,h4,h5⟩:=h
 exact⟨ca,cx,cy,h1,h2,⟨v,g1,g2,g3.cells hk fun _ _ _ h=>h.cells hk⟩,h4.cells hk,h5.cells hk⟩
theorem PtC.cells {w w':World} {B B':Nat} {t:Pt} {cs:List Value} (h:PtC w B t cs) (hk:∀ p c,w.cell? p=some c→w'.cell? p=some c) (hB:B≤B'):PtC w' B' t cs:=by
 obtain⟨cl,vx,vy,va,vr,vo,h0,h1,h2,h3,h4,h5,h6⟩:=h
 have st:∀ {l:List ByteArray} {v:Value},SlOf w B 1 StrC l v→SlOf w' B' 1 StrC l v:=fun h=>SlOf.more (h.cells hk fun _ _ _ h=>h) hB fun _ _ _ h=>h
 exact⟨cl,vx,vy,va,vr,vo,h0,(h1.cells hk).more hB,st h2,st h3,st h4,st h5,st h6⟩
theorem pt_one {w:World} {B:Nat} (p:Pt) (cs:List Value) (h:PtC w B p cs):∀ u ∈ cs,u.oneCell'=true:=by
 obtain⟨o0,k0,o1,k1,o2,k2,o3,k3,o4,k4,o5,k5,o6,k6,o7,k7,rfl,_⟩:=h.look
 simp[Value.oneCell']
theorem own_hid {w:World} {base:Nat} {v u:Value} {l:List ByteArray} (h:w.ownsRow base 9 1 v l.length (l.map Value.string)) (hu:u.ownBlock=none∨∃ g,u.ownBlock=some g∧g < base) (hs:∀ s ∈ l,s.size≤maxLen):SlOf (hidO u w) w.heap.size 1 StrC l v:=by
 have h1:=sl_row (R:=StrC) h (fun s hs'=>⟨rfl,hs s hs'⟩)
 rcases h1 with ⟨rfl,rfl⟩ | ⟨a,cap,rfl,c2,c3,c4,c5⟩
 ·exact .inl ⟨rfl,rfl⟩
 ·have hb:base≤a.block:=(h.lt a.block rfl).1
  refine .inr ⟨a,cap,rfl,c2,c3,c4,fun i x hx=>?_⟩
  obtain⟨cs,d1,d2,d3⟩:=c5 i x hx
  refine⟨cs,d1,d2,fun j c hj=>cell_hidO (d3 j c hj) ?_⟩
  rw[addBlock]
  rcases hu with hu | ⟨g,hu,hg⟩ <;> rw[hu]
  ·intro e;cases e
  ·intro e;have:=Option.some.inj e;omega
end Go.Proofs.YtakpgcmfjlbcgaaGreatDoor
