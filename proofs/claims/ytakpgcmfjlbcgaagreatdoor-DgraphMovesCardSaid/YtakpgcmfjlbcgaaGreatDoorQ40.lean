/- Gir@0123, Topen@0123 -/
import Derived.ChangeArms
import Derived.ChangeSame
import Derived.Deep.Strs
import Derived.Test.YtakpgcmfjlbcgaaGreatDoorQ36
import Derived.Test.YtakpgcmfjlbcgaaGreatDoorQ35
set_option linter.unusedSimpArgs false
set_option linter.unusedVariables false
namespace Go.Proofs.YtakpgcmfjlbcgaaGreatDoor
open Lib(hid)
open Go.RowKit Go.Shelf
attribute [local go_sem] Oper.semAt_some
theorem mutL_iff {E:Ed} {ds:List De} {r:Ru} {o:Int}:o ∈ mutL E ds r ↔ ∃ x ∈ atomsG ds r.body,x.1=o∧Mut E (headG ds r) x.2:=by
 unfold mutL
 rw[List.mem_map]
 constructor
 ·rintro⟨x,hx,rfl⟩
  obtain⟨h1,h2⟩:=List.mem_filter.1 hx
  exact⟨x,h1,rfl,mutB_iff.1 h2⟩
 ·rintro⟨x,h1,rfl,h2⟩
  exact⟨x,List.mem_filter.2 ⟨h1,mutB_iff.2 h2⟩,rfl⟩
theorem loadVar_bool {W:World} {b:Nat} {v:Value} (h:W.cell? ⟨b,0,none⟩=some v):(loadVar 4 ⟨b,0,none⟩).run Tryz.prog W=.ok v W:=by
 have ha:∀ w:World,(isAgg 4).run Tryz.prog w=.ok false w:=fun w=>by kernel_rfl
 have hl:b < W.heap.size:=World.block_lt_of_cell? _ _ h
 unfold loadVar
 go_simp
set_option maxRecDepth 100000 in
set_option maxHeartbeats 8000000 in
theorem isRec_in (E:Ed) (ds:List De) (dv nv v:Value) (bs:List Nat) (r:Ru) (cs:List Value) (w:World) (ho:∃ o l c,nv=.slice o l c) (hG:GrN w v bs ds.length (Rch E)) (hD:SlOf w w.heap.size 6 (DeC w w.heap.size) ds dv) (hc:RuC w w.heap.size r cs) (hh:findY r.head.rel ds=some (headG ds r)) :
  CallsIn Fence.wide 8 Tryz.prog 35 #[.agg #[nv,v],dv,.agg cs.toArray] w fun e w'=>e=.returned (.bool (recB' E ds r))∧Below w.heap.size w w':=by
 obtain⟨o0,k0,o1,k1,rfl,_⟩:=hc.look
 obtain⟨od,cd,rfl,_⟩:=SlOf.uni hD
 obtain⟨o6,c6,rfl,_⟩:=SlOf.uni hG.sl
 have Ho:=hid ho
 obtain⟨o5,l5,c5,rfl⟩:=ho
 obtain⟨n0,hn0⟩:∃ n,w.heap.size=n:=⟨_,rfl⟩
 obtain⟨W1,hW1⟩:∃ W1,((w.alloc (.cells #[.slice o5 l5 c5,.slice o6 bs.length c6] 62)).alloc (.cells #[.string r.head.rel,.slice o0 r.head.l.length k0,.slice o1 r.body.length k1,.int .i64 r.line] 47)).alloc (.cells #[.bool false] 4)=W1:=⟨_,rfl⟩
 have b1:Below w.heap.size w W1:=by rw[← hW1];exact (((Below.refl _ _).alloc (Nat.le_refl _) _).alloc (by simp) _).alloc (by simp;omega) _
 have s1:W1.heap.size=n0+3:=by rw[← hW1,← hn0];simp
 have r6:W1.heap[n0+2]?=some (.cells #[.bool false] 4 (0,0)):=by
  have h1:=World.alloc_heap_new ((w.alloc (.cells #[.slice o5 l5 c5,.slice o6 bs.length c6] 62)).alloc (.cells #[.string r.head.rel,.slice o0 r.head.l.length k0,.slice o1 r.body.length k1,.int .i64 r.line] 47)) (.cells #[.bool false] 4)
  rw[World.size_alloc,World.size_alloc,hn0,hW1] at h1
  exact h1
 have HGi:=hid (gmut_in 7 [.slice o5 l5 c5,.slice o6 bs.length c6] od ds.length cd r _ W1 ⟨_,_,rfl⟩ ((hc.below b1).more b1.size))
 have HW1:=hid hW1
 have Hb1:=hid b1
 have Hr6:=hid r6
 have Hs1:=hid s1
 have Hn0:=hid hn0
 have HG:=hid hG
 have HD:=hid hD
 have HC:=hid hc
 have Hh:=hid hh
 clear hG hD hc hh b1 r6 s1 hW1
 refine callsIn_of_wp_marks Tryz.func35 rfl trivial ?_ rfl
 simp only[Tryz.ntmps35,List.size_toArray,List.length_cons,List.length_nil,Nat.reduceAdd,Nat.reduceSub,Array.replicate_succ,Array.replicate_zero,List.push_toArray,List.append_toArray,List.nil_append,List.cons_append]
 gi_wp2_with fail
 try rw[HW1.out]
 refine⟨trivial,HGi.out.mono ?_⟩
 rintro e w4 ⟨rfl,hw4⟩
 have s1:=Hs1.out
 rw[s1]
 have b4:Below W1.heap.size W1 w4:=by rw[hw4];exact (((Below.refl _ _).alloc (Nat.le_refl _) _).alloc (by simp) _).alloc (by simp;omega) _
 have s4:w4.heap.size=n0+6:=by rw[hw4];simp[s1]
 have rg4:w4.heap[n0+3]?=some (.cells #[.slice o5 l5 c5,.slice o6 bs.length c6] 62 (0,0)):=by
  rw[hw4,← s1]
  exact (Below.heap_alloc _ _ _ (by simp;omega)).trans ((Below.heap_alloc _ _ _ (by simp)).trans (World.alloc_heap_new W1 _))
 have rd4:w4.heap[n0+3+1]?=some (.cells #[.slice od ds.length cd] 22 (0,0)):=by
  have h1:=World.alloc_heap_new (W1.alloc (.cells #[.slice o5 l5 c5,.slice o6 bs.length c6] 62)) (.cells #[.slice od ds.length cd] 22)
  rw[World.size_alloc,s1] at h1
  rw[hw4]
  exact (Below.heap_alloc _ _ _ (by simp;omega)).trans h1
 have rr4:w4.heap[n0+3+2]?=some (.cells #[.string r.head.rel,.slice o0 r.head.l.length k0,.slice o1 r.body.length k1,.int .i64 r.line] 47 (0,0)):=by
  have h1:=World.alloc_heap_new ((W1.alloc (.cells #[.slice o5 l5 c5,.slice o6 bs.length c6] 62)).alloc (.cells #[.slice od ds.length cd] 22)) (.cells #[.string r.head.rel,.slice o0 r.head.l.length k0,.slice o1 r.body.length k1,.int .i64 r.line] 47)
  rw[World.size_alloc,World.size_alloc,s1] at h1
  rw[hw4]
  exact h1
 have B4:Below w.heap.size w w4:=Hb1.out.trans (b4.mono Hb1.out.size)
 have r64:w4.heap[n0+2]?=some (.cells #[.bool false] 4 (0,0)):=(b4.block _ (by omega)).trans Hr6.out
 have HSq:=hid (gmut_nest E 7 (n0+3+1) (n0+3+2) (n0+3) ds _ _ _ bs r _ w4 (by decide) rd4 rr4 rg4 Ho.out (HG.out.below B4) (SlOf.decl HD.out B4 B4.size) ((HC.out.below B4).more B4.size) Hh.out)
 have HB4:=hid B4
 have R64:=hid r64
 have Hs4:=hid s4
 clear hw4 b4 s4 rg4 rd4 rr4 B4 r64 s1
 gi_wp2_with fail
 refine range_nest rfl (by omega) (gf:=79) (lb:=#[.pointer (some ⟨n0+3+1,0,none⟩),.pointer (some ⟨n0+3+2,0,none⟩),.pointer (some ⟨n0+3,0,none⟩)]) rfl trivial (enters_of Tryz.func79 (by kernel_rfl) rfl)
  HSq.out (Nat.le_refl _) (Below.refl _ _) (fun _=>rfl)
  (fun k W'=>(∀ x ∈ (mutL E ds r).take k,x≠1)∧KC w4 W'∧Below w4.heap.size w4 W')
  (fun _ c W'=>c=.ret∧(1:Int) ∈ mutL E ds r∧W'.heap[n0+2]?=some (.cells #[.bool true] 4 (0,0))∧Below w.heap.size w W') ?hI ?hIx ⟨by simp,KC.refl _,Below.refl _ _⟩
  (fun k x a' W'=>((∀ x ∈ (mutL E ds r).take k,x≠1)∧KC w4 W'∧Below w4.heap.size w4 W')∧a'={ tmps:=#[.agg #[.slice o5 l5 c5,.slice o6 bs.length c6],.slice od ds.length cd,.agg #[.string r.head.rel,.slice o0 r.head.l.length k0,.slice o1 r.body.length k1,.int .i64 r.line],.pointer (some ⟨n0,0,none⟩),undef,.pointer (some ⟨n0+1,0,none⟩),.pointer (some ⟨n0+1+1,0,none⟩),.int .i64 x,.agg #[.slice o5 l5 c5,.slice o6 bs.length c6],.slice od ds.length cd,.agg #[.string r.head.rel,.slice o0 r.head.l.length k0,.slice o1 r.body.length k1,.int .i64 r.line],.func (.func 79) #[] #[.pointer (some ⟨n0+3+1,0,none⟩),.pointer (some ⟨n0+3+2,0,none⟩),.pointer (some ⟨n0+3,0,none⟩)],.int .i64 x,undef,undef],defers:=[] })
  ?hM ?assign ?body ?done ?stop
 case hI=>
  rintro k A B ⟨h1,h2,h3⟩ hb hk
  exact⟨h1,h2.trans hk,h3.trans hb⟩
 case hIx=>
  rintro k c A B ⟨h1,h2,h3,h4⟩ hb hk
  exact⟨h1,h2,hk.same _ _ h3 rfl,h4.trans (hb.mono HB4.out.size)⟩
 case hM=>
  rintro k x a' A B ⟨⟨h1,h2,h3⟩,h4⟩ hb hk
  exact⟨⟨h1,h2.trans hk,h3.trans hb⟩,h4⟩
 case assign=>
  rintro lp k x A hx hA
  have HAA:=hid hA
  clear hA
  simp only[encM]
  gi_wp2
  exact⟨KeepsFrom.refl _ _,KC.refl _,Below.refl _ _,HAA.out,trivial⟩
 case body=>
  rintro lp k x a' A hx ⟨⟨h1,h2,h3⟩,rfl⟩
  have r6:A.heap[n0+2]?=some (.cells #[.bool false] 4 (0,0)):=h2.same _ _ R64.out rfl
  have y6:A.cell? ⟨n0+2,0,none⟩=some (.bool false):=row_cells r6 0
  have l6:=heap_lt r6
  have f6:=frz_row r6 0
  have e6:=rowSet r6 0 (.bool true)
  simp at e6
  have H1:=hid h1
  have H2:=hid h2
  have H3:=hid h3
  have E6:=hid e6
  have BA:=hid (HB4.out.trans (h3.mono HB4.out.size))
  clear h1 h2 h3 r6 e6
  by_cases he:x=1
  ·subst he
   have Hm:=hid (List.mem_of_getElem? hx)
   clear hx
   gi_wp2
   exact⟨(KeepsOthers.setCell _ _ _).from _,rfl,Hm.out,E6.out,BA.out.setCell (p:=⟨n0+2,0,none⟩) (by have:=Hn0.out;show w.heap.size≤n0+2;omega) _⟩
  ·have he':(x == 1)=false:=by simpa using he
   have Hst:Hid (∀ y ∈ (mutL E ds r).take (k+1),y≠1):=hid fun y hy=>by
    rw[List.take_add_one,hx] at hy
    rcases List.mem_append.1 hy with hy | hy
    ·exact H1.out y hy
    ·have:y=x:=by simpa using hy
     rw[this];exact he
   clear hx
   gi_wp2
   exact⟨KeepsFrom.refl _ _,KC.refl _,Below.refl _ _,Hst.out,H2.out,H3.out⟩
 case done=>
  rintro D A hD ⟨h1,h2,h3⟩ hK
  rw[List.take_of_length_le (Nat.le_refl _)] at h1
  have hr:recB' E ds r=false:=by
   cases hb:recB' E ds r with
   | false=>rfl
   | true=>
    obtain⟨x,k1,k2,k3⟩:=recG_iff.1 hb
    exact absurd rfl (h1 1 (mutL_iff.2 ⟨x,k1,k2,k3⟩))
  have r6:A.heap[n0+2]?=some (.cells #[.bool false] 4 (0,0)):=h2.same _ _ R64.out rfl
  have y6:A.cell? ⟨n0+2,0,none⟩=some (.bool false):=row_cells r6 0
  have l6:=heap_lt r6
  have f6:=frz_row r6 0
  have e6:=rowSet r6 0 (.bool false)
  simp at e6
  have hDn:D≠n0+2:=by have:=Hs4.out;omega
  have E6:=hid ((World.putObj_heap_other (r:=D) (o:=.deferred none) (show n0+2≠D by omega)).trans e6)
  have BA:=hid (((HB4.out.trans (h3.mono HB4.out.size)).setCell (p:=⟨n0+2,0,none⟩) (by have:=Hn0.out;show w.heap.size≤n0+2;omega) (.bool false)))
  have HK:Hid ((A.setCell ⟨n0+2,0,none⟩ (.bool false)).heap[D]?=some (.deferred (some []))):=hid ((Below.heap_setCell _ _ _ _ hDn).trans hK)
  have Hr:=hid hr
  clear h1 h2 h3 r6 e6 hK hr
  gi_wp2
  rw[Hr.out]
  refine⟨by simp,.inl ⟨_,_,rfl,run_takeDeferred HK.out,?_⟩⟩
  refine⟨_,results_cell1 rfl _ _ _ (.bool false) rfl (loadVar_bool (row_cells E6.out 0)),rfl,?_⟩
  exact BA.out.grown (grownBy_putObj' _ D _) BA.out.size (fun j e=>by cases e;have:=HB4.out.size;omega)
 case stop=>
  rintro D k c A hD ⟨rfl,h2,h3,h4⟩ hK
  have hr:recB' E ds r=true:=by
   obtain⟨x,k1,k2,k3⟩:=mutL_iff.1 h2
   exact recG_iff.2 ⟨x,k1,k2,k3⟩
  have E6:=hid ((World.putObj_heap_other (r:=D) (o:=.deferred none) (show n0+2≠D by have:=Hs4.out;omega)).trans h3)
  have BA:=hid h4
  have HK:=hid hK
  have Hr:=hid hr
  clear h2 h3 h4 hK hr
  gi_wp2
  rw[Hr.out]
  refine⟨by simp,.inl ⟨_,_,rfl,run_takeDeferred HK.out,?_⟩⟩
  refine⟨_,results_cell1 rfl _ _ _ (.bool true) rfl (loadVar_bool (row_cells E6.out 0)),rfl,?_⟩
  exact BA.out.grown (grownBy_putObj' _ D _) BA.out.size (fun j e=>by cases e;have:=HB4.out.size;omega)
end Go.Proofs.YtakpgcmfjlbcgaaGreatDoor
namespace Go.Proofs.YtakpgcmfjlbcgaaGreatDoor
open Lib(hid)
open Go.RowKit Go.ChangeShapes Go.WideShapes Go.Deep
theorem parts2 {H:Type} {enc:TypeId × Value→H} {P:Program} {w:World} {base:Nat} {spare:Nat→Bool} {held:Bool} {t:TypeId} {f0 f1:Field} {fuel:Nat} {cs:List Value} {x:DataW H × List MemPlace} (ht:P.underlying t=some (.struct #[f0,f1])) (h:DataW.trod enc P w base spare held fuel t cs=some x) :
  ∃ (y0 y1:DataW H × List MemPlace) (n:Nat),fuel=n+1∧cs.length=P.cellsOf t∧DataW.trod enc P w base spare held n f0.type ((cs.drop f0.offset).take (P.cellsOf f0.type))=some y0∧DataW.trod enc P w base spare held n f1.type ((cs.drop f1.offset).take (P.cellsOf f1.type))=some y1:=by
 obtain⟨xs,n,hn,rfl,hl,hlen,hf⟩:=DataW.trod_struct ht h
 match xs,hlen with
 | [y0,y1],_=>exact⟨y0,y1,n,hn,hl,by simpa using hf 0 f0 rfl,by simpa using hf 1 f1 rfl⟩
theorem parts3 {H:Type} {enc:TypeId × Value→H} {P:Program} {w:World} {base:Nat} {spare:Nat→Bool} {held:Bool} {t:TypeId} {f0 f1 f2:Field} {fuel:Nat} {cs:List Value} {x:DataW H × List MemPlace} (ht:P.underlying t=some (.struct #[f0,f1,f2])) (h:DataW.trod enc P w base spare held fuel t cs=some x) :
  ∃ (y0 y1 y2:DataW H × List MemPlace) (n:Nat),fuel=n+1∧cs.length=P.cellsOf t∧DataW.trod enc P w base spare held n f0.type ((cs.drop f0.offset).take (P.cellsOf f0.type))=some y0∧DataW.trod enc P w base spare held n f1.type ((cs.drop f1.offset).take (P.cellsOf f1.type))=some y1∧DataW.trod enc P w base spare held n f2.type ((cs.drop f2.offset).take (P.cellsOf f2.type))=some y2:=by
 obtain⟨xs,n,hn,rfl,hl,hlen,hf⟩:=DataW.trod_struct ht h
 match xs,hlen with
 | [y0,y1,y2],_=>exact⟨y0,y1,y2,n,hn,hl,by simpa using hf 0 f0 rfl,by simpa using hf 1 f1 rfl,by simpa using hf 2 f2 rfl⟩
theorem parts4 {H:Type} {enc:TypeId × Value→H} {P:Program} {w:World} {base:Nat} {spare:Nat→Bool} {held:Bool} {t:TypeId} {f0 f1 f2 f3:Field} {fuel:Nat} {cs:List Value} {x:DataW H × List MemPlace} (ht:P.underlying t=some (.struct #[f0,f1,f2,f3])) (h:DataW.trod enc P w base spare held fuel t cs=some x) :
  ∃ (y0 y1 y2 y3:DataW H × List MemPlace) (n:Nat),fuel=n+1∧cs.length=P.cellsOf t∧DataW.trod enc P w base spare held n f0.type ((cs.drop f0.offset).take (P.cellsOf f0.type))=some y0∧DataW.trod enc P w base spare held n f1.type ((cs.drop f1.offset).take (P.cellsOf f1.type))=some y1∧DataW.trod enc P w base spare held n f2.type ((cs.drop f2.offset).take (P.cellsOf f2.type))=some y2∧DataW.trod enc P w base spare held n f3.type ((cs.drop f3.offset).take (P.cellsOf f3.type))=some y3:=by
 obtain⟨xs,n,hn,rfl,hl,hlen,hf⟩:=DataW.trod_struct ht h
 match xs,hlen with
 | [y0,y1,y2,y3],_=>exact⟨y0,y1,y2,y3,n,hn,hl,by simpa using hf 0 f0 rfl,by simpa using hf 1 f1 rfl,by simpa using hf 2 f2 rfl,by simpa using hf 3 f3 rfl⟩
theorem parts6 {H:Type} {enc:TypeId × Value→H} {P:Program} {w:World} {base:Nat} {spare:Nat→Bool} {held:Bool} {t:TypeId} {f0 f1 f2 f3 f4 f5:Field} {fuel:Nat} {cs:List Value} {x:DataW H × List MemPlace} (ht:P.underlying t=some (.struct #[f0,f1,f2,f3,f4,f5])) (h:DataW.trod enc P w base spare held fuel t cs=some x) :
  ∃ (y0 y1 y2 y3 y4 y5:DataW H × List MemPlace) (n:Nat),fuel=n+1∧cs.length=P.cellsOf t∧DataW.trod enc P w base spare held n f0.type ((cs.drop f0.offset).take (P.cellsOf f0.type))=some y0∧DataW.trod enc P w base spare held n f1.type ((cs.drop f1.offset).take (P.cellsOf f1.type))=some y1∧DataW.trod enc P w base spare held n f2.type ((cs.drop f2.offset).take (P.cellsOf f2.type))=some y2∧DataW.trod enc P w base spare held n f3.type ((cs.drop f3.offset).take (P.cellsOf f3.type))=some y3∧DataW.trod enc P w base spare held n f4.type ((cs.drop f4.offset).take (P.cellsOf f4.type))=some y4∧DataW.trod enc P w base spare held n f5.type ((cs.drop f5.offset).take (P.cellsOf f5.type))=some y5:=by
 obtain⟨xs,n,hn,rfl,hl,hlen,hf⟩:=DataW.trod_struct ht h
 match xs,hlen with
 | [y0,y1,y2,y3,y4,y5],_=>exact⟨y0,y1,y2,y3,y4,y5,n,hn,hl,by simpa using hf 0 f0 rfl,by simpa using hf 1 f1 rfl,by simpa using hf 2 f2 rfl,by simpa using hf 3 f3 rfl,by simpa using hf 4 f4 rfl,by simpa using hf 5 f5 rfl⟩
section
variable {H:Type} {enc:TypeId × Value→H} {w:World}
theorem cell_block {a:Addr} {v:Value} (h:w.cell? a=some v):a.block < w.heap.size:=by
 unfold World.cell? at h
 rcases Nat.lt_or_ge a.block w.heap.size with h' | h'
 ·exact h'
 ·simp[Array.getElem?_eq_none h'] at h
theorem open_sl {α:Type} {R:α→List Value→Prop} {z fuel:Nat} {t e:TypeId} {v:Value} {x:DataW H × List MemPlace} (ht:Tryz.prog.underlying t=some (.slice e)) (hz:Tryz.prog.cellsOf e=z) (hp:0 < z)
  (hE:∀ n cs y,n < fuel→DataW.trod enc Tryz.prog w 0 (fun _=>true) true n e cs=some y→∃ b,R b cs)
  (h:DataW.trod enc Tryz.prog w 0 (fun _=>true) true fuel t [v]=some x):∃ l:List α,SlOf w w.heap.size z R l v:=by
 rcases DataW.trod_slice ht h with ⟨hcs,_⟩ | ⟨a,len,cap,elems,rest,n,rfl,hcs,_,_,hl,hm,hlen,hel,_,_⟩
 ·exact⟨[],.inl ⟨(List.cons.inj hcs).1,rfl⟩⟩
 ·rw[hz] at hel
  have each:∀ i,i < len→∃ b cs,cs.length=z∧R b cs∧CellsAt w a (i * z) cs:=by
   intro i hi
   have h1:=hel i hi
   rw[List.getElem?_eq_getElem (by omega),Option.bind_eq_some_iff] at h1
   obtain⟨cs,hc,htr⟩:=h1
   obtain⟨b,hb⟩:=hE n cs _ (by omega) htr
   obtain⟨_,hcl,hat⟩:=World.cells?_some hc
   refine⟨b,cs,hcl,hb,fun j c hj=>?_⟩
   have hjz:j < z:=by rw[← hcl];exact (List.getElem?_eq_some_iff.1 hj).1
   have:=hat j hjz
   rw[add_add] at this
   exact this.trans hj
  by_cases h0:len=0
  ·subst h0
   exact⟨[],.inr ⟨a,cap,(List.cons.inj hcs).1,hl,hm,fun h=>absurd rfl h,fun i x hx=>by simp at hx⟩⟩
  let f:(i:Nat)→i < len→α:=fun i h=>(each i h).choose
  have hf:∀ i (h:i < len),∃ cs,cs.length=z∧R (f i h) cs∧CellsAt w a (i * z) cs:=fun i h=>(each i h).choose_spec
  have hblk:a.block < w.heap.size:=by
   obtain⟨cs,hcl,_,hc⟩:=hf 0 (by omega)
   have:=cell_block (hc 0 cs[0] (List.getElem?_eq_getElem (by omega)))
   rwa [addBlock] at this
  refine⟨(List.finRange len).map fun i=>f i.1 i.2,.inr ⟨a,cap,by rw[(List.cons.inj hcs).1];simp,by simpa using hl,hm,fun _=>hblk,fun i y hy=>?_⟩⟩
  rw[List.getElem?_map,Option.map_eq_some_iff] at hy
  obtain⟨j,hj,rfl⟩:=hy
  obtain⟨hi,e⟩:=List.getElem?_eq_some_iff.1 hj
  simp only[List.getElem_finRange] at e
  subst e
  exact hf i (by simpa using hi)
theorem cTerm:Tryz.prog.cellsOf 51=4:=by kernel_rfl
theorem cAtom:Tryz.prog.cellsOf 44=2:=by kernel_rfl
theorem cLit:Tryz.prog.cellsOf 53=11:=by kernel_rfl
theorem cRule:Tryz.prog.cellsOf 47=4:=by kernel_rfl
theorem cDecl:Tryz.prog.cellsOf 57=6:=by kernel_rfl
theorem cProg:Tryz.prog.cellsOf 25=2:=by kernel_rfl
theorem cInt:Tryz.prog.cellsOf 3=1:=by kernel_rfl
theorem cInt64:Tryz.prog.cellsOf 2=1:=by kernel_rfl
theorem cStr:Tryz.prog.cellsOf 9=1:=by kernel_rfl
theorem cBool:Tryz.prog.cellsOf 4=1:=by kernel_rfl
theorem cTerms:Tryz.prog.cellsOf 42=1:=by kernel_rfl
theorem cLits:Tryz.prog.cellsOf 45=1:=by kernel_rfl
theorem cRules:Tryz.prog.cellsOf 23=1:=by kernel_rfl
theorem cDecls:Tryz.prog.cellsOf 22=1:=by kernel_rfl
theorem cStrs:Tryz.prog.cellsOf 55=1:=by kernel_rfl
theorem cInts:Tryz.prog.cellsOf 39=1:=by kernel_rfl
theorem wf_i64 {n:Int} (h:(Lit.int .i64 n).wf=true):I64 n:=by
 simp only[Lit.wf,Bool.and_eq_true,decide_eq_true_eq] at h
 exact h
set_option maxRecDepth 100000 in
theorem open_term:∀ (fuel:Nat) (cs:List Value) (x:DataW H × List MemPlace),DataW.trod enc Tryz.prog w 0 (fun _=>true) true fuel 51 cs=some x→∃ t,TmC w w.heap.size t cs:=by
 intro fuel
 induction fuel using Nat.strongRecOn with
 | _ fuel ih=>
  intro cs x h
  obtain⟨y0,y1,y2,y3,n,rfl,hcl,h0,h1,h2,h3⟩:=parts4 Tryz.underlying51 h
  rw[cTerm] at hcl
  match cs,hcl with
  | [c0,c1,c2,c3],_=>
   simp only[cInt,cInt64,cStr,cTerms,List.drop_zero,List.drop_succ_cons,List.take_succ_cons,List.take_zero] at h0 h1 h2 h3
   obtain⟨k0,e0,_,w0⟩:=DataW.trod_int Tryz.underlying3 h0
   obtain⟨s1,e1,_,z1⟩:=DataW.trod_string Tryz.underlying9 h1
   obtain⟨k2,e2,_,w2⟩:=DataW.trod_int Tryz.underlying2 h2
   simp only[List.cons.injEq,and_true] at e0 e1 e2
   subst e0 e1 e2
   obtain⟨l,hl⟩:=open_sl Tryz.underlying42 cTerm (by omega) (fun m cs y hm hy=>ih m (by omega) cs y hy) h3
   exact⟨.mk k0 s1 k2 l,TmC.of (wf_i64 w0) z1 (wf_i64 w2) hl⟩
set_option maxRecDepth 100000 in
theorem open_atom (fuel:Nat) (cs:List Value) (x:DataW H × List MemPlace) (h:DataW.trod enc Tryz.prog w 0 (fun _=>true) true fuel 44 cs=some x):∃ t,AmC w w.heap.size t cs:=by
 obtain⟨y0,y1,n,rfl,hcl,h0,h1⟩:=parts2 Tryz.underlying44 h
 rw[cAtom] at hcl
 match cs,hcl with
 | [c0,c1],_=>
  simp only[cStr,cTerms,List.drop_zero,List.drop_succ_cons,List.take_succ_cons,List.take_zero] at h0 h1
  obtain⟨s0,e0,_,z0⟩:=DataW.trod_string Tryz.underlying9 h0
  simp only[List.cons.injEq,and_true] at e0
  subst e0
  obtain⟨l,hl⟩:=open_sl Tryz.underlying42 cTerm (by omega) (fun m cs y hm hy=>open_term m cs y hy) h1
  exact⟨⟨s0,l⟩,_,rfl,z0,hl⟩
set_option maxRecDepth 100000 in
theorem open_lit (fuel:Nat) (cs:List Value) (x:DataW H × List MemPlace) (h:DataW.trod enc Tryz.prog w 0 (fun _=>true) true fuel 53 cs=some x):∃ t,LtC w w.heap.size t cs:=by
 obtain⟨y0,y1,y2,y3,n,rfl,hcl,h0,h1,h2,h3⟩:=parts4 Tryz.underlying53 h
 rw[cLit] at hcl
 match cs,hcl with
 | [c0,c1,c2,c3,c4,c5,c6,c7,c8,c9,c10],_=>
  simp only[cInt,cAtom,cTerm,List.drop_zero,List.drop_succ_cons,List.take_succ_cons,List.take_zero] at h0 h1 h2 h3
  obtain⟨k0,e0,_,w0⟩:=DataW.trod_int Tryz.underlying3 h0
  simp only[List.cons.injEq,and_true] at e0
  subst e0
  obtain⟨a,ha⟩:=open_atom _ _ _ h1
  obtain⟨x,hx⟩:=open_term _ _ _ h2
  obtain⟨y,hy⟩:=open_term _ _ _ h3
  exact⟨⟨k0,a,x,y⟩,_,_,_,rfl,wf_i64 w0,ha,hx,hy⟩
set_option maxRecDepth 100000 in
theorem open_rule (fuel:Nat) (cs:List Value) (x:DataW H × List MemPlace) (h:DataW.trod enc Tryz.prog w 0 (fun _=>true) true fuel 47 cs=some x):∃ t,RuC w w.heap.size t cs:=by
 obtain⟨y0,y1,y2,n,rfl,hcl,h0,h1,h2⟩:=parts3 Tryz.underlying47 h
 rw[cRule] at hcl
 match cs,hcl with
 | [c0,c1,c2,c3],_=>
  simp only[cInt,cAtom,cLits,List.drop_zero,List.drop_succ_cons,List.take_succ_cons,List.take_zero] at h0 h1 h2
  obtain⟨k2,e2,_,w2⟩:=DataW.trod_int Tryz.underlying3 h2
  simp only[List.cons.injEq,and_true] at e2
  subst e2
  obtain⟨a,ha⟩:=open_atom _ _ _ h0
  obtain⟨l,hl⟩:=open_sl Tryz.underlying45 cLit (by omega) (fun m cs y hm hy=>open_lit m cs y hy) h1
  exact⟨⟨a,l,k2⟩,_,_,rfl,wf_i64 w2,ha,hl⟩
set_option maxRecDepth 100000 in
theorem open_decl (fuel:Nat) (cs:List Value) (x:DataW H × List MemPlace) (h:DataW.trod enc Tryz.prog w 0 (fun _=>true) true fuel 57 cs=some x):∃ t,DeC w w.heap.size t cs:=by
 obtain⟨y0,y1,y2,y3,y4,y5,n,rfl,hcl,h0,h1,h2,h3,h4,h5⟩:=parts6 Tryz.underlying57 h
 rw[cDecl] at hcl
 match cs,hcl with
 | [c0,c1,c2,c3,c4,c5],_=>
  simp only[cInt,cStr,cStrs,cInts,cBool,List.drop_zero,List.drop_succ_cons,List.take_succ_cons,List.take_zero] at h0 h1 h2 h3 h4 h5
  obtain⟨s0,e0,_,z0⟩:=DataW.trod_string Tryz.underlying9 h0
  obtain⟨b3,e3,_⟩:=DataW.trod_bool Tryz.underlying4 h3
  obtain⟨b4,e4,_⟩:=DataW.trod_bool Tryz.underlying4 h4
  obtain⟨k5,e5,_,w5⟩:=DataW.trod_int Tryz.underlying3 h5
  simp only[List.cons.injEq,and_true] at e0 e3 e4 e5
  subst e0 e3 e4 e5
  obtain⟨l,hl⟩:=open_sl (R:=StrC) Tryz.underlying55 cStr (by omega) (fun m cs y hm hy=>by obtain⟨s,e,_,z⟩:=DataW.trod_string Tryz.underlying9 hy;exact⟨s,e,z⟩) h1
  obtain⟨m,hm⟩:=open_sl (R:=IntC) Tryz.underlying39 cInt (by omega) (fun m cs y hm hy=>by obtain⟨s,e,_,z⟩:=DataW.trod_int Tryz.underlying3 hy;exact⟨s,e,wf_i64 z⟩) h2
  exact⟨⟨s0,l,m,b3,b4,k5⟩,_,_,rfl,z0,wf_i64 w5,hl,hm⟩
set_option maxRecDepth 100000 in
theorem open_prog (fuel:Nat) (cs:List Value) (x:DataW H × List MemPlace) (h:DataW.trod enc Tryz.prog w 0 (fun _=>true) true fuel 25 cs=some x):∃ t,PgC w w.heap.size t cs:=by
 obtain⟨y0,y1,n,rfl,hcl,h0,h1⟩:=parts2 Tryz.underlying25 h
 rw[cProg] at hcl
 match cs,hcl with
 | [c0,c1],_=>
  simp only[cDecls,cRules,List.drop_zero,List.drop_succ_cons,List.take_succ_cons,List.take_zero] at h0 h1
  obtain⟨l,hl⟩:=open_sl Tryz.underlying22 cDecl (by omega) (fun m cs y hm hy=>open_decl m cs y hy) h0
  obtain⟨m,hm⟩:=open_sl Tryz.underlying23 cRule (by omega) (fun m cs y hm hy=>open_rule m cs y hy) h1
  exact⟨⟨l,m⟩,_,_,rfl,hl,hm⟩
end
end Go.Proofs.YtakpgcmfjlbcgaaGreatDoor
