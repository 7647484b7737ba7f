/- Tterms@0123 -/
import Derived.RangeFuncFrom
import Derived.Test.YtakpgcmfjlbcgaaGreatDoorQ6
import Derived.Test.YtakpgcmfjlbcgaaGreatDoorQ9
set_option linter.unusedSimpArgs false
set_option linter.unusedVariables false
namespace Go.Proofs.YtakpgcmfjlbcgaaGreatDoor
open Lib(hid)
open Go.RowKit Go.Shelf
attribute [local go_sem] Oper.semAt_some
theorem scopeWide {n:Nat} {P:Program} {c:Code} {Q:Exit→Act→World→Prop} {a:Act} {w:World} (h:c.wpIn Fence.wide n P (Exit.noGoto Q) a w):(Code.scope c).wpIn Fence.wide n P Q a w:=
 wpIn_wide.2 (wp_scope_straight (wpIn_wide.1 h))
structure TErr (a:Addr) (w:World):Prop where
 err:w.cell? ⟨2,0,none⟩=some (.iface 250 (.pointer (some a)))
 size:2 < w.heap.size
theorem TErr.kc {a:Addr} {w w':World} (h:TErr a w) (k:KC w w'):TErr a w':=⟨k.cell h.err,Nat.lt_of_lt_of_le h.size k.size⟩
theorem TErr.below {a:Addr} {w w':World} (h:TErr a w) (k:Below w.heap.size w w'):TErr a w':=h.kc (KC.of_below k)
def okV (a:Addr) (b:Bool):Value:=if b=true then .nilIface else .iface 250 (.pointer (some a))
def mark (D:Nat):Deferred:={ target:=.collected D,args:=#[] }
def Marks (n0:Nat) (W:World):List Nat→Prop
 | []=>True
 | D::Ds=>(W.heap[D]?=some (.deferred (some []))∧n0≤D∧∀ E ∈ Ds,E≠D)∧Marks n0 W Ds
theorem Marks.kept {n0:Nat} {W W':World}:∀ {Ds:List Nat},(∀ D ∈ Ds,W.heap[D]?=some (Obj.deferred (some []))→W'.heap[D]?=some (Obj.deferred (some [])))→Marks n0 W Ds→Marks n0 W' Ds
 | [],_,_=>trivial
 | D::_,h,⟨⟨h1,h2,h3⟩,h4⟩=>⟨⟨h D (by simp) h1,h2,h3⟩,Marks.kept (fun E hE=>h E (by simp[hE])) h4⟩
theorem Marks.below {n0:Nat} {W W':World} {Ds:List Nat} (h:Marks n0 W Ds) (hb:Below W.heap.size W W'):Marks n0 W' Ds:=Marks.kept (fun D _ h=>(hb.block D (Array.getElem?_eq_some_iff.1 h).1).trans h) h
theorem Marks.others {n0:Nat} {W W':World} {Ds:List Nat} (h:Marks n0 W Ds) (hb:KeepsOthers W W'):Marks n0 W' Ds:=Marks.kept (fun D _ h=>hb.same D _ h rfl) h
theorem Marks.grown {n0 B:Nat} {W W':World} {row:Option Nat} {Ds:List Nat} (h:Marks n0 W Ds) (hl:∀ D ∈ Ds,D < B) (hg:W.grownBy W' row) (hr:∀ r,row=some r→B≤r):Marks n0 W' Ds:=by
 obtain⟨_,_,_,_,hblk⟩:=hg
 refine Marks.kept (fun D hD h=>(hblk D (Array.getElem?_eq_some_iff.1 h).1 (fun e=>?_)).trans h) h
 have h1:=hl D hD
 have h2:=hr D e.symm
 omega
theorem kcGrown {W W':World} {row:Option Nat} (hg:W.grownBy W' row) (hr:∀ r,row=some r→∃ o:Obj,W.heap[r]?=some o∧o.isCells=false):KC W W':=by
 obtain⟨_,_,_,hsz,hblk⟩:=hg
 refine⟨hsz,fun i o hi ho=>(hblk i (Array.getElem?_eq_some_iff.1 hi).1 (fun e=>?_)).trans hi⟩
 obtain⟨o',h1,h2⟩:=hr i e.symm
 rw[hi] at h1
 cases h1
 rw[ho] at h2
 cases h2
theorem newCells (W:World) (cs:List Value) (T:TypeId):CellsAt (W.alloc (.cells cs.toArray T)) ⟨W.heap.size,0,none⟩ 0 cs:=by
 intro j c hj
 have hn:(W.alloc (.cells cs.toArray T)).heap[W.heap.size]?=some (.cells cs.toArray T (0,0)):=World.alloc_heap_new W _
 have hadd:(⟨W.heap.size,0,none⟩:Addr).add (0+j)=⟨W.heap.size,j,none⟩:=by unfold Addr.add;split <;> simp_all
 rw[hadd]
 unfold World.cell?
 simp only[hn]
 simpa using hj
theorem Marks.lt {n0:Nat} {W:World}:∀ {Ds:List Nat},Marks n0 W Ds→∀ D ∈ Ds,D < W.heap.size
 | _::_,⟨⟨h1,_,_⟩,h4⟩,D,hD=>by
  rcases List.mem_cons.1 hD with rfl | hD
  ·exact (Array.getElem?_eq_some_iff.1 h1).1
  ·exact Marks.lt h4 D hD
theorem Marks.weak {n0 n1:Nat} {W:World} (h:n1≤n0):∀ {Ds:List Nat},Marks n0 W Ds→Marks n1 W Ds
 | [],_=>trivial
 | _::_,⟨⟨h1,h2,h3⟩,h4⟩=>⟨⟨h1,Nat.le_trans h h2,h3⟩,Marks.weak h h4⟩
theorem leaves_marks {F:Fence} {n:Nat} {P:Program} {fn:Func} {tmps:Array Value} {v:Value} (hres:∀ W:World,(results fn tmps).run P W=.ok v W) {n0:Nat} {w:World}:∀ (Ds:List Nat) (W:World),Marks n0 W Ds→Below n0 w W →
  LeavesInM F n P fn tmps (fun e W'=>e=.returned v∧Below n0 w W') (Ds.map mark) .returning W
 | [],W,_,hB=>⟨v,hres W,rfl,hB⟩
 | D::Ds,W,⟨⟨h1,h2,h3⟩,h4⟩,hB=>by
  refine⟨by simp,.inl ⟨D,W.putObj D (.deferred none),rfl,run_takeDeferred h1,leaves_marks hres Ds _ ?_ ?_⟩⟩
  ·have key:∀ (Es:List Nat),(∀ E ∈ Es,E≠D)→Marks n0 W Es→Marks n0 (W.putObj D (.deferred none)) Es:=by
    intro Es
    induction Es with
    | nil=>intro _ _;trivial
    | cons E Es ih=>
     intro hne hm
     obtain⟨⟨m1,m2,m3⟩,m4⟩:=hm
     exact⟨⟨(World.putObj_heap_other (fun e=>hne E (by simp) e)).trans m1,m2,m3⟩,ih (fun x hx=>hne x (by simp[hx])) m4⟩
   exact key Ds h3 h4
  ·exact hB.grown (grownBy_putObj' W D _) (by have:=(Array.getElem?_eq_some_iff.1 h1).1;have:=hB.size;omega) (fun k e=>by cases e;exact h2)
set_option maxRecDepth 100000 in
set_option maxHeartbeats 8000000 in
theorem checkTerms_in (l:List Tm) (v:Value) (a:Addr) (w:World) (hl:TmS w w.heap.size l v) (E:TErr a w) :
  CallsIn Fence.wide 6 Tryz.prog 178 #[v] w fun e w'=>e=.returned (okV a (l.all (rightT 20)))∧Below w.heap.size w w':=by
 obtain⟨o1,cap1,rfl,hc1,hm1,S1⟩:=SlOf.open hl
 have HE:=hid E
 clear hl E
 refine callsIn_of_wp_marks Tryz.func178 rfl trivial ?_ rfl
 simp only[Tryz.ntmps178,List.size_toArray,List.length_cons,List.length_nil,Nat.reduceAdd,Nat.reduceSub,Array.replicate_succ,Array.replicate_zero,List.push_toArray,List.append_toArray,List.nil_append,List.cons_append]
 gi_wp2_with fail
 refine scopeWide ?_
 gi_wp2_with fail
 refine wpIn_label ?_
 gi_wp2_with fail
 refine wpIn_loop (fun a' wr=>∃ (k:Nat) (Ds:List Nat) (u5 u11 u12 u13 u14 u15 u26:Value),a'={ tmps:=#[.slice o1 l.length cap1,undef,.nilIface,.pointer (some ⟨w.heap.size,0,none⟩),undef,u5,undef,undef,.slice o1 l.length cap1,.int .i64 l.length,.int .i64 k,u11,u12,u13,u14,u15,undef,undef,undef,undef,undef,undef,undef,undef,undef,undef,u26,undef],defers:=Ds.map mark } ∧
   k≤l.length∧(l.take k).all (rightT 20)=true∧Boxed wr w.heap.size 95 .nilIface∧Marks (w.heap.size+1) wr Ds∧Below w.heap.size w wr) (fun a' _=>l.length - (intOf (a'.tmps.getD 10 undef)).toNat) ?start ?round
 case start=>exact⟨0,[],_,_,_,_,_,_,_,rfl,Nat.zero_le _,rfl,Boxed.new w _ _,trivial,(Below.refl _ _).alloc (Nat.le_refl _) _⟩
 case round=>
  rintro a' wr ⟨k,Ds,u5,u11,u12,u13,u14,u15,u26,rfl,hk,hr,hw,hM,hB⟩
  have hBs:=hB.size
  by_cases hlt:k < l.length
  ·have hlt':(k:Int) < (l.length:Int):=by omega
   obtain⟨t,ht⟩:∃ t,l[k]?=some t:=⟨l[k],List.getElem?_eq_getElem hlt⟩
   obtain⟨b,p2,q2,rfl,hb,Hc,c0,c1,c2,c3⟩:=tm_at S1 hB ht
   have hbl:(b.add (k * 4)).block < wr.heap.size:=by rw[addBlock];omega
   obtain⟨WV,hWV⟩:∃ WV,wr.alloc (.cells #[.int .i64 t.op,.string t.s,.int .i64 t.n,.slice p2 t.l.length q2] 51)=WV:=⟨_,rfl⟩
   have hV1:Below wr.heap.size wr WV:=by rw[← hWV];exact (Below.refl _ _).alloc (Nat.le_refl _) _
   have hVs:WV.heap.size=wr.heap.size+1:=by rw[← hWV];simp
   have hTV:=(Hc.out.under hV1)
   have HE1:=hid (eachTerm_in 5 t _ WV (hTV.more (by omega)))
   obtain⟨WL,hWL⟩:∃ WL,WV.alloc (.cells #[.int .i64 t.op,.string t.s,.int .i64 t.n,.slice p2 t.l.length q2] 51)=WL:=⟨_,rfl⟩
   have hL1:Below wr.heap.size wr WL:=by rw[← hWL];exact hV1.alloc (by omega) _
   have hLs:WL.heap.size=wr.heap.size+2:=by rw[← hWL];simp[hVs]
   have hTL:=Hc.out.under hL1
   have hbox:CellsAt WL ⟨wr.heap.size+1,0,none⟩ 0 [.int .i64 t.op,.string t.s,.int .i64 t.n,.slice p2 t.l.length q2]:=by
    have:=newCells WV [.int .i64 t.op,.string t.s,.int .i64 t.n,.slice p2 t.l.length q2] 51
    rw[hWL,hVs] at this
    exact this
   have hwL:Boxed WL w.heap.size 95 .nilIface:=(hL1.block _ hw.lt).trans hw
   have hML:Marks (w.heap.size+1) WL Ds:=hM.below hL1
   have hMl:∀ D ∈ Ds,D < WL.heap.size:=fun D hD=>by have:=Marks.lt hM D hD;omega
   have HMl:=hid hMl
   clear hMl
   have hBL:Below w.heap.size w WL:=hB.trans (hL1.mono hBs)
   have Ht:=hid ht
   have Hr:=hid hr
   have HWV:=hid hWV
   have HWL:=hid hWL
   have HVs:=hid hVs
   have HLs:=hid hLs
   clear ht hr hTV hWV hWL hVs hLs hV1 hL1
   gi_wp2_with fail
   refine⟨trivial,?_⟩
   rw[HWV.out]
   refine HE1.out.mono ?_
   rintro e W2 ⟨rfl,rfl⟩
   rw[HVs.out,HWL.out]
   gi_wp2_with fail
   refine wpIn_rangeFunc_ownH rfl (by omega) (gf:=196) (lb:=#[.pointer (some ⟨wr.heap.size+1,0,none⟩)]) rfl trivial (enters_of Tryz.func196 (by kernel_rfl) rfl)
    (eachTerm_stops 5 (wr.heap.size+1) wr.heap.size t _ WL hbox hTL) (fun h k=>h.trans k) ?hKb (Below.refl _ _) (fun _=>rfl)
    (fun pre W=>(Boxed W w.heap.size 95 .nilIface∧(∀ x ∈ pre,goodN x.pair=true)∧Marks (w.heap.size+1) W Ds∧KC WL W)∧Below w.heap.size w W)
    (fun cd pre W=>(cd=.exit 0∧Boxed W w.heap.size 95 (okV a false)∧(∃ x ∈ pre,goodN x.pair=false)∧Marks (w.heap.size+1) W Ds)∧Below w.heap.size w W)
    ?hI ?hIx ⟨⟨hwL,by simp,hML,KC.refl _⟩,hBL⟩
    (fun x a' W=>∃ Bx,CellsAt W ⟨Bx,0,none⟩ 0 x.cs∧a'={ tmps:=#[.slice (some b) l.length cap1,undef,.nilIface,.pointer (some ⟨w.heap.size,0,none⟩),undef,.pointer (some ⟨wr.heap.size,0,none⟩),.int .i64 x.lv,.pointer (some ⟨Bx,0,none⟩),.slice (some b) l.length cap1,.int .i64 l.length,.int .i64 k,.bool true,.pointer (some (b.add (k * 4))),.agg #[.int .i64 t.op,.string t.s,.int .i64 t.n,.slice p2 t.l.length q2],.agg #[.int .i64 t.op,.string t.s,.int .i64 t.n,.slice p2 t.l.length q2],.func (.func 196) #[] #[.pointer (some ⟨wr.heap.size+1,0,none⟩)],.int .i64 x.lv,.agg x.cs.toArray,undef,undef,undef,undef,undef,undef,undef,undef,u26,undef],defers:=[] })
    ?hAx ?assign ?body ?done ?stop
   case hKb=>exact fun W l o o' _ ho hc _=>KC.put W l o o' ho hc
   case hI=>
    rintro pre A B row ⟨⟨h1,h2,h3,h4⟩,h5⟩ hg hr
    exact⟨⟨boxed_own w.heap.size 95 (fun (_:Unit)=>.nilIface) () A B row h1 hg (fun r e=>(hr r e).2),h2,h3.grown HMl.out hg (fun r e=>(hr r e).1),h4.trans (kcGrown hg (fun r e=>(hr r e).2))⟩,ownFrom_below (β:=Unit) (Nat.le_refl _) (by have:=HLs.out;omega) () A B row h5 hg hr⟩
   case hIx=>
    rintro cd pre A B row ⟨⟨h1,h2,h3,h4⟩,h5⟩ hg hr
    exact⟨⟨h1,boxed_own w.heap.size 95 (fun (_:Unit)=>okV a false) () A B row h2 hg (fun r e=>(hr r e).2),h3,h4.grown HMl.out hg (fun r e=>(hr r e).1)⟩,ownFrom_below (β:=Unit) (Nat.le_refl _) (by have:=HLs.out;omega) () A B row h5 hg hr⟩
   case hAx=>
    rintro x a' _ A B row ⟨Bx,h1,h2⟩ hg hr
    exact⟨Bx,h1.kc (kcGrown hg (fun r e=>(hr r e).2)),h2⟩
   case assign=>
    rintro lp pre ⟨lv,t',cs',ok'⟩ W K ⟨⟨h1,h2,h3,h4⟩,h5⟩ hK
    obtain⟨o',k',rfl,_⟩:=ok'.look
    have hb1:=(Below.refl W.heap.size W).alloc (Nat.le_refl _) (.cells #[.int .i64 t'.op,.string t'.s,.int .i64 t'.n,.slice o' t'.l.length k'] 51)
    have HK:=hid (hK _ _ ((KeepsOthers.alloc W _).from _) (KC.of_below hb1) ⟨⟨h1.alloc _,h2,h3.below hb1,h4.trans (KC.of_below hb1)⟩,h5.trans (hb1.mono h5.size)⟩ ⟨W.heap.size,newCells W _ _,rfl⟩)
    clear hK h1 h2 h3 h4 h5
    simp only[Nd.enc]
    gi_wp2
    exact HK.out
   case body=>
    rintro lp pre ⟨lv,t',cs',ok'⟩ a' W hlp hrec ⟨⟨h1,h2,h3,h4⟩,h5⟩ ⟨Bx,hcx,rfl⟩ hlen
    have hTm:=(ok'.kc h4).more (B':=W.heap.size) (by have:=h4.size;have:=HLs.out;omega)
    have Hsh:=hid (tshape_c t' W cs' hTm)
    obtain⟨o',k',rfl,_⟩:=ok'.look
    obtain⟨e0,e1,e2,e3⟩:=hcx.four
    have ea:(⟨Bx,0,none⟩:Addr).add 0=⟨Bx,0,none⟩:=by unfold Addr.add;simp
    simp only[ea,Nat.zero_add] at e0 e1 e2 e3
    have herr:W.cell? ⟨2,0,none⟩=some (.iface 250 (.pointer (some a))):=(h5.cell (p:=⟨2,0,none⟩) HE.out.size).trans HE.out.err
    have hwc:=h1.cell
    have hwf:=h1.frozen
    clear hcx ea hTm
    by_cases hlv:20 < lv
    ·have hbad:goodN (lv,t')=false:=by unfold goodN;rw[decide_eq_false (show ¬ lv≤20 by omega)];rfl
     have Hbad:=hid hbad
     clear hbad
     gi_wp2
     refine⟨trivial,?_⟩
     gi_wp2
     exact⟨(KeepsOthers.setCell _ _ _).from _,⟨⟨rfl,h1.set _,⟨⟨lv,t',_,ok'⟩,by simp,Hbad.out⟩,h3.others (KeepsOthers.setCell _ _ _)⟩,h5.setCell (p:=⟨w.heap.size,0,none⟩) (Nat.le_refl _) _⟩⟩
    ·gi_wp2_with fail
     refine⟨trivial,(CallsIn.inRound lp (callsIn_wide.2 Hsh.out)).mono ?_⟩
     rintro e W3 ⟨rfl,b3⟩
     have hB3:=h5.trans (b3.mono h5.size)
     have h13:Boxed W3 w.heap.size 95 .nilIface:=(b3.block _ h1.lt).trans h1
     have herr3:W3.cell? ⟨2,0,none⟩=some (.iface 250 (.pointer (some a))):=(hB3.cell (p:=⟨2,0,none⟩) HE.out.size).trans HE.out.err
     have hwc3:=h13.cell
     have hwf3:=h13.frozen
     have hk3:KeepsOthers W W3:=⟨b3.size,fun i _ hi _=>(b3.block i (Array.getElem?_eq_some_iff.1 hi).1).trans hi⟩
     cases hsh:shapeB t' with
     | true=>
      have hgood:goodN (lv,t')=true:=by unfold goodN;rw[decide_eq_true (show lv≤20 by omega),hsh];rfl
      have Hgood:=hid hgood
      clear hgood hsh
      gi_wp2
      exact⟨hk3.from _,KC.of_below b3,⟨h13,fun x hx=>(List.mem_append.1 hx).elim (h2 x) (fun hx=>by rw[List.mem_singleton.1 hx];exact Hgood.out),h3.below b3,h4.trans (KC.of_below b3)⟩,hB3⟩
     | false=>
      have hbad:goodN (lv,t')=false:=by unfold goodN;rw[hsh,Bool.and_false]
      have Hbad:=hid hbad
      clear hbad hsh
      gi_wp2
      exact⟨(hk3.trans (KeepsOthers.setCell _ _ _)).from _,⟨⟨rfl,h13.set _,⟨⟨lv,t',_,ok'⟩,by simp,Hbad.out⟩,(h3.below b3).others (KeepsOthers.setCell _ _ _)⟩,hB3.setCell (p:=⟨w.heap.size,0,none⟩) (Nat.le_refl _) _⟩⟩
   case done=>
    rintro D ys W hD hys ⟨⟨h1,h2,h3,h4⟩,h5⟩ hK
    have hgood:rightT 20 t=true:=by
     have hn:=nodes_ok t 1
     rw[show okT 1 t=rightT 20 t from ok_right 20 t (Nat.le_refl _),show ((1:Nat):Int)=1 from rfl,← hys] at hn
     rw[← hn,List.all_eq_true]
     intro y hy
     obtain⟨x,hx,rfl⟩:=List.mem_map.1 hy
     exact h2 x hx
    have hr1:(l.take (k+1)).all (rightT 20)=true:=by
     rw[List.take_succ_eq_append_getElem hlt,List.all_append,Hr.out,show l[k]=t from (List.getElem?_eq_some_iff.1 Ht.out).2]
     simp[hgood]
    have Hr1:=hid hr1
    have hM1:Marks (w.heap.size+1) W (D::Ds):=⟨⟨hK,by have:=HLs.out;omega,fun E hE e=>by have:=HMl.out E hE;omega⟩,h3⟩
    clear hr1 hgood hys h2 h4
    gi_wp2
    rw[show ((k:Int)+1)=((k+1:Nat):Int) by omega]
    exact⟨⟨k+1,D::Ds,_,_,_,_,_,_,_,rfl,hlt,Hr1.out,h1,hM1,h5⟩,by simp[intOf];omega⟩
   case stop=>
    rintro D c pre W hD ⟨r,hr⟩ ⟨⟨rfl,h1,⟨x,hx,hbad⟩,h3⟩,h5⟩ hK
    have hbad2:rightT 20 t=false:=by
     have hn:=nodes_ok t 1
     rw[show okT 1 t=rightT 20 t from ok_right 20 t (Nat.le_refl _),show ((1:Nat):Int)=1 from rfl,← hr] at hn
     rw[← hn,List.all_eq_false]
     exact⟨x.pair,by simp;exact .inl ⟨x,hx,rfl⟩,by simp[hbad]⟩
    have hall:l.all (rightT 20)=false:=by
     rw[List.all_eq_false]
     exact⟨t,List.mem_of_getElem? Ht.out,by simp[hbad2]⟩
    have Hall:=hid hall
    have hM1:Marks w.heap.size W (D::Ds):=⟨⟨hK,by have:=HLs.out;omega,fun E hE e=>by have:=HMl.out E hE;omega⟩,h3.weak (by omega)⟩
    have hwc:=h1.cell
    clear hall hbad2 hbad hr h3
    gi_wp2
    rw[Exit.noGoto_ret]
    refine (show LeavesInM Fence.wide 6 Tryz.prog Tryz.f178 _ (fun e w'=>e=.returned (okV a (l.all (rightT 20)))∧Below w.heap.size w w') ((D::Ds).map mark) .returning W from ?_)
    rw[Hall.out]
    exact leaves_marks (v:=okV a false) (fun W=>(results_tmp rfl _ _ _).trans rfl) (D::Ds) W hM1 h5
  ·have hlt':¬ (k:Int) < (l.length:Int):=by omega
   have hall:l.all (rightT 20)=true:=by rw[List.take_of_length_le (by omega)] at hr;exact hr
   have Hall:=hid hall
   have hwc:=hw.cell
   clear hall hr
   gi_wp2
   refine (show LeavesInM Fence.wide 6 Tryz.prog Tryz.f178 _ (fun e w'=>e=.returned (okV a (l.all (rightT 20)))∧Below w.heap.size w w') (Ds.map mark) .returning wr from ?_)
   rw[Hall.out]
   exact leaves_marks (v:=okV a true) (fun W=>(results_tmp rfl _ _ _).trans rfl) Ds wr (hM.weak (by omega)) hB
theorem checkTerms_c (l:List Tm) (v:Value) (a:Addr) (w:World) (hl:TmS w w.heap.size l v) (E:TErr a w) :
  Calls Tryz.prog 178 #[v] w fun e w'=>e=.returned (okV a (l.all (rightT 20)))∧Below w.heap.size w w':=callsIn_wide.1 (checkTerms_in l v a w hl E)
end Go.Proofs.YtakpgcmfjlbcgaaGreatDoor
