/- Rd10@012 -/
import Derived.Deep.LoopGhost
import Derived.Test.YtdgbajnhhhjbcaaGreatDoorQ32
set_option linter.unusedSimpArgs false
namespace Go.Proofs.YtdgbajnhhhjbcaaGreatDoor
open Lib(hid)
open Go.RowKit
abbrev S4 (w:World) (b:Nat) (x y z u:Value):World:=(((w.setCell ⟨b,0,none⟩ x).setCell ⟨b,1,none⟩ y).setCell ⟨b,2,none⟩ z).setCell ⟨b,3,none⟩ u
theorem row_set4 {n:Nat} {T:TypeId} {a b c d:Value} {w:World} (h:Row n T [a,b,c,d] w) (x y z u:Value):Row n T [x,y,z,u] (S4 w n x y z u):=
 row_set (row_set (row_set (row_set h 0 x) 1 y) 2 z) 3 u
theorem s4_other (w:World) (b:Nat) (x y z u:Value) {i:Nat} (h:i≠b):(S4 w b x y z u).heap[i]?=w.heap[i]?:=boxW_other b [x,y,z,u] 0 w i h
theorem chain_rel {R n6 n8:Nat} {wr w7 w8:World} {x y:Tm} {o' oy:Option Addr} {cap' ky:Nat} {OP:Int} (hR:R < n6) (h68:n6 < n8) (h7:n8 < w7.heap.size) (hx8:Row n8 64 (tmCells x o' cap') w8) (hr8:Row n6 64 zeroCells w8)
  (tx:TmC (past (n6+1) (hide n8 wr)) wr.heap.size x (tmCells x o' cap')) (ty:TmC (past w7.heap.size w8) w8.heap.size y (tmCells y oy ky)) (hi1:-9223372036854775808≤OP) (hi2:OP≤9223372036854775807) (g:Gr R wr w8) {V:World}
  (hV:V=((S4 w8 n8 (.int .i64 OP) (.string ⟨#[]⟩) (.int .i64 0) (.slice (some ⟨w8.heap.size+1,0,none⟩) 2 2)).alloc (.cells #[.int .i64 y.op,.string y.s,.int .i64 y.n,.slice oy y.l.length ky] 64)).alloc
   (.cells #[.int .i64 x.op,.string x.s,.int .i64 x.n,.slice o' x.l.length cap',.int .i64 y.op,.string y.s,.int .i64 y.n,.slice oy y.l.length ky] 64):=by rfl) :
  Row n8 64 (tmCells (.mk OP ⟨#[]⟩ 0 [x,y]) (some ⟨w8.heap.size+1,0,none⟩) 2) V∧Row n6 64 zeroCells V∧TmC (past (n6+1) (hide n8 V)) V.heap.size (.mk OP ⟨#[]⟩ 0 [x,y]) (tmCells (.mk OP ⟨#[]⟩ 0 [x,y]) (some ⟨w8.heap.size+1,0,none⟩) 2):=by
 obtain⟨S,hS⟩:∃ S,S4 w8 n8 (.int .i64 OP) (.string ⟨#[]⟩) (.int .i64 0) (.slice (some ⟨w8.heap.size+1,0,none⟩) 2 2)=S:=⟨_,rfl⟩
 have hs:S.heap.size=w8.heap.size:=by rw[← hS];exact set4_size _ _ _ _ _ _
 have hso:∀ i,i≠n8→S.heap[i]?=w8.heap[i]?:=fun i hi=>by rw[← hS];exact s4_other _ _ _ _ _ _ hi
 have hrow:Row n8 64 [.int .i64 OP,.string ⟨#[]⟩,.int .i64 0,.slice (some ⟨w8.heap.size+1,0,none⟩) 2 2] S:=by rw[← hS];exact row_set4 hx8 _ _ _ _
 rw[hS] at hV
 obtain⟨Y,hY⟩:∃ Y,S.alloc (.cells #[.int .i64 y.op,.string y.s,.int .i64 y.n,.slice oy y.l.length ky] 64)=Y:=⟨_,rfl⟩
 rw[hY] at hV
 have hYs:Y.heap.size=w8.heap.size+1:=by rw[← hY,World.size_alloc,hs]
 have hVs:V.heap.size=w8.heap.size+2:=by rw[hV,World.size_alloc,hYs]
 have bY:Below S.heap.size S Y:=by rw[← hY];exact (Below.refl _ _).alloc (Nat.le_refl _) _
 have bV:Below S.heap.size S V:=by rw[hV];exact bY.alloc (by rw[hs,hYs];omega) _
 have h8:n8 < w8.heap.size:=hx8.lt
 have hnew:Row (w8.heap.size+1) 64 (tmCells x o' cap'++tmCells y oy ky) V:=by
  rw[hV,← hYs]
  exact Row.new Y _ _
 have hold:∀ k,k≠n8→k < w8.heap.size→V.heap[k]?=w8.heap[k]?:=fun k h1 h2=>(bV.block k (by rw[hs];exact h2)).trans (hso k h1)
 refine⟨hrow.below bV hrow.lt,?_,?_⟩
 ·exact (hold n6 (by omega) hr8.lt).trans hr8
 ·have gs:=g.size
  have tx':TmC (past (n6+1) (hide n8 V)) V.heap.size x (tmCells x o' cap'):=(tx.vis (visHidden (Nat.le_refl _) fun k h1 h2 h3=>(hold k h2 (by omega)).trans (g.block k h3 (fun e=>by have:=Option.some.inj e;omega)))).more (by omega)
  have ty':TmC (past (n6+1) (hide n8 V)) V.heap.size y (tmCells y oy ky):=((tm_above ty h7 (L':=n6+1) (by omega)).vis (visHidden (Nat.le_refl _) fun k h1 h2 h3=>hold k h2 h3)).more (by omega)
  exact two_laid ⟨hi1,hi2⟩ tx' ty' ((row_hide hnew (by omega)).past (by omega)) (by omega)
theorem productC_less {l q:List TokI} {x:Tm} (h:thingP l=.ok (x,q)):q.length < l.length:=thing_less h
theorem sumC_less {l q:List TokI} {x:Tm} (h:productP l=.ok (x,q)):q.length < l.length:=product_less h
theorem productC_else (x:Tm) {q:List TokI} (h:opMul (hdT q)=0):timesP x q=.ok (x,q):=by
 refine timesP_else x ?_
 rw[← tokB_hd (by decide)]
 unfold opMul at h
 cases hb:tokB 4 [42] (hdT q) with
 | true=>rw[hb] at h;simp at h
 | false=>rfl
theorem sumC_else (x:Tm) {q:List TokI} (h:opSum (hdT q)=0):plusP x q=.ok (x,q):=by
 unfold opSum at h
 cases hb:tokB 4 [43] (hdT q) with
 | true=>rw[hb] at h;simp at h
 | false=>
  rw[hb] at h
  cases hc:tokB 4 [45] (hdT q) with
  | true=>rw[hc] at h;simp at h
  | false=>exact plusP_else x (by rw[← tokB_hd (by decide)];exact hb) (by rw[← tokB_hd (by decide)];exact hc)
theorem productC_sign (x:Tm) {q:List TokI} (h:opMul (hdT q)≠0):q≠[]∧I64 (opMul (hdT q))∧timesP x q =
  match thingP q.tail with
  | .error e=>.error e
  | .ok (y,p)=>if x.op=3∨y.op=3 then .error (40,lineL q) else timesP (.mk (opMul (hdT q)) ⟨#[]⟩ 0 [x,y]) p:=by
 cases q with
 | nil=>exact absurd (by decide) h
 | cons t r=>
  cases hb:tokB 4 [42] t with
  | false=>exact absurd (show opMul t=0 by unfold opMul;rw[hb];rfl) h
  | true=>
   have ho:opMul (hdT (t::r))=7:=by show opMul t=7;unfold opMul;rw[hb];rfl
   refine⟨by simp,by rw[ho];unfold I64;decide,?_⟩
   rw[timesP_sign x r hb,ho]
   rfl
def productCQ (q:List TokI):Res Tm:=
 match thingP q with
 | .error e=>.error e
 | .ok (x,p)=>timesP x p
set_option maxRecDepth 100000 in
set_option maxHeartbeats 16000000 in
theorem productC_c (n:Nat) (IH:∀ q,q.length≤n→TmF 225 thingP q) (q:List TokI) (hqn:q.length≤n) (C:RC) (du ru:Value) (w:World) (h:Rd C du ru q w) :
  Calls Tryz.prog 214 #[.pointer (some ⟨C.R,0,none⟩),.func (.func 225) #[.pointer (some ⟨C.R,0,none⟩)] #[],.func (.func 226) #[] #[]] w (TmR C du ru (productCQ q) w):=by
 have hltR:=h.lt
 have HB0:Hid (∀ (W:World) (x:Obj),Below W.heap.size W (W.alloc x)):=hid fun W x=>(Below.refl _ _).alloc (Nat.le_refl _) _
 obtain⟨W1,hW1⟩:∃ W1,w.alloc (.cells #[.int .i64 0,.string ⟨#[]⟩,.int .i64 0,.slice none 0 0] 64)=W1:=⟨_,rfl⟩
 have hb1:Below w.heap.size w W1:=by rw[← hW1];exact HB0.out w _
 have hs1:W1.heap.size=w.heap.size+1:=by rw[← hW1];simp
 have hr1:Row w.heap.size 64 zeroCells W1:=by rw[← hW1];exact Row.new w _ _
 have HP:=hid (IH q hqn C du ru W1 (h.below hb1))
 have HIH:=hid IH
 have HW1:=hid hW1
 have Hs1:=hid hs1
 have Hb1:=hid hb1
 have Hr1:=hid hr1
 clear h hW1 hb1 hr1 hs1 IH
 cases hp:thingP q with
 | error z=>
  have Hq:Hid (productCQ q=.error (z.1,z.2)):=hid (by unfold productCQ;rw[hp])
  have Hp:=hid hp
  clear hp
  go_enter Tryz.func214,Tryz.ntmps214
  go_wp2_with fail
  rw[HW1.out]
  refine HP.out.mono ?_
  rintro e w2 ⟨hm,g⟩
  rw[Hp.out] at hm
  obtain rfl:=hm
  have hrt:=Hr1.out.gr g (by omega)
  have hlt2:=hrt.lt
  obtain⟨c0,c1,c2,c3,f3⟩:=hrt.r4
  have Gf:=hid ((Gr.of_below Hb1.out).trans g)
  clear g hrt
  go_wp2
  refine bodyPost_ret (v:=.tuple #[.agg #[.int .i64 0,.string ⟨#[]⟩,.int .i64 0,.slice none 0 0],flawV z.1 z.2]) (by simp[results,Tryz.results214,go_sem,c0,c1,c2,c3,hlt2]) rfl ?_
  exact TmR.bad Hq.out ((Gf.out.set4 (Nat.le_refl _) _ _ _ _).alloc _)
 | ok y=>
  obtain⟨x0,q0⟩:=y
  have Hq0:Hid (productCQ q=timesP x0 q0):=hid (by unfold productCQ;rw[hp])
  have Hp:=hid hp
  have hqq:q0.length≤n:=Nat.le_trans (Nat.le_of_lt (productC_less hp)) hqn
  clear hp
  go_enter Tryz.func214,Tryz.ntmps214
  go_wp2_with fail
  rw[HW1.out]
  refine HP.out.mono ?_
  rintro e w2 ⟨hm,g⟩
  rw[Hp.out] at hm
  obtain⟨o,cap,rfl,t2,r2⟩:=hm
  obtain⟨W3,hW3⟩:∃ W3,w2.alloc (.cells #[.int .i64 x0.op,.string x0.s,.int .i64 x0.n,.slice o x0.l.length cap] 64)=W3:=⟨_,rfl⟩
  have hb3:Below w2.heap.size w2 W3:=by rw[← hW3];exact HB0.out w2 _
  have hr3:Row w2.heap.size 64 (tmCells x0 o cap) W3:=by rw[← hW3];exact Row.new w2 _ _
  have hn2:w.heap.size < w2.heap.size:=by have:=g.size;have:=Hr1.out.lt;omega
  have Hr2:=hid ((Hr1.out.gr g (by omega)).below hb3 hn2)
  have Hx3:=hid hr3
  have R3:=hid (r2.below hb3)
  have G3:=hid (((Gr.of_below Hb1.out).trans g).trans (Gr.of_below hb3))
  have T3:Hid (TmC (past (w.heap.size+1) (hide w2.heap.size W3)) W3.heap.size x0 (tmCells x0 o cap)):=hid (by
   have:=tm_hidden ((t2.vis (Vis.gr (Gr.of_below (R:=C.R) hb3) (by have:=Hs1.out;omega)))) (Nat.le_refl _)
   rw[Hs1.out] at this
   exact this.more hb3.size)
  have HW3:=hid hW3
  have hB8:w.heap.size < w2.heap.size:=hn2
  obtain⟨n8,hn8⟩:∃ n8,w2.heap.size=n8:=⟨_,rfl⟩
  rw[hn8] at hB8 hn2
  have Hx3:=hid (show Row n8 _ _ W3 by rw[← hn8];exact Hx3.out)
  have T3:=hid (show TmC (past (w.heap.size+1) (hide n8 W3)) _ _ _ by rw[← hn8];exact T3.out)
  have Hn8:=hid hn8
  clear g t2 r2 hW3 hb3 hr3 hn8
  go_wp2_with fail
  rw[HW3.out,Hn8.out]
  go_loopg [] q0.length (fun k wr=>∃ (x:Tm) (qk:List TokI) (o:Option Addr) (cap:Nat),Row n8 64 (tmCells x o cap) wr∧Row w.heap.size 64 zeroCells wr∧TmC (past (w.heap.size+1) (hide n8 wr)) wr.heap.size x (tmCells x o cap) ∧
   Rd C du ru qk wr∧Gr C.R w wr∧timesP x qk=timesP x0 q0∧qk.length≤n∧qk.length≤k)
  case atStart=>exact⟨x0,q0,o,cap,Hx3.out,Hr2.out,T3.out,R3.out,G3.out,rfl,hqq,Nat.le_refl _⟩
  case round=>
   obtain⟨x,qk,o',cap',hx,hr,tx,rx,gx,he,hln,hlk⟩:=hrel
   obtain⟨T,hT⟩:∃ T,hdT qk=T:=⟨_,rfl⟩
   have hTl:T.line=lineL qk:=by rw[← hT];exact line_hd qk
   have HH:=hid (here_c C du ru qk wr rx)
   rw[hT] at HH
   have Hx:=hid hx
   have Hr:=hid hr
   have Tx:=hid tx
   have Rx:=hid rx
   have Gx:=hid gx
   have He:=hid he
   have HT:=hid hT
   have HTl:=hid hTl
   have hnx:n8 < wr.heap.size:=hx.lt
   clear hx hr tx rx gx he hT hTl HP
   by_cases hop:opMul T=0
   ·have Hop:=hid hop
    have Hel:Hid (timesP x qk=.ok (x,qk)):=hid (productC_else x (by rw[HT.out];exact hop))
    clear hop
    go_wp2_with fail
    refine HH.out.mono ?_
    rintro e w4 ⟨rfl,b4⟩
    obtain⟨W5,hW5⟩:∃ W5,w4.alloc (.cells #[.int .i64 T.kind,.string T.s,.int .i64 T.line] 89)=W5:=⟨_,rfl⟩
    have B5:=hid (show Below wr.heap.size wr W5 by rw[← hW5];exact b4.trans ((HB0.out w4 _).mono b4.size))
    have HW5:=hid hW5
    clear hW5 b4
    go_wp2_with fail
    rw[HW5.out]
    refine (productSign_c T W5).mono ?_
    rintro e w6 ⟨rfl,b6⟩
    rw[Hop.out]
    have B6:=hid (B5.out.trans (b6.mono B5.out.size))
    obtain⟨d0,d1,d2,d3,e3⟩:=(Hx.out.below B6.out hnx).r4
    have hr6:=Hr.out.below B6.out Hr.out.lt
    have hlt6:=hr6.lt
    obtain⟨c0,c1,c2,c3,f3⟩:=hr6.r4
    have R6:=hid (Rx.out.below B6.out)
    have G6:=hid (Gx.out.trans (Gr.of_below B6.out))
    have T6:Hid (TmC (past (w.heap.size+1) w6) w6.heap.size x (tmCells x o' cap')):=hid ((Tx.out.vis ((visHide _ _ _).trans (Vis.gr (Gr.of_below (R:=C.R) B6.out) (by omega)))).more B6.out.size)
    clear b6 hr6
    go_wp2
    refine bodyPost_ret (v:=.tuple #[.agg #[.int .i64 x.op,.string x.s,.int .i64 x.n,.slice o' x.l.length cap'],.nilIface]) (by simp[results,Tryz.results214,go_sem,c0,c1,c2,c3]) rfl ?_
    exact TmR.ok (Hq0.out.trans (He.out.symm.trans Hel.out)) rfl rfl rfl rfl (((T6.out.set4 (Nat.lt_succ_self _) _ _ _ _).lower (Nat.le_succ _)).more (Nat.le_of_eq (set4_size _ _ _ _ _ _).symm)) (R6.out.set4 hltR _ _ _ _) (G6.out.set4 (Nat.le_refl _) _ _ _ _)
   ·obtain⟨hne,hi,hsg⟩:=productC_sign x (q:=qk) (by rw[HT.out];exact hop)
    rw[HT.out] at hi hsg
    have Hne:=hid hne
    have Hsg:=hid hsg
    have hlt1:qk.tail.length < qk.length:=by rw[List.length_tail];have:=List.length_pos_iff.2 hne;omega
    obtain⟨hi1,hi2⟩:=hi
    have hop1:(opMul T == 0)=false:=by simpa using hop
    have Hop:=hid hop
    obtain⟨OP,hOP⟩:∃ OP,opMul T=OP:=⟨_,rfl⟩
    rw[hOP] at hop1 hi1 hi2
    have HOP:=hid hOP
    clear hne hsg hop hOP
    go_wp2_with fail
    refine HH.out.mono ?_
    rintro e w4 ⟨rfl,b4⟩
    obtain⟨W5,hW5⟩:∃ W5,w4.alloc (.cells #[.int .i64 T.kind,.string T.s,.int .i64 T.line] 89)=W5:=⟨_,rfl⟩
    have hb5:Below w4.heap.size w4 W5:=by rw[← hW5];exact HB0.out w4 _
    have B5:=hid (b4.trans (hb5.mono b4.size))
    have Ht5:Hid (Row w4.heap.size 89 [.int .i64 T.kind,.string T.s,.int .i64 T.line] W5):=hid (by rw[← hW5];exact Row.new w4 _ _)
    have hn4:n8 < w4.heap.size:=Nat.lt_of_lt_of_le hnx b4.size
    have HW5:=hid hW5
    clear hW5 b4 hb5
    go_wp2_with fail
    rw[HW5.out]
    refine (productSign_c T W5).mono ?_
    rintro e w6 ⟨rfl,b6⟩
    rw[HOP.out]
    have B6:=hid (B5.out.trans (b6.mono B5.out.size))
    have Ht6:=hid (Ht5.out.below b6 Ht5.out.lt)
    have Hx6:=hid (Hx.out.below B6.out hnx)
    have Hr6:=hid (Hr.out.below B6.out Hr.out.lt)
    clear b6
    go_wp2_with fail
    refine (step_c C du ru qk Hne.out w6 (Rx.out.below B6.out)).mono ?_
    rintro e w7 ⟨rfl,r7,g7⟩
    have R7:=hid r7
    have G7:=hid ((Gr.of_below (R:=C.R) B6.out).trans g7)
    have Ht7:=hid (Ht6.out.gr g7 (by omega))
    have Hx7:=hid (Hx6.out.gr g7 (by omega))
    have Hr7:=hid (Hr6.out.gr g7 (by omega))
    clear r7 g7
    go_wp2_with fail
    refine (HIH.out qk.tail (by omega) C du ru w7 R7.out).mono ?_
    rintro e w8 ⟨hm,g8⟩
    have Hx8:=hid (Hx7.out.gr g8 (by omega))
    have Hr8:=hid (Hr7.out.gr g8 (by omega))
    have Ht8:=hid (Ht7.out.gr g8 (by omega))
    have G8:=hid (G7.out.trans g8)
    have hs8:n8 < w8.heap.size:=Hx8.out.lt
    have hs84:w4.heap.size < w8.heap.size:=Ht8.out.lt
    have hs7:n8 < w7.heap.size:=Hx7.out.lt
    cases hp:thingP qk.tail with
    | error z=>
     rw[hp] at hm
     obtain rfl:=hm
     have He2:Hid (timesP x qk=.error (z.1,z.2)):=hid (by rw[Hsg.out,hp])
     obtain⟨c0,c1,c2,c3,f3⟩:=Hr8.out.r4
     have hlt8:=Hr8.out.lt
     clear hp g8
     go_wp2
     refine bodyPost_ret (v:=.tuple #[.agg #[.int .i64 0,.string ⟨#[]⟩,.int .i64 0,.slice none 0 0],flawV z.1 z.2]) (by simp[results,Tryz.results214,go_sem,c0,c1,c2,c3,hlt8]) rfl ?_
     exact TmR.bad (Hq0.out.trans (He.out.symm.trans He2.out)) (((Gx.out.trans G8.out).set4 (Nat.le_refl _) _ _ _ _).alloc _)
    | ok yy=>
     obtain⟨y,p⟩:=yy
     rw[hp] at hm
     obtain⟨oy,ky,rfl,ty,ry⟩:=hm
     have He2:Hid (timesP x qk=if x.op=3∨y.op=3 then .error (40,lineL qk) else timesP (.mk OP ⟨#[]⟩ 0 [x,y]) p):=hid (by rw[Hsg.out,hp,HOP.out])
     have hpl:p.length < qk.tail.length:=productC_less hp
     obtain⟨d0,d1,d2,d3,e3⟩:=Hx8.out.r4
     have Ty:=hid ty
     have Ry:=hid ry
     have hlen8:w7.heap.size≤w8.heap.size:=g8.size
     clear hp g8 ty ry
     have bad:∀ (hb:x.op=3∨y.op=3),productCQ q=.error (40,T.line):=fun hb=>by
      rw[Hq0.out,← He.out,He2.out,if_pos hb,HTl.out]
     have Hbad:=hid bad
     clear bad
     by_cases hb:x.op=3∨y.op=3
     ·have Hq:=hid (Hbad.out hb)
      obtain⟨c0,c1,c2,c3,f3⟩:=Hr8.out.r4
      have hlt8:=Hr8.out.lt
      obtain⟨W9,hW9⟩:∃ W9,w8.alloc (.cells #[.int .i64 y.op,.string y.s,.int .i64 y.n,.slice oy y.l.length ky] 64)=W9:=⟨_,rfl⟩
      have HW9:=hid hW9
      have hb9:Below w8.heap.size w8 W9:=by rw[← hW9];exact HB0.out w8 _
      have G9:=hid ((Gx.out.trans G8.out).trans (Gr.of_below hb9))
      have Hr9:=hid (Hr8.out.below hb9 hlt8)
      have t3:=Ht8.out.r3
      obtain⟨s0,s1,s2,s3⟩:=t3
      clear hW9 hb9
      by_cases hx3:x.op=3
      ·have hx3':(x.op == 3)=true:=by simpa using hx3
       have Hx3e:=hid hx3
       clear hb hx3
       go_wp2_with fail
       rw[HW9.out]
       refine (faultAt_c T 40 W9).mono ?_
       rintro e w10 ⟨rfl,b10⟩
       have Gf:=hid (G9.out.trans (Gr.of_below b10))
       have hr10:=Hr9.out.below b10 Hr9.out.lt
       clear c0 c1 c2 c3 f3
       obtain⟨c0,c1,c2,c3,f3⟩:=hr10.r4
       clear b10 hr10
       go_wp2
       refine bodyPost_ret (v:=.tuple #[.agg #[.int .i64 0,.string ⟨#[]⟩,.int .i64 0,.slice none 0 0],flawV 40 T.line]) (by simp[results,Tryz.results214,go_sem,c0,c1,c2,c3]) rfl ?_
       exact TmR.bad Hq.out (Gf.out.set4 (Nat.le_refl _) _ _ _ _)
      ·have hy3:y.op=3:=hb.resolve_left hx3
       have hx3':(x.op == 3)=false:=by simpa using hx3
       have hy3':(y.op == 3)=true:=by simpa using hy3
       have Hx3e:=hid hx3
       have Hy3e:=hid hy3
       clear hb hx3 hy3
       go_wp2_with fail
       rw[HW9.out]
       refine (faultAt_c T 40 W9).mono ?_
       rintro e w10 ⟨rfl,b10⟩
       have Gf:=hid (G9.out.trans (Gr.of_below b10))
       have hr10:=Hr9.out.below b10 Hr9.out.lt
       clear c0 c1 c2 c3 f3
       obtain⟨c0,c1,c2,c3,f3⟩:=hr10.r4
       clear b10 hr10
       go_wp2
       refine bodyPost_ret (v:=.tuple #[.agg #[.int .i64 0,.string ⟨#[]⟩,.int .i64 0,.slice none 0 0],flawV 40 T.line]) (by simp[results,Tryz.results214,go_sem,c0,c1,c2,c3]) rfl ?_
       exact TmR.bad Hq.out (Gf.out.set4 (Nat.le_refl _) _ _ _ _)
     ·have hx3':(x.op == 3)=false:=by simpa using fun e=>hb (.inl e)
      have hy3':(y.op == 3)=false:=by simpa using fun e=>hb (.inr e)
      have He3:Hid (timesP (.mk OP ⟨#[]⟩ 0 [x,y]) p=timesP x0 q0):=hid (by rw[← He.out,He2.out,if_neg hb])
      clear hb
      go_wp2
      go_roundg p.length
      case measure=>omega
      case rel=>exact⟨_,p,_,_,(chain_rel hltR hB8 hs7 Hx8.out Hr8.out Tx.out Ty.out hi1 hi2 G8.out).1,(chain_rel hltR hB8 hs7 Hx8.out Hr8.out Tx.out Ty.out hi1 hi2 G8.out).2.1,(chain_rel hltR hB8 hs7 Hx8.out Hr8.out Tx.out Ty.out hi1 hi2 G8.out).2.2,((Ry.out.set4 (by omega) _ _ _ _).alloc _).alloc _,(((Gx.out.trans G8.out).set4 (by omega) _ _ _ _).alloc _).alloc _,He3.out,by omega,Nat.le_refl _⟩
theorem sumC_sign (x:Tm) {q:List TokI} (h:opSum (hdT q)≠0):q≠[]∧I64 (opSum (hdT q))∧plusP x q =
  match productP q.tail with
  | .error e=>.error e
  | .ok (y,p)=>if x.op=3∨y.op=3 then .error (40,lineL q) else plusP (.mk (opSum (hdT q)) ⟨#[]⟩ 0 [x,y]) p:=by
 cases q with
 | nil=>exact absurd (by decide) h
 | cons t r=>
  have key:tokB 4 [43] t=true∨tokB 4 [45] t=true:=by
   cases hb:tokB 4 [43] t with
   | true=>exact .inl rfl
   | false=>
    cases hc:tokB 4 [45] t with
    | true=>exact .inr rfl
    | false=>exact absurd (show opSum t=0 by unfold opSum;rw[hb,hc];rfl) h
  have ho:opSum (hdT (t::r))=if tokB 4 [45] t=true then 6 else 5:=by
   show opSum t=_
   unfold opSum
   cases hb:tokB 4 [43] t with
   | true=>
    have:tokB 4 [45] t=false:=by
     unfold tokB at hb ⊢
     rw[Bool.and_eq_true] at hb
     have:t.s.data.toList=[43]:=by simpa using hb.2
     rw[this]
     simp
    rw[this]
    rfl
   | false=>rw[(key.resolve_left (by rw[hb];decide))];rfl
  refine⟨by simp,by rw[ho];split <;> (unfold I64;decide),?_⟩
  rw[plusP_sign x r key,ho]
  rfl
def sumCQ (q:List TokI):Res Tm:=
 match productP q with
 | .error e=>.error e
 | .ok (x,p)=>plusP x p
set_option maxRecDepth 100000 in
set_option maxHeartbeats 16000000 in
theorem sumC_c (n:Nat) (IH:∀ q,q.length≤n→TmF 215 productP q) (q:List TokI) (hqn:q.length≤n) (C:RC) (du ru:Value) (w:World) (h:Rd C du ru q w) :
  Calls Tryz.prog 214 #[.pointer (some ⟨C.R,0,none⟩),.func (.func 215) #[.pointer (some ⟨C.R,0,none⟩)] #[],.func (.func 216) #[] #[]] w (TmR C du ru (sumCQ q) w):=by
 have hltR:=h.lt
 have HB0:Hid (∀ (W:World) (x:Obj),Below W.heap.size W (W.alloc x)):=hid fun W x=>(Below.refl _ _).alloc (Nat.le_refl _) _
 obtain⟨W1,hW1⟩:∃ W1,w.alloc (.cells #[.int .i64 0,.string ⟨#[]⟩,.int .i64 0,.slice none 0 0] 64)=W1:=⟨_,rfl⟩
 have hb1:Below w.heap.size w W1:=by rw[← hW1];exact HB0.out w _
 have hs1:W1.heap.size=w.heap.size+1:=by rw[← hW1];simp
 have hr1:Row w.heap.size 64 zeroCells W1:=by rw[← hW1];exact Row.new w _ _
 have HP:=hid (IH q hqn C du ru W1 (h.below hb1))
 have HIH:=hid IH
 have HW1:=hid hW1
 have Hs1:=hid hs1
 have Hb1:=hid hb1
 have Hr1:=hid hr1
 clear h hW1 hb1 hr1 hs1 IH
 cases hp:productP q with
 | error z=>
  have Hq:Hid (sumCQ q=.error (z.1,z.2)):=hid (by unfold sumCQ;rw[hp])
  have Hp:=hid hp
  clear hp
  go_enter Tryz.func214,Tryz.ntmps214
  go_wp2_with fail
  rw[HW1.out]
  refine HP.out.mono ?_
  rintro e w2 ⟨hm,g⟩
  rw[Hp.out] at hm
  obtain rfl:=hm
  have hrt:=Hr1.out.gr g (by omega)
  have hlt2:=hrt.lt
  obtain⟨c0,c1,c2,c3,f3⟩:=hrt.r4
  have Gf:=hid ((Gr.of_below Hb1.out).trans g)
  clear g hrt
  go_wp2
  refine bodyPost_ret (v:=.tuple #[.agg #[.int .i64 0,.string ⟨#[]⟩,.int .i64 0,.slice none 0 0],flawV z.1 z.2]) (by simp[results,Tryz.results214,go_sem,c0,c1,c2,c3,hlt2]) rfl ?_
  exact TmR.bad Hq.out ((Gf.out.set4 (Nat.le_refl _) _ _ _ _).alloc _)
 | ok y=>
  obtain⟨x0,q0⟩:=y
  have Hq0:Hid (sumCQ q=plusP x0 q0):=hid (by unfold sumCQ;rw[hp])
  have Hp:=hid hp
  have hqq:q0.length≤n:=Nat.le_trans (Nat.le_of_lt (sumC_less hp)) hqn
  clear hp
  go_enter Tryz.func214,Tryz.ntmps214
  go_wp2_with fail
  rw[HW1.out]
  refine HP.out.mono ?_
  rintro e w2 ⟨hm,g⟩
  rw[Hp.out] at hm
  obtain⟨o,cap,rfl,t2,r2⟩:=hm
  obtain⟨W3,hW3⟩:∃ W3,w2.alloc (.cells #[.int .i64 x0.op,.string x0.s,.int .i64 x0.n,.slice o x0.l.length cap] 64)=W3:=⟨_,rfl⟩
  have hb3:Below w2.heap.size w2 W3:=by rw[← hW3];exact HB0.out w2 _
  have hr3:Row w2.heap.size 64 (tmCells x0 o cap) W3:=by rw[← hW3];exact Row.new w2 _ _
  have hn2:w.heap.size < w2.heap.size:=by have:=g.size;have:=Hr1.out.lt;omega
  have Hr2:=hid ((Hr1.out.gr g (by omega)).below hb3 hn2)
  have Hx3:=hid hr3
  have R3:=hid (r2.below hb3)
  have G3:=hid (((Gr.of_below Hb1.out).trans g).trans (Gr.of_below hb3))
  have T3:Hid (TmC (past (w.heap.size+1) (hide w2.heap.size W3)) W3.heap.size x0 (tmCells x0 o cap)):=hid (by
   have:=tm_hidden ((t2.vis (Vis.gr (Gr.of_below (R:=C.R) hb3) (by have:=Hs1.out;omega)))) (Nat.le_refl _)
   rw[Hs1.out] at this
   exact this.more hb3.size)
  have HW3:=hid hW3
  have hB8:w.heap.size < w2.heap.size:=hn2
  obtain⟨n8,hn8⟩:∃ n8,w2.heap.size=n8:=⟨_,rfl⟩
  rw[hn8] at hB8 hn2
  have Hx3:=hid (show Row n8 _ _ W3 by rw[← hn8];exact Hx3.out)
  have T3:=hid (show TmC (past (w.heap.size+1) (hide n8 W3)) _ _ _ by rw[← hn8];exact T3.out)
  have Hn8:=hid hn8
  clear g t2 r2 hW3 hb3 hr3 hn8
  go_wp2_with fail
  rw[HW3.out,Hn8.out]
  go_loopg [] q0.length (fun k wr=>∃ (x:Tm) (qk:List TokI) (o:Option Addr) (cap:Nat),Row n8 64 (tmCells x o cap) wr∧Row w.heap.size 64 zeroCells wr∧TmC (past (w.heap.size+1) (hide n8 wr)) wr.heap.size x (tmCells x o cap) ∧
   Rd C du ru qk wr∧Gr C.R w wr∧plusP x qk=plusP x0 q0∧qk.length≤n∧qk.length≤k)
  case atStart=>exact⟨x0,q0,o,cap,Hx3.out,Hr2.out,T3.out,R3.out,G3.out,rfl,hqq,Nat.le_refl _⟩
  case round=>
   obtain⟨x,qk,o',cap',hx,hr,tx,rx,gx,he,hln,hlk⟩:=hrel
   obtain⟨T,hT⟩:∃ T,hdT qk=T:=⟨_,rfl⟩
   have hTl:T.line=lineL qk:=by rw[← hT];exact line_hd qk
   have HH:=hid (here_c C du ru qk wr rx)
   rw[hT] at HH
   have Hx:=hid hx
   have Hr:=hid hr
   have Tx:=hid tx
   have Rx:=hid rx
   have Gx:=hid gx
   have He:=hid he
   have HT:=hid hT
   have HTl:=hid hTl
   have hnx:n8 < wr.heap.size:=hx.lt
   clear hx hr tx rx gx he hT hTl HP
   by_cases hop:opSum T=0
   ·have Hop:=hid hop
    have Hel:Hid (plusP x qk=.ok (x,qk)):=hid (sumC_else x (by rw[HT.out];exact hop))
    clear hop
    go_wp2_with fail
    refine HH.out.mono ?_
    rintro e w4 ⟨rfl,b4⟩
    obtain⟨W5,hW5⟩:∃ W5,w4.alloc (.cells #[.int .i64 T.kind,.string T.s,.int .i64 T.line] 89)=W5:=⟨_,rfl⟩
    have B5:=hid (show Below wr.heap.size wr W5 by rw[← hW5];exact b4.trans ((HB0.out w4 _).mono b4.size))
    have HW5:=hid hW5
    clear hW5 b4
    go_wp2_with fail
    rw[HW5.out]
    refine (sumSign_c T W5).mono ?_
    rintro e w6 ⟨rfl,b6⟩
    rw[Hop.out]
    have B6:=hid (B5.out.trans (b6.mono B5.out.size))
    obtain⟨d0,d1,d2,d3,e3⟩:=(Hx.out.below B6.out hnx).r4
    have hr6:=Hr.out.below B6.out Hr.out.lt
    have hlt6:=hr6.lt
    obtain⟨c0,c1,c2,c3,f3⟩:=hr6.r4
    have R6:=hid (Rx.out.below B6.out)
    have G6:=hid (Gx.out.trans (Gr.of_below B6.out))
    have T6:Hid (TmC (past (w.heap.size+1) w6) w6.heap.size x (tmCells x o' cap')):=hid ((Tx.out.vis ((visHide _ _ _).trans (Vis.gr (Gr.of_below (R:=C.R) B6.out) (by omega)))).more B6.out.size)
    clear b6 hr6
    go_wp2
    refine bodyPost_ret (v:=.tuple #[.agg #[.int .i64 x.op,.string x.s,.int .i64 x.n,.slice o' x.l.length cap'],.nilIface]) (by simp[results,Tryz.results214,go_sem,c0,c1,c2,c3]) rfl ?_
    exact TmR.ok (Hq0.out.trans (He.out.symm.trans Hel.out)) rfl rfl rfl rfl (((T6.out.set4 (Nat.lt_succ_self _) _ _ _ _).lower (Nat.le_succ _)).more (Nat.le_of_eq (set4_size _ _ _ _ _ _).symm)) (R6.out.set4 hltR _ _ _ _) (G6.out.set4 (Nat.le_refl _) _ _ _ _)
   ·obtain⟨hne,hi,hsg⟩:=sumC_sign x (q:=qk) (by rw[HT.out];exact hop)
    rw[HT.out] at hi hsg
    have Hne:=hid hne
    have Hsg:=hid hsg
    have hlt1:qk.tail.length < qk.length:=by rw[List.length_tail];have:=List.length_pos_iff.2 hne;omega
    obtain⟨hi1,hi2⟩:=hi
    have hop1:(opSum T == 0)=false:=by simpa using hop
    have Hop:=hid hop
    obtain⟨OP,hOP⟩:∃ OP,opSum T=OP:=⟨_,rfl⟩
    rw[hOP] at hop1 hi1 hi2
    have HOP:=hid hOP
    clear hne hsg hop hOP
    go_wp2_with fail
    refine HH.out.mono ?_
    rintro e w4 ⟨rfl,b4⟩
    obtain⟨W5,hW5⟩:∃ W5,w4.alloc (.cells #[.int .i64 T.kind,.string T.s,.int .i64 T.line] 89)=W5:=⟨_,rfl⟩
    have hb5:Below w4.heap.size w4 W5:=by rw[← hW5];exact HB0.out w4 _
    have B5:=hid (b4.trans (hb5.mono b4.size))
    have Ht5:Hid (Row w4.heap.size 89 [.int .i64 T.kind,.string T.s,.int .i64 T.line] W5):=hid (by rw[← hW5];exact Row.new w4 _ _)
    have hn4:n8 < w4.heap.size:=Nat.lt_of_lt_of_le hnx b4.size
    have HW5:=hid hW5
    clear hW5 b4 hb5
    go_wp2_with fail
    rw[HW5.out]
    refine (sumSign_c T W5).mono ?_
    rintro e w6 ⟨rfl,b6⟩
    rw[HOP.out]
    have B6:=hid (B5.out.trans (b6.mono B5.out.size))
    have Ht6:=hid (Ht5.out.below b6 Ht5.out.lt)
    have Hx6:=hid (Hx.out.below B6.out hnx)
    have Hr6:=hid (Hr.out.below B6.out Hr.out.lt)
    clear b6
    go_wp2_with fail
    refine (step_c C du ru qk Hne.out w6 (Rx.out.below B6.out)).mono ?_
    rintro e w7 ⟨rfl,r7,g7⟩
    have R7:=hid r7
    have G7:=hid ((Gr.of_below (R:=C.R) B6.out).trans g7)
    have Ht7:=hid (Ht6.out.gr g7 (by omega))
    have Hx7:=hid (Hx6.out.gr g7 (by omega))
    have Hr7:=hid (Hr6.out.gr g7 (by omega))
    clear r7 g7
    go_wp2_with fail
    refine (HIH.out qk.tail (by omega) C du ru w7 R7.out).mono ?_
    rintro e w8 ⟨hm,g8⟩
    have Hx8:=hid (Hx7.out.gr g8 (by omega))
    have Hr8:=hid (Hr7.out.gr g8 (by omega))
    have Ht8:=hid (Ht7.out.gr g8 (by omega))
    have G8:=hid (G7.out.trans g8)
    have hs8:n8 < w8.heap.size:=Hx8.out.lt
    have hs84:w4.heap.size < w8.heap.size:=Ht8.out.lt
    have hs7:n8 < w7.heap.size:=Hx7.out.lt
    cases hp:productP qk.tail with
    | error z=>
     rw[hp] at hm
     obtain rfl:=hm
     have He2:Hid (plusP x qk=.error (z.1,z.2)):=hid (by rw[Hsg.out,hp])
     obtain⟨c0,c1,c2,c3,f3⟩:=Hr8.out.r4
     have hlt8:=Hr8.out.lt
     clear hp g8
     go_wp2
     refine bodyPost_ret (v:=.tuple #[.agg #[.int .i64 0,.string ⟨#[]⟩,.int .i64 0,.slice none 0 0],flawV z.1 z.2]) (by simp[results,Tryz.results214,go_sem,c0,c1,c2,c3,hlt8]) rfl ?_
     exact TmR.bad (Hq0.out.trans (He.out.symm.trans He2.out)) (((Gx.out.trans G8.out).set4 (Nat.le_refl _) _ _ _ _).alloc _)
    | ok yy=>
     obtain⟨y,p⟩:=yy
     rw[hp] at hm
     obtain⟨oy,ky,rfl,ty,ry⟩:=hm
     have He2:Hid (plusP x qk=if x.op=3∨y.op=3 then .error (40,lineL qk) else plusP (.mk OP ⟨#[]⟩ 0 [x,y]) p):=hid (by rw[Hsg.out,hp,HOP.out])
     have hpl:p.length < qk.tail.length:=sumC_less hp
     obtain⟨d0,d1,d2,d3,e3⟩:=Hx8.out.r4
     have Ty:=hid ty
     have Ry:=hid ry
     have hlen8:w7.heap.size≤w8.heap.size:=g8.size
     clear hp g8 ty ry
     have bad:∀ (hb:x.op=3∨y.op=3),sumCQ q=.error (40,T.line):=fun hb=>by
      rw[Hq0.out,← He.out,He2.out,if_pos hb,HTl.out]
     have Hbad:=hid bad
     clear bad
     by_cases hb:x.op=3∨y.op=3
     ·have Hq:=hid (Hbad.out hb)
      obtain⟨c0,c1,c2,c3,f3⟩:=Hr8.out.r4
      have hlt8:=Hr8.out.lt
      obtain⟨W9,hW9⟩:∃ W9,w8.alloc (.cells #[.int .i64 y.op,.string y.s,.int .i64 y.n,.slice oy y.l.length ky] 64)=W9:=⟨_,rfl⟩
      have HW9:=hid hW9
      have hb9:Below w8.heap.size w8 W9:=by rw[← hW9];exact HB0.out w8 _
      have G9:=hid ((Gx.out.trans G8.out).trans (Gr.of_below hb9))
      have Hr9:=hid (Hr8.out.below hb9 hlt8)
      have t3:=Ht8.out.r3
      obtain⟨s0,s1,s2,s3⟩:=t3
      clear hW9 hb9
      by_cases hx3:x.op=3
      ·have hx3':(x.op == 3)=true:=by simpa using hx3
       have Hx3e:=hid hx3
       clear hb hx3
       go_wp2_with fail
       rw[HW9.out]
       refine (faultAt_c T 40 W9).mono ?_
       rintro e w10 ⟨rfl,b10⟩
       have Gf:=hid (G9.out.trans (Gr.of_below b10))
       have hr10:=Hr9.out.below b10 Hr9.out.lt
       clear c0 c1 c2 c3 f3
       obtain⟨c0,c1,c2,c3,f3⟩:=hr10.r4
       clear b10 hr10
       go_wp2
       refine bodyPost_ret (v:=.tuple #[.agg #[.int .i64 0,.string ⟨#[]⟩,.int .i64 0,.slice none 0 0],flawV 40 T.line]) (by simp[results,Tryz.results214,go_sem,c0,c1,c2,c3]) rfl ?_
       exact TmR.bad Hq.out (Gf.out.set4 (Nat.le_refl _) _ _ _ _)
      ·have hy3:y.op=3:=hb.resolve_left hx3
       have hx3':(x.op == 3)=false:=by simpa using hx3
       have hy3':(y.op == 3)=true:=by simpa using hy3
       have Hx3e:=hid hx3
       have Hy3e:=hid hy3
       clear hb hx3 hy3
       go_wp2_with fail
       rw[HW9.out]
       refine (faultAt_c T 40 W9).mono ?_
       rintro e w10 ⟨rfl,b10⟩
       have Gf:=hid (G9.out.trans (Gr.of_below b10))
       have hr10:=Hr9.out.below b10 Hr9.out.lt
       clear c0 c1 c2 c3 f3
       obtain⟨c0,c1,c2,c3,f3⟩:=hr10.r4
       clear b10 hr10
       go_wp2
       refine bodyPost_ret (v:=.tuple #[.agg #[.int .i64 0,.string ⟨#[]⟩,.int .i64 0,.slice none 0 0],flawV 40 T.line]) (by simp[results,Tryz.results214,go_sem,c0,c1,c2,c3]) rfl ?_
       exact TmR.bad Hq.out (Gf.out.set4 (Nat.le_refl _) _ _ _ _)
     ·have hx3':(x.op == 3)=false:=by simpa using fun e=>hb (.inl e)
      have hy3':(y.op == 3)=false:=by simpa using fun e=>hb (.inr e)
      have He3:Hid (plusP (.mk OP ⟨#[]⟩ 0 [x,y]) p=plusP x0 q0):=hid (by rw[← He.out,He2.out,if_neg hb])
      clear hb
      go_wp2
      go_roundg p.length
      case measure=>omega
      case rel=>exact⟨_,p,_,_,(chain_rel hltR hB8 hs7 Hx8.out Hr8.out Tx.out Ty.out hi1 hi2 G8.out).1,(chain_rel hltR hB8 hs7 Hx8.out Hr8.out Tx.out Ty.out hi1 hi2 G8.out).2.1,(chain_rel hltR hB8 hs7 Hx8.out Hr8.out Tx.out Ty.out hi1 hi2 G8.out).2.2,((Ry.out.set4 (by omega) _ _ _ _).alloc _).alloc _,(((Gx.out.trans G8.out).set4 (by omega) _ _ _ _).alloc _).alloc _,He3.out,by omega,Nat.le_refl _⟩
end Go.Proofs.YtdgbajnhhhjbcaaGreatDoor
