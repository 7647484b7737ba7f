/- Rl8@012 -/
import Derived.Test.YtdgbajnhhhjbcaaGreatDoorQ38
set_option linter.unusedSimpArgs false
namespace Go.Proofs.YtdgbajnhhhjbcaaGreatDoor
open Lib(hid)
open Go.RowKit
theorem rest_no {x:Tm} {q:List TokI} (h:holdB (hdT q)=false):restQ x q=.error (40,lineL q):=by
 cases q with
 | nil=>rfl
 | cons t r=>
  have h2:(if t.kind=4 then signP t.s.data.toList else none)=none:=by
   unfold holdB at h
   rw[show hdT (t::r)=t from rfl] at h
   by_cases hk:t.kind=4
   ·rw[if_pos hk]
    rw[show (t.kind == 4)=true by simpa using hk,Bool.and_true] at h
    simpa using h
   ·rw[if_neg hk]
  show (match (if t.kind=4 then signP t.s.data.toList else none) with | none=>_ | some (op,turn)=>_)=_
  rw[h2]
  rfl
theorem rest_yes {x:Tm} {q:List TokI} (h:holdB (hdT q)=true):q≠[]∧∃ op turn,signP (hdT q).s.data.toList=some (op,turn)∧restQ x q =
  if howQ q.tail≠0∧(hdT q).s.data.toList=[61]∧(x.op=1∨x.op=2) then aggQ (howQ q.tail) x q.tail.tail
   else match exprP q.tail with
    | .error e=>.error e
    | .ok (y,p)=>.ok (⟨op,noAm,if turn=true then y else x,if turn=true then x else y⟩,p):=by
 cases q with
 | nil=>exact absurd h (by decide)
 | cons t r=>
  refine⟨by simp,?_⟩
  unfold holdB at h
  rw[show hdT (t::r)=t from rfl] at h ⊢
  obtain⟨h1,h2⟩:=Bool.and_eq_true_iff.1 h
  obtain⟨⟨op,turn⟩,ho⟩:=Option.isSome_iff_exists.1 h1
  refine⟨op,turn,ho,?_⟩
  have hk:t.kind=4:=by simpa using h2
  show (match (if t.kind=4 then signP t.s.data.toList else none) with | none=>_ | some (op,turn)=>_)=_
  rw[if_pos hk,ho]
  rfl
theorem howT_ne {T N:TokI}:I64 (howT T N):=by
 unfold howT I64
 repeat' split
 all_goals decide
theorem sign_I64 {l:List UInt8} {op:Int} {turn:Bool} (h:signP l=some (op,turn)):I64 op:=by
 unfold signP at h
 unfold I64
 repeat' split at h
 all_goals first | (obtain⟨rfl,_⟩:=Prod.mk.inj (Option.some.inj h);decide) | cases h
theorem how_ne {q:List TokI} (h:howQ q≠0):q≠[]:=by
 rintro rfl
 exact h rfl
set_option maxRecDepth 100000 in
set_option maxHeartbeats 16000000 in
theorem held_c (C:RC) (du ru:Value) (q:List TokI) (w:World) (h:Rd C du ru q w) :
  Calls Tryz.prog 165 #[.pointer (some ⟨C.R,0,none⟩)] w (LtR C du ru (heldQ q) w):=by
 have hltR:=h.lt
 have HB0:Hid (∀ (W:World) (x:Obj),Below W.heap.size W (W.alloc x)):=hid fun W x=>(Below.refl _ _).alloc (Nat.le_refl _) _
 obtain⟨n0,hn0⟩:∃ n0,w.heap.size=n0:=⟨_,rfl⟩
 obtain⟨W1,hW1⟩:∃ W1,w.alloc (.cells #[.int .i64 0,.string ⟨#[]⟩,.slice none 0 0,.int .i64 0,.string ⟨#[]⟩,.int .i64 0,.slice none 0 0,.int .i64 0,.string ⟨#[]⟩,.int .i64 0,.slice none 0 0] 66)=W1:=⟨_,rfl⟩
 have hb1:Below w.heap.size w W1:=by rw[← hW1];exact HB0.out w _
 have hr1:Row n0 66 ltZero W1:=by rw[← hW1,← hn0];exact Row.new w _ _
 have hs1:W1.heap.size=n0+1:=by rw[← hW1];simp[hn0]
 have HX:=hid (expression_c q C du ru W1 (h.below hb1))
 have HW1:=hid hW1
 have G1:=hid (Gr.of_below (R:=C.R) hb1)
 have Hr1:=hid hr1
 have Hs1:=hid hs1
 have Hn0:=hid hn0
 rw[hn0] at hltR
 clear h hW1 hb1 hr1 hs1
 go_enter Tryz.func165,Tryz.ntmps165
 go_wp2_with fail
 rw[HW1.out]
 refine HX.out.mono ?_
 rintro e w2 ⟨hm,g2⟩
 have Hr2:=hid (Hr1.out.gr g2 (by omega))
 have G2:=hid (G1.out.trans g2)
 have Hs2:=hid (show n0+1≤w2.heap.size by have:=g2.size;have:=Hs1.out;omega)
 clear g2
 cases hl:exprP q with
 | error z=>
  rw[hl] at hm
  obtain rfl:=hm
  have Hq:Hid (heldQ q=.error (z.1,z.2)):=hid (by unfold heldQ;rw[hl])
  have hlt:=Hr2.out.lt
  have b0:=Hr2.out.at 0 _ rfl
  have b1:=Hr2.out.at 1 _ rfl
  have b2:=Hr2.out.at 2 _ rfl
  have b3:=Hr2.out.at 3 _ rfl
  have b4:=Hr2.out.at 4 _ rfl
  have b5:=Hr2.out.at 5 _ rfl
  have b6:=Hr2.out.at 6 _ rfl
  have b7:=Hr2.out.at 7 _ rfl
  have b8:=Hr2.out.at 8 _ rfl
  have b9:=Hr2.out.at 9 _ rfl
  have b10:=Hr2.out.at 10 _ rfl
  have fb:=Hr2.out.frz
  clear hl
  go_wp2
  refine bodyPost_ret (v:=.tuple #[.agg ltZero.toArray,flawV z.1 z.2]) (by simp[results,Tryz.results165,go_sem,b0,b1,b2,b3,b4,b5,b6,b7,b8,b9,b10,hlt]) rfl ?_
  exact LtR.bad Hq.out ((G2.out.box (b:=n0) (by have:=Hn0.out;omega) 0 ltZero).alloc _)
 | ok y=>
  obtain⟨x,q2⟩:=y
  rw[hl] at hm
  obtain⟨o1,c1,rfl,tx,rx⟩:=hm
  have Hq0:Hid (heldQ q=restQ x q2):=hid (by unfold heldQ;rw[hl])
  obtain⟨W3,hW3⟩:∃ W3,w2.alloc (.cells #[.int .i64 x.op,.string x.s,.int .i64 x.n,.slice o1 x.l.length c1] 64)=W3:=⟨_,rfl⟩
  have hb3:Below w2.heap.size w2 W3:=by rw[← hW3];exact HB0.out w2 _
  have hx3:Row w2.heap.size 64 (tmCells x o1 c1) W3:=by rw[← hW3];exact Row.new w2 _ _
  obtain⟨m,hm⟩:∃ m,w2.heap.size=m:=⟨_,rfl⟩
  have R3:=hid (rx.below hb3)
  have G3:=hid (G2.out.trans (Gr.of_below hb3))
  have Tx3:=hid (tx.gr (Gr.of_below (R:=C.R) hb3) (by have:=Hs1.out;omega))
  have Hr3:=hid (Hr2.out.below hb3 Hr2.out.lt)
  rw[hm] at hx3
  have Hx3:=hid hx3
  have HW3:=hid hW3
  have Hm:=hid hm
  have HH:=hid (here_c C du ru q2 W3 R3.out)
  clear hl tx rx hb3 hx3 hW3
  go_wp2_with fail
  rw[HW3.out]
  refine HH.out.mono ?_
  rintro e w4 ⟨rfl,b4⟩
  have D3:=hid (Gr.refl C.R W3)
  have D4:=hid (D3.out.trans (Gr.of_below b4))
  have hmR:C.R < m:=by have:=Hs2.out;omega
  obtain⟨k,hk⟩:∃ k,w4.heap.size=k:=⟨_,rfl⟩
  have hmk:m < k:=by have:=Hx3.out.lt;have:=b4.size;omega
  have Hr4:=hid (Hr3.out.below b4 Hr3.out.lt)
  have Hx4:=hid (Hx3.out.below b4 Hx3.out.lt)
  obtain⟨W5,hW5⟩:∃ W5,w4.alloc (.cells #[.int .i64 (hdT q2).kind,.string (hdT q2).s,.int .i64 (hdT q2).line] 89)=W5:=⟨_,rfl⟩
  have hb5:Below w4.heap.size w4 W5:=by rw[← hW5];exact HB0.out w4 _
  have ht5:Row w4.heap.size 89 [.int .i64 (hdT q2).kind,.string (hdT q2).s,.int .i64 (hdT q2).line] W5:=by rw[← hW5];exact Row.new w4 _ _
  rw[hk] at ht5
  have Ht5:=hid ht5
  have D5:=hid (D4.out.trans (Gr.of_below hb5))
  have Hr5:=hid (Hr4.out.below hb5 Hr4.out.lt)
  have Hx5:=hid (Hx4.out.below hb5 Hx4.out.lt)
  have R5:=hid ((R3.out.below b4).below hb5)
  have HW5:=hid hW5
  have Hk:=hid hk
  have hkR:C.R < k:=by omega
  clear b4 hW5 hb5 ht5
  go_wp2_with fail
  (try rw[hk])
  rw[HW5.out]
  refine (holds_c (hdT q2) W5).mono ?_
  rintro e w6 ⟨rfl,b6⟩
  have Hr6:=hid (Hr5.out.below b6 Hr5.out.lt)
  have Hx6:=hid (Hx5.out.below b6 Hx5.out.lt)
  have Ht6:=hid (Ht5.out.below b6 Ht5.out.lt)
  have D6:=hid (D5.out.trans (Gr.of_below b6))
  have R6:=hid (R5.out.below b6)
  clear b6
  cases hh:holdB (hdT q2) with
  | false=>
   have Hq:Hid (heldQ q=.error (40,lineL q2)):=hid (by rw[Hq0.out,rest_no hh])
   clear hh
   go_wp2_with fail
   refine (fail_c C du ru q2 40 w6 R6.out).mono ?_
   rintro e w7 ⟨rfl,b7⟩
   have Hr7:=hid (Hr6.out.below b7 Hr6.out.lt)
   have Hx7:=hid (Hx6.out.below b7 Hx6.out.lt)
   have Ht7:=hid (Ht6.out.below b7 Ht6.out.lt)
   have D7:=hid (D6.out.trans (Gr.of_below b7))
   clear b7
   have hlt:=Hr7.out.lt
   have b0:=Hr7.out.at 0 _ rfl
   have b1:=Hr7.out.at 1 _ rfl
   have b2:=Hr7.out.at 2 _ rfl
   have b3:=Hr7.out.at 3 _ rfl
   have b4:=Hr7.out.at 4 _ rfl
   have b5:=Hr7.out.at 5 _ rfl
   have b6:=Hr7.out.at 6 _ rfl
   have b7:=Hr7.out.at 7 _ rfl
   have b8:=Hr7.out.at 8 _ rfl
   have b9:=Hr7.out.at 9 _ rfl
   have b10:=Hr7.out.at 10 _ rfl
   have fb:=Hr7.out.frz
   go_wp2
   refine bodyPost_ret (v:=.tuple #[.agg ltZero.toArray,flawV 40 (lineL q2)]) (by simp[results,Tryz.results165,go_sem,b0,b1,b2,b3,b4,b5,b6,b7,b8,b9,b10]) rfl ?_
   exact LtR.bad Hq.out ((G3.out.trans D7.out).box (b:=n0) (by have:=Hn0.out;omega) 0 ltZero)
  | true=>
   obtain⟨hne,op,turn,hsg,hrest⟩:=rest_yes (x:=x) hh
   have Hq1:=hid (Hq0.out.trans hrest)
   have Hsg:=hid hsg
   have HI:=hid (sign_I64 hsg)
   have Hne:=hid hne
   clear hh hrest hsg hne
   go_wp2_with fail
   refine (step_c C du ru q2 Hne.out w6 R6.out).mono ?_
   rintro e w7 ⟨rfl,r7,g7⟩
   have Hr7:=hid (Hr6.out.gr g7 (by omega))
   have Hx7:=hid (Hx6.out.gr g7 (by omega))
   have Ht7:=hid (Ht6.out.gr g7 (by omega))
   have D7:=hid (D6.out.trans g7)
   have R7:=hid r7
   clear r7 g7
   go_wp2_with fail
   refine (aggregateHere_c C du ru q2.tail w7 R7.out).mono ?_
   rintro e w8 ⟨rfl,b8⟩
   have Hr8:=hid (Hr7.out.below b8 Hr7.out.lt)
   have Hx8:=hid (Hx7.out.below b8 Hx7.out.lt)
   have Ht8:=hid (Ht7.out.below b8 Ht7.out.lt)
   have D8:=hid (D7.out.trans (Gr.of_below b8))
   have R8:=hid (R7.out.below b8)
   clear b8
   have t1:=Ht8.out.at 1 _ rfl
   have x0:=Hx8.out.at 0 _ rfl
   have hlk8:=Ht8.out.lt
   have hlm8:=Hx8.out.lt
   by_cases hz:howQ q2.tail=0
   ·have hc:¬ (howQ q2.tail≠0∧(hdT q2).s.data.toList=[61]∧(x.op=1∨x.op=2)):=fun h=>h.1 hz
    simp only[hz]
    clear hz
    have Hq2:Hid (heldQ q=match exprP q2.tail with | .error e=>.error e | .ok (y,p)=>.ok (⟨op,noAm,if turn=true then y else x,if turn=true then x else y⟩,p)):=hid (by rw[Hq1.out,if_neg hc])
    clear hc
    go_wp2_with fail
    refine (expression_c q2.tail C du ru w8 R8.out).mono ?_
    rintro e w9 ⟨hm2,g9⟩
    have Hs89:=hid (show W1.heap.size≤w8.heap.size by have:=Hs1.out;have:=Hs2.out;omega)
    have Hr9:=hid (Hr8.out.gr g9 (by omega))
    have Hx9:=hid (Hx8.out.gr g9 (by omega))
    have Ht9:=hid (Ht8.out.gr g9 (by omega))
    have D9:=hid (D8.out.trans g9)
    clear g9 t1 x0
    have hlt:=Hr9.out.lt
    have hlm9:=Hx9.out.lt
    have hlk9:=Ht9.out.lt
    cases he:exprP q2.tail with
    | error z=>
     have b0:=Hr9.out.at 0 _ rfl
     have b1:=Hr9.out.at 1 _ rfl
     have b2:=Hr9.out.at 2 _ rfl
     have b3:=Hr9.out.at 3 _ rfl
     have b4:=Hr9.out.at 4 _ rfl
     have b5:=Hr9.out.at 5 _ rfl
     have b6:=Hr9.out.at 6 _ rfl
     have b7:=Hr9.out.at 7 _ rfl
     have b8:=Hr9.out.at 8 _ rfl
     have b9:=Hr9.out.at 9 _ rfl
     have b10:=Hr9.out.at 10 _ rfl
     have fb:=Hr9.out.frz
     rw[he] at hm2
     obtain rfl:=hm2
     have Hq:Hid (heldQ q=.error (z.1,z.2)):=hid (by rw[Hq2.out,he])
     clear he
     go_wp2
     refine bodyPost_ret (v:=.tuple #[.agg ltZero.toArray,flawV z.1 z.2]) (by simp[results,Tryz.results165,go_sem,b0,b1,b2,b3,b4,b5,b6,b7,b8,b9,b10,hlt]) rfl ?_
     exact LtR.bad Hq.out (((G3.out.trans D9.out).box (b:=n0) (by have:=Hn0.out;omega) 0 ltZero).alloc _)
    | ok v=>
     obtain⟨y,p⟩:=v
     rw[he] at hm2
     obtain⟨o2,c2,rfl,ty,r9⟩:=hm2
     have Hq3:Hid (heldQ q=.ok (⟨op,noAm,if turn=true then y else x,if turn=true then x else y⟩,p)):=hid (by rw[Hq2.out,he])
     have Ty:=hid ty
     have R9:=hid r9
     clear he ty r9
     obtain⟨y0,y1,y2,y3,_⟩:=Hx9.out.r4
     have t1:=Ht9.out.at 1 _ rfl
     obtain⟨WA,hWA⟩:∃ WA,w9.alloc (.cells #[.int .i64 y.op,.string y.s,.int .i64 y.n,.slice o2 y.l.length c2] 64)=WA:=⟨_,rfl⟩
     have hbA:Below w9.heap.size w9 WA:=by rw[← hWA];exact HB0.out w9 _
     have HWA:=hid hWA
     have HbA:=hid hbA
     clear hWA hbA
     have H2:=hid (twoHeld_c (hdT q2).s x y o1 c1 o2 c2 op turn Hsg.out WA)
     go_wp2_with fail
     rw[HWA.out]
     refine H2.out.mono ?_
     rintro e w11 ⟨rfl,b11⟩
     have D11:=hid (D9.out.trans (Gr.of_below (R:=C.R) (HbA.out.trans (b11.mono HbA.out.size))))
     have R11:=hid (R9.out.below (HbA.out.trans (b11.mono HbA.out.size)))
     have Ty11:=hid ((Ty.out.gr (Gr.of_below (R:=C.R) (HbA.out.trans (b11.mono HbA.out.size))) (by have:=Hs89.out;have:=Hs1.out;omega)).lower Hs89.out)
     have Tx11:=hid (Tx3.out.gr D11.out (by have:=Hs1.out;omega))
     have Hr11:=hid (Hr9.out.below (HbA.out.trans (b11.mono HbA.out.size)) Hr9.out.lt)
     have hlt11:=Hr11.out.lt
     clear b11 y0 y1 y2 y3 t1
     have b0:=Hr11.out.at 0 _ rfl
     have b1:=Hr11.out.at 1 _ rfl
     have b2:=Hr11.out.at 2 _ rfl
     have b3:=Hr11.out.at 3 _ rfl
     have b4:=Hr11.out.at 4 _ rfl
     have b5:=Hr11.out.at 5 _ rfl
     have b6:=Hr11.out.at 6 _ rfl
     have b7:=Hr11.out.at 7 _ rfl
     have b8:=Hr11.out.at 8 _ rfl
     have b9:=Hr11.out.at 9 _ rfl
     have b10:=Hr11.out.at 10 _ rfl
     have fb:=Hr11.out.frz
     cases turn with
     | false=>
      have Hq:Hid (heldQ q=.ok (⟨op,noAm,x,y⟩,p)):=hid Hq3.out
      rw[if_neg (by decide)]
      go_wp2
      refine bodyPost_ret (v:=.tuple #[.agg (ltCells ⟨op,noAm,x,y⟩ none 0 o1 c1 o2 c2).toArray,.nilIface]) (by simp[results,Tryz.results165,go_sem,b0,b1,b2,b3,b4,b5,b6,b7,b8,b9,b10,noAm]) rfl ?_
      have hL:LtC (past W1.heap.size w11) w11.heap.size ⟨op,noAm,x,y⟩ (ltCells ⟨op,noAm,x,y⟩ none 0 o1 c1 o2 c2):=⟨[.string ⟨#[]⟩,.slice none 0 0],tmCells x o1 c1,tmCells y o2 c2,rfl,HI.out,⟨_,rfl,(show (ByteArray.mk #[]).size≤maxLen by decide),.inl ⟨rfl,rfl⟩⟩,Tx11.out,Ty11.out⟩
      exact LtR.good Hq.out (lt_box (b:=n0) (k:=0) (xs:=ltCells ⟨op,noAm,x,y⟩ none 0 o1 c1 o2 c2) hL (by have:=Hs1.out;omega) (by have:=Hs1.out;have:=Hn0.out;omega)) (R11.out.box (b:=n0) (k:=0) (xs:=ltCells ⟨op,noAm,x,y⟩ none 0 o1 c1 o2 c2) hltR) ((G3.out.trans D11.out).box (b:=n0) (by have:=Hn0.out;omega) 0 (ltCells ⟨op,noAm,x,y⟩ none 0 o1 c1 o2 c2))
     | true=>
      have Hq:Hid (heldQ q=.ok (⟨op,noAm,y,x⟩,p)):=hid Hq3.out
      rw[if_pos rfl]
      go_wp2
      refine bodyPost_ret (v:=.tuple #[.agg (ltCells ⟨op,noAm,y,x⟩ none 0 o2 c2 o1 c1).toArray,.nilIface]) (by simp[results,Tryz.results165,go_sem,b0,b1,b2,b3,b4,b5,b6,b7,b8,b9,b10,noAm]) rfl ?_
      have hL:LtC (past W1.heap.size w11) w11.heap.size ⟨op,noAm,y,x⟩ (ltCells ⟨op,noAm,y,x⟩ none 0 o2 c2 o1 c1):=⟨[.string ⟨#[]⟩,.slice none 0 0],tmCells y o2 c2,tmCells x o1 c1,rfl,HI.out,⟨_,rfl,(show (ByteArray.mk #[]).size≤maxLen by decide),.inl ⟨rfl,rfl⟩⟩,Ty11.out,Tx11.out⟩
      exact LtR.good Hq.out (lt_box (b:=n0) (k:=0) (xs:=ltCells ⟨op,noAm,y,x⟩ none 0 o2 c2 o1 c1) hL (by have:=Hs1.out;omega) (by have:=Hs1.out;have:=Hn0.out;omega)) (R11.out.box (b:=n0) (k:=0) (xs:=ltCells ⟨op,noAm,y,x⟩ none 0 o2 c2 o1 c1) hltR) ((G3.out.trans D11.out).box (b:=n0) (by have:=Hn0.out;omega) 0 (ltCells ⟨op,noAm,y,x⟩ none 0 o2 c2 o1 c1))
   have ez:(howQ q2.tail == 0)=false:=by simpa using hz
   have ez':(howQ q2.tail != 0)=true:=by simpa using hz
   by_cases hs:(hdT q2).s.data.toList=[61]
   ·have es:((hdT q2).s.toList == [61])=true:=str_eq hs
    by_cases h1:x.op=1
    ·have hc:howQ q2.tail≠0∧(hdT q2).s.data.toList=[61]∧(x.op=1∨x.op=2):=⟨hz,hs,.inl h1⟩
     have e1:(x.op == 1)=true:=by simpa using h1
     clear hz hs h1
     have Hq2:Hid (heldQ q=aggQ (howQ q2.tail) x q2.tail.tail):=hid (by rw[Hq1.out,if_pos hc])
     have Hz:=hid (how_ne hc.1)
     clear hc
     go_wp2_with fail
     refine (step_c C du ru q2.tail Hz.out w8 R8.out).mono ?_
     rintro e w9 ⟨rfl,r9,g9⟩
     have Hr9:=hid (Hr8.out.gr g9 (by omega))
     have Hx9:=hid (Hx8.out.gr g9 (by omega))
     have Ht9:=hid (Ht8.out.gr g9 (by omega))
     have D9:=hid (D8.out.trans g9)
     have R9:=hid r9
     clear r9 g9 t1 x0
     obtain⟨y0,y1,y2,y3,_⟩:=Hx9.out.r4
     have hlm9:=Hx9.out.lt
     go_wp2_with fail
     refine (aggregate_c W1.heap.size C du ru (howQ q2.tail) (by rw[howT_q];exact howT_ne) x o1 c1 q2.tail.tail w9 R9.out (by have:=Hs1.out;omega) (by have:=Hs1.out;have:=Hs2.out;omega) (Tx3.out.gr D9.out (by have:=Hs1.out;omega))).mono ?_
     rintro e w10 ⟨hm2,g10⟩
     have Hr10:=hid (Hr9.out.gr g10 (by omega))
     have D10:=hid (D9.out.trans g10)
     have hlt:=Hr10.out.lt
     clear g10 y0 y1 y2 y3
     have b0:=Hr10.out.at 0 _ rfl
     have b1:=Hr10.out.at 1 _ rfl
     have b2:=Hr10.out.at 2 _ rfl
     have b3:=Hr10.out.at 3 _ rfl
     have b4:=Hr10.out.at 4 _ rfl
     have b5:=Hr10.out.at 5 _ rfl
     have b6:=Hr10.out.at 6 _ rfl
     have b7:=Hr10.out.at 7 _ rfl
     have b8:=Hr10.out.at 8 _ rfl
     have b9:=Hr10.out.at 9 _ rfl
     have b10:=Hr10.out.at 10 _ rfl
     have fb:=Hr10.out.frz
     cases ha:aggQ (howQ q2.tail) x q2.tail.tail with
     | error z=>
      rw[ha] at hm2
      obtain rfl:=hm2
      have Hq:=hid (Hq2.out.trans ha)
      clear ha
      go_wp2
      refine bodyPost_ret (v:=.tuple #[.agg ltZero.toArray,flawV z.1 z.2]) (by simp[results,Tryz.results165,go_sem,b0,b1,b2,b3,b4,b5,b6,b7,b8,b9,b10]) rfl ?_
      exact LtR.bad Hq.out ((G3.out.trans D10.out).box (b:=n0) (by have:=Hn0.out;omega) 0 ltZero)
     | ok v=>
      obtain⟨v,p⟩:=v
      rw[ha] at hm2
      obtain⟨u0,d0,u1,d1,u2,d2,rfl,hlv,r10⟩:=hm2
      have Hq:=hid (Hq2.out.trans ha)
      have Hlv:=hid hlv
      have R10:=hid r10
      clear ha hlv r10
      go_wp2
      refine bodyPost_ret (v:=.tuple #[.agg (ltCells v u0 d0 u1 d1 u2 d2).toArray,.nilIface]) (by simp[results,Tryz.results165,go_sem,b0,b1,b2,b3,b4,b5,b6,b7,b8,b9,b10]) rfl ?_
      exact LtR.good Hq.out (lt_box (b:=n0) (k:=0) (xs:=ltCells v u0 d0 u1 d1 u2 d2) Hlv.out (by have:=Hs1.out;omega) (by have:=Hs1.out;have:=Hn0.out;omega)) (R10.out.box (b:=n0) (k:=0) (xs:=ltCells v u0 d0 u1 d1 u2 d2) hltR) ((G3.out.trans D10.out).box (b:=n0) (by have:=Hn0.out;omega) 0 (ltCells v u0 d0 u1 d1 u2 d2))
    have e1:(x.op == 1)=false:=by simpa using h1
    by_cases h2:x.op=2
    ·have hc:howQ q2.tail≠0∧(hdT q2).s.data.toList=[61]∧(x.op=1∨x.op=2):=⟨hz,hs,.inr h2⟩
     have e2:(x.op == 2)=true:=by simpa using h2
     clear hz hs h1 h2
     have Hq2:Hid (heldQ q=aggQ (howQ q2.tail) x q2.tail.tail):=hid (by rw[Hq1.out,if_pos hc])
     have Hz:=hid (how_ne hc.1)
     clear hc
     go_wp2_with fail
     refine (step_c C du ru q2.tail Hz.out w8 R8.out).mono ?_
     rintro e w9 ⟨rfl,r9,g9⟩
     have Hr9:=hid (Hr8.out.gr g9 (by omega))
     have Hx9:=hid (Hx8.out.gr g9 (by omega))
     have Ht9:=hid (Ht8.out.gr g9 (by omega))
     have D9:=hid (D8.out.trans g9)
     have R9:=hid r9
     clear r9 g9 t1 x0
     obtain⟨y0,y1,y2,y3,_⟩:=Hx9.out.r4
     have hlm9:=Hx9.out.lt
     go_wp2_with fail
     refine (aggregate_c W1.heap.size C du ru (howQ q2.tail) (by rw[howT_q];exact howT_ne) x o1 c1 q2.tail.tail w9 R9.out (by have:=Hs1.out;omega) (by have:=Hs1.out;have:=Hs2.out;omega) (Tx3.out.gr D9.out (by have:=Hs1.out;omega))).mono ?_
     rintro e w10 ⟨hm2,g10⟩
     have Hr10:=hid (Hr9.out.gr g10 (by omega))
     have D10:=hid (D9.out.trans g10)
     have hlt:=Hr10.out.lt
     clear g10 y0 y1 y2 y3
     have b0:=Hr10.out.at 0 _ rfl
     have b1:=Hr10.out.at 1 _ rfl
     have b2:=Hr10.out.at 2 _ rfl
     have b3:=Hr10.out.at 3 _ rfl
     have b4:=Hr10.out.at 4 _ rfl
     have b5:=Hr10.out.at 5 _ rfl
     have b6:=Hr10.out.at 6 _ rfl
     have b7:=Hr10.out.at 7 _ rfl
     have b8:=Hr10.out.at 8 _ rfl
     have b9:=Hr10.out.at 9 _ rfl
     have b10:=Hr10.out.at 10 _ rfl
     have fb:=Hr10.out.frz
     cases ha:aggQ (howQ q2.tail) x q2.tail.tail with
     | error z=>
      rw[ha] at hm2
      obtain rfl:=hm2
      have Hq:=hid (Hq2.out.trans ha)
      clear ha
      go_wp2
      refine bodyPost_ret (v:=.tuple #[.agg ltZero.toArray,flawV z.1 z.2]) (by simp[results,Tryz.results165,go_sem,b0,b1,b2,b3,b4,b5,b6,b7,b8,b9,b10]) rfl ?_
      exact LtR.bad Hq.out ((G3.out.trans D10.out).box (b:=n0) (by have:=Hn0.out;omega) 0 ltZero)
     | ok v=>
      obtain⟨v,p⟩:=v
      rw[ha] at hm2
      obtain⟨u0,d0,u1,d1,u2,d2,rfl,hlv,r10⟩:=hm2
      have Hq:=hid (Hq2.out.trans ha)
      have Hlv:=hid hlv
      have R10:=hid r10
      clear ha hlv r10
      go_wp2
      refine bodyPost_ret (v:=.tuple #[.agg (ltCells v u0 d0 u1 d1 u2 d2).toArray,.nilIface]) (by simp[results,Tryz.results165,go_sem,b0,b1,b2,b3,b4,b5,b6,b7,b8,b9,b10]) rfl ?_
      exact LtR.good Hq.out (lt_box (b:=n0) (k:=0) (xs:=ltCells v u0 d0 u1 d1 u2 d2) Hlv.out (by have:=Hs1.out;omega) (by have:=Hs1.out;have:=Hn0.out;omega)) (R10.out.box (b:=n0) (k:=0) (xs:=ltCells v u0 d0 u1 d1 u2 d2) hltR) ((G3.out.trans D10.out).box (b:=n0) (by have:=Hn0.out;omega) 0 (ltCells v u0 d0 u1 d1 u2 d2))
    ·have hc:¬ (howQ q2.tail≠0∧(hdT q2).s.data.toList=[61]∧(x.op=1∨x.op=2)):=fun h=>h.2.2.elim h1 h2
     have e2:(x.op == 2)=false:=by simpa using h2
     clear hz hs h1 h2
     have Hq2:Hid (heldQ q=match exprP q2.tail with | .error e=>.error e | .ok (y,p)=>.ok (⟨op,noAm,if turn=true then y else x,if turn=true then x else y⟩,p)):=hid (by rw[Hq1.out,if_neg hc])
     clear hc
     go_wp2_with fail
     refine (expression_c q2.tail C du ru w8 R8.out).mono ?_
     rintro e w9 ⟨hm2,g9⟩
     have Hs89:=hid (show W1.heap.size≤w8.heap.size by have:=Hs1.out;have:=Hs2.out;omega)
     have Hr9:=hid (Hr8.out.gr g9 (by omega))
     have Hx9:=hid (Hx8.out.gr g9 (by omega))
     have Ht9:=hid (Ht8.out.gr g9 (by omega))
     have D9:=hid (D8.out.trans g9)
     clear g9 t1 x0
     have hlt:=Hr9.out.lt
     have hlm9:=Hx9.out.lt
     have hlk9:=Ht9.out.lt
     cases he:exprP q2.tail with
     | error z=>
      have b0:=Hr9.out.at 0 _ rfl
      have b1:=Hr9.out.at 1 _ rfl
      have b2:=Hr9.out.at 2 _ rfl
      have b3:=Hr9.out.at 3 _ rfl
      have b4:=Hr9.out.at 4 _ rfl
      have b5:=Hr9.out.at 5 _ rfl
      have b6:=Hr9.out.at 6 _ rfl
      have b7:=Hr9.out.at 7 _ rfl
      have b8:=Hr9.out.at 8 _ rfl
      have b9:=Hr9.out.at 9 _ rfl
      have b10:=Hr9.out.at 10 _ rfl
      have fb:=Hr9.out.frz
      rw[he] at hm2
      obtain rfl:=hm2
      have Hq:Hid (heldQ q=.error (z.1,z.2)):=hid (by rw[Hq2.out,he])
      clear he
      go_wp2
      refine bodyPost_ret (v:=.tuple #[.agg ltZero.toArray,flawV z.1 z.2]) (by simp[results,Tryz.results165,go_sem,b0,b1,b2,b3,b4,b5,b6,b7,b8,b9,b10,hlt]) rfl ?_
      exact LtR.bad Hq.out (((G3.out.trans D9.out).box (b:=n0) (by have:=Hn0.out;omega) 0 ltZero).alloc _)
     | ok v=>
      obtain⟨y,p⟩:=v
      rw[he] at hm2
      obtain⟨o2,c2,rfl,ty,r9⟩:=hm2
      have Hq3:Hid (heldQ q=.ok (⟨op,noAm,if turn=true then y else x,if turn=true then x else y⟩,p)):=hid (by rw[Hq2.out,he])
      have Ty:=hid ty
      have R9:=hid r9
      clear he ty r9
      obtain⟨y0,y1,y2,y3,_⟩:=Hx9.out.r4
      have t1:=Ht9.out.at 1 _ rfl
      obtain⟨WA,hWA⟩:∃ WA,w9.alloc (.cells #[.int .i64 y.op,.string y.s,.int .i64 y.n,.slice o2 y.l.length c2] 64)=WA:=⟨_,rfl⟩
      have hbA:Below w9.heap.size w9 WA:=by rw[← hWA];exact HB0.out w9 _
      have HWA:=hid hWA
      have HbA:=hid hbA
      clear hWA hbA
      have H2:=hid (twoHeld_c (hdT q2).s x y o1 c1 o2 c2 op turn Hsg.out WA)
      go_wp2_with fail
      rw[HWA.out]
      refine H2.out.mono ?_
      rintro e w11 ⟨rfl,b11⟩
      have D11:=hid (D9.out.trans (Gr.of_below (R:=C.R) (HbA.out.trans (b11.mono HbA.out.size))))
      have R11:=hid (R9.out.below (HbA.out.trans (b11.mono HbA.out.size)))
      have Ty11:=hid ((Ty.out.gr (Gr.of_below (R:=C.R) (HbA.out.trans (b11.mono HbA.out.size))) (by have:=Hs89.out;have:=Hs1.out;omega)).lower Hs89.out)
      have Tx11:=hid (Tx3.out.gr D11.out (by have:=Hs1.out;omega))
      have Hr11:=hid (Hr9.out.below (HbA.out.trans (b11.mono HbA.out.size)) Hr9.out.lt)
      have hlt11:=Hr11.out.lt
      clear b11 y0 y1 y2 y3 t1
      have b0:=Hr11.out.at 0 _ rfl
      have b1:=Hr11.out.at 1 _ rfl
      have b2:=Hr11.out.at 2 _ rfl
      have b3:=Hr11.out.at 3 _ rfl
      have b4:=Hr11.out.at 4 _ rfl
      have b5:=Hr11.out.at 5 _ rfl
      have b6:=Hr11.out.at 6 _ rfl
      have b7:=Hr11.out.at 7 _ rfl
      have b8:=Hr11.out.at 8 _ rfl
      have b9:=Hr11.out.at 9 _ rfl
      have b10:=Hr11.out.at 10 _ rfl
      have fb:=Hr11.out.frz
      cases turn with
      | false=>
       have Hq:Hid (heldQ q=.ok (⟨op,noAm,x,y⟩,p)):=hid Hq3.out
       rw[if_neg (by decide)]
       go_wp2
       refine bodyPost_ret (v:=.tuple #[.agg (ltCells ⟨op,noAm,x,y⟩ none 0 o1 c1 o2 c2).toArray,.nilIface]) (by simp[results,Tryz.results165,go_sem,b0,b1,b2,b3,b4,b5,b6,b7,b8,b9,b10,noAm]) rfl ?_
       have hL:LtC (past W1.heap.size w11) w11.heap.size ⟨op,noAm,x,y⟩ (ltCells ⟨op,noAm,x,y⟩ none 0 o1 c1 o2 c2):=⟨[.string ⟨#[]⟩,.slice none 0 0],tmCells x o1 c1,tmCells y o2 c2,rfl,HI.out,⟨_,rfl,(show (ByteArray.mk #[]).size≤maxLen by decide),.inl ⟨rfl,rfl⟩⟩,Tx11.out,Ty11.out⟩
       exact LtR.good Hq.out (lt_box (b:=n0) (k:=0) (xs:=ltCells ⟨op,noAm,x,y⟩ none 0 o1 c1 o2 c2) hL (by have:=Hs1.out;omega) (by have:=Hs1.out;have:=Hn0.out;omega)) (R11.out.box (b:=n0) (k:=0) (xs:=ltCells ⟨op,noAm,x,y⟩ none 0 o1 c1 o2 c2) hltR) ((G3.out.trans D11.out).box (b:=n0) (by have:=Hn0.out;omega) 0 (ltCells ⟨op,noAm,x,y⟩ none 0 o1 c1 o2 c2))
      | true=>
       have Hq:Hid (heldQ q=.ok (⟨op,noAm,y,x⟩,p)):=hid Hq3.out
       rw[if_pos rfl]
       go_wp2
       refine bodyPost_ret (v:=.tuple #[.agg (ltCells ⟨op,noAm,y,x⟩ none 0 o2 c2 o1 c1).toArray,.nilIface]) (by simp[results,Tryz.results165,go_sem,b0,b1,b2,b3,b4,b5,b6,b7,b8,b9,b10,noAm]) rfl ?_
       have hL:LtC (past W1.heap.size w11) w11.heap.size ⟨op,noAm,y,x⟩ (ltCells ⟨op,noAm,y,x⟩ none 0 o2 c2 o1 c1):=⟨[.string ⟨#[]⟩,.slice none 0 0],tmCells y o2 c2,tmCells x o1 c1,rfl,HI.out,⟨_,rfl,(show (ByteArray.mk #[]).size≤maxLen by decide),.inl ⟨rfl,rfl⟩⟩,Ty11.out,Tx11.out⟩
       exact LtR.good Hq.out (lt_box (b:=n0) (k:=0) (xs:=ltCells ⟨op,noAm,y,x⟩ none 0 o2 c2 o1 c1) hL (by have:=Hs1.out;omega) (by have:=Hs1.out;have:=Hn0.out;omega)) (R11.out.box (b:=n0) (k:=0) (xs:=ltCells ⟨op,noAm,y,x⟩ none 0 o2 c2 o1 c1) hltR) ((G3.out.trans D11.out).box (b:=n0) (by have:=Hn0.out;omega) 0 (ltCells ⟨op,noAm,y,x⟩ none 0 o2 c2 o1 c1))
   ·have hc:¬ (howQ q2.tail≠0∧(hdT q2).s.data.toList=[61]∧(x.op=1∨x.op=2)):=fun h=>hs h.2.1
    have es:((hdT q2).s.toList == [61])=false:=str_no hs
    clear hz hs
    have Hq2:Hid (heldQ q=match exprP q2.tail with | .error e=>.error e | .ok (y,p)=>.ok (⟨op,noAm,if turn=true then y else x,if turn=true then x else y⟩,p)):=hid (by rw[Hq1.out,if_neg hc])
    clear hc
    go_wp2_with fail
    refine (expression_c q2.tail C du ru w8 R8.out).mono ?_
    rintro e w9 ⟨hm2,g9⟩
    have Hs89:=hid (show W1.heap.size≤w8.heap.size by have:=Hs1.out;have:=Hs2.out;omega)
    have Hr9:=hid (Hr8.out.gr g9 (by omega))
    have Hx9:=hid (Hx8.out.gr g9 (by omega))
    have Ht9:=hid (Ht8.out.gr g9 (by omega))
    have D9:=hid (D8.out.trans g9)
    clear g9 t1 x0
    have hlt:=Hr9.out.lt
    have hlm9:=Hx9.out.lt
    have hlk9:=Ht9.out.lt
    cases he:exprP q2.tail with
    | error z=>
     have b0:=Hr9.out.at 0 _ rfl
     have b1:=Hr9.out.at 1 _ rfl
     have b2:=Hr9.out.at 2 _ rfl
     have b3:=Hr9.out.at 3 _ rfl
     have b4:=Hr9.out.at 4 _ rfl
     have b5:=Hr9.out.at 5 _ rfl
     have b6:=Hr9.out.at 6 _ rfl
     have b7:=Hr9.out.at 7 _ rfl
     have b8:=Hr9.out.at 8 _ rfl
     have b9:=Hr9.out.at 9 _ rfl
     have b10:=Hr9.out.at 10 _ rfl
     have fb:=Hr9.out.frz
     rw[he] at hm2
     obtain rfl:=hm2
     have Hq:Hid (heldQ q=.error (z.1,z.2)):=hid (by rw[Hq2.out,he])
     clear he
     go_wp2
     refine bodyPost_ret (v:=.tuple #[.agg ltZero.toArray,flawV z.1 z.2]) (by simp[results,Tryz.results165,go_sem,b0,b1,b2,b3,b4,b5,b6,b7,b8,b9,b10,hlt]) rfl ?_
     exact LtR.bad Hq.out (((G3.out.trans D9.out).box (b:=n0) (by have:=Hn0.out;omega) 0 ltZero).alloc _)
    | ok v=>
     obtain⟨y,p⟩:=v
     rw[he] at hm2
     obtain⟨o2,c2,rfl,ty,r9⟩:=hm2
     have Hq3:Hid (heldQ q=.ok (⟨op,noAm,if turn=true then y else x,if turn=true then x else y⟩,p)):=hid (by rw[Hq2.out,he])
     have Ty:=hid ty
     have R9:=hid r9
     clear he ty r9
     obtain⟨y0,y1,y2,y3,_⟩:=Hx9.out.r4
     have t1:=Ht9.out.at 1 _ rfl
     obtain⟨WA,hWA⟩:∃ WA,w9.alloc (.cells #[.int .i64 y.op,.string y.s,.int .i64 y.n,.slice o2 y.l.length c2] 64)=WA:=⟨_,rfl⟩
     have hbA:Below w9.heap.size w9 WA:=by rw[← hWA];exact HB0.out w9 _
     have HWA:=hid hWA
     have HbA:=hid hbA
     clear hWA hbA
     have H2:=hid (twoHeld_c (hdT q2).s x y o1 c1 o2 c2 op turn Hsg.out WA)
     go_wp2_with fail
     rw[HWA.out]
     refine H2.out.mono ?_
     rintro e w11 ⟨rfl,b11⟩
     have D11:=hid (D9.out.trans (Gr.of_below (R:=C.R) (HbA.out.trans (b11.mono HbA.out.size))))
     have R11:=hid (R9.out.below (HbA.out.trans (b11.mono HbA.out.size)))
     have Ty11:=hid ((Ty.out.gr (Gr.of_below (R:=C.R) (HbA.out.trans (b11.mono HbA.out.size))) (by have:=Hs89.out;have:=Hs1.out;omega)).lower Hs89.out)
     have Tx11:=hid (Tx3.out.gr D11.out (by have:=Hs1.out;omega))
     have Hr11:=hid (Hr9.out.below (HbA.out.trans (b11.mono HbA.out.size)) Hr9.out.lt)
     have hlt11:=Hr11.out.lt
     clear b11 y0 y1 y2 y3 t1
     have b0:=Hr11.out.at 0 _ rfl
     have b1:=Hr11.out.at 1 _ rfl
     have b2:=Hr11.out.at 2 _ rfl
     have b3:=Hr11.out.at 3 _ rfl
     have b4:=Hr11.out.at 4 _ rfl
     have b5:=Hr11.out.at 5 _ rfl
     have b6:=Hr11.out.at 6 _ rfl
     have b7:=Hr11.out.at 7 _ rfl
     have b8:=Hr11.out.at 8 _ rfl
     have b9:=Hr11.out.at 9 _ rfl
     have b10:=Hr11.out.at 10 _ rfl
     have fb:=Hr11.out.frz
     cases turn with
     | false=>
      have Hq:Hid (heldQ q=.ok (⟨op,noAm,x,y⟩,p)):=hid Hq3.out
      rw[if_neg (by decide)]
      go_wp2
      refine bodyPost_ret (v:=.tuple #[.agg (ltCells ⟨op,noAm,x,y⟩ none 0 o1 c1 o2 c2).toArray,.nilIface]) (by simp[results,Tryz.results165,go_sem,b0,b1,b2,b3,b4,b5,b6,b7,b8,b9,b10,noAm]) rfl ?_
      have hL:LtC (past W1.heap.size w11) w11.heap.size ⟨op,noAm,x,y⟩ (ltCells ⟨op,noAm,x,y⟩ none 0 o1 c1 o2 c2):=⟨[.string ⟨#[]⟩,.slice none 0 0],tmCells x o1 c1,tmCells y o2 c2,rfl,HI.out,⟨_,rfl,(show (ByteArray.mk #[]).size≤maxLen by decide),.inl ⟨rfl,rfl⟩⟩,Tx11.out,Ty11.out⟩
      exact LtR.good Hq.out (lt_box (b:=n0) (k:=0) (xs:=ltCells ⟨op,noAm,x,y⟩ none 0 o1 c1 o2 c2) hL (by have:=Hs1.out;omega) (by have:=Hs1.out;have:=Hn0.out;omega)) (R11.out.box (b:=n0) (k:=0) (xs:=ltCells ⟨op,noAm,x,y⟩ none 0 o1 c1 o2 c2) hltR) ((G3.out.trans D11.out).box (b:=n0) (by have:=Hn0.out;omega) 0 (ltCells ⟨op,noAm,x,y⟩ none 0 o1 c1 o2 c2))
     | true=>
      have Hq:Hid (heldQ q=.ok (⟨op,noAm,y,x⟩,p)):=hid Hq3.out
      rw[if_pos rfl]
      go_wp2
      refine bodyPost_ret (v:=.tuple #[.agg (ltCells ⟨op,noAm,y,x⟩ none 0 o2 c2 o1 c1).toArray,.nilIface]) (by simp[results,Tryz.results165,go_sem,b0,b1,b2,b3,b4,b5,b6,b7,b8,b9,b10,noAm]) rfl ?_
      have hL:LtC (past W1.heap.size w11) w11.heap.size ⟨op,noAm,y,x⟩ (ltCells ⟨op,noAm,y,x⟩ none 0 o2 c2 o1 c1):=⟨[.string ⟨#[]⟩,.slice none 0 0],tmCells y o2 c2,tmCells x o1 c1,rfl,HI.out,⟨_,rfl,(show (ByteArray.mk #[]).size≤maxLen by decide),.inl ⟨rfl,rfl⟩⟩,Ty11.out,Tx11.out⟩
      exact LtR.good Hq.out (lt_box (b:=n0) (k:=0) (xs:=ltCells ⟨op,noAm,y,x⟩ none 0 o2 c2 o1 c1) hL (by have:=Hs1.out;omega) (by have:=Hs1.out;have:=Hn0.out;omega)) (R11.out.box (b:=n0) (k:=0) (xs:=ltCells ⟨op,noAm,y,x⟩ none 0 o2 c2 o1 c1) hltR) ((G3.out.trans D11.out).box (b:=n0) (by have:=Hn0.out;omega) 0 (ltCells ⟨op,noAm,y,x⟩ none 0 o2 c2 o1 c1))
end Go.Proofs.YtdgbajnhhhjbcaaGreatDoor
