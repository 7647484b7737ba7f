/- Rd8@012, Rd9@012 -/
import Derived.Test.YtdgbajnhhhjbcaaGreatDoorQ22
import Derived.Test.YtdgbajnhhhjbcaaGreatDoorQ29
set_option linter.unusedSimpArgs false
namespace Go.Proofs.YtdgbajnhhhjbcaaGreatDoor
open Lib(hid)
open Go.RowKit
theorem numQ_minus (r:List TokI):minusP r=numQ true r:=by
 cases r with
 | nil=>rfl
 | cons u q=>
  show (if u.kind=2 then _ else _)=(if u.kind=2 then _ else _)
  rfl
theorem thing_minus {q:List TokI} (h:nextB 4 [45] q=true):thingP q=numQ true q.tail:=by
 cases q with
 | nil=>cases h
 | cons t r=>
  have hk:t.kind=4:=tok_kind (show tokB 4 [45] t=true from h)
  rw[thingP,if_neg (by rw[hk];decide),if_neg (by rw[hk];decide),if_neg (by rw[isNm_else (by rw[hk];decide)];decide),if_pos (show tokB 4 [45] t=true from h)]
  exact numQ_minus r
theorem thing_num {q:List TokI} (h:(hdT q).kind=2):thingP q=numQ false q:=by
 cases q with
 | nil=>cases h
 | cons t r=>
  have h:t.kind=2:=h
  rw[thingP,if_pos h]
  unfold numQ
  rw[if_pos (show (hdT (t::r)).kind=2 from h),if_neg (by decide)]
  rfl
theorem thing_text {q:List TokI} (h:(hdT q).kind=3):thingP q=.ok (.mk 3 (hdT q).s 0 [],q.tail):=by
 cases q with
 | nil=>cases h
 | cons t r=>
  have h:t.kind=3:=h
  rw[thingP,if_neg (by rw[h];decide),if_pos h]
  rfl
theorem thing_brack {q:List TokI} (h:nextB 4 [40] q=true):thingP q=brackP q:=by
 cases q with
 | nil=>cases h
 | cons t r=>
  have h:tokB 4 [40] t=true:=h
  have hk:t.kind=4:=tok_kind h
  have h45:tokB 4 [45] t=false:=by
   unfold tokB at h ⊢
   rw[Bool.and_eq_true] at h
   have:t.s.data.toList=[40]:=by simpa using h.2
   rw[this]
   simp
  rw[thingP,if_neg (by rw[hk];decide),if_neg (by rw[hk];decide),if_neg (by rw[isNm_else (by rw[hk];decide)];decide),if_neg (by rw[h45];decide),if_pos h]
  rfl
theorem thing_else {q:List TokI} (h1:nextB 4 [45] q=false) (h2:(hdT q).kind≠2) (h3:(hdT q).kind≠3) (h4:nextB 4 [40] q=false) :
  thingP q=match nameP q with | .error e=>.error e | .ok (s,p)=>.ok (.mk 1 s 0 [],p):=by
 cases q with
 | nil=>rw[thingP];rfl
 | cons t r=>
  have h1:tokB 4 [45] t=false:=h1
  have h2:t.kind≠2:=h2
  have h3:t.kind≠3:=h3
  have h4:tokB 4 [40] t=false:=h4
  rw[thingP,if_neg h2,if_neg h3]
  by_cases hn:isNm t=true
  ·rw[if_pos hn,(nameP_t (q:=t::r) hn).1]
   rfl
  ·rw[if_neg hn,if_neg (by rw[h1];decide),if_neg (by rw[h4];decide),nameP_f (q:=t::r) (by simpa[nmAt] using hn)]
   rfl
set_option maxRecDepth 100000 in
set_option maxHeartbeats 8000000 in
theorem thing_c (q:List TokI) (IH:q≠[]→TmF 204 sumP q.tail):TmF 225 thingP q:=by
 intro C du ru w h
 have hltR:=h.lt
 have hg:=good_hd h.goodq
 have hI1:=hg.kind
 have hI2:=hg.size
 have HB0:Hid (∀ (W:World) (x:Obj),Below W.heap.size W (W.alloc x)):=hid fun W x=>(Below.refl _ _).alloc (Nat.le_refl _) _
 obtain⟨W1,hW1⟩:∃ W1,w.alloc (.cells #[.int .i64 0,.string ⟨#[]⟩,.int .i64 0,.slice none 0 0] 64)=W1:=⟨_,rfl⟩
 have hb1:Below w.heap.size w W1:=by rw[← hW1];exact HB0.out w _
 have hr1:Row w.heap.size 64 zeroCells W1:=by rw[← hW1];exact Row.new w _ _
 have HH:=hid (here_c C du ru q W1 (h.below hb1))
 have HIH:=hid (fun hq=>bracketed_c q hq (IH hq))
 have HW1:=hid hW1
 have Hb1:=hid hb1
 have Hr1:=hid hr1
 have H:=hid h
 obtain⟨T,hT⟩:∃ T,hdT q=T:=⟨_,rfl⟩
 have HT:=hid hT
 rw[hT] at HH hI1 hI2
 clear h hW1 hb1 hr1 IH hg hT
 cases hm:nextB 4 [45] q with
 | true=>
  have hne:q≠[]:=by rintro rfl;cases hm
  have Hm:Hid (tokB 4 [45] T=true):=hid (by rw[← HT.out];exact (tokB_hd (by decide) _ _).trans hm)
  have Hq0:=hid (thing_minus hm)
  have Hne:=hid hne
  clear hm hne
  go_enter Tryz.func225,Tryz.ntmps225
  go_wp2_with fail
  rw[HW1.out]
  refine HH.out.mono ?_
  rintro e w2 ⟨rfl,b2⟩
  have hn2:w.heap.size < w2.heap.size:=by have:=Hr1.out.lt;have:=b2.size;omega
  obtain⟨W3,hW3⟩:∃ W3,w2.alloc (.cells #[.int .i64 T.kind,.string T.s,.int .i64 T.line] 89)=W3:=⟨_,rfl⟩
  have hb3:Below w2.heap.size w2 W3:=by rw[← hW3];exact HB0.out w2 _
  have hr3:Row w2.heap.size 89 [.int .i64 T.kind,.string T.s,.int .i64 T.line] W3:=by rw[← hW3];exact Row.new w2 _ _
  have B3:=hid (Hb1.out.trans ((b2.mono Hb1.out.size).trans (hb3.mono (by omega))))
  have Hr3:=hid ((Hr1.out.below b2 Hr1.out.lt).below hb3 hn2)
  have Ht3:=hid hr3
  have HW3:=hid hW3
  clear b2 hW3 hb3 hr3
  go_wp2_with fail
  rw[HW3.out]
  refine (isSgn_c T ⟨#[45]⟩ true Hm.out W3).mono ?_
  rintro e w4 ⟨rfl,b4⟩
  have B4:=hid (B3.out.trans (b4.mono B3.out.size))
  have Hr4:=hid (Hr3.out.below b4 Hr3.out.lt)
  have Ht4:=hid (Ht3.out.below b4 Ht3.out.lt)
  have R4:=hid (H.out.below B4.out)
  obtain⟨d0,d1,d2,e3⟩:=Ht4.out.r3
  clear b4
  go_wp2_with fail
  refine (step_c C du ru q Hne.out w4 R4.out).mono ?_
  rintro e w5 ⟨rfl,r5,g5⟩
  have R5:=hid r5
  have G5:=hid ((Gr.of_below B4.out).trans g5)
  have Hrp:=hid (Hr4.out.gr g5 (by omega))
  clear r5 g5
  go_wp2_with fail
  refine (rnumber_c C du ru q.tail true w5 R5.out).mono ?_
  rintro e w6 ⟨hm,g⟩
  cases hp:numQ true q.tail with
  | error z=>
   rw[hp] at hm
   obtain rfl:=hm
   have Hq:=hid (Hq0.out.trans hp)
   have hrt:=Hrp.out.gr g (by omega)
   obtain⟨c0,c1,c2,c3,f3⟩:=hrt.r4
   have Gf:=hid (G5.out.trans g)
   clear hp g hrt
   go_wp2
   refine bodyPost_ret (v:=.tuple #[.agg #[.int .i64 0,.string ⟨#[]⟩,.int .i64 0,.slice none 0 0],flawV z.1 z.2]) (by simp[results,Tryz.results225,go_sem,c0,c1,c2,c3]) rfl ?_
   exact TmR.bad Hq.out (Gf.out.set4 (Nat.le_refl _) _ _ _ _)
  | ok y=>
   obtain⟨x,p⟩:=y
   rw[hp] at hm
   obtain⟨o,cap,rfl,tx,rx⟩:=hm
   have Hq:=hid (Hq0.out.trans hp)
   have hrt:=Hrp.out.gr g (by omega)
   obtain⟨c0,c1,c2,c3,f3⟩:=hrt.r4
   have Gf:=hid (G5.out.trans g)
   have Tx:=hid tx
   have Rx:=hid rx
   have hnp:=Hrp.out.lt
   clear hp g hrt tx rx
   go_wp2
   refine bodyPost_ret (v:=.tuple #[.agg #[.int .i64 x.op,.string x.s,.int .i64 x.n,.slice o x.l.length cap],.nilIface]) (by simp[results,Tryz.results225,go_sem,c0,c1,c2,c3]) rfl ?_
   exact TmR.ok Hq.out rfl rfl rfl rfl (((Tx.out.set4 hnp _ _ _ _).lower (Nat.le_of_lt hnp)).more (Nat.le_of_eq (set4_size _ _ _ _ _ _).symm)) (Rx.out.set4 hltR _ _ _ _) (Gf.out.set4 (Nat.le_refl _) _ _ _ _)
 | false=>
  have Hm:Hid (tokB 4 [45] T=false):=hid (by rw[← HT.out];exact (tokB_hd (by decide) _ _).trans hm)
  by_cases hk2:T.kind=2
  ·have Hq0:=hid (thing_num (q:=q) (by rw[HT.out];exact hk2))
   have hk2':(T.kind == 2)=true:=by simpa using hk2
   have Hk2:=hid hk2
   clear hm hk2
   go_enter Tryz.func225,Tryz.ntmps225
   go_wp2_with fail
   rw[HW1.out]
   refine HH.out.mono ?_
   rintro e w2 ⟨rfl,b2⟩
   have hn2:w.heap.size < w2.heap.size:=by have:=Hr1.out.lt;have:=b2.size;omega
   obtain⟨W3,hW3⟩:∃ W3,w2.alloc (.cells #[.int .i64 T.kind,.string T.s,.int .i64 T.line] 89)=W3:=⟨_,rfl⟩
   have hb3:Below w2.heap.size w2 W3:=by rw[← hW3];exact HB0.out w2 _
   have hr3:Row w2.heap.size 89 [.int .i64 T.kind,.string T.s,.int .i64 T.line] W3:=by rw[← hW3];exact Row.new w2 _ _
   have B3:=hid (Hb1.out.trans ((b2.mono Hb1.out.size).trans (hb3.mono (by omega))))
   have Hr3:=hid ((Hr1.out.below b2 Hr1.out.lt).below hb3 hn2)
   have Ht3:=hid hr3
   have HW3:=hid hW3
   clear b2 hW3 hb3 hr3
   go_wp2_with fail
   rw[HW3.out]
   refine (isSgn_c T ⟨#[45]⟩ false Hm.out W3).mono ?_
   rintro e w4 ⟨rfl,b4⟩
   have B4:=hid (B3.out.trans (b4.mono B3.out.size))
   have Hr4:=hid (Hr3.out.below b4 Hr3.out.lt)
   have Ht4:=hid (Ht3.out.below b4 Ht3.out.lt)
   have R4:=hid (H.out.below B4.out)
   obtain⟨d0,d1,d2,e3⟩:=Ht4.out.r3
   clear b4
   have Hrp:=Hr4
   have G4:=hid (Gr.of_below (R:=C.R) B4.out)
   go_wp2_with fail
   refine (rnumber_c C du ru q false w4 R4.out).mono ?_
   rintro e w6 ⟨hm,g⟩
   cases hp:numQ false q with
   | error z=>
    rw[hp] at hm
    obtain rfl:=hm
    have Hq:=hid (Hq0.out.trans hp)
    have hrt:=Hrp.out.gr g (by omega)
    obtain⟨c0,c1,c2,c3,f3⟩:=hrt.r4
    have Gf:=hid (G4.out.trans g)
    clear hp g hrt
    go_wp2
    refine bodyPost_ret (v:=.tuple #[.agg #[.int .i64 0,.string ⟨#[]⟩,.int .i64 0,.slice none 0 0],flawV z.1 z.2]) (by simp[results,Tryz.results225,go_sem,c0,c1,c2,c3]) rfl ?_
    exact TmR.bad Hq.out (Gf.out.set4 (Nat.le_refl _) _ _ _ _)
   | ok y=>
    obtain⟨x,p⟩:=y
    rw[hp] at hm
    obtain⟨o,cap,rfl,tx,rx⟩:=hm
    have Hq:=hid (Hq0.out.trans hp)
    have hrt:=Hrp.out.gr g (by omega)
    obtain⟨c0,c1,c2,c3,f3⟩:=hrt.r4
    have Gf:=hid (G4.out.trans g)
    have Tx:=hid tx
    have Rx:=hid rx
    have hnp:=Hrp.out.lt
    clear hp g hrt tx rx
    go_wp2
    refine bodyPost_ret (v:=.tuple #[.agg #[.int .i64 x.op,.string x.s,.int .i64 x.n,.slice o x.l.length cap],.nilIface]) (by simp[results,Tryz.results225,go_sem,c0,c1,c2,c3]) rfl ?_
    exact TmR.ok Hq.out rfl rfl rfl rfl (((Tx.out.set4 hnp _ _ _ _).lower (Nat.le_of_lt hnp)).more (Nat.le_of_eq (set4_size _ _ _ _ _ _).symm)) (Rx.out.set4 hltR _ _ _ _) (Gf.out.set4 (Nat.le_refl _) _ _ _ _)
  ·have hk2':(T.kind == 2)=false:=by simpa using hk2
   by_cases hk3:T.kind=3
   ·have hne:q≠[]:=by
     rintro rfl
     have:T0.kind=3:=by rw[show T0=T from HT.out];exact hk3
     cases this
    have Hne:=hid hne
    have Hq:Hid (thingP q=.ok (.mk 3 T.s 0 [],q.tail)):=hid (by rw[thing_text (q:=q) (by rw[HT.out];exact hk3),HT.out])
    have hk3':(T.kind == 3)=true:=by simpa using hk3
    have Hk2:=hid hk2
    have Hk3:=hid hk3
    clear hm hk2 hk3 hne
    go_enter Tryz.func225,Tryz.ntmps225
    go_wp2_with fail
    rw[HW1.out]
    refine HH.out.mono ?_
    rintro e w2 ⟨rfl,b2⟩
    have hn2:w.heap.size < w2.heap.size:=by have:=Hr1.out.lt;have:=b2.size;omega
    obtain⟨W3,hW3⟩:∃ W3,w2.alloc (.cells #[.int .i64 T.kind,.string T.s,.int .i64 T.line] 89)=W3:=⟨_,rfl⟩
    have hb3:Below w2.heap.size w2 W3:=by rw[← hW3];exact HB0.out w2 _
    have hr3:Row w2.heap.size 89 [.int .i64 T.kind,.string T.s,.int .i64 T.line] W3:=by rw[← hW3];exact Row.new w2 _ _
    have B3:=hid (Hb1.out.trans ((b2.mono Hb1.out.size).trans (hb3.mono (by omega))))
    have Hr3:=hid ((Hr1.out.below b2 Hr1.out.lt).below hb3 hn2)
    have Ht3:=hid hr3
    have HW3:=hid hW3
    clear b2 hW3 hb3 hr3
    go_wp2_with fail
    rw[HW3.out]
    refine (isSgn_c T ⟨#[45]⟩ false Hm.out W3).mono ?_
    rintro e w4 ⟨rfl,b4⟩
    have B4:=hid (B3.out.trans (b4.mono B3.out.size))
    have Hr4:=hid (Hr3.out.below b4 Hr3.out.lt)
    have Ht4:=hid (Ht3.out.below b4 Ht3.out.lt)
    have R4:=hid (H.out.below B4.out)
    obtain⟨d0,d1,d2,e3⟩:=Ht4.out.r3
    clear b4
    go_wp2_with fail
    refine (step_c C du ru q Hne.out w4 R4.out).mono ?_
    rintro e w5 ⟨rfl,r5,g5⟩
    have R5:=hid r5
    have G5:=hid ((Gr.of_below B4.out).trans g5)
    have Hr5:=hid (Hr4.out.gr g5 (by omega))
    have s1:=(Ht4.out.gr g5 (by omega)).at 1 _ rfl
    clear r5 g5 d0 d1 d2 e3
    go_wp2_with fail
    refine (dclone_c T.s w5 hI2).mono ?_
    rintro e w6 ⟨rfl,b6⟩
    have R6:=hid (R5.out.below b6)
    have G6:=hid (G5.out.trans (Gr.of_below b6))
    obtain⟨c0,c1,c2,c3,f3⟩:=(Hr5.out.below b6 Hr5.out.lt).r4
    clear b6
    go_wp2
    refine bodyPost_ret (v:=.tuple #[.agg #[.int .i64 3,.string T.s,.int .i64 0,.slice none 0 0],.nilIface]) (by simp[results,Tryz.results225,go_sem,c0,c1,c2,c3]) rfl ?_
    exact TmR.ok Hq.out rfl rfl rfl rfl (.nil 3 T.s 0 (by unfold I64;decide) (by unfold maxLen;omega) (by unfold I64;decide)) (R6.out.set4 hltR _ _ _ _) (G6.out.set4 (Nat.le_refl _) _ _ _ _)
   ·have hk3':(T.kind == 3)=false:=by simpa using hk3
    cases hb:nextB 4 [40] q with
    | true=>
     have hne:q≠[]:=by rintro rfl;cases hb
     have Hb:Hid (tokB 4 [40] T=true):=hid (by rw[← HT.out];exact (tokB_hd (by decide) _ _).trans hb)
     have Hq0:=hid (thing_brack hb)
     have Hne:=hid hne
     have Hk2:=hid hk2
     have Hk3:=hid hk3
     clear hm hb hk2 hk3 hne
     go_enter Tryz.func225,Tryz.ntmps225
     go_wp2_with fail
     rw[HW1.out]
     refine HH.out.mono ?_
     rintro e w2 ⟨rfl,b2⟩
     have hn2:w.heap.size < w2.heap.size:=by have:=Hr1.out.lt;have:=b2.size;omega
     obtain⟨W3,hW3⟩:∃ W3,w2.alloc (.cells #[.int .i64 T.kind,.string T.s,.int .i64 T.line] 89)=W3:=⟨_,rfl⟩
     have hb3:Below w2.heap.size w2 W3:=by rw[← hW3];exact HB0.out w2 _
     have hr3:Row w2.heap.size 89 [.int .i64 T.kind,.string T.s,.int .i64 T.line] W3:=by rw[← hW3];exact Row.new w2 _ _
     have B3:=hid (Hb1.out.trans ((b2.mono Hb1.out.size).trans (hb3.mono (by omega))))
     have Hr3:=hid ((Hr1.out.below b2 Hr1.out.lt).below hb3 hn2)
     have Ht3:=hid hr3
     have HW3:=hid hW3
     clear b2 hW3 hb3 hr3
     go_wp2_with fail
     rw[HW3.out]
     refine (isSgn_c T ⟨#[45]⟩ false Hm.out W3).mono ?_
     rintro e w4 ⟨rfl,b4⟩
     have B4:=hid (B3.out.trans (b4.mono B3.out.size))
     have Hr4:=hid (Hr3.out.below b4 Hr3.out.lt)
     have Ht4:=hid (Ht3.out.below b4 Ht3.out.lt)
     have R4:=hid (H.out.below B4.out)
     obtain⟨d0,d1,d2,e3⟩:=Ht4.out.r3
     clear b4
     go_wp2_with fail
     refine (isSgn_c T ⟨#[40]⟩ true Hb.out w4).mono ?_
     rintro e w5 ⟨rfl,b5⟩
     have R5:=hid (R4.out.below b5)
     have G5:=hid (Gr.of_below (R:=C.R) (B4.out.trans (b5.mono B4.out.size)))
     have Hrp:=hid (Hr4.out.below b5 Hr4.out.lt)
     clear b5
     go_wp2_with fail
     refine (HIH.out Hne.out C du ru w5 R5.out).mono ?_
     rintro e w6 ⟨hm,g⟩
     cases hp:brackP q with
     | error z=>
      rw[hp] at hm
      obtain rfl:=hm
      have Hq:=hid (Hq0.out.trans hp)
      have hrt:=Hrp.out.gr g (by omega)
      obtain⟨c0,c1,c2,c3,f3⟩:=hrt.r4
      have Gf:=hid (G5.out.trans g)
      clear hp g hrt
      go_wp2
      refine bodyPost_ret (v:=.tuple #[.agg #[.int .i64 0,.string ⟨#[]⟩,.int .i64 0,.slice none 0 0],flawV z.1 z.2]) (by simp[results,Tryz.results225,go_sem,c0,c1,c2,c3]) rfl ?_
      exact TmR.bad Hq.out (Gf.out.set4 (Nat.le_refl _) _ _ _ _)
     | ok y=>
      obtain⟨x,p⟩:=y
      rw[hp] at hm
      obtain⟨o,cap,rfl,tx,rx⟩:=hm
      have Hq:=hid (Hq0.out.trans hp)
      have hrt:=Hrp.out.gr g (by omega)
      obtain⟨c0,c1,c2,c3,f3⟩:=hrt.r4
      have Gf:=hid (G5.out.trans g)
      have Tx:=hid tx
      have Rx:=hid rx
      have hnp:=Hrp.out.lt
      clear hp g hrt tx rx
      go_wp2
      refine bodyPost_ret (v:=.tuple #[.agg #[.int .i64 x.op,.string x.s,.int .i64 x.n,.slice o x.l.length cap],.nilIface]) (by simp[results,Tryz.results225,go_sem,c0,c1,c2,c3]) rfl ?_
      exact TmR.ok Hq.out rfl rfl rfl rfl (((Tx.out.set4 hnp _ _ _ _).lower (Nat.le_of_lt hnp)).more (Nat.le_of_eq (set4_size _ _ _ _ _ _).symm)) (Rx.out.set4 hltR _ _ _ _) (Gf.out.set4 (Nat.le_refl _) _ _ _ _)
    | false=>
     have Hb:Hid (tokB 4 [40] T=false):=hid (by rw[← HT.out];exact (tokB_hd (by decide) _ _).trans hb)
     have Hq0:=hid (thing_else hm (by rw[HT.out];exact hk2) (by rw[HT.out];exact hk3) hb)
     have Hk2:=hid hk2
     have Hk3:=hid hk3
     clear hm hb hk2 hk3
     go_enter Tryz.func225,Tryz.ntmps225
     go_wp2_with fail
     rw[HW1.out]
     refine HH.out.mono ?_
     rintro e w2 ⟨rfl,b2⟩
     have hn2:w.heap.size < w2.heap.size:=by have:=Hr1.out.lt;have:=b2.size;omega
     obtain⟨W3,hW3⟩:∃ W3,w2.alloc (.cells #[.int .i64 T.kind,.string T.s,.int .i64 T.line] 89)=W3:=⟨_,rfl⟩
     have hb3:Below w2.heap.size w2 W3:=by rw[← hW3];exact HB0.out w2 _
     have hr3:Row w2.heap.size 89 [.int .i64 T.kind,.string T.s,.int .i64 T.line] W3:=by rw[← hW3];exact Row.new w2 _ _
     have B3:=hid (Hb1.out.trans ((b2.mono Hb1.out.size).trans (hb3.mono (by omega))))
     have Hr3:=hid ((Hr1.out.below b2 Hr1.out.lt).below hb3 hn2)
     have Ht3:=hid hr3
     have HW3:=hid hW3
     clear b2 hW3 hb3 hr3
     go_wp2_with fail
     rw[HW3.out]
     refine (isSgn_c T ⟨#[45]⟩ false Hm.out W3).mono ?_
     rintro e w4 ⟨rfl,b4⟩
     have B4:=hid (B3.out.trans (b4.mono B3.out.size))
     have Hr4:=hid (Hr3.out.below b4 Hr3.out.lt)
     have Ht4:=hid (Ht3.out.below b4 Ht3.out.lt)
     have R4:=hid (H.out.below B4.out)
     obtain⟨d0,d1,d2,e3⟩:=Ht4.out.r3
     clear b4
     go_wp2_with fail
     refine (isSgn_c T ⟨#[40]⟩ false Hb.out w4).mono ?_
     rintro e w5 ⟨rfl,b5⟩
     have R5:=hid (R4.out.below b5)
     have G5:=hid (Gr.of_below (R:=C.R) (B4.out.trans (b5.mono B4.out.size)))
     have Hrp:=hid (Hr4.out.below b5 Hr4.out.lt)
     clear b5
     go_wp2_with fail
     refine (name_c C du ru q w5 R5.out).mono ?_
     rintro e w6 ⟨hm,g⟩
     cases hp:nameP q with
     | error z=>
      rw[hp] at hm
      obtain rfl:=hm
      have Hq:Hid (thingP q=.error (z.1,z.2)):=hid (by rw[Hq0.out,hp])
      obtain⟨c0,c1,c2,c3,f3⟩:=(Hrp.out.gr g (by omega)).r4
      have Gf:=hid (G5.out.trans g)
      clear hp g
      go_wp2
      refine bodyPost_ret (v:=.tuple #[.agg #[.int .i64 0,.string ⟨#[]⟩,.int .i64 0,.slice none 0 0],flawV z.1 z.2]) (by simp[results,Tryz.results225,go_sem,c0,c1,c2,c3]) rfl ?_
      exact TmR.bad Hq.out (Gf.out.set4 (Nat.le_refl _) _ _ _ _)
     | ok y=>
      obtain⟨s,p⟩:=y
      rw[hp] at hm
      obtain⟨rfl,rx⟩:=hm
      have Hq:Hid (thingP q=.ok (.mk 1 s 0 [],p)):=hid (by rw[Hq0.out,hp])
      have hss:s.size≤1073741824:=by
       obtain⟨t,ht,_,rfl⟩:=nameP_ok hp
       exact (H.out.goodq t (by rw[ht];simp)).size
      obtain⟨c0,c1,c2,c3,f3⟩:=(Hrp.out.gr g (by omega)).r4
      have Gf:=hid (G5.out.trans g)
      have Rx:=hid rx
      clear hp g rx
      go_wp2
      refine bodyPost_ret (v:=.tuple #[.agg #[.int .i64 1,.string s,.int .i64 0,.slice none 0 0],.nilIface]) (by simp[results,Tryz.results225,go_sem,c0,c1,c2,c3]) rfl ?_
      exact TmR.ok Hq.out rfl rfl rfl rfl (.nil 1 s 0 (by unfold I64;decide) (by unfold maxLen;omega) (by unfold I64;decide)) (Rx.out.set4 hltR _ _ _ _) (Gf.out.set4 (Nat.le_refl _) _ _ _ _)
def opSum (t:TokI):Int:=if tokB 4 [43] t=true then 5 else if tokB 4 [45] t=true then 6 else 0
def opMul (t:TokI):Int:=if tokB 4 [42] t=true then 7 else 0
set_option maxHeartbeats 1000000 in
theorem productSign_c (t:TokI) (w:World):Calls Tryz.prog 226 #[tokW t] w fun e w'=>e=.returned (.int .i64 (opMul t))∧Below w.heap.size w w':=by
 have HB0:Hid (∀ (x:Obj),Below w.heap.size w (w.alloc x)):=hid fun x=>(Below.refl _ _).alloc (Nat.le_refl _) _
 cases hb:tokB 4 [42] t with
 | true=>
  have Hb:=hid hb
  have Ho:Hid (opMul t=7):=hid (by unfold opMul;rw[hb];rfl)
  clear hb
  go_enter Tryz.func226,Tryz.ntmps226
  go_wp2_with fail
  refine (isSgn_c t ⟨#[42]⟩ true Hb.out _).mono ?_
  rintro e w1 ⟨rfl,b1⟩
  have B1:=hid ((HB0.out _).trans (b1.mono (by simp)))
  clear b1
  go_wp2
  go_ret
  exact⟨by rw[Ho.out];rfl,B1.out⟩
 | false=>
  have Hb:=hid hb
  have Ho:Hid (opMul t=0):=hid (by unfold opMul;rw[hb];rfl)
  clear hb
  go_enter Tryz.func226,Tryz.ntmps226
  go_wp2_with fail
  refine (isSgn_c t ⟨#[42]⟩ false Hb.out _).mono ?_
  rintro e w1 ⟨rfl,b1⟩
  have B1:=hid ((HB0.out _).trans (b1.mono (by simp)))
  clear b1
  go_wp2
  go_ret
  exact⟨by rw[Ho.out];rfl,B1.out⟩
set_option maxHeartbeats 2000000 in
theorem sumSign_c (t:TokI) (w:World):Calls Tryz.prog 216 #[tokW t] w fun e w'=>e=.returned (.int .i64 (opSum t))∧Below w.heap.size w w':=by
 have HB0:Hid (∀ (x:Obj),Below w.heap.size w (w.alloc x)):=hid fun x=>(Below.refl _ _).alloc (Nat.le_refl _) _
 cases hb:tokB 4 [43] t with
 | true=>
  have Hb:=hid hb
  have Ho:Hid (opSum t=5):=hid (by unfold opSum;rw[hb];rfl)
  clear hb
  go_enter Tryz.func216,Tryz.ntmps216
  go_wp2_with fail
  refine (isSgn_c t ⟨#[43]⟩ true Hb.out _).mono ?_
  rintro e w1 ⟨rfl,b1⟩
  have B1:=hid ((HB0.out _).trans (b1.mono (by simp)))
  clear b1
  go_wp2
  go_ret
  exact⟨by rw[Ho.out];rfl,B1.out⟩
 | false=>
  cases hc:tokB 4 [45] t with
  | true=>
   have Hb:=hid hb
   have Hc:=hid hc
   have Ho:Hid (opSum t=6):=hid (by unfold opSum;rw[hb,hc];rfl)
   clear hb hc
   go_enter Tryz.func216,Tryz.ntmps216
   go_wp2_with fail
   refine (isSgn_c t ⟨#[43]⟩ false Hb.out _).mono ?_
   rintro e w1 ⟨rfl,b1⟩
   have hr1:=(Row.new w 89 [.int .i64 t.kind,.string t.s,.int .i64 t.line]).below b1 (by simp)
   obtain⟨c0,c1,c2,f3⟩:=hr1.r3
   have B1:=hid ((HB0.out _).trans (b1.mono (by simp)))
   clear b1 hr1
   go_wp2_with fail
   refine (isSgn_c t ⟨#[45]⟩ true Hc.out _).mono ?_
   rintro e w2 ⟨rfl,b2⟩
   have B2:=hid (B1.out.trans (b2.mono B1.out.size))
   clear b2
   go_wp2
   go_ret
   exact⟨by rw[Ho.out];rfl,B2.out⟩
  | false=>
   have Hb:=hid hb
   have Hc:=hid hc
   have Ho:Hid (opSum t=0):=hid (by unfold opSum;rw[hb,hc];rfl)
   clear hb hc
   go_enter Tryz.func216,Tryz.ntmps216
   go_wp2_with fail
   refine (isSgn_c t ⟨#[43]⟩ false Hb.out _).mono ?_
   rintro e w1 ⟨rfl,b1⟩
   have hr1:=(Row.new w 89 [.int .i64 t.kind,.string t.s,.int .i64 t.line]).below b1 (by simp)
   obtain⟨c0,c1,c2,f3⟩:=hr1.r3
   have B1:=hid ((HB0.out _).trans (b1.mono (by simp)))
   clear b1 hr1
   go_wp2_with fail
   refine (isSgn_c t ⟨#[45]⟩ false Hc.out _).mono ?_
   rintro e w2 ⟨rfl,b2⟩
   have B2:=hid (B1.out.trans (b2.mono B1.out.size))
   clear b2
   go_wp2
   go_ret
   exact⟨by rw[Ho.out];rfl,B2.out⟩
def hide (b:Nat) (w:World):World:={ w with heap:=w.heap.mapIdx fun i o=>if i=b then .cells #[] 0 else o }
theorem hide_heap (b:Nat) (w:World) (k:Nat):(hide b w).heap[k]?=(w.heap[k]?).map fun o=>if k=b then .cells #[] 0 else o:=by simp[hide]
theorem hide_other {b k:Nat} (w:World) (h:k≠b):(hide b w).heap[k]?=w.heap[k]?:=by
 rw[hide_heap]
 cases hw:w.heap[k]? with
 | none=>rfl
 | some o=>rw[Option.map_some,if_neg h]
theorem hide_cell {b:Nat} {w:World} {p:Addr} {v:Value}:(hide b w).cell? p=some v ↔ p.block≠b∧w.cell? p=some v:=by
 by_cases hp:p.block=b
 ·constructor
  ·intro h
   exfalso
   unfold World.cell? at h
   rw[hide_heap] at h
   cases hw:w.heap[p.block]? with
   | none=>rw[hw] at h;simp at h
   | some o=>rw[hw,Option.map_some,if_pos hp] at h;simp at h
  ·rintro⟨h,_⟩
   exact absurd hp h
 ·rw[World.cell?_of_block (hide_other w hp)]
  exact⟨fun h=>⟨hp,h⟩,fun h=>h.2⟩
theorem visHide (L b:Nat) (w:World):Vis (past L (hide b w)) (past L w):=fun _ _ h=>past_cell.2 ⟨(past_cell.1 h).1,(hide_cell.1 (past_cell.1 h).2).2⟩
theorem visHidden {L L' b:Nat} {w w':World} (hL:L'≤L) (h:∀ k,L≤k→k≠b→k < w.heap.size→w'.heap[k]?=w.heap[k]?):Vis (past L (hide b w)) (past L' (hide b w')):=fun p v hc=>by
 obtain⟨h1,h2⟩:=past_cell.1 hc
 obtain⟨h3,h4⟩:=hide_cell.1 h2
 have hlt:p.block < w.heap.size:=by
  unfold World.cell? at h4
  rcases Nat.lt_or_ge p.block w.heap.size with hlt | hge
  ·exact hlt
  ·rw[Array.getElem?_eq_none hge] at h4
   simp at h4
 exact past_cell.2 ⟨Nat.le_trans hL h1,hide_cell.2 ⟨h3,(World.cell?_of_block (h _ h1 h3 hlt)).trans h4⟩⟩
theorem tm_hidden {L B b:Nat} {w:World} {t:Tm} {cs:List Value} (h:TmC (past L w) B t cs) (hb:B≤b):TmC (past L (hide b w)) B t cs:=by
 refine h.under ⟨rfl,rfl,rfl,by simp[past,hide],fun k hk=>?_⟩
 rw[past_heap,past_heap,hide_other w (by omega)]
theorem tm_above {L b B:Nat} {w:World} {t:Tm} {cs:List Value} (h:TmC (past L w) B t cs) (hb:b < L) {L':Nat} (hL:L'≤L):TmC (past L' (hide b w)) B t cs:=
 h.vis fun p v hc=>by
  obtain⟨h1,h2⟩:=past_cell.1 hc
  exact past_cell.2 ⟨Nat.le_trans hL h1,hide_cell.2 ⟨by omega,h2⟩⟩
theorem row_hide {n b:Nat} {T:TypeId} {cs:List Value} {w:World} (h:Row n T cs w) (hn:n≠b):Row n T cs (hide b w):=(hide_other w hn).trans h
theorem cells_app {w:World} {a:Addr} {o:Nat} {xs ys:List Value} (h:CellsAt w a o (xs++ys)):CellsAt w a o xs∧CellsAt w a (o+xs.length) ys:=by
 constructor
 ·intro j c hj
  exact h j c (by rw[List.getElem?_append_left (List.getElem?_eq_some_iff.1 hj).1];exact hj)
 ·intro j c hj
  have:=h (xs.length+j) c (by rw[List.getElem?_append_right (by omega),show xs.length+j - xs.length=j by omega];exact hj)
  rwa [← Nat.add_assoc] at this
theorem two_laid {V:World} {B n:Nat} {T:TypeId} {op:Int} {x y:Tm} {ox oy:Option Addr} {kx ky:Nat} (hop:I64 op) (hx:TmC V B x (tmCells x ox kx)) (hy:TmC V B y (tmCells y oy ky)) (hr:Row n T (tmCells x ox kx++tmCells y oy ky) V) (hn:n < B) :
  TmC V B (.mk op ⟨#[]⟩ 0 [x,y]) [.int .i64 op,.string ⟨#[]⟩,.int .i64 0,.slice (some ⟨n,0,none⟩) 2 2]:=by
 obtain⟨h1,h2⟩:=cells_app hr.cells
 refine TmC.of hop (by decide) (by unfold I64;decide) (.inr ⟨⟨n,0,none⟩,2,rfl,Nat.le_refl _,by decide,fun _=>hn,fun i z hz=>?_⟩)
 match i,hz with
 | 0,hz=>
  simp only[List.getElem?_cons_zero,Option.some.injEq] at hz
  subst hz
  exact⟨_,rfl,hx,h1⟩
 | 1,hz=>
  simp only[List.getElem?_cons_succ,List.getElem?_cons_zero,Option.some.injEq] at hz
  subst hz
  exact⟨_,rfl,hy,h2⟩
 | k+2,hz=>simp at hz
end Go.Proofs.YtdgbajnhhhjbcaaGreatDoor
