/- Rl9@012, Rm1@012 -/
import Derived.Maps.OwnIn
import Derived.Test.YtdgbajnhhhjbcaaGreatDoorQ39
set_option linter.unusedSimpArgs false
namespace Go.Proofs.YtdgbajnhhhjbcaaGreatDoor
open Lib(hid)
open Go.RowKit
theorem wi_lt {L:Nat} {w:World} {B:Nat} {op:Int} {a:Am} {o:Option Addr} {c:Nat} (hop:I64 op) (hs:a.rel.size≤maxLen) (h:TmS (past L w) B a.l (.slice o a.l.length c)):LtC (past L w) B ⟨op,a,noTm,noTm⟩ (ltCells ⟨op,a,noTm,noTm⟩ o c none 0 none 0):=
 ⟨[.string a.rel,.slice o a.l.length c],zeroCells,zeroCells,rfl,hop,⟨_,rfl,hs,h⟩,tm_zero _ _,tm_zero _ _⟩
set_option maxRecDepth 100000 in
set_option maxHeartbeats 16000000 in
theorem part_c (C:RC) (du ru:Value) (q:List TokI) (w:World) (h:Rd C du ru q w) :
  Calls Tryz.prog 130 #[.pointer (some ⟨C.R,0,none⟩)] w (LtR C du ru (partQ q) w):=by
 have hltR:=h.lt
 obtain⟨n0,hn0⟩:∃ n0,w.heap.size=n0:=⟨_,rfl⟩
 obtain⟨W1,hW1⟩:∃ W1,(w.alloc (.cells #[.int .i64 0,.string ⟨#[]⟩,.slice none 0 0,.int .i64 0,.string ⟨#[]⟩,.int .i64 0,.slice none 0 0,.int .i64 0,.string ⟨#[]⟩,.int .i64 0,.slice none 0 0] 66)).alloc (.cells #[.int .i64 1,.string ⟨#[]⟩,.slice none 0 0,.int .i64 0,.string ⟨#[]⟩,.int .i64 0,.slice none 0 0,.int .i64 0,.string ⟨#[]⟩,.int .i64 0,.slice none 0 0] 66)=W1:=⟨_,rfl⟩
 have hb1:Below w.heap.size w W1:=by rw[← hW1];exact ((Below.refl _ _).alloc (Nat.le_refl _) _).alloc (by simp) _
 have hr1:Row n0 66 ltZero W1:=by
  rw[← hW1,← hn0]
  exact Row.al (Row.new w 66 ltZero) _
 have hr2:Row (n0+1) 66 [.int .i64 1,.string ⟨#[]⟩,.slice none 0 0,.int .i64 0,.string ⟨#[]⟩,.int .i64 0,.slice none 0 0,.int .i64 0,.string ⟨#[]⟩,.int .i64 0,.slice none 0 0] W1:=by
  have:=Row.new (w.alloc (.cells #[.int .i64 0,.string ⟨#[]⟩,.slice none 0 0,.int .i64 0,.string ⟨#[]⟩,.int .i64 0,.slice none 0 0,.int .i64 0,.string ⟨#[]⟩,.int .i64 0,.slice none 0 0] 66)) 66 [.int .i64 1,.string ⟨#[]⟩,.slice none 0 0,.int .i64 0,.string ⟨#[]⟩,.int .i64 0,.slice none 0 0,.int .i64 0,.string ⟨#[]⟩,.int .i64 0,.slice none 0 0]
  rw[World.size_alloc,hn0] at this
  rw[← hW1]
  exact this
 have hs1:W1.heap.size=n0+2:=by rw[← hW1];simp[hn0]
 have R1:=hid (h.below hb1)
 have HG:=hid (good_hd h.goodq)
 have HW1:=hid hW1
 have G1:=hid (Gr.of_below (R:=C.R) hb1)
 have Hr1:=hid hr1
 have Hs1:=hid hs1
 have Hn0:=hid hn0
 have Ht1:=hid hr2
 rw[hn0] at hltR
 clear h hW1 hb1 hr1 hr2 hs1
 cases hx:nextB 4 [33] q with
 | true=>
  have HQ:Hid (partQ q=litP 2 q.tail):=hid (by unfold partQ;rw[if_pos hx])
  have HS:=hid (skip_c C du ru q ⟨#[33]⟩ W1 R1.out)
  have Hx:=hid hx
  clear hx
  go_enter Tryz.func130,Tryz.ntmps130
  go_wp2_with fail
  rw[HW1.out]
  refine HS.out.mono ?_
  rintro e w2 ⟨rfl,r2,g2⟩
  rw[show nextB 4 (⟨#[33]⟩:ByteArray).data.toList q=true from Hx.out] at r2 ⊢
  rw[if_pos rfl] at r2
  have R2:=hid r2
  have Hr2:=hid (Hr1.out.gr g2 (by omega))
  have Ht2:=hid (Ht1.out.gr g2 (by omega))
  have G2:=hid (G1.out.trans g2)
  have S2:=hid (show n0+2≤w2.heap.size by have:=g2.size;have:=Hs1.out;omega)
  clear r2 g2
  have t0:=Ht2.out.at 0 _ rfl
  have t1:=Ht2.out.at 1 _ rfl
  have t2:=Ht2.out.at 2 _ rfl
  have t3:=Ht2.out.at 3 _ rfl
  have t4:=Ht2.out.at 4 _ rfl
  have t5:=Ht2.out.at 5 _ rfl
  have t6:=Ht2.out.at 6 _ rfl
  have t7:=Ht2.out.at 7 _ rfl
  have t8:=Ht2.out.at 8 _ rfl
  have t9:=Ht2.out.at 9 _ rfl
  have t10:=Ht2.out.at 10 _ rfl
  have ft:=Ht2.out.frz
  have hlt2:=Ht2.out.lt
  obtain⟨V3,hV3⟩:∃ V3,w2.setCell ⟨n0+1,0,none⟩ (.int .i64 2)=V3:=⟨_,rfl⟩
  have hV3b:boxW (n0+1) 0 [.int .i64 2] w2=V3:=hV3
  have R3:=hid (show Rd C du ru q.tail V3 by rw[← hV3b];exact R2.out.box (by omega))
  have G3:=hid (show Gr C.R w V3 by rw[← hV3b];exact G2.out.box (by have:=Hn0.out;omega) 0 _)
  have Hr3:=hid (show Row n0 66 ltZero V3 by rw[← hV3b];exact (boxW_other _ _ _ _ n0 (by omega)).trans Hr2.out)
  have S3:=hid (show n0+2≤V3.heap.size by rw[← hV3b,boxW_size];exact S2.out)
  have HV3:=hid hV3
  clear hV3 hV3b
  go_wp2_with fail
  rw[HV3.out]
  refine (withAtom_c C du ru 2 noTm noTm none 0 none 0 q.tail V3 R3.out).mono ?_
  rintro e w9 ⟨hm,g9⟩
  have Hr9:=hid (Hr3.out.gr g9 (by omega))
  have G9:=hid (G3.out.trans g9)
  have hlt:=Hr9.out.lt
  clear g9 t0 t1 t2 t3 t4 t5 t6 t7 t8 t9 t10
  have b0:=Hr9.out.at 0 _ rfl
  have b1:=Hr9.out.at 1 _ rfl
  have b2:=Hr9.out.at 2 _ rfl
  have b3:=Hr9.out.at 3 _ rfl
  have b4:=Hr9.out.at 4 _ rfl
  have b5:=Hr9.out.at 5 _ rfl
  have b6:=Hr9.out.at 6 _ rfl
  have b7:=Hr9.out.at 7 _ rfl
  have b8:=Hr9.out.at 8 _ rfl
  have b9:=Hr9.out.at 9 _ rfl
  have b10:=Hr9.out.at 10 _ rfl
  have fb:=Hr9.out.frz
  cases ha:atomP q.tail with
  | error z=>
   rw[ha] at hm
   obtain rfl:=hm
   have Hq:Hid (partQ q=.error (z.1,z.2)):=hid (by rw[HQ.out];unfold litP;rw[ha])
   clear ha
   go_wp2
   refine bodyPost_ret (v:=.tuple #[.agg ltZero.toArray,flawV z.1 z.2]) (by simp[results,Tryz.results130,go_sem,b0,b1,b2,b3,b4,b5,b6,b7,b8,b9,b10]) rfl ?_
   exact LtR.bad Hq.out (G9.out.box (b:=n0) (by have:=Hn0.out;omega) 0 ltZero)
  | ok v=>
   obtain⟨a,p⟩:=v
   rw[ha] at hm
   obtain⟨o,c,rfl,hsz,hts,r9⟩:=hm
   have Hq:Hid (partQ q=.ok (⟨2,a,noTm,noTm⟩,p)):=hid (by rw[HQ.out];unfold litP;rw[ha])
   have Hlv:=hid (wi_lt (op:=2) (by unfold I64;decide) hsz hts)
   have R9:=hid r9
   clear ha hsz hts r9
   go_wp2
   refine bodyPost_ret (v:=.tuple #[.agg (ltCells ⟨2,a,noTm,noTm⟩ o c none 0 none 0).toArray,.nilIface]) (by simp[results,Tryz.results130,go_sem,b0,b1,b2,b3,b4,b5,b6,b7,b8,b9,b10,noTm,Tm.op,Tm.s,Tm.n,Tm.l]) rfl ?_
   exact LtR.good Hq.out (lt_box (b:=n0) (k:=0) (xs:=ltCells ⟨2,a,noTm,noTm⟩ o c none 0 none 0) Hlv.out (by have:=S3.out;omega) (by have:=S3.out;have:=Hn0.out;omega)) (R9.out.box (b:=n0) (k:=0) (xs:=ltCells ⟨2,a,noTm,noTm⟩ o c none 0 none 0) hltR) (G9.out.box (b:=n0) (by have:=Hn0.out;omega) 0 (ltCells ⟨2,a,noTm,noTm⟩ o c none 0 none 0))
 | false=>
  have HQ0:Hid (partQ q=if nmAt q=true∧nextB 4 [40] q.tail=true then litP 1 q else heldQ q):=hid (by unfold partQ;rw[if_neg (by rw[hx];decide)])
  have HS:=hid (skip_c C du ru q ⟨#[33]⟩ W1 R1.out)
  have Hx:=hid hx
  clear hx
  go_enter Tryz.func130,Tryz.ntmps130
  go_wp2_with fail
  rw[HW1.out]
  refine HS.out.mono ?_
  rintro e w2 ⟨rfl,r2,g2⟩
  rw[show nextB 4 (⟨#[33]⟩:ByteArray).data.toList q=false from Hx.out] at r2 ⊢
  rw[if_neg (by decide)] at r2
  have R2:=hid r2
  have Hr2:=hid (Hr1.out.gr g2 (by omega))
  have Ht2:=hid (Ht1.out.gr g2 (by omega))
  have G2:=hid (G1.out.trans g2)
  have S2:=hid (show n0+2≤w2.heap.size by have:=g2.size;have:=Hs1.out;omega)
  clear r2 g2
  go_wp2_with fail
  refine (here_c C du ru q w2 R2.out).mono ?_
  rintro e w3 ⟨rfl,b3⟩
  have Hr3:=hid (Hr2.out.below b3 Hr2.out.lt)
  have Ht3:=hid (Ht2.out.below b3 Ht2.out.lt)
  have G3:=hid (G2.out.trans (Gr.of_below b3))
  have R3:=hid (R2.out.below b3)
  have S3:=hid (Nat.le_trans S2.out b3.size)
  clear b3
  go_wp2_with fail
  refine (isName_c (hdT q) HG.out C.a w3 R3.out.env).mono ?_
  rintro e w4 ⟨rfl,b4⟩
  have Hr4:=hid (Hr3.out.below b4 Hr3.out.lt)
  have Ht4:=hid (Ht3.out.below b4 Ht3.out.lt)
  have G4:=hid (G3.out.trans (Gr.of_below b4))
  have R4:=hid (R3.out.below b4)
  have S4:=hid (Nat.le_trans S3.out b4.size)
  clear b4
  rw[nm_hd]
  cases hnm:nmAt q with
  | false=>
   have HQ:Hid (partQ q=heldQ q):=hid (by rw[HQ0.out,if_neg (by rw[hnm];rintro⟨h,_⟩;cases h)])
   clear hnm
   go_wp2_with fail
   refine (held_c C du ru q w4 R4.out).mono ?_
   rintro e w9 ⟨hm,g9⟩
   have Hr9:=hid (Hr4.out.gr g9 (by omega))
   have G9:=hid (G4.out.trans g9)
   have hlt:=Hr9.out.lt
   clear g9
   have b0:=Hr9.out.at 0 _ rfl
   have b1:=Hr9.out.at 1 _ rfl
   have b2:=Hr9.out.at 2 _ rfl
   have b3:=Hr9.out.at 3 _ rfl
   have b4:=Hr9.out.at 4 _ rfl
   have b5:=Hr9.out.at 5 _ rfl
   have b6:=Hr9.out.at 6 _ rfl
   have b7:=Hr9.out.at 7 _ rfl
   have b8:=Hr9.out.at 8 _ rfl
   have b9:=Hr9.out.at 9 _ rfl
   have b10:=Hr9.out.at 10 _ rfl
   have fb:=Hr9.out.frz
   cases ha:heldQ q with
   | error z=>
    rw[ha] at hm
    obtain rfl:=hm
    have Hq:Hid (partQ q=.error (z.1,z.2)):=hid (HQ.out.trans ha)
    clear ha
    go_wp2
    refine bodyPost_ret (v:=.tuple #[.agg ltZero.toArray,flawV z.1 z.2]) (by simp[results,Tryz.results130,go_sem,b0,b1,b2,b3,b4,b5,b6,b7,b8,b9,b10]) rfl ?_
    exact LtR.bad Hq.out (G9.out.box (b:=n0) (by have:=Hn0.out;omega) 0 ltZero)
   | ok v=>
    obtain⟨v,p⟩:=v
    rw[ha] at hm
    obtain⟨u0,d0,u1,d1,u2,d2,rfl,hlv,r9⟩:=hm
    have Hq:Hid (partQ q=.ok (v,p)):=hid (HQ.out.trans ha)
    have Hlv:=hid hlv
    have R9:=hid r9
    clear ha hlv r9
    go_wp2
    refine bodyPost_ret (v:=.tuple #[.agg (ltCells v u0 d0 u1 d1 u2 d2).toArray,.nilIface]) (by simp[results,Tryz.results130,go_sem,b0,b1,b2,b3,b4,b5,b6,b7,b8,b9,b10]) rfl ?_
    exact LtR.good Hq.out (lt_box (b:=n0) (k:=0) (xs:=ltCells v u0 d0 u1 d1 u2 d2) Hlv.out (by have:=S4.out;omega) (by have:=S4.out;have:=Hn0.out;omega)) (R9.out.box (b:=n0) (k:=0) (xs:=ltCells v u0 d0 u1 d1 u2 d2) hltR) (G9.out.box (b:=n0) (by have:=Hn0.out;omega) 0 (ltCells v u0 d0 u1 d1 u2 d2))
  | true=>
   go_wp2_with fail
   refine (further_c C 1 (Nat.le_refl _) du ru q w4 R4.out).mono ?_
   rintro e w5 ⟨rfl,b5⟩
   rw[getD_one]
   have Hr5:=hid (Hr4.out.below b5 Hr4.out.lt)
   have Ht5:=hid (Ht4.out.below b5 Ht4.out.lt)
   have G5:=hid (G4.out.trans (Gr.of_below b5))
   have R5:=hid (R4.out.below b5)
   have S5:=hid (Nat.le_trans S4.out b5.size)
   clear b5
   cases hp:nextB 4 [40] q.tail with
   | false=>
    have HQ:Hid (partQ q=heldQ q):=hid (by rw[HQ0.out,if_neg (by rw[hp];rintro⟨_,h⟩;cases h)])
    have hp2:tokB 4 (⟨#[40]⟩:ByteArray).data.toList (hdT q.tail)=false:=(tokB_hd (by decide) _ _).trans hp
    have Hp2:=hid hp2
    clear hp hp2 hnm
    go_wp2_with fail
    refine (isSgn_c (hdT q.tail) ⟨#[40]⟩ false Hp2.out w5).mono ?_
    rintro e w6 ⟨rfl,b6⟩
    have Hr6:=hid (Hr5.out.below b6 Hr5.out.lt)
    have Ht6:=hid (Ht5.out.below b6 Ht5.out.lt)
    have G6:=hid (G5.out.trans (Gr.of_below b6))
    have R6:=hid (R5.out.below b6)
    have S6:=hid (Nat.le_trans S5.out b6.size)
    clear b6
    go_wp2_with fail
    refine (held_c C du ru q w6 R6.out).mono ?_
    rintro e w9 ⟨hm,g9⟩
    have Hr9:=hid (Hr6.out.gr g9 (by omega))
    have G9:=hid (G6.out.trans g9)
    have hlt:=Hr9.out.lt
    clear g9
    have b0:=Hr9.out.at 0 _ rfl
    have b1:=Hr9.out.at 1 _ rfl
    have b2:=Hr9.out.at 2 _ rfl
    have b3:=Hr9.out.at 3 _ rfl
    have b4:=Hr9.out.at 4 _ rfl
    have b5:=Hr9.out.at 5 _ rfl
    have b6:=Hr9.out.at 6 _ rfl
    have b7:=Hr9.out.at 7 _ rfl
    have b8:=Hr9.out.at 8 _ rfl
    have b9:=Hr9.out.at 9 _ rfl
    have b10:=Hr9.out.at 10 _ rfl
    have fb:=Hr9.out.frz
    cases ha:heldQ q with
    | error z=>
     rw[ha] at hm
     obtain rfl:=hm
     have Hq:Hid (partQ q=.error (z.1,z.2)):=hid (HQ.out.trans ha)
     clear ha
     go_wp2
     refine bodyPost_ret (v:=.tuple #[.agg ltZero.toArray,flawV z.1 z.2]) (by simp[results,Tryz.results130,go_sem,b0,b1,b2,b3,b4,b5,b6,b7,b8,b9,b10]) rfl ?_
     exact LtR.bad Hq.out (G9.out.box (b:=n0) (by have:=Hn0.out;omega) 0 ltZero)
    | ok v=>
     obtain⟨v,p⟩:=v
     rw[ha] at hm
     obtain⟨u0,d0,u1,d1,u2,d2,rfl,hlv,r9⟩:=hm
     have Hq:Hid (partQ q=.ok (v,p)):=hid (HQ.out.trans ha)
     have Hlv:=hid hlv
     have R9:=hid r9
     clear ha hlv r9
     go_wp2
     refine bodyPost_ret (v:=.tuple #[.agg (ltCells v u0 d0 u1 d1 u2 d2).toArray,.nilIface]) (by simp[results,Tryz.results130,go_sem,b0,b1,b2,b3,b4,b5,b6,b7,b8,b9,b10]) rfl ?_
     exact LtR.good Hq.out (lt_box (b:=n0) (k:=0) (xs:=ltCells v u0 d0 u1 d1 u2 d2) Hlv.out (by have:=S6.out;omega) (by have:=S6.out;have:=Hn0.out;omega)) (R9.out.box (b:=n0) (k:=0) (xs:=ltCells v u0 d0 u1 d1 u2 d2) hltR) (G9.out.box (b:=n0) (by have:=Hn0.out;omega) 0 (ltCells v u0 d0 u1 d1 u2 d2))
   | true=>
    have HQ:Hid (partQ q=litP 1 q):=hid (by rw[HQ0.out,if_pos ⟨hnm,hp⟩])
    have hp2:tokB 4 (⟨#[40]⟩:ByteArray).data.toList (hdT q.tail)=true:=(tokB_hd (by decide) _ _).trans hp
    have Hp2:=hid hp2
    clear hp hp2 hnm
    go_wp2_with fail
    refine (isSgn_c (hdT q.tail) ⟨#[40]⟩ true Hp2.out w5).mono ?_
    rintro e w6 ⟨rfl,b6⟩
    have Hr6:=hid (Hr5.out.below b6 Hr5.out.lt)
    have Ht6:=hid (Ht5.out.below b6 Ht5.out.lt)
    have G6:=hid (G5.out.trans (Gr.of_below b6))
    have R6:=hid (R5.out.below b6)
    have S6:=hid (Nat.le_trans S5.out b6.size)
    clear b6
    have t0:=Ht6.out.at 0 _ rfl
    have t1:=Ht6.out.at 1 _ rfl
    have t2:=Ht6.out.at 2 _ rfl
    have t3:=Ht6.out.at 3 _ rfl
    have t4:=Ht6.out.at 4 _ rfl
    have t5:=Ht6.out.at 5 _ rfl
    have t6:=Ht6.out.at 6 _ rfl
    have t7:=Ht6.out.at 7 _ rfl
    have t8:=Ht6.out.at 8 _ rfl
    have t9:=Ht6.out.at 9 _ rfl
    have t10:=Ht6.out.at 10 _ rfl
    have ft:=Ht6.out.frz
    have hlt6:=Ht6.out.lt
    go_wp2_with fail
    refine (withAtom_c C du ru 1 noTm noTm none 0 none 0 q w6 R6.out).mono ?_
    rintro e w9 ⟨hm,g9⟩
    have Hr9:=hid (Hr6.out.gr g9 (by omega))
    have G9:=hid (G6.out.trans g9)
    have hlt:=Hr9.out.lt
    clear g9 t0 t1 t2 t3 t4 t5 t6 t7 t8 t9 t10
    have b0:=Hr9.out.at 0 _ rfl
    have b1:=Hr9.out.at 1 _ rfl
    have b2:=Hr9.out.at 2 _ rfl
    have b3:=Hr9.out.at 3 _ rfl
    have b4:=Hr9.out.at 4 _ rfl
    have b5:=Hr9.out.at 5 _ rfl
    have b6:=Hr9.out.at 6 _ rfl
    have b7:=Hr9.out.at 7 _ rfl
    have b8:=Hr9.out.at 8 _ rfl
    have b9:=Hr9.out.at 9 _ rfl
    have b10:=Hr9.out.at 10 _ rfl
    have fb:=Hr9.out.frz
    cases ha:atomP q with
    | error z=>
     rw[ha] at hm
     obtain rfl:=hm
     have Hq:Hid (partQ q=.error (z.1,z.2)):=hid (by rw[HQ.out];unfold litP;rw[ha])
     clear ha
     go_wp2
     refine bodyPost_ret (v:=.tuple #[.agg ltZero.toArray,flawV z.1 z.2]) (by simp[results,Tryz.results130,go_sem,b0,b1,b2,b3,b4,b5,b6,b7,b8,b9,b10]) rfl ?_
     exact LtR.bad Hq.out (G9.out.box (b:=n0) (by have:=Hn0.out;omega) 0 ltZero)
    | ok v=>
     obtain⟨a,p⟩:=v
     rw[ha] at hm
     obtain⟨o,c,rfl,hsz,hts,r9⟩:=hm
     have Hq:Hid (partQ q=.ok (⟨1,a,noTm,noTm⟩,p)):=hid (by rw[HQ.out];unfold litP;rw[ha])
     have Hlv:=hid (wi_lt (op:=1) (by unfold I64;decide) hsz hts)
     have R9:=hid r9
     clear ha hsz hts r9
     go_wp2
     refine bodyPost_ret (v:=.tuple #[.agg (ltCells ⟨1,a,noTm,noTm⟩ o c none 0 none 0).toArray,.nilIface]) (by simp[results,Tryz.results130,go_sem,b0,b1,b2,b3,b4,b5,b6,b7,b8,b9,b10,noTm,Tm.op,Tm.s,Tm.n,Tm.l]) rfl ?_
     exact LtR.good Hq.out (lt_box (b:=n0) (k:=0) (xs:=ltCells ⟨1,a,noTm,noTm⟩ o c none 0 none 0) Hlv.out (by have:=S6.out;omega) (by have:=S6.out;have:=Hn0.out;omega)) (R9.out.box (b:=n0) (k:=0) (xs:=ltCells ⟨1,a,noTm,noTm⟩ o c none 0 none 0) hltR) (G9.out.box (b:=n0) (by have:=Hn0.out;omega) 0 (ltCells ⟨1,a,noTm,noTm⟩ o c none 0 none 0))
end Go.Proofs.YtdgbajnhhhjbcaaGreatDoor
namespace Go.Proofs.YtdgbajnhhhjbcaaGreatDoor
open Lib(hid)
open Go.RowKit
attribute [local go_sem] Oper.semAt_some
theorem lays_lt:Lays LtC:=fun _ _ _ _ _ _ hv hb h=>Vis.lt h hv hb
theorem infoLt:(Tryz.prog.info? 66).map (fun i=>(i.zero,i.size,i.bytes))=some (some (.agg ltZero.toArray),11,160):=by kernel_rfl
theorem ap_own {n0 g cp k z:Nat} {ts te:TypeId} {o:Obj} {v2:Value} {xs2 cs:List Value} {W2 w3:World} (hv2:Row (n0+3) ts [v2] W2) (hown2:W2.ownsRow (n0+5) te z v2 k xs2)
  (hgrow:(W2.alloc o).grownBy w3 v2.ownBlock) (hown3:w3.ownsRow (n0+5) te z (.slice (some ⟨g,0,none⟩) (k+1) cp) (k+1) (xs2++cs)) (hat:(Value.slice (some ⟨g,0,none⟩) (k+1) cp).ownBlock=v2.ownBlock∨(Value.slice (some ⟨g,0,none⟩) (k+1) cp).ownBlock=some (W2.alloc o).heap.size) :
  Row (n0+3) ts [v2] w3∧ApI n0 v2 g W2 (w3.setCell ⟨n0+3,0,none⟩ (.slice (some ⟨g,0,none⟩) (k+1) cp))∧Row (n0+3) ts [.slice (some ⟨g,0,none⟩) (k+1) cp] (w3.setCell ⟨n0+3,0,none⟩ (.slice (some ⟨g,0,none⟩) (k+1) cp)) ∧
   (w3.setCell ⟨n0+3,0,none⟩ (.slice (some ⟨g,0,none⟩) (k+1) cp)).ownsRow (n0+5) te z (.slice (some ⟨g,0,none⟩) (k+1) cp) (k+1) (xs2++cs):=by
 have hlt2:=ownsRow_lt hown2
 have hn3:=hv2.lt
 have hg5:n0+5≤g:=(ownsRow_lt hown3 g rfl).1
 have hal:(W2.alloc o).heap.size=W2.heap.size+1:=by simp
 have hs:W2.heap.size≤w3.heap.size:=by have:=hgrow.size;omega
 have b3:∀ k,k < W2.heap.size→some k≠v2.ownBlock→w3.heap[k]?=W2.heap[k]?:=fun k h1 h2=>(hgrow.block k (by omega) h2).trans (Below.heap_alloc _ _ _ (by omega))
 have row3:Row (n0+3) ts [v2] w3:=(b3 _ hn3 (fun e=>by have:=(hlt2 _ e.symm).1;omega)).trans hv2
 have k3:KeepsOthers W2 w3:=(KeepsOthers.alloc W2 o).trans (keeps_own (W:=W2.alloc o) (v:=v2) (hown2.alloc o) hgrow)
 have at':v2.ownBlock=some g∨W2.heap.size < g:=by
  rcases hat with h | h
  ·exact .inl h.symm
  ·have:g=W2.heap.size+1:=by rw[hal] at h;exact Option.some.inj h
   exact .inr (by omega)
 refine⟨row3,⟨hgrow.os,hgrow.tape,hgrow.output,by simp[World.setCell,hs],fun j h1 h2 h3=>(Below.heap_setCell _ ⟨n0+3,0,none⟩ _ j h3).trans (b3 j h1 h2),k3.trans (KeepsOthers.setCell _ _ _),at'⟩,row_set row3 0 _,own_set hown3 (by simp[Value.ownBlock];omega) _⟩
set_option maxRecDepth 100000 in
set_option maxHeartbeats 16000000 in
theorem listL_in (C:RC) (du ru:Value) (q0:List TokI) (w:World) (h:Rd C du ru q0 w) :
  CallsIn Fence.wide 6 Tryz.prog 129 #[.pointer (some ⟨C.R,0,none⟩),.int .i64 20,.func (.func 130) #[.pointer (some ⟨C.R,0,none⟩)] #[]] w (ListR 11 LtC C du ru (bodyQ [] q0) w):=by
 have hltR:=h.lt
 obtain⟨n0,hn0⟩:∃ n0,w.heap.size=n0:=⟨_,rfl⟩
 obtain⟨WL,hWL⟩:∃ WL,(((((w.alloc (.cells #[.pointer (some ⟨C.R,0,none⟩)] 109)).alloc (.cells #[.int .i64 20] 3)).alloc (.cells #[(fnV 130 C.R)] 203)).alloc (.cells #[.slice none 0 0] 39)).alloc (.cells #[.nilIface] 75))=WL:=⟨_,rfl⟩
 have hs:WL.heap.size=n0+5:=by rw[← hWL];simp[hn0]
 have hbL:Below n0 w WL:=by
  rw[← hWL]
  exact (((((Below.refl _ w).alloc (by omega) _).alloc (by simp;omega) _).alloc (by simp;omega) _).alloc (by simp;omega) _).alloc (by simp;omega) _
 have rows:Row n0 109 [.pointer (some ⟨C.R,0,none⟩)] WL∧Row (n0+1) 3 [.int .i64 20] WL∧Row (n0+2) 203 [(fnV 130 C.R)] WL∧Row (n0+3) 39 [.slice none 0 0] WL∧Row (n0+4) 75 [.nilIface] WL:=by
  rw[← hWL]
  refine⟨?_,?_,?_,?_,?_⟩
  ·have:=((((Row.new w 109 [.pointer (some ⟨C.R,0,none⟩)]).al (.cells #[.int .i64 20] 3)).al (.cells #[(fnV 130 C.R)] 203)).al (.cells #[.slice none 0 0] 39)).al (.cells #[.nilIface] 75)
   rw[hn0] at this
   exact this
  ·have:=(((Row.new (w.alloc (.cells #[.pointer (some ⟨C.R,0,none⟩)] 109)) 3 [.int .i64 20]).al (.cells #[(fnV 130 C.R)] 203)).al (.cells #[.slice none 0 0] 39)).al (.cells #[.nilIface] 75)
   simp only[World.size_alloc] at this
   rw[hn0] at this
   exact this
  ·have:=((Row.new ((w.alloc (.cells #[.pointer (some ⟨C.R,0,none⟩)] 109)).alloc (.cells #[.int .i64 20] 3)) 203 [(fnV 130 C.R)]).al (.cells #[.slice none 0 0] 39)).al (.cells #[.nilIface] 75)
   simp only[World.size_alloc] at this
   rw[hn0] at this
   exact this
  ·have:=(Row.new (((w.alloc (.cells #[.pointer (some ⟨C.R,0,none⟩)] 109)).alloc (.cells #[.int .i64 20] 3)).alloc (.cells #[(fnV 130 C.R)] 203)) 39 [.slice none 0 0]).al (.cells #[.nilIface] 75)
   simp only[World.size_alloc] at this
   rw[hn0] at this
   exact this
  ·have:=Row.new ((((w.alloc (.cells #[.pointer (some ⟨C.R,0,none⟩)] 109)).alloc (.cells #[.int .i64 20] 3)).alloc (.cells #[(fnV 130 C.R)] 203)).alloc (.cells #[.slice none 0 0] 39)) 75 [.nilIface]
   simp only[World.size_alloc] at this
   rw[hn0] at this
   exact this
 have hI0:LsI C du ru n0 20 (fnV 130 C.R) 203 39 66 11 LtC w [] q0 WL:=
  ⟨rows.1,rows.2.1,rows.2.2.1,rows.2.2.2.2,⟨_,[],rows.2.2.2.1,World.ownsRow_nil _ _ _ _,Laid.nil⟩,h.below (by rw[hn0];exact hbL),Gr.of_below (by rw[hn0];exact hbL)⟩
 have HI0:=hid hI0
 have Hn0:=hid hn0
 have HWL:=hid hWL
 have Hs:=hid hs
 have hRn:C.R < n0:=by omega
 clear h hI0 hWL hs hbL rows
 refine callsIn_of_wp_marks Tryz.func129 rfl trivial ?_ rfl
 simp only[Tryz.ntmps129,List.size_toArray,List.length_cons,List.length_nil,Nat.reduceAdd,Nat.reduceSub,Array.replicate_succ,Array.replicate_zero,List.push_toArray,List.append_toArray,List.nil_append,List.cons_append]
 gi_wp2_with fail
 refine scopeWide ?_
 gi_wp2_with fail
 refine wpIn_label ?_
 gi_wp2_with fail
 rw[HWL.out]
 refine range_moves rfl (by omega) (gf:=162) (bd:=#[.pointer (some ⟨C.R,0,none⟩)]) (lb:=#[]) rfl trivial (enters_of Tryz.func162 (by kernel_rfl) rfl)
  (eachPlace_moves 5 (by omega) C du ru 20 (by omega)) (fun _=>rfl)
  (fun k W=>∃ acc q,acc.length=k∧LsI C du ru n0 20 (fnV 130 C.R) 203 39 66 11 LtC w acc q W∧bodyQ [] q0=bodyQ acc q∧k≤20)
  (fun k W=>∃ acc q,acc.length=k+1∧LsI C du ru n0 20 (fnV 130 C.R) 203 39 66 11 LtC w acc q W∧bodyQ [] q0=(if nextB 4 [44] q=true then bodyQ acc q.tail else .ok (acc,q))∧k < 20)
  (fun c W=>c=.exit 0∧∃ x,bodyQ [] q0=.error x∧Row (n0+4) 75 [flawV x.1 x.2] W∧Gr C.R w W)
  (fun W=>∃ acc q,LsI C du ru n0 20 (fnV 130 C.R) 203 39 66 11 LtC w acc q W∧bodyQ [] q0=.ok (acc,q))
  (fun k a' W=>(∃ acc q,acc.length=k∧LsI C du ru n0 20 (fnV 130 C.R) 203 39 66 11 LtC w acc q W∧bodyQ [] q0=bodyQ acc q∧k≤20)∧a'={ tmps:=#[.pointer (some ⟨C.R,0,none⟩),.int .i64 20,(fnV 130 C.R),.pointer (some ⟨n0,0,none⟩),.pointer (some ⟨n0+1,0,none⟩),.pointer (some ⟨n0+1+1,0,none⟩),.slice none 0 0,.nilIface,.pointer (some ⟨n0+1+1+1,0,none⟩),.pointer (some ⟨n0+1+1+1+1,0,none⟩),.int .i64 (k:Int),undef,undef,.pointer (some ⟨C.R,0,none⟩),.func (.func 162) #[.pointer (some ⟨C.R,0,none⟩)] #[],.int .i64 (k:Int),undef,undef,undef,undef,undef,undef,undef,undef,undef,undef,undef,undef,undef,undef,undef,undef,undef,undef,undef,undef,undef],defers:=[] })
  ?fB ?fX ?fZ ?fM ?h0 ?hB ?assign ?body ?done ?stop
 case fB=>
  rintro k W W' hp ⟨acc,q,hl,hI,hq,hk⟩
  exact⟨acc,q,hl,LsI.put lays_lt (by rw[Hs.out];omega) (by rw[Hs.out,Hn0.out];omega) hp hI,hq,hk⟩
 case fX=>
  rintro c W W' hp ⟨hc,x,h1,h2,h3⟩
  exact⟨hc,x,h1,put_row hp h2,put_gr hp h3 (by rw[Hs.out,Hn0.out];omega)⟩
 case fZ=>
  rintro W W' hp ⟨acc,q,hI,hq⟩
  exact⟨acc,q,LsI.put lays_lt (by rw[Hs.out];omega) (by rw[Hs.out,Hn0.out];omega) hp hI,hq⟩
 case fM=>
  rintro k a' W W' hp ⟨⟨acc,q,hl,hI,hq,hk⟩,ha⟩
  exact⟨⟨acc,q,hl,LsI.put lays_lt (by rw[Hs.out];omega) (by rw[Hs.out,Hn0.out];omega) hp hI,hq,hk⟩,ha⟩
 case h0=>
  intro o o'
  have hb:Below WL.heap.size WL ((WL.alloc o).alloc o'):=((Below.refl _ _).alloc (Nat.le_refl _) _).alloc (by simp) _
  exact⟨[],q0,rfl,HI0.out.move lays_lt (Gr.of_below hb) hRn (HI0.out.rd.below hb),rfl,by omega⟩
 case hB=>
  rintro k W1 ⟨acc,q,hl,hI,hq,hk⟩
  refine⟨⟨hk,q,hI.rd⟩,?_,?_⟩
  ·rintro k' W2 ⟨rfl,q',r1,hc,r2,g2⟩
   obtain rfl:=Rd.uniq hI.rd r1
   exact⟨(hI.rd.keeps g2).from _,acc,q.tail,hl,hI.move lays_lt g2 hRn r2,by rw[hq,if_pos hc],by omega⟩
  ·rintro W2 ⟨q',r1,hc,r2,g2⟩
   obtain rfl:=Rd.uniq hI.rd r1
   exact⟨(hI.rd.keeps g2).from _,acc,q,hI.move lays_lt g2 hRn r2,by rw[hq,if_neg (by simp[hc])]⟩
 case assign=>
  rintro l k W hA
  gi_wp2
  exact⟨KeepsFrom.refl _ _,hA,trivial⟩
 case body=>
  rintro l k a' W ⟨⟨acc,q,hl,hI,hq,hk⟩,rfl⟩
  dsimp only
  obtain⟨v,xs,hv,hown,hlaid⟩:=hI.l
  have c3:W.cell? ⟨n0,0,none⟩=some (.pointer (some ⟨C.R,0,none⟩)):=hI.r.at 0 _ rfl
  have c4:W.cell? ⟨n0+1,0,none⟩=some (.int .i64 20):=hI.m.at 0 _ rfl
  have c5:W.cell? ⟨n0+1+1,0,none⟩=some (fnV 130 C.R):=hI.f.at 0 _ rfl
  have c8:W.cell? ⟨n0+1+1+1,0,none⟩=some v:=hv.at 0 _ rfl
  have c9:W.cell? ⟨n0+1+1+1+1,0,none⟩=some .nilIface:=hI.e.at 0 _ rfl
  have f9:W.frozen? ⟨n0+1+1+1+1,0,none⟩=false:=hI.e.frz 0
  have hI':=hid hI
  have Hv:=hid hv
  have Hown:=hid hown
  have Hlaid:=hid hlaid
  have Hq:=hid hq
  have Hl:=hid hl
  clear hI hv hown hlaid hq hl
  by_cases hk8:k=20
  ·have hk8':((k:Int) == 20)=true:=by simp;omega
   have He:Hid (bodyQ [] q0=.error (21,lineL q)):=hid (by rw[Hq.out,bodyQ_eq,if_pos (by rw[Hl.out,hk8])])
   have Hk8:=hid hk8
   clear hk8
   gi_wp2_with fail
   refine⟨trivial,(CallsIn.inRound l (callsIn_wide.2 (fail_c C du ru q 21 W hI'.out.rd))).mono ?_⟩
   rintro e w1 ⟨rfl,b1⟩
   have c9':w1.cell? ⟨n0+1+1+1+1,0,none⟩=some .nilIface:=(hI'.out.e.below b1 hI'.out.e.lt).at 0 _ rfl
   have f9':w1.frozen? ⟨n0+1+1+1+1,0,none⟩=false:=(hI'.out.e.below b1 hI'.out.e.lt).frz 0
   have Fin:Hid (KeepsFrom WL.heap.size W (w1.setCell ⟨n0+1+1+1+1,0,none⟩ (flawV 21 (lineL q)))∧(bodyQ [] q0=.error (21,lineL q)∧Row (n0+4) 75 [flawV 21 (lineL q)] (w1.setCell ⟨n0+1+1+1+1,0,none⟩ (flawV 21 (lineL q)))∧Gr C.R w (w1.setCell ⟨n0+1+1+1+1,0,none⟩ (flawV 21 (lineL q))))):=hid
    ⟨((keeps_below b1).trans (KeepsOthers.setCell _ _ _)).from _,He.out,row_set (hI'.out.e.below b1 hI'.out.e.lt) 0 _,(hI'.out.g.trans (Gr.of_below b1)).box (by omega) 0 [_]⟩
   clear b1 c3 c4 c5 c8 c9 f9
   gi_wp2
   exact⟨Fin.out.1,rfl,(21,lineL q),Fin.out.2⟩
  ·have hk8':((k:Int) == 20)=false:=by simp;omega
   have Hk8:=hid hk8
   have hk7:k < 20:=by omega
   clear hk8
   gi_wp2_with fail
   refine⟨trivial,(CallsIn.inRound l (callsIn_wide.2 (part_c C du ru q W hI'.out.rd))).mono ?_⟩
   rintro e w1 ⟨hm,g1⟩
   have Hst:Hid (bodyQ [] q0=match partQ q with | .error e=>.error e | .ok (x,q)=>if nextB 4 [44] q=true then bodyQ (acc++[x]) q.tail else .ok (acc++[x],q)):=hid (by rw[Hq.out,bodyQ_eq,if_neg (by rw[Hl.out];exact Hk8.out)];rfl)
   have he1:=hI'.out.e.gr g1 (by omega)
   have c9':w1.cell? ⟨n0+1+1+1+1,0,none⟩=some .nilIface:=he1.at 0 _ rfl
   have f9':w1.frozen? ⟨n0+1+1+1+1,0,none⟩=false:=he1.frz 0
   have hlt9:n0+1+1+1+1 < w1.heap.size:=he1.lt
   have He1:=hid he1
   have G1:=hid g1
   clear c3 c4 c5 c8 c9 f9 he1 g1
   cases hp:partQ q with
   | error z=>
    rw[hp] at hm
    obtain rfl:=hm
    have He:Hid (bodyQ [] q0=.error (z.1,z.2)):=hid (by rw[Hst.out,hp])
    have K1:=hid (hI'.out.rd.keeps G1.out)
    have Fin:∀ o:Obj,KeepsFrom WL.heap.size W ((w1.setCell ⟨n0+1+1+1+1,0,none⟩ (flawV z.1 z.2)).alloc o)∧(bodyQ [] q0=.error (z.1,z.2)∧Row (n0+4) 75 [flawV z.1 z.2] ((w1.setCell ⟨n0+1+1+1+1,0,none⟩ (flawV z.1 z.2)).alloc o)∧Gr C.R w ((w1.setCell ⟨n0+1+1+1+1,0,none⟩ (flawV z.1 z.2)).alloc o)):=fun o=>
     ⟨((K1.out.trans (KeepsOthers.setCell _ _ _)).trans (KeepsOthers.alloc _ _)).from _,He.out,Row.al (row_set He1.out 0 _) o,((hI'.out.g.trans G1.out).box (by omega) 0 [_]).alloc o⟩
    have Fin':=hid Fin
    clear hp Fin
    gi_wp2
    exact⟨(Fin'.out _).1,rfl,(z.1,z.2),(Fin'.out _).2⟩
   | ok y=>
    obtain⟨x,p⟩:=y
    rw[hp] at hm
    obtain⟨u0,d0,u1,d1,u2,d2,rfl,tx,rx⟩:=hm
    have Hst2:Hid (bodyQ [] q0=if nextB 4 [44] p=true then bodyQ (acc++[x]) p.tail else .ok (acc++[x],p)):=hid (by rw[Hst.out,hp])
    obtain⟨W2,hW2⟩:∃ W2,w1.alloc (.cells #[.int .i64 x.op,.string x.a.rel,.slice u0 x.a.l.length d0,.int .i64 x.x.op,.string x.x.s,.int .i64 x.x.n,.slice u1 x.x.l.length d1,.int .i64 x.y.op,.string x.y.s,.int .i64 x.y.n,.slice u2 x.y.l.length d2] 66)=W2:=⟨_,rfl⟩
    have Hx2:Hid (Row w1.heap.size 66 (ltCells x u0 d0 u1 d1 u2 d2) W2):=hid (by rw[← hW2];exact Row.new w1 _ _)
    have hb2:Below w1.heap.size w1 W2:=by rw[← hW2];exact (Below.refl _ _).alloc (Nat.le_refl _) _
    have hs2:W2.heap.size=w1.heap.size+1:=by rw[← hW2];simp
    have HI2:=hid ((hI'.out.move lays_lt G1.out hRn rx).move lays_lt (Gr.of_below hb2) hRn (rx.below hb2))
    have Tx2:=hid (lt_late tx (Gr.of_below (R:=C.R) hb2) hI'.out.rd.lt (Nat.le_refl _))
    have HW2:=hid hW2
    have K2:=hid ((hI'.out.rd.keeps G1.out).trans (keeps_below hb2))
    obtain⟨v2,xs2,hv2,hown2,hlaid2⟩:=HI2.out.l
    have hlen2:∃ ov cv,v2=.slice ov acc.length cv:=by
     rcases hown2.2 with ⟨rfl,h0⟩ | ⟨g,cv,cur,rfl,_⟩
     ·exact⟨none,0,by rw[h0]⟩
     ·exact⟨_,cv,rfl⟩
    obtain⟨ov,cv,rfl⟩:=hlen2
    have d8:W2.cell? ⟨n0+1+1+1,0,none⟩=some (.slice ov acc.length cv):=hv2.at 0 _ rfl
    have g8:W2.frozen? ⟨n0+1+1+1,0,none⟩=false:=hv2.frz 0
    have e0:=Hx2.out.at 0 _ rfl
    have e1:=Hx2.out.at 1 _ rfl
    have e2:=Hx2.out.at 2 _ rfl
    have e3:=Hx2.out.at 3 _ rfl
    have e4:=Hx2.out.at 4 _ rfl
    have e5:=Hx2.out.at 5 _ rfl
    have e6:=Hx2.out.at 6 _ rfl
    have e7:=Hx2.out.at 7 _ rfl
    have e8:=Hx2.out.at 8 _ rfl
    have e9:=Hx2.out.at 9 _ rfl
    have e10:=Hx2.out.at 10 _ rfl
    have Hv2:=hid hv2
    have Hown2:=hid hown2
    have Hlaid2:=hid hlaid2
    have Hs2:=hid hs2
    have hlt8:n0+1+1+1 < W2.heap.size:=hv2.lt
    have hltx:w1.heap.size < W2.heap.size:=by omega
    clear hp tx rx hW2 hb2 hs2 hv2 hown2 hlaid2
    have Hold:Hid (∀ g,(Value.slice ov acc.length cv).ownBlock=some g→g < W.heap.size):=hid (by
     have h1:Row (n0+3) 39 [v] W2:=by rw[← HW2.out];exact Row.al (Hv.out.gr G1.out (by omega)) _
     have h2:=Row.uniq h1 Hv2.out
     simp only[List.cons.injEq,and_true] at h2
     intro g hg
     rw[← h2] at hg
     exact (ownsRow_lt Hown.out g hg).2)
    have Leaf:Hid (∀ (g cp:Nat) (w3:World),w3.ownsRow (n0+5) 66 11 (.slice (some ⟨g,0,none⟩) (acc.length+1) cp) (acc.length+1) (xs2++(ltCells x u0 d0 u1 d1 u2 d2))→(W2.alloc (.cells #[.int .i64 x.op,.string x.a.rel,.slice u0 x.a.l.length d0,.int .i64 x.x.op,.string x.x.s,.int .i64 x.x.n,.slice u1 x.x.l.length d1,.int .i64 x.y.op,.string x.y.s,.int .i64 x.y.n,.slice u2 x.y.l.length d2] 66)).grownBy w3 (Value.slice ov acc.length cv).ownBlock→((Value.slice (some ⟨g,0,none⟩) (acc.length+1) cp).ownBlock=(Value.slice ov acc.length cv).ownBlock∨(Value.slice (some ⟨g,0,none⟩) (acc.length+1) cp).ownBlock=some (W2.alloc (.cells #[.int .i64 x.op,.string x.a.rel,.slice u0 x.a.l.length d0,.int .i64 x.x.op,.string x.x.s,.int .i64 x.x.n,.slice u1 x.x.l.length d1,.int .i64 x.y.op,.string x.y.s,.int .i64 x.y.n,.slice u2 x.y.l.length d2] 66)).heap.size) →
      w3.cell? ⟨n0+1+1+1,0,none⟩=some (.slice ov acc.length cv)∧w3.frozen? ⟨n0+1+1+1,0,none⟩=false ∧
      Hid (KeepsFrom WL.heap.size W (w3.setCell ⟨n0+1+1+1,0,none⟩ (.slice (some ⟨g,0,none⟩) (acc.length+1) cp)) ∧
       ∃ acc' q,acc'.length=k+1∧LsI C du ru n0 20 (fnV 130 C.R) 203 39 66 11 LtC w acc' q (w3.setCell ⟨n0+1+1+1,0,none⟩ (.slice (some ⟨g,0,none⟩) (acc.length+1) cp))∧bodyQ [] q0=(if nextB 4 [44] q=true then bodyQ acc' q.tail else .ok (acc',q))∧k < 20)):=hid (by
     intro g cp w3 hown3 hgrow hat
     obtain⟨q8,O1,O2,O3⟩:=ap_own (cs:=(ltCells x u0 d0 u1 d1 u2 d2)) Hv2.out Hown2.out hgrow hown3 hat
     have h5:n0+5≤W.heap.size:=by have:=hI'.out.e.lt;omega
     have A1:=ls_append lays_lt HI2.out Hn0.out hRn Hv2.out Hown2.out Hlaid2.out h5 Hold.out (cs:=(ltCells x u0 d0 u1 d1 u2 d2)) rfl Tx2.out O1 O2 O3
     have hlen:(acc++[x]).length=k+1:=by rw[List.length_append,Hl.out];rfl
     exact⟨q8.at 0 _ rfl,q8.frz 0,hid ⟨(K2.out.trans O1.keeps).from _,acc++[x],p,hlen,A1,Hst2.out,hk7⟩⟩)
    obtain⟨i0,hi,hz0,hz1,hz2⟩:=info_parts infoLt
    have HL1:Hid (acc.length+1≤maxLen):=hid (by have:=Hl.out;unfold maxLen;omega)
    have HL2:Hid ((acc.length+1) * 160≤140737488355328):=hid (by have:=Hl.out;omega)
    have HL3:Hid (n0+5≤(W2.alloc (.cells #[.int .i64 x.op,.string x.a.rel,.slice u0 x.a.l.length d0,.int .i64 x.x.op,.string x.x.s,.int .i64 x.x.n,.slice u1 x.x.l.length d1,.int .i64 x.y.op,.string x.y.s,.int .i64 x.y.n,.slice u2 x.y.l.length d2] 66)).heap.size):=hid (by simp;omega)
    have hvv:v=.slice ov acc.length cv:=by
     have h1:Row (n0+3) 39 [v] W2:=by rw[← HW2.out];exact Row.al (Hv.out.gr G1.out (by omega)) _
     have h2:=Row.uniq h1 Hv2.out
     simpa using h2
    have c8w:w1.cell? ⟨n0+1+1+1,0,none⟩=some (.slice ov acc.length cv):=by rw[← hvv];exact (Hv.out.gr G1.out (by omega)).at 0 _ rfl
    have g8w:w1.frozen? ⟨n0+1+1+1,0,none⟩=false:=(Hv.out.gr G1.out (by omega)).frz 0
    have hlt8w:n0+1+1+1 < w1.heap.size:=(Hv.out.gr G1.out (by omega)).lt
    clear hvv
    have HNew:Hid (∀ o:Obj,(W2.alloc o).heap[w1.heap.size+1]?=some o):=hid (fun o=>by have:=World.alloc_heap_new W2 o;rwa [Hs2.out] at this)
    have hW2':=HW2.out
    subst hW2'
    gi_wp2_with (gi_at_builtin;go_loud (refine wpListIn_append_own_at _ rfl _ _ 39 rfl (n0+5) 66 i0 _ 11 160 Tryz.underlying39 hi hz0 hz1 hz2 rfl (by decide) (.slice ov acc.length cv) acc.length xs2 rfl (Hown2.out.alloc _) ⟨w1.heap.size+1,0,none⟩ 1 1 (ltCells x u0 d0 u1 d1 u2 d2) rfl rfl (World.news_of_block (HNew.out _)) (by simp[ltCells,Value.oneCell']) HL1.out HL2.out HL3.out ?_);intro v' w3 hown' hgrow _ hat;obtain⟨g,cp,rfl⟩:=ownsRow_succ hown';obtain⟨s8,s9,Fin1⟩:=Leaf.out g cp w3 hown' hgrow hat;clear c8w g8w)
    exact Fin1.out
 case done=>
  rintro D W hD ⟨acc,q,hI,hq⟩ hd
  obtain⟨v,xs,hv,hown,hlaid⟩:=hI.l
  have c8:W.cell? ⟨n0+1+1+1,0,none⟩=some v:=hv.at 0 _ rfl
  have c9:W.cell? ⟨n0+1+1+1+1,0,none⟩=some .nilIface:=hI.e.at 0 _ rfl
  have hs9:n0+1+1+1+1 < W.heap.size:=hI.e.lt
  have Hd:=hid hd
  have HI:=hid hI
  have Hown:=hid hown
  have Hlaid:=hid hlaid
  have Hq:=hid hq
  clear hd hI hown hlaid hq hv
  gi_wp2
  rw[Exit.noGoto_ret]
  have Pt:Put (n0+5) W (W.putObj D (.deferred none)):=⟨D,_,_,by have:=Hs.out;omega,Hd.out,rfl,rfl,rfl⟩
  refine⟨by simp,.inl ⟨_,_,rfl,run_takeDeferred Hd.out,?_⟩⟩
  refine⟨_,results_tmp2 rfl _ _ _,?_⟩
  unfold ListR
  rw[Hq.out]
  refine⟨⟨v,rfl,sl_own (put_own Pt Hown.out) (Hlaid.out.mono fun x cs hx=>lays_lt _ _ _ _ _ _ (fun a c hc=>?_) (Nat.le_of_eq (put_size Pt).symm) hx) (by rw[Hn0.out];omega),put_rd Pt HI.out.rd (by omega)⟩,put_gr Pt HI.out.g (by rw[Hn0.out];omega)⟩
  obtain⟨h1,h2⟩:=past_cell.1 (visV_out _ _ _ a c (put_vis Pt a c hc))
  exact past_cell.2 ⟨by rw[Hn0.out];omega,h2⟩
 case stop=>
  rintro D c W hD ⟨rfl,x,h1,h2,h3⟩ hd
  have c9:W.cell? ⟨n0+1+1+1+1,0,none⟩=some (flawV x.1 x.2):=h2.at 0 _ rfl
  have hs9:n0+1+1+1+1 < W.heap.size:=h2.lt
  have Hd:=hid hd
  have H1:=hid h1
  have H3:=hid h3
  clear hd h1 h2 h3
  gi_wp2
  refine wpIn_wide.2 ?_
  go_quiet (fail)
  rename_i nq
  gi_wp2
  rw[Exit.noGoto_ret]
  have hdq:(W.drewN nq).heap[D]?=some (.deferred (some [])):=Hd.out
  have gq:Gr C.R w (W.drewN nq):=⟨H3.out.os,H3.out.tape,H3.out.output,H3.out.size,H3.out.block⟩
  have Pt:Put (n0+5) (W.drewN nq) ((W.drewN nq).putObj D (.deferred none)):=⟨D,_,_,by have:=Hs.out;omega,hdq,rfl,rfl,rfl⟩
  refine⟨by simp,.inl ⟨_,_,rfl,run_takeDeferred hdq,?_⟩⟩
  refine⟨_,results_tmp2 rfl _ _ _,?_⟩
  unfold ListR
  rw[H1.out]
  exact⟨rfl,put_gr Pt gq (by rw[Hn0.out];omega)⟩
end Go.Proofs.YtdgbajnhhhjbcaaGreatDoor
