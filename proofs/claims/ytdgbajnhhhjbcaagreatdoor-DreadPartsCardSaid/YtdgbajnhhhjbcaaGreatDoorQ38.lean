/- Rl7@012 -/
import Derived.Test.YtdgbajnhhhjbcaaGreatDoorQ37
set_option linter.unusedSimpArgs false
namespace Go.Proofs.YtdgbajnhhhjbcaaGreatDoor
open Lib(hid)
open Go.RowKit
def LtQ (L0:Nat) (C:RC) (du ru:Value) (r:Res Lt) (w:World) (e:Ending) (w':World):Prop:=
 (match r with
  | .ok (x,q')=>∃ o0 c0 o1 c1 o2 c2,e=.returned (.tuple #[.agg (ltCells x o0 c0 o1 c1 o2 c2).toArray,.nilIface])∧LtC (past L0 w') w'.heap.size x (ltCells x o0 c0 o1 c1 o2 c2)∧Rd C du ru q' w'
  | .error x=>e=.returned (.tuple #[.agg ltZero.toArray,flawV x.1 x.2]))∧Gr C.R w w'
theorem LtQ.bad {L0:Nat} {C:RC} {du ru:Value} {r:Res Lt} {k n:Int} {w w':World} (hr:r=.error (k,n)) (g:Gr C.R w w'):LtQ L0 C du ru r w (.returned (.tuple #[.agg ltZero.toArray,flawV k n])) w':=by
 subst hr
 exact⟨rfl,g⟩
theorem LtQ.good {L0:Nat} {C:RC} {du ru:Value} {r:Res Lt} {x:Lt} {q:List TokI} {w w':World} {o0 o1 o2:Option Addr} {c0 c1 c2:Nat} (hr:r=.ok (x,q)) (hl:LtC (past L0 w') w'.heap.size x (ltCells x o0 c0 o1 c1 o2 c2)) (hq:Rd C du ru q w') (g:Gr C.R w w') :
  LtQ L0 C du ru r w (.returned (.tuple #[.agg (ltCells x o0 c0 o1 c1 o2 c2).toArray,.nilIface])) w':=by
 subst hr
 exact⟨⟨_,_,_,_,_,_,rfl,hl,hq⟩,g⟩
theorem wrA_all {xs:List Value} {cs:Array Value} (h:xs.length=cs.size):wrA cs 0 xs=xs.toArray:=by
 refine Array.ext_getElem? fun i=>?_
 rw[wrA_get xs 0 cs i (by omega)]
 by_cases h1:i < xs.length
 ·rw[if_pos ⟨Nat.zero_le _,by omega⟩,Nat.sub_zero,List.getElem?_toArray]
 ·rw[if_neg (by omega),Array.getElem?_eq_none (show cs.size≤i by omega),Array.getElem?_eq_none (show xs.toArray.size≤i by simp;omega)]
theorem row_all {n:Nat} {T:TypeId} {cs xs:List Value} {w:World} (h:Row n T cs w) (hl:xs.length=cs.length):Row n T xs (boxW n 0 xs w):=by
 have:=boxW_row xs 0 w cs.toArray h
 rw[wrA_all (by simpa using hl)] at this
 exact this
theorem braced_eq (op:Int) (x y:Tm) (l:List TokI):bracedP op x y l=match signsP [[58],[123]] l with
  | .error e=>.error e
  | .ok q=>match atomP q with | .error e=>.error e | .ok (a,q)=>mustP 4 [125] ⟨op,a,x,y⟩ q:=by
 unfold bracedP
 cases h:nextB 4 [58] l with
 | false=>rw[must_f h,signs_f h]
 | true=>
  rw[must_t h,signs_t h]
  cases k:nextB 4 [123] l.tail with
  | false=>rw[signs_f k];simp only;rw[must_f k]
  | true=>rw[signs_t k];simp only[signsP];rw[must_t k];rfl
set_option maxRecDepth 100000 in
set_option maxHeartbeats 16000000 in
theorem aggregate_c (L0:Nat) (C:RC) (du ru:Value) (op:Int) (hop:I64 op) (x:Tm) (o1:Option Addr) (c1:Nat) (q:List TokI) (w:World) (h:Rd C du ru q w) (hRL:C.R < L0) (hL0:L0≤w.heap.size) (hx:TmC (past L0 w) w.heap.size x (tmCells x o1 c1)) :
  Calls Tryz.prog 187 #[.pointer (some ⟨C.R,0,none⟩),.int .i64 op,tmV x o1 c1] w (LtQ L0 C du ru (aggQ op x q) w):=by
 have hltR:=h.lt
 have HB0:Hid (∀ (W:World) (x:Obj),Below W.heap.size W (W.alloc x)):=hid fun W x=>(Below.refl _ _).alloc (Nat.le_refl _) _
 obtain⟨n0,hn0⟩:∃ n0,w.heap.size=n0:=⟨_,rfl⟩
 obtain⟨W1,hW1⟩:∃ W1,((w.alloc (.cells #[.int .i64 x.op,.string x.s,.int .i64 x.n,.slice o1 x.l.length c1] 64)).alloc (.cells #[.int .i64 0,.string ⟨#[]⟩,.slice none 0 0,.int .i64 0,.string ⟨#[]⟩,.int .i64 0,.slice none 0 0,.int .i64 0,.string ⟨#[]⟩,.int .i64 0,.slice none 0 0] 66)).alloc (.cells #[.int .i64 op,.string ⟨#[]⟩,.slice none 0 0,.int .i64 x.op,.string x.s,.int .i64 x.n,.slice o1 x.l.length c1,.int .i64 0,.string ⟨#[]⟩,.int .i64 0,.slice none 0 0] 66)=W1:=⟨_,rfl⟩
 have hb1:Below w.heap.size w W1:=by rw[← hW1];exact (((Below.refl _ _).alloc (Nat.le_refl _) _).alloc (by simp) _).alloc (by simp;omega) _
 have hr1:Row (n0+1) 66 ltZero W1:=by
  have:=Row.al (Row.new (w.alloc (.cells #[.int .i64 x.op,.string x.s,.int .i64 x.n,.slice o1 x.l.length c1] 64)) 66 ltZero) (.cells #[.int .i64 op,.string ⟨#[]⟩,.slice none 0 0,.int .i64 x.op,.string x.s,.int .i64 x.n,.slice o1 x.l.length c1,.int .i64 0,.string ⟨#[]⟩,.int .i64 0,.slice none 0 0] 66)
  rw[World.size_alloc,hn0] at this
  rw[← hW1]
  exact this
 have hr2:Row (n0+1+1) 66 [.int .i64 op,.string ⟨#[]⟩,.slice none 0 0,.int .i64 x.op,.string x.s,.int .i64 x.n,.slice o1 x.l.length c1,.int .i64 0,.string ⟨#[]⟩,.int .i64 0,.slice none 0 0] W1:=by
  have:=Row.new ((w.alloc (.cells #[.int .i64 x.op,.string x.s,.int .i64 x.n,.slice o1 x.l.length c1] 64)).alloc (.cells #[.int .i64 0,.string ⟨#[]⟩,.slice none 0 0,.int .i64 0,.string ⟨#[]⟩,.int .i64 0,.slice none 0 0,.int .i64 0,.string ⟨#[]⟩,.int .i64 0,.slice none 0 0] 66)) 66 [.int .i64 op,.string ⟨#[]⟩,.slice none 0 0,.int .i64 x.op,.string x.s,.int .i64 x.n,.slice o1 x.l.length c1,.int .i64 0,.string ⟨#[]⟩,.int .i64 0,.slice none 0 0]
  rw[World.size_alloc,World.size_alloc,hn0] at this
  rw[← hW1]
  exact this
 have hs1:W1.heap.size=n0+3:=by rw[← hW1];simp[hn0]
 have R1:=hid (h.below hb1)
 have HG:=hid (good_hd h.goodq)
 have HW1:=hid hW1
 have G1:=hid (Gr.of_below (R:=C.R) hb1)
 have Hr1:=hid hr1
 have Hr2:=hid hr2
 have Hs1:=hid hs1
 have Hn0:=hid hn0
 have Hx:=hid hx
 have HL0:=hid hL0
 have Hop:=hid hop
 rw[hn0] at hltR
 clear h hW1 hb1 hr1 hr2 hs1 hx hL0 hop
 by_cases h7:op=7
 ·subst h7
  have Hq0:Hid (aggQ 7 x q=match signsP [[58],[123]] q with | .error e=>.error e | .ok q=>match atomP q with | .error e=>.error e | .ok (a,q)=>mustP 4 [125] ⟨7,a,x,noTm⟩ q):=hid (by unfold aggQ;rw[if_pos rfl,braced_eq])
  go_enter Tryz.func187,Tryz.ntmps187
  obtain⟨W3,hW3⟩:∃ W3,W1.alloc (.cells #[.string ⟨#[58]⟩,.string ⟨#[123]⟩] 9)=W3:=⟨_,rfl⟩
  have hb3:Below W1.heap.size W1 W3:=by rw[← hW3];exact HB0.out W1 _
  have hs3:W1.heap.size < W3.heap.size:=by rw[← hW3];simp
  have hr3:Row W1.heap.size 9 [.string ⟨#[58]⟩,.string ⟨#[123]⟩] W3:=by rw[← hW3];exact Row.new W1 _ _
  have HS3:=hid (sign2_c C du ru q ⟨#[58]⟩ ⟨#[123]⟩ W1.heap.size W3 (R1.out.below hb3) (hr3.at 0 _ rfl) (hr3.at 1 _ rfl) (by have:=Hs1.out;omega) hs3)
  have G3:=hid (G1.out.trans (Gr.of_below hb3))
  have Hr31:=hid (Hr1.out.below hb3 Hr1.out.lt)
  have Hr32:=hid (Hr2.out.below hb3 Hr2.out.lt)
  have HW3:=hid hW3
  clear hW3 hb3 hr3
  cases hsg:signsP [[58],[123]] q with
  | error z=>
   have Hsg:=hid hsg
   have Hq:Hid (aggQ 7 x q=.error (z.1,z.2)):=hid (by rw[Hq0.out,hsg])
   clear hsg
   go_wp2_with fail
   rw[HW1.out];(try rw[← Hs1.out]);rw[HW3.out]
   refine HS3.out.mono ?_
   rintro e w4 ⟨hse,_,g4⟩
   rw[show signsP [(⟨#[58]⟩:ByteArray).data.toList,(⟨#[123]⟩:ByteArray).data.toList] q=.error z from Hsg.out] at hse
   have hse:e=.returned (flawV z.1 z.2):=hse
   subst hse
   have hr:=Hr31.out.gr g4 (by omega)
   have hlt:=hr.lt
   have b0:=hr.at 0 _ rfl
   have b1:=hr.at 1 _ rfl
   have b2:=hr.at 2 _ rfl
   have b3:=hr.at 3 _ rfl
   have b4:=hr.at 4 _ rfl
   have b5:=hr.at 5 _ rfl
   have b6:=hr.at 6 _ rfl
   have b7:=hr.at 7 _ rfl
   have b8:=hr.at 8 _ rfl
   have b9:=hr.at 9 _ rfl
   have b10:=hr.at 10 _ rfl
   have fb:=hr.frz
   have G4:=hid (G3.out.trans g4)
   clear g4 hr
   go_wp2
   refine bodyPost_ret (v:=.tuple #[.agg ltZero.toArray,flawV z.1 z.2]) (by simp[results,Tryz.results187,go_sem,b0,b1,b2,b3,b4,b5,b6,b7,b8,b9,b10]) rfl ?_
   exact LtQ.bad Hq.out (G4.out.box (b:=n0+1) (by have:=Hn0.out;omega) 0 ltZero)
  | ok p=>
   have Hsg:=hid hsg
   have Hq1:Hid (aggQ 7 x q=match atomP p with | .error e=>.error e | .ok (a,q)=>mustP 4 [125] ⟨7,a,x,noTm⟩ q):=hid (by rw[Hq0.out,hsg])
   clear hsg
   go_wp2_with fail
   rw[HW1.out];(try rw[← Hs1.out]);rw[HW3.out]
   refine HS3.out.mono ?_
   rintro e w4 ⟨hse,hrd,g4⟩
   rw[show signsP [(⟨#[58]⟩:ByteArray).data.toList,(⟨#[123]⟩:ByteArray).data.toList] q=.ok p from Hsg.out] at hse hrd
   have hse:e=.returned .nilIface:=hse
   subst hse
   have R4:=hid (hrd _ rfl)
   have Hr41:=hid (Hr31.out.gr g4 (by omega))
   have Hr42:=hid (Hr32.out.gr g4 (by omega))
   have hlt42:=Hr42.out.lt
   have t0:=Hr42.out.at 0 _ rfl
   have t1:=Hr42.out.at 1 _ rfl
   have t2:=Hr42.out.at 2 _ rfl
   have t3:=Hr42.out.at 3 _ rfl
   have t4:=Hr42.out.at 4 _ rfl
   have t5:=Hr42.out.at 5 _ rfl
   have t6:=Hr42.out.at 6 _ rfl
   have t7:=Hr42.out.at 7 _ rfl
   have t8:=Hr42.out.at 8 _ rfl
   have t9:=Hr42.out.at 9 _ rfl
   have t10:=Hr42.out.at 10 _ rfl
   have G4:=hid (G3.out.trans g4)
   clear g4 hrd
   go_wp2_with fail
   refine (withAtom_c C du ru 7 x noTm o1 c1 none 0 p w4 R4.out).mono ?_
   rintro e w5 ⟨hm,g5⟩
   clear t0 t1 t2 t3 t4 t5 t6 t7 t8 t9 t10
   have r51:=Hr41.out.gr g5 (by omega)
   have r52:=Hr42.out.gr g5 (by omega)
   have hlt5:=r52.lt
   have b0:=r51.at 0 _ rfl
   have b1:=r51.at 1 _ rfl
   have b2:=r51.at 2 _ rfl
   have b3:=r51.at 3 _ rfl
   have b4:=r51.at 4 _ rfl
   have b5:=r51.at 5 _ rfl
   have b6:=r51.at 6 _ rfl
   have b7:=r51.at 7 _ rfl
   have b8:=r51.at 8 _ rfl
   have b9:=r51.at 9 _ rfl
   have b10:=r51.at 10 _ rfl
   have fb:=r51.frz
   have t0:=r52.at 0 _ rfl
   have t1:=r52.at 1 _ rfl
   have t2:=r52.at 2 _ rfl
   have t3:=r52.at 3 _ rfl
   have t4:=r52.at 4 _ rfl
   have t5:=r52.at 5 _ rfl
   have t6:=r52.at 6 _ rfl
   have t7:=r52.at 7 _ rfl
   have t8:=r52.at 8 _ rfl
   have t9:=r52.at 9 _ rfl
   have t10:=r52.at 10 _ rfl
   have ft:=r52.frz
   have hlt51:n0+1 < w5.heap.size:=by omega
   have Hs45:=hid g5.size
   have G5:=hid (G4.out.trans g5)
   cases hl:atomP p with
   | error z=>
    rw[hl] at hm
    obtain rfl:=hm
    have Hq:Hid (aggQ 7 x q=.error (z.1,z.2)):=hid (by rw[Hq1.out,hl])
    clear hl g5 r51 r52
    go_wp2
    refine bodyPost_ret (v:=.tuple #[.agg ltZero.toArray,flawV z.1 z.2]) (by simp[results,Tryz.results187,go_sem,b0,b1,b2,b3,b4,b5,b6,b7,b8,b9,b10]) rfl ?_
    exact LtQ.bad Hq.out ((G5.out.box (b:=n0+1+1) (by have:=Hn0.out;omega) 0 ltZero).box (b:=n0+1) (by have:=Hn0.out;omega) 0 ltZero)
   | ok v=>
    obtain⟨a,p2⟩:=v
    rw[hl] at hm
    obtain⟨o,c,rfl,hs,hv,r5⟩:=hm
    have Hq2:Hid (aggQ 7 x q=mustP 4 [125] ⟨7,a,x,noTm⟩ p2):=hid (by rw[Hq1.out,hl])
    have HSz:=hid hs
    have Hv:=hid hv
    obtain⟨V6,hV6⟩:∃ V6,(((((((((((w5.setCell ⟨n0+1+1,0,none⟩ (.int .i64 7)).setCell ⟨n0+1+1,1,none⟩ (.string a.rel)).setCell ⟨n0+1+1,2,none⟩ (.slice o a.l.length c)).setCell ⟨n0+1+1,3,none⟩ (.int .i64 x.op)).setCell ⟨n0+1+1,4,none⟩ (.string x.s)).setCell ⟨n0+1+1,5,none⟩ (.int .i64 x.n)).setCell ⟨n0+1+1,6,none⟩ (.slice o1 x.l.length c1)).setCell ⟨n0+1+1,7,none⟩ (.int .i64 noTm.op)).setCell ⟨n0+1+1,8,none⟩ (.string noTm.s)).setCell ⟨n0+1+1,9,none⟩ (.int .i64 noTm.n)).setCell ⟨n0+1+1,10,none⟩ (.slice none noTm.l.length 0))=V6:=⟨_,rfl⟩
    have hV6b:boxW (n0+1+1) 0 [.int .i64 7,.string a.rel,.slice o a.l.length c,.int .i64 x.op,.string x.s,.int .i64 x.n,.slice o1 x.l.length c1,.int .i64 noTm.op,.string noTm.s,.int .i64 noTm.n,.slice none noTm.l.length 0] w5=V6:=hV6
    have hs6:V6.heap.size=w5.heap.size:=by rw[← hV6b,boxW_size]
    have r62:Row (n0+1+1) 66 [.int .i64 7,.string a.rel,.slice o a.l.length c,.int .i64 x.op,.string x.s,.int .i64 x.n,.slice o1 x.l.length c1,.int .i64 noTm.op,.string noTm.s,.int .i64 noTm.n,.slice none noTm.l.length 0] V6:=by rw[← hV6b];exact row_all r52 rfl
    have r61:Row (n0+1) 66 ltZero V6:=by rw[← hV6b];exact (boxW_other _ _ _ _ (n0+1) (by omega)).trans r51
    have R6:=hid (show Rd C du ru p2 V6 by rw[← hV6b];exact r5.box (by omega))
    have G6:=hid (show Gr C.R w V6 by rw[← hV6b];exact G5.out.box (by have:=Hn0.out;omega) 0 _)
    have hv6:TmS (past w4.heap.size V6) V6.heap.size a.l (.slice o a.l.length c):=by rw[← hV6b];exact tms_box hv hlt42 (Nat.le_refl _)
    obtain⟨W7,hW7⟩:∃ W7,V6.alloc (.cells #[.string ⟨#[125]⟩] 9)=W7:=⟨_,rfl⟩
    have hb7:Below V6.heap.size V6 W7:=by rw[← hW7];exact HB0.out V6 _
    have hr7:Row V6.heap.size 9 [.string ⟨#[125]⟩] W7:=by rw[← hW7];exact Row.new V6 _ _
    have HS7:=hid (sign1_c C du ru p2 ⟨#[125]⟩ V6.heap.size W7 (R6.out.below hb7) (hr7.at 0 _ rfl))
    have G7:=hid (G6.out.trans (Gr.of_below hb7))
    have Hr71:=hid (r61.below hb7 r61.lt)
    have Hr72:=hid (r62.below hb7 r62.lt)
    have Hv7:=hid (tms_late hv6 (Gr.of_below (R:=C.R) hb7) (by omega) (Nat.le_refl _))
    have HW7:=hid hW7
    have HV6:=hid hV6
    have Hs6:=hid hs6
    clear hl g5 r51 r52 hV6b hs6 r62 r61 hv6 hb7 hr7 hW7 hV6 hv r5 hs
    cases hn:nextB 4 [125] p2 with
    | false=>
     have Hn:=hid (show signsP [[125]] p2=.error (40,lineL p2) by simp[signsP,hn])
     have Hq:Hid (aggQ 7 x q=.error (40,lineL p2)):=hid (by rw[Hq2.out,must_f hn])
     clear hn
     go_wp2_with fail
     rw[HV6.out]
     (try rw[← Hs6.out])
     rw[HW7.out]
     refine HS7.out.mono ?_
     rintro e w8 ⟨hse,_,g8⟩
     rw[Hn.out] at hse
     have hse:e=.returned (flawV 40 (lineL p2)):=hse
     subst hse
     clear b0 b1 b2 b3 b4 b5 b6 b7 b8 b9 b10 t0 t1 t2 t3 t4 t5 t6 t7 t8 t9 t10 fb ft
     have r81:=Hr71.out.gr g8 (by omega)
     have r82:=Hr72.out.gr g8 (by omega)
     have hlt82:=r82.lt
     have hlt81:=r81.lt
     have b0:=r81.at 0 _ rfl
     have b1:=r81.at 1 _ rfl
     have b2:=r81.at 2 _ rfl
     have b3:=r81.at 3 _ rfl
     have b4:=r81.at 4 _ rfl
     have b5:=r81.at 5 _ rfl
     have b6:=r81.at 6 _ rfl
     have b7:=r81.at 7 _ rfl
     have b8:=r81.at 8 _ rfl
     have b9:=r81.at 9 _ rfl
     have b10:=r81.at 10 _ rfl
     have fb:=r81.frz
     have t0:=r82.at 0 _ rfl
     have t1:=r82.at 1 _ rfl
     have t2:=r82.at 2 _ rfl
     have t3:=r82.at 3 _ rfl
     have t4:=r82.at 4 _ rfl
     have t5:=r82.at 5 _ rfl
     have t6:=r82.at 6 _ rfl
     have t7:=r82.at 7 _ rfl
     have t8:=r82.at 8 _ rfl
     have t9:=r82.at 9 _ rfl
     have t10:=r82.at 10 _ rfl
     have ft:=r82.frz
     have G8:=hid (G7.out.trans g8)
     clear g8 r81 r82
     go_wp2
     refine bodyPost_ret (v:=.tuple #[.agg ltZero.toArray,flawV 40 (lineL p2)]) (by simp[results,Tryz.results187,go_sem,b0,b1,b2,b3,b4,b5,b6,b7,b8,b9,b10]) rfl ?_
     exact LtQ.bad Hq.out (G8.out.box (b:=n0+1) (by have:=Hn0.out;omega) 0 ltZero)
    | true=>
     have Hn:=hid (show signsP [[125]] p2=.ok p2.tail by simp[signsP,hn])
     have Hq:Hid (aggQ 7 x q=.ok (⟨7,a,x,noTm⟩,p2.tail)):=hid (by rw[Hq2.out,must_t hn])
     clear hn
     go_wp2_with fail
     rw[HV6.out]
     (try rw[← Hs6.out])
     rw[HW7.out]
     refine HS7.out.mono ?_
     rintro e w8 ⟨hse,hrd,g8⟩
     rw[Hn.out] at hse hrd
     have hse:e=.returned .nilIface:=hse
     subst hse
     clear b0 b1 b2 b3 b4 b5 b6 b7 b8 b9 b10 t0 t1 t2 t3 t4 t5 t6 t7 t8 t9 t10 fb ft
     have r81:=Hr71.out.gr g8 (by omega)
     have r82:=Hr72.out.gr g8 (by omega)
     have hlt82:=r82.lt
     have hlt81:=r81.lt
     have b0:=r81.at 0 _ rfl
     have b1:=r81.at 1 _ rfl
     have b2:=r81.at 2 _ rfl
     have b3:=r81.at 3 _ rfl
     have b4:=r81.at 4 _ rfl
     have b5:=r81.at 5 _ rfl
     have b6:=r81.at 6 _ rfl
     have b7:=r81.at 7 _ rfl
     have b8:=r81.at 8 _ rfl
     have b9:=r81.at 9 _ rfl
     have b10:=r81.at 10 _ rfl
     have fb:=r81.frz
     have t0:=r82.at 0 _ rfl
     have t1:=r82.at 1 _ rfl
     have t2:=r82.at 2 _ rfl
     have t3:=r82.at 3 _ rfl
     have t4:=r82.at 4 _ rfl
     have t5:=r82.at 5 _ rfl
     have t6:=r82.at 6 _ rfl
     have t7:=r82.at 7 _ rfl
     have t8:=r82.at 8 _ rfl
     have t9:=r82.at 9 _ rfl
     have t10:=r82.at 10 _ rfl
     have ft:=r82.frz
     have G8:=hid (G7.out.trans g8)
     have R8:=hid (hrd _ rfl)
     have Hv8:=hid (tms_late Hv7.out g8 (by omega) (Nat.le_refl _))
     clear g8 r81 r82 hrd
     go_wp2
     refine bodyPost_ret (v:=.tuple #[.agg (ltCells ⟨7,a,x,noTm⟩ o c o1 c1 none 0).toArray,.nilIface]) (by simp[results,Tryz.results187,go_sem,b0,b1,b2,b3,b4,b5,b6,b7,b8,b9,b10,noTm,Tm.op,Tm.s,Tm.n,Tm.l]) rfl ?_
     have Gf:=G8.out.box (b:=n0+1) (by have:=Hn0.out;omega) 0 [.int .i64 7,.string a.rel,.slice o a.l.length c,.int .i64 x.op,.string x.s,.int .i64 x.n,.slice o1 x.l.length c1,.int .i64 noTm.op,.string noTm.s,.int .i64 noTm.n,.slice none noTm.l.length 0]
     have hvf:=tms_box (b:=n0+1) (k:=0) (xs:=[.int .i64 7,.string a.rel,.slice o a.l.length c,.int .i64 x.op,.string x.s,.int .i64 x.n,.slice o1 x.l.length c1,.int .i64 noTm.op,.string noTm.s,.int .i64 noTm.n,.slice none noTm.l.length 0]) (L':=L0) Hv8.out (by omega) (by have:=HL0.out;have:=Hn0.out;omega)
     have hxf:=Hx.out.gr Gf hRL
     exact LtQ.good Hq.out ⟨[.string a.rel,.slice o a.l.length c],tmCells x o1 c1,[.int .i64 0,.string ⟨#[]⟩,.int .i64 0,.slice none 0 0],rfl,Hop.out,⟨_,rfl,HSz.out,hvf⟩,hxf,tm_zero _ _⟩ (R8.out.box (b:=n0+1) (k:=0) (xs:=[.int .i64 7,.string a.rel,.slice o a.l.length c,.int .i64 x.op,.string x.s,.int .i64 x.n,.slice o1 x.l.length c1,.int .i64 noTm.op,.string noTm.s,.int .i64 noTm.n,.slice none noTm.l.length 0]) (by omega)) Gf
 ·have h7':(op == 7)=false:=by simpa using h7
  have HN:=hid (name_c C du ru q W1 R1.out)
  have Hag:Hid (aggQ op x q=match nameP q with | .error e=>.error e | .ok (s,q)=>bracedP op x (.mk 1 s 0 []) q):=hid (by unfold aggQ;rw[if_neg h7];rfl)
  clear h7
  cases hp:nameP q with
  | error z=>
   have Hq:Hid (aggQ op x q=.error (z.1,z.2)):=hid (by rw[Hag.out,hp])
   have Hp:=hid hp
   clear hp
   go_enter Tryz.func187,Tryz.ntmps187
   go_wp2_with fail
   rw[HW1.out]
   refine HN.out.mono ?_
   rintro e w2 ⟨hm,g2⟩
   rw[Hp.out] at hm
   obtain rfl:=hm
   have hr:=Hr1.out.gr g2 (by omega)
   have hlt:=hr.lt
   have b0:=hr.at 0 _ rfl
   have b1:=hr.at 1 _ rfl
   have b2:=hr.at 2 _ rfl
   have b3:=hr.at 3 _ rfl
   have b4:=hr.at 4 _ rfl
   have b5:=hr.at 5 _ rfl
   have b6:=hr.at 6 _ rfl
   have b7:=hr.at 7 _ rfl
   have b8:=hr.at 8 _ rfl
   have b9:=hr.at 9 _ rfl
   have b10:=hr.at 10 _ rfl
   have fb:=hr.frz
   have G2:=hid (G1.out.trans g2)
   clear g2 hr
   go_wp2
   refine bodyPost_ret (v:=.tuple #[.agg ltZero.toArray,flawV z.1 z.2]) (by simp[results,Tryz.results187,go_sem,b0,b1,b2,b3,b4,b5,b6,b7,b8,b9,b10]) rfl ?_
   exact LtQ.bad Hq.out (G2.out.box (b:=n0+1) (by have:=Hn0.out;omega) 0 ltZero)
  | ok y=>
   obtain⟨s,p0⟩:=y
   have Hss:=hid (name_size hp HG.out)
   have Hq0:Hid (aggQ op x q=match signsP [[58],[123]] p0 with | .error e=>.error e | .ok q=>match atomP q with | .error e=>.error e | .ok (a,q)=>mustP 4 [125] ⟨op,a,x,.mk 1 s 0 []⟩ q):=hid (by rw[Hag.out,hp];exact braced_eq _ _ _ _)
   have Hp:=hid hp
   clear hp
   go_enter Tryz.func187,Tryz.ntmps187
   go_wp2_with fail
   rw[HW1.out]
   refine HN.out.mono ?_
   rintro e w2 ⟨hm,g2⟩
   rw[Hp.out] at hm
   obtain⟨rfl,r2⟩:=hm
   have r21:=Hr1.out.gr g2 (by omega)
   have r22:=Hr2.out.gr g2 (by omega)
   have hlt22:=r22.lt
   have s7:=r22.at 7 _ rfl
   have s8:=r22.at 8 _ rfl
   have s9:=r22.at 9 _ rfl
   have s10:=r22.at 10 _ rfl
   have fs:=r22.frz
   obtain⟨V2,hV2⟩:∃ V2,((((w2.setCell ⟨n0+1+1,7,none⟩ (.int .i64 1)).setCell ⟨n0+1+1,8,none⟩ (.string s)).setCell ⟨n0+1+1,9,none⟩ (.int .i64 0)).setCell ⟨n0+1+1,10,none⟩ (.slice none 0 0))=V2:=⟨_,rfl⟩
   have hV2b:boxW (n0+1+1) 7 [.int .i64 1,.string s,.int .i64 0,.slice none 0 0] w2=V2:=hV2
   have HrV2:Hid (Row (n0+1+1) 66 [.int .i64 op,.string ⟨#[]⟩,.slice none 0 0,.int .i64 x.op,.string x.s,.int .i64 x.n,.slice o1 x.l.length c1,.int .i64 1,.string s,.int .i64 0,.slice none 0 0] V2):=hid (by rw[← hV2b];exact (boxW_row [.int .i64 1,.string s,.int .i64 0,.slice none 0 0] 7 w2 _ r22).trans (by simp[wrA]))
   have HrV1:Hid (Row (n0+1) 66 ltZero V2):=hid (by rw[← hV2b];exact (boxW_other _ _ _ _ (n0+1) (by omega)).trans r21)
   have R2:=hid (show Rd C du ru p0 V2 by rw[← hV2b];exact r2.box (by omega))
   have G2:=hid (show Gr C.R w V2 by rw[← hV2b];exact (G1.out.trans g2).box (by have:=Hn0.out;omega) 7 _)
   have HsV:Hid (n0+3≤V2.heap.size):=hid (by rw[← hV2b,boxW_size];have:=g2.size;have:=Hs1.out;omega)
   have HsV2:Hid (V2.heap.size=w2.heap.size):=hid (by rw[← hV2b,boxW_size])
   have HV2:=hid hV2
   clear g2 r2 r21 r22 hV2 hV2b
   obtain⟨W3,hW3⟩:∃ W3,V2.alloc (.cells #[.string ⟨#[58]⟩,.string ⟨#[123]⟩] 9)=W3:=⟨_,rfl⟩
   have hb3:Below V2.heap.size V2 W3:=by rw[← hW3];exact HB0.out V2 _
   have hs3:V2.heap.size < W3.heap.size:=by rw[← hW3];simp
   have hr3:Row V2.heap.size 9 [.string ⟨#[58]⟩,.string ⟨#[123]⟩] W3:=by rw[← hW3];exact Row.new V2 _ _
   have HS3:=hid (sign2_c C du ru p0 ⟨#[58]⟩ ⟨#[123]⟩ V2.heap.size W3 (R2.out.below hb3) (hr3.at 0 _ rfl) (hr3.at 1 _ rfl) (by have:=HsV.out;omega) hs3)
   have G3:=hid (G2.out.trans (Gr.of_below hb3))
   have Hr31:=hid (HrV1.out.below hb3 HrV1.out.lt)
   have Hr32:=hid (HrV2.out.below hb3 HrV2.out.lt)
   have HW3:=hid hW3
   clear hW3 hb3 hr3
   cases hsg:signsP [[58],[123]] p0 with
   | error z=>
    have Hsg:=hid hsg
    have Hq:Hid (aggQ op x q=.error (z.1,z.2)):=hid (by rw[Hq0.out,hsg])
    clear hsg
    go_wp2_with fail
    rw[HV2.out];(try rw[← HsV2.out]);rw[HW3.out]
    refine HS3.out.mono ?_
    rintro e w4 ⟨hse,_,g4⟩
    rw[show signsP [(⟨#[58]⟩:ByteArray).data.toList,(⟨#[123]⟩:ByteArray).data.toList] p0=.error z from Hsg.out] at hse
    have hse:e=.returned (flawV z.1 z.2):=hse
    subst hse
    have hr:=Hr31.out.gr g4 (by omega)
    have hlt:=hr.lt
    have b0:=hr.at 0 _ rfl
    have b1:=hr.at 1 _ rfl
    have b2:=hr.at 2 _ rfl
    have b3:=hr.at 3 _ rfl
    have b4:=hr.at 4 _ rfl
    have b5:=hr.at 5 _ rfl
    have b6:=hr.at 6 _ rfl
    have b7:=hr.at 7 _ rfl
    have b8:=hr.at 8 _ rfl
    have b9:=hr.at 9 _ rfl
    have b10:=hr.at 10 _ rfl
    have fb:=hr.frz
    have G4:=hid (G3.out.trans g4)
    clear g4 hr
    go_wp2
    refine bodyPost_ret (v:=.tuple #[.agg ltZero.toArray,flawV z.1 z.2]) (by simp[results,Tryz.results187,go_sem,b0,b1,b2,b3,b4,b5,b6,b7,b8,b9,b10]) rfl ?_
    exact LtQ.bad Hq.out (G4.out.box (b:=n0+1) (by have:=Hn0.out;omega) 0 ltZero)
   | ok p=>
    have Hsg:=hid hsg
    have Hq1:Hid (aggQ op x q=match atomP p with | .error e=>.error e | .ok (a,q)=>mustP 4 [125] ⟨op,a,x,.mk 1 s 0 []⟩ q):=hid (by rw[Hq0.out,hsg])
    clear hsg
    go_wp2_with fail
    rw[HV2.out];(try rw[← HsV2.out]);rw[HW3.out]
    refine HS3.out.mono ?_
    rintro e w4 ⟨hse,hrd,g4⟩
    rw[show signsP [(⟨#[58]⟩:ByteArray).data.toList,(⟨#[123]⟩:ByteArray).data.toList] p0=.ok p from Hsg.out] at hse hrd
    have hse:e=.returned .nilIface:=hse
    subst hse
    have R4:=hid (hrd _ rfl)
    have Hr41:=hid (Hr31.out.gr g4 (by omega))
    have Hr42:=hid (Hr32.out.gr g4 (by omega))
    have hlt42:=Hr42.out.lt
    have t0:=Hr42.out.at 0 _ rfl
    have t1:=Hr42.out.at 1 _ rfl
    have t2:=Hr42.out.at 2 _ rfl
    have t3:=Hr42.out.at 3 _ rfl
    have t4:=Hr42.out.at 4 _ rfl
    have t5:=Hr42.out.at 5 _ rfl
    have t6:=Hr42.out.at 6 _ rfl
    have t7:=Hr42.out.at 7 _ rfl
    have t8:=Hr42.out.at 8 _ rfl
    have t9:=Hr42.out.at 9 _ rfl
    have t10:=Hr42.out.at 10 _ rfl
    have G4:=hid (G3.out.trans g4)
    clear g4 hrd
    go_wp2_with fail
    refine (withAtom_c C du ru op x (.mk 1 s 0 []) o1 c1 none 0 p w4 R4.out).mono ?_
    rintro e w5 ⟨hm,g5⟩
    clear t0 t1 t2 t3 t4 t5 t6 t7 t8 t9 t10
    have r51:=Hr41.out.gr g5 (by omega)
    have r52:=Hr42.out.gr g5 (by omega)
    have hlt5:=r52.lt
    have b0:=r51.at 0 _ rfl
    have b1:=r51.at 1 _ rfl
    have b2:=r51.at 2 _ rfl
    have b3:=r51.at 3 _ rfl
    have b4:=r51.at 4 _ rfl
    have b5:=r51.at 5 _ rfl
    have b6:=r51.at 6 _ rfl
    have b7:=r51.at 7 _ rfl
    have b8:=r51.at 8 _ rfl
    have b9:=r51.at 9 _ rfl
    have b10:=r51.at 10 _ rfl
    have fb:=r51.frz
    have t0:=r52.at 0 _ rfl
    have t1:=r52.at 1 _ rfl
    have t2:=r52.at 2 _ rfl
    have t3:=r52.at 3 _ rfl
    have t4:=r52.at 4 _ rfl
    have t5:=r52.at 5 _ rfl
    have t6:=r52.at 6 _ rfl
    have t7:=r52.at 7 _ rfl
    have t8:=r52.at 8 _ rfl
    have t9:=r52.at 9 _ rfl
    have t10:=r52.at 10 _ rfl
    have ft:=r52.frz
    have hlt51:n0+1 < w5.heap.size:=by omega
    have Hs45:=hid g5.size
    have G5:=hid (G4.out.trans g5)
    cases hl:atomP p with
    | error z=>
     rw[hl] at hm
     obtain rfl:=hm
     have Hq:Hid (aggQ op x q=.error (z.1,z.2)):=hid (by rw[Hq1.out,hl])
     clear hl g5 r51 r52
     go_wp2
     refine bodyPost_ret (v:=.tuple #[.agg ltZero.toArray,flawV z.1 z.2]) (by simp[results,Tryz.results187,go_sem,b0,b1,b2,b3,b4,b5,b6,b7,b8,b9,b10]) rfl ?_
     exact LtQ.bad Hq.out ((G5.out.box (b:=n0+1+1) (by have:=Hn0.out;omega) 0 ltZero).box (b:=n0+1) (by have:=Hn0.out;omega) 0 ltZero)
    | ok v=>
     obtain⟨a,p2⟩:=v
     rw[hl] at hm
     obtain⟨o,c,rfl,hs,hv,r5⟩:=hm
     have Hq2:Hid (aggQ op x q=mustP 4 [125] ⟨op,a,x,.mk 1 s 0 []⟩ p2):=hid (by rw[Hq1.out,hl])
     have HSz:=hid hs
     have Hv:=hid hv
     obtain⟨V6,hV6⟩:∃ V6,(((((((((((w5.setCell ⟨n0+1+1,0,none⟩ (.int .i64 op)).setCell ⟨n0+1+1,1,none⟩ (.string a.rel)).setCell ⟨n0+1+1,2,none⟩ (.slice o a.l.length c)).setCell ⟨n0+1+1,3,none⟩ (.int .i64 x.op)).setCell ⟨n0+1+1,4,none⟩ (.string x.s)).setCell ⟨n0+1+1,5,none⟩ (.int .i64 x.n)).setCell ⟨n0+1+1,6,none⟩ (.slice o1 x.l.length c1)).setCell ⟨n0+1+1,7,none⟩ (.int .i64 1)).setCell ⟨n0+1+1,8,none⟩ (.string s)).setCell ⟨n0+1+1,9,none⟩ (.int .i64 0)).setCell ⟨n0+1+1,10,none⟩ (.slice none 0 0))=V6:=⟨_,rfl⟩
     have hV6b:boxW (n0+1+1) 0 [.int .i64 op,.string a.rel,.slice o a.l.length c,.int .i64 x.op,.string x.s,.int .i64 x.n,.slice o1 x.l.length c1,.int .i64 1,.string s,.int .i64 0,.slice none 0 0] w5=V6:=hV6
     have hs6:V6.heap.size=w5.heap.size:=by rw[← hV6b,boxW_size]
     have r62:Row (n0+1+1) 66 [.int .i64 op,.string a.rel,.slice o a.l.length c,.int .i64 x.op,.string x.s,.int .i64 x.n,.slice o1 x.l.length c1,.int .i64 1,.string s,.int .i64 0,.slice none 0 0] V6:=by rw[← hV6b];exact row_all r52 rfl
     have r61:Row (n0+1) 66 ltZero V6:=by rw[← hV6b];exact (boxW_other _ _ _ _ (n0+1) (by omega)).trans r51
     have R6:=hid (show Rd C du ru p2 V6 by rw[← hV6b];exact r5.box (by omega))
     have G6:=hid (show Gr C.R w V6 by rw[← hV6b];exact G5.out.box (by have:=Hn0.out;omega) 0 _)
     have hv6:TmS (past w4.heap.size V6) V6.heap.size a.l (.slice o a.l.length c):=by rw[← hV6b];exact tms_box hv hlt42 (Nat.le_refl _)
     obtain⟨W7,hW7⟩:∃ W7,V6.alloc (.cells #[.string ⟨#[125]⟩] 9)=W7:=⟨_,rfl⟩
     have hb7:Below V6.heap.size V6 W7:=by rw[← hW7];exact HB0.out V6 _
     have hr7:Row V6.heap.size 9 [.string ⟨#[125]⟩] W7:=by rw[← hW7];exact Row.new V6 _ _
     have HS7:=hid (sign1_c C du ru p2 ⟨#[125]⟩ V6.heap.size W7 (R6.out.below hb7) (hr7.at 0 _ rfl))
     have G7:=hid (G6.out.trans (Gr.of_below hb7))
     have Hr71:=hid (r61.below hb7 r61.lt)
     have Hr72:=hid (r62.below hb7 r62.lt)
     have Hv7:=hid (tms_late hv6 (Gr.of_below (R:=C.R) hb7) (by omega) (Nat.le_refl _))
     have HW7:=hid hW7
     have HV6:=hid hV6
     have Hs6:=hid hs6
     clear hl g5 r51 r52 hV6b hs6 r62 r61 hv6 hb7 hr7 hW7 hV6 hv r5 hs
     cases hn:nextB 4 [125] p2 with
     | false=>
      have Hn:=hid (show signsP [[125]] p2=.error (40,lineL p2) by simp[signsP,hn])
      have Hq:Hid (aggQ op x q=.error (40,lineL p2)):=hid (by rw[Hq2.out,must_f hn])
      clear hn
      go_wp2_with fail
      rw[HV6.out]
      (try rw[← Hs6.out])
      rw[HW7.out]
      refine HS7.out.mono ?_
      rintro e w8 ⟨hse,_,g8⟩
      rw[Hn.out] at hse
      have hse:e=.returned (flawV 40 (lineL p2)):=hse
      subst hse
      clear b0 b1 b2 b3 b4 b5 b6 b7 b8 b9 b10 t0 t1 t2 t3 t4 t5 t6 t7 t8 t9 t10 fb ft
      have r81:=Hr71.out.gr g8 (by omega)
      have r82:=Hr72.out.gr g8 (by omega)
      have hlt82:=r82.lt
      have hlt81:=r81.lt
      have b0:=r81.at 0 _ rfl
      have b1:=r81.at 1 _ rfl
      have b2:=r81.at 2 _ rfl
      have b3:=r81.at 3 _ rfl
      have b4:=r81.at 4 _ rfl
      have b5:=r81.at 5 _ rfl
      have b6:=r81.at 6 _ rfl
      have b7:=r81.at 7 _ rfl
      have b8:=r81.at 8 _ rfl
      have b9:=r81.at 9 _ rfl
      have b10:=r81.at 10 _ rfl
      have fb:=r81.frz
      have t0:=r82.at 0 _ rfl
      have t1:=r82.at 1 _ rfl
      have t2:=r82.at 2 _ rfl
      have t3:=r82.at 3 _ rfl
      have t4:=r82.at 4 _ rfl
      have t5:=r82.at 5 _ rfl
      have t6:=r82.at 6 _ rfl
      have t7:=r82.at 7 _ rfl
      have t8:=r82.at 8 _ rfl
      have t9:=r82.at 9 _ rfl
      have t10:=r82.at 10 _ rfl
      have ft:=r82.frz
      have G8:=hid (G7.out.trans g8)
      clear g8 r81 r82
      go_wp2
      refine bodyPost_ret (v:=.tuple #[.agg ltZero.toArray,flawV 40 (lineL p2)]) (by simp[results,Tryz.results187,go_sem,b0,b1,b2,b3,b4,b5,b6,b7,b8,b9,b10]) rfl ?_
      exact LtQ.bad Hq.out (G8.out.box (b:=n0+1) (by have:=Hn0.out;omega) 0 ltZero)
     | true=>
      have Hn:=hid (show signsP [[125]] p2=.ok p2.tail by simp[signsP,hn])
      have Hq:Hid (aggQ op x q=.ok (⟨op,a,x,.mk 1 s 0 []⟩,p2.tail)):=hid (by rw[Hq2.out,must_t hn])
      clear hn
      go_wp2_with fail
      rw[HV6.out]
      (try rw[← Hs6.out])
      rw[HW7.out]
      refine HS7.out.mono ?_
      rintro e w8 ⟨hse,hrd,g8⟩
      rw[Hn.out] at hse hrd
      have hse:e=.returned .nilIface:=hse
      subst hse
      clear b0 b1 b2 b3 b4 b5 b6 b7 b8 b9 b10 t0 t1 t2 t3 t4 t5 t6 t7 t8 t9 t10 fb ft
      have r81:=Hr71.out.gr g8 (by omega)
      have r82:=Hr72.out.gr g8 (by omega)
      have hlt82:=r82.lt
      have hlt81:=r81.lt
      have b0:=r81.at 0 _ rfl
      have b1:=r81.at 1 _ rfl
      have b2:=r81.at 2 _ rfl
      have b3:=r81.at 3 _ rfl
      have b4:=r81.at 4 _ rfl
      have b5:=r81.at 5 _ rfl
      have b6:=r81.at 6 _ rfl
      have b7:=r81.at 7 _ rfl
      have b8:=r81.at 8 _ rfl
      have b9:=r81.at 9 _ rfl
      have b10:=r81.at 10 _ rfl
      have fb:=r81.frz
      have t0:=r82.at 0 _ rfl
      have t1:=r82.at 1 _ rfl
      have t2:=r82.at 2 _ rfl
      have t3:=r82.at 3 _ rfl
      have t4:=r82.at 4 _ rfl
      have t5:=r82.at 5 _ rfl
      have t6:=r82.at 6 _ rfl
      have t7:=r82.at 7 _ rfl
      have t8:=r82.at 8 _ rfl
      have t9:=r82.at 9 _ rfl
      have t10:=r82.at 10 _ rfl
      have ft:=r82.frz
      have G8:=hid (G7.out.trans g8)
      have R8:=hid (hrd _ rfl)
      have Hv8:=hid (tms_late Hv7.out g8 (by omega) (Nat.le_refl _))
      clear g8 r81 r82 hrd
      go_wp2
      refine bodyPost_ret (v:=.tuple #[.agg (ltCells ⟨op,a,x,.mk 1 s 0 []⟩ o c o1 c1 none 0).toArray,.nilIface]) (by simp[results,Tryz.results187,go_sem,b0,b1,b2,b3,b4,b5,b6,b7,b8,b9,b10,Tm.op,Tm.s,Tm.n,Tm.l]) rfl ?_
      have Gf:=G8.out.box (b:=n0+1) (by have:=Hn0.out;omega) 0 [.int .i64 op,.string a.rel,.slice o a.l.length c,.int .i64 x.op,.string x.s,.int .i64 x.n,.slice o1 x.l.length c1,.int .i64 1,.string s,.int .i64 0,.slice none 0 0]
      have hvf:=tms_box (b:=n0+1) (k:=0) (xs:=[.int .i64 op,.string a.rel,.slice o a.l.length c,.int .i64 x.op,.string x.s,.int .i64 x.n,.slice o1 x.l.length c1,.int .i64 1,.string s,.int .i64 0,.slice none 0 0]) (L':=L0) Hv8.out (by omega) (by have:=HL0.out;have:=Hn0.out;omega)
      have hxf:=Hx.out.gr Gf hRL
      exact LtQ.good Hq.out ⟨[.string a.rel,.slice o a.l.length c],tmCells x o1 c1,[.int .i64 1,.string s,.int .i64 0,.slice none 0 0],rfl,Hop.out,⟨_,rfl,HSz.out,hvf⟩,hxf,.nil 1 s 0 (by unfold I64;decide) Hss.out (by unfold I64;decide)⟩ (R8.out.box (b:=n0+1) (k:=0) (xs:=[.int .i64 op,.string a.rel,.slice o a.l.length c,.int .i64 x.op,.string x.s,.int .i64 x.n,.slice o1 x.l.length c1,.int .i64 1,.string s,.int .i64 0,.slice none 0 0]) (by omega)) Gf
end Go.Proofs.YtdgbajnhhhjbcaaGreatDoor
