/- Rl3@012, Rl4@012, Rl5@012, Rl6@012 -/
import Derived.Test.YtdgbajnhhhjbcaaGreatDoorQ36
set_option linter.unusedSimpArgs false
namespace Go.Proofs.YtdgbajnhhhjbcaaGreatDoor
open Lib(hid)
open Go.RowKit
def NamedR (C:RC) (du ru:Value) (r:Res Am) (w:World) (e:Ending) (w':World):Prop:=
 (match r with
  | .ok (x,q')=>∃ v,e=.returned (.tuple #[.string x.rel,v,.nilIface])∧x.rel.size≤maxLen∧TmS (past w.heap.size w') w'.heap.size x.l v∧Rd C du ru q' w'
  | .error x=>∃ a b,e=.returned (.tuple #[a,b,flawV x.1 x.2]))∧Gr C.R w w'
theorem NamedR.bad {C:RC} {du ru:Value} {r:Res Am} {k n:Int} {a b:Value} {w w':World} (hr:r=.error (k,n)) (g:Gr C.R w w'):NamedR C du ru r w (.returned (.tuple #[a,b,flawV k n])) w':=by
 subst hr
 exact⟨⟨a,b,rfl⟩,g⟩
theorem NamedR.good {C:RC} {du ru:Value} {r:Res Am} {s:ByteArray} {l:List Tm} {q:List TokI} {v:Value} {w w':World} (hr:r=.ok (⟨s,l⟩,q)) (hs:s.size≤maxLen) (hl:TmS (past w.heap.size w') w'.heap.size l v) (hq:Rd C du ru q w') (g:Gr C.R w w'):NamedR C du ru r w (.returned (.tuple #[.string s,v,.nilIface])) w':=by
 subst hr
 exact⟨⟨v,rfl,hs,hl,hq⟩,g⟩
theorem tms_late {L L' R:Nat} {w w':World} {l:List Tm} {v:Value} (h:TmS (past L w) w.heap.size l v) (g:Gr R w w') (hR:R < L) (hL:L'≤L):TmS (past L' w') w'.heap.size l v:=by
 have k:Vis (past L w) (past L' w'):=(Vis.gr g hR).trans (Vis.less hL w')
 have h2:TmS (past L' w') w.heap.size l v:=SlOf.vis h k fun x _ cs hx=>TmC.vis hx k
 exact h2.more g.size
theorem name_size {q p:List TokI} {s:ByteArray} (h:nameP q=.ok (s,p)) (hg:GoodT (hdT q)):s.size≤maxLen:=by
 cases hn:nmAt q with
 | true=>
  rw[(nameP_t hn).1] at h
  cases h
  have:=hg.size
  unfold maxLen
  omega
 | false=>
  rw[nameP_f hn] at h
  cases h
theorem must_t {α:Type} {s:List UInt8} {x:α} {q:List TokI} (h:nextB 4 s q=true):mustP 4 s x q=.ok (x,q.tail):=by unfold mustP;rw[if_pos h]
theorem must_f {α:Type} {s:List UInt8} {x:α} {q:List TokI} (h:nextB 4 s q=false):mustP 4 s x q=.error (40,lineL q):=by unfold mustP;rw[if_neg (by rw[h];decide)]
set_option maxRecDepth 100000 in
set_option maxHeartbeats 4000000 in
theorem namedT_c (C:RC) (du ru:Value) (q:List TokI) (w:World) (h:Rd C du ru q w) :
  Calls Tryz.prog 158 #[.pointer (some ⟨C.R,0,none⟩),.func (.func 159) #[.pointer (some ⟨C.R,0,none⟩)] #[]] w (NamedR C du ru (atomP q) w):=by
 have hltR:=h.lt
 have HB0:Hid (∀ (W:World) (x:Obj),Below W.heap.size W (W.alloc x)):=hid fun W x=>(Below.refl _ _).alloc (Nat.le_refl _) _
 have HN:=hid (name_c C du ru q w h)
 have HG:=hid (good_hd h.goodq)
 clear h
 cases hp:nameP q with
 | error z=>
  have Hq:Hid (atomP q=.error (z.1,z.2)):=hid (by unfold atomP;rw[hp])
  have Hp:=hid hp
  clear hp
  go_enter Tryz.func158,Tryz.ntmps158
  go_wp2_with fail
  refine HN.out.mono ?_
  rintro e w1 ⟨hm,g1⟩
  rw[Hp.out] at hm
  obtain rfl:=hm
  have G1:=hid g1
  clear g1
  go_wp2
  go_ret3
  exact NamedR.bad Hq.out G1.out
 | ok y=>
  obtain⟨s,p⟩:=y
  have Hs:=hid (name_size hp HG.out)
  have Hp:=hid hp
  have Hq0:Hid (atomP q=match mustP 4 [40] () p with | .error e=>.error e | .ok (_,q)=>match argsP [] q with | .error e=>.error e | .ok (ats,q)=>mustP 4 [41] ⟨s,ats⟩ q):=hid (by unfold atomP;rw[hp];rfl)
  clear hp
  go_enter Tryz.func158,Tryz.ntmps158
  go_wp2_with fail
  refine HN.out.mono ?_
  rintro e w1 ⟨hm,g1⟩
  rw[Hp.out] at hm
  obtain⟨rfl,r1⟩:=hm
  obtain⟨W2,hW2⟩:∃ W2,w1.alloc (.cells #[.string ⟨#[40]⟩] 9)=W2:=⟨_,rfl⟩
  have hb2:Below w1.heap.size w1 W2:=by rw[← hW2];exact HB0.out w1 _
  have hr2:Row w1.heap.size 9 [.string ⟨#[40]⟩] W2:=by rw[← hW2];exact Row.new w1 _ _
  have HS2:=hid (sign1_c C du ru p ⟨#[40]⟩ w1.heap.size W2 (r1.below hb2) (hr2.at 0 _ rfl))
  have G2:=hid (g1.trans (Gr.of_below hb2))
  have HW2:=hid hW2
  clear r1 g1 hb2 hr2 hW2
  cases hn:nextB 4 [40] p with
  | false=>
   have Hn:=hid (show signsP [[40]] p=.error (40,lineL p) by simp[signsP,hn])
   have Hq:Hid (atomP q=.error (40,lineL p)):=hid (by rw[Hq0.out,must_f hn])
   clear hn
   go_wp2_with fail
   rw[HW2.out]
   refine HS2.out.mono ?_
   rintro e w3 ⟨hse,_,g3⟩
   rw[Hn.out] at hse
   have hse:e=.returned (flawV 40 (lineL p)):=hse
   subst hse
   have G3:=hid (G2.out.trans g3)
   clear g3
   go_wp2
   go_ret3
   exact NamedR.bad Hq.out G3.out
  | true=>
   have Hn:=hid (show signsP [[40]] p=.ok p.tail by simp[signsP,hn])
   have Hq1:Hid (atomP q=match argsP [] p.tail with | .error e=>.error e | .ok (ats,q)=>mustP 4 [41] ⟨s,ats⟩ q):=hid (by rw[Hq0.out,must_t hn])
   clear hn
   go_wp2_with fail
   rw[HW2.out]
   refine HS2.out.mono ?_
   rintro e w3 ⟨hse,hrd,g3⟩
   rw[Hn.out] at hse hrd
   have hse:e=.returned .nilIface:=hse
   subst hse
   have R3:=hid (hrd _ rfl)
   have G3:=hid (G2.out.trans g3)
   clear hrd g3
   go_wp2_with fail
   refine (callsIn_wide.1 (listT_in C du ru p.tail w3 R3.out)).mono ?_
   rintro e w4 ⟨hm,g4⟩
   have G4:=hid (G3.out.trans g4)
   cases hl:argsP [] p.tail with
   | error z=>
    rw[hl] at hm
    obtain rfl:=hm
    have Hq:Hid (atomP q=.error (z.1,z.2)):=hid (by rw[Hq1.out,hl])
    clear hl g4
    go_wp2
    go_ret3
    exact NamedR.bad Hq.out G4.out
   | ok y=>
    obtain⟨ats,p2⟩:=y
    rw[hl] at hm
    obtain⟨v,rfl,hv,r4⟩:=hm
    have Hq2:Hid (atomP q=mustP 4 [41] ⟨s,ats⟩ p2):=hid (by rw[Hq1.out,hl])
    obtain⟨W5,hW5⟩:∃ W5,w4.alloc (.cells #[.string ⟨#[41]⟩] 9)=W5:=⟨_,rfl⟩
    have hb5:Below w4.heap.size w4 W5:=by rw[← hW5];exact HB0.out w4 _
    have hr5:Row w4.heap.size 9 [.string ⟨#[41]⟩] W5:=by rw[← hW5];exact Row.new w4 _ _
    have HS5:=hid (sign1_c C du ru p2 ⟨#[41]⟩ w4.heap.size W5 (r4.below hb5) (hr5.at 0 _ rfl))
    have G5:=hid (G4.out.trans (Gr.of_below hb5))
    have HW5:=hid hW5
    have Hv:=hid (show TmS (past w3.heap.size w4) w4.heap.size ats v from hv)
    have Hb5:=hid (Gr.of_below (R:=C.R) hb5)
    have hs3:=G3.out.size
    have hs34:=g4.size
    have hs5:=hb5.size
    clear hl g4 r4 hb5 hr5 hW5 hv
    cases hn:nextB 4 [41] p2 with
    | false=>
     have Hn:=hid (show signsP [[41]] p2=.error (40,lineL p2) by simp[signsP,hn])
     have Hq:Hid (atomP q=.error (40,lineL p2)):=hid (by rw[Hq2.out,must_f hn])
     clear hn
     go_wp2_with fail
     rw[HW5.out]
     refine HS5.out.mono ?_
     rintro e w6 ⟨hse,_,g6⟩
     rw[Hn.out] at hse
     have hse:e=.returned (flawV 40 (lineL p2)):=hse
     subst hse
     have G6:=hid (G5.out.trans g6)
     clear g6
     go_wp2
     go_ret3
     exact NamedR.bad Hq.out G6.out
    | true=>
     have Hn:=hid (show signsP [[41]] p2=.ok p2.tail by simp[signsP,hn])
     have Hq:Hid (atomP q=.ok (⟨s,ats⟩,p2.tail)):=hid (by rw[Hq2.out,must_t hn])
     clear hn
     go_wp2_with fail
     rw[HW5.out]
     refine HS5.out.mono ?_
     rintro e w6 ⟨hse,hrd,g6⟩
     rw[Hn.out] at hse hrd
     have hse:e=.returned .nilIface:=hse
     subst hse
     have R6:=hid (hrd _ rfl)
     have G6:=hid (G5.out.trans g6)
     have Hv6:Hid (TmS (past w.heap.size w6) w6.heap.size ats v):=hid (tms_late Hv.out (Hb5.out.trans g6) (by omega) (by omega))
     clear hrd g6
     go_wp2
     go_ret3
     exact NamedR.good Hq.out Hs.out Hv6.out R6.out G6.out
def AmR (C:RC) (du ru:Value) (r:Res Am) (w:World) (e:Ending) (w':World):Prop:=
 (match r with
  | .ok (x,q')=>∃ v,e=.returned (.tuple #[.agg #[.string x.rel,v],.nilIface])∧x.rel.size≤maxLen∧TmS (past w.heap.size w') w'.heap.size x.l v∧Rd C du ru q' w'
  | .error x=>e=.returned (.tuple #[.agg #[.string ⟨#[]⟩,.slice none 0 0],flawV x.1 x.2]))∧Gr C.R w w'
theorem AmR.bad {C:RC} {du ru:Value} {r:Res Am} {k n:Int} {w w':World} (hr:r=.error (k,n)) (g:Gr C.R w w'):AmR C du ru r w (.returned (.tuple #[.agg #[.string ⟨#[]⟩,.slice none 0 0],flawV k n])) w':=by
 subst hr
 exact⟨rfl,g⟩
theorem AmR.good {C:RC} {du ru:Value} {r:Res Am} {x:Am} {q:List TokI} {v:Value} {w w':World} (hr:r=.ok (x,q)) (hs:x.rel.size≤maxLen) (hl:TmS (past w.heap.size w') w'.heap.size x.l v) (hq:Rd C du ru q w') (g:Gr C.R w w'):AmR C du ru r w (.returned (.tuple #[.agg #[.string x.rel,v],.nilIface])) w':=by
 subst hr
 exact⟨⟨v,rfl,hs,hl,hq⟩,g⟩
theorem tms_slice {w:World} {B:Nat} {l:List Tm} {v:Value} (h:TmS w B l v):∃ o cap,v=.slice o l.length cap:=by
 rcases h with ⟨rfl,rfl⟩ | ⟨a,cap,rfl,_⟩
 ·exact⟨none,0,rfl⟩
 ·exact⟨some a,cap,rfl⟩
theorem vis_box {L L' b k:Nat} {xs:List Value} {w:World} (hb:b < L) (hL:L'≤L):Vis (past L w) (past L' (boxW b k xs w)):=(Vis.kept fun i h1 _=>boxW_other b xs k w i (by omega)).trans (Vis.less hL _)
theorem tms_box {L L' b k:Nat} {xs:List Value} {w:World} {l:List Tm} {v:Value} (h:TmS (past L w) w.heap.size l v) (hb:b < L) (hL:L'≤L):TmS (past L' (boxW b k xs w)) (boxW b k xs w).heap.size l v:=by
 have h2:TmS (past L' (boxW b k xs w)) w.heap.size l v:=SlOf.vis h (vis_box hb hL) fun x _ cs hx=>TmC.vis hx (vis_box hb hL)
 rw[boxW_size]
 exact h2
set_option maxRecDepth 100000 in
set_option maxHeartbeats 4000000 in
theorem atom_c (C:RC) (du ru:Value) (q:List TokI) (w:World) (h:Rd C du ru q w) :
  Calls Tryz.prog 124 #[.pointer (some ⟨C.R,0,none⟩)] w (AmR C du ru (atomP q) w):=by
 have hltR:=h.lt
 obtain⟨W1,hW1⟩:∃ W1,w.alloc (.cells #[.string ⟨#[]⟩,.slice none 0 0] 38)=W1:=⟨_,rfl⟩
 have hb1:Below w.heap.size w W1:=by rw[← hW1];exact (Below.refl _ _).alloc (Nat.le_refl _) _
 have hr1:Row w.heap.size 38 [.string ⟨#[]⟩,.slice none 0 0] W1:=by rw[← hW1];exact Row.new w _ _
 have hs1:W1.heap.size=w.heap.size+1:=by rw[← hW1];simp
 have HN:=hid (namedT_c C du ru q W1 (h.below hb1))
 have HW1:=hid hW1
 have Hb1:=hid (Gr.of_below (R:=C.R) hb1)
 have Hr1:=hid hr1
 have Hs1:=hid hs1
 clear h hW1 hb1 hr1 hs1
 go_enter Tryz.func124,Tryz.ntmps124
 go_wp2_with fail
 rw[HW1.out]
 refine HN.out.mono ?_
 rintro e w2 ⟨hm,g2⟩
 have hr2:=Hr1.out.gr g2 (by omega)
 have hlt2:=hr2.lt
 obtain⟨c0,c1,f2⟩:=hr2.r2
 have G2:=hid (Hb1.out.trans g2)
 cases hl:atomP q with
 | error z=>
  rw[hl] at hm
  obtain⟨a,b,rfl⟩:=hm
  have Hq:Hid (atomP q=.error (z.1,z.2)):=hid hl
  clear hl g2 hr2
  go_wp2
  refine bodyPost_ret (v:=.tuple #[.agg #[.string ⟨#[]⟩,.slice none 0 0],flawV z.1 z.2]) (by simp[results,Tryz.results124,go_sem,c0,c1]) rfl ?_
  exact AmR.bad Hq.out (G2.out.set2 (Nat.le_refl _) _ _)
 | ok y=>
  obtain⟨x,p⟩:=y
  rw[hl] at hm
  obtain⟨v,rfl,hs,hv,r2⟩:=hm
  obtain⟨o,cap,rfl⟩:=tms_slice hv
  have Hq:=hid hl
  have HS:=hid hs
  have Hv:=hid hv
  have R2:=hid r2
  clear hl g2 hr2 hs hv r2
  go_wp2
  refine bodyPost_ret (v:=.tuple #[.agg #[.string x.rel,.slice o x.l.length cap],.nilIface]) (by simp[results,Tryz.results124,go_sem,c0,c1]) rfl ?_
  exact AmR.good Hq.out HS.out (tms_box (b:=w.heap.size) (k:=0) (xs:=[.string x.rel,.slice o x.l.length cap]) Hv.out (by have:=Hs1.out;omega) (by have:=Hs1.out;omega)) (R2.out.box (b:=w.heap.size) (k:=0) (xs:=[.string x.rel,.slice o x.l.length cap]) hltR) (G2.out.set2 (Nat.le_refl _) _ _)
abbrev ltZero:List Value:=[.int .i64 0,.string ⟨#[]⟩,.slice none 0 0,.int .i64 0,.string ⟨#[]⟩,.int .i64 0,.slice none 0 0,.int .i64 0,.string ⟨#[]⟩,.int .i64 0,.slice none 0 0]
abbrev ltCells (x:Lt) (o0:Option Addr) (c0:Nat) (o1:Option Addr) (c1:Nat) (o2:Option Addr) (c2:Nat):List Value:=
 [.int .i64 x.op,.string x.a.rel,.slice o0 x.a.l.length c0,.int .i64 x.x.op,.string x.x.s,.int .i64 x.x.n,.slice o1 x.x.l.length c1,.int .i64 x.y.op,.string x.y.s,.int .i64 x.y.n,.slice o2 x.y.l.length c2]
def LtR (C:RC) (du ru:Value) (r:Res Lt) (w:World) (e:Ending) (w':World):Prop:=
 (match r with
  | .ok (x,q')=>∃ o0 c0 o1 c1 o2 c2,e=.returned (.tuple #[.agg (ltCells x o0 c0 o1 c1 o2 c2).toArray,.nilIface])∧LtC (past w.heap.size w') w'.heap.size x (ltCells x o0 c0 o1 c1 o2 c2)∧Rd C du ru q' w'
  | .error x=>e=.returned (.tuple #[.agg ltZero.toArray,flawV x.1 x.2]))∧Gr C.R w w'
theorem LtR.bad {C:RC} {du ru:Value} {r:Res Lt} {k n:Int} {w w':World} (hr:r=.error (k,n)) (g:Gr C.R w w'):LtR C du ru r w (.returned (.tuple #[.agg ltZero.toArray,flawV k n])) w':=by
 subst hr
 exact⟨rfl,g⟩
theorem LtR.good {C:RC} {du ru:Value} {r:Res Lt} {x:Lt} {q:List TokI} {w w':World} {o0 o1 o2:Option Addr} {c0 c1 c2:Nat} (hr:r=.ok (x,q)) (hl:LtC (past w.heap.size w') w'.heap.size x (ltCells x o0 c0 o1 c1 o2 c2)) (hq:Rd C du ru q w') (g:Gr C.R w w') :
  LtR C du ru r w (.returned (.tuple #[.agg (ltCells x o0 c0 o1 c1 o2 c2).toArray,.nilIface])) w':=by
 subst hr
 exact⟨⟨_,_,_,_,_,_,rfl,hl,hq⟩,g⟩
theorem tm_zero (w:World) (B:Nat):TmC w B noTm zeroCells:=.nil 0 ⟨#[]⟩ 0 (by unfold I64;decide) (by decide) (by unfold I64;decide)
theorem Vis.lt {w w':World} {B B':Nat} {x:Lt} {cs:List Value} (h:LtC w B x cs) (k:Vis w w') (hB:B≤B'):LtC w' B' x cs:=by
 obtain⟨ca,cx,cy,h1,h2,⟨v,h3,h4,h5⟩,h6,h7⟩:=h
 have h8:TmS w' B x.a.l v:=SlOf.vis h5 k fun y _ cs hy=>TmC.vis hy k
 exact⟨ca,cx,cy,h1,h2,⟨v,h3,h4,h8.more hB⟩,(h6.vis k).more hB,(h7.vis k).more hB⟩
theorem lt_box {L L' b k:Nat} {xs:List Value} {w:World} {x:Lt} {cs:List Value} (h:LtC (past L w) w.heap.size x cs) (hb:b < L) (hL:L'≤L):LtC (past L' (boxW b k xs w)) (boxW b k xs w).heap.size x cs:=
 Vis.lt h (vis_box hb hL) (Nat.le_of_eq (boxW_size b xs k w).symm)
theorem lt_late {L L' R:Nat} {w w':World} {x:Lt} {cs:List Value} (h:LtC (past L w) w.heap.size x cs) (g:Gr R w w') (hR:R < L) (hL:L'≤L):LtC (past L' w') w'.heap.size x cs:=
 Vis.lt h ((Vis.gr g hR).trans (Vis.less hL w')) g.size
def WiR (C:RC) (du ru:Value) (op:Int) (x y:Tm) (o1:Option Addr) (c1:Nat) (o2:Option Addr) (c2:Nat) (r:Res Am) (w:World) (e:Ending) (w':World):Prop:=
 (match r with
  | .ok (a,q')=>∃ o c,e=.returned (.tuple #[.agg (ltCells ⟨op,a,x,y⟩ o c o1 c1 o2 c2).toArray,.nilIface])∧a.rel.size≤maxLen∧TmS (past w.heap.size w') w'.heap.size a.l (.slice o a.l.length c)∧Rd C du ru q' w'
  | .error z=>e=.returned (.tuple #[.agg ltZero.toArray,flawV z.1 z.2]))∧Gr C.R w w'
theorem WiR.bad {C:RC} {du ru:Value} {op:Int} {x y:Tm} {o1:Option Addr} {c1:Nat} {o2:Option Addr} {c2:Nat} {r:Res Am} {z:Int × Int} {w w':World} (hr:r=.error z) (g:Gr C.R w w'):WiR C du ru op x y o1 c1 o2 c2 r w (.returned (.tuple #[.agg ltZero.toArray,flawV z.1 z.2])) w':=by
 subst hr
 exact⟨rfl,g⟩
theorem WiR.good {C:RC} {du ru:Value} {op:Int} {x y:Tm} {o1:Option Addr} {c1:Nat} {o2:Option Addr} {c2:Nat} {r:Res Am} {a:Am} {q:List TokI} {o:Option Addr} {c:Nat} {w w':World} (hr:r=.ok (a,q)) (hs:a.rel.size≤maxLen) (hl:TmS (past w.heap.size w') w'.heap.size a.l (.slice o a.l.length c)) (hq:Rd C du ru q w') (g:Gr C.R w w') :
  WiR C du ru op x y o1 c1 o2 c2 r w (.returned (.tuple #[.agg (ltCells ⟨op,a,x,y⟩ o c o1 c1 o2 c2).toArray,.nilIface])) w':=by
 subst hr
 exact⟨⟨o,c,rfl,hs,hl,hq⟩,g⟩
set_option maxRecDepth 100000 in
set_option maxHeartbeats 8000000 in
theorem withAtom_c (C:RC) (du ru:Value) (op:Int) (x y:Tm) (o1:Option Addr) (c1:Nat) (o2:Option Addr) (c2:Nat) (q:List TokI) (w:World) (h:Rd C du ru q w) :
  Calls Tryz.prog 164 #[.pointer (some ⟨C.R,0,none⟩),.agg #[.int .i64 op,.string ⟨#[]⟩,.slice none 0 0,.int .i64 x.op,.string x.s,.int .i64 x.n,.slice o1 x.l.length c1,.int .i64 y.op,.string y.s,.int .i64 y.n,.slice o2 y.l.length c2]] w (WiR C du ru op x y o1 c1 o2 c2 (atomP q) w):=by
 have hltR:=h.lt
 obtain⟨n0,hn0⟩:∃ n0,w.heap.size=n0:=⟨_,rfl⟩
 obtain⟨W1,hW1⟩:∃ W1,(w.alloc (.cells #[.int .i64 op,.string ⟨#[]⟩,.slice none 0 0,.int .i64 x.op,.string x.s,.int .i64 x.n,.slice o1 x.l.length c1,.int .i64 y.op,.string y.s,.int .i64 y.n,.slice o2 y.l.length c2] 66)).alloc (.cells #[.int .i64 0,.string ⟨#[]⟩,.slice none 0 0,.int .i64 0,.string ⟨#[]⟩,.int .i64 0,.slice none 0 0,.int .i64 0,.string ⟨#[]⟩,.int .i64 0,.slice none 0 0] 66)=W1:=⟨_,rfl⟩
 have hb1:Below w.heap.size w W1:=by rw[← hW1];exact ((Below.refl _ _).alloc (Nat.le_refl _) _).alloc (by simp) _
 have hr1:Row n0 66 (ltCells ⟨op,noAm,x,y⟩ none 0 o1 c1 o2 c2) W1:=by
  rw[← hW1,← hn0]
  exact Row.al (Row.new w 66 (ltCells ⟨op,noAm,x,y⟩ none 0 o1 c1 o2 c2)) _
 have hr2:Row (n0+1) 66 ltZero W1:=by
  have:=Row.new (w.alloc (.cells #[.int .i64 op,.string ⟨#[]⟩,.slice none 0 0,.int .i64 x.op,.string x.s,.int .i64 x.n,.slice o1 x.l.length c1,.int .i64 y.op,.string y.s,.int .i64 y.n,.slice o2 y.l.length c2] 66)) 66 ltZero
  rw[World.size_alloc,hn0] at this
  rw[← hW1]
  exact this
 have hs1:W1.heap.size=n0+2:=by rw[← hW1];simp[hn0]
 have HN:=hid (atom_c C du ru q W1 (h.below hb1))
 have HW1:=hid hW1
 have Hb1:=hid (Gr.of_below (R:=C.R) hb1)
 have Hr1:=hid hr1
 have Hr2:=hid hr2
 have Hs1:=hid hs1
 have Hn0:=hid hn0
 rw[hn0] at hltR
 clear h hW1 hb1 hr1 hr2 hs1
 go_enter Tryz.func164,Tryz.ntmps164
 go_wp2_with fail
 rw[HW1.out]
 refine HN.out.mono ?_
 rintro e w2 ⟨hm,g2⟩
 have ha:=Hr1.out.gr g2 (by omega)
 have hb:=Hr2.out.gr g2 (by omega)
 have hlt2:=hb.lt
 have hlt1:n0 < w2.heap.size:=by omega
 have a0:w2.cell? ⟨n0,0,none⟩=some (.int .i64 op):=ha.at 0 _ rfl
 have a1:w2.cell? ⟨n0,1,none⟩=some (.string ⟨#[]⟩):=ha.at 1 _ rfl
 have a2:w2.cell? ⟨n0,2,none⟩=some (.slice none 0 0):=ha.at 2 _ rfl
 have a3:=ha.at 3 _ rfl
 have a4:=ha.at 4 _ rfl
 have a5:=ha.at 5 _ rfl
 have a6:=ha.at 6 _ rfl
 have a7:=ha.at 7 _ rfl
 have a8:=ha.at 8 _ rfl
 have a9:=ha.at 9 _ rfl
 have a10:=ha.at 10 _ rfl
 have fa:=ha.frz
 have b0:=hb.at 0 _ rfl
 have b1:=hb.at 1 _ rfl
 have b2:=hb.at 2 _ rfl
 have b3:=hb.at 3 _ rfl
 have b4:=hb.at 4 _ rfl
 have b5:=hb.at 5 _ rfl
 have b6:=hb.at 6 _ rfl
 have b7:=hb.at 7 _ rfl
 have b8:=hb.at 8 _ rfl
 have b9:=hb.at 9 _ rfl
 have b10:=hb.at 10 _ rfl
 have fb:=hb.frz
 have G2:=hid (Hb1.out.trans g2)
 cases hl:atomP q with
 | error z=>
  rw[hl] at hm
  obtain rfl:=hm
  have Hq:=hid hl
  clear hl g2 ha hb
  go_wp2
  refine bodyPost_ret (v:=.tuple #[.agg ltZero.toArray,flawV z.1 z.2]) (by simp[results,Tryz.results164,go_sem,b0,b1,b2,b3,b4,b5,b6,b7,b8,b9,b10,hlt2]) rfl ?_
  exact WiR.bad Hq.out ((G2.out.box (b:=n0+1) (by have:=Hn0.out;omega) 0 ltZero).alloc _)
 | ok z=>
  obtain⟨z,p⟩:=z
  rw[hl] at hm
  obtain⟨v,rfl,hs,hv,r2⟩:=hm
  obtain⟨o,cap,rfl⟩:=tms_slice hv
  have Hq:=hid hl
  have HS:=hid hs
  have Hv:=hid hv
  have R2:=hid r2
  clear hl g2 ha hb hs hv r2
  go_wp2
  refine bodyPost_ret (v:=.tuple #[.agg (ltCells ⟨op,z,x,y⟩ o cap o1 c1 o2 c2).toArray,.nilIface]) (by simp[results,Tryz.results164,go_sem,b0,b1,b2,b3,b4,b5,b6,b7,b8,b9,b10,hlt2]) rfl ?_
  have hv:=Hv.out
  rw[Hs1.out] at hv
  exact WiR.good Hq.out HS.out (tms_late (R:=C.R) (tms_box (b:=n0+1) (k:=0) (xs:=ltCells ⟨op,z,x,y⟩ o cap o1 c1 o2 c2) (L':=n0+2) (tms_box (b:=n0) (k:=1) (xs:=[.string z.rel,.slice o z.l.length cap]) (L':=n0+2) hv (by omega) (Nat.le_refl _)) (by omega) (Nat.le_refl _)) (Gr.alloc (Gr.refl _ _) _) (by omega) (by have:=Hn0.out;omega))
   (((R2.out.box (b:=n0) (k:=1) (xs:=[.string z.rel,.slice o z.l.length cap]) hltR).box (b:=n0+1) (k:=0) (xs:=ltCells ⟨op,z,x,y⟩ o cap o1 c1 o2 c2) (by omega)).below ((Below.refl _ _).alloc (Nat.le_refl _) _))
   (((G2.out.box (b:=n0) (by have:=Hn0.out;omega) 1 [.string z.rel,.slice o z.l.length cap]).box (b:=n0+1) (by have:=Hn0.out;omega) 0 (ltCells ⟨op,z,x,y⟩ o cap o1 c1 o2 c2)).alloc _)
def holdB (t:TokI):Bool:=(signP t.s.data.toList).isSome && t.kind == 4
theorem str_ne {s:ByteArray} {l m:List UInt8} (h:s.data.toList=l) (hm:(l == m)=false):(s.toList == m)=false:=by rw[Lib.toList_data,h];exact hm
theorem str_eq {s:ByteArray} {l:List UInt8} (h:s.data.toList=l):(s.toList == l)=true:=by rw[Lib.toList_data,h];simp
theorem str_no {s:ByteArray} {l:List UInt8} (h:¬ s.data.toList=l):(s.toList == l)=false:=by rw[Lib.toList_data];simpa using h
set_option maxRecDepth 100000 in
set_option maxHeartbeats 4000000 in
theorem holds_c (t:TokI) (w:World):Calls Tryz.prog 185 #[tokW t] w fun e w'=>e=.returned (.bool (holdB t))∧Below w.heap.size w w':=by
 have HB0:Hid (∀ (x:Obj),Below w.heap.size w (w.alloc x)):=hid fun x=>(Below.refl _ _).alloc (Nat.le_refl _) _
 by_cases h0:t.s.data.toList=[61]
 ·have Hr:Hid (holdB t=(t.kind == 4)):=hid (by unfold holdB;rw[h0];simp[signP])
  have e0:(t.s.toList == [61])=true:=str_eq h0
  clear h0
  go_enter Tryz.func185,Tryz.ntmps185
  go_wp2
  go_ret
  exact⟨by rw[Hr.out];rfl,HB0.out _⟩
 by_cases h1:t.s.data.toList=[33,61]
 ·have Hr:Hid (holdB t=(t.kind == 4)):=hid (by unfold holdB;rw[h1];simp[signP])
  have e0:(t.s.toList == [61])=false:=str_no h0
  have e1:(t.s.toList == [33,61])=true:=str_eq h1
  clear h0 h1
  go_enter Tryz.func185,Tryz.ntmps185
  go_wp2
  go_ret
  exact⟨by rw[Hr.out];rfl,HB0.out _⟩
 by_cases h2:t.s.data.toList=[60]
 ·have Hr:Hid (holdB t=(t.kind == 4)):=hid (by unfold holdB;rw[h2];simp[signP])
  have e0:(t.s.toList == [61])=false:=str_no h0
  have e1:(t.s.toList == [33,61])=false:=str_no h1
  have e2:(t.s.toList == [60])=true:=str_eq h2
  clear h0 h1 h2
  go_enter Tryz.func185,Tryz.ntmps185
  go_wp2
  go_ret
  exact⟨by rw[Hr.out];rfl,HB0.out _⟩
 by_cases h3:t.s.data.toList=[60,61]
 ·have Hr:Hid (holdB t=(t.kind == 4)):=hid (by unfold holdB;rw[h3];simp[signP])
  have e0:(t.s.toList == [61])=false:=str_no h0
  have e1:(t.s.toList == [33,61])=false:=str_no h1
  have e2:(t.s.toList == [60])=false:=str_no h2
  have e3:(t.s.toList == [60,61])=true:=str_eq h3
  clear h0 h1 h2 h3
  go_enter Tryz.func185,Tryz.ntmps185
  go_wp2
  go_ret
  exact⟨by rw[Hr.out];rfl,HB0.out _⟩
 by_cases h4:t.s.data.toList=[62]
 ·have Hr:Hid (holdB t=(t.kind == 4)):=hid (by unfold holdB;rw[h4];simp[signP])
  have e0:(t.s.toList == [61])=false:=str_no h0
  have e1:(t.s.toList == [33,61])=false:=str_no h1
  have e2:(t.s.toList == [60])=false:=str_no h2
  have e3:(t.s.toList == [60,61])=false:=str_no h3
  have e4:(t.s.toList == [62])=true:=str_eq h4
  clear h0 h1 h2 h3 h4
  go_enter Tryz.func185,Tryz.ntmps185
  go_wp2
  go_ret
  exact⟨by rw[Hr.out];rfl,HB0.out _⟩
 by_cases h5:t.s.data.toList=[62,61]
 ·have Hr:Hid (holdB t=(t.kind == 4)):=hid (by unfold holdB;rw[h5];simp[signP])
  have e0:(t.s.toList == [61])=false:=str_no h0
  have e1:(t.s.toList == [33,61])=false:=str_no h1
  have e2:(t.s.toList == [60])=false:=str_no h2
  have e3:(t.s.toList == [60,61])=false:=str_no h3
  have e4:(t.s.toList == [62])=false:=str_no h4
  have e5:(t.s.toList == [62,61])=true:=str_eq h5
  clear h0 h1 h2 h3 h4 h5
  go_enter Tryz.func185,Tryz.ntmps185
  go_wp2
  go_ret
  exact⟨by rw[Hr.out];rfl,HB0.out _⟩
 have Hr:Hid (holdB t=false):=hid (by unfold holdB;simp[signP,h0,h1,h2,h3,h4,h5])
 have e0:(t.s.toList == [61])=false:=str_no h0
 have e1:(t.s.toList == [33,61])=false:=str_no h1
 have e2:(t.s.toList == [60])=false:=str_no h2
 have e3:(t.s.toList == [60,61])=false:=str_no h3
 have e4:(t.s.toList == [62])=false:=str_no h4
 have e5:(t.s.toList == [62,61])=false:=str_no h5
 clear h0 h1 h2 h3 h4 h5
 go_enter Tryz.func185,Tryz.ntmps185
 go_wp2
 go_ret
 exact⟨by rw[Hr.out];rfl,HB0.out _⟩
abbrev tmV (x:Tm) (o:Option Addr) (c:Nat):Value:=.agg #[.int .i64 x.op,.string x.s,.int .i64 x.n,.slice o x.l.length c]
set_option maxRecDepth 100000 in
set_option maxHeartbeats 4000000 in
theorem twoHeld_c (s:ByteArray) (x y:Tm) (o1:Option Addr) (c1:Nat) (o2:Option Addr) (c2:Nat) (op:Int) (turn:Bool) (hs:signP s.data.toList=some (op,turn)) (w:World) :
  Calls Tryz.prog 188 #[.string s,tmV x o1 c1,tmV y o2 c2] w fun e w'=>
   e=.returned (.agg (if turn=true then ltCells ⟨op,noAm,y,x⟩ none 0 o2 c2 o1 c1 else ltCells ⟨op,noAm,x,y⟩ none 0 o1 c1 o2 c2).toArray)∧Below w.heap.size w w':=by
 have HB0:Hid (∀ (x y z:Obj),Below w.heap.size w (((w.alloc x).alloc y).alloc z)):=hid fun x y z=>(((Below.refl _ _).alloc (Nat.le_refl _) _).alloc (by simp) _).alloc (by simp;omega) _
 by_cases h0:s.data.toList=[61]
 ·rw[h0,show signP [61]=some (3,false) from by decide] at hs
  obtain⟨rfl,rfl⟩:=Prod.mk.inj (Option.some.inj hs)
  have e0:(s.toList == [61])=true:=str_eq h0
  clear hs h0
  go_enter Tryz.func188,Tryz.ntmps188
  go_wp2
  refine bodyPost_ret (v:=.agg (ltCells ⟨3,noAm,x,y⟩ none 0 o1 c1 o2 c2).toArray) (by simp[results,Tryz.results188,go_sem,noAm]) rfl ?_
  exact⟨rfl,HB0.out _ _ _⟩
 by_cases h1:s.data.toList=[33,61]
 ·rw[h1,show signP [33,61]=some (4,false) from by decide] at hs
  obtain⟨rfl,rfl⟩:=Prod.mk.inj (Option.some.inj hs)
  have e0:(s.toList == [61])=false:=str_no h0
  have e1:(s.toList == [33,61])=true:=str_eq h1
  clear hs h0 h1
  go_enter Tryz.func188,Tryz.ntmps188
  go_wp2
  refine bodyPost_ret (v:=.agg (ltCells ⟨4,noAm,x,y⟩ none 0 o1 c1 o2 c2).toArray) (by simp[results,Tryz.results188,go_sem,noAm]) rfl ?_
  exact⟨rfl,HB0.out _ _ _⟩
 by_cases h2:s.data.toList=[62]
 ·rw[h2,show signP [62]=some (5,true) from by decide] at hs
  obtain⟨rfl,rfl⟩:=Prod.mk.inj (Option.some.inj hs)
  have e0:(s.toList == [61])=false:=str_no h0
  have e1:(s.toList == [33,61])=false:=str_no h1
  have e2:(s.toList == [62])=true:=str_eq h2
  clear hs h0 h1 h2
  go_enter Tryz.func188,Tryz.ntmps188
  go_wp2
  refine bodyPost_ret (v:=.agg (ltCells ⟨5,noAm,y,x⟩ none 0 o2 c2 o1 c1).toArray) (by simp[results,Tryz.results188,go_sem,noAm]) rfl ?_
  exact⟨rfl,HB0.out _ _ _⟩
 by_cases h3:s.data.toList=[60]
 ·rw[h3,show signP [60]=some (5,false) from by decide] at hs
  obtain⟨rfl,rfl⟩:=Prod.mk.inj (Option.some.inj hs)
  have e0:(s.toList == [61])=false:=str_no h0
  have e1:(s.toList == [33,61])=false:=str_no h1
  have e2:(s.toList == [62])=false:=str_no h2
  have e3:(s.toList == [60])=true:=str_eq h3
  clear hs h0 h1 h2 h3
  go_enter Tryz.func188,Tryz.ntmps188
  go_wp2
  refine bodyPost_ret (v:=.agg (ltCells ⟨5,noAm,x,y⟩ none 0 o1 c1 o2 c2).toArray) (by simp[results,Tryz.results188,go_sem,noAm]) rfl ?_
  exact⟨rfl,HB0.out _ _ _⟩
 by_cases h4:s.data.toList=[62,61]
 ·rw[h4,show signP [62,61]=some (6,true) from by decide] at hs
  obtain⟨rfl,rfl⟩:=Prod.mk.inj (Option.some.inj hs)
  have e0:(s.toList == [61])=false:=str_no h0
  have e1:(s.toList == [33,61])=false:=str_no h1
  have e2:(s.toList == [62])=false:=str_no h2
  have e3:(s.toList == [60])=false:=str_no h3
  have e4:(s.toList == [62,61])=true:=str_eq h4
  clear hs h0 h1 h2 h3 h4
  go_enter Tryz.func188,Tryz.ntmps188
  go_wp2
  refine bodyPost_ret (v:=.agg (ltCells ⟨6,noAm,y,x⟩ none 0 o2 c2 o1 c1).toArray) (by simp[results,Tryz.results188,go_sem,noAm]) rfl ?_
  exact⟨rfl,HB0.out _ _ _⟩
 have h5:s.data.toList=[60,61]:=by
  unfold signP at hs
  simp only[h0,h1,h2,h3,h4,if_false] at hs
  split at hs
  ·assumption
  ·cases hs
 rw[h5,show signP [60,61]=some (6,false) from by decide] at hs
 obtain⟨rfl,rfl⟩:=Prod.mk.inj (Option.some.inj hs)
 have e0:(s.toList == [61])=false:=str_no h0
 have e1:(s.toList == [33,61])=false:=str_no h1
 have e2:(s.toList == [62])=false:=str_no h2
 have e3:(s.toList == [60])=false:=str_no h3
 have e4:(s.toList == [62,61])=false:=str_no h4
 clear hs h0 h1 h2 h3 h4 h5
 go_enter Tryz.func188,Tryz.ntmps188
 go_wp2
 refine bodyPost_ret (v:=.agg (ltCells ⟨6,noAm,x,y⟩ none 0 o1 c1 o2 c2).toArray) (by simp[results,Tryz.results188,go_sem,noAm]) rfl ?_
 exact⟨rfl,HB0.out _ _ _⟩
def howT (T N:TokI):Int:=
 if T.kind=1 then
  if T.s.data.toList=[99,111,117,110,116]∧tokB 4 [58] N=true then 7
  else if isNm N=true then
   (if T.s.data.toList=[115,117,109] then 8 else if T.s.data.toList=[109,105,110] then 9 else if T.s.data.toList=[109,97,120] then 10 else 0)
  else 0
 else 0
theorem howT_q (q:List TokI):howQ q=howT (hdT q) (hdT q.tail):=by
 cases q with
 | nil=>rfl
 | cons t l=>
  rw[howQ_cons]
  unfold howT
  rw[show (t::l).tail=l from rfl,show hdT (t::l)=t from rfl,tokB_hd (by decide),nm_hd]
theorem getD_one (q:List TokI):q.getD 1 T0=hdT q.tail:=by
 cases q with
 | nil=>rfl
 | cons t l=>cases l <;> rfl
set_option maxRecDepth 100000 in
set_option maxHeartbeats 8000000 in
theorem aggregateHere_c (C:RC) (du ru:Value) (q:List TokI) (w:World) (h:Rd C du ru q w) :
  Calls Tryz.prog 186 #[.pointer (some ⟨C.R,0,none⟩)] w fun e w'=>e=.returned (.int .i64 (howQ q))∧Below w.heap.size w w':=by
 have HB0:Hid (∀ (W:World) (x y:Obj),Below W.heap.size W ((W.alloc x).alloc y)):=hid fun W x y=>((Below.refl _ _).alloc (Nat.le_refl _) _).alloc (by simp) _
 rw[howT_q]
 have HF:Hid (∀ W,Below w.heap.size w W→Calls Tryz.prog 152 #[.pointer (some ⟨C.R,0,none⟩),.int .i64 1] W fun e w'=>e=.returned (tokW (hdT q.tail))∧Below W.heap.size W w'):=hid fun W hb=>by
  have:=further_c C 1 (Nat.le_refl _) du ru q W (h.below hb)
  rw[getD_one] at this
  exact this
 have HH:=hid (here_c C du ru q w h)
 have HG:=hid (good_hd (good_tail h.goodq))
 have HE:Hid (∀ W,Below w.heap.size w W→PEnv C.a W):=hid fun W hb=>h.env.below hb
 clear h
 generalize hdT q.tail=N at HF HG ⊢
 generalize hdT q=T at HH ⊢
 by_cases hk:T.kind=1
 ·have hk':(T.kind == 1)=true:=by simpa using hk
  by_cases h0:T.s.data.toList=[99,111,117,110,116]
  ·cases hn:tokB 4 [58] N with
   | true=>
    have Hr:Hid (howT T N=7):=hid (by unfold howT;rw[if_pos hk,h0,hn];simp)
    have Hn:=hid hn
    have e0:(T.s.toList == [99,111,117,110,116])=true:=str_eq h0
    clear hk hn h0
    go_enter Tryz.func186,Tryz.ntmps186
    go_wp2_with fail
    refine HH.out.mono ?_
    rintro e w1 ⟨rfl,b1⟩
    have B1:=hid b1
    clear b1
    go_wp2_with fail
    refine (HF.out w1 B1.out).mono ?_
    rintro e w2 ⟨rfl,b2⟩
    have B2:=hid (B1.out.trans (b2.mono B1.out.size))
    clear b2
    obtain⟨W3,hW3⟩:∃ W3,(w2.alloc (.cells #[.int .i64 T.kind,.string T.s,.int .i64 T.line] 89)).alloc (.cells #[.int .i64 N.kind,.string N.s,.int .i64 N.line] 89)=W3:=⟨_,rfl⟩
    have hb3:Below w.heap.size w W3:=by rw[← hW3];exact B2.out.trans ((HB0.out w2 _ _).mono B2.out.size)
    have hr3:Row w2.heap.size 89 [.int .i64 T.kind,.string T.s,.int .i64 T.line] W3:=by rw[← hW3];exact Row.al (Row.new w2 _ _) _
    have HW3:=hid hW3
    have B3:=hid hb3
    have Hr3:=hid hr3
    clear hW3 hb3 hr3
    go_wp2_with fail
    rw[HW3.out]
    refine (isSgn_c N ⟨#[58]⟩ true Hn.out W3).mono ?_
    rintro e w4 ⟨rfl,b4⟩
    have B4:=hid (B3.out.trans (b4.mono B3.out.size))
    have hr4:=Hr3.out.below b4 Hr3.out.lt
    have t0:=hr4.at 0 _ rfl
    have t1:=hr4.at 1 _ rfl
    clear b4 hr4
    go_wp2
    go_ret
    exact⟨by rw[Hr.out];rfl,B4.out⟩
   | false=>
    have Hr:Hid (howT T N=0):=hid (by unfold howT;rw[if_pos hk,h0,hn];simp)
    have Hn:=hid hn
    have e0:(T.s.toList == [99,111,117,110,116])=true:=str_eq h0
    have e1:(T.s.toList == [115,117,109])=false:=str_ne h0 (by decide)
    have e2:(T.s.toList == [109,105,110])=false:=str_ne h0 (by decide)
    have e3:(T.s.toList == [109,97,120])=false:=str_ne h0 (by decide)
    clear hk hn h0
    go_enter Tryz.func186,Tryz.ntmps186
    go_wp2_with fail
    refine HH.out.mono ?_
    rintro e w1 ⟨rfl,b1⟩
    have B1:=hid b1
    clear b1
    go_wp2_with fail
    refine (HF.out w1 B1.out).mono ?_
    rintro e w2 ⟨rfl,b2⟩
    have B2:=hid (B1.out.trans (b2.mono B1.out.size))
    clear b2
    obtain⟨W3,hW3⟩:∃ W3,(w2.alloc (.cells #[.int .i64 T.kind,.string T.s,.int .i64 T.line] 89)).alloc (.cells #[.int .i64 N.kind,.string N.s,.int .i64 N.line] 89)=W3:=⟨_,rfl⟩
    have hb3:Below w.heap.size w W3:=by rw[← hW3];exact B2.out.trans ((HB0.out w2 _ _).mono B2.out.size)
    have hr3:Row w2.heap.size 89 [.int .i64 T.kind,.string T.s,.int .i64 T.line] W3:=by rw[← hW3];exact Row.al (Row.new w2 _ _) _
    have HW3:=hid hW3
    have B3:=hid hb3
    have Hr3:=hid hr3
    clear hW3 hb3 hr3
    go_wp2_with fail
    rw[HW3.out]
    refine (isSgn_c N ⟨#[58]⟩ false Hn.out W3).mono ?_
    rintro e w4 ⟨rfl,b4⟩
    have B4:=hid (B3.out.trans (b4.mono B3.out.size))
    have hr4:=Hr3.out.below b4 Hr3.out.lt
    have t0:=hr4.at 0 _ rfl
    have t1:=hr4.at 1 _ rfl
    clear b4 hr4
    go_wp2
    go_ret
    exact⟨by rw[Hr.out];rfl,B4.out⟩
  by_cases h1:T.s.data.toList=[115,117,109]
  ·cases hn:isNm N with
   | true=>
    have Hr:Hid (howT T N=8):=hid (by unfold howT;rw[if_pos hk,h1,hn];simp)
    have Hn:=hid hn
    have e0:(T.s.toList == [99,111,117,110,116])=false:=str_no h0
    have e1:(T.s.toList == [115,117,109])=true:=str_eq h1
    clear hk hn h0 h1
    go_enter Tryz.func186,Tryz.ntmps186
    go_wp2_with fail
    refine HH.out.mono ?_
    rintro e w1 ⟨rfl,b1⟩
    have B1:=hid b1
    clear b1
    go_wp2_with fail
    refine (HF.out w1 B1.out).mono ?_
    rintro e w2 ⟨rfl,b2⟩
    have B2:=hid (B1.out.trans (b2.mono B1.out.size))
    clear b2
    obtain⟨W3,hW3⟩:∃ W3,(w2.alloc (.cells #[.int .i64 T.kind,.string T.s,.int .i64 T.line] 89)).alloc (.cells #[.int .i64 N.kind,.string N.s,.int .i64 N.line] 89)=W3:=⟨_,rfl⟩
    have hb3:Below w.heap.size w W3:=by rw[← hW3];exact B2.out.trans ((HB0.out w2 _ _).mono B2.out.size)
    have hr3:Row w2.heap.size 89 [.int .i64 T.kind,.string T.s,.int .i64 T.line] W3:=by rw[← hW3];exact Row.al (Row.new w2 _ _) _
    have HW3:=hid hW3
    have B3:=hid hb3
    have Hr3:=hid hr3
    clear hW3 hb3 hr3
    go_wp2_with fail
    rw[HW3.out]
    refine (isName_c N HG.out C.a W3 (HE.out W3 B3.out)).mono ?_
    rintro e w4 ⟨rfl,b4⟩
    rw[Hn.out]
    have B4:=hid (B3.out.trans (b4.mono B3.out.size))
    have hr4:=Hr3.out.below b4 Hr3.out.lt
    have t0:=hr4.at 0 _ rfl
    have t1:=hr4.at 1 _ rfl
    clear b4 hr4
    go_wp2
    go_ret
    exact⟨by rw[Hr.out];rfl,B4.out⟩
   | false=>
    have Hr:Hid (howT T N=0):=hid (by unfold howT;rw[if_pos hk,h1,hn];simp)
    have Hn:=hid hn
    have e0:(T.s.toList == [99,111,117,110,116])=false:=str_no h0
    have e1:(T.s.toList == [115,117,109])=true:=str_eq h1
    have e2:(T.s.toList == [109,105,110])=false:=str_ne h1 (by decide)
    have e3:(T.s.toList == [109,97,120])=false:=str_ne h1 (by decide)
    clear hk hn h0 h1
    go_enter Tryz.func186,Tryz.ntmps186
    go_wp2_with fail
    refine HH.out.mono ?_
    rintro e w1 ⟨rfl,b1⟩
    have B1:=hid b1
    clear b1
    go_wp2_with fail
    refine (HF.out w1 B1.out).mono ?_
    rintro e w2 ⟨rfl,b2⟩
    have B2:=hid (B1.out.trans (b2.mono B1.out.size))
    clear b2
    obtain⟨W3,hW3⟩:∃ W3,(w2.alloc (.cells #[.int .i64 T.kind,.string T.s,.int .i64 T.line] 89)).alloc (.cells #[.int .i64 N.kind,.string N.s,.int .i64 N.line] 89)=W3:=⟨_,rfl⟩
    have hb3:Below w.heap.size w W3:=by rw[← hW3];exact B2.out.trans ((HB0.out w2 _ _).mono B2.out.size)
    have hr3:Row w2.heap.size 89 [.int .i64 T.kind,.string T.s,.int .i64 T.line] W3:=by rw[← hW3];exact Row.al (Row.new w2 _ _) _
    have HW3:=hid hW3
    have B3:=hid hb3
    have Hr3:=hid hr3
    clear hW3 hb3 hr3
    go_wp2_with fail
    rw[HW3.out]
    refine (isName_c N HG.out C.a W3 (HE.out W3 B3.out)).mono ?_
    rintro e w4 ⟨rfl,b4⟩
    rw[Hn.out]
    have B4:=hid (B3.out.trans (b4.mono B3.out.size))
    have hr4:=Hr3.out.below b4 Hr3.out.lt
    have t0:=hr4.at 0 _ rfl
    have t1:=hr4.at 1 _ rfl
    clear b4 hr4
    go_wp2
    go_ret
    exact⟨by rw[Hr.out];rfl,B4.out⟩
  by_cases h2:T.s.data.toList=[109,105,110]
  ·cases hn:isNm N with
   | true=>
    have Hr:Hid (howT T N=9):=hid (by unfold howT;rw[if_pos hk,h2,hn];simp)
    have Hn:=hid hn
    have e0:(T.s.toList == [99,111,117,110,116])=false:=str_no h0
    have e1:(T.s.toList == [115,117,109])=false:=str_no h1
    have e2:(T.s.toList == [109,105,110])=true:=str_eq h2
    clear hk hn h0 h1 h2
    go_enter Tryz.func186,Tryz.ntmps186
    go_wp2_with fail
    refine HH.out.mono ?_
    rintro e w1 ⟨rfl,b1⟩
    have B1:=hid b1
    clear b1
    go_wp2_with fail
    refine (HF.out w1 B1.out).mono ?_
    rintro e w2 ⟨rfl,b2⟩
    have B2:=hid (B1.out.trans (b2.mono B1.out.size))
    clear b2
    obtain⟨W3,hW3⟩:∃ W3,(w2.alloc (.cells #[.int .i64 T.kind,.string T.s,.int .i64 T.line] 89)).alloc (.cells #[.int .i64 N.kind,.string N.s,.int .i64 N.line] 89)=W3:=⟨_,rfl⟩
    have hb3:Below w.heap.size w W3:=by rw[← hW3];exact B2.out.trans ((HB0.out w2 _ _).mono B2.out.size)
    have hr3:Row w2.heap.size 89 [.int .i64 T.kind,.string T.s,.int .i64 T.line] W3:=by rw[← hW3];exact Row.al (Row.new w2 _ _) _
    have HW3:=hid hW3
    have B3:=hid hb3
    have Hr3:=hid hr3
    clear hW3 hb3 hr3
    go_wp2_with fail
    rw[HW3.out]
    refine (isName_c N HG.out C.a W3 (HE.out W3 B3.out)).mono ?_
    rintro e w4 ⟨rfl,b4⟩
    rw[Hn.out]
    have B4:=hid (B3.out.trans (b4.mono B3.out.size))
    have hr4:=Hr3.out.below b4 Hr3.out.lt
    have t0:=hr4.at 0 _ rfl
    have t1:=hr4.at 1 _ rfl
    clear b4 hr4
    go_wp2
    go_ret
    exact⟨by rw[Hr.out];rfl,B4.out⟩
   | false=>
    have Hr:Hid (howT T N=0):=hid (by unfold howT;rw[if_pos hk,h2,hn];simp)
    have Hn:=hid hn
    have e0:(T.s.toList == [99,111,117,110,116])=false:=str_no h0
    have e1:(T.s.toList == [115,117,109])=false:=str_no h1
    have e2:(T.s.toList == [109,105,110])=true:=str_eq h2
    have e3:(T.s.toList == [109,97,120])=false:=str_ne h2 (by decide)
    clear hk hn h0 h1 h2
    go_enter Tryz.func186,Tryz.ntmps186
    go_wp2_with fail
    refine HH.out.mono ?_
    rintro e w1 ⟨rfl,b1⟩
    have B1:=hid b1
    clear b1
    go_wp2_with fail
    refine (HF.out w1 B1.out).mono ?_
    rintro e w2 ⟨rfl,b2⟩
    have B2:=hid (B1.out.trans (b2.mono B1.out.size))
    clear b2
    obtain⟨W3,hW3⟩:∃ W3,(w2.alloc (.cells #[.int .i64 T.kind,.string T.s,.int .i64 T.line] 89)).alloc (.cells #[.int .i64 N.kind,.string N.s,.int .i64 N.line] 89)=W3:=⟨_,rfl⟩
    have hb3:Below w.heap.size w W3:=by rw[← hW3];exact B2.out.trans ((HB0.out w2 _ _).mono B2.out.size)
    have hr3:Row w2.heap.size 89 [.int .i64 T.kind,.string T.s,.int .i64 T.line] W3:=by rw[← hW3];exact Row.al (Row.new w2 _ _) _
    have HW3:=hid hW3
    have B3:=hid hb3
    have Hr3:=hid hr3
    clear hW3 hb3 hr3
    go_wp2_with fail
    rw[HW3.out]
    refine (isName_c N HG.out C.a W3 (HE.out W3 B3.out)).mono ?_
    rintro e w4 ⟨rfl,b4⟩
    rw[Hn.out]
    have B4:=hid (B3.out.trans (b4.mono B3.out.size))
    have hr4:=Hr3.out.below b4 Hr3.out.lt
    have t0:=hr4.at 0 _ rfl
    have t1:=hr4.at 1 _ rfl
    clear b4 hr4
    go_wp2
    go_ret
    exact⟨by rw[Hr.out];rfl,B4.out⟩
  by_cases h3:T.s.data.toList=[109,97,120]
  ·cases hn:isNm N with
   | true=>
    have Hr:Hid (howT T N=10):=hid (by unfold howT;rw[if_pos hk,h3,hn];simp)
    have Hn:=hid hn
    have e0:(T.s.toList == [99,111,117,110,116])=false:=str_no h0
    have e1:(T.s.toList == [115,117,109])=false:=str_no h1
    have e2:(T.s.toList == [109,105,110])=false:=str_no h2
    have e3:(T.s.toList == [109,97,120])=true:=str_eq h3
    clear hk hn h0 h1 h2 h3
    go_enter Tryz.func186,Tryz.ntmps186
    go_wp2_with fail
    refine HH.out.mono ?_
    rintro e w1 ⟨rfl,b1⟩
    have B1:=hid b1
    clear b1
    go_wp2_with fail
    refine (HF.out w1 B1.out).mono ?_
    rintro e w2 ⟨rfl,b2⟩
    have B2:=hid (B1.out.trans (b2.mono B1.out.size))
    clear b2
    obtain⟨W3,hW3⟩:∃ W3,(w2.alloc (.cells #[.int .i64 T.kind,.string T.s,.int .i64 T.line] 89)).alloc (.cells #[.int .i64 N.kind,.string N.s,.int .i64 N.line] 89)=W3:=⟨_,rfl⟩
    have hb3:Below w.heap.size w W3:=by rw[← hW3];exact B2.out.trans ((HB0.out w2 _ _).mono B2.out.size)
    have hr3:Row w2.heap.size 89 [.int .i64 T.kind,.string T.s,.int .i64 T.line] W3:=by rw[← hW3];exact Row.al (Row.new w2 _ _) _
    have HW3:=hid hW3
    have B3:=hid hb3
    have Hr3:=hid hr3
    clear hW3 hb3 hr3
    go_wp2_with fail
    rw[HW3.out]
    refine (isName_c N HG.out C.a W3 (HE.out W3 B3.out)).mono ?_
    rintro e w4 ⟨rfl,b4⟩
    rw[Hn.out]
    have B4:=hid (B3.out.trans (b4.mono B3.out.size))
    have hr4:=Hr3.out.below b4 Hr3.out.lt
    have t0:=hr4.at 0 _ rfl
    have t1:=hr4.at 1 _ rfl
    clear b4 hr4
    go_wp2
    go_ret
    exact⟨by rw[Hr.out];rfl,B4.out⟩
   | false=>
    have Hr:Hid (howT T N=0):=hid (by unfold howT;rw[if_pos hk,h3,hn];simp)
    have Hn:=hid hn
    have e0:(T.s.toList == [99,111,117,110,116])=false:=str_no h0
    have e1:(T.s.toList == [115,117,109])=false:=str_no h1
    have e2:(T.s.toList == [109,105,110])=false:=str_no h2
    have e3:(T.s.toList == [109,97,120])=true:=str_eq h3
    clear hk hn h0 h1 h2 h3
    go_enter Tryz.func186,Tryz.ntmps186
    go_wp2_with fail
    refine HH.out.mono ?_
    rintro e w1 ⟨rfl,b1⟩
    have B1:=hid b1
    clear b1
    go_wp2_with fail
    refine (HF.out w1 B1.out).mono ?_
    rintro e w2 ⟨rfl,b2⟩
    have B2:=hid (B1.out.trans (b2.mono B1.out.size))
    clear b2
    obtain⟨W3,hW3⟩:∃ W3,(w2.alloc (.cells #[.int .i64 T.kind,.string T.s,.int .i64 T.line] 89)).alloc (.cells #[.int .i64 N.kind,.string N.s,.int .i64 N.line] 89)=W3:=⟨_,rfl⟩
    have hb3:Below w.heap.size w W3:=by rw[← hW3];exact B2.out.trans ((HB0.out w2 _ _).mono B2.out.size)
    have hr3:Row w2.heap.size 89 [.int .i64 T.kind,.string T.s,.int .i64 T.line] W3:=by rw[← hW3];exact Row.al (Row.new w2 _ _) _
    have HW3:=hid hW3
    have B3:=hid hb3
    have Hr3:=hid hr3
    clear hW3 hb3 hr3
    go_wp2_with fail
    rw[HW3.out]
    refine (isName_c N HG.out C.a W3 (HE.out W3 B3.out)).mono ?_
    rintro e w4 ⟨rfl,b4⟩
    rw[Hn.out]
    have B4:=hid (B3.out.trans (b4.mono B3.out.size))
    have hr4:=Hr3.out.below b4 Hr3.out.lt
    have t0:=hr4.at 0 _ rfl
    have t1:=hr4.at 1 _ rfl
    clear b4 hr4
    go_wp2
    go_ret
    exact⟨by rw[Hr.out];rfl,B4.out⟩
  have Hr:Hid (howT T N=0):=hid (by unfold howT;simp[h0,h1,h2,h3])
  have e0:(T.s.toList == [99,111,117,110,116])=false:=str_no h0
  have e1:(T.s.toList == [115,117,109])=false:=str_no h1
  have e2:(T.s.toList == [109,105,110])=false:=str_no h2
  have e3:(T.s.toList == [109,97,120])=false:=str_no h3
  clear hk h0 h1 h2 h3
  go_enter Tryz.func186,Tryz.ntmps186
  go_wp2_with fail
  refine HH.out.mono ?_
  rintro e w1 ⟨rfl,b1⟩
  have B1:=hid b1
  clear b1
  go_wp2_with fail
  refine (HF.out w1 B1.out).mono ?_
  rintro e w2 ⟨rfl,b2⟩
  have B2:=hid (B1.out.trans (b2.mono B1.out.size))
  clear b2
  go_wp2
  go_ret
  exact⟨by rw[Hr.out];rfl,B2.out.trans ((HB0.out w2 _ _).mono B2.out.size)⟩
 ·have hk':(T.kind == 1)=false:=by simpa using hk
  have Hr:Hid (howT T N=0):=hid (by unfold howT;rw[if_neg hk])
  clear hk
  go_enter Tryz.func186,Tryz.ntmps186
  go_wp2_with fail
  refine HH.out.mono ?_
  rintro e w1 ⟨rfl,b1⟩
  have B1:=hid b1
  clear b1
  go_wp2_with fail
  refine (HF.out w1 B1.out).mono ?_
  rintro e w2 ⟨rfl,b2⟩
  have B2:=hid (B1.out.trans (b2.mono B1.out.size))
  clear b2
  go_wp2
  go_ret
  exact⟨by rw[Hr.out];rfl,B2.out.trans ((HB0.out w2 _ _).mono B2.out.size)⟩
end Go.Proofs.YtdgbajnhhhjbcaaGreatDoor
