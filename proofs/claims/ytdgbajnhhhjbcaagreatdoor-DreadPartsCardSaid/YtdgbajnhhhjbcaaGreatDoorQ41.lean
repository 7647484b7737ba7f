/- Rm2@012, Rm3@012 -/
import Derived.Test.YtdgbajnhhhjbcaaGreatDoorQ40
set_option linter.unusedSimpArgs false
namespace Go.Proofs.YtdgbajnhhhjbcaaGreatDoor
open Lib(hid)
open Go.RowKit
def kindI (t:TokI):Int:=if tokB 1 [110,117,109,98,101,114] t=true then 1 else if tokB 1 [115,121,109,98,111,108] t=true then 2 else 0
theorem tok_is {k:Int} {s:List UInt8} {t:TokI} (hk:(t.kind == k)=true):tokB k s t=(t.s.data.toList == s):=by unfold tokB;rw[hk,Bool.true_and]
set_option maxRecDepth 100000 in
set_option maxHeartbeats 4000000 in
theorem typeOf_c (t:TokI) (w:World):Calls Tryz.prog 155 #[tokW t] w fun e w'=>e=.returned (.int .i64 (kindI t))∧Below w.heap.size w w':=by
 have HB0:Hid (∀ (x:Obj),Below w.heap.size w (w.alloc x)):=hid fun x=>(Below.refl _ _).alloc (Nat.le_refl _) _
 by_cases hk:t.kind=1
 ·have hk':(t.kind == 1)=true:=by simpa using hk
  have hk2:(t.kind != 1)=false:=by simp[hk]
  by_cases h0:t.s.data.toList=[110,117,109,98,101,114]
  ·have Hr:Hid (kindI t=1):=hid (by unfold kindI;rw[tok_is hk',h0];rfl)
   have e0:(t.s.toList == [110,117,109,98,101,114])=true:=str_eq h0
   clear h0 hk
   go_enter Tryz.func155,Tryz.ntmps155
   go_wp2
   go_ret
   exact⟨by rw[Hr.out];rfl,HB0.out _⟩
  by_cases h1:t.s.data.toList=[115,121,109,98,111,108]
  ·have Hr:Hid (kindI t=2):=hid (by unfold kindI;rw[tok_is hk',tok_is hk',h1];rfl)
   have e0:(t.s.toList == [110,117,109,98,101,114])=false:=str_no h0
   have e1:(t.s.toList == [115,121,109,98,111,108])=true:=str_eq h1
   clear h0 h1 hk
   go_enter Tryz.func155,Tryz.ntmps155
   go_wp2
   go_ret
   exact⟨by rw[Hr.out];rfl,HB0.out _⟩
  ·have Hr:Hid (kindI t=0):=hid (by unfold kindI;rw[tok_is hk',tok_is hk',if_neg (by simpa using h0),if_neg (by simpa using h1)])
   have e0:(t.s.toList == [110,117,109,98,101,114])=false:=str_no h0
   have e1:(t.s.toList == [115,121,109,98,111,108])=false:=str_no h1
   clear h0 h1 hk
   go_enter Tryz.func155,Tryz.ntmps155
   go_wp2
   go_ret
   exact⟨by rw[Hr.out];rfl,HB0.out _⟩
 ·have Hr:Hid (kindI t=0):=hid (by unfold kindI;rw[tok_not hk,tok_not hk];rfl)
  have hk':(t.kind == 1)=false:=by simpa using hk
  have hk2:(t.kind != 1)=true:=by simpa using hk
  clear hk
  go_enter Tryz.func155,Tryz.ntmps155
  go_wp2
  go_ret
  exact⟨by rw[Hr.out];rfl,HB0.out _⟩
def CoC (_:World) (_:Nat) (x:ByteArray × Int) (cs:List Value):Prop:=cs=[.string x.1,.int .i64 x.2]∧x.1.size≤maxLen∧I64 x.2
theorem lays_co:Lays CoC:=fun _ _ _ _ _ _ _ _ h=>h
def CoR (C:RC) (du ru:Value) (r:Res (ByteArray × Int)) (w:World) (e:Ending) (w':World):Prop:=
 (match r with
  | .ok (x,q')=>e=.returned (.tuple #[.agg #[.string x.1,.int .i64 x.2],.nilIface])∧CoC (past w.heap.size w') w'.heap.size x [.string x.1,.int .i64 x.2]∧Rd C du ru q' w'
  | .error x=>e=.returned (.tuple #[.agg #[.string ⟨#[]⟩,.int .i64 0],flawV x.1 x.2]))∧Gr C.R w w'
theorem CoR.bad {C:RC} {du ru:Value} {r:Res (ByteArray × Int)} {k n:Int} {w w':World} (hr:r=.error (k,n)) (g:Gr C.R w w'):CoR C du ru r w (.returned (.tuple #[.agg #[.string ⟨#[]⟩,.int .i64 0],flawV k n])) w':=by
 subst hr
 exact⟨rfl,g⟩
theorem CoR.good {C:RC} {du ru:Value} {r:Res (ByteArray × Int)} {s:ByteArray} {n:Int} {q:List TokI} {w w':World} (hr:r=.ok ((s,n),q)) (hs:s.size≤maxLen) (hn:I64 n) (hq:Rd C du ru q w') (g:Gr C.R w w'):CoR C du ru r w (.returned (.tuple #[.agg #[.string s,.int .i64 n],.nilIface])) w':=by
 subst hr
 exact⟨⟨rfl,⟨rfl,hs,hn⟩,hq⟩,g⟩
theorem type_kind (q:List TokI):typeP q=if kindI (hdT q)=0 then .error (40,lineL q) else .ok (kindI (hdT q),q.tail):=by
 unfold typeP kindI
 rw[tokB_hd (by decide),tokB_hd (by decide)]
 by_cases h1:nextB 1 [110,117,109,98,101,114] q=true
 ·rw[if_pos h1,if_pos h1,if_neg (by decide)]
 ·rw[if_neg h1,if_neg h1]
  unfold mustP
  by_cases h2:nextB 1 [115,121,109,98,111,108] q=true
  ·rw[if_pos h2,if_pos h2,if_neg (by decide)]
  ·rw[if_neg h2,if_neg h2,if_pos rfl]
theorem kind_val (t:TokI):kindI t=0∨kindI t=1∨kindI t=2:=by
 unfold kindI
 split
 ·simp
 split
 ·simp
 ·simp
set_option maxRecDepth 100000 in
set_option maxHeartbeats 4000000 in
theorem column_c (C:RC) (du ru:Value) (q:List TokI) (w:World) (h:Rd C du ru q w) :
  Calls Tryz.prog 121 #[.pointer (some ⟨C.R,0,none⟩)] w (CoR C du ru (columnP q) w):=by
 have hltR:=h.lt
 have HB0:Hid (∀ (W:World) (x:Obj),Below W.heap.size W (W.alloc x)):=hid fun W x=>(Below.refl _ _).alloc (Nat.le_refl _) _
 obtain⟨W1,hW1⟩:∃ W1,w.alloc (.cells #[.string ⟨#[]⟩,.int .i64 0] 192)=W1:=⟨_,rfl⟩
 have hb1:Below w.heap.size w W1:=by rw[← hW1];exact (Below.refl _ _).alloc (Nat.le_refl _) _
 have hr1:Row w.heap.size 192 [.string ⟨#[]⟩,.int .i64 0] W1:=by rw[← hW1];exact Row.new w _ _
 have HN:=hid (name_c C du ru q W1 (h.below hb1))
 have HG:=hid (good_hd h.goodq)
 have HW1:=hid hW1
 have Hb1:=hid (Gr.of_below (R:=C.R) hb1)
 have Hr1:=hid hr1
 clear h hW1 hb1 hr1
 cases hp:nameP q with
 | error z=>
  have Hq:Hid (columnP q=.error (z.1,z.2)):=hid (by unfold columnP;rw[hp])
  have Hp:=hid hp
  clear hp
  go_enter Tryz.func121,Tryz.ntmps121
  go_wp2_with fail
  rw[HW1.out]
  refine HN.out.mono ?_
  rintro e w2 ⟨hm,g2⟩
  rw[Hp.out] at hm
  obtain rfl:=hm
  have hr2:=Hr1.out.gr g2 (by omega)
  have hlt2:=hr2.lt
  obtain⟨c0,c1,f2⟩:=hr2.r2
  have G2:=hid (Hb1.out.trans g2)
  clear g2 hr2
  go_wp2
  refine bodyPost_ret (v:=.tuple #[.agg #[.string ⟨#[]⟩,.int .i64 0],flawV z.1 z.2]) (by simp[results,Tryz.results121,go_sem,c0,c1]) rfl ?_
  exact CoR.bad Hq.out (G2.out.set2 (Nat.le_refl _) _ _)
 | ok y=>
  obtain⟨s,p⟩:=y
  have Hs:=hid (name_size hp HG.out)
  have Hp:=hid hp
  have Hq0:Hid (columnP q=match mustP 4 [58] () p with | .error e=>.error e | .ok (_,q)=>match typeP q with | .error e=>.error e | .ok (n,q)=>.ok ((s,n),q)):=hid (by unfold columnP;rw[hp];rfl)
  clear hp
  go_enter Tryz.func121,Tryz.ntmps121
  go_wp2_with fail
  rw[HW1.out]
  refine HN.out.mono ?_
  rintro e w1 ⟨hm,g1⟩
  rw[Hp.out] at hm
  obtain⟨rfl,r1⟩:=hm
  obtain⟨W2,hW2⟩:∃ W2,w1.alloc (.cells #[.string ⟨#[58]⟩] 9)=W2:=⟨_,rfl⟩
  have hb2:Below w1.heap.size w1 W2:=by rw[← hW2];exact HB0.out w1 _
  have hr2:Row w1.heap.size 9 [.string ⟨#[58]⟩] W2:=by rw[← hW2];exact Row.new w1 _ _
  have HS2:=hid (sign1_c C du ru p ⟨#[58]⟩ w1.heap.size W2 (r1.below hb2) (hr2.at 0 _ rfl))
  have G2:=hid ((Hb1.out.trans g1).trans (Gr.of_below hb2))
  have Hr2:=hid ((Hr1.out.gr g1 (by omega)).gr (Gr.of_below (R:=C.R) hb2) (by omega))
  have HW2:=hid hW2
  clear r1 g1 hb2 hr2 hW2
  cases hn:nextB 4 [58] p with
  | false=>
   have Hn:=hid (show signsP [[58]] p=.error (40,lineL p) by simp[signsP,hn])
   have Hq:Hid (columnP q=.error (40,lineL p)):=hid (by rw[Hq0.out,must_f hn])
   clear hn
   go_wp2_with fail
   rw[HW2.out]
   refine HS2.out.mono ?_
   rintro e w3 ⟨hse,_,g3⟩
   rw[Hn.out] at hse
   have hse:e=.returned (flawV 40 (lineL p)):=hse
   subst hse
   have hr3:=Hr2.out.gr g3 (by omega)
   have hlt3:=hr3.lt
   obtain⟨c0,c1,f2⟩:=hr3.r2
   have G3:=hid (G2.out.trans g3)
   clear g3 hr3
   go_wp2
   refine bodyPost_ret (v:=.tuple #[.agg #[.string ⟨#[]⟩,.int .i64 0],flawV 40 (lineL p)]) (by simp[results,Tryz.results121,go_sem,c0,c1]) rfl ?_
   exact CoR.bad Hq.out (G3.out.set2 (Nat.le_refl _) _ _)
  | true=>
   have Hn:=hid (show signsP [[58]] p=.ok p.tail by simp[signsP,hn])
   have Hq1:Hid (columnP q=match typeP p.tail with | .error e=>.error e | .ok (n,q)=>.ok ((s,n),q)):=hid (by rw[Hq0.out,must_t hn])
   clear hn
   go_wp2_with fail
   rw[HW2.out]
   refine HS2.out.mono ?_
   rintro e w3 ⟨hse,hrd,g3⟩
   rw[Hn.out] at hse hrd
   have hse:e=.returned .nilIface:=hse
   subst hse
   have R3:=hid (hrd _ rfl)
   have G3:=hid (G2.out.trans g3)
   have Hr3:=hid (Hr2.out.gr g3 (by omega))
   clear hrd g3
   go_wp2_with fail
   refine (here_c C du ru p.tail w3 R3.out).mono ?_
   rintro e w4 ⟨rfl,b4⟩
   have Hr4:=hid (Hr3.out.below b4 Hr3.out.lt)
   have G4:=hid (G3.out.trans (Gr.of_below b4))
   have R4:=hid (R3.out.below b4)
   clear b4
   have Ht:=hid (type_kind p.tail)
   go_wp2_with fail
   refine (typeOf_c (hdT p.tail) w4).mono ?_
   rintro e w5 ⟨rfl,b5⟩
   have Hr5:=hid (Hr4.out.below b5 Hr4.out.lt)
   have G5:=hid (G4.out.trans (Gr.of_below b5))
   have R5:=hid (R4.out.below b5)
   clear b5
   by_cases hk:kindI (hdT p.tail)=0
   ·have Hq:Hid (columnP q=.error (40,lineL p.tail)):=hid (by rw[Hq1.out,Ht.out,if_pos hk])
    rw[hk]
    clear hk
    go_wp2_with fail
    refine (fail_c C du ru p.tail 40 w5 R5.out).mono ?_
    rintro e w6 ⟨rfl,b6⟩
    have hr6:=Hr5.out.below b6 Hr5.out.lt
    have hlt6:=hr6.lt
    obtain⟨c0,c1,f2⟩:=hr6.r2
    have G6:=hid (G5.out.trans (Gr.of_below b6))
    clear b6 hr6
    go_wp2
    refine bodyPost_ret (v:=.tuple #[.agg #[.string ⟨#[]⟩,.int .i64 0],flawV 40 (lineL p.tail)]) (by simp[results,Tryz.results121,go_sem,c0,c1]) rfl ?_
    exact CoR.bad Hq.out (G6.out.set2 (Nat.le_refl _) _ _)
   ·have Hq:Hid (columnP q=.ok ((s,kindI (hdT p.tail)),p.tail.tail)):=hid (by rw[Hq1.out,Ht.out,if_neg hk])
    have hne:p.tail≠[]:=by
     intro e
     rw[e] at hk
     exact hk rfl
    have HI:Hid (I64 (kindI (hdT p.tail))):=hid (by rcases kind_val (hdT p.tail) with e | e | e <;> rw[e] <;> unfold I64 <;> decide)
    obtain⟨k,hkk⟩:∃ k,kindI (hdT p.tail)=k:=⟨_,rfl⟩
    rw[hkk] at Hq HI hk ⊢
    have hk0:(k == 0)=false:=by simpa using hk
    have Hne:=hid hne
    clear hk hne hkk Ht
    go_wp2_with fail
    refine (step_c C du ru p.tail Hne.out w5 R5.out).mono ?_
    rintro e w6 ⟨rfl,r6,g6⟩
    have hr6:=Hr5.out.gr g6 (by omega)
    have hlt6:=hr6.lt
    obtain⟨c0,c1,f2⟩:=hr6.r2
    have G6:=hid (G5.out.trans g6)
    have R6:=hid r6
    clear g6 hr6 r6
    go_wp2
    refine bodyPost_ret (v:=.tuple #[.agg #[.string s,.int .i64 k],.nilIface]) (by simp[results,Tryz.results121,go_sem,c0,c1]) rfl ?_
    exact CoR.good Hq.out Hs.out HI.out (R6.out.set2 hltR _ _) (G6.out.set2 (Nat.le_refl _) _ _)
end Go.Proofs.YtdgbajnhhhjbcaaGreatDoor
namespace Go.Proofs.YtdgbajnhhhjbcaaGreatDoor
open Lib(hid)
open Go.RowKit
attribute [local go_sem] Oper.semAt_some
theorem infoCo:(Tryz.prog.info? 192).map (fun i=>(i.zero,i.size,i.bytes))=some (some (.agg #[.string ⟨#[]⟩,.int .i64 0]),2,24):=by kernel_rfl
set_option maxRecDepth 100000 in
set_option maxHeartbeats 16000000 in
theorem listC_in (C:RC) (du ru:Value) (q0:List TokI) (w:World) (h:Rd C du ru q0 w) :
  CallsIn Fence.wide 6 Tryz.prog 154 #[.pointer (some ⟨C.R,0,none⟩),.int .i64 8,.func (.func 121) #[.pointer (some ⟨C.R,0,none⟩)] #[]] w (ListR 2 CoC C du ru (columnsP [] q0) w):=by
 have hltR:=h.lt
 obtain⟨n0,hn0⟩:∃ n0,w.heap.size=n0:=⟨_,rfl⟩
 obtain⟨WL,hWL⟩:∃ WL,(((((w.alloc (.cells #[.pointer (some ⟨C.R,0,none⟩)] 109)).alloc (.cells #[.int .i64 8] 3)).alloc (.cells #[(fnV 121 C.R)] 193)).alloc (.cells #[.slice none 0 0] 188)).alloc (.cells #[.nilIface] 75))=WL:=⟨_,rfl⟩
 have hs:WL.heap.size=n0+5:=by rw[← hWL];simp[hn0]
 have hbL:Below n0 w WL:=by
  rw[← hWL]
  exact (((((Below.refl _ w).alloc (by omega) _).alloc (by simp;omega) _).alloc (by simp;omega) _).alloc (by simp;omega) _).alloc (by simp;omega) _
 have rows:Row n0 109 [.pointer (some ⟨C.R,0,none⟩)] WL∧Row (n0+1) 3 [.int .i64 8] WL∧Row (n0+2) 193 [(fnV 121 C.R)] WL∧Row (n0+3) 188 [.slice none 0 0] WL∧Row (n0+4) 75 [.nilIface] WL:=by
  rw[← hWL]
  refine⟨?_,?_,?_,?_,?_⟩
  ·have:=((((Row.new w 109 [.pointer (some ⟨C.R,0,none⟩)]).al (.cells #[.int .i64 8] 3)).al (.cells #[(fnV 121 C.R)] 193)).al (.cells #[.slice none 0 0] 188)).al (.cells #[.nilIface] 75)
   rw[hn0] at this
   exact this
  ·have:=(((Row.new (w.alloc (.cells #[.pointer (some ⟨C.R,0,none⟩)] 109)) 3 [.int .i64 8]).al (.cells #[(fnV 121 C.R)] 193)).al (.cells #[.slice none 0 0] 188)).al (.cells #[.nilIface] 75)
   simp only[World.size_alloc] at this
   rw[hn0] at this
   exact this
  ·have:=((Row.new ((w.alloc (.cells #[.pointer (some ⟨C.R,0,none⟩)] 109)).alloc (.cells #[.int .i64 8] 3)) 193 [(fnV 121 C.R)]).al (.cells #[.slice none 0 0] 188)).al (.cells #[.nilIface] 75)
   simp only[World.size_alloc] at this
   rw[hn0] at this
   exact this
  ·have:=(Row.new (((w.alloc (.cells #[.pointer (some ⟨C.R,0,none⟩)] 109)).alloc (.cells #[.int .i64 8] 3)).alloc (.cells #[(fnV 121 C.R)] 193)) 188 [.slice none 0 0]).al (.cells #[.nilIface] 75)
   simp only[World.size_alloc] at this
   rw[hn0] at this
   exact this
  ·have:=Row.new ((((w.alloc (.cells #[.pointer (some ⟨C.R,0,none⟩)] 109)).alloc (.cells #[.int .i64 8] 3)).alloc (.cells #[(fnV 121 C.R)] 193)).alloc (.cells #[.slice none 0 0] 188)) 75 [.nilIface]
   simp only[World.size_alloc] at this
   rw[hn0] at this
   exact this
 have hI0:LsI C du ru n0 8 (fnV 121 C.R) 193 188 192 2 CoC w [] q0 WL:=
  ⟨rows.1,rows.2.1,rows.2.2.1,rows.2.2.2.2,⟨_,[],rows.2.2.2.1,World.ownsRow_nil _ _ _ _,Laid.nil⟩,h.below (by rw[hn0];exact hbL),Gr.of_below (by rw[hn0];exact hbL)⟩
 have HI0:=hid hI0
 have Hn0:=hid hn0
 have HWL:=hid hWL
 have Hs:=hid hs
 have hRn:C.R < n0:=by omega
 clear h hI0 hWL hs hbL rows
 refine callsIn_of_wp_marks Tryz.func154 rfl trivial ?_ rfl
 simp only[Tryz.ntmps154,List.size_toArray,List.length_cons,List.length_nil,Nat.reduceAdd,Nat.reduceSub,Array.replicate_succ,Array.replicate_zero,List.push_toArray,List.append_toArray,List.nil_append,List.cons_append]
 gi_wp2_with fail
 refine scopeWide ?_
 gi_wp2_with fail
 refine wpIn_label ?_
 gi_wp2_with fail
 rw[HWL.out]
 refine range_moves rfl (by omega) (gf:=162) (bd:=#[.pointer (some ⟨C.R,0,none⟩)]) (lb:=#[]) rfl trivial (enters_of Tryz.func162 (by kernel_rfl) rfl)
  (eachPlace_moves 5 (by omega) C du ru 8 (by omega)) (fun _=>rfl)
  (fun k W=>∃ acc q,acc.length=k∧LsI C du ru n0 8 (fnV 121 C.R) 193 188 192 2 CoC w acc q W∧columnsP [] q0=columnsP acc q∧k≤8)
  (fun k W=>∃ acc q,acc.length=k+1∧LsI C du ru n0 8 (fnV 121 C.R) 193 188 192 2 CoC w acc q W∧columnsP [] q0=(if nextB 4 [44] q=true then columnsP acc q.tail else .ok (acc,q))∧k < 8)
  (fun c W=>c=.exit 0∧∃ x,columnsP [] q0=.error x∧Row (n0+4) 75 [flawV x.1 x.2] W∧Gr C.R w W)
  (fun W=>∃ acc q,LsI C du ru n0 8 (fnV 121 C.R) 193 188 192 2 CoC w acc q W∧columnsP [] q0=.ok (acc,q))
  (fun k a' W=>(∃ acc q,acc.length=k∧LsI C du ru n0 8 (fnV 121 C.R) 193 188 192 2 CoC w acc q W∧columnsP [] q0=columnsP acc q∧k≤8)∧a'={ tmps:=#[.pointer (some ⟨C.R,0,none⟩),.int .i64 8,(fnV 121 C.R),.pointer (some ⟨n0,0,none⟩),.pointer (some ⟨n0+1,0,none⟩),.pointer (some ⟨n0+1+1,0,none⟩),.slice none 0 0,.nilIface,.pointer (some ⟨n0+1+1+1,0,none⟩),.pointer (some ⟨n0+1+1+1+1,0,none⟩),.int .i64 (k:Int),undef,undef,.pointer (some ⟨C.R,0,none⟩),.func (.func 162) #[.pointer (some ⟨C.R,0,none⟩)] #[],.int .i64 (k:Int),undef,undef,undef,undef,undef,undef,undef,undef,undef,undef,undef,undef,undef,undef,undef,undef,undef,undef,undef,undef,undef],defers:=[] })
  ?fB ?fX ?fZ ?fM ?h0 ?hB ?assign ?body ?done ?stop
 case fB=>
  rintro k W W' hp ⟨acc,q,hl,hI,hq,hk⟩
  exact⟨acc,q,hl,LsI.put lays_co (by rw[Hs.out];omega) (by rw[Hs.out,Hn0.out];omega) hp hI,hq,hk⟩
 case fX=>
  rintro c W W' hp ⟨hc,x,h1,h2,h3⟩
  exact⟨hc,x,h1,put_row hp h2,put_gr hp h3 (by rw[Hs.out,Hn0.out];omega)⟩
 case fZ=>
  rintro W W' hp ⟨acc,q,hI,hq⟩
  exact⟨acc,q,LsI.put lays_co (by rw[Hs.out];omega) (by rw[Hs.out,Hn0.out];omega) hp hI,hq⟩
 case fM=>
  rintro k a' W W' hp ⟨⟨acc,q,hl,hI,hq,hk⟩,ha⟩
  exact⟨⟨acc,q,hl,LsI.put lays_co (by rw[Hs.out];omega) (by rw[Hs.out,Hn0.out];omega) hp hI,hq,hk⟩,ha⟩
 case h0=>
  intro o o'
  have hb:Below WL.heap.size WL ((WL.alloc o).alloc o'):=((Below.refl _ _).alloc (Nat.le_refl _) _).alloc (by simp) _
  exact⟨[],q0,rfl,HI0.out.move lays_co (Gr.of_below hb) hRn (HI0.out.rd.below hb),rfl,by omega⟩
 case hB=>
  rintro k W1 ⟨acc,q,hl,hI,hq,hk⟩
  refine⟨⟨hk,q,hI.rd⟩,?_,?_⟩
  ·rintro k' W2 ⟨rfl,q',r1,hc,r2,g2⟩
   obtain rfl:=Rd.uniq hI.rd r1
   exact⟨(hI.rd.keeps g2).from _,acc,q.tail,hl,hI.move lays_co g2 hRn r2,by rw[hq,if_pos hc],by omega⟩
  ·rintro W2 ⟨q',r1,hc,r2,g2⟩
   obtain rfl:=Rd.uniq hI.rd r1
   exact⟨(hI.rd.keeps g2).from _,acc,q,hI.move lays_co g2 hRn r2,by rw[hq,if_neg (by simp[hc])]⟩
 case assign=>
  rintro l k W hA
  gi_wp2
  exact⟨KeepsFrom.refl _ _,hA,trivial⟩
 case body=>
  rintro l k a' W ⟨⟨acc,q,hl,hI,hq,hk⟩,rfl⟩
  dsimp only
  obtain⟨v,xs,hv,hown,hlaid⟩:=hI.l
  have c3:W.cell? ⟨n0,0,none⟩=some (.pointer (some ⟨C.R,0,none⟩)):=hI.r.at 0 _ rfl
  have c4:W.cell? ⟨n0+1,0,none⟩=some (.int .i64 8):=hI.m.at 0 _ rfl
  have c5:W.cell? ⟨n0+1+1,0,none⟩=some (fnV 121 C.R):=hI.f.at 0 _ rfl
  have c8:W.cell? ⟨n0+1+1+1,0,none⟩=some v:=hv.at 0 _ rfl
  have c9:W.cell? ⟨n0+1+1+1+1,0,none⟩=some .nilIface:=hI.e.at 0 _ rfl
  have f9:W.frozen? ⟨n0+1+1+1+1,0,none⟩=false:=hI.e.frz 0
  have hI':=hid hI
  have Hv:=hid hv
  have Hown:=hid hown
  have Hlaid:=hid hlaid
  have Hq:=hid hq
  have Hl:=hid hl
  clear hI hv hown hlaid hq hl
  by_cases hk8:k=8
  ·have hk8':((k:Int) == 8)=true:=by simp;omega
   have He:Hid (columnsP [] q0=.error (21,lineL q)):=hid (by rw[Hq.out,columnsP_eq,if_pos (by rw[Hl.out,hk8])])
   have Hk8:=hid hk8
   clear hk8
   gi_wp2_with fail
   refine⟨trivial,(CallsIn.inRound l (callsIn_wide.2 (fail_c C du ru q 21 W hI'.out.rd))).mono ?_⟩
   rintro e w1 ⟨rfl,b1⟩
   have c9':w1.cell? ⟨n0+1+1+1+1,0,none⟩=some .nilIface:=(hI'.out.e.below b1 hI'.out.e.lt).at 0 _ rfl
   have f9':w1.frozen? ⟨n0+1+1+1+1,0,none⟩=false:=(hI'.out.e.below b1 hI'.out.e.lt).frz 0
   have Fin:Hid (KeepsFrom WL.heap.size W (w1.setCell ⟨n0+1+1+1+1,0,none⟩ (flawV 21 (lineL q)))∧(columnsP [] q0=.error (21,lineL q)∧Row (n0+4) 75 [flawV 21 (lineL q)] (w1.setCell ⟨n0+1+1+1+1,0,none⟩ (flawV 21 (lineL q)))∧Gr C.R w (w1.setCell ⟨n0+1+1+1+1,0,none⟩ (flawV 21 (lineL q))))):=hid
    ⟨((keeps_below b1).trans (KeepsOthers.setCell _ _ _)).from _,He.out,row_set (hI'.out.e.below b1 hI'.out.e.lt) 0 _,(hI'.out.g.trans (Gr.of_below b1)).box (by omega) 0 [_]⟩
   clear b1 c3 c4 c5 c8 c9 f9
   gi_wp2
   exact⟨Fin.out.1,rfl,(21,lineL q),Fin.out.2⟩
  ·have hk8':((k:Int) == 8)=false:=by simp;omega
   have Hk8:=hid hk8
   have hk7:k < 8:=by omega
   clear hk8
   gi_wp2_with fail
   refine⟨trivial,(CallsIn.inRound l (callsIn_wide.2 (column_c C du ru q W hI'.out.rd))).mono ?_⟩
   rintro e w1 ⟨hm,g1⟩
   have Hst:Hid (columnsP [] q0=match columnP q with | .error e=>.error e | .ok (x,q)=>if nextB 4 [44] q=true then columnsP (acc++[x]) q.tail else .ok (acc++[x],q)):=hid (by rw[Hq.out,columnsP_eq,if_neg (by rw[Hl.out];exact Hk8.out)];rfl)
   have he1:=hI'.out.e.gr g1 (by omega)
   have c9':w1.cell? ⟨n0+1+1+1+1,0,none⟩=some .nilIface:=he1.at 0 _ rfl
   have f9':w1.frozen? ⟨n0+1+1+1+1,0,none⟩=false:=he1.frz 0
   have hlt9:n0+1+1+1+1 < w1.heap.size:=he1.lt
   have He1:=hid he1
   have G1:=hid g1
   clear c3 c4 c5 c8 c9 f9 he1 g1
   cases hp:columnP q with
   | error z=>
    rw[hp] at hm
    obtain rfl:=hm
    have He:Hid (columnsP [] q0=.error (z.1,z.2)):=hid (by rw[Hst.out,hp])
    have K1:=hid (hI'.out.rd.keeps G1.out)
    have Fin:∀ o:Obj,KeepsFrom WL.heap.size W ((w1.setCell ⟨n0+1+1+1+1,0,none⟩ (flawV z.1 z.2)).alloc o)∧(columnsP [] q0=.error (z.1,z.2)∧Row (n0+4) 75 [flawV z.1 z.2] ((w1.setCell ⟨n0+1+1+1+1,0,none⟩ (flawV z.1 z.2)).alloc o)∧Gr C.R w ((w1.setCell ⟨n0+1+1+1+1,0,none⟩ (flawV z.1 z.2)).alloc o)):=fun o=>
     ⟨((K1.out.trans (KeepsOthers.setCell _ _ _)).trans (KeepsOthers.alloc _ _)).from _,He.out,Row.al (row_set He1.out 0 _) o,((hI'.out.g.trans G1.out).box (by omega) 0 [_]).alloc o⟩
    have Fin':=hid Fin
    clear hp Fin
    gi_wp2
    exact⟨(Fin'.out _).1,rfl,(z.1,z.2),(Fin'.out _).2⟩
   | ok y=>
    obtain⟨x,p⟩:=y
    rw[hp] at hm
    obtain⟨rfl,tx,rx⟩:=hm
    have Hst2:Hid (columnsP [] q0=if nextB 4 [44] p=true then columnsP (acc++[x]) p.tail else .ok (acc++[x],p)):=hid (by rw[Hst.out,hp])
    obtain⟨W2,hW2⟩:∃ W2,w1.alloc (.cells #[.string x.1,.int .i64 x.2] 192)=W2:=⟨_,rfl⟩
    have Hx2:Hid (Row w1.heap.size 192 [.string x.1,.int .i64 x.2] W2):=hid (by rw[← hW2];exact Row.new w1 _ _)
    have hb2:Below w1.heap.size w1 W2:=by rw[← hW2];exact (Below.refl _ _).alloc (Nat.le_refl _) _
    have hs2:W2.heap.size=w1.heap.size+1:=by rw[← hW2];simp
    have HI2:=hid ((hI'.out.move lays_co G1.out hRn rx).move lays_co (Gr.of_below hb2) hRn (rx.below hb2))
    have Tx2:=hid (tx)
    have HW2:=hid hW2
    have K2:=hid ((hI'.out.rd.keeps G1.out).trans (keeps_below hb2))
    obtain⟨v2,xs2,hv2,hown2,hlaid2⟩:=HI2.out.l
    have hlen2:∃ ov cv,v2=.slice ov acc.length cv:=by
     rcases hown2.2 with ⟨rfl,h0⟩ | ⟨g,cv,cur,rfl,_⟩
     ·exact⟨none,0,by rw[h0]⟩
     ·exact⟨_,cv,rfl⟩
    obtain⟨ov,cv,rfl⟩:=hlen2
    have d8:W2.cell? ⟨n0+1+1+1,0,none⟩=some (.slice ov acc.length cv):=hv2.at 0 _ rfl
    have g8:W2.frozen? ⟨n0+1+1+1,0,none⟩=false:=hv2.frz 0
    have e0:=Hx2.out.at 0 _ rfl
    have e1:=Hx2.out.at 1 _ rfl
    have Hv2:=hid hv2
    have Hown2:=hid hown2
    have Hlaid2:=hid hlaid2
    have Hs2:=hid hs2
    have hlt8:n0+1+1+1 < W2.heap.size:=hv2.lt
    have hltx:w1.heap.size < W2.heap.size:=by omega
    clear hp tx rx hW2 hb2 hs2 hv2 hown2 hlaid2
    have Hold:Hid (∀ g,(Value.slice ov acc.length cv).ownBlock=some g→g < W.heap.size):=hid (by
     have h1:Row (n0+3) 188 [v] W2:=by rw[← HW2.out];exact Row.al (Hv.out.gr G1.out (by omega)) _
     have h2:=Row.uniq h1 Hv2.out
     simp only[List.cons.injEq,and_true] at h2
     intro g hg
     rw[← h2] at hg
     exact (ownsRow_lt Hown.out g hg).2)
    have Leaf:Hid (∀ (g cp:Nat) (w3:World),w3.ownsRow (n0+5) 192 2 (.slice (some ⟨g,0,none⟩) (acc.length+1) cp) (acc.length+1) (xs2++[.string x.1,.int .i64 x.2])→(W2.alloc (.cells #[.string x.1,.int .i64 x.2] 192)).grownBy w3 (Value.slice ov acc.length cv).ownBlock→((Value.slice (some ⟨g,0,none⟩) (acc.length+1) cp).ownBlock=(Value.slice ov acc.length cv).ownBlock∨(Value.slice (some ⟨g,0,none⟩) (acc.length+1) cp).ownBlock=some (W2.alloc (.cells #[.string x.1,.int .i64 x.2] 192)).heap.size) →
      w3.cell? ⟨n0+1+1+1,0,none⟩=some (.slice ov acc.length cv)∧w3.frozen? ⟨n0+1+1+1,0,none⟩=false ∧
      Hid (KeepsFrom WL.heap.size W (w3.setCell ⟨n0+1+1+1,0,none⟩ (.slice (some ⟨g,0,none⟩) (acc.length+1) cp)) ∧
       ∃ acc' q,acc'.length=k+1∧LsI C du ru n0 8 (fnV 121 C.R) 193 188 192 2 CoC w acc' q (w3.setCell ⟨n0+1+1+1,0,none⟩ (.slice (some ⟨g,0,none⟩) (acc.length+1) cp))∧columnsP [] q0=(if nextB 4 [44] q=true then columnsP acc' q.tail else .ok (acc',q))∧k < 8)):=hid (by
     intro g cp w3 hown3 hgrow hat
     obtain⟨q8,O1,O2,O3⟩:=ap_own (cs:=[.string x.1,.int .i64 x.2]) Hv2.out Hown2.out hgrow hown3 hat
     have h5:n0+5≤W.heap.size:=by have:=hI'.out.e.lt;omega
     have A1:=ls_append lays_co HI2.out Hn0.out hRn Hv2.out Hown2.out Hlaid2.out h5 Hold.out (cs:=[.string x.1,.int .i64 x.2]) rfl Tx2.out O1 O2 O3
     have hlen:(acc++[x]).length=k+1:=by rw[List.length_append,Hl.out];rfl
     exact⟨q8.at 0 _ rfl,q8.frz 0,hid ⟨(K2.out.trans O1.keeps).from _,acc++[x],p,hlen,A1,Hst2.out,hk7⟩⟩)
    obtain⟨i0,hi,hz0,hz1,hz2⟩:=info_parts infoCo
    have HL1:Hid (acc.length+1≤maxLen):=hid (by have:=Hl.out;unfold maxLen;omega)
    have HL2:Hid ((acc.length+1) * 24≤140737488355328):=hid (by have:=Hl.out;omega)
    have HL3:Hid (n0+5≤(W2.alloc (.cells #[.string x.1,.int .i64 x.2] 192)).heap.size):=hid (by simp;omega)
    have hvv:v=.slice ov acc.length cv:=by
     have h1:Row (n0+3) 188 [v] W2:=by rw[← HW2.out];exact Row.al (Hv.out.gr G1.out (by omega)) _
     have h2:=Row.uniq h1 Hv2.out
     simpa using h2
    have c8w:w1.cell? ⟨n0+1+1+1,0,none⟩=some (.slice ov acc.length cv):=by rw[← hvv];exact (Hv.out.gr G1.out (by omega)).at 0 _ rfl
    have g8w:w1.frozen? ⟨n0+1+1+1,0,none⟩=false:=(Hv.out.gr G1.out (by omega)).frz 0
    have hlt8w:n0+1+1+1 < w1.heap.size:=(Hv.out.gr G1.out (by omega)).lt
    clear hvv
    have HNew:Hid (∀ o:Obj,(W2.alloc o).heap[w1.heap.size+1]?=some o):=hid (fun o=>by have:=World.alloc_heap_new W2 o;rwa [Hs2.out] at this)
    have hW2':=HW2.out
    subst hW2'
    gi_wp2_with (gi_at_builtin;go_loud (refine wpListIn_append_own_at _ rfl _ _ 188 rfl (n0+5) 192 i0 _ 2 24 Tryz.underlying188 hi hz0 hz1 hz2 rfl (by decide) (.slice ov acc.length cv) acc.length xs2 rfl (Hown2.out.alloc _) ⟨w1.heap.size+1,0,none⟩ 1 1 [.string x.1,.int .i64 x.2] rfl rfl (World.news_of_block (HNew.out _)) (by simp[Value.oneCell']) HL1.out HL2.out HL3.out ?_);intro v' w3 hown' hgrow _ hat;obtain⟨g,cp,rfl⟩:=ownsRow_succ hown';obtain⟨s8,s9,Fin1⟩:=Leaf.out g cp w3 hown' hgrow hat;clear c8w g8w)
    exact Fin1.out
 case done=>
  rintro D W hD ⟨acc,q,hI,hq⟩ hd
  obtain⟨v,xs,hv,hown,hlaid⟩:=hI.l
  have c8:W.cell? ⟨n0+1+1+1,0,none⟩=some v:=hv.at 0 _ rfl
  have c9:W.cell? ⟨n0+1+1+1+1,0,none⟩=some .nilIface:=hI.e.at 0 _ rfl
  have hs9:n0+1+1+1+1 < W.heap.size:=hI.e.lt
  have Hd:=hid hd
  have HI:=hid hI
  have Hown:=hid hown
  have Hlaid:=hid hlaid
  have Hq:=hid hq
  clear hd hI hown hlaid hq hv
  gi_wp2
  rw[Exit.noGoto_ret]
  have Pt:Put (n0+5) W (W.putObj D (.deferred none)):=⟨D,_,_,by have:=Hs.out;omega,Hd.out,rfl,rfl,rfl⟩
  refine⟨by simp,.inl ⟨_,_,rfl,run_takeDeferred Hd.out,?_⟩⟩
  refine⟨_,results_tmp2 rfl _ _ _,?_⟩
  unfold ListR
  rw[Hq.out]
  refine⟨⟨v,rfl,sl_own (put_own Pt Hown.out) (Hlaid.out.mono fun x cs hx=>lays_co _ _ _ _ _ _ (fun a c hc=>?_) (Nat.le_of_eq (put_size Pt).symm) hx) (by rw[Hn0.out];omega),put_rd Pt HI.out.rd (by omega)⟩,put_gr Pt HI.out.g (by rw[Hn0.out];omega)⟩
  obtain⟨h1,h2⟩:=past_cell.1 (visV_out _ _ _ a c (put_vis Pt a c hc))
  exact past_cell.2 ⟨by rw[Hn0.out];omega,h2⟩
 case stop=>
  rintro D c W hD ⟨rfl,x,h1,h2,h3⟩ hd
  have c9:W.cell? ⟨n0+1+1+1+1,0,none⟩=some (flawV x.1 x.2):=h2.at 0 _ rfl
  have hs9:n0+1+1+1+1 < W.heap.size:=h2.lt
  have Hd:=hid hd
  have H1:=hid h1
  have H3:=hid h3
  clear hd h1 h2 h3
  gi_wp2
  refine wpIn_wide.2 ?_
  go_quiet (fail)
  rename_i nq
  gi_wp2
  rw[Exit.noGoto_ret]
  have hdq:(W.drewN nq).heap[D]?=some (.deferred (some [])):=Hd.out
  have gq:Gr C.R w (W.drewN nq):=⟨H3.out.os,H3.out.tape,H3.out.output,H3.out.size,H3.out.block⟩
  have Pt:Put (n0+5) (W.drewN nq) ((W.drewN nq).putObj D (.deferred none)):=⟨D,_,_,by have:=Hs.out;omega,hdq,rfl,rfl,rfl⟩
  refine⟨by simp,.inl ⟨_,_,rfl,run_takeDeferred hdq,?_⟩⟩
  refine⟨_,results_tmp2 rfl _ _ _,?_⟩
  unfold ListR
  rw[H1.out]
  exact⟨rfl,put_gr Pt gq (by rw[Hn0.out];omega)⟩
end Go.Proofs.YtdgbajnhhhjbcaaGreatDoor
