/- Rm12@012, Rm16@012, Rm17@012, Rm18@012, Rm19@012, Rm20@012 -/
import Derived.Test.YtdgbajnhhhjbcaaGreatDoorQ23
import Derived.Test.YtdgbajnhhhjbcaaGreatDoorQ44
import Derived.Test.YtdgbajnhhhjbcaaGreatDoorQ46
import Derived.Test.YtdgbajnhhhjbcaaGreatDoorQ45
set_option linter.unusedSimpArgs false
set_option linter.unusedVariables false
namespace Go.Proofs.YtdgbajnhhhjbcaaGreatDoor
open Lib(hid)
open Go.RowKit
set_option maxRecDepth 100000 in
set_option maxHeartbeats 8000000 in
theorem thing_from_c (C:RC) (B:Nat) (p:Pg) (du ru:Value) (q:List TokI) (w:World) (h:PgI C B p du ru q w) (hq:q≠[]) (h60:p.decls.length≤60) (h200:p.rules.length≤200) :
  Calls Tryz.prog 49 #[.pointer (some ⟨C.R,0,none⟩),tokW (hdT q)] w (ThR C B (itemQ p q) w):=by
 have hltR:=h.rd.lt
 have HB0:Hid (∀ (x:Obj),Below w.heap.size w (w.alloc x)):=hid fun x=>(Below.refl _ _).alloc (Nat.le_refl _) _
 have HI:=hid h
 have Hq:=hid hq
 obtain⟨T,hT⟩:∃ T,hdT q=T:=⟨_,rfl⟩
 rw[hT]
 have e1:tokB 5 (⟨#[46,100,101,99,108]⟩:ByteArray).data.toList T=nextB 5 [46,100,101,99,108] q:=by rw[← hT];exact tokB_hd (by decide) _ _
 have e2:tokB 5 (⟨#[46,105,110,112,117,116]⟩:ByteArray).data.toList T=nextB 5 [46,105,110,112,117,116] q:=by rw[← hT];exact tokB_hd (by decide) _ _
 have e3:tokB 5 (⟨#[46,111,117,116,112,117,116]⟩:ByteArray).data.toList T=nextB 5 [46,111,117,116,112,117,116] q:=by rw[← hT];exact tokB_hd (by decide) _ _
 obtain⟨W1,hW1⟩:∃ W1,w.alloc (.cells #[.int .i64 T.kind,.string T.s,.int .i64 T.line] 89)=W1:=⟨_,rfl⟩
 have hb1:Below w.heap.size w W1:=by rw[← hW1];exact HB0.out _
 have hr1:Row w.heap.size 89 [.int .i64 T.kind,.string T.s,.int .i64 T.line] W1:=by rw[← hW1];exact Row.new w _ _
 have I1:=hid (h.below hb1)
 have B1:Hid (BR C.R B w W1):=hid (below_R hb1 h.BW)
 have K1:=hid (keeps_below hb1)
 have Hr1:=hid hr1
 have HW1:=hid hW1
 obtain⟨r,hr⟩:∃ r,itemQ p q=r:=⟨_,rfl⟩
 rw[hr]
 have Fin:Hid (∀ (w1:World) (e:Ending) (w2:World),BR C.R B w w1→KeepsOthers w w1→ThR C B r w1 e w2→ThR C B r w e w2):=hid (fun w1 e w2 b k ht=>⟨ht.1,b.trans ht.2.1,k.trans ht.2.2⟩)
 clear h hW1 hb1 hr1 hT HB0
 cases h1:nextB 5 [46,100,101,99,108] q with
 | true=>
  have He:Hid (r=relQ p q):=hid (by rw[← hr];unfold itemQ relQ;rw[if_pos h1];rfl)
  rw[h1] at e1
  have E1:=hid e1
  clear h1 e1 e2 e3 hr
  go_enter Tryz.func49,Tryz.ntmps49
  go_wp2_with fail
  rw[HW1.out]
  refine (isWord_c T ⟨#[46,100,101,99,108]⟩ true E1.out W1).mono ?_
  rintro e w2 ⟨rfl,b2⟩
  have I2:=hid (I1.out.below b2)
  have B2:=hid (B1.out.trans (below_R b2 I1.out.BW))
  have K2:=hid (K1.out.trans (keeps_below b2))
  clear b2
  go_wp2_with fail
  refine (relation_c C B p du ru q w2 I2.out Hq.out h60).mono ?_
  rintro e w3 ht
  replace ht:ThR C B r w2 e w3:=by rw[He.out];exact ht
  have HT:=hid (Fin.out w2 e w3 B2.out K2.out ht)
  have hv:∃ v,e=.returned v:=by
   rcases hr:r with x | x
   ·rw[hr] at ht;exact⟨_,ht.1⟩
   ·rw[hr] at ht;exact⟨_,ht.1.1⟩
  obtain⟨v,rfl⟩:=hv
  clear ht
  go_wp2
  go_ret
  exact HT.out
 | false=>
  rw[h1] at e1
  have E1:=hid e1
  clear e1
  cases h2:nextB 5 [46,105,110,112,117,116] q with
  | true=>
   have He:Hid (r=match markQ true p.decls q with | .error e=>.error e | .ok (ds,q)=>.ok (⟨ds,p.rules⟩,q)):=hid (by rw[← hr];unfold itemQ;rw[if_neg (by rw[h1];decide),if_pos h2];rfl)
   rw[h2] at e2
   have E2:=hid e2
   clear h1 h2 e2 e3 hr
   go_enter Tryz.func49,Tryz.ntmps49
   go_wp2_with fail
   rw[HW1.out]
   refine (isWord_c T ⟨#[46,100,101,99,108]⟩ false E1.out W1).mono ?_
   rintro e w2 ⟨rfl,b2⟩
   have I2:=hid (I1.out.below b2)
   have B2:=hid (B1.out.trans (below_R b2 I1.out.BW))
   have K2:=hid (K1.out.trans (keeps_below b2))
   have Hr2:=hid (Hr1.out.below b2 Hr1.out.lt)
   clear b2
   have t0:=Hr2.out.at 0 _ rfl
   have t1:=Hr2.out.at 1 _ rfl
   have t2:=Hr2.out.at 2 _ rfl
   have hn2:=Hr2.out.lt
   go_wp2_with fail
   refine (isWord_c T ⟨#[46,105,110,112,117,116]⟩ true E2.out w2).mono ?_
   rintro e w3 ⟨rfl,b3⟩
   have I3:=hid (I2.out.below b3)
   have B3:=hid (B2.out.trans (below_R b3 I2.out.BW))
   have K3:=hid (K2.out.trans (keeps_below b3))
   clear b3 t0 t1 t2
   go_wp2_with fail
   refine (markIn_c C B p du ru q w3 I3.out Hq.out h60).mono ?_
   rintro e w4 ht
   replace ht:ThR C B r w3 e w4:=by rw[He.out];exact ht
   have HT:=hid (Fin.out w3 e w4 B3.out K3.out ht)
   have hv:∃ v,e=.returned v:=by
    rcases hr:r with x | x
    ·rw[hr] at ht;exact⟨_,ht.1⟩
    ·rw[hr] at ht;exact⟨_,ht.1.1⟩
   obtain⟨v,rfl⟩:=hv
   clear ht
   go_wp2
   go_ret
   exact HT.out
  | false=>
   rw[h2] at e2
   have E2:=hid e2
   clear e2
   cases h3:nextB 5 [46,111,117,116,112,117,116] q with
   | true=>
    have He:Hid (r=match markQ false p.decls q with | .error e=>.error e | .ok (ds,q)=>.ok (⟨ds,p.rules⟩,q)):=hid (by rw[← hr];unfold itemQ;rw[if_neg (by rw[h1];decide),if_neg (by rw[h2];decide),if_pos h3];rfl)
    rw[h3] at e3
    have E3:=hid e3
    clear h1 h2 h3 e3 hr
    go_enter Tryz.func49,Tryz.ntmps49
    go_wp2_with fail
    rw[HW1.out]
    refine (isWord_c T ⟨#[46,100,101,99,108]⟩ false E1.out W1).mono ?_
    rintro e w2 ⟨rfl,b2⟩
    have I2:=hid (I1.out.below b2)
    have B2:=hid (B1.out.trans (below_R b2 I1.out.BW))
    have K2:=hid (K1.out.trans (keeps_below b2))
    have Hr2:=hid (Hr1.out.below b2 Hr1.out.lt)
    clear b2
    have t0:=Hr2.out.at 0 _ rfl
    have t1:=Hr2.out.at 1 _ rfl
    have t2:=Hr2.out.at 2 _ rfl
    have hn2:=Hr2.out.lt
    go_wp2_with fail
    refine (isWord_c T ⟨#[46,105,110,112,117,116]⟩ false E2.out w2).mono ?_
    rintro e w3 ⟨rfl,b3⟩
    have I3:=hid (I2.out.below b3)
    have B3:=hid (B2.out.trans (below_R b3 I2.out.BW))
    have K3:=hid (K2.out.trans (keeps_below b3))
    have Hr3:=hid (Hr2.out.below b3 Hr2.out.lt)
    clear b3 t0 t1 t2
    have t0:=Hr3.out.at 0 _ rfl
    have t1:=Hr3.out.at 1 _ rfl
    have t2:=Hr3.out.at 2 _ rfl
    have hn3:=Hr3.out.lt
    go_wp2_with fail
    refine (isWord_c T ⟨#[46,111,117,116,112,117,116]⟩ true E3.out w3).mono ?_
    rintro e w4 ⟨rfl,b4⟩
    have I4:=hid (I3.out.below b4)
    have B4:=hid (B3.out.trans (below_R b4 I3.out.BW))
    have K4:=hid (K3.out.trans (keeps_below b4))
    clear b4 t0 t1 t2
    go_wp2_with fail
    refine (markOut_c C B p du ru q w4 I4.out Hq.out h60).mono ?_
    rintro e w5 ht
    replace ht:ThR C B r w4 e w5:=by rw[He.out];exact ht
    have HT:=hid (Fin.out w4 e w5 B4.out K4.out ht)
    have hv:∃ v,e=.returned v:=by
     rcases hr:r with x | x
     ·rw[hr] at ht;exact⟨_,ht.1⟩
     ·rw[hr] at ht;exact⟨_,ht.1.1⟩
    obtain⟨v,rfl⟩:=hv
    clear ht
    go_wp2
    go_ret
    exact HT.out
   | false=>
    have He:Hid (r=rulQ p q):=hid (by rw[← hr];unfold itemQ rulQ;rw[if_neg (by rw[h1];decide),if_neg (by rw[h2];decide),if_neg (by rw[h3];decide)];rfl)
    rw[h3] at e3
    have E3:=hid e3
    clear h1 h2 h3 e3 hr
    go_enter Tryz.func49,Tryz.ntmps49
    go_wp2_with fail
    rw[HW1.out]
    refine (isWord_c T ⟨#[46,100,101,99,108]⟩ false E1.out W1).mono ?_
    rintro e w2 ⟨rfl,b2⟩
    have I2:=hid (I1.out.below b2)
    have B2:=hid (B1.out.trans (below_R b2 I1.out.BW))
    have K2:=hid (K1.out.trans (keeps_below b2))
    have Hr2:=hid (Hr1.out.below b2 Hr1.out.lt)
    clear b2
    have t0:=Hr2.out.at 0 _ rfl
    have t1:=Hr2.out.at 1 _ rfl
    have t2:=Hr2.out.at 2 _ rfl
    have hn2:=Hr2.out.lt
    go_wp2_with fail
    refine (isWord_c T ⟨#[46,105,110,112,117,116]⟩ false E2.out w2).mono ?_
    rintro e w3 ⟨rfl,b3⟩
    have I3:=hid (I2.out.below b3)
    have B3:=hid (B2.out.trans (below_R b3 I2.out.BW))
    have K3:=hid (K2.out.trans (keeps_below b3))
    have Hr3:=hid (Hr2.out.below b3 Hr2.out.lt)
    clear b3 t0 t1 t2
    have t0:=Hr3.out.at 0 _ rfl
    have t1:=Hr3.out.at 1 _ rfl
    have t2:=Hr3.out.at 2 _ rfl
    have hn3:=Hr3.out.lt
    go_wp2_with fail
    refine (isWord_c T ⟨#[46,111,117,116,112,117,116]⟩ false E3.out w3).mono ?_
    rintro e w4 ⟨rfl,b4⟩
    have I4:=hid (I3.out.below b4)
    have B4:=hid (B3.out.trans (below_R b4 I3.out.BW))
    have K4:=hid (K3.out.trans (keeps_below b4))
    clear b4 t0 t1 t2
    go_wp2_with fail
    refine (rule_c C B p du ru q w4 I4.out h200).mono ?_
    rintro e w5 ht
    replace ht:ThR C B r w4 e w5:=by rw[He.out];exact ht
    have HT:=hid (Fin.out w4 e w5 B4.out K4.out ht)
    have hv:∃ v,e=.returned v:=by
     rcases hr:r with x | x
     ·rw[hr] at ht;exact⟨_,ht.1⟩
     ·rw[hr] at ht;exact⟨_,ht.1.1⟩
    obtain⟨v,rfl⟩:=hv
    clear ht
    go_wp2
    go_ret
    exact HT.out
end Go.Proofs.YtdgbajnhhhjbcaaGreatDoor
namespace Go.Proofs.YtdgbajnhhhjbcaaGreatDoor
open Lib(hid)
open Go.RowKit
attribute [local go_sem] Oper.semAt_some
theorem Rd.uniq2 {C:RC} {du ru du' ru':Value} {q q':List TokI} {W:World} (h:Rd C du ru q W) (h':Rd C du' ru' q' W):q=q':=by
 obtain⟨i,h1,_,hr⟩:=h.row
 obtain⟨j,h2,_,hs⟩:=h'.row
 rw[hr] at hs
 simp only[Option.some.injEq,Obj.cells.injEq] at hs
 have he:(i:Int)=(j:Int):=by
  have:=congrArg (fun a:Array Value=>a[1]?) hs.1
  simpa using this
 have hij:i=j:=by omega
 rw[← h1,← h2,hij]
theorem markQ_num {inn:Bool} {ds es:List De} {l q:List TokI} (h:markQ inn ds l=.ok (es,q)):es.length=ds.length:=by
 unfold markQ at h
 split at h
 ·split at h
  ·cases h
  ·split at h
   ·split at h
    ·cases h
    ·rename_i hm
     cases h
     have:=congrArg List.length (markL_names hm).1
     simpa[namesD] using this
   ·cases h
 ·cases h
theorem itemQ_num {p p':Pg} {l q:List TokI} (h1:p.decls.length≤60) (h2:p.rules.length≤200) (h:itemQ p l=.ok (p',q)):p'.decls.length≤60∧p'.rules.length≤200:=by
 unfold itemQ at h
 split at h
 ·split at h
  ·cases h
  ·split at h
   ·cases h
   ·cases h
    exact⟨by simp;omega,h2⟩
 ·split at h
  ·split at h
   ·cases h
   ·rename_i hm
    cases h
    exact⟨Nat.le_trans (Nat.le_of_eq (markQ_num hm)) h1,h2⟩
  ·split at h
   ·split at h
    ·cases h
    ·rename_i hm
     cases h
     exact⟨Nat.le_trans (Nat.le_of_eq (markQ_num hm)) h1,h2⟩
   ·split at h
    ·cases h
    ·split at h
     ·cases h
     ·cases h
      exact⟨h1,by simp;omega⟩
theorem BR.mono {R B B':Nat} {a b:World} (h:BR R B a b) (hB:B'≤B):BR R B' a b:=⟨h.1,h.2.1,h.2.2.1,h.2.2.2.1,fun i h1 h2=>h.2.2.2.2 i (by omega) h2⟩
theorem Row.br {n R B:Nat} {T:TypeId} {cs:List Value} {a b:World} (h:Row n T cs a) (k:BR R B a b) (h1:n < B) (h2:n≠R):Row n T cs b:=(k.2.2.2.2 n h1 h2).trans h
theorem put_br {R B B':Nat} {a b c:World} (h:Put B' b c) (k:BR R B a b) (hB:B≤B'):BR R B a c:=by
 have:=put_below h
 exact k.trans ⟨this.os,this.tape,this.output,this.size,fun i h1 _=>this.block i (by omega)⟩
theorem PgI.put {C:RC} {B S:Nat} {p:Pg} {du ru:Value} {q:List TokI} {W W':World} (h:PgI C B p du ru q W) (hp:Put S W W') (hS:C.R < S):PgI C B p du ru q W':=by
 obtain⟨xs,h1,h2⟩:=h.d
 obtain⟨ys,h3,h4⟩:=h.r
 have hv:Vis (past B (hide2 du ru W)) (past B (hide2 du ru W')):=fun a c hc=>by
  obtain⟨k1,k2⟩:=past_cell.1 hc
  obtain⟨k3,k4,k5⟩:=hide2_cell.1 k2
  exact past_cell.2 ⟨k1,hide2_cell.2 ⟨k3,k4,(put_cell hp a).trans k5⟩⟩
 have hz:=put_size hp
 exact⟨put_rd hp h.rd hS,h.RB,by have:=h.BW;omega,⟨xs,put_own hp h1,h2.mono fun x cs hx=>Vis.de hx hv (Nat.le_of_eq hz.symm)⟩,⟨ys,put_own hp h3,h4.mono fun x cs hx=>Vis.ru hx hv (Nat.le_of_eq hz.symm)⟩,h.ne⟩
theorem setCell_noop {W:World} {b:Nat} {T:TypeId} {v:Value} (h:Row b T [v] W):W.setCell ⟨b,0,none⟩ v=W:=by
 have:(W.setCell ⟨b,0,none⟩ v).heap=W.heap:=by
  apply Array.ext_getElem?
  intro i
  by_cases hi:i=b
  ·subst hi
   exact (row_set h 0 v).trans h.symm
  ·exact Below.heap_setCell W ⟨b,0,none⟩ v i hi
 exact (show W.setCell ⟨b,0,none⟩ v={ W with heap:=(W.setCell ⟨b,0,none⟩ v).heap } from rfl).trans (by rw[this])
def PrR (C:RC) (q0:List TokI) (w:World) (e:Ending) (w':World):Prop:=
 (match itemsQ ⟨[],[]⟩ q0 with
  | .ok p=>e=.returned .nilIface∧∃ B du ru,w.heap.size≤B∧PgI C B p du ru [] w'
  | .error x=>e=.returned (flawV x.1 x.2))∧BR C.R w.heap.size w w'
def PrS (C:RC) (n0:Nat) (q0:List TokI) (w:World) (k:Nat) (q:List TokI) (W:World):Prop:=
 ∃ p du ru,PgI C (n0+2) p du ru q W∧itemsQ ⟨[],[]⟩ q0=itemsQ p q∧p.decls.length≤60∧p.rules.length≤200∧k≤q0.length ∧
  Row n0 109 [.pointer (some ⟨C.R,0,none⟩)] W∧Row (n0+1) 75 [.nilIface] W∧BR C.R n0 w W
theorem PrS.below {C:RC} {n0:Nat} {q0:List TokI} {w:World} {k:Nat} {q:List TokI} {W W':World} (h:PrS C n0 q0 w k q W) (b:Below W.heap.size W W'):PrS C n0 q0 w k q W':=by
 obtain⟨p,du,ru,h1,h2,h3,h4,h5,h6,h7,h8⟩:=h
 exact⟨p,du,ru,h1.below b,h2,h3,h4,h5,h6.below b h6.lt,h7.below b h7.lt,h8.trans (below_R b (by have:=h1.BW;omega))⟩
theorem PrS.put {C:RC} {n0 S:Nat} {q0:List TokI} {w:World} {k:Nat} {q:List TokI} {W W':World} (h:PrS C n0 q0 w k q W) (hp:Put S W W') (hS:n0≤S) (hR:C.R < S):PrS C n0 q0 w k q W':=by
 obtain⟨p,du,ru,h1,h2,h3,h4,h5,h6,h7,h8⟩:=h
 exact⟨p,du,ru,h1.put hp hR,h2,h3,h4,h5,put_row hp h6,put_row hp h7,put_br hp h8 hS⟩
set_option maxRecDepth 100000 in
set_option maxHeartbeats 4000000 in
theorem program_in (C:RC) (q0:List TokI) (w:World) (h:Rd C (.slice none 0 0) (.slice none 0 0) q0 w) :
  CallsIn Fence.wide 6 Tryz.prog 29 #[.pointer (some ⟨C.R,0,none⟩)] w (PrR C q0 w):=by
 have hltR:=h.lt
 obtain⟨n0,hn0⟩:∃ n0,w.heap.size=n0:=⟨_,rfl⟩
 obtain⟨WL,hWL⟩:∃ WL,((w.alloc (.cells #[.pointer (some ⟨C.R,0,none⟩)] 109)).alloc (.cells #[.nilIface] 75))=WL:=⟨_,rfl⟩
 have hs:WL.heap.size=n0+2:=by rw[← hWL];simp[hn0]
 have hbL:Below n0 w WL:=by
  rw[← hWL]
  exact ((Below.refl _ w).alloc (by omega) _).alloc (by simp;omega) _
 have rows:Row n0 109 [.pointer (some ⟨C.R,0,none⟩)] WL∧Row (n0+1) 75 [.nilIface] WL:=by
  rw[← hWL]
  refine⟨?_,?_⟩
  ·have:=(Row.new w 109 [.pointer (some ⟨C.R,0,none⟩)]).al (.cells #[.nilIface] 75)
   rw[hn0] at this
   exact this
  ·have:=Row.new (w.alloc (.cells #[.pointer (some ⟨C.R,0,none⟩)] 109)) 75 [.nilIface]
   simp only[World.size_alloc] at this
   rw[hn0] at this
   exact this
 have hRn:C.R < n0:=by omega
 have hI0:PrS C n0 q0 w 0 q0 WL:=
  ⟨⟨[],[]⟩,.slice none 0 0,.slice none 0 0,⟨h.below (by rw[hn0];exact hbL),by omega,by omega,⟨[],World.ownsRow_nil _ _ _ _,Laid.nil⟩,⟨[],World.ownsRow_nil _ _ _ _,Laid.nil⟩,fun g e=>by cases e⟩,rfl,by simp,by simp,by omega,rows.1,rows.2,below_R (by rw[hn0];exact hbL) (by omega)⟩
 have c0:WL.cell? ⟨n0,0,none⟩=some (.pointer (some ⟨C.R,0,none⟩)):=rows.1.at 0 _ rfl
 have HI0:=hid hI0
 have Hn0:=hid hn0
 have HWL:=hid hWL
 have Hs:=hid hs
 clear h hI0 hWL hs hbL rows
 refine callsIn_of_wp_marks Tryz.func29 rfl trivial ?_ rfl
 simp only[Tryz.ntmps29,List.size_toArray,List.length_cons,List.length_nil,Nat.reduceAdd,Nat.reduceSub,Array.replicate_succ,Array.replicate_zero,List.push_toArray,List.append_toArray,List.nil_append,List.cons_append]
 gi_wp2_with fail
 rw[HWL.out]
 refine range_moves2 rfl (by omega) (gf:=48) (bd:=#[.pointer (some ⟨C.R,0,none⟩)]) (lb:=#[]) rfl trivial (enters_of Tryz.func48 (by kernel_rfl) rfl)
  (eachBeginning_moves 5 (by omega) C q0.length) (fun _=>rfl)
  (fun x W=>∃ q,PrS C n0 q0 w x.1 (x.2::q) W∧x.1+q.length≤q0.length)
  (fun x W=>∃ q,PrS C n0 q0 w x.1 q W∧x.1+q.length≤q0.length)
  (fun c W=>c=.ret∧∃ x,itemsQ ⟨[],[]⟩ q0=.error x∧Row (n0+1) 75 [flawV x.1 x.2] W∧BR C.R n0 w W)
  (fun W=>∃ k,PrS C n0 q0 w k [] W)
  (fun x a' W=>(∃ q,PrS C n0 q0 w x.1 (x.2::q) W∧x.1+q.length≤q0.length)∧∃ nb,n0+2≤nb∧Row nb 89 [.int .i64 x.2.kind,.string x.2.s,.int .i64 x.2.line] W ∧
   a'={ tmps:=#[.pointer (some ⟨C.R,0,none⟩),.pointer (some ⟨n0,0,none⟩),.pointer (some ⟨n0+1,0,none⟩),.pointer (some ⟨nb,0,none⟩),undef,.pointer (some ⟨C.R,0,none⟩),.func (.func 48) #[.pointer (some ⟨C.R,0,none⟩)] #[],tokW x.2,undef,undef,undef,undef,undef,undef],defers:=[] })
  ?fB ?fX ?fZ ?fM ?h0 ?hB ?assign ?body ?done ?stop
 case fB=>
  rintro x W W' hp ⟨q,hI,hk⟩
  exact⟨q,hI.put hp (by rw[Hs.out];omega) (by rw[Hs.out];omega),hk⟩
 case fX=>
  rintro c W W' hp ⟨hc,x,h1,h2,h3⟩
  exact⟨hc,x,h1,put_row hp h2,put_br hp h3 (by rw[Hs.out];omega)⟩
 case fZ=>
  rintro W W' hp ⟨k,hI⟩
  exact⟨k,hI.put hp (by rw[Hs.out];omega) (by rw[Hs.out];omega)⟩
 case fM=>
  rintro x a' W W' hp ⟨⟨q,hI,hk⟩,nb,h1,h2,h3⟩
  exact⟨⟨q,hI.put hp (by rw[Hs.out];omega) (by rw[Hs.out];omega),hk⟩,nb,h1,put_row hp h2,h3⟩
 case h0=>
  intro o o'
  have hb:Below WL.heap.size WL ((WL.alloc o).alloc o'):=((Below.refl _ _).alloc (Nat.le_refl _) _).alloc (by simp) _
  exact⟨q0,HI0.out.below hb,by simp⟩
 case hB=>
  rintro⟨k,t0⟩ W1 ⟨q,hI,hk⟩
  have hI1:=hI
  obtain⟨p,du,ru,h1,h2,h3,h4,h5,h6,h7,h8⟩:=hI
  refine⟨⟨h5,du,ru,q,h1.rd,hk⟩,?_,?_⟩
  ·rintro⟨k',t⟩ W2 ⟨rfl,du',ru',q',r1,b⟩
   obtain rfl:=Rd.uniq2 h1.rd r1
   refine⟨(keeps_below b).from _,q',?_,by simp only[List.length_cons] at hk;show k+1+q'.length≤_;omega⟩
   obtain⟨p,du,ru,h1,h2,h3,h4,h5,h6,h7,h8⟩:=hI1.below b
   exact⟨p,du,ru,h1,h2,h3,h4,by simp only[List.length_cons] at hk;show k+1≤_;omega,h6,h7,h8⟩
  ·rintro W2 ⟨du',ru',r1,b⟩
   obtain rfl:=Rd.uniq2 h1.rd r1
   exact⟨(keeps_below b).from _,k,hI1.below b⟩
 case assign=>
  rintro l ⟨k,t⟩ W ⟨q,hI,hk⟩
  dsimp only at hI hk
  have hW:n0+2≤W.heap.size:=by
   obtain⟨p,du,ru,h1,_⟩:=hI
   exact h1.BW
  have Fin:∀ (V:World),V=W.alloc (.cells #[.int .i64 t.kind,.string t.s,.int .i64 t.line] 89)→KeepsFrom WL.heap.size W V∧PrS C n0 q0 w k (t::q) V∧Row W.heap.size 89 [.int .i64 t.kind,.string t.s,.int .i64 t.line] V:=by
   rintro V rfl
   exact⟨(KeepsOthers.alloc _ _).from _,hI.below ((Below.refl _ _).alloc (Nat.le_refl _) _),Row.new W _ _⟩
  have HFin:=hid Fin
  have HW:=hid hW
  have Hk:=hid hk
  clear Fin hI hW hk
  unfold tokW
  gi_wp2
  exact⟨(HFin.out _ rfl).1,⟨q,(HFin.out _ rfl).2.1,Hk.out⟩,_,HW.out,(HFin.out _ rfl).2.2,rfl⟩
 case body=>
  rintro l ⟨k,t⟩ a' W ⟨⟨q,hI,hk⟩,nb,hnb,hrow,rfl⟩
  dsimp only at hI hk hrow
  dsimp only
  obtain⟨p,du,ru,h1,h2,h3,h4,h5,h6,h7,h8⟩:=hI
  have c1:W.cell? ⟨n0,0,none⟩=some (.pointer (some ⟨C.R,0,none⟩)):=h6.at 0 _ rfl
  have t0:W.cell? ⟨nb,0,none⟩=some (.int .i64 t.kind):=hrow.at 0 _ rfl
  have t1:W.cell? ⟨nb,1,none⟩=some (.string t.s):=hrow.at 1 _ rfl
  have t2:W.cell? ⟨nb,2,none⟩=some (.int .i64 t.line):=hrow.at 2 _ rfl
  have hltb:=hrow.lt
  have H1:=hid h1
  have H2:=hid h2
  have H7:=hid h7
  have H6:=hid h6
  have H8:=hid h8
  have H3:=hid h3
  have H4:=hid h4
  have Hk:=hid hk
  have HT:=hid (thing_from_c C (n0+2) p du ru (t::q) W h1 (by simp) h3 h4)
  have hit:=itemsQ_eq p (l:=t::q) (by simp)
  have Hit:=hid hit
  clear h1 h2 h3 h4 h5 h6 h7 h8 hrow hk hit
  gi_wp2_with fail
  refine⟨trivial,(CallsIn.inRound l (callsIn_wide.2 HT.out)).mono ?_⟩
  rintro e w1 ⟨hm,b1,k1⟩
  cases hp:itemQ p (t::q) with
  | error z=>
   rw[hp] at hm
   obtain rfl:=hm
   have He:Hid (itemsQ ⟨[],[]⟩ q0=.error z):=hid (by rw[H2.out,Hit.out,hp])
   have hr7:=H7.out.br b1 (by omega) (by omega)
   have d2:w1.cell? ⟨n0+1,0,none⟩=some .nilIface:=hr7.at 0 _ rfl
   have g2:w1.frozen? ⟨n0+1,0,none⟩=false:=hr7.frz 0
   have hl2:=hr7.lt
   have Fin:Hid (KeepsFrom WL.heap.size W (w1.setCell ⟨n0+1,0,none⟩ (flawV z.1 z.2))∧Row (n0+1) 75 [flawV z.1 z.2] (w1.setCell ⟨n0+1,0,none⟩ (flawV z.1 z.2))∧BR C.R n0 w (w1.setCell ⟨n0+1,0,none⟩ (flawV z.1 z.2))):=hid
    ⟨(k1.trans (KeepsOthers.setCell _ _ _)).from _,row_set hr7 0 _,H8.out.trans ((b1.mono (by omega)).trans ⟨rfl,rfl,rfl,by simp[World.setCell],fun i h1 _=>Below.heap_setCell _ ⟨n0+1,0,none⟩ _ i (by show i≠n0+1;omega)⟩)⟩
   clear b1 k1 hr7 hp c1 t0 t1 t2
   gi_wp2
   exact⟨Fin.out.1,rfl,z,He.out,Fin.out.2⟩
  | ok y=>
   obtain⟨p',q'⟩:=y
   rw[hp] at hm
   obtain⟨rfl,du',ru',i1⟩:=hm
   have hless:=itemQ_less hp
   have hnum:=itemQ_num H3.out H4.out hp
   have Fin:Hid (KeepsFrom WL.heap.size W w1∧PrS C n0 q0 w k q' w1∧k+q'.length≤q0.length):=hid
    ⟨k1.from _,⟨p',du',ru',i1,by rw[H2.out,Hit.out,hp],hnum.1,hnum.2,by have:=Hk.out;omega,H6.out.br b1 (by omega) (by omega),H7.out.br b1 (by omega) (by omega),H8.out.trans (b1.mono (by omega))⟩,by have:=Hk.out;simp only[List.length_cons] at hless;omega⟩
   clear b1 k1 hp i1 hless hnum c1 t0 t1 t2
   gi_wp2
   exact⟨Fin.out.1,q',Fin.out.2⟩
 case done=>
  rintro D W hD ⟨k,p,du,ru,h1,h2,h3,h4,h5,h6,h7,h8⟩ hd
  rw[itemsQ_nil] at h2
  have c2:W.cell? ⟨n0+1,0,none⟩=some .nilIface:=h7.at 0 _ rfl
  have f2:W.frozen? ⟨n0+1,0,none⟩=false:=h7.frz 0
  have hl2:=h7.lt
  have hne:n0+1≠D:=by rw[Hs.out] at hD;omega
  have Hd:=hid hd
  have H1:=hid h1
  have H2:=hid h2
  have H7:=hid h7
  have H8:=hid h8
  have HD:=hid hD
  clear hd h1 h2 h3 h4 h5 h6 h7 h8 hD
  gi_wp2
  rw[setCell_noop H7.out]
  have Pt:Put (n0+2) W (W.putObj D (.deferred none)):=⟨D,_,_,by have:=HD.out;rw[Hs.out] at this;exact this,Hd.out,rfl,rfl,rfl⟩
  have d2:(W.putObj D (.deferred none)).cell? ⟨n0+1,0,none⟩=some .nilIface:=(put_cell Pt _).trans c2
  refine⟨by simp,.inl ⟨_,_,rfl,run_takeDeferred Hd.out,?_⟩⟩
  refine⟨.nilIface,by simp[results,Tryz.results29,go_sem,d2],?_⟩
  unfold PrR
  rw[H2.out]
  exact⟨⟨rfl,n0+2,du,ru,by rw[Hn0.out];omega,H1.out.put Pt (by omega)⟩,by rw[Hn0.out];exact put_br Pt H8.out (by omega)⟩
 case stop=>
  rintro D c W hD ⟨rfl,x,h1,h2,h3⟩ hd
  have c2:W.cell? ⟨n0+1,0,none⟩=some (flawV x.1 x.2):=h2.at 0 _ rfl
  have hl2:=h2.lt
  have Hd:=hid hd
  have H1:=hid h1
  have H2:=hid h2
  have H3:=hid h3
  have HD:=hid hD
  clear hd h1 h2 h3 hD
  gi_wp2
  have Pt:Put (n0+2) W (W.putObj D (.deferred none)):=⟨D,_,_,by have:=HD.out;rw[Hs.out] at this;exact this,Hd.out,rfl,rfl,rfl⟩
  have d2:(W.putObj D (.deferred none)).cell? ⟨n0+1,0,none⟩=some (flawV x.1 x.2):=(put_cell Pt _).trans c2
  refine⟨by simp,.inl ⟨_,_,rfl,run_takeDeferred Hd.out,?_⟩⟩
  refine⟨flawV x.1 x.2,by simp[results,Tryz.results29,go_sem,d2],?_⟩
  unfold PrR
  rw[H1.out]
  exact⟨rfl,by rw[Hn0.out];exact put_br Pt H3.out (by omega)⟩
theorem program_c (C:RC) (q0:List TokI) (w:World) (h:Rd C (.slice none 0 0) (.slice none 0 0) q0 w) :
  Calls Tryz.prog 29 #[.pointer (some ⟨C.R,0,none⟩)] w (PrR C q0 w):=callsIn_wide.1 (program_in C q0 w h)
end Go.Proofs.YtdgbajnhhhjbcaaGreatDoor
namespace Go.Proofs.YtdgbajnhhhjbcaaGreatDoor
open Lib(hid)
open Go.RowKit
structure REnv (a:Addr) (w:World):Prop where
 env:PEnv a w
 typ:w.cell? ⟨2,0,none⟩=some (.iface 154 (.agg #[.pointer (some ⟨14,75,none⟩)]))
theorem REnv.below {a:Addr} {w w':World} (h:REnv a w) (hb:Below w.heap.size w w'):REnv a w':=
 ⟨h.env.below hb,(hb.cell (p:=⟨2,0,none⟩) (by have:=h.env.env.size;show 2 < _;omega)).trans h.typ⟩
def ParP (r:Pg × Int × Int) (w:World) (e:Ending) (w':World):Prop:=
 ∃ v u,e=.returned (.tuple #[.agg #[v,u],.int .i64 r.2.1,.int .i64 r.2.2])∧PgC (past w.heap.size w') w'.heap.size r.1 [v,u]∧Below w.heap.size w w'
theorem pgc_nil (w:World) (B:Nat):PgC w B ⟨[],[]⟩ [.slice none 0 0,.slice none 0 0]:=⟨_,_,rfl,.inl ⟨rfl,rfl⟩,.inl ⟨rfl,rfl⟩⟩
theorem PgI.prog {C:RC} {B:Nat} {p:Pg} {du ru:Value} {q:List TokI} {W V:World} (h:PgI C B p du ru q W) {L:Nat} (hL:L≤B) (hsz:W.heap.size≤V.heap.size) (hk:∀ i,B≤i→i < W.heap.size→V.heap[i]?=W.heap[i]?):PgC (past L V) V.heap.size p [du,ru]:=by
 have hv1:Vis (past B (hide2 du ru W)) (past L V):=fun a c hc=>by
  obtain⟨k1,k2⟩:=past_cell.1 hc
  obtain⟨_,_,k5⟩:=hide2_cell.1 k2
  exact past_cell.2 ⟨Nat.le_trans hL k1,(World.cell?_of_block (hk _ k1 (cell_lt k5))).trans k5⟩
 have hv2:Vis (past B W) (past L V):=fun a c hc=>by
  obtain⟨k1,k5⟩:=past_cell.1 hc
  exact past_cell.2 ⟨Nat.le_trans hL k1,(World.cell?_of_block (hk _ k1 (cell_lt k5))).trans k5⟩
 obtain⟨xs,h1,h2⟩:=h.d
 obtain⟨ys,h3,h4⟩:=h.r
 refine⟨du,ru,rfl,?_,?_⟩
 ·have:=sl_own (L:=B) h1 (h2.mono fun x cs hx=>Vis.de hx hv1 hsz) (Nat.le_refl _)
  exact SlOf.more (SlOf.vis this hv2 fun _ _ _ h=>h) hsz fun _ _ _ h=>h
 ·have:=sl_own (L:=B) h3 (h4.mono fun x cs hx=>Vis.ru hx hv1 hsz) (Nat.le_refl _)
  exact SlOf.more (SlOf.vis this hv2 fun _ _ _ h=>h) hsz fun _ _ _ h=>h
set_option maxRecDepth 100000 in
set_option maxHeartbeats 8000000 in
theorem dparse_c (ts:List TokI) (v:Value) (a:Addr) (w:World) (hv:SliceOf w w.heap.size v ts) (hg:∀ t ∈ ts,GoodT t) (E:REnv a w) :
  Calls Tryz.prog 13 #[v] w (ParP (parseQ ts) w):=by
 obtain⟨n0,hn0⟩:∃ n0,w.heap.size=n0:=⟨_,rfl⟩
 obtain⟨ov,cv,rfl⟩:∃ o cap,v=.slice o ts.length cap:=by
  rcases hv with ⟨rfl,rfl⟩ | ⟨b,cap,rfl,_⟩
  ·exact⟨none,0,rfl⟩
  ·exact⟨_,cap,rfl⟩
 by_cases hlong:20000 < ts.length
 ·have hL:(20000:Int) < (ts.length:Int):=by omega
  have He:Hid (parseQ ts=(⟨[],[]⟩,0,21)):=hid (by unfold parseQ;rw[if_pos hlong])
  clear hv hg E hlong
  go_enter Tryz.func13,Tryz.ntmps13
  go_wp2_with fail
  have r0:=Row.new w 25 [.slice none 0 0,.slice none 0 0]
  rw[hn0] at r0
  have c0:=r0.at 0 _ rfl
  have c1:=r0.at 1 _ rfl
  refine bodyPost_ret (v:=.tuple #[.agg #[.slice none 0 0,.slice none 0 0],.int .i64 0,.int .i64 21]) (by simp[results,Tryz.results13,go_sem,c0,c1]) rfl ?_
  rw[He.out]
  exact⟨_,_,rfl,pgc_nil _ _,(Below.refl _ w).alloc (Nat.le_refl _) _⟩
 ·have hL:¬ (20000:Int) < (ts.length:Int):=by omega
  obtain⟨W1,hW1⟩:∃ W1,w.alloc (.cells #[.slice none 0 0,.slice none 0 0] 25)=W1:=⟨_,rfl⟩
  obtain⟨W2,hW2⟩:∃ W2,W1.alloc (.cells #[.slice ov ts.length cv,.int .i64 0,.slice none 0 0,.slice none 0 0] 73)=W2:=⟨_,rfl⟩
  have hb1:Below n0 w W1:=by rw[← hW1];exact (Below.refl _ w).alloc (by omega) _
  have hs1:W1.heap.size=n0+1:=by rw[← hW1];simp[hn0]
  have hb2:Below (n0+1) W1 W2:=by rw[← hW2];exact (Below.refl _ W1).alloc (by omega) _
  have hs2:W2.heap.size=n0+2:=by rw[← hW2];simp[hs1]
  have hb02:Below n0 w W2:=hb1.trans (hb2.mono (by omega))
  have r0:Row n0 25 [.slice none 0 0,.slice none 0 0] W2:=by
   have:=Row.new w 25 [.slice none 0 0,.slice none 0 0]
   rw[hn0,show w.alloc (.cells [Value.slice none 0 0,.slice none 0 0].toArray 25)=W1 from hW1] at this
   exact this.below hb2 (by omega)
  have r1:Row (n0+1) 73 [.slice ov ts.length cv,.int .i64 0,.slice none 0 0,.slice none 0 0] W2:=by
   have:=Row.new W1 73 [.slice ov ts.length cv,.int .i64 0,.slice none 0 0,.slice none 0 0]
   rw[hs1,show W1.alloc (.cells [Value.slice ov ts.length cv,.int .i64 0,.slice none 0 0,.slice none 0 0].toArray 73)=W2 from hW2] at this
   exact this
  have hVn:14≤n0:=by have:=E.env.env.size;omega
  have E2:REnv a W2:=E.below (by rw[hn0];exact hb02)
  have hRd:Rd ⟨n0+1,ts,.slice ov ts.length cv,a⟩ (.slice none 0 0) (.slice none 0 0) ts W2:=
   ⟨⟨0,rfl,by omega,r1⟩,(hv.below (by rw[hn0];exact hb02)).more (by show _≤n0+1;omega),by show ts.length≤20000;omega,hg,E2.env,by show 14≤n0+1;omega⟩
  have HP:=hid (program_c ⟨n0+1,ts,.slice ov ts.length cv,a⟩ ts W2 hRd)
  have HW1:=hid hW1
  have HW2:=hid hW2
  have R0:=hid r0
  have HB:=hid hb02
  have HE0:=hid E
  have Hs2:=hid hs2
  have Hn0:=hid hn0
  have HV:=hid hVn
  have Hl:=hid hlong
  clear hv hg E hlong hW1 hb1 hs1 hb2 hb02 r0 r1 E2 hRd hs2 hVn
  go_enter Tryz.func13,Tryz.ntmps13
  go_wp2_with fail
  rw[HW1.out,HW2.out]
  refine HP.out.mono ?_
  rintro e w3 ⟨hm,b3⟩
  have hlt3:n0+2≤w3.heap.size:=by have:=b3.2.2.2.1;have:=Hs2.out;omega
  have hb3:Below n0 w w3:=HB.out.trans ⟨b3.1,b3.2.1,b3.2.2.1,b3.2.2.2.1,fun i hi=>b3.2.2.2.2 i (by have:=Hs2.out;omega) (by show i≠n0+1;omega)⟩
  have hr3:=R0.out.br b3 (by have:=Hs2.out;omega) (by show n0≠n0+1;omega)
  have hE3:REnv a w3:=HE0.out.below (by rw[Hn0.out];exact hb3)
  have HB3:=hid hb3
  have Hr3:=hid hr3
  have Hlt3:=hid hlt3
  obtain⟨k1,hk1⟩:∃ k1,w3.heap.size=k1:=⟨_,rfl⟩
  obtain⟨W5,hW5⟩:∃ W5,(w3.alloc (.cells #[.int .i64 0,.nilIface] 78)).alloc (.cells #[.int .i64 0] 79)=W5:=⟨_,rfl⟩
  have hs5:W5.heap.size=k1+2:=by rw[← hW5];simp[hk1]
  have hb5:Below k1 w3 W5:=by rw[← hW5];exact ((Below.refl _ _).alloc (by omega) _).alloc (by simp;omega) _
  have q1:Row k1 78 [.int .i64 0,.nilIface] W5:=by
   have:=(Row.new w3 78 [.int .i64 0,.nilIface]).al (.cells #[.int .i64 0] 79)
   rw[hk1] at this
   rw[← hW5]
   exact this
  have q2:Row (k1+1) 79 [.int .i64 0] W5:=by
   have:=Row.new (w3.alloc (.cells #[.int .i64 0,.nilIface] 78)) 79 [.int .i64 0]
   simp only[World.size_alloc] at this
   rw[hk1] at this
   rw[← hW5]
   exact this
  have hr5:=hr3.below hb5 (by omega)
  have hE5:REnv a W5:=hE3.below (by rw[hk1];exact hb5)
  have Q1:=hid q1
  have Q2:=hid q2
  have HW5:=hid hW5
  have HB5:=hid hb5
  have HE5:=hid hE5
  have Hr5:=hid hr5
  have Hs5:=hid hs5
  have Hk1:=hid hk1
  clear hb3 hr3 hE3 hW5 hb5 q1 q2 hr5 hE5 hs5
  cases hq:itemsQ ⟨[],[]⟩ ts with
  | error z=>
   rw[hq] at hm
   obtain rfl:=hm
   have He:Hid (parseQ ts=(⟨[],[]⟩,z.2,z.1)):=hid (by unfold parseQ;rw[if_neg Hl.out,hq])
   clear hq b3
   go_wp2_with fail
   rw[HW5.out]
   refine (aq_hit z.2 z.1 k1 W5 Q1.out (by have:=HV.out;have:=Hlt3.out;show 8≤k1;omega) HE5.out.typ).mono ?_
   rintro e w6 ⟨rfl,hc6,g6⟩
   have q6:Row (k1+1) 79 [.int .i64 0] w6:=Q2.out.gr g6 (by omega)
   have hr6:=Hr5.out.gr g6 (by have:=Hlt3.out;omega)
   have hE6:REnv a w6:=by
    have hb:Below k1 W5 w6:=g6.below (Nat.le_refl _) (by rw[Hs5.out];omega)
    have hV:=HV.out
    have hL3:=Hlt3.out
    exact⟨HE5.out.env.belowB (B:=k1) (by omega) hb,(hb.cell (p:=⟨2,0,none⟩) (by show 2 < k1;omega)).trans HE5.out.typ⟩
   have hc6l:=g6.size
   have Hc6:=hid hc6
   have G6:=hid g6
   have Q6:=hid q6
   have Hr6:=hid hr6
   have HE6:=hid hE6
   clear hc6 g6 q6 hr6 hE6 hc6l
   go_wp2_with fail
   refine (af_hit z.2 z.1 (k1+1) w6 Q6.out (by have:=HV.out;have:=Hlt3.out;show 8≤k1+1;omega) HE6.out.typ).mono ?_
   rintro e w7 ⟨rfl,hc7,g7⟩
   have hs6:k1+2≤w6.heap.size:=by have:=G6.out.size;have:=Hs5.out;omega
   have d1:w7.cell? ⟨k1,0,none⟩=some (.int .i64 z.2):=(World.cell?_of_block (g7.block k1 (by omega) (fun e=>by have:=Option.some.inj e;omega))).trans Hc6.out
   have hr7:=Hr6.out.gr g7 (by have:=Hlt3.out;omega)
   have e0:=hr7.at 0 _ rfl
   have e1:=hr7.at 1 _ rfl
   have f0:=hr7.frz 0
   have f1:=hr7.frz 1
   have hl7:=hr7.lt
   have hz7:=g7.size
   have l1:k1 < w7.heap.size:=by omega
   have l2:k1+1 < w7.heap.size:=by omega
   have hb7:Below n0 w w7:=HB3.out.trans ((HB5.out.mono (by have:=Hlt3.out;omega)).trans ((G6.out.below (by have:=Hlt3.out;omega) (by have:=Hlt3.out;rw[Hs5.out];omega)).trans (g7.below (by have:=Hlt3.out;omega) (by have:=Hlt3.out;omega))))
   have HB7:=hid hb7
   have Hr7:=hid hr7
   clear g7 hz7 hb7 hr7
   go_wp2_with fail
   go_region
   all_goals (try go_wp2)
   have hv:Row n0 25 [.slice none 0 0,.slice none 0 0] ((w7.setCell ⟨n0,0,none⟩ (.slice none 0 0)).setCell ⟨n0,1,none⟩ (.slice none 0 0)).drew:=row_set (row_set Hr7.out 0 (.slice none 0 0)) 1 (.slice none 0 0)
   have x0:=hv.at 0 _ rfl
   have x1:=hv.at 1 _ rfl
   refine bodyPost_ret (v:=.tuple #[.agg #[.slice none 0 0,.slice none 0 0],.int .i64 z.2,.int .i64 z.1]) (by simp[results,Tryz.results13,go_sem,x0,x1]) rfl ?_
   rw[He.out]
   exact⟨_,_,rfl,pgc_nil _ _,by rw[Hn0.out];exact ((HB7.out.setCell (p:=⟨n0,0,none⟩) (Nat.le_refl _) _).setCell (p:=⟨n0,1,none⟩) (Nat.le_refl _) _).drew⟩
  | ok pg=>
   rw[hq] at hm
   obtain⟨rfl,B,du,ru,hB,hP⟩:=hm
   have He:Hid (parseQ ts=(pg,0,0)):=hid (by unfold parseQ;rw[if_neg Hl.out,hq])
   clear hq b3
   obtain⟨o1,cp1,rfl⟩:=hP.formD
   obtain⟨o2,cp2,rfl⟩:=hP.formR
   obtain⟨p2,p3,_,_⟩:=hP.row
   have hlR:n0+1 < w3.heap.size:=hP.rd.lt
   have c2:W5.cell? ⟨n0+1,2,none⟩=some (.slice o1 pg.decls.length cp1):=(HB5.out.cell (p:=⟨n0+1,2,none⟩) (by show n0+1 < k1;omega)).trans p2
   have c3:W5.cell? ⟨n0+1,3,none⟩=some (.slice o2 pg.rules.length cp2):=(HB5.out.cell (p:=⟨n0+1,3,none⟩) (by show n0+1 < k1;omega)).trans p3
   have e0:=Hr5.out.at 0 _ rfl
   have e1:=Hr5.out.at 1 _ rfl
   have f0:=Hr5.out.frz 0
   have f1:=Hr5.out.frz 1
   have hl5:=Hr5.out.lt
   have HP3:=hid hP
   have HBn:=hid hB
   clear p2 p3 hP hB hlR
   go_wp2_with fail
   rw[HW5.out]
   refine (as_nil _ W5).mono ?_
   rintro e w6 ⟨rfl,rfl⟩
   go_wp2_with fail
   have hv:Row n0 25 [.slice o1 pg.decls.length cp1,.slice o2 pg.rules.length cp2] ((W5.setCell ⟨n0,0,none⟩ (.slice o1 pg.decls.length cp1)).setCell ⟨n0,1,none⟩ (.slice o2 pg.rules.length cp2)):=row_set (row_set Hr5.out 0 (.slice o1 pg.decls.length cp1)) 1 (.slice o2 pg.rules.length cp2)
   have x0:=hv.at 0 _ rfl
   have x1:=hv.at 1 _ rfl
   refine bodyPost_ret (v:=.tuple #[.agg #[.slice o1 pg.decls.length cp1,.slice o2 pg.rules.length cp2],.int .i64 0,.int .i64 0]) (by simp[results,Tryz.results13,go_sem,x0,x1]) rfl ?_
   rw[He.out]
   refine⟨_,_,rfl,HP3.out.prog (by have:=HBn.out;have:=Hs2.out;have:=Hn0.out;omega) ?_ ?_,by rw[Hn0.out];exact ((HB3.out.trans (HB5.out.mono (by have:=Hlt3.out;omega))).setCell (p:=⟨n0,0,none⟩) (Nat.le_refl _) _).setCell (p:=⟨n0,1,none⟩) (Nat.le_refl _) _⟩
   ·have:=Hs5.out
    simp[World.setCell]
    omega
   ·intro i h1 h2
    have:=HBn.out
    have:=Hs2.out
    exact (Below.heap_setCell _ ⟨n0,1,none⟩ _ i (by show i≠n0;omega)).trans ((Below.heap_setCell _ ⟨n0,0,none⟩ _ i (by show i≠n0;omega)).trans (HB5.out.block i (by omega)))
end Go.Proofs.YtdgbajnhhhjbcaaGreatDoor
namespace Go.Proofs.YtdgbajnhhhjbcaaGreatDoor
open Lib(hid)
open Go.RowKit
theorem Vis.pg {w w':World} {B B':Nat} {p:Pg} {cs:List Value} (h:PgC w B p cs) (k:Vis w w') (hB:B≤B'):PgC w' B' p cs:=by
 obtain⟨v,u,rfl,h1,h2⟩:=h
 exact⟨v,u,rfl,SlOf.more (SlOf.vis h1 k fun x _ cs hx=>Vis.de hx k (Nat.le_refl _)) hB fun _ _ _ h=>Vis.de h (fun _ _ h=>h) hB,
  SlOf.more (SlOf.vis h2 k fun x _ cs hx=>Vis.ru hx k (Nat.le_refl _)) hB fun _ _ _ h=>Vis.ru h (fun _ _ h=>h) hB⟩
theorem vis_past (L:Nat) (w:World):Vis (past L w) w:=fun _ _ hc=>(past_cell.1 hc).2
theorem vis_boxN {L L' n0:Nat} {w w':World} (hL:L'≤L) (h:∀ k,k≠n0→w'.heap[k]?=w.heap[k]?) (hn:n0 < L):Vis (past L w) (past L' w'):=fun p c hc=>by
 obtain⟨h1,h2⟩:=past_cell.1 hc
 exact past_cell.2 ⟨by omega,(World.cell?_of_block (h p.block (by omega))).trans h2⟩
def readR (l:List UInt8):Pg × Int × Int:=
 if (lexR l).2.2=0 then parseQ ((lexR l).1.map tokI) else (⟨[],[]⟩,(lexR l).2.1,(lexR l).2.2)
structure VEnv (a b c d:Addr) (w:World):Prop where
 lex:LEnv a b c w
 par:REnv d w
theorem VEnv.below {a b c d:Addr} {w w':World} (h:VEnv a b c d w) (hb:Below w.heap.size w w'):VEnv a b c d w':=⟨h.lex.below hb,h.par.below hb⟩
set_option maxRecDepth 100000 in
set_option maxHeartbeats 8000000 in
theorem read_c (s:ByteArray) (a b c d:Addr) (w:World) (hs:s.size≤1073741823) (E:VEnv a b c d w) :
  Calls Tryz.prog 11 #[.string s] w (ParP (readR s.data.toList) w):=by
 obtain⟨n0,hn0⟩:∃ n0,w.heap.size=n0:=⟨_,rfl⟩
 obtain⟨W1,hW1⟩:∃ W1,w.alloc (.cells #[.slice none 0 0,.slice none 0 0] 25)=W1:=⟨_,rfl⟩
 have hb1:Below n0 w W1:=by rw[← hW1];exact (Below.refl _ w).alloc (by omega) _
 have hs1:W1.heap.size=n0+1:=by rw[← hW1];simp[hn0]
 have r1:Row n0 25 [.slice none 0 0,.slice none 0 0] W1:=by
  have:=Row.new w 25 [.slice none 0 0,.slice none 0 0]
  rw[hn0] at this
  rw[← hW1]
  exact this
 have E1:=E.below (by rw[hn0];exact hb1)
 obtain⟨r,hr⟩:∃ r,lexR s.data.toList=r:=⟨_,rfl⟩
 obtain⟨ts,n,er⟩:=r
 have HL:=hid (lexE_c s a b c W1 hs E1.lex)
 have HT:=hid (lexR_tok hr)
 have HE1:=hid E1
 have HW1:=hid hW1
 have Hs1:=hid hs1
 have HB1:=hid hb1
 have Hr:=hid hr
 have R1:=hid r1
 have Hn0:=hid hn0
 clear hW1 hb1 hs1 r1 E1 hr E
 go_enter Tryz.func11,Tryz.ntmps11
 go_wp2_with fail
 rw[HW1.out]
 refine HL.out.mono ?_
 rintro e w2 ⟨v,rfl,hown,b2⟩
 rw[Hr.out] at hown ⊢
 have hlie:=SliceOf.of_own hown
 have hr2:=R1.out.below b2 (by rw[Hs1.out];omega)
 have hE2:=HE1.out.below b2
 have e0:=hr2.at 0 _ rfl
 have e1:=hr2.at 1 _ rfl
 have f0:=hr2.frz 0
 have f1:=hr2.frz 1
 have hl2:=hr2.lt
 have HB2:=hid (HB1.out.trans (b2.mono (by rw[Hs1.out];omega)))
 have R2:=hid hr2
 have HP:=hid (dparse_c (ts.map tokI) v d w2 hlie HT.out.2.1 hE2.par)
 clear hown hlie hr2 hE2 b2
 by_cases her:er=0
 ·have He:Hid (readR s.data.toList=parseQ (ts.map tokI)):=hid (by unfold readR;rw[Hr.out];exact if_pos her)
  subst her
  go_wp2_with fail
  refine HP.out.mono ?_
  rintro e w3 ⟨x,y,rfl,hp,b3⟩
  obtain⟨o0,k0,o1,k1,hxy,_,_⟩:=hp.look
  obtain⟨rfl,rfl⟩:x=.slice o0 (parseQ (ts.map tokI)).1.decls.length k0∧y=.slice o1 (parseQ (ts.map tokI)).1.rules.length k1:=by simpa using hxy
  have hr3:=R2.out.below b3 hl2
  have e0':=hr3.at 0 _ rfl
  have e1':=hr3.at 1 _ rfl
  have f0':=hr3.frz 0
  have f1':=hr3.frz 1
  have hl3:=hr3.lt
  have HB3:=hid (HB2.out.trans (b3.mono (by omega)))
  have R3:=hid hr3
  have HPg:=hid hp
  have Hl2:=hid hl2
  clear hr3 hp b3 hxy e0 e1 f0 f1 hl2
  go_wp2
  have hv:=row_set (row_set R3.out 0 (.slice o0 (parseQ (ts.map tokI)).1.decls.length k0)) 1 (.slice o1 (parseQ (ts.map tokI)).1.rules.length k1)
  have x0:=(cell_row hv 0).1
  have x1:=(cell_row hv 1).1
  refine bodyPost_ret (v:=.tuple #[.agg #[.slice o0 (parseQ (ts.map tokI)).1.decls.length k0,.slice o1 (parseQ (ts.map tokI)).1.rules.length k1],.int .i64 (parseQ (ts.map tokI)).2.1,.int .i64 (parseQ (ts.map tokI)).2.2]) (by simp[results,Tryz.results11,go_sem,x0,x1]) rfl ?_
  rw[He.out]
  refine⟨_,_,rfl,Vis.pg HPg.out (vis_boxN (n0:=n0) (by rw[Hn0.out];have:=Hl2.out;omega) (fun k hk=>?_) Hl2.out) (by simp[World.setCell]),by rw[Hn0.out];exact (HB3.out.setCell (p:=⟨n0,0,none⟩) (Nat.le_refl _) _).setCell (p:=⟨n0,1,none⟩) (Nat.le_refl _) _⟩
  exact (Below.heap_setCell _ ⟨n0,1,none⟩ _ k hk).trans (Below.heap_setCell _ ⟨n0,0,none⟩ _ k hk)
 ·have hne:((er:Int) != 0)=true:=by simpa using her
  have He:Hid (readR s.data.toList=(⟨[],[]⟩,(n:Int),(er:Int))):=hid (by unfold readR;rw[Hr.out];exact if_neg her)
  have hne2:¬ ((er:Int)=0):=by simpa using her
  go_wp2
  have hv:=row_set (row_set R2.out 0 (.slice none 0 0)) 1 (.slice none 0 0)
  have x0:=(cell_row hv 0).1
  have x1:=(cell_row hv 1).1
  refine bodyPost_ret (v:=.tuple #[.agg #[.slice none 0 0,.slice none 0 0],.int .i64 (n:Int),.int .i64 (er:Int)]) (by simp[results,Tryz.results11,go_sem,x0,x1]) rfl ?_
  rw[He.out]
  exact⟨_,_,rfl,pgc_nil _ _,by rw[Hn0.out];exact (HB2.out.setCell (p:=⟨n0,0,none⟩) (Nat.le_refl _) _).setCell (p:=⟨n0,1,none⟩) (Nat.le_refl _) _⟩
end Go.Proofs.YtdgbajnhhhjbcaaGreatDoor
namespace Go.Proofs.YtdgbajnhhhjbcaaGreatDoor
open Lib(hid)
open Go.RowKit
def shL:List UInt8:=[112,40,120,41,32,58,45,32,113,40,120,41,44,32,120,32,62,32,49,32,43,32,50,32,42,32,120,46]
def shM:List UInt8:=[112,40,120,41,46]
def shT:List Tk:=[⟨1,[112],1⟩,⟨4,[40],1⟩,⟨1,[120],1⟩,⟨4,[41],1⟩,⟨4,[58,45],1⟩,⟨1,[113],1⟩,⟨4,[40],1⟩,⟨1,[120],1⟩,⟨4,[41],1⟩,⟨4,[44],1⟩,⟨1,[120],1⟩,⟨4,[62],1⟩,⟨2,[49],1⟩,⟨4,[43],1⟩,⟨2,[50],1⟩,⟨4,[42],1⟩,⟨1,[120],1⟩,⟨4,[46],1⟩]
def shU:List Tk:=[⟨1,[112],1⟩,⟨4,[40],1⟩,⟨1,[120],1⟩,⟨4,[41],1⟩,⟨4,[46],1⟩]
theorem shT_l:lexR shL=(shT,0,0):=by decide +kernel
theorem shU_l:lexR shM=(shU,0,0):=by decide +kernel
def shP:Pg:=⟨[],[⟨⟨⟨#[112]⟩,[.mk 1 ⟨#[120]⟩ 0 []]⟩,[⟨1,⟨⟨#[113]⟩,[.mk 1 ⟨#[120]⟩ 0 []]⟩,noTm,noTm⟩,⟨5,noAm,.mk 5 ⟨#[]⟩ 0 [intT 1,.mk 7 ⟨#[]⟩ 0 [intT 2,.mk 1 ⟨#[120]⟩ 0 []]],.mk 1 ⟨#[120]⟩ 0 []⟩],1⟩]⟩
theorem shU_p:parseQ ([⟨1,⟨#[112]⟩,1⟩,⟨4,⟨#[40]⟩,1⟩,⟨1,⟨#[120]⟩,1⟩,⟨4,⟨#[41]⟩,1⟩,⟨4,⟨#[46]⟩,1⟩]:List TokI)=(⟨[],[]⟩,1,40):=by
 simp[parseQ,itemsQ_eq,itemsQ_nil,itemQ,ruleQ,bodyQ,partQ,heldQ,restQ,howQ,atomP,nameP,mustP,argsP,argP,exprP,sumP,productP,thingP,timesP,plusP,joinP,intT,digitsI,nextB,tokB,isNm,nmAt,lineL,litP,endP,headedB,signP,highT,highTs]
theorem shT_p:parseQ ([⟨1,⟨#[112]⟩,1⟩,⟨4,⟨#[40]⟩,1⟩,⟨1,⟨#[120]⟩,1⟩,⟨4,⟨#[41]⟩,1⟩,⟨4,⟨#[58,45]⟩,1⟩,⟨1,⟨#[113]⟩,1⟩,⟨4,⟨#[40]⟩,1⟩,⟨1,⟨#[120]⟩,1⟩,⟨4,⟨#[41]⟩,1⟩,⟨4,⟨#[44]⟩,1⟩,⟨1,⟨#[120]⟩,1⟩,⟨4,⟨#[62]⟩,1⟩,⟨2,⟨#[49]⟩,1⟩,⟨4,⟨#[43]⟩,1⟩,⟨2,⟨#[50]⟩,1⟩,⟨4,⟨#[42]⟩,1⟩,⟨1,⟨#[120]⟩,1⟩,⟨4,⟨#[46]⟩,1⟩]:List TokI)=(shP,0,0):=by
 simp[parseQ,itemsQ_eq,itemsQ_nil,itemQ,ruleQ,bodyQ,partQ,heldQ,restQ,howQ,atomP,nameP,mustP,argsP,argP,exprP,sumP,productP,thingP,timesP,plusP,joinP,intT,digitsI,nextB,tokB,isNm,nmAt,lineL,litP,endP,headedB,signP,highT,highTs,shP]
theorem sh3:rightP shP=true:=by decide +kernel
theorem sh4:showP shP=[112,40,120,41,32,58,45,32,113,40,120,41,44,32,40,49,32,43,32,40,50,32,42,32,120,41,41,32,60,32,120,46,10]:=by decide +kernel
end Go.Proofs.YtdgbajnhhhjbcaaGreatDoor
namespace Go.Proofs.YtdgbajnhhhjbcaaGreatDoor
open Lib(hid)
open Go.RowKit
theorem sh_read1:readR shL=(shP,0,0):=by
 unfold readR
 rw[shT_l]
 exact (if_pos rfl).trans shT_p
theorem sh_read2:readR shM=(⟨[],[]⟩,1,40):=by
 unfold readR
 rw[shU_l]
 exact (if_pos rfl).trans shU_p
set_option maxRecDepth 100000 in
set_option maxHeartbeats 4000000 in
theorem vshown_c (a b c d:Addr) (w:World) (E:VEnv a b c d w) :
  Calls Tryz.prog 7 #[] w fun e w'=>e=.returned (.bool true)∧Below w.heap.size w w':=by
 have HE:=hid E
 have H1:=hid (read_c ⟨#[112,40,120,41,32,58,45,32,113,40,120,41,44,32,120,32,62,32,49,32,43,32,50,32,42,32,120,46]⟩ a b c d w (by decide) E)
 clear E
 go_enter Tryz.func7,Tryz.ntmps7
 go_wp2_with fail
 refine H1.out.mono ?_
 intro e w1 h1
 replace h1:ParP (shP,0,0) w e w1:=by rw[← sh_read1];exact h1
 obtain⟨v,u,rfl,hp,b1⟩:=h1
 obtain⟨o0,k0,o1,k1,hvu,_,_⟩:=hp.look
 obtain⟨rfl,rfl⟩:v=.slice o0 shP.decls.length k0∧u=.slice o1 shP.rules.length k1:=by simpa using hvu
 have hp1:=Vis.pg hp (vis_past _ _) (Nat.le_refl _)
 obtain⟨n1,hn1⟩:∃ n1,w1.heap.size=n1:=⟨_,rfl⟩
 obtain⟨W1,hW1⟩:∃ W1,w1.alloc (.cells #[.slice o0 shP.decls.length k0,.slice o1 shP.rules.length k1] 25)=W1:=⟨_,rfl⟩
 have r1:Row n1 25 [.slice o0 shP.decls.length k0,.slice o1 shP.rules.length k1] W1:=by
  have:=Row.new w1 25 [.slice o0 shP.decls.length k0,.slice o1 shP.rules.length k1]
  rw[hn1] at this
  rw[← hW1]
  exact this
 have hbW:Below w1.heap.size w1 W1:=by rw[← hW1];exact (Below.refl _ _).alloc (Nat.le_refl _) _
 have B1:Below w.heap.size w W1:=b1.trans (hbW.mono b1.size)
 have hP1:=hid ((hp1.below hbW).more hbW.size)
 have H2:=hid (read_c ⟨#[112,40,120,41,46]⟩ a b c d W1 (by decide) (HE.out.below B1))
 have R1:=hid r1
 have HB1:=hid B1
 have HW1:=hid hW1
 clear hp hp1 hvu b1 r1 hbW B1 hW1
 go_wp2_with fail
 rw[HW1.out]
 refine H2.out.mono ?_
 intro e w2 h2
 replace h2:ParP (⟨[],[]⟩,1,40) W1 e w2:=by rw[← sh_read2];exact h2
 obtain⟨v,u,rfl,hp,b2⟩:=h2
 obtain⟨o2,k2,o3,k3,hvu,_,_⟩:=hp.look
 obtain⟨rfl,rfl⟩:v=.slice o2 0 k2∧u=.slice o3 0 k3:=by simpa using hvu
 obtain⟨W2,hW2⟩:∃ W2,w2.alloc (.cells #[.slice o2 0 k2,.slice o3 0 k3] 25)=W2:=⟨_,rfl⟩
 have hb2:Below W1.heap.size W1 W2:=by rw[← hW2];exact b2.alloc b2.size _
 have r2:=R1.out.below hb2 R1.out.lt
 have c0:W2.cell? ⟨n1,0,none⟩=some (.slice o0 shP.decls.length k0):=r2.at 0 _ rfl
 have c1:W2.cell? ⟨n1,1,none⟩=some (.slice o1 shP.rules.length k1):=r2.at 1 _ rfl
 have hl2:=r2.lt
 have B2:=HB1.out.trans (hb2.mono HB1.out.size)
 have H3:=hid (pshow_c shP d W2 _ ((hP1.out.below hb2).more hb2.size) (HE.out.below B2).par.env.env (fun _=>by rw[sh4];decide))
 have HB2:=hid B2
 have HW2:=hid hW2
 clear hp hvu b2 hb2 r2 B2
 subst hW2
 go_wp2_with fail
 refine H3.out.mono ?_
 rintro e w3 ⟨rfl,b3⟩
 have B3:=hid (HB2.out.trans (b3.mono HB2.out.size))
 rw[sh3,sh4,show ∀ x,shV true x=.tuple #[.string ⟨x.toArray⟩,.int .i64 0] from fun _=>rfl]
 clear b3 c0 c1
 go_wp2
 go_ret
 exact⟨rfl,B3.out⟩
end Go.Proofs.YtdgbajnhhhjbcaaGreatDoor
