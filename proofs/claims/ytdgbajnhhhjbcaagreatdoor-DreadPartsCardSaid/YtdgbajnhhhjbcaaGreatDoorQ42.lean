/- Rm4@012, Rm5@012, Rm6@012, Rm7@012 -/
import Derived.Deep.RegionLaw
import Derived.Test.YtdgbajnhhhjbcaaGreatDoorQ41
set_option linter.unusedSimpArgs false
set_option linter.unusedVariables false
namespace Go.Proofs.YtdgbajnhhhjbcaaGreatDoor
open Lib(hid)
open Go.RowKit
def colsQ (l:List TokI):Res (ByteArray × List (ByteArray × Int)):=
 match nameP l with
 | .error e=>.error e
 | .ok (s,q)=>
  match mustP 4 [40] () q with
  | .error e=>.error e
  | .ok (_,q)=>
   match columnsP [] q with
   | .error e=>.error e
   | .ok (cs,q)=>mustP 4 [41] (s,cs) q
theorem declQ (line:Int) (l:List TokI):declP line l=match colsQ l with | .error e=>.error e | .ok (x,q)=>.ok (⟨x.1,x.2.map (·.1),x.2.map (·.2),false,false,line⟩,q):=by
 unfold declP colsQ
 cases h1:nameP l with
 | error e=>rfl
 | ok p=>
  obtain⟨s,q⟩:=p
  simp only
  cases h2:mustP 4 [40] () q with
  | error e=>rfl
  | ok p=>
   obtain⟨_,q⟩:=p
   simp only
   cases h3:columnsP [] q with
   | error e=>rfl
   | ok p=>
    obtain⟨cs,q⟩:=p
    simp only
    unfold mustP
    split
    ·rfl
    ·rfl
def CoS (w:World) (B:Nat) (l:List (ByteArray × Int)) (v:Value):Prop:=SlOf w B 2 (CoC w B) l v
theorem cos_late {L L' R:Nat} {w w':World} {l:List (ByteArray × Int)} {v:Value} (h:CoS (past L w) w.heap.size l v) (g:Gr R w w') (hR:R < L) (hL:L'≤L):CoS (past L' w') w'.heap.size l v:=by
 have k:Vis (past L w) (past L' w'):=(Vis.gr g hR).trans (Vis.less hL w')
 have h2:SlOf (past L' w') w.heap.size 2 (CoC (past L' w') w'.heap.size) l v:=SlOf.vis h k fun x _ cs hx=>hx
 exact h2.more g.size fun _ _ _ h=>h
def NamedC (C:RC) (du ru:Value) (r:Res (ByteArray × List (ByteArray × Int))) (w:World) (e:Ending) (w':World):Prop:=
 (match r with
  | .ok (x,q')=>∃ v,e=.returned (.tuple #[.string x.1,v,.nilIface])∧x.1.size≤maxLen∧CoS (past w.heap.size w') w'.heap.size x.2 v∧Rd C du ru q' w'
  | .error x=>∃ a b,e=.returned (.tuple #[a,b,flawV x.1 x.2]))∧Gr C.R w w'
theorem NamedC.bad {C:RC} {du ru:Value} {r:Res (ByteArray × List (ByteArray × Int))} {k n:Int} {a b:Value} {w w':World} (hr:r=.error (k,n)) (g:Gr C.R w w'):NamedC C du ru r w (.returned (.tuple #[a,b,flawV k n])) w':=by
 subst hr
 exact⟨⟨a,b,rfl⟩,g⟩
theorem NamedC.good {C:RC} {du ru:Value} {r:Res (ByteArray × List (ByteArray × Int))} {s:ByteArray} {l:List (ByteArray × Int)} {q:List TokI} {v:Value} {w w':World} (hr:r=.ok ((s,l),q)) (hs:s.size≤maxLen) (hl:CoS (past w.heap.size w') w'.heap.size l v) (hq:Rd C du ru q w') (g:Gr C.R w w'):NamedC C du ru r w (.returned (.tuple #[.string s,v,.nilIface])) w':=by
 subst hr
 exact⟨⟨v,rfl,hs,hl,hq⟩,g⟩
set_option maxRecDepth 100000 in
set_option maxHeartbeats 4000000 in
theorem namedC_c (C:RC) (du ru:Value) (q:List TokI) (w:World) (h:Rd C du ru q w) :
  Calls Tryz.prog 120 #[.pointer (some ⟨C.R,0,none⟩),.func (.func 121) #[.pointer (some ⟨C.R,0,none⟩)] #[]] w (NamedC C du ru (colsQ q) w):=by
 have hltR:=h.lt
 have HB0:Hid (∀ (W:World) (x:Obj),Below W.heap.size W (W.alloc x)):=hid fun W x=>(Below.refl _ _).alloc (Nat.le_refl _) _
 have HN:=hid (name_c C du ru q w h)
 have HG:=hid (good_hd h.goodq)
 clear h
 cases hp:nameP q with
 | error z=>
  have Hq:Hid (colsQ q=.error (z.1,z.2)):=hid (by unfold colsQ;rw[hp])
  have Hp:=hid hp
  clear hp
  go_enter Tryz.func120,Tryz.ntmps120
  go_wp2_with fail
  refine HN.out.mono ?_
  rintro e w1 ⟨hm,g1⟩
  rw[Hp.out] at hm
  obtain rfl:=hm
  have G1:=hid g1
  clear g1
  go_wp2
  go_ret3
  exact NamedC.bad Hq.out G1.out
 | ok y=>
  obtain⟨s,p⟩:=y
  have Hs:=hid (name_size hp HG.out)
  have Hp:=hid hp
  have Hq0:Hid (colsQ q=match mustP 4 [40] () p with | .error e=>.error e | .ok (_,q)=>match columnsP [] q with | .error e=>.error e | .ok (ats,q)=>mustP 4 [41] (s,ats) q):=hid (by unfold colsQ;rw[hp])
  clear hp
  go_enter Tryz.func120,Tryz.ntmps120
  go_wp2_with fail
  refine HN.out.mono ?_
  rintro e w1 ⟨hm,g1⟩
  rw[Hp.out] at hm
  obtain⟨rfl,r1⟩:=hm
  obtain⟨W2,hW2⟩:∃ W2,w1.alloc (.cells #[.string ⟨#[40]⟩] 9)=W2:=⟨_,rfl⟩
  have hb2:Below w1.heap.size w1 W2:=by rw[← hW2];exact HB0.out w1 _
  have hr2:Row w1.heap.size 9 [.string ⟨#[40]⟩] W2:=by rw[← hW2];exact Row.new w1 _ _
  have HS2:=hid (sign1_c C du ru p ⟨#[40]⟩ w1.heap.size W2 (r1.below hb2) (hr2.at 0 _ rfl))
  have G2:=hid (g1.trans (Gr.of_below hb2))
  have HW2:=hid hW2
  clear r1 g1 hb2 hr2 hW2
  cases hn:nextB 4 [40] p with
  | false=>
   have Hn:=hid (show signsP [[40]] p=.error (40,lineL p) by simp[signsP,hn])
   have Hq:Hid (colsQ q=.error (40,lineL p)):=hid (by rw[Hq0.out,must_f hn])
   clear hn
   go_wp2_with fail
   rw[HW2.out]
   refine HS2.out.mono ?_
   rintro e w3 ⟨hse,_,g3⟩
   rw[Hn.out] at hse
   have hse:e=.returned (flawV 40 (lineL p)):=hse
   subst hse
   have G3:=hid (G2.out.trans g3)
   clear g3
   go_wp2
   go_ret3
   exact NamedC.bad Hq.out G3.out
  | true=>
   have Hn:=hid (show signsP [[40]] p=.ok p.tail by simp[signsP,hn])
   have Hq1:Hid (colsQ q=match columnsP [] p.tail with | .error e=>.error e | .ok (ats,q)=>mustP 4 [41] (s,ats) q):=hid (by rw[Hq0.out,must_t hn])
   clear hn
   go_wp2_with fail
   rw[HW2.out]
   refine HS2.out.mono ?_
   rintro e w3 ⟨hse,hrd,g3⟩
   rw[Hn.out] at hse hrd
   have hse:e=.returned .nilIface:=hse
   subst hse
   have R3:=hid (hrd _ rfl)
   have G3:=hid (G2.out.trans g3)
   clear hrd g3
   go_wp2_with fail
   refine (callsIn_wide.1 (listC_in C du ru p.tail w3 R3.out)).mono ?_
   rintro e w4 ⟨hm,g4⟩
   have G4:=hid (G3.out.trans g4)
   cases hl:columnsP [] p.tail with
   | error z=>
    rw[hl] at hm
    obtain rfl:=hm
    have Hq:Hid (colsQ q=.error (z.1,z.2)):=hid (by rw[Hq1.out,hl])
    clear hl g4
    go_wp2
    go_ret3
    exact NamedC.bad Hq.out G4.out
   | ok y=>
    obtain⟨ats,p2⟩:=y
    rw[hl] at hm
    obtain⟨v,rfl,hv,r4⟩:=hm
    have Hq2:Hid (colsQ q=mustP 4 [41] (s,ats) p2):=hid (by rw[Hq1.out,hl])
    obtain⟨W5,hW5⟩:∃ W5,w4.alloc (.cells #[.string ⟨#[41]⟩] 9)=W5:=⟨_,rfl⟩
    have hb5:Below w4.heap.size w4 W5:=by rw[← hW5];exact HB0.out w4 _
    have hr5:Row w4.heap.size 9 [.string ⟨#[41]⟩] W5:=by rw[← hW5];exact Row.new w4 _ _
    have HS5:=hid (sign1_c C du ru p2 ⟨#[41]⟩ w4.heap.size W5 (r4.below hb5) (hr5.at 0 _ rfl))
    have G5:=hid (G4.out.trans (Gr.of_below hb5))
    have HW5:=hid hW5
    have Hv:=hid (show CoS (past w3.heap.size w4) w4.heap.size ats v from hv)
    have Hb5:=hid (Gr.of_below (R:=C.R) hb5)
    have hs3:=G3.out.size
    have hs34:=g4.size
    have hs5:=hb5.size
    clear hl g4 r4 hb5 hr5 hW5 hv
    cases hn:nextB 4 [41] p2 with
    | false=>
     have Hn:=hid (show signsP [[41]] p2=.error (40,lineL p2) by simp[signsP,hn])
     have Hq:Hid (colsQ q=.error (40,lineL p2)):=hid (by rw[Hq2.out,must_f hn])
     clear hn
     go_wp2_with fail
     rw[HW5.out]
     refine HS5.out.mono ?_
     rintro e w6 ⟨hse,_,g6⟩
     rw[Hn.out] at hse
     have hse:e=.returned (flawV 40 (lineL p2)):=hse
     subst hse
     have G6:=hid (G5.out.trans g6)
     clear g6
     go_wp2
     go_ret3
     exact NamedC.bad Hq.out G6.out
    | true=>
     have Hn:=hid (show signsP [[41]] p2=.ok p2.tail by simp[signsP,hn])
     have Hq:Hid (colsQ q=.ok ((s,ats),p2.tail)):=hid (by rw[Hq2.out,must_t hn])
     clear hn
     go_wp2_with fail
     rw[HW5.out]
     refine HS5.out.mono ?_
     rintro e w6 ⟨hse,hrd,g6⟩
     rw[Hn.out] at hse hrd
     have hse:e=.returned .nilIface:=hse
     subst hse
     have R6:=hid (hrd _ rfl)
     have G6:=hid (G5.out.trans g6)
     have Hv6:Hid (CoS (past w.heap.size w6) w6.heap.size ats v):=hid (cos_late Hv.out (Hb5.out.trans g6) (by omega) (by omega))
     clear hrd g6
     go_wp2
     go_ret3
     exact NamedC.good Hq.out Hs.out Hv6.out R6.out G6.out
end Go.Proofs.YtdgbajnhhhjbcaaGreatDoor
namespace Go.Proofs.YtdgbajnhhhjbcaaGreatDoor
open Lib(hid)
open Go.RowKit
def ixF {α:Type} (p:α→Bool):Nat→List α→Int
 | _,[] => -1
 | k,x::l=>if p x=true then (k:Int) else ixF p (k+1) l
theorem ixF_any {α:Type} (p:α→Bool):∀ (l:List α) (k:Nat),decide (0≤ixF p k l)=l.any p
 | [],k=>by simp[ixF]
 | x::l,k=>by
  unfold ixF
  cases h:p x with
  | true=>simp[h]
  | false=>rw[if_neg (by decide),ixF_any p l (k+1)];simp[h]
theorem ixF_drop {α:Type} {p:α→Bool} {l:List α} {k:Nat} {x:α} (h:l[k]?=some x):ixF p k (l.drop k)=if p x=true then (k:Int) else ixF p (k+1) (l.drop (k+1)):=by
 have h1:l.drop k=x::l.drop (k+1):=by rw[List.drop_eq_getElem_cons (List.getElem?_eq_some_iff.1 h).1,(List.getElem?_eq_some_iff.1 h).2]
 rw[h1]
 rfl
def noneB (t:Tm):Bool:=!(t.op == 1) && !(t.op == 2) && !(t.op == 3)
def varB (t:Tm):Bool:=t.op == 1
set_option maxRecDepth 100000 in
set_option maxHeartbeats 4000000 in
theorem isNone_c (t:Tm) (o:Option Addr) (cap:Nat) (w:World):Calls Tryz.prog 126 #[.agg #[.int .i64 t.op,.string t.s,.int .i64 t.n,.slice o t.l.length cap]] w fun e w'=>e=.returned (.bool (noneB t))∧Below w.heap.size w w':=by
 have HB0:Hid (∀ (x:Obj),Below w.heap.size w (w.alloc x)):=hid fun x=>(Below.refl _ _).alloc (Nat.le_refl _) _
 by_cases h1:t.op=1
 ·have Hr:Hid (noneB t=false):=hid (by unfold noneB;rw[h1];rfl)
  have e1:(t.op != 1)=false:=by simp[h1]
  clear h1
  go_enter Tryz.func126,Tryz.ntmps126
  go_wp2
  go_ret
  exact⟨by rw[Hr.out];rfl,HB0.out _⟩
 by_cases h2:t.op=2
 ·have Hr:Hid (noneB t=false):=hid (by unfold noneB;rw[h2];rfl)
  have e1:(t.op != 1)=true:=by simpa using h1
  have e2:(t.op != 2)=false:=by simp[h2]
  clear h1 h2
  go_enter Tryz.func126,Tryz.ntmps126
  go_wp2
  go_ret
  exact⟨by rw[Hr.out];rfl,HB0.out _⟩
 ·obtain⟨b,hb⟩:∃ b,(t.op != 3)=b:=⟨_,rfl⟩
  have Hr:Hid (noneB t=b):=hid (by rw[← hb];unfold noneB;rw[show (t.op == 1)=false by simpa using h1,show (t.op == 2)=false by simpa using h2];rfl)
  have e1:(t.op != 1)=true:=by simpa using h1
  have e2:(t.op != 2)=true:=by simpa using h2
  clear h1 h2
  go_enter Tryz.func126,Tryz.ntmps126
  go_wp2
  go_ret
  exact⟨by rw[Hr.out];rfl,HB0.out _⟩
set_option maxRecDepth 100000 in
set_option maxHeartbeats 4000000 in
theorem isVar_c (t:Tm) (o:Option Addr) (cap:Nat) (w:World):Calls Tryz.prog 132 #[.agg #[.int .i64 t.op,.string t.s,.int .i64 t.n,.slice o t.l.length cap]] w fun e w'=>e=.returned (.bool (varB t))∧Below w.heap.size w w':=by
 have HB0:Hid (∀ (x:Obj),Below w.heap.size w (w.alloc x)):=hid fun x=>(Below.refl _ _).alloc (Nat.le_refl _) _
 go_enter Tryz.func132,Tryz.ntmps132
 go_wp2
 go_ret
 exact⟨rfl,HB0.out _⟩
def Asks (F:Nat) (p:Tm→Bool):Prop:=∀ (t:Tm) (o:Option Addr) (cap:Nat) (w:World),Calls Tryz.prog F #[.agg #[.int .i64 t.op,.string t.s,.int .i64 t.n,.slice o t.l.length cap]] w fun e w'=>e=.returned (.bool (p t))∧Below w.heap.size w w'
set_option maxRecDepth 100000 in
set_option maxHeartbeats 4000000 in
theorem indexT_c (F:Nat) (p:Tm→Bool) (hF:Asks F p) (hent:∀ args w,(callFunc F args).run Tryz.prog w=.ok (.enter F args) w) (l:List Tm) (v:Value) (w:World) (hl:TmS w w.heap.size l v) (_:l.length≤1000000) :
  Calls Tryz.prog 160 #[v,.func (.func F) #[] #[]] w fun e w'=>e=.returned (.int .i64 (ixF p 0 l))∧Below w.heap.size w w':=by
 obtain⟨o,cap,rfl,hcap,hcm,S⟩:=SlOf.open hl
 have HB0:Hid (Below w.heap.size w w):=hid (Below.refl _ _)
 have HF:=hid hF
 clear hl hF
 go_enter Tryz.func160,Tryz.ntmps160
 go_wp2
 go_loopw [8] (fun i wr=>∃ k:Nat,k≤l.length∧i=.int .i64 (k:Int)∧ixF p 0 l=ixF p k (l.drop k)∧Below w.heap.size w wr) (fun i _=>l.length - (intOf i).toNat)
 case atStart=>exact⟨0,Nat.zero_le _,rfl,rfl,HB0.out⟩
 case round=>
  obtain⟨k,hk,rfl,hix,hB⟩:=hrel
  have hBs:=hB.size
  by_cases hlt:k < l.length
  ·have hlt':(k:Int) < (l.length:Int):=by omega
   obtain⟨u,hu⟩:∃ u,l[k]?=some u:=⟨l[k],List.getElem?_eq_getElem hlt⟩
   obtain⟨b,p2,q2,rfl,hb,Hc,c0,c1,c2,c3⟩:=tm_at S hB hu
   have hbl:(b.add (k * 4)).block < wr.heap.size:=by rw[addBlock];omega
   have Hix:=hid (hix.trans (ixF_drop hu))
   clear hu hix Hc
   go_wp2_with fail
   refine (HF.out u p2 q2 wr).mono ?_
   rintro e w2 ⟨rfl,b2⟩
   have HB2:=hid (hB.trans (b2.mono hBs))
   clear b2
   cases hp:p u with
   | true=>
    have Hr:Hid (ixF p 0 l=(k:Int)):=hid (by rw[Hix.out,if_pos hp])
    clear hp
    go_wp2
    go_ret
    exact⟨by rw[Hr.out];rfl,HB2.out⟩
   | false=>
    have Hr:Hid (ixF p 0 l=ixF p (k+1) (l.drop (k+1))):=hid (by rw[Hix.out,if_neg (by rw[hp];decide)])
    clear hp
    go_wp2
    go_roundw
    case rel=>exact⟨k+1,by omega,by go_num,Hr.out,HB2.out⟩
    case measure=>simp[intOf];omega
  ·have hlt':¬ (k:Int) < (l.length:Int):=by omega
   have Hr:Hid (ixF p 0 l = -1):=hid (by rw[hix,List.drop_of_length_le (by omega)];rfl)
   clear hix
   go_wp2
   go_ret
   exact⟨by rw[Hr.out];rfl,hB⟩
set_option maxRecDepth 100000 in
set_option maxHeartbeats 4000000 in
theorem containsT_c (F:Nat) (p:Tm→Bool) (hF:Asks F p) (hent:∀ args w,(callFunc F args).run Tryz.prog w=.ok (.enter F args) w) (l:List Tm) (v:Value) (w:World) (hl:TmS w w.heap.size l v) (hlen:l.length≤1000000) :
  Calls Tryz.prog 125 #[v,.func (.func F) #[] #[]] w fun e w'=>e=.returned (.bool (l.any p))∧Below w.heap.size w w':=by
 have HH:=hid (indexT_c F p hF hent l v w hl hlen)
 have Hr:=hid (ixF_any p l 0)
 clear hF hl hent
 go_enter Tryz.func125,Tryz.ntmps125
 go_wp2_with fail
 refine HH.out.mono ?_
 rintro e w2 ⟨rfl,b2⟩
 have HB2:=hid b2
 clear b2
 go_wp2
 go_ret
 exact⟨by rw[← Hr.out];rfl,HB2.out⟩
end Go.Proofs.YtdgbajnhhhjbcaaGreatDoor
namespace Go.Proofs.YtdgbajnhhhjbcaaGreatDoor
open Lib(hid)
open Go.RowKit
theorem Vis.am {w w':World} {B B':Nat} {x:Am} {cs:List Value} (h:AmC w B x cs) (k:Vis w w') (hB:B≤B'):AmC w' B' x cs:=by
 obtain⟨v,h1,h2,h3⟩:=h
 have h4:TmS w' B x.l v:=SlOf.vis h3 k fun x _ cs hx=>TmC.vis hx k
 exact⟨v,h1,h2,h4.more hB⟩
theorem Vis.ru {w w':World} {B B':Nat} {x:Ru} {cs:List Value} (h:RuC w B x cs) (k:Vis w w') (hB:B≤B'):RuC w' B' x cs:=by
 obtain⟨ca,v,h1,h2,h3,h4⟩:=h
 exact⟨ca,v,h1,h2,Vis.am h3 k hB,SlOf.more (SlOf.vis h4 k fun x _ cs hx=>Vis.lt hx k (Nat.le_refl _)) hB fun _ _ _ h=>Vis.lt h (fun _ _ h=>h) hB⟩
theorem Vis.de {w w':World} {B B':Nat} {x:De} {cs:List Value} (h:DeC w B x cs) (k:Vis w w') (hB:B≤B'):DeC w' B' x cs:=by
 obtain⟨v,u,h1,h2,h3,h4,h5⟩:=h
 exact⟨v,u,h1,h2,h3,SlOf.more (SlOf.vis h4 k fun _ _ _ h=>h) hB fun _ _ _ h=>h,SlOf.more (SlOf.vis h5 k fun _ _ _ h=>h) hB fun _ _ _ h=>h⟩
theorem Vis.id (w:World):Vis w w:=fun _ _ h=>h
def hide2 (v u:Value) (w:World):World:=hideV v (hideV u w)
theorem hide2_cell {v u:Value} {w:World} {p:Addr} {c:Value}:(hide2 v u w).cell? p=some c ↔ some p.block≠v.ownBlock∧some p.block≠u.ownBlock∧w.cell? p=some c:=by
 unfold hide2
 rw[hideV_cell,hideV_cell]
theorem vis2 {L L':Nat} {v u v' u':Value} {w w':World} (h:∀ k,L≤k→some k≠v.ownBlock→some k≠u.ownBlock→k < w.heap.size→L'≤k∧some k≠v'.ownBlock∧some k≠u'.ownBlock∧w'.heap[k]?=w.heap[k]?):Vis (past L (hide2 v u w)) (past L' (hide2 v' u' w')):=fun p c hc=>by
 obtain⟨h1,h2⟩:=past_cell.1 hc
 obtain⟨h3,h4,h5⟩:=hide2_cell.1 h2
 obtain⟨h6,h7,h8,h9⟩:=h p.block h1 h3 h4 (cell_lt h5)
 exact past_cell.2 ⟨h6,hide2_cell.2 ⟨h7,h8,(World.cell?_of_block h9).trans h5⟩⟩
theorem vis2_out (L:Nat) (v u:Value) (w:World):Vis (past L (hide2 v u w)) w:=fun _ _ hc=>(hide2_cell.1 (past_cell.1 hc).2).2.2
theorem vis2_in {L0 L:Nat} {v u:Value} {w w':World} (hL:L≤L0) (h:∀ k,L0≤k→k < w.heap.size→some k≠v.ownBlock∧some k≠u.ownBlock∧w'.heap[k]?=w.heap[k]?):Vis (past L0 w) (past L (hide2 v u w')):=fun p c hc=>by
 obtain⟨h1,h2⟩:=past_cell.1 hc
 obtain⟨h3,h4,h5⟩:=h p.block h1 (cell_lt h2)
 exact past_cell.2 ⟨by omega,hide2_cell.2 ⟨h3,h4,(World.cell?_of_block h5).trans h2⟩⟩
structure PgI (C:RC) (B:Nat) (p:Pg) (du ru:Value) (q:List TokI) (W:World):Prop where
 rd:Rd C du ru q W
 RB:C.R < B
 BW:B≤W.heap.size
 d:∃ xs,W.ownsRow B 34 6 du p.decls.length xs∧Laid 6 (DeC (past B (hide2 du ru W)) W.heap.size) p.decls xs
 r:∃ xs,W.ownsRow B 41 4 ru p.rules.length xs∧Laid 4 (RuC (past B (hide2 du ru W)) W.heap.size) p.rules xs
 ne:∀ g,du.ownBlock=some g→ru.ownBlock≠some g
section
variable {C:RC} {B:Nat} {p:Pg} {du ru:Value} {q q':List TokI} {W W':World}
theorem PgI.ownD (h:PgI C B p du ru q W):∀ g,du.ownBlock=some g→B≤g∧g < W.heap.size:=by
 obtain⟨xs,h1,_⟩:=h.d
 exact ownsRow_lt h1
theorem PgI.ownR (h:PgI C B p du ru q W):∀ g,ru.ownBlock=some g→B≤g∧g < W.heap.size:=by
 obtain⟨xs,h1,_⟩:=h.r
 exact ownsRow_lt h1
theorem PgI.gr (h:PgI C B p du ru q W) (g:Gr C.R W W') (r:Rd C du ru q' W'):PgI C B p du ru q' W':=by
 obtain⟨xs,h1,h2⟩:=h.d
 obtain⟨ys,h3,h4⟩:=h.r
 have hRB:=h.RB
 have hk:∀ k,k < W.heap.size→k≠C.R→W'.heap[k]?=W.heap[k]?:=fun k h5 h6=>g.block k h5 (fun e=>h6 (Option.some.inj e))
 have hv:Vis (past B (hide2 du ru W)) (past B (hide2 du ru W')):=vis2 fun k h5 h6 h7 h8=>⟨h5,h6,h7,hk k h8 (by omega)⟩
 have no:∀ {v:Value},(∀ g,v.ownBlock=some g→B≤g∧g < W.heap.size)→v.ownBlock=none∨v.ownBlock≠some C.R:=fun {v} hlt=>by
  by_cases hn:v.ownBlock=none
  ·exact .inl hn
  ·right
   intro e
   have:=(hlt _ e).1
   omega
 exact⟨r,hRB,Nat.le_trans h.BW g.size,⟨xs,h1.kept g (no h.ownD),h2.mono fun x cs hx=>Vis.de hx hv g.size⟩,⟨ys,h3.kept g (no h.ownR),h4.mono fun x cs hx=>Vis.ru hx hv g.size⟩,h.ne⟩
theorem PgI.below (h:PgI C B p du ru q W) (b:Below W.heap.size W W'):PgI C B p du ru q W':=h.gr (Gr.of_below b) (h.rd.below b)
theorem PgI.decls (h:PgI C B p du ru q W):SlOf W W.heap.size 6 (DeC W W.heap.size) p.decls du:=by
 obtain⟨xs,h1,h2⟩:=h.d
 have:=sl_own (L:=0) h1 (h2.mono fun x cs hx=>Vis.de hx (vis2_out B du ru W) (Nat.le_refl _)) (Nat.zero_le _)
 exact SlOf.vis this (Vis.past 0 W) fun _ _ _ h=>h
theorem PgI.rules (h:PgI C B p du ru q W):SlOf W W.heap.size 4 (RuC W W.heap.size) p.rules ru:=by
 obtain⟨xs,h1,h2⟩:=h.r
 have:=sl_own (L:=0) h1 (h2.mono fun x cs hx=>Vis.ru hx (vis2_out B du ru W) (Nat.le_refl _)) (Nat.zero_le _)
 exact SlOf.vis this (Vis.past 0 W) fun _ _ _ h=>h
theorem PgI.formD (h:PgI C B p du ru q W):∃ o cap,du=.slice o p.decls.length cap:=by
 obtain⟨xs,h1,_⟩:=h.d
 rcases h1.2 with ⟨rfl,h0⟩ | ⟨g,cv,cur,rfl,_⟩
 ·exact⟨none,0,by rw[h0]⟩
 ·exact⟨_,cv,rfl⟩
theorem PgI.formR (h:PgI C B p du ru q W):∃ o cap,ru=.slice o p.rules.length cap:=by
 obtain⟨xs,h1,_⟩:=h.r
 rcases h1.2 with ⟨rfl,h0⟩ | ⟨g,cv,cur,rfl,_⟩
 ·exact⟨none,0,by rw[h0]⟩
 ·exact⟨_,cv,rfl⟩
theorem PgI.row (h:PgI C B p du ru q W):W.cell? ⟨C.R,2,none⟩=some du∧W.cell? ⟨C.R,3,none⟩=some ru∧W.frozen? ⟨C.R,2,none⟩=false∧W.frozen? ⟨C.R,3,none⟩=false:=by
 obtain⟨i,_,_,hr⟩:=h.rd.row
 refine⟨?_,?_,?_,?_⟩ <;> simp[World.cell?,World.frozen?,hr]
theorem rd_setD (h:Rd C du ru q W) (v:Value):Rd C v ru q (W.setCell ⟨C.R,2,none⟩ v):=by
 obtain⟨i,h1,h2,hr⟩:=h.row
 exact⟨⟨i,h1,h2,row_set hr 2 v⟩,h.lie.below (grR_set W C.R 2 v),h.few,h.good,h.env.belowB h.vars (grR_set W C.R 2 v),h.vars⟩
theorem rd_setR (h:Rd C du ru q W) (v:Value):Rd C du v q (W.setCell ⟨C.R,3,none⟩ v):=by
 obtain⟨i,h1,h2,hr⟩:=h.row
 exact⟨⟨i,h1,h2,row_set hr 3 v⟩,h.lie.below (grR_set W C.R 3 v),h.few,h.good,h.env.belowB h.vars (grR_set W C.R 3 v),h.vars⟩
structure AddI (C:RC) (v:Value) (v':Value) (W V:World):Prop where
 os:V.os=W.os
 tape:V.tape=W.tape
 output:V.output=W.output
 size:W.heap.size≤V.heap.size
 block:∀ k,k < W.heap.size→some k≠v.ownBlock→k≠C.R→V.heap[k]?=W.heap[k]?
 at_:v'.ownBlock=v.ownBlock∨∀ g,v'.ownBlock=some g→W.heap.size≤g
theorem PgI.addD (h:PgI C B p du ru q W) {xs:List Value} (_:W.ownsRow B 34 6 du p.decls.length xs) (hl:Laid 6 (DeC (past B (hide2 du ru W)) W.heap.size) p.decls xs)
  {V:World} {dv:Value} (hA:AddI C du dv W V) (hr:Rd C dv ru q V) {d:De} {cs:List Value} (hz:cs.length=6) (hown:V.ownsRow B 34 6 dv (p.decls.length+1) (xs++cs))
  {L0:Nat} (hL:B≤L0) (hold:∀ g,du.ownBlock=some g∨ru.ownBlock=some g→g < L0) (hd:DeC (past L0 W) W.heap.size d cs):PgI C B ⟨p.decls++[d],p.rules⟩ dv ru q V:=by
 obtain⟨ys,h3,h4⟩:=h.r
 have hRB:=h.RB
 have hdv:∀ k,k < W.heap.size→some k≠du.ownBlock→some k≠dv.ownBlock:=fun k h1 h2 e=>by
  rcases hA.at_ with h | h
  ·exact h2 (e.trans h)
  ·have:=h k e.symm;omega
 have hv:Vis (past B (hide2 du ru W)) (past B (hide2 dv ru V)):=vis2 fun k h5 h6 h7 h8=>⟨h5,hdv k h8 h6,h7,hA.block k h8 h6 (by omega)⟩
 have hv2:Vis (past L0 W) (past B (hide2 dv ru V)):=vis2_in hL fun k h1 h2=>by
  have n1:some k≠du.ownBlock:=fun e=>by have:=hold k (.inl e.symm);omega
  exact⟨hdv k h2 n1,fun e=>by have:=hold k (.inr e.symm);omega,hA.block k h2 n1 (by omega)⟩
 have hru:V.ownsRow B 41 4 ru p.rules.length ys:=by
  refine⟨h3.1,?_⟩
  rcases h3.2 with h5 | ⟨g,cap,cur,h5,h6,h7,h8⟩
  ·exact .inl h5
  ·have ho:ru.ownBlock=some g:=by rw[h5];rfl
   have hg:=h.ownR g ho
   exact .inr ⟨g,cap,cur,h5,h6,(hA.block g hg.2 (fun e=>h.ne g e.symm ho) (by omega)).trans h7,h8⟩
 refine⟨hr,hRB,Nat.le_trans h.BW hA.size,⟨xs++cs,?_,?_⟩,⟨ys,hru,h4.mono fun x cs hx=>Vis.ru hx hv hA.size⟩,?_⟩
 ·rw[List.length_append]
  exact hown
 ·exact Laid.snoc (hl.mono fun x cs hx=>Vis.de hx hv hA.size) hz (Vis.de hd hv2 hA.size)
 ·intro g e e2
  rcases hA.at_ with h1 | h1
  ·exact h.ne g (h1 ▸ e) e2
  ·have:=h1 g e
   have:=(h.ownR g e2).2
   omega
theorem PgI.addR (h:PgI C B p du ru q W) {xs:List Value} (_:W.ownsRow B 41 4 ru p.rules.length xs) (hl:Laid 4 (RuC (past B (hide2 du ru W)) W.heap.size) p.rules xs)
  {V:World} {rv:Value} (hA:AddI C ru rv W V) (hr:Rd C du rv q V) {d:Ru} {cs:List Value} (hz:cs.length=4) (hown:V.ownsRow B 41 4 rv (p.rules.length+1) (xs++cs))
  {L0:Nat} (hL:B≤L0) (hold:∀ g,du.ownBlock=some g∨ru.ownBlock=some g→g < L0) (hd:RuC (past L0 W) W.heap.size d cs):PgI C B ⟨p.decls,p.rules++[d]⟩ du rv q V:=by
 obtain⟨ys,h3,h4⟩:=h.d
 have hRB:=h.RB
 have hdv:∀ k,k < W.heap.size→some k≠ru.ownBlock→some k≠rv.ownBlock:=fun k h1 h2 e=>by
  rcases hA.at_ with h | h
  ·exact h2 (e.trans h)
  ·have:=h k e.symm;omega
 have hv:Vis (past B (hide2 du ru W)) (past B (hide2 du rv V)):=vis2 fun k h5 h6 h7 h8=>⟨h5,h6,hdv k h8 h7,hA.block k h8 h7 (by omega)⟩
 have hv2:Vis (past L0 W) (past B (hide2 du rv V)):=vis2_in hL fun k h1 h2=>by
  have n1:some k≠ru.ownBlock:=fun e=>by have:=hold k (.inr e.symm);omega
  exact⟨fun e=>by have:=hold k (.inl e.symm);omega,hdv k h2 n1,hA.block k h2 n1 (by omega)⟩
 have hdu:V.ownsRow B 34 6 du p.decls.length ys:=by
  refine⟨h3.1,?_⟩
  rcases h3.2 with h5 | ⟨g,cap,cur,h5,h6,h7,h8⟩
  ·exact .inl h5
  ·have ho:du.ownBlock=some g:=by rw[h5];rfl
   have hg:=h.ownD g ho
   exact .inr ⟨g,cap,cur,h5,h6,(hA.block g hg.2 (fun e=>h.ne g ho e.symm) (by omega)).trans h7,h8⟩
 refine⟨hr,hRB,Nat.le_trans h.BW hA.size,⟨ys,hdu,h4.mono fun x cs hx=>Vis.de hx hv hA.size⟩,⟨xs++cs,?_,?_⟩,?_⟩
 ·rw[List.length_append]
  exact hown
 ·exact Laid.snoc (hl.mono fun x cs hx=>Vis.ru hx hv hA.size) hz (Vis.ru hd hv2 hA.size)
 ·intro g e e2
  rcases hA.at_ with h1 | h1
  ·exact h.ne g e (h1 ▸ e2)
  ·have:=h1 g e2
   have:=(h.ownD g e).2
   omega
end
def BR (R B:Nat) (w w':World):Prop:=w'.os=w.os∧w'.tape=w.tape∧w'.output=w.output∧w.heap.size≤w'.heap.size∧∀ i,i < B→i≠R→w'.heap[i]?=w.heap[i]?
theorem BR.trans {R B:Nat} {a b c:World} (h:BR R B a b) (k:BR R B b c):BR R B a c:=
 ⟨k.1.trans h.1,k.2.1.trans h.2.1,k.2.2.1.trans h.2.2.1,Nat.le_trans h.2.2.2.1 k.2.2.2.1,fun i h1 h2=>(k.2.2.2.2 i h1 h2).trans (h.2.2.2.2 i h1 h2)⟩
theorem below_R {R B:Nat} {w w':World} (h:Below w.heap.size w w') (hB:B≤w.heap.size):BR R B w w':=⟨h.os,h.tape,h.output,h.size,fun i h1 _=>h.block i (by omega)⟩
theorem Gr.R {R B:Nat} {w w':World} (h:Gr R w w') (hB:B≤w.heap.size):BR R B w w':=⟨h.os,h.tape,h.output,h.size,fun i h1 h2=>h.block i (by omega) (fun e=>h2 (Option.some.inj e))⟩
def ThR (C:RC) (B:Nat) (r:Res Pg) (w:World) (e:Ending) (w':World):Prop:=
 (match r with
  | .ok (p,q')=>e=.returned .nilIface∧∃ du ru,PgI C B p du ru q' w'
  | .error x=>e=.returned (flawV x.1 x.2))∧BR C.R B w w'∧KeepsOthers w w'
theorem ThR.bad {C:RC} {B:Nat} {r:Res Pg} {k n:Int} {w w':World} (hr:r=.error (k,n)) (b:BR C.R B w w') (ko:KeepsOthers w w'):ThR C B r w (.returned (flawV k n)) w':=by
 subst hr
 exact⟨rfl,b,ko⟩
theorem ThR.good {C:RC} {B:Nat} {r:Res Pg} {p:Pg} {du ru:Value} {q:List TokI} {w w':World} (hr:r=.ok (p,q)) (h:PgI C B p du ru q w') (b:BR C.R B w w') (ko:KeepsOthers w w'):ThR C B r w (.returned .nilIface) w':=by
 subst hr
 exact⟨⟨rfl,du,ru,h⟩,b,ko⟩
theorem add_decl {C:RC} {B:Nat} {p:Pg} {du ru:Value} {q:List TokI} {W:World} (h:PgI C B p du ru q W) {xs:List Value} (hx:W.ownsRow B 34 6 du p.decls.length xs) (hl:Laid 6 (DeC (past B (hide2 du ru W)) W.heap.size) p.decls xs)
  {L0:Nat} (_:C.R < L0) (hRB:C.R < B) (hL:B≤L0) (hold:∀ g,du.ownBlock=some g∨ru.ownBlock=some g→g < L0) {d:De} {cs:List Value} (hz:cs.length=6) (hd:DeC (past L0 W) W.heap.size d cs)
  {o:Obj} {g cp:Nat} {w':World} (hown:w'.ownsRow B 34 6 (.slice (some ⟨g,0,none⟩) (p.decls.length+1) cp) (p.decls.length+1) (xs++cs)) (hgrow:((W.drew).alloc o).grownBy w' du.ownBlock) (hat:du.ownBlock=some g∨g=((W.drew).alloc o).heap.size) :
  w'.cell? ⟨C.R,2,none⟩=some du∧w'.frozen? ⟨C.R,2,none⟩=false∧C.R < w'.heap.size ∧
   PgI C B ⟨p.decls++[d],p.rules⟩ (.slice (some ⟨g,0,none⟩) (p.decls.length+1) cp) ru q (w'.setCell ⟨C.R,2,none⟩ (.slice (some ⟨g,0,none⟩) (p.decls.length+1) cp))∧BR C.R B W (w'.setCell ⟨C.R,2,none⟩ (.slice (some ⟨g,0,none⟩) (p.decls.length+1) cp))∧KeepsOthers W (w'.setCell ⟨C.R,2,none⟩ (.slice (some ⟨g,0,none⟩) (p.decls.length+1) cp)):=by
 have hlR:=h.rd.lt
 have lr:=ownsRow_lt hx
 have hal:((W.drew).alloc o).heap.size=W.heap.size+1:=by rw[World.size_alloc];rfl
 have hs:=hgrow.size
 have b3:∀ k,k < W.heap.size→some k≠du.ownBlock→w'.heap[k]?=W.heap[k]?:=fun k h1 h2=>(hgrow.block k (by omega) h2).trans (Below.heap_alloc _ _ _ (show k < W.drew.heap.size from h1))
 have hRr:some C.R≠du.ownBlock:=fun e=>by have:=(lr _ e.symm).1;omega
 obtain⟨i,q1,q2,hr⟩:=h.rd.row
 have hr':w'.heap[C.R]?=some (.cells #[C.v,.int .i64 (i:Int),du,ru] 73 (0,0)):=(b3 _ hlR hRr).trans hr
 have hbR:Below C.R W w':=⟨hgrow.os,hgrow.tape,hgrow.output,by omega,fun k hk=>b3 k (by omega) (fun e=>by have:=(lr _ e.symm).1;omega)⟩
 have hrd:Rd C du ru q w':=⟨⟨i,q1,q2,hr'⟩,h.rd.lie.below hbR,h.rd.few,h.rd.good,h.rd.env.belowB h.rd.vars hbR,h.rd.vars⟩
 have ko:KeepsOthers W w':=((KeepsOthers.refl W |>.trans (⟨Nat.le_refl _,fun _ _ h _=>h⟩:KeepsOthers W W.drew)).trans (KeepsOthers.alloc W.drew o)).trans (keeps_own (W:=(W.drew).alloc o) (v:=du) ((hx.drew).alloc o) hgrow)
 refine⟨by simp[World.cell?,hr'],by simp[World.frozen?,hr'],by omega,?_,?_,ko.trans (KeepsOthers.setCell _ _ _)⟩
 ·refine h.addD hx hl (V:=w'.setCell ⟨C.R,2,none⟩ (.slice (some ⟨g,0,none⟩) (p.decls.length+1) cp)) ⟨hgrow.os,hgrow.tape,hgrow.output,by simp[World.setCell];omega,fun k h1 h2 h3=>(Below.heap_setCell _ ⟨C.R,2,none⟩ _ k h3).trans (b3 k h1 h2),?_⟩ (rd_setD hrd _) hz ?_ hL hold hd
  ·rcases hat with h1 | h1
   ·exact .inl h1.symm
   ·right
    intro j hj
    have hj:g=j:=Option.some.inj hj
    omega
  ·refine own_set hown ?_ _
   intro e
   have e:g=C.R:=Option.some.inj e
   have:=(ownsRow_lt hown g rfl).1
   omega
 ·exact⟨hgrow.os,hgrow.tape,hgrow.output,by simp[World.setCell];omega,fun k h1 h2=>(Below.heap_setCell _ ⟨C.R,2,none⟩ _ k h2).trans (b3 k (by have:=h.BW;omega) (fun e=>by have:=(lr _ e.symm).1;omega))⟩
end Go.Proofs.YtdgbajnhhhjbcaaGreatDoor
namespace Go.Proofs.YtdgbajnhhhjbcaaGreatDoor
open Lib(hid)
open Go.RowKit
theorem infoStr:(Tryz.prog.info? 9).map (fun i=>(i.zero,i.size,i.bytes))=some (some (.string ⟨#[]⟩),1,16):=by kernel_rfl
theorem infoInt:(Tryz.prog.info? 3).map (fun i=>(i.zero,i.size,i.bytes))=some (some (.int .i64 0),1,8):=by kernel_rfl
abbrev deZero:List Value:=[.string ⟨#[]⟩,.slice none 0 0,.slice none 0 0,.bool false,.bool false,.int .i64 0]
theorem infoDe:(Tryz.prog.info? 34).map (fun i=>(i.zero,i.size,i.bytes))=some (some (.agg deZero.toArray),6,80):=by kernel_rfl
theorem co_at {L B nb:Nat} {w wr:World} {l:List (ByteArray × Int)} {o:Option Addr} {k:Nat} {x:ByteArray × Int} (S:Hid (SlIn (past L w) B 2 (CoC (past L w) B) l o)) (g:Gr nb w wr) (hnb:nb < L) (hx:l[k]?=some x) :
  ∃ a,o=some a∧wr.cell? (a.add (k * 2))=some (.string x.1)∧wr.cell? ⟨(a.add (k * 2)).block,(a.add (k * 2)).off+1,none⟩=some (.int .i64 x.2)∧(a.add (k * 2)).block < wr.heap.size∧x.1.size≤maxLen∧I64 x.2:=by
 obtain⟨a,cs,rfl,ha,hz,⟨rfl,h1,h2⟩,hc⟩:=S.out k x hx
 obtain⟨c0,c1⟩:=((hc.vis (Vis.gr g hnb)).vis (Vis.past L wr)).n2
 exact⟨a,rfl,c0,c1,cell_lt c0,h1,h2⟩
structure NtI (nb b5:Nat) (s:ByteArray) (line:Int) (W5:World) (cols:List (ByteArray × Int)) (a t:Nat) (v1 v2:Value) (wr:World):Prop where
 row:Row nb 34 [.string s,v1,v2,.bool false,.bool false,.int .i64 line] wr
 n:wr.ownsRow b5 9 1 v1 a ((cols.take a).map fun x=>.string x.1)
 t:wr.ownsRow b5 3 1 v2 t ((cols.take t).map fun x=>.int .i64 x.2)
 ne:∀ g,v1.ownBlock=some g→v2.ownBlock≠some g
 g:Gr nb W5 wr
 b:nb < b5
 h5:W5.heap.size=b5
 k:KeepsOthers W5 wr
section
variable {nb b5:Nat} {s:ByteArray} {line:Int} {W5:World} {cols:List (ByteArray × Int)} {a t:Nat} {v1 v2:Value} {wr:World}
theorem NtI.alloc (h:NtI nb b5 s line W5 cols a t v1 v2 wr) (o:Obj):NtI nb b5 s line W5 cols a t v1 v2 (wr.alloc o):=
 ⟨h.row.al o,h.n.alloc o,h.t.alloc o,h.ne,h.g.alloc o,h.b,h.h5,h.k.trans (KeepsOthers.alloc _ _)⟩
theorem takeL_snoc {α:Type} {l:List α} {k:Nat} {x:α} (h:l[k]?=some x):l.take (k+1)=l.take k++[x]:=by
 obtain⟨h1,h2⟩:=List.getElem?_eq_some_iff.1 h
 rw[List.take_succ_eq_append_getElem h1,h2]
theorem NtI.bs (h:NtI nb b5 s line W5 cols a t v1 v2 wr):b5≤wr.heap.size:=by have:=h.h5;have:=h.g.size;omega
theorem own_ne {w w':World} {b1 b2:Nat} {e1 e2:TypeId} {z1 z2 n1 n2:Nat} {u1 u2:Value} {xs:List Value} (h:w.ownsRow b2 e2 z2 u2 n2 xs) (hgrow:w.grownBy w' u1.ownBlock) (hne:∀ g,u1.ownBlock=some g→u2.ownBlock≠some g):w'.ownsRow b2 e2 z2 u2 n2 xs:=by
 refine h.kept hgrow ?_
 by_cases hn:u2.ownBlock=none
 ·exact .inl hn
 ·right
  intro e
  cases h1:u1.ownBlock with
  | none=>rw[h1] at e;exact hn e
  | some j=>rw[h1] at e;exact hne j h1 e
theorem NtI.name (h:NtI nb b5 s line W5 cols a t v1 v2 wr) {x:ByteArray × Int} (hx:cols[a]?=some x) {g cp:Nat} {w':World} (hgrow:wr.grownBy w' v1.ownBlock)
  (hown:w'.ownsRow b5 9 1 (.slice (some ⟨g,0,none⟩) (a+1) cp) (a+1) (((cols.take a).map fun x=>.string x.1)++[.string x.1])) (hat:v1.ownBlock=some g∨g=wr.heap.size) :
  Row nb 34 [.string s,v1,v2,.bool false,.bool false,.int .i64 line] w'∧NtI nb b5 s line W5 cols (a+1) t (.slice (some ⟨g,0,none⟩) (a+1) cp) v2 (w'.setCell ⟨nb,1,none⟩ (.slice (some ⟨g,0,none⟩) (a+1) cp)):=by
 have hb:=h.b
 have h5:=h.h5
 have l1:=ownsRow_lt h.n
 have l2:=ownsRow_lt h.t
 have lg:=ownsRow_lt hown g rfl
 have hrow:Row nb 34 [.string s,v1,v2,.bool false,.bool false,.int .i64 line] w':=(hgrow.block nb h.row.lt (fun e=>by have:=(l1 _ e.symm).1;omega)).trans h.row
 refine⟨hrow,row_set hrow 1 _,?_,?_,?_,?_,hb,h5,?_⟩
 ·rw[takeL_snoc hx,List.map_append,List.map_cons,List.map_nil]
  exact own_set hown (by simp[Value.ownBlock];omega) _
 ·refine own_set (own_ne (b1:=0) (e1:=0) (z1:=0) (n1:=0) h.t hgrow h.ne) ?_ _
  intro e
  have:=(l2 nb e).1
  omega
 ·intro j hj e
  have hj:j=g:=(Option.some.inj hj).symm
  subst hj
  rcases hat with h1 | h1
  ·exact h.ne j h1 e
  ·have:=(l2 _ e).2;omega
 ·exact (h.g.grown hgrow fun j e=>by have:=(l1 j e).1;omega).trans (gr_set w' nb 1 _)
 ·exact (h.k.trans (keeps_own h.n hgrow)).trans (KeepsOthers.setCell _ _ _)
theorem NtI.typ (h:NtI nb b5 s line W5 cols a t v1 v2 wr) {x:ByteArray × Int} (hx:cols[t]?=some x) {g cp:Nat} {w':World} (hgrow:wr.grownBy w' v2.ownBlock)
  (hown:w'.ownsRow b5 3 1 (.slice (some ⟨g,0,none⟩) (t+1) cp) (t+1) (((cols.take t).map fun x=>.int .i64 x.2)++[.int .i64 x.2])) (hat:v2.ownBlock=some g∨g=wr.heap.size) :
  Row nb 34 [.string s,v1,v2,.bool false,.bool false,.int .i64 line] w'∧NtI nb b5 s line W5 cols a (t+1) v1 (.slice (some ⟨g,0,none⟩) (t+1) cp) (w'.setCell ⟨nb,2,none⟩ (.slice (some ⟨g,0,none⟩) (t+1) cp)):=by
 have hb:=h.b
 have h5:=h.h5
 have l1:=ownsRow_lt h.n
 have l2:=ownsRow_lt h.t
 have lg:=ownsRow_lt hown g rfl
 have hrow:Row nb 34 [.string s,v1,v2,.bool false,.bool false,.int .i64 line] w':=(hgrow.block nb h.row.lt (fun e=>by have:=(l2 _ e.symm).1;omega)).trans h.row
 have hne':∀ j,v2.ownBlock=some j→v1.ownBlock≠some j:=fun j h1 h2=>h.ne j h2 h1
 refine⟨hrow,row_set hrow 2 _,?_,?_,?_,?_,hb,h5,?_⟩
 ·refine own_set (own_ne (b1:=0) (e1:=0) (z1:=0) (n1:=0) h.n hgrow hne') ?_ _
  intro e
  have:=(l1 nb e).1
  omega
 ·rw[takeL_snoc hx,List.map_append,List.map_cons,List.map_nil]
  exact own_set hown (by simp[Value.ownBlock];omega) _
 ·intro j hj e
  have e:g=j:=Option.some.inj e
  subst e
  rcases hat with h1 | h1
  ·exact h.ne _ hj h1
  ·have:=(l1 _ hj).2;omega
 ·exact (h.g.grown hgrow fun j e=>by have:=(l2 j e).1;omega).trans (gr_set w' nb 2 _)
 ·exact (h.k.trans (keeps_own h.t hgrow)).trans (KeepsOthers.setCell _ _ _)
end
theorem own_form1 {w:World} {b:Nat} {e:TypeId} {z n:Nat} {v:Value} {xs:List Value} (h:w.ownsRow b e z v n xs):∃ o cap,v=.slice o n cap:=by
 rcases h.2 with ⟨rfl,h0⟩ | ⟨g,cv,cur,rfl,_⟩
 ·exact⟨none,0,by rw[h0]⟩
 ·exact⟨_,cv,rfl⟩
theorem laid_one {α β:Type} {P:β→List Value→Prop} {f:α→Value} {b:α→β} {l:List α} (h:∀ x ∈ l,P (b x) [f x]):Laid 1 P (l.map b) (l.map f):=by
 refine⟨by simp,fun i x hx=>?_⟩
 rw[List.getElem?_map,Option.map_eq_some_iff] at hx
 obtain⟨y,hy,rfl⟩:=hx
 refine⟨[f y],rfl,h y (List.mem_of_getElem? hy),fun j c hj=>?_⟩
 match j,hj with
 | 0,hj=>
  rw[Nat.mul_one,Nat.add_zero,List.getElem?_map,hy]
  simpa using hj
theorem NtI.laid {nb b5:Nat} {s:ByteArray} {line:Int} {W5:World} {cols:List (ByteArray × Int)} {v1 v2:Value} {wr:World} (h:NtI nb b5 s line W5 cols cols.length cols.length v1 v2 wr) {L0:Nat} (hL:L0≤b5) (hs:s.size≤maxLen) (hline:I64 line) (hc:∀ x ∈ cols,x.1.size≤maxLen∧I64 x.2) :
  DeC (past L0 wr) wr.heap.size ⟨s,cols.map (·.1),cols.map (·.2),false,false,line⟩ [.string s,v1,v2,.bool false,.bool false,.int .i64 line]:=by
 have hn:=h.n
 have ht:=h.t
 rw[List.take_length] at hn ht
 refine⟨v1,v2,rfl,hs,hline,?_,?_⟩
 ·exact sl_own (P:=StrC) (acc:=cols.map (·.1)) (by rw[List.length_map];exact hn) (laid_one fun x hx=>⟨rfl,(hc x hx).1⟩) hL
 ·exact sl_own (P:=IntC) (acc:=cols.map (·.2)) (by rw[List.length_map];exact ht) (laid_one fun x hx=>⟨rfl,(hc x hx).2⟩) hL
def relQ (p:Pg) (l:List TokI):Res Pg:=
 if p.decls.length=60 then .error (21,lineL l) else
  match declP (lineL l) l.tail with
  | .error e=>.error e
  | .ok (d,q)=>.ok (⟨p.decls++[d],p.rules⟩,q)
end Go.Proofs.YtdgbajnhhhjbcaaGreatDoor
