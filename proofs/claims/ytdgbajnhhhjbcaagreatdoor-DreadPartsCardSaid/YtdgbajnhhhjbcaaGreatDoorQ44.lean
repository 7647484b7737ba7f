/- Rm10@012 -/
import Derived.Test.YtdgbajnhhhjbcaaGreatDoorQ43
set_option linter.unusedSimpArgs false
set_option linter.unusedVariables false
namespace Go.Proofs.YtdgbajnhhhjbcaaGreatDoor
open Lib(hid)
open Go.RowKit
abbrev ruZero:List Value:=[.string ⟨#[]⟩,.slice none 0 0,.slice none 0 0,.int .i64 0]
theorem infoRu:(Tryz.prog.info? 41).map (fun i=>(i.zero,i.size,i.bytes))=some (some (.agg ruZero.toArray),4,72):=by kernel_rfl
def rulQ (p:Pg) (l:List TokI):Res Pg:=
 if p.rules.length=200 then .error (21,lineL l) else
  match ruleQ l with
  | .error e=>.error e
  | .ok (r,q)=>.ok (⟨p.decls,p.rules++[r]⟩,q)
theorem heads_not {a:Am}:headedB false a=!(a.l.any noneB):=by
 unfold headedB
 induction a.l with
 | nil=>rfl
 | cons t l ih=>
  rw[List.all_cons,List.any_cons,ih,Bool.not_or]
  congr 1
  unfold noneB
  cases (t.op == 1) <;> cases (t.op == 2) <;> cases (t.op == 3) <;> rfl
theorem heads_bare {a:Am} (h:a.l.any noneB=false) (b:Bool):headedB b a=!(b && a.l.any varB):=by
 cases b with
 | false=>rw[heads_not,h];rfl
 | true=>
  unfold headedB
  rw[Bool.true_and]
  revert h
  induction a.l with
  | nil=>intro _;rfl
  | cons t l ih=>
   intro h
   rw[List.any_cons,Bool.or_eq_false_iff] at h
   rw[List.all_cons,List.any_cons,ih h.2,Bool.not_or]
   congr 1
   have h1:=h.1
   unfold noneB at h1
   unfold varB
   revert h1
   cases (t.op == 1) <;> cases (t.op == 2) <;> cases (t.op == 3) <;> decide
theorem atom_len {l q:List TokI} {a:Am} (h:atomP l=.ok (a,q)):a.l.length≤8:=by
 have h9:∀ (n:Nat) (acc:List Tm) (l q:List TokI) (x:List Tm),l.length≤n→acc.length≤8→argsP acc l=.ok (x,q)→x.length≤8:=by
  intro n
  induction n with
  | zero=>
   intro acc l q x hl ha h
   have:l=[]:=List.eq_nil_of_length_eq_zero (by omega)
   subst this
   exact absurd (argsP_less _ _ _ _ _ (Nat.le_refl _) h) (Nat.not_lt_zero _)
  | succ n ih=>
   intro acc l q x hl ha h
   rw[argsP_eq] at h
   split at h
   ·cases h
   next h8=>
    cases hs:argP l with
    | error e=>rw[hs] at h;cases h
    | ok p=>
     rw[hs] at h
     have h:(if nextB 4 [44] p.2=true then argsP (acc++[p.1]) p.2.tail else .ok (acc++[p.1],p.2))=Except.ok (x,q):=h
     have h1:=argP_less hs
     split at h
     ·exact ih _ _ _ _ (by rw[List.length_tail];omega) (by rw[List.length_append,List.length_cons,List.length_nil];omega) h
     ·cases h
      rw[List.length_append,List.length_cons,List.length_nil];omega
 unfold atomP at h
 cases hn:nameP l with
 | error e=>rw[hn] at h;cases h
 | ok y=>
  rw[hn] at h
  simp only at h
  cases h2:mustP 4 [40] () y.2 with
  | error e=>rw[h2] at h;cases h
  | ok y2=>
   rw[h2] at h
   simp only at h
   cases h3:argsP [] y2.2 with
   | error e=>rw[h3] at h;cases h
   | ok y3=>
    rw[h3] at h
    obtain⟨_,e,_⟩:=mustP_ok h
    rw[e]
    exact h9 _ [] _ _ _ (Nat.le_refl _) (by simp) h3
theorem body_some {l q:List TokI} {x:List Lt} (h:bodyQ [] l=.ok (x,q)):x≠[]:=by
 have h9:∀ (n:Nat) (acc:List Lt) (l q:List TokI) (x:List Lt),l.length≤n→bodyQ acc l=.ok (x,q)→acc.length < x.length:=by
  intro n
  induction n with
  | zero=>
   intro acc l q x hl h
   have:l=[]:=List.eq_nil_of_length_eq_zero (by omega)
   subst this
   rw[bodyQ_eq] at h
   split at h
   ·cases h
   ·cases hs:partQ [] with
    | error e=>rw[hs] at h;cases h
    | ok p=>exact absurd (partQ_less hs) (Nat.not_lt_zero _)
  | succ n ih=>
   intro acc l q x hl h
   rw[bodyQ_eq] at h
   split at h
   ·cases h
   ·cases hs:partQ l with
    | error e=>rw[hs] at h;cases h
    | ok p=>
     rw[hs] at h
     have h:(if nextB 4 [44] p.2=true then bodyQ (acc++[p.1]) p.2.tail else .ok (acc++[p.1],p.2))=Except.ok (x,q):=h
     have h1:=partQ_less hs
     split at h
     ·have:=ih _ _ _ _ (by rw[List.length_tail];omega) h
      rw[List.length_append,List.length_cons,List.length_nil] at this
      omega
     ·cases h
      rw[List.length_append,List.length_cons,List.length_nil];omega
 have:=h9 _ [] l q x (Nat.le_refl _) h
 rintro rfl
 simp at this
theorem add_rule {C:RC} {B:Nat} {p:Pg} {du ru:Value} {q:List TokI} {W:World} (h:PgI C B p du ru q W) {xs:List Value} (hx:W.ownsRow B 41 4 ru p.rules.length xs) (hl:Laid 4 (RuC (past B (hide2 du ru W)) W.heap.size) p.rules xs)
  {L0:Nat} (_:C.R < L0) (hRB:C.R < B) (hL:B≤L0) (hold:∀ g,du.ownBlock=some g∨ru.ownBlock=some g→g < L0) {d:Ru} {cs:List Value} (hz:cs.length=4) (hd:RuC (past L0 W) W.heap.size d cs)
  {o:Obj} {g cp:Nat} {w':World} (hown:w'.ownsRow B 41 4 (.slice (some ⟨g,0,none⟩) (p.rules.length+1) cp) (p.rules.length+1) (xs++cs)) (hgrow:((W.drew).alloc o).grownBy w' ru.ownBlock) (hat:ru.ownBlock=some g∨g=((W.drew).alloc o).heap.size) :
  w'.cell? ⟨C.R,3,none⟩=some ru∧w'.frozen? ⟨C.R,3,none⟩=false∧C.R < w'.heap.size ∧
   PgI C B ⟨p.decls,p.rules++[d]⟩ du (.slice (some ⟨g,0,none⟩) (p.rules.length+1) cp) q (w'.setCell ⟨C.R,3,none⟩ (.slice (some ⟨g,0,none⟩) (p.rules.length+1) cp))∧BR C.R B W (w'.setCell ⟨C.R,3,none⟩ (.slice (some ⟨g,0,none⟩) (p.rules.length+1) cp))∧KeepsOthers W (w'.setCell ⟨C.R,3,none⟩ (.slice (some ⟨g,0,none⟩) (p.rules.length+1) cp)):=by
 have hlR:=h.rd.lt
 have lr:=ownsRow_lt hx
 have hal:((W.drew).alloc o).heap.size=W.heap.size+1:=by rw[World.size_alloc];rfl
 have hs:=hgrow.size
 have b3:∀ k,k < W.heap.size→some k≠ru.ownBlock→w'.heap[k]?=W.heap[k]?:=fun k h1 h2=>(hgrow.block k (by omega) h2).trans (Below.heap_alloc _ _ _ (show k < W.drew.heap.size from h1))
 have hRr:some C.R≠ru.ownBlock:=fun e=>by have:=(lr _ e.symm).1;omega
 obtain⟨i,q1,q2,hr⟩:=h.rd.row
 have hr':w'.heap[C.R]?=some (.cells #[C.v,.int .i64 (i:Int),du,ru] 73 (0,0)):=(b3 _ hlR hRr).trans hr
 have hbR:Below C.R W w':=⟨hgrow.os,hgrow.tape,hgrow.output,by omega,fun k hk=>b3 k (by omega) (fun e=>by have:=(lr _ e.symm).1;omega)⟩
 have hrd:Rd C du ru q w':=⟨⟨i,q1,q2,hr'⟩,h.rd.lie.below hbR,h.rd.few,h.rd.good,h.rd.env.belowB h.rd.vars hbR,h.rd.vars⟩
 have ko:KeepsOthers W w':=((KeepsOthers.refl W |>.trans (⟨Nat.le_refl _,fun _ _ h _=>h⟩:KeepsOthers W W.drew)).trans (KeepsOthers.alloc W.drew o)).trans (keeps_own (W:=(W.drew).alloc o) (v:=ru) ((hx.drew).alloc o) hgrow)
 refine⟨by simp[World.cell?,hr'],by simp[World.frozen?,hr'],by omega,?_,?_,ko.trans (KeepsOthers.setCell _ _ _)⟩
 ·refine h.addR hx hl (V:=w'.setCell ⟨C.R,3,none⟩ (.slice (some ⟨g,0,none⟩) (p.rules.length+1) cp)) ⟨hgrow.os,hgrow.tape,hgrow.output,by simp[World.setCell];omega,fun k h1 h2 h3=>(Below.heap_setCell _ ⟨C.R,3,none⟩ _ k h3).trans (b3 k h1 h2),?_⟩ (rd_setR hrd _) hz ?_ hL hold hd
  ·rcases hat with h1 | h1
   ·exact .inl h1.symm
   ·right
    intro j hj
    have hj:g=j:=Option.some.inj hj
    omega
  ·refine own_set hown ?_ _
   intro e
   have e:g=C.R:=Option.some.inj e
   have:=(ownsRow_lt hown g rfl).1
   omega
 ·exact⟨hgrow.os,hgrow.tape,hgrow.output,by simp[World.setCell];omega,fun k h1 h2=>(Below.heap_setCell _ ⟨C.R,3,none⟩ _ k h2).trans (b3 k (by have:=h.BW;omega) (fun e=>by have:=(lr _ e.symm).1;omega))⟩
theorem nilBody (w:World) (B:Nat) (P:Lt→List Value→Prop):SlOf w B 11 P [] (.slice none 0 0):=.inl ⟨rfl,rfl⟩
set_option maxRecDepth 100000 in
set_option maxHeartbeats 32000000 in
theorem rule_c (C:RC) (B:Nat) (p:Pg) (du ru:Value) (q:List TokI) (w:World) (h:PgI C B p du ru q w) (h200:p.rules.length≤200) :
  Calls Tryz.prog 84 #[.pointer (some ⟨C.R,0,none⟩)] w (ThR C B (rulQ p q) w):=by
 have hltR:=h.rd.lt
 have hRB:=h.RB
 obtain⟨orr,cr,hru⟩:=h.formR
 obtain⟨c2,c3,f2,f3⟩:=h.row
 subst hru
 have HG:=hid (good_hd h.rd.goodq)
 have HI:=hid h
 clear h c2 f2 f3
 by_cases h6:p.rules.length=200
 ·have h6':((p.rules.length:Int) == 200)=true:=by simp;omega
  have He:Hid (rulQ p q=.error (21,lineL q)):=hid (by unfold rulQ;rw[if_pos h6])
  clear h6
  go_enter Tryz.func84,Tryz.ntmps84
  go_wp2_with fail
  refine (fail_c C du _ q 21 w HI.out.rd).mono ?_
  rintro e w1 ⟨rfl,b1⟩
  have B1:=hid b1
  clear b1
  go_wp2
  go_ret
  exact ThR.bad He.out (below_R B1.out HI.out.BW) (keeps_below B1.out)
 ·have h6':((p.rules.length:Int) == 200)=false:=by simp;omega
  have He:Hid (rulQ p q=match ruleQ q with | .error e=>.error e | .ok (r,q)=>.ok (⟨p.decls,p.rules++[r]⟩,q)):=hid (by unfold rulQ;rw[if_neg h6])
  have H6:=hid h6
  clear h6
  go_enter Tryz.func84,Tryz.ntmps84
  go_wp2_with fail
  refine (here_c C du _ q w HI.out.rd).mono ?_
  rintro e w1 ⟨rfl,b1⟩
  obtain⟨T,hT⟩:∃ T,hdT q=T:=⟨_,rfl⟩
  rw[hT]
  have Hline:=hid (show I64 T.line by rw[← hT];exact HG.out.line)
  have Hlq:=hid (show T.line=lineL q by rw[← hT,line_hd])
  obtain⟨nb,hnb⟩:∃ nb,w1.heap.size=nb:=⟨_,rfl⟩
  obtain⟨W2,hW2⟩:∃ W2,w1.alloc (.cells #[.int .i64 T.kind,.string T.s,.int .i64 T.line] 89)=W2:=⟨_,rfl⟩
  have hb2:Below w1.heap.size w1 W2:=by rw[← hW2];exact (Below.refl _ _).alloc (Nat.le_refl _) _
  have hr2:Row nb 89 [.int .i64 T.kind,.string T.s,.int .i64 T.line] W2:=by rw[← hW2,← hnb];exact Row.new w1 _ _
  have I2:=hid ((HI.out.below b1).below hb2)
  have G2:=hid (Gr.of_below (R:=C.R) (b1.trans (hb2.mono b1.size)))
  have K2:=hid ((keeps_below b1).trans (keeps_below hb2))
  have Hr2:=hid hr2
  have HW2:=hid hW2
  have hwnb:w.heap.size≤nb:=by rw[← hnb];exact b1.size
  clear b1 hb2 hr2 hW2 hT
  go_wp2_with fail
  rw[HW2.out]
  refine (atom_c C du _ q W2 I2.out.rd).mono ?_
  rintro e w3 ⟨hm,g3⟩
  have Hr3:=hid (Hr2.out.gr g3 (by omega))
  have G3:=hid (G2.out.trans g3)
  have K3:=hid (K2.out.trans (I2.out.rd.keeps g3))
  cases hl:atomP q with
  | error z=>
   rw[hl] at hm
   obtain rfl:=hm
   have He2:Hid (rulQ p q=.error (z.1,z.2)):=hid (by rw[He.out];unfold ruleQ;rw[hl])
   have G3':Hid (∀ o:Obj,BR C.R B w (w3.alloc o)∧KeepsOthers w (w3.alloc o)):=hid fun o=>⟨(G3.out.alloc o).R HI.out.BW,K3.out.trans (KeepsOthers.alloc _ _)⟩
   clear hl g3
   go_wp2
   go_ret
   exact ThR.bad He2.out (G3'.out _).1 (G3'.out _).2
  | ok y=>
   obtain⟨a,q1⟩:=y
   rw[hl] at hm
   obtain⟨v,rfl,hs,hv,r3⟩:=hm
   have I3:=hid (I2.out.gr g3 r3)
   have Hal:=hid (atom_len hl)
   have He1:Hid (ruleQ q=if headedB false a=true then (if nextB 4 [58,45] q1=true then match bodyQ [] q1.tail with | .error e=>.error e | .ok (b,q')=>endP (lineL q) a b q' else endP (lineL q) a [] q1) else .error (40,lineL q)):=hid (by unfold ruleQ;rw[hl];rfl)
   obtain⟨oh,ch,rfl⟩:=tms_slice hv
   obtain⟨nh,hnh⟩:∃ nh,w3.heap.size=nh:=⟨_,rfl⟩
   obtain⟨W4,hW4⟩:∃ W4,w3.alloc (.cells #[.string a.rel,.slice oh a.l.length ch] 38)=W4:=⟨_,rfl⟩
   have hb4:Below w3.heap.size w3 W4:=by rw[← hW4];exact (Below.refl _ _).alloc (Nat.le_refl _) _
   have hrh4:Row nh 38 [.string a.rel,.slice oh a.l.length ch] W4:=by rw[← hW4,← hnh];exact Row.new w3 _ _
   have I4:=hid (I3.out.below hb4)
   have Hr4:=hid (Hr3.out.below hb4 Hr3.out.lt)
   have G4:=hid (G3.out.trans (Gr.of_below hb4))
   have K4:=hid (K3.out.trans (keeps_below hb4))
   have Hh4:=hid hrh4
   have hs2:nb < w3.heap.size:=Hr3.out.lt
   have hs12:=g3.size
   have hs2w:w.heap.size≤W2.heap.size:=by have:=Hr2.out.lt;omega
   have Hv4:Hid (TmS (past w.heap.size W4) W4.heap.size a.l (.slice oh a.l.length ch)):=hid (tms_late hv (Gr.of_below (R:=C.R) hb4) I2.out.rd.lt hs2w)
   have Hs:=hid hs
   have HW4:=hid hW4
   have x1:W4.cell? ⟨nh,1,none⟩=some (.slice oh a.l.length ch):=hrh4.at 1 _ rfl
   have hnh4:nh < W4.heap.size:=hrh4.lt
   clear hl g3 r3 hv hs hW4 hb4 hrh4
   go_wp2_with (first | (rw[HW4.out];done) | fail)
   (try rw[HW4.out])
   go_wp2_with fail
   refine (containsT_c 126 noneB isNone_c (enters_of Tryz.func126 (by kernel_rfl) rfl) a.l _ W4 (SlOf.vis Hv4.out (Vis.past _ _) fun x _ cs hx=>TmC.vis hx (Vis.past _ _)) (by have:=Hal.out;omega)).mono ?_
   rintro e w5 ⟨rfl,b5⟩
   have I5:=hid (I4.out.below b5)
   have Hr5:=hid (Hr4.out.below b5 Hr4.out.lt)
   have Hh5:=hid (Hh4.out.below b5 Hh4.out.lt)
   have G5:=hid (G4.out.trans (Gr.of_below b5))
   have K5:=hid (K4.out.trans (keeps_below b5))
   have Hv5:=hid (tms_late Hv4.out (Gr.of_below (R:=C.R) b5) hltR (Nat.le_refl _))
   clear b5 x1
   cases hno:a.l.any noneB with
   | true=>
    have He2:Hid (rulQ p q=.error (40,T.line)):=hid (by rw[He.out,He1.out,heads_not,hno,Hlq.out];rfl)
    have t0:=Hr5.out.at 0 _ rfl
    have t1:=Hr5.out.at 1 _ rfl
    have t2:=Hr5.out.at 2 _ rfl
    have hn5:=Hr5.out.lt
    clear hno
    go_wp2_with fail
    refine (faultAt_c T 40 w5).mono ?_
    rintro e w6 ⟨rfl,b6⟩
    have B6:=hid b6
    clear b6
    go_wp2
    go_ret
    exact ThR.bad He2.out ((G5.out.trans (Gr.of_below B6.out)).R HI.out.BW) (K5.out.trans (keeps_below B6.out))
   | false=>
    have He2:Hid (rulQ p q=match (if nextB 4 [58,45] q1=true then match bodyQ [] q1.tail with | .error e=>.error e | .ok (b,q)=>endP T.line a b q else endP T.line a [] q1) with | .error e=>.error e | .ok (r,q)=>.ok (⟨p.decls,p.rules++[r]⟩,q)):=hid (by rw[He.out,He1.out,heads_not,hno,Hlq.out];rfl)
    have Hno:=hid hno
    have HS:=hid (skip_c C du _ q1 ⟨#[58,45]⟩ w5 I5.out.rd)
    clear hno
    cases hb:nextB 4 [58,45] q1 with
    | true=>
     have Hb:=hid hb
     clear hb
     go_wp2_with fail
     refine HS.out.mono ?_
     rintro e w6 ⟨rfl,r6,g6⟩
     rw[show nextB 4 (⟨#[58,45]⟩:ByteArray).data.toList q1=true from Hb.out] at r6 ⊢
     rw[if_pos rfl] at r6
     have I6:=hid (I5.out.gr g6 r6)
     have Hr6:=hid (Hr5.out.gr g6 (by omega))
     have Hh6:=hid (Hh5.out.gr g6 (by omega))
     have G6:=hid (G5.out.trans g6)
     have K6:=hid (K5.out.trans (I5.out.rd.keeps g6))
     have Hv6:=hid (tms_late Hv5.out g6 hltR (Nat.le_refl _))
     have hs6:w.heap.size≤w6.heap.size:=G6.out.size
     clear r6 g6
     go_wp2_with fail
     refine (callsIn_wide.1 (listL_in C du _ q1.tail w6 I6.out.rd)).mono ?_
     rintro e w7 ⟨hm,g7⟩
     have Hr7:=hid (Hr6.out.gr g7 (by omega))
     have Hh7:=hid (Hh6.out.gr g7 (by omega))
     have G7:=hid (G6.out.trans g7)
     have K7:=hid (K6.out.trans (I6.out.rd.keeps g7))
     have Hv7:=hid (tms_late Hv6.out g7 hltR (Nat.le_refl _))
     cases hbd:bodyQ [] q1.tail with
     | error z=>
      rw[hbd] at hm
      obtain rfl:=hm
      have He3:Hid (rulQ p q=.error (z.1,z.2)):=hid (by rw[He2.out,if_pos Hb.out,hbd])
      clear hbd g7
      go_wp2
      go_ret
      exact ThR.bad He3.out (G7.out.R HI.out.BW) K7.out
     | ok y=>
      obtain⟨bs,q2⟩:=y
      rw[hbd] at hm
      obtain⟨bv,rfl,hbv,r7⟩:=hm
      have I7:=hid (I6.out.gr g7 r7)
      have He3:Hid (rulQ p q=match endP T.line a bs q2 with | .error e=>.error e | .ok (r,q)=>.ok (⟨p.decls,p.rules++[r]⟩,q)):=hid (by rw[He2.out,if_pos Hb.out,hbd])
      have hbv':SlOf (past w.heap.size w7) w7.heap.size 11 (LtC (past w.heap.size w7) w7.heap.size) bs bv:=SlOf.vis hbv (Vis.less hs6 w7) fun x _ cs hx=>Vis.lt hx (Vis.less hs6 w7) (Nat.le_refl _)
      obtain⟨ob,cb,hbe,_,_,_⟩:=SlOf.open hbv'
      subst hbe
      have Hbv:=hid hbv'
      have hbd':=hbd
      clear hbd g7 r7 hbv hbv'
      have hbsne:bs≠[]:=body_some hbd'
      obtain⟨W8,hW8⟩:∃ W8,w7.alloc (.cells #[.string ⟨#[46]⟩] 9)=W8:=⟨_,rfl⟩
      have hb8:Below w7.heap.size w7 W8:=by rw[← hW8];exact (Below.refl _ _).alloc (Nat.le_refl _) _
      have hr8:Row w7.heap.size 9 [.string ⟨#[46]⟩] W8:=by rw[← hW8];exact Row.new w7 _ _
      have HS8:=hid (sign1_c C du _ q2 ⟨#[46]⟩ w7.heap.size W8 (I7.out.rd.below hb8) (hr8.at 0 _ rfl))
      have I8:=hid (I7.out.below hb8)
      have Hr8:=hid (Hr7.out.below hb8 Hr7.out.lt)
      have Hh8:=hid (Hh7.out.below hb8 Hh7.out.lt)
      have G8:=hid (G7.out.trans (Gr.of_below hb8))
      have K8:=hid (K7.out.trans (keeps_below hb8))
      have Hv8:=hid (tms_late Hv7.out (Gr.of_below (R:=C.R) hb8) hltR (Nat.le_refl _))
      have Gb8:=hid (Gr.of_below (R:=C.R) hb8)
      have HW8:=hid hW8
      clear hW8 hb8 hr8
      cases hd:nextB 4 [46] q2 with
      | false=>
       have Hd:=hid (show signsP [[46]] q2=.error (40,lineL q2) by simp[signsP,hd])
       have He4:Hid (rulQ p q=.error (40,lineL q2)):=hid (by rw[He3.out];unfold endP;rw[must_f hd])
       clear hd
       go_wp2_with fail
       rw[HW8.out]
       refine HS8.out.mono ?_
       rintro e w9 ⟨hse,_,g9⟩
       rw[Hd.out] at hse
       have hse:e=.returned (flawV 40 (lineL q2)):=hse
       subst hse
       have G9:=hid (G8.out.trans g9)
       have K9:=hid (K8.out.trans (I8.out.rd.keeps g9))
       clear g9
       go_wp2
       go_ret
       exact ThR.bad He4.out (G9.out.R HI.out.BW) K9.out
      | true=>
       have Hd:=hid (show signsP [[46]] q2=.ok (q2).tail by simp[signsP,hd])
       have He4:Hid (rulQ p q=if headedB (bs).isEmpty a=true then .ok (⟨p.decls,p.rules++[⟨a,bs,T.line⟩]⟩,(q2).tail) else .error (40,T.line)):=hid (by rw[He3.out];unfold endP;rw[must_t hd];simp only;cases headedB (bs).isEmpty a <;> rfl)
       clear hd
       go_wp2_with fail
       rw[HW8.out]
       refine HS8.out.mono ?_
       rintro e w9 ⟨hse,hrd,g9⟩
       rw[Hd.out] at hse hrd
       have hse:e=.returned .nilIface:=hse
       subst hse
       have I9:=hid (I8.out.gr g9 (hrd _ rfl))
       have Hr9:=hid (Hr8.out.gr g9 (by omega))
       have Hh9:=hid (Hh8.out.gr g9 (by omega))
       have G9:=hid (G8.out.trans g9)
       have K9:=hid (K8.out.trans (I8.out.rd.keeps g9))
       have Hv9:=hid (tms_late Hv8.out g9 hltR (Nat.le_refl _))
       have Gb9:=hid (Gb8.out.trans g9)
       clear hrd g9
       have x1:w9.cell? ⟨nh,1,none⟩=some (.slice oh a.l.length ch):=Hh9.out.at 1 _ rfl
       have hnh9:nh < w9.heap.size:=Hh9.out.lt
       have hbody:SlOf (past w.heap.size w9) w9.heap.size 11 (LtC (past w.heap.size w9) w9.heap.size) bs (.slice ob bs.length cb):=SlOf.more (SlOf.vis Hbv.out (Vis.gr Gb9.out hltR) fun x _ cs hx=>Vis.lt hx (Vis.gr Gb9.out hltR) (Nat.le_refl _)) Gb9.out.size fun _ _ _ h=>Vis.lt h (Vis.id _) Gb9.out.size
       have hne0:(((bs).length:Int) == 0)=false:=by simpa using hbsne
       have He5:Hid (rulQ p q=.ok (⟨p.decls,p.rules++[⟨a,bs,T.line⟩]⟩,(q2).tail)):=hid (by rw[He4.out,heads_bare Hno.out,show (bs).isEmpty=false by cases hbs:bs with | nil=>exact absurd hbs hbsne | cons=>rfl];rfl)
       have Hbody:=hid hbody
       obtain⟨xs,hx,hlx⟩:=I9.out.r
       have y3:(w9.drew).cell? ⟨C.R,3,none⟩=some (.slice orr p.rules.length cr):=I9.out.row.2.1
       have y3a:∀ o:Obj,((w9.drew).alloc o).cell? ⟨C.R,3,none⟩=some (.slice orr p.rules.length cr):=fun o=>(World.cell?_alloc_lt _ o _ (show (⟨C.R,3,none⟩:Addr).block < (w9.drew).heap.size from I9.out.rd.lt)).trans y3
       have y3b:∀ o:Obj,(w9.alloc o).cell? ⟨C.R,3,none⟩=some (.slice orr p.rules.length cr):=y3a
       have z0:(w9.drew).cell? ⟨nh,0,none⟩=some (.string a.rel):=Hh9.out.at 0 _ rfl
       have z1:(w9.drew).cell? ⟨nh,1,none⟩=some (.slice oh a.l.length ch):=Hh9.out.at 1 _ rfl
       have z2:(w9.drew).cell? ⟨nb,2,none⟩=some (.int .i64 T.line):=Hr9.out.at 2 _ rfl
       have hnhz:nh < (w9.drew).heap.size:=Hh9.out.lt
       have hnbz:nb < (w9.drew).heap.size:=Hr9.out.lt
       have hRz:C.R < (w9.drew).heap.size:=I9.out.rd.lt
       have Hx:=hid hx
       have Hlx:=hid hlx
       obtain⟨i0,hi,hz0,hz1,hz2⟩:=info_parts infoRu
       have HL1:Hid (p.rules.length+1≤maxLen):=hid (by unfold maxLen;omega)
       have HL2:Hid ((p.rules.length+1) * 72≤140737488355328):=hid (by omega)
       have HL3:Hid (∀ o:Obj,B≤((w9.drew).alloc o).heap.size):=hid (fun o=>by have:=I9.out.BW;have:(w9.drew).heap.size=w9.heap.size:=rfl;rw[World.size_alloc];omega)
       have Leaf:Hid (∀ (g cp:Nat) (w12:World),w12.ownsRow B 41 4 (.slice (some ⟨g,0,none⟩) (p.rules.length+1) cp) (p.rules.length+1) (xs++[.string a.rel,.slice oh a.l.length ch,.slice ob bs.length cb,.int .i64 T.line])→((w9.drew).alloc (.cells #[.string a.rel,.slice oh a.l.length ch,.slice ob bs.length cb,.int .i64 T.line] 41)).grownBy w12 (Value.slice orr p.rules.length cr).ownBlock→((Value.slice orr p.rules.length cr).ownBlock=some g∨g=((w9.drew).alloc (.cells #[.string a.rel,.slice oh a.l.length ch,.slice ob bs.length cb,.int .i64 T.line] 41)).heap.size) →
         w12.cell? ⟨C.R,3,none⟩=some (.slice orr p.rules.length cr)∧w12.frozen? ⟨C.R,3,none⟩=false∧C.R < w12.heap.size∧Hid (ThR C B (rulQ p q) w (.returned .nilIface) (w12.setCell ⟨C.R,3,none⟩ (.slice (some ⟨g,0,none⟩) (p.rules.length+1) cp)))):=hid (by
        intro g cp w12 hown hgrow hat
        obtain⟨k1,k2,k3,k4⟩:=add_rule (d:=⟨a,bs,T.line⟩) I9.out Hx.out Hlx.out hltR hRB (L0:=w.heap.size) HI.out.BW (fun g hg=>hg.elim (fun h=>(HI.out.ownD g h).2) (fun h=>(HI.out.ownR g h).2)) (cs:=[.string a.rel,.slice oh a.l.length ch,.slice ob bs.length cb,.int .i64 T.line]) rfl ⟨_,_,rfl,Hline.out,⟨_,rfl,Hs.out,Hv9.out⟩,Hbody.out⟩ hown hgrow hat
        exact⟨k1,k2,k3,hid (ThR.good He5.out k4.1 ((G9.out.R HI.out.BW).trans k4.2.1) (K9.out.trans k4.2.2))⟩)
       clear hx hlx hbody
       go_wp2_with fail
       go_region_law (refine step_append_lies _ (by rfl) _ _ 23 (by rfl) B 41 i0 _ 4 72 Tryz.underlying23 hi hz0 hz1 hz2 rfl (by decide) (.slice orr p.rules.length cr) p.rules.length xs (by rfl) ((Hx.out.drew).alloc _) ⟨(w9.drew).heap.size,0,none⟩ 1 1 [.string a.rel,.slice oh a.l.length ch,.slice ob bs.length cb,.int .i64 T.line] (by rfl) (by rfl) (World.news_of_block (World.alloc_heap_new (w9.drew) _)) (by simp[Value.oneCell']) (by omega) HL1.out HL2.out (HL3.out _) _ rfl ?_;intro g cp w12 hown12 hgrow12 hat12 hlt12;obtain⟨s3,s4,s5,Fin⟩:=Leaf.out g cp w12 hown12 hgrow12 hat12)
       all_goals
        go_wp2
        go_ret
        exact Fin.out
    | false=>
     have He3:Hid (rulQ p q=match endP T.line a [] q1 with | .error e=>.error e | .ok (r,q)=>.ok (⟨p.decls,p.rules++[r]⟩,q)):=hid (by rw[He2.out,if_neg (by rw[hb];decide)])
     have Hb:=hid hb
     clear hb
     go_wp2_with fail
     refine HS.out.mono ?_
     rintro e w7 ⟨rfl,r7,g7⟩
     rw[show nextB 4 (⟨#[58,45]⟩:ByteArray).data.toList q1=false from Hb.out] at r7 ⊢
     rw[if_neg (by decide)] at r7
     have I7:=hid (I5.out.gr g7 r7)
     have Hr7:=hid (Hr5.out.gr g7 (by omega))
     have Hh7:=hid (Hh5.out.gr g7 (by omega))
     have G7:=hid (G5.out.trans g7)
     have K7:=hid (K5.out.trans (I5.out.rd.keeps g7))
     have Hv7:=hid (tms_late Hv5.out g7 hltR (Nat.le_refl _))
     clear r7 g7
     obtain⟨W8,hW8⟩:∃ W8,w7.alloc (.cells #[.string ⟨#[46]⟩] 9)=W8:=⟨_,rfl⟩
     have hb8:Below w7.heap.size w7 W8:=by rw[← hW8];exact (Below.refl _ _).alloc (Nat.le_refl _) _
     have hr8:Row w7.heap.size 9 [.string ⟨#[46]⟩] W8:=by rw[← hW8];exact Row.new w7 _ _
     have HS8:=hid (sign1_c C du _ q1 ⟨#[46]⟩ w7.heap.size W8 (I7.out.rd.below hb8) (hr8.at 0 _ rfl))
     have I8:=hid (I7.out.below hb8)
     have Hr8:=hid (Hr7.out.below hb8 Hr7.out.lt)
     have Hh8:=hid (Hh7.out.below hb8 Hh7.out.lt)
     have G8:=hid (G7.out.trans (Gr.of_below hb8))
     have K8:=hid (K7.out.trans (keeps_below hb8))
     have Hv8:=hid (tms_late Hv7.out (Gr.of_below (R:=C.R) hb8) hltR (Nat.le_refl _))
     have Gb8:=hid (Gr.of_below (R:=C.R) hb8)
     have HW8:=hid hW8
     clear hW8 hb8 hr8
     cases hd:nextB 4 [46] q1 with
     | false=>
      have Hd:=hid (show signsP [[46]] q1=.error (40,lineL q1) by simp[signsP,hd])
      have He4:Hid (rulQ p q=.error (40,lineL q1)):=hid (by rw[He3.out];unfold endP;rw[must_f hd])
      clear hd
      go_wp2_with fail
      rw[HW8.out]
      refine HS8.out.mono ?_
      rintro e w9 ⟨hse,_,g9⟩
      rw[Hd.out] at hse
      have hse:e=.returned (flawV 40 (lineL q1)):=hse
      subst hse
      have G9:=hid (G8.out.trans g9)
      have K9:=hid (K8.out.trans (I8.out.rd.keeps g9))
      clear g9
      go_wp2
      go_ret
      exact ThR.bad He4.out (G9.out.R HI.out.BW) K9.out
     | true=>
      have Hd:=hid (show signsP [[46]] q1=.ok (q1).tail by simp[signsP,hd])
      have He4:Hid (rulQ p q=if headedB ([]).isEmpty a=true then .ok (⟨p.decls,p.rules++[⟨a,[],T.line⟩]⟩,(q1).tail) else .error (40,T.line)):=hid (by rw[He3.out];unfold endP;rw[must_t hd];simp only;cases headedB ([]).isEmpty a <;> rfl)
      clear hd
      go_wp2_with fail
      rw[HW8.out]
      refine HS8.out.mono ?_
      rintro e w9 ⟨hse,hrd,g9⟩
      rw[Hd.out] at hse hrd
      have hse:e=.returned .nilIface:=hse
      subst hse
      have I9:=hid (I8.out.gr g9 (hrd _ rfl))
      have Hr9:=hid (Hr8.out.gr g9 (by omega))
      have Hh9:=hid (Hh8.out.gr g9 (by omega))
      have G9:=hid (G8.out.trans g9)
      have K9:=hid (K8.out.trans (I8.out.rd.keeps g9))
      have Hv9:=hid (tms_late Hv8.out g9 hltR (Nat.le_refl _))
      have Gb9:=hid (Gb8.out.trans g9)
      clear hrd g9
      have x1:w9.cell? ⟨nh,1,none⟩=some (.slice oh a.l.length ch):=Hh9.out.at 1 _ rfl
      have hnh9:nh < w9.heap.size:=Hh9.out.lt
      go_wp2_with fail
      refine (containsT_c 132 varB isVar_c (enters_of Tryz.func132 (by kernel_rfl) rfl) a.l _ w9 (SlOf.vis Hv9.out (Vis.past _ _) fun x _ cs hx=>TmC.vis hx (Vis.past _ _)) (by have:=Hal.out;omega)).mono ?_
      rintro e w10 ⟨rfl,b10⟩
      have I10:=hid (I9.out.below b10)
      have Hr10:=hid (Hr9.out.below b10 Hr9.out.lt)
      have Hh10:=hid (Hh9.out.below b10 Hh9.out.lt)
      have G10:=hid (G9.out.trans (Gr.of_below b10))
      have K10:=hid (K9.out.trans (keeps_below b10))
      have Hv10:=hid (tms_late Hv9.out (Gr.of_below (R:=C.R) b10) hltR (Nat.le_refl _))
      clear b10 x1
      cases hva:a.l.any varB with
      | true=>
       have He5:Hid (rulQ p q=.error (40,T.line)):=hid (by rw[He4.out,heads_bare Hno.out,hva];rfl)
       have t0:=Hr10.out.at 0 _ rfl
       have t1:=Hr10.out.at 1 _ rfl
       have t2:=Hr10.out.at 2 _ rfl
       have hn10:=Hr10.out.lt
       clear hva
       go_wp2_with fail
       refine (faultAt_c T 40 w10).mono ?_
       rintro e w11 ⟨rfl,b11⟩
       have B11:=hid b11
       clear b11
       go_wp2
       go_ret
       exact ThR.bad He5.out ((G10.out.trans (Gr.of_below B11.out)).R HI.out.BW) (K10.out.trans (keeps_below B11.out))
      | false=>
       have He5:Hid (rulQ p q=.ok (⟨p.decls,p.rules++[⟨a,[],T.line⟩]⟩,(q1).tail)):=hid (by rw[He4.out,heads_bare Hno.out,hva];rfl)
       clear hva
       have hbody:SlOf (past w.heap.size w10) w10.heap.size 11 (LtC (past w.heap.size w10) w10.heap.size) [] (.slice none 0 0):=nilBody _ _ _
       have Hbody:=hid hbody
       obtain⟨xs,hx,hlx⟩:=I10.out.r
       have y3:(w10.drew).cell? ⟨C.R,3,none⟩=some (.slice orr p.rules.length cr):=I10.out.row.2.1
       have y3a:∀ o:Obj,((w10.drew).alloc o).cell? ⟨C.R,3,none⟩=some (.slice orr p.rules.length cr):=fun o=>(World.cell?_alloc_lt _ o _ (show (⟨C.R,3,none⟩:Addr).block < (w10.drew).heap.size from I10.out.rd.lt)).trans y3
       have y3b:∀ o:Obj,(w10.alloc o).cell? ⟨C.R,3,none⟩=some (.slice orr p.rules.length cr):=y3a
       have z0:(w10.drew).cell? ⟨nh,0,none⟩=some (.string a.rel):=Hh10.out.at 0 _ rfl
       have z1:(w10.drew).cell? ⟨nh,1,none⟩=some (.slice oh a.l.length ch):=Hh10.out.at 1 _ rfl
       have z2:(w10.drew).cell? ⟨nb,2,none⟩=some (.int .i64 T.line):=Hr10.out.at 2 _ rfl
       have hnhz:nh < (w10.drew).heap.size:=Hh10.out.lt
       have hnbz:nb < (w10.drew).heap.size:=Hr10.out.lt
       have hRz:C.R < (w10.drew).heap.size:=I10.out.rd.lt
       have Hx:=hid hx
       have Hlx:=hid hlx
       obtain⟨i0,hi,hz0,hz1,hz2⟩:=info_parts infoRu
       have HL1:Hid (p.rules.length+1≤maxLen):=hid (by unfold maxLen;omega)
       have HL2:Hid ((p.rules.length+1) * 72≤140737488355328):=hid (by omega)
       have HL3:Hid (∀ o:Obj,B≤((w10.drew).alloc o).heap.size):=hid (fun o=>by have:=I10.out.BW;have:(w10.drew).heap.size=w10.heap.size:=rfl;rw[World.size_alloc];omega)
       have Leaf:Hid (∀ (g cp:Nat) (w12:World),w12.ownsRow B 41 4 (.slice (some ⟨g,0,none⟩) (p.rules.length+1) cp) (p.rules.length+1) (xs++[.string a.rel,.slice oh a.l.length ch,.slice none 0 0,.int .i64 T.line])→((w10.drew).alloc (.cells #[.string a.rel,.slice oh a.l.length ch,.slice none 0 0,.int .i64 T.line] 41)).grownBy w12 (Value.slice orr p.rules.length cr).ownBlock→((Value.slice orr p.rules.length cr).ownBlock=some g∨g=((w10.drew).alloc (.cells #[.string a.rel,.slice oh a.l.length ch,.slice none 0 0,.int .i64 T.line] 41)).heap.size) →
         w12.cell? ⟨C.R,3,none⟩=some (.slice orr p.rules.length cr)∧w12.frozen? ⟨C.R,3,none⟩=false∧C.R < w12.heap.size∧Hid (ThR C B (rulQ p q) w (.returned .nilIface) (w12.setCell ⟨C.R,3,none⟩ (.slice (some ⟨g,0,none⟩) (p.rules.length+1) cp)))):=hid (by
        intro g cp w12 hown hgrow hat
        obtain⟨k1,k2,k3,k4⟩:=add_rule (d:=⟨a,[],T.line⟩) I10.out Hx.out Hlx.out hltR hRB (L0:=w.heap.size) HI.out.BW (fun g hg=>hg.elim (fun h=>(HI.out.ownD g h).2) (fun h=>(HI.out.ownR g h).2)) (cs:=[.string a.rel,.slice oh a.l.length ch,.slice none 0 0,.int .i64 T.line]) rfl ⟨_,_,rfl,Hline.out,⟨_,rfl,Hs.out,Hv10.out⟩,Hbody.out⟩ hown hgrow hat
        exact⟨k1,k2,k3,hid (ThR.good He5.out k4.1 ((G10.out.R HI.out.BW).trans k4.2.1) (K10.out.trans k4.2.2))⟩)
       clear hx hlx hbody
       go_wp2_with fail
       go_region_law (refine step_append_lies _ (by rfl) _ _ 23 (by rfl) B 41 i0 _ 4 72 Tryz.underlying23 hi hz0 hz1 hz2 rfl (by decide) (.slice orr p.rules.length cr) p.rules.length xs (by rfl) ((Hx.out.drew).alloc _) ⟨(w10.drew).heap.size,0,none⟩ 1 1 [.string a.rel,.slice oh a.l.length ch,.slice none 0 0,.int .i64 T.line] (by rfl) (by rfl) (World.news_of_block (World.alloc_heap_new (w10.drew) _)) (by simp[Value.oneCell']) (by omega) HL1.out HL2.out (HL3.out _) _ rfl ?_;intro g cp w12 hown12 hgrow12 hat12 hlt12;obtain⟨s3,s4,s5,Fin⟩:=Leaf.out g cp w12 hown12 hgrow12 hat12)
       all_goals
        go_wp2
        go_ret
        exact Fin.out
end Go.Proofs.YtdgbajnhhhjbcaaGreatDoor
