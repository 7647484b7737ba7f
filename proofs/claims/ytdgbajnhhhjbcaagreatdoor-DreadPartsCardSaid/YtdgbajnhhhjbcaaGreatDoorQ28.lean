/- Par@0, Parr@0, Parr2@0 -/
import Derived.Test.YtdgbajnhhhjbcaaGreatDoorQ23
set_option linter.unusedSimpArgs false
set_option linter.unusedVariables false
namespace Go.Proofs.YtdgbajnhhhjbcaaGreatDoor
theorem joinP_ok {op line:Int} {x y z:Tm} {l q:List TokI} (h:joinP op x y line l=.ok (z,q)):q=l∧z=.mk op ⟨#[]⟩ 0 [x,y]∧x.op≠3∧y.op≠3:=by
 unfold joinP at h
 split at h
 next=>cases h
 next hn=>
  cases h
  exact⟨rfl,rfl,fun e=>hn (.inl e),fun e=>hn (.inr e)⟩
def GoodTm (x:Tm):Prop:=x.op≠4∧∀ h,highT x≤h→rightT h x=true
theorem NmOk.tl {l:List TokI} (h:NmOk l):NmOk l.tail:=fun u hu=>h u (List.mem_of_mem_tail hu)
theorem mustP_nm {α:Type} {k:Int} {s:List UInt8} {x y:α} {l q:List TokI} (hl:NmOk l) (h:mustP k s x l=.ok (y,q)):NmOk q:=by
 unfold mustP at h
 split at h
 ·cases h;exact hl.tl
 ·cases h
theorem high_leafR (o:Int) (s:ByteArray) (n:Int):highT (.mk o s n [])=1:=by unfold highT highTs;rfl
theorem high_twoR (o:Int) (s:ByteArray) (n:Int) (x y:Tm):highT (.mk o s n [x,y])=max (highT x) (highT y)+1:=by
 rw[highT,highTs,highTs,highTs,Nat.max_zero]
theorem good_leaf {o:Int} {s:ByteArray} {n:Int} (h2:twoB o=false) (h4:o≠4) (h:leafB (.mk o s n [])=true):GoodTm (.mk o s n []):=by
 refine⟨h4,fun k hk=>?_⟩
 rw[high_leafR] at hk
 obtain⟨m,rfl⟩:∃ m,k=m+1:=⟨k - 1,by omega⟩
 unfold rightT
 rw[if_neg (by rw[show twoB (Tm.op (.mk o s n []))=twoB o from rfl,h2];decide)]
 exact h
theorem empty_isE:(ByteArray.toList ⟨#[]⟩).isEmpty=true:=by rw[Lib.toList_data];rfl
theorem good_int (n:Int):GoodTm (intT n):=good_leaf (by decide) (by decide) (by
 unfold leafB
 rw[if_neg (by show ¬ (2:Int)=1;decide),if_pos (show Tm.op (.mk 2 ⟨#[]⟩ n [])=2 from rfl)]
 rw[show Tm.s (.mk 2 ⟨#[]⟩ n [])=⟨#[]⟩ from rfl,empty_isE];rfl)
theorem good_sym (s:ByteArray):GoodTm (.mk 3 s 0 []):=good_leaf (by decide) (by decide) (by
 unfold leafB
 rw[if_neg (by show ¬ (3:Int)=1;decide),if_neg (by show ¬ (3:Int)=2;decide),if_pos (show Tm.op (.mk 3 s 0 [])=3 from rfl)]
 rfl)
theorem good_var {s:ByteArray} (h:nameB s.data.toList=true):GoodTm (.mk 1 s 0 []):=good_leaf (by decide) (by decide) (by
 unfold leafB
 rw[if_pos (show Tm.op (.mk 1 s 0 [])=1 from rfl),show Tm.s (.mk 1 s 0 [])=s from rfl,h];rfl)
theorem rec_good {x:Tm} (h:GoodTm x) (h3:x.op≠3):recB x=true:=by
 unfold recB
 have h4:=h.1
 simp[h3,h4]
theorem good_join {o:Int} {x y:Tm} (ho:twoB o=true) (hx:GoodTm x) (hy:GoodTm y) (h3:x.op≠3) (h3':y.op≠3):GoodTm (.mk o ⟨#[]⟩ 0 [x,y]):=by
 refine⟨(by show o≠4;rintro rfl;exact absurd ho (by decide)),fun k hk=>?_⟩
 rw[high_twoR] at hk
 obtain⟨m,rfl⟩:∃ m,k=m+1:=⟨k - 1,by omega⟩
 unfold rightT
 rw[if_pos (show twoB (Tm.op (.mk o ⟨#[]⟩ 0 [x,y]))=true from ho)]
 show ((ByteArray.toList ⟨#[]⟩).isEmpty && ((0:Int) == 0) && (recB x && rightT m x && (recB y && rightT m y)))=true
 rw[empty_isE,rec_good hx h3,rec_good hy h3',hx.2 m (by omega),hy.2 m (by omega)]
 rfl
theorem minus_good {l q:List TokI} {x:Tm} (hl:NmOk l) (h:minusP l=.ok (x,q)):GoodTm x∧NmOk q:=by
 cases l with
 | nil=>cases h
 | cons u r=>
  have h:(if u.kind=2 then Except.ok (intT (-(digitsI u.s.data.toList)),r) else .error ((40:Int),u.line))=Except.ok (x,q):=h
  by_cases hn:u.kind=2
  ·rw[if_pos hn] at h
   cases h
   exact⟨good_int _,hl.tail⟩
  ·rw[if_neg hn] at h
   cases h
theorem mustP_val {α:Type} {k:Int} {s:List UInt8} {x y:α} {l q:List TokI} (h:mustP k s x l=.ok (y,q)):y=x:=(mustP_ok h).2.1
theorem sum_good:∀ (n:Nat) (l:List TokI),l.length≤n→NmOk l →
  (∀ x q,thingP l=.ok (x,q)→GoodTm x∧NmOk q)∧(∀ z x q,GoodTm z→timesP z l=.ok (x,q)→GoodTm x∧NmOk q)∧(∀ x q,productP l=.ok (x,q)→GoodTm x∧NmOk q) ∧
  (∀ z x q,GoodTm z→plusP z l=.ok (x,q)→GoodTm x∧NmOk q)∧(∀ x q,sumP l=.ok (x,q)→GoodTm x∧NmOk q):=by
 intro n
 induction n with
 | zero=>
  intro l hl hn
  have:l=[]:=List.eq_nil_of_length_eq_zero (by omega)
  subst this
  refine⟨?_,?_,?_,?_,?_⟩
  ·intro x q h;rw[thingP] at h;cases h
  ·intro z x q hz h;rw[timesP] at h;cases h;exact⟨hz,hn⟩
  ·intro x q h;rw[productP,thingP] at h;cases h
  ·intro z x q hz h;rw[plusP] at h;cases h;exact⟨hz,hn⟩
  ·intro x q h;rw[sumP,productP,thingP] at h;cases h
 | succ n ih=>
  intro l hl hn
  cases l with
  | nil=>exact ih [] (Nat.zero_le _) hn
  | cons t r=>
   have hr:r.length≤n:=by simpa using hl
   have I:=ih r hr hn.tail
   have h1:∀ x q,thingP (t::r)=.ok (x,q)→GoodTm x∧NmOk q:=by
    intro x q h
    rw[thingP] at h
    split at h
    ·cases h;exact⟨good_int _,hn.tail⟩
    split at h
    ·cases h;exact⟨good_sym _,hn.tail⟩
    split at h
    next hnm=>cases h;exact⟨good_var (hn t (List.mem_cons_self ..) hnm),hn.tail⟩
    next=>
    split at h
    ·exact minus_good hn.tail h
    split at h
    ·split at h
     ·cases h
     ·next hs=>
      have h5:=I.2.2.2.2 _ _ hs
      cases mustP_val h
      exact⟨h5.1,mustP_nm h5.2 h⟩
    ·cases h
   have h2:∀ z x q,GoodTm z→timesP z (t::r)=.ok (x,q)→GoodTm x∧NmOk q:=by
    intro z x q hz h
    by_cases ht:tokB 4 [42] t=true
    ·rw[timesP_sign z r ht] at h
     cases hs:thingP r with
     | error e=>rw[hs] at h;cases h
     | ok p=>
      obtain⟨y,q1⟩:=p
      rw[hs] at h
      simp only at h
      have h5:=I.1 _ _ hs
      split at h
      ·cases h
      next h3=>
       exact (ih q1 (Nat.le_trans (Nat.le_of_lt (thing_less hs)) hr) h5.2).2.1 _ _ _ (good_join (by decide) hz h5.1 (fun e=>h3 (.inl e)) (fun e=>h3 (.inr e))) h
    ·rw[timesP_else z (l:=t::r) (by simpa[nextB] using ht)] at h
     cases h
     exact⟨hz,hn⟩
   have h3:∀ x q,productP (t::r)=.ok (x,q)→GoodTm x∧NmOk q:=by
    intro x q h
    rw[productP_eq] at h
    cases hs:thingP (t::r) with
    | error e=>rw[hs] at h;cases h
    | ok p=>
     obtain⟨y,q1⟩:=p
     rw[hs] at h
     have h5:=h1 _ _ hs
     have h6:=thing_less hs
     rw[List.length_cons] at h6
     exact (ih q1 (by omega) h5.2).2.1 _ _ _ h5.1 h
   have h4:∀ z x q,GoodTm z→plusP z (t::r)=.ok (x,q)→GoodTm x∧NmOk q:=by
    intro z x q hz h
    by_cases ht:tokB 4 [43] t=true∨tokB 4 [45] t=true
    ·rw[plusP_sign z r ht] at h
     cases hs:productP r with
     | error e=>rw[hs] at h;cases h
     | ok p=>
      obtain⟨y,q1⟩:=p
      rw[hs] at h
      simp only at h
      have h5:=I.2.2.1 _ _ hs
      split at h
      ·cases h
      next h3=>
       exact (ih q1 (Nat.le_trans (Nat.le_of_lt (product_less hs)) hr) h5.2).2.2.2.1 _ _ _ (good_join (by split <;> decide) hz h5.1 (fun e=>h3 (.inl e)) (fun e=>h3 (.inr e))) h
    ·rw[plusP_else z (l:=t::r) (by simpa[nextB] using fun e=>ht (.inl e)) (by simpa[nextB] using fun e=>ht (.inr e))] at h
     cases h
     exact⟨hz,hn⟩
   refine⟨h1,h2,h3,h4,?_⟩
   intro x q h
   rw[sumP_eq] at h
   cases hs:productP (t::r) with
   | error e=>rw[hs] at h;cases h
   | ok p=>
    obtain⟨y,q1⟩:=p
    rw[hs] at h
    have h5:=h3 _ _ hs
    have h6:=product_less hs
    rw[List.length_cons] at h6
    exact (ih q1 (by omega) h5.2).2.2.2.1 _ _ _ h5.1 h
theorem expr_good {l q:List TokI} {x:Tm} (hl:NmOk l) (h:exprP l=.ok (x,q)):rightT 20 x=true∧x.op≠4∧NmOk q:=by
 obtain⟨h1,h2,_⟩:=exprP_less h
 have h3:=(sum_good _ l (Nat.le_refl _) hl).2.2.2.2 _ _ h1
 exact⟨h3.1.2 20 (by omega),h3.1.1,h3.2⟩
theorem arg_good {l q:List TokI} {x:Tm} (hl:NmOk l) (h:argP l=.ok (x,q)):rightT 20 x=true∧NmOk q:=by
 unfold argP at h
 split at h
 ·cases h
  refine⟨?_,hl.tl⟩
  unfold rightT
  rw[if_neg (by show ¬ twoB 4=true;decide)]
  unfold leafB
  rw[if_neg (by show ¬ (4:Int)=1;decide),if_neg (by show ¬ (4:Int)=2;decide),if_neg (by show ¬ (4:Int)=3;decide),if_pos (show Tm.op (.mk 4 ⟨#[]⟩ 0 [])=4 from rfl),show Tm.s (.mk 4 ⟨#[]⟩ 0 [])=⟨#[]⟩ from rfl,empty_isE]
  rfl
 ·exact⟨(expr_good hl h).1,(expr_good hl h).2.2⟩
theorem args_good:∀ (n:Nat) (acc:List Tm) (l q:List TokI) (x:List Tm),l.length≤n→NmOk l→acc.length≤8→acc.all (rightT 20)=true→argsP acc l=.ok (x,q)→1≤x.length∧x.length≤8∧x.all (rightT 20)=true∧NmOk q:=by
 intro n
 induction n with
 | zero=>
  intro acc l q x hl hn ha hr h
  exact absurd (argsP_less _ _ _ _ _ (Nat.le_refl _) h) (by omega)
 | succ n ih=>
  intro acc l q x hl hn ha hr h
  rw[argsP_eq] at h
  split at h
  ·cases h
  next h8=>
   cases hs:argP l with
   | error e=>rw[hs] at h;cases h
   | ok p=>
    obtain⟨y,q1⟩:=p
    rw[hs] at h
    simp only at h
    have h1:=argP_less hs
    have h2:=arg_good hn hs
    have hlen:(acc++[y]).length=acc.length+1:=by simp
    have hall:(acc++[y]).all (rightT 20)=true:=by simp[hr,h2.1]
    split at h
    ·exact ih _ _ _ _ (by rw[List.length_tail];omega) h2.2.tl (by omega) hall h
    ·cases h
     exact⟨by omega,by omega,hall,h2.2⟩
theorem name_good {l q:List TokI} {s:ByteArray} (hl:NmOk l) (h:nameP l=.ok (s,q)):nameB s.data.toList=true∧NmOk q:=by
 obtain⟨t,rfl,h1,rfl⟩:=nameP_ok h
 exact⟨hl t (List.mem_cons_self ..) h1,hl.tail⟩
theorem atom_good {l q:List TokI} {a:Am} (hl:NmOk l) (h:atomP l=.ok (a,q)):rightA a=true∧NmOk q:=by
 unfold atomP at h
 cases h1:nameP l with
 | error e=>rw[h1] at h;cases h
 | ok p=>
  obtain⟨s,q1⟩:=p
  rw[h1] at h
  have g1:=name_good hl h1
  simp only at h
  cases h2:mustP 4 [40] () q1 with
  | error e=>rw[h2] at h;cases h
  | ok p=>
   obtain⟨u,q2⟩:=p
   rw[h2] at h
   have g2:=mustP_nm g1.2 h2
   simp only at h
   cases h3:argsP [] q2 with
   | error e=>rw[h3] at h;cases h
   | ok p=>
    obtain⟨ats,q3⟩:=p
    rw[h3] at h
    have g3:=args_good _ _ _ _ _ (Nat.le_refl _) g2 (Nat.zero_le _) rfl h3
    cases mustP_val h
    refine⟨?_,mustP_nm g3.2.2.2 h⟩
    unfold rightA
    rw[g1.1,decide_eq_true g3.1,decide_eq_true g3.2.1,g3.2.2.1]
    rfl
theorem noTm_no:noT noTm=true:=by
 unfold noT
 rw[show Tm.s noTm=⟨#[]⟩ from rfl,empty_isE]
 rfl
theorem noAm_no:noA noAm=true:=by
 unfold noA
 rw[show Am.rel noAm=⟨#[]⟩ from rfl,empty_isE]
 rfl
theorem lit_good {op:Int} {l q:List TokI} {a:Lt} (ho:op=1∨op=2) (hl:NmOk l) (h:litP op l=.ok (a,q)):rightL a=true∧NmOk q:=by
 unfold litP at h
 cases h1:atomP l with
 | error e=>rw[h1] at h;cases h
 | ok p=>
  rw[h1] at h
  have g:=atom_good hl h1
  cases h
  refine⟨?_,g.2⟩
  unfold rightL
  rw[if_pos ho]
  show (rightA p.1 && noT noTm && noT noTm)=true
  rw[g.1,noTm_no]
  rfl
theorem braced_good {op:Int} {x y:Tm} {l q:List TokI} {a:Lt} (hl:NmOk l) (h:bracedP op x y l=.ok (a,q)):(∃ b,a=⟨op,b,x,y⟩∧rightA b=true)∧NmOk q:=by
 unfold bracedP at h
 cases h1:mustP 4 [58] () l with
 | error e=>rw[h1] at h;cases h
 | ok p=>
  obtain⟨s,q1⟩:=p
  rw[h1] at h
  have g1:=mustP_nm hl h1
  simp only at h
  cases h2:mustP 4 [123] () q1 with
  | error e=>rw[h2] at h;cases h
  | ok p=>
   obtain⟨u,q2⟩:=p
   rw[h2] at h
   have g2:=mustP_nm g1 h2
   simp only at h
   cases h3:atomP q2 with
   | error e=>rw[h3] at h;cases h
   | ok p=>
    obtain⟨b,q3⟩:=p
    rw[h3] at h
    have g3:=atom_good g2 h3
    exact⟨⟨b,mustP_val h,g3.1⟩,mustP_nm g3.2 h⟩
theorem how_val (l:List TokI):howP l=0∨howP l=7∨howP l=8∨howP l=9∨howP l=10:=by
 unfold howP
 repeat' split
 all_goals simp
theorem aggregate_good {op:Int} {x:Tm} {l q:List TokI} {a:Lt} (ho:op=7∨op=8∨op=9∨op=10) (hx:rightT 20 x=true) (hl:NmOk l) (h:aggregateP op x l=.ok (a,q)):rightL a=true∧NmOk q:=by
 unfold aggregateP at h
 split at h
 next hop=>
  have hop':((x.op == 1) || (x.op == 2))=true:=by
   rcases hop with e | e <;> rw[e] <;> rfl
  split at h
  next h7=>
   subst h7
   obtain⟨⟨b,rfl,hb⟩,g⟩:=braced_good (hl.drop 2) h
   refine⟨?_,g⟩
   unfold rightL
   rw[if_neg (by show ¬ ((7:Int)=1∨(7:Int)=2);decide),if_neg (by show ¬ ((3:Int)≤7∧(7:Int)≤6);decide),if_pos rfl]
   show (rightA b && rightT 20 x && ((x.op == 1) || (x.op == 2)) && noT noTm)=true
   rw[hb,hx,hop',noTm_no]
   rfl
  next h7=>
   cases h1:nameP (l.drop 2) with
   | error e=>rw[h1] at h;cases h
   | ok p=>
    obtain⟨s,q1⟩:=p
    rw[h1] at h
    have g1:=name_good (hl.drop 2) h1
    obtain⟨⟨b,rfl,hb⟩,g⟩:=braced_good g1.2 h
    refine⟨?_,g⟩
    have hy:rightT 20 (.mk 1 s 0 [])=true:=(good_var g1.1).2 20 (by rw[high_leafR];decide)
    have ho':op=8∨op=9∨op=10:=by omega
    unfold rightL
    rw[if_neg (by show ¬ (op=1∨op=2);omega),if_neg (by show ¬ (3≤op∧op≤6);omega),if_neg (by show ¬ op=7;omega),if_pos (by show 8≤op∧op≤10;omega)]
    show (rightA b && rightT 20 x && ((x.op == 1) || (x.op == 2)) && rightT 20 (.mk 1 s 0 []) && ((1:Int) == 1))=true
    rw[hb,hx,hop',hy]
    rfl
 next=>cases h
theorem sign_val {s:List UInt8} {op:Int} {b:Bool} (h:signP s=some (op,b)):3≤op∧op≤6:=by
 unfold signP at h
 repeat' split at h
 all_goals cases h
 all_goals decide
theorem held_good {x:Tm} {l q:List TokI} {a:Lt} (hx:rightT 20 x=true) (h4:x.op≠4) (hl:NmOk l) (h:heldP x l=.ok (a,q)):rightL a=true∧NmOk q:=by
 cases l with
 | nil=>cases h
 | cons t r=>
  unfold heldP at h
  simp only at h
  cases h0:(if t.kind=4 then signP t.s.data.toList else none) with
  | none=>rw[h0] at h;cases h
  | some p=>
   obtain⟨op,turn⟩:=p
   rw[h0] at h
   simp only at h
   have ho:3≤op∧op≤6:=by
    split at h0
    ·exact sign_val h0
    ·cases h0
   cases hs:exprP r with
   | error e=>rw[hs] at h;cases h
   | ok p=>
    obtain⟨y,q1⟩:=p
    rw[hs] at h
    have g:=expr_good hl.tail hs
    have hx4:(x.op != 4)=true:=by simpa using h4
    have hy4:(y.op != 4)=true:=by simpa using g.2.1
    cases h
    refine⟨?_,g.2.2⟩
    unfold rightL
    rw[if_neg (by show ¬ (op=1∨op=2);omega),if_pos (by show 3≤op∧op≤6;omega)]
    show (noA noAm && rightT 20 (if turn=true then y else x) && rightT 20 (if turn=true then x else y) && ((if turn=true then y else x).op != 4) && ((if turn=true then x else y).op != 4))=true
    cases turn
    ·show (noA noAm && rightT 20 x && rightT 20 y && (x.op != 4) && (y.op != 4))=true
     rw[noAm_no,hx,g.1,hx4,hy4];rfl
    ·show (noA noAm && rightT 20 y && rightT 20 x && (y.op != 4) && (x.op != 4))=true
     rw[noAm_no,hx,g.1,hx4,hy4];rfl
theorem part_good {l q:List TokI} {a:Lt} (hl:NmOk l) (h:partP l=.ok (a,q)):rightL a=true∧NmOk q:=by
 unfold partP at h
 by_cases h1:nextB 4 [33] l=true
 ·rw[if_pos h1] at h
  exact lit_good (.inr rfl) hl.tl h
 rw[if_neg h1] at h
 by_cases h2:nmAt l=true∧nextB 4 [40] l.tail=true
 ·rw[if_pos h2] at h
  exact lit_good (.inl rfl) hl h
 rw[if_neg h2] at h
 cases hs:exprP l with
 | error e=>rw[hs] at h;cases h
 | ok p=>
  obtain⟨x,q1⟩:=p
  rw[hs] at h
  have g:=expr_good hl hs
  simp only at h
  by_cases h3:howP q1=0
  ·rw[if_pos h3] at h
   exact held_good g.1 g.2.1 g.2.2 h
  ·rw[if_neg h3] at h
   refine aggregate_good ?_ g.1 g.2.2 h
   rcases how_val q1 with e | e | e | e | e
   ·exact absurd e h3
   ·exact .inl e
   ·exact .inr (.inl e)
   ·exact .inr (.inr (.inl e))
   ·exact .inr (.inr (.inr e))
theorem body_good:∀ (n:Nat) (acc:List Lt) (l q:List TokI) (x:List Lt),l.length≤n→NmOk l→acc.length≤20→acc.all rightL=true→bodyP acc l=.ok (x,q)→x.length≤20∧x.all rightL=true∧NmOk q:=by
 intro n
 induction n with
 | zero=>
  intro acc l q x hl hn ha hr h
  have:l=[]:=List.eq_nil_of_length_eq_zero (by omega)
  subst this
  rw[bodyP_eq] at h
  split at h
  ·cases h
  ·cases hs:partP [] with
   | error e=>rw[hs] at h;cases h
   | ok p=>exact absurd (partP_less hs) (Nat.not_lt_zero _)
 | succ n ih=>
  intro acc l q x hl hn ha hr h
  rw[bodyP_eq] at h
  split at h
  ·cases h
  next h8=>
   cases hs:partP l with
   | error e=>rw[hs] at h;cases h
   | ok p=>
    obtain⟨y,q1⟩:=p
    rw[hs] at h
    simp only at h
    have h1:=partP_less hs
    have h2:=part_good hn hs
    have hlen:(acc++[y]).length=acc.length+1:=by simp
    have hall:(acc++[y]).all rightL=true:=by simp[hr,h2.1]
    split at h
    ·exact ih _ _ _ _ (by rw[List.length_tail];omega) h2.2.tl (by omega) hall h
    ·cases h
     exact⟨by omega,hall,h2.2⟩
theorem headed_head {b:Bool} {a:Am} (h:headedB b a=true):a.l.all (headT b)=true:=by
 unfold headedB at h
 rw[List.all_eq_true] at h ⊢
 intro t ht
 have h1:=h t ht
 unfold headT twoB
 cases b
 ·simp at h1 ⊢
  omega
 ·simp at h1 ⊢
  omega
theorem end_good {line:Int} {a:Am} {b:List Lt} {l q:List TokI} {r:Ru} (ha:rightA a=true) (hb:b.length≤20) (hr:b.all rightL=true) (hl:NmOk l) (h:endP line a b l=.ok (r,q)):rightR r=true∧NmOk q:=by
 unfold endP at h
 cases h1:mustP 4 [46] () l with
 | error e=>rw[h1] at h;cases h
 | ok p=>
  rw[h1] at h
  simp only at h
  split at h
  next hh=>
   cases h
   refine⟨?_,mustP_nm hl h1⟩
   unfold rightR
   show (rightA a && decide (b.length≤20) && a.l.all (headT b.isEmpty) && b.all rightL)=true
   rw[ha,decide_eq_true hb,headed_head hh,hr]
   rfl
  next=>cases h
theorem rule_good {l q:List TokI} {r:Ru} (hl:NmOk l) (h:ruleP l=.ok (r,q)):rightR r=true∧NmOk q:=by
 unfold ruleP at h
 cases h1:atomP l with
 | error e=>rw[h1] at h;cases h
 | ok p=>
  obtain⟨a,q1⟩:=p
  rw[h1] at h
  have g1:=atom_good hl h1
  simp only at h
  split at h
  ·split at h
   ·cases h2:bodyP [] q1.tail with
    | error e=>rw[h2] at h;cases h
    | ok p=>
     obtain⟨b,q2⟩:=p
     rw[h2] at h
     have g2:=body_good _ _ _ _ _ (Nat.le_refl _) g1.2.tl (Nat.zero_le _) rfl h2
     exact end_good g1.1 g2.1 g2.2.1 g2.2.2 h
   ·exact end_good g1.1 (Nat.zero_le _) rfl g1.2 h
  ·cases h
theorem column_good {l q:List TokI} {x:ByteArray × Int} (hl:NmOk l) (h:columnP l=.ok (x,q)):nameB x.1.data.toList=true∧rightTy x.2=true∧NmOk q:=by
 unfold columnP at h
 cases h1:nameP l with
 | error e=>rw[h1] at h;cases h
 | ok p=>
  obtain⟨s,q1⟩:=p
  rw[h1] at h
  have g1:=name_good hl h1
  simp only at h
  cases h2:mustP 4 [58] () q1 with
  | error e=>rw[h2] at h;cases h
  | ok p=>
   obtain⟨u,q2⟩:=p
   rw[h2] at h
   have g2:=mustP_nm g1.2 h2
   simp only at h
   cases h3:typeP q2 with
   | error e=>rw[h3] at h;cases h
   | ok p=>
    obtain⟨n,q3⟩:=p
    rw[h3] at h
    have g3:rightTy n=true∧NmOk q3:=by
     unfold typeP at h3
     split at h3
     ·cases h3;exact⟨rfl,g2.tl⟩
     ·rw[mustP_val h3];exact⟨rfl,mustP_nm g2 h3⟩
    cases h
    exact⟨g1.1,g3.1,g3.2⟩
def goodC (x:ByteArray × Int):Bool:=nameB x.1.data.toList && rightTy x.2
theorem columns_good:∀ (n:Nat) (acc:List (ByteArray × Int)) (l q:List TokI) (x:List (ByteArray × Int)),l.length≤n→NmOk l→acc.length≤8→acc.all goodC=true→columnsP acc l=.ok (x,q)→1≤x.length∧x.length≤8∧x.all goodC=true∧NmOk q:=by
 intro n
 induction n with
 | zero=>
  intro acc l q x hl hn ha hr h
  have:l=[]:=List.eq_nil_of_length_eq_zero (by omega)
  subst this
  rw[columnsP_eq] at h
  split at h
  ·cases h
  ·cases hs:columnP [] with
   | error e=>rw[hs] at h;cases h
   | ok p=>exact absurd (columnP_less hs) (Nat.not_lt_zero _)
 | succ n ih=>
  intro acc l q x hl hn ha hr h
  rw[columnsP_eq] at h
  split at h
  ·cases h
  next h8=>
   cases hs:columnP l with
   | error e=>rw[hs] at h;cases h
   | ok p=>
    obtain⟨y,q1⟩:=p
    rw[hs] at h
    simp only at h
    have h1:=columnP_less hs
    have h2:=column_good hn hs
    have hlen:(acc++[y]).length=acc.length+1:=by simp
    have hall:(acc++[y]).all goodC=true:=by simp[hr,goodC,h2.1,h2.2.1]
    split at h
    ·exact ih _ _ _ _ (by rw[List.length_tail];omega) h2.2.2.tl (by omega) hall h
    ·cases h
     exact⟨by omega,by omega,hall,h2.2.2⟩
theorem decl_good {line:Int} {l q:List TokI} {d:De} (hl:NmOk l) (h:declP line l=.ok (d,q)):rightD d=true∧NmOk q:=by
 unfold declP at h
 cases h1:nameP l with
 | error e=>rw[h1] at h;cases h
 | ok p=>
  obtain⟨s,q1⟩:=p
  rw[h1] at h
  have g1:=name_good hl h1
  simp only at h
  cases h2:mustP 4 [40] () q1 with
  | error e=>rw[h2] at h;cases h
  | ok p=>
   obtain⟨u,q2⟩:=p
   rw[h2] at h
   have g2:=mustP_nm g1.2 h2
   simp only at h
   cases h3:columnsP [] q2 with
   | error e=>rw[h3] at h;cases h
   | ok p=>
    obtain⟨cs,q3⟩:=p
    rw[h3] at h
    have g3:=columns_good _ _ _ _ _ (Nat.le_refl _) g2 (Nat.zero_le _) rfl h3
    rw[mustP_val h]
    refine⟨?_,mustP_nm g3.2.2.2 h⟩
    have hc:∀ x ∈ cs,nameB x.1.data.toList=true∧rightTy x.2=true:=fun x hx=>by
     have:=List.all_eq_true.1 g3.2.2.1 x hx
     unfold goodC at this
     rwa [Bool.and_eq_true] at this
    unfold rightD
    show (nameB s.data.toList && decide (1≤(cs.map (·.1)).length) && decide ((cs.map (·.1)).length≤8) && decide ((cs.map (·.2)).length=(cs.map (·.1)).length) && (cs.map (·.1)).all (fun s=>nameB s.data.toList) && (cs.map (·.2)).all rightTy)=true
    rw[List.length_map,List.length_map,g1.1,decide_eq_true g3.1,decide_eq_true g3.2.1,decide_eq_true rfl,
     (List.all_eq_true.2 (by simpa using fun a b hx=>(hc (a,b) hx).1):(cs.map (·.1)).all (fun s=>nameB s.data.toList)=true),
     (List.all_eq_true.2 (by simpa using fun a b hx=>(hc (b,a) hx).2):(cs.map (·.2)).all rightTy=true)]
    rfl
theorem markL_good {s:ByteArray} {inn:Bool}:∀ {ds es:List De},ds.all rightD=true→markL s inn ds=some es→es.all rightD=true∧es.length=ds.length
 | [],_,_,h=>by cases h
 | d::ds,es,hd,h=>by
  unfold markL at h
  rw[List.all_cons,Bool.and_eq_true] at hd
  by_cases h1:d.rel.data.toList=s.data.toList
  ·rw[if_pos h1] at h
   by_cases h2:(if inn=true then d.inn else d.out)=true
   ·rw[if_pos h2] at h;cases h
   ·rw[if_neg h2] at h
    cases h
    rw[List.all_cons,hd.2,Bool.and_true]
    exact⟨hd.1,rfl⟩
  ·rw[if_neg h1] at h
   cases hm:markL s inn ds with
   | none=>rw[hm] at h;cases h
   | some fs=>
    rw[hm] at h
    cases h
    have:=markL_good hd.2 hm
    rw[List.all_cons,hd.1,this.1,List.length_cons,List.length_cons,this.2]
    exact⟨rfl,rfl⟩
theorem mark_good {inn:Bool} {ds es:List De} {l q:List TokI} (hl:NmOk l) (hd:ds.all rightD=true) (h:markP inn ds l=.ok (es,q)):es.all rightD=true∧es.length=ds.length∧NmOk q:=by
 unfold markP at h
 cases h1:nameP l with
 | error e=>rw[h1] at h;cases h
 | ok p=>
  obtain⟨s,q1⟩:=p
  rw[h1] at h
  have g1:=name_good hl h1
  simp only at h
  cases hm:markL s inn ds with
  | none=>rw[hm] at h;cases h
  | some fs=>
   rw[hm] at h
   cases h
   have:=markL_good hd hm
   exact⟨this.1,this.2,g1.2⟩
def GoodP (p:Pg):Prop:=p.decls.length≤60∧p.rules.length≤200∧p.decls.all rightD=true∧p.rules.all rightR=true
theorem item_good {p p':Pg} {l q:List TokI} (hp:GoodP p) (hl:NmOk l) (h:itemP p l=.ok (p',q)):GoodP p'∧NmOk q:=by
 obtain⟨p1,p2,p3,p4⟩:=hp
 unfold itemP at h
 by_cases h1:nextB 5 [46,100,101,99,108] l=true
 ·rw[if_pos h1] at h
  by_cases h2:p.decls.length=60
  ·rw[if_pos h2] at h;cases h
  ·rw[if_neg h2] at h
   cases hs:declP (lineL l) l.tail with
   | error e=>rw[hs] at h;cases h
   | ok x=>
    rw[hs] at h
    have g:=decl_good hl.tl hs
    cases h
    exact⟨⟨by show (p.decls++[x.1]).length≤60;simp;omega,p2,by show (p.decls++[x.1]).all rightD=true;simp[p3,g.1],p4⟩,g.2⟩
 rw[if_neg h1] at h
 by_cases h1:nextB 5 [46,105,110,112,117,116] l=true
 ·rw[if_pos h1] at h
  cases hs:markP true p.decls l.tail with
  | error e=>rw[hs] at h;cases h
  | ok x=>
   rw[hs] at h
   have g:=mark_good hl.tl p3 hs
   cases h
   exact⟨⟨by show x.1.length≤60;omega,p2,g.1,p4⟩,g.2.2⟩
 rw[if_neg h1] at h
 by_cases h1:nextB 5 [46,111,117,116,112,117,116] l=true
 ·rw[if_pos h1] at h
  cases hs:markP false p.decls l.tail with
  | error e=>rw[hs] at h;cases h
  | ok x=>
   rw[hs] at h
   have g:=mark_good hl.tl p3 hs
   cases h
   exact⟨⟨by show x.1.length≤60;omega,p2,g.1,p4⟩,g.2.2⟩
 rw[if_neg h1] at h
 by_cases h2:p.rules.length=200
 ·rw[if_pos h2] at h;cases h
 ·rw[if_neg h2] at h
  cases hs:ruleP l with
  | error e=>rw[hs] at h;cases h
  | ok x=>
   rw[hs] at h
   have g:=rule_good hl hs
   cases h
   exact⟨⟨p1,by show (p.rules++[x.1]).length≤200;simp;omega,p3,by show (p.rules++[x.1]).all rightR=true;simp[p4,g.1]⟩,g.2⟩
theorem items_good:∀ (n:Nat) (p p':Pg) (l:List TokI),l.length≤n→GoodP p→NmOk l→itemsP p l=.ok p'→GoodP p':=by
 intro n
 induction n with
 | zero=>
  intro p p' l hl hp hn h
  have:l=[]:=List.eq_nil_of_length_eq_zero (by omega)
  subst this
  rw[itemsP_nil] at h
  cases h
  exact hp
 | succ n ih=>
  intro p p' l hl hp hn h
  by_cases he:l=[]
  ·subst he
   rw[itemsP_nil] at h
   cases h
   exact hp
  ·rw[itemsP_eq p he] at h
   cases hs:itemP p l with
   | error e=>rw[hs] at h;cases h
   | ok x=>
    rw[hs] at h
    have h1:=itemP_less hs
    have g:=item_good hp hn hs
    exact ih _ _ _ (by omega) g.1 g.2 h
theorem parse_right {l:List TokI} {p:Pg} (hl:NmOk l) (h:parseP l=(p,0,0)):rightP p=true:=by
 unfold parseP at h
 split at h
 ·cases h
 cases hs:itemsP ⟨[],[]⟩ l with
 | error e=>
  rw[hs] at h
  have h':(⟨[],[]⟩:Pg)=p:=congrArg Prod.fst h
  rw[← h']
  rfl
 | ok x=>
  rw[hs] at h
  cases h
  obtain⟨h1,h2,h3,h4⟩:=items_good _ _ _ _ (Nat.le_refl _) ⟨Nat.zero_le _,Nat.zero_le _,rfl,rfl⟩ hl hs
  unfold rightP
  rw[decide_eq_true h1,decide_eq_true h2,h3,h4]
  rfl
end Go.Proofs.YtdgbajnhhhjbcaaGreatDoor
