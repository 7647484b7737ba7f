/- Para@2, Para2@2, Parb@2 -/
import Derived.Test.YtdgbajnhhhjbcaaGreatDoorQ22
set_option linter.unusedSimpArgs false
set_option linter.unusedVariables false
namespace Go.Proofs.YtdgbajnhhhjbcaaGreatDoor
theorem nextB_app {k:Int} {s:List UInt8} {l:List TokI} (b:List TokI) (hl:l≠[]):nextB k s (l++b)=nextB k s l:=by
 cases l with
 | nil=>exact absurd rfl hl
 | cons t r=>rfl
theorem nmAt_app {l:List TokI} (b:List TokI) (hl:l≠[]):nmAt (l++b)=nmAt l:=by
 cases l with
 | nil=>exact absurd rfl hl
 | cons t r=>rfl
theorem lineL_app {l:List TokI} (b:List TokI) (hl:l≠[]):lineL (l++b)=lineL l:=by
 cases l with
 | nil=>exact absurd rfl hl
 | cons t r=>rfl
theorem tail_app {l:List TokI} (b:List TokI) (hl:l≠[]):(l++b).tail=l.tail++b:=by
 cases l with
 | nil=>exact absurd rfl hl
 | cons t r=>rfl
theorem mustP_app {α:Type} {k:Int} {s:List UInt8} {x y:α} {l q:List TokI} (b:List TokI) (h:mustP k s x l=.ok (y,q)):mustP k s x (l++b)=.ok (y,q++b)∧l≠[]:=by
 have h1:=(mustP_ok h).1
 have hl:=next_ne h1
 refine⟨?_,hl⟩
 unfold mustP at h ⊢
 rw[if_pos h1] at h
 rw[nextB_app b hl,if_pos h1,tail_app b hl]
 cases h
 rfl
theorem nameP_app {l q:List TokI} {s:ByteArray} (b:List TokI) (h:nameP l=.ok (s,q)):nameP (l++b)=.ok (s,q++b):=by
 obtain⟨t,rfl,h1,rfl⟩:=nameP_ok h
 show (if isNm t=true then Except.ok (t.s,q++b) else .error ((40:Int),t.line))=_
 rw[if_pos h1]
theorem minusP_app {l q:List TokI} {x:Tm} (b:List TokI) (h:minusP l=.ok (x,q)):minusP (l++b)=.ok (x,q++b):=by
 cases l with
 | nil=>cases h
 | cons u r=>
  have h:(if u.kind=2 then Except.ok (intT (-(digitsI u.s.data.toList)),r) else .error ((40:Int),u.line))=Except.ok (x,q):=h
  show (if u.kind=2 then Except.ok (intT (-(digitsI u.s.data.toList)),r++b) else .error ((40:Int),u.line))=_
  by_cases hn:u.kind=2
  ·rw[if_pos hn] at h ⊢
   cases h
   rfl
  ·rw[if_neg hn] at h
   cases h
theorem sum_app:∀ (n:Nat) (l b:List TokI),l.length≤n →
  (∀ x q,thingP l=.ok (x,q)→thingP (l++b)=.ok (x,q++b))∧(∀ z x q,q≠[]→timesP z l=.ok (x,q)→timesP z (l++b)=.ok (x,q++b))∧(∀ x q,q≠[]→productP l=.ok (x,q)→productP (l++b)=.ok (x,q++b)) ∧
  (∀ z x q,q≠[]→plusP z l=.ok (x,q)→plusP z (l++b)=.ok (x,q++b))∧(∀ x q,q≠[]→sumP l=.ok (x,q)→sumP (l++b)=.ok (x,q++b)):=by
 intro n
 induction n with
 | zero=>
  intro l b hl
  have:l=[]:=List.eq_nil_of_length_eq_zero (by omega)
  subst this
  refine⟨?_,?_,?_,?_,?_⟩
  ·intro x q h;rw[thingP] at h;cases h
  ·intro z x q hq h;rw[timesP] at h;cases h;exact absurd rfl hq
  ·intro x q hq h;rw[productP,thingP] at h;cases h
  ·intro z x q hq h;rw[plusP] at h;cases h;exact absurd rfl hq
  ·intro x q hq h;rw[sumP,productP,thingP] at h;cases h
 | succ n ih=>
  intro l b hl
  cases l with
  | nil=>exact ih [] b (Nat.zero_le _)
  | cons t r=>
   have hr:r.length≤n:=by simpa using hl
   have I:=ih r b hr
   have h1:∀ x q,thingP (t::r)=.ok (x,q)→thingP (t::r++b)=.ok (x,q++b):=by
    intro x q h
    rw[List.cons_append]
    rw[thingP] at h ⊢
    by_cases c1:t.kind=2
    ·rw[if_pos c1] at h ⊢;cases h;rfl
    rw[if_neg c1] at h ⊢
    by_cases c2:t.kind=3
    ·rw[if_pos c2] at h ⊢;cases h;rfl
    rw[if_neg c2] at h ⊢
    by_cases c3:isNm t=true
    ·rw[if_pos c3] at h ⊢;cases h;rfl
    rw[if_neg c3] at h ⊢
    by_cases c4:tokB 4 [45] t=true
    ·rw[if_pos c4] at h ⊢;exact minusP_app b h
    rw[if_neg c4] at h ⊢
    by_cases c5:tokB 4 [40] t=true
    ·rw[if_pos c5] at h ⊢
     cases hs:sumP r with
     | error e=>rw[hs] at h;cases h
     | ok p=>
      obtain⟨y,q1⟩:=p
      rw[hs] at h
      have hm:=mustP_app b h
      rw[I.2.2.2.2 y q1 hm.2 hs]
      exact hm.1
    ·rw[if_neg c5] at h;cases h
   have h2:∀ z x q,q≠[]→timesP z (t::r)=.ok (x,q)→timesP z (t::r++b)=.ok (x,q++b):=by
    intro z x q hq h
    rw[List.cons_append]
    by_cases ht:tokB 4 [42] t=true
    ·rw[timesP_sign z r ht] at h
     rw[timesP_sign z (r++b) ht]
     cases hs:thingP r with
     | error e=>rw[hs] at h;cases h
     | ok p=>
      obtain⟨y,q1⟩:=p
      rw[hs] at h
      rw[I.1 y q1 hs]
      simp only at h ⊢
      split at h
      ·cases h
      next h3=>
       rw[if_neg h3]
       exact (ih q1 b (Nat.le_trans (Nat.le_of_lt (thing_less hs)) hr)).2.1 _ _ _ hq h
    ·rw[timesP_else z (l:=t::r) (by simpa[nextB] using ht)] at h
     rw[timesP_else z (l:=t::(r++b)) (by simpa[nextB] using ht)]
     cases h
     rfl
   have h3:∀ x q,q≠[]→productP (t::r)=.ok (x,q)→productP (t::r++b)=.ok (x,q++b):=by
    intro x q hq h
    rw[productP_eq] at h ⊢
    cases hs:thingP (t::r) with
    | error e=>rw[hs] at h;cases h
    | ok p=>
     obtain⟨y,q1⟩:=p
     rw[hs] at h
     rw[h1 y q1 hs]
     have h6:=thing_less hs
     rw[List.length_cons] at h6
     exact (ih q1 b (by omega)).2.1 _ _ _ hq h
   have h4:∀ z x q,q≠[]→plusP z (t::r)=.ok (x,q)→plusP z (t::r++b)=.ok (x,q++b):=by
    intro z x q hq h
    rw[List.cons_append]
    by_cases ht:tokB 4 [43] t=true∨tokB 4 [45] t=true
    ·rw[plusP_sign z r ht] at h
     rw[plusP_sign z (r++b) ht]
     cases hs:productP r with
     | error e=>rw[hs] at h;cases h
     | ok p=>
      obtain⟨y,q1⟩:=p
      rw[hs] at h
      simp only at h
      have hq1:q1≠[]:=by
       rintro rfl
       split at h
       ·cases h
       ·rw[plusP_else _ rfl rfl] at h;cases h;exact hq rfl
      rw[I.2.2.1 y q1 hq1 hs]
      simp only
      split at h
      ·cases h
      next h3=>
       rw[if_neg h3]
       exact (ih q1 b (Nat.le_trans (Nat.le_of_lt (product_less hs)) hr)).2.2.2.1 _ _ _ hq h
    ·rw[plusP_else z (l:=t::r) (by simpa[nextB] using fun e=>ht (.inl e)) (by simpa[nextB] using fun e=>ht (.inr e))] at h
     rw[plusP_else z (l:=t::(r++b)) (by simpa[nextB] using fun e=>ht (.inl e)) (by simpa[nextB] using fun e=>ht (.inr e))]
     cases h
     rfl
   refine⟨h1,h2,h3,h4,?_⟩
   intro x q hq h
   rw[sumP_eq] at h ⊢
   cases hs:productP (t::r) with
   | error e=>rw[hs] at h;cases h
   | ok p=>
    obtain⟨y,q1⟩:=p
    rw[hs] at h
    simp only at h
    have hq1:q1≠[]:=by
     rintro rfl
     rw[plusP_else _ rfl rfl] at h;cases h;exact hq rfl
    rw[h3 y q1 hq1 hs]
    have h6:=product_less hs
    rw[List.length_cons] at h6
    exact (ih q1 b (by omega)).2.2.2.1 _ _ _ hq h
theorem expr_ne {l q:List TokI} {x:Tm} (h:exprP l=.ok (x,q)):l≠[]:=by
 rintro rfl
 exact absurd (exprP_less h).2.2 (Nat.not_lt_zero _)
theorem exprP_app {l q:List TokI} {x:Tm} (b:List TokI) (hq:q≠[]) (h:exprP l=.ok (x,q)):exprP (l++b)=.ok (x,q++b):=by
 obtain⟨h1,h2,_⟩:=exprP_less h
 unfold exprP
 rw[(sum_app _ l b (Nat.le_refl _)).2.2.2.2 x q hq h1]
 exact if_neg h2
theorem argP_app {l q:List TokI} {x:Tm} (b:List TokI) (hq:q≠[]) (h:argP l=.ok (x,q)):argP (l++b)=.ok (x,q++b):=by
 have hl:l≠[]:=by
  rintro rfl
  exact absurd (argP_less h) (Nat.not_lt_zero _)
 unfold argP at h ⊢
 rw[nextB_app b hl]
 split at h
 next hn=>rw[if_pos hn,tail_app b hl];cases h;rfl
 next hn=>rw[if_neg hn];exact exprP_app b hq h
theorem argsP_app:∀ (n:Nat) (acc:List Tm) (l b q:List TokI) (x:List Tm),l.length≤n→q≠[]→argsP acc l=.ok (x,q)→argsP acc (l++b)=.ok (x,q++b):=by
 intro n
 induction n with
 | zero=>
  intro acc l b q x hl hq h
  exact absurd (argsP_less _ _ _ _ _ (Nat.le_refl _) h) (by omega)
 | succ n ih=>
  intro acc l b q x hl hq h
  rw[argsP_eq] at h ⊢
  split at h
  ·cases h
  next h8=>
   rw[if_neg h8]
   cases hs:argP l with
   | error e=>rw[hs] at h;cases h
   | ok p=>
    obtain⟨y,q1⟩:=p
    rw[hs] at h
    simp only at h
    have h1:=argP_less hs
    have hq1:q1≠[]:=by
     rintro rfl
     rw[if_neg (by decide)] at h
     cases h
     exact hq rfl
    rw[argP_app b hq1 hs]
    simp only
    rw[nextB_app b hq1,tail_app b hq1]
    split at h
    next hn=>rw[if_pos hn];exact ih _ _ _ _ _ (by rw[List.length_tail];omega) hq h
    next hn=>rw[if_neg hn];cases h;rfl
theorem atomP_app {l q:List TokI} {a:Am} (b:List TokI) (h:atomP l=.ok (a,q)):atomP (l++b)=.ok (a,q++b):=by
 unfold atomP at h ⊢
 cases h1:nameP l with
 | error e=>rw[h1] at h;cases h
 | ok p=>
  obtain⟨s,q1⟩:=p
  rw[h1] at h
  rw[nameP_app b h1]
  simp only at h ⊢
  cases h2:mustP 4 [40] () q1 with
  | error e=>rw[h2] at h;cases h
  | ok p=>
   obtain⟨u,q2⟩:=p
   rw[h2] at h
   rw[(mustP_app b h2).1]
   simp only at h ⊢
   cases h3:argsP [] q2 with
   | error e=>rw[h3] at h;cases h
   | ok p=>
    obtain⟨ats,q3⟩:=p
    rw[h3] at h
    simp only at h
    have hm:=mustP_app b h
    rw[argsP_app _ _ _ b _ _ (Nat.le_refl _) hm.2 h3]
    exact hm.1
theorem bracedP_app {op:Int} {x y:Tm} {l q:List TokI} {a:Lt} (b:List TokI) (h:bracedP op x y l=.ok (a,q)):bracedP op x y (l++b)=.ok (a,q++b):=by
 unfold bracedP at h ⊢
 cases h1:mustP 4 [58] () l with
 | error e=>rw[h1] at h;cases h
 | ok p=>
  obtain⟨s,q1⟩:=p
  rw[h1] at h
  rw[(mustP_app b h1).1]
  simp only at h ⊢
  cases h2:mustP 4 [123] () q1 with
  | error e=>rw[h2] at h;cases h
  | ok p=>
   obtain⟨u,q2⟩:=p
   rw[h2] at h
   rw[(mustP_app b h2).1]
   simp only at h ⊢
   cases h3:atomP q2 with
   | error e=>rw[h3] at h;cases h
   | ok p=>
    obtain⟨ats,q3⟩:=p
    rw[h3] at h
    rw[atomP_app b h3]
    exact (mustP_app b h).1
theorem litP_app {op:Int} {l q:List TokI} {a:Lt} (b:List TokI) (h:litP op l=.ok (a,q)):litP op (l++b)=.ok (a,q++b):=by
 unfold litP at h ⊢
 cases h1:atomP l with
 | error e=>rw[h1] at h;cases h
 | ok p=>
  rw[h1] at h
  rw[atomP_app b h1]
  cases h
  rfl
theorem heldP_app {x:Tm} {l q:List TokI} {a:Lt} (b:List TokI) (hq:q≠[]) (h:heldP x l=.ok (a,q)):heldP x (l++b)=.ok (a,q++b):=by
 cases l with
 | nil=>cases h
 | cons t r=>
  rw[List.cons_append]
  unfold heldP at h ⊢
  simp only at h ⊢
  cases h0:(if t.kind=4 then signP t.s.data.toList else none) with
  | none=>rw[h0] at h;cases h
  | some p=>
   obtain⟨op,turn⟩:=p
   rw[h0] at h
   simp only at h ⊢
   cases hs:exprP r with
   | error e=>rw[hs] at h;cases h
   | ok p=>
    obtain⟨y,q1⟩:=p
    rw[hs] at h
    simp only at h
    have hq1:q1=q:=by cases h;rfl
    rw[exprP_app b (hq1 ▸ hq) hs]
    cases h
    rfl
theorem expr_var {t:TokI} {r:List TokI} (h:isNm t=true) (h1:nextB 4 [42] r=false) (h2:nextB 4 [43] r=false) (h3:nextB 4 [45] r=false):exprP (t::r)=.ok (.mk 1 t.s 0 [],r):=by
 have hk:t.kind=1:=by
  unfold isNm at h
  rw[Bool.and_eq_true] at h
  simpa using h.1
 have ht:thingP (t::r)=.ok (.mk 1 t.s 0 [],r):=by
  rw[thingP,if_neg (by omega),if_neg (by omega),if_pos h]
 unfold exprP
 rw[sumP_eq,productP_eq,ht]
 simp only
 rw[timesP_else _ h1]
 simp only
 rw[plusP_else _ h2 h3]
 simp only
 rw[if_neg]
 rw[highT,highTs]
 decide
theorem how_two (t w:TokI):howP [t,w]=0:=by
 show (if tokB 4 [61] t=true∧w.kind=1 then (if w.s.data.toList=[99,111,117,110,116]∧nextB 4 [58] []=true then (7:Int) else if nmAt []=true∧nextB 4 [58] []=true then _ else 0) else 0)=0
 rw[if_neg (show ¬ (w.s.data.toList=[99,111,117,110,116]∧nextB 4 [58] []=true) from fun h=>by cases h.2),if_neg (show ¬ (nmAt []=true∧nextB 4 [58] []=true) from fun h=>by cases h.1)]
 exact ite_self _
theorem how_app4 (t w u v:TokI) (l b:List TokI):howP (t::w::u::v::l++b)=howP (t::w::u::v::l):=rfl
theorem how_three (t w u:TokI) (b:List TokI) (h:howP [t,w,u]≠0):howP ([t,w,u]++b)=howP [t,w,u]:=by
 have e:∀ l4,howP (t::w::u::l4)=(if tokB 4 [61] t=true∧w.kind=1 then (if w.s.data.toList=[99,111,117,110,116]∧tokB 4 [58] u=true then (7:Int) else if isNm u=true∧nextB 4 [58] l4=true then (if w.s.data.toList=[115,117,109] then 8 else if w.s.data.toList=[109,105,110] then 9 else if w.s.data.toList=[109,97,120] then 10 else 0) else 0) else 0):=fun _=>rfl
 rw[show [t,w,u]++b=t::w::u::b from rfl,e,e]
 rw[e] at h
 by_cases c1:tokB 4 [61] t=true∧w.kind=1
 ·rw[if_pos c1] at h ⊢
  rw[if_pos c1]
  by_cases c2:w.s.data.toList=[99,111,117,110,116]∧tokB 4 [58] u=true
  ·rw[if_pos c2,if_pos c2]
  ·rw[if_neg c2,if_neg (show ¬ (isNm u=true∧nextB 4 [58] []=true) from fun h=>by cases h.2)] at h
   exact absurd rfl h
 ·rw[if_neg c1] at h
  exact absurd rfl h
theorem how_pos {q:List TokI} (b:List TokI) (h:howP q≠0):howP (q++b)=howP q∧2≤q.length:=by
 match q,h with
 | [],h=>exact absurd rfl h
 | [t],h=>exact absurd rfl h
 | [t,w],h=>exact absurd (how_two t w) h
 | [t,w,u],h=>exact⟨how_three t w u b h,by simp⟩
 | t::w::u::v::l,_=>exact⟨how_app4 t w u v l b,by simp⟩
theorem held_expr {x:Tm} {t:TokI} {r q:List TokI} {a:Lt} (h:heldP x (t::r)=.ok (a,q)):∃ y,exprP r=.ok (y,q):=by
 unfold heldP at h
 simp only at h
 cases h0:(if t.kind=4 then signP t.s.data.toList else none) with
 | none=>rw[h0] at h;cases h
 | some p=>
  obtain⟨op,turn⟩:=p
  rw[h0] at h
  simp only at h
  cases hs:exprP r with
  | error e=>rw[hs] at h;cases h
  | ok p=>
   obtain⟨y,q1⟩:=p
   rw[hs] at h
   cases h
   exact⟨y,rfl⟩
theorem nm_kind {t:TokI} (h:isNm t=true):t.kind=1:=by
 unfold isNm at h
 rw[Bool.and_eq_true] at h
 simpa using h.1
theorem not_tok {k:Int} {s:List UInt8} {t:TokI} (h:t.kind≠k):tokB k s t=false:=by
 cases ht:tokB k s t with
 | false=>rfl
 | true=>exact absurd (tok_kind ht) h
theorem how_zero {x:Tm} {q q':List TokI} {a:Lt} (b:List TokI) (h:howP q=0) (hh:heldP x q=.ok (a,q')) (he:Ends q'):howP (q++b)=0:=by
 match q,h,hh with
 | [],_,hh=>cases hh
 | [t],_,hh=>
  obtain⟨y,hy⟩:=held_expr hh
  exact absurd rfl (expr_ne hy)
 | [t,w],_,hh=>
  obtain⟨y,hy⟩:=held_expr hh
  have:=(exprP_less hy).2.2
  rw[List.length_singleton] at this
  exact absurd (List.eq_nil_of_length_eq_zero (by omega)) he.ne
 | [t,w,u],h,hh=>
  obtain⟨y,hy⟩:=held_expr hh
  have e:∀ l4,howP (t::w::u::l4)=(if tokB 4 [61] t=true∧w.kind=1 then (if w.s.data.toList=[99,111,117,110,116]∧tokB 4 [58] u=true then (7:Int) else if isNm u=true∧nextB 4 [58] l4=true then (if w.s.data.toList=[115,117,109] then 8 else if w.s.data.toList=[109,105,110] then 9 else if w.s.data.toList=[109,97,120] then 10 else 0) else 0) else 0):=fun _=>rfl
  rw[show [t,w,u]++b=t::w::u::b from rfl,e]
  rw[e] at h
  by_cases c1:tokB 4 [61] t=true∧w.kind=1
  ·rw[if_pos c1] at h ⊢
   by_cases c2:w.s.data.toList=[99,111,117,110,116]∧tokB 4 [58] u=true
   ·rw[if_pos c2] at h;cases h
   ·rw[if_neg c2]
    by_cases c3:isNm u=true
    ·exfalso
     have k1:=nm_kind c3
     by_cases c4:isNm w=true
     ·have nt:∀ s,nextB 4 s [u]=false:=fun s=>not_tok (t:=u) (by omega)
      rw[expr_var c4 (nt _) (nt _) (nt _)] at hy
      cases hy
      rcases he with he | he
      ·exact absurd (tok_kind (t:=u) he) (by omega)
      ·exact absurd (tok_kind (t:=u) he) (by omega)
     ·have k2:=c1.2
      obtain⟨hy,_,_⟩:=exprP_less hy
      rw[sumP_eq,productP_eq,thingP,if_neg (by omega),if_neg (by omega),if_neg c4,if_neg (by rw[not_tok (by omega)];decide),if_neg (by rw[not_tok (by omega)];decide)] at hy
      cases hy
    ·rw[if_neg (fun h=>c3 h.1)]
  ·rw[if_neg c1]
 | t::w::u::v::l,h,_=>rw[how_app4,h]
theorem aggregateP_app {op:Int} {x:Tm} {l q:List TokI} {a:Lt} (b:List TokI) (hl:2≤l.length) (h:aggregateP op x l=.ok (a,q)):aggregateP op x (l++b)=.ok (a,q++b):=by
 have hd:(l++b).drop 2=l.drop 2++b:=List.drop_append_of_le_length hl
 unfold aggregateP at h ⊢
 rw[hd]
 split at h
 next hop=>
  rw[if_pos hop]
  split at h
  next h7=>rw[if_pos h7];exact bracedP_app b h
  next h7=>
   rw[if_neg h7]
   cases h1:nameP (l.drop 2) with
   | error e=>rw[h1] at h;cases h
   | ok p=>
    obtain⟨s,q1⟩:=p
    rw[h1] at h
    rw[nameP_app b h1]
    exact bracedP_app b h
 next=>cases h
theorem partP_app {l q:List TokI} {a:Lt} (b:List TokI) (he:Ends q) (h:partP l=.ok (a,q)):partP (l++b)=.ok (a,q++b):=by
 have hl:l≠[]:=by
  rintro rfl
  exact absurd (partP_less h) (Nat.not_lt_zero _)
 unfold partP at h ⊢
 rw[nextB_app b hl,nmAt_app b hl,tail_app b hl]
 by_cases h1:nextB 4 [33] l=true
 ·rw[if_pos h1] at h ⊢
  exact litP_app b h
 rw[if_neg h1] at h ⊢
 by_cases h2:nmAt l=true∧nextB 4 [40] l.tail=true
 ·rw[if_pos h2] at h
  rw[if_pos (by rw[nextB_app b (next_ne h2.2)];exact h2)]
  exact litP_app b h
 rw[if_neg h2] at h
 cases hs:exprP l with
 | error e=>rw[hs] at h;cases h
 | ok p=>
  obtain⟨x,q1⟩:=p
  rw[hs] at h
  simp only at h
  have hq1:q1≠[]:=by
   rintro rfl
   rw[if_pos (show howP []=0 from rfl)] at h
   cases h
  have h3:=(exprP_less hs).2.2
  have ht:l.tail≠[]:=by
   intro e
   have h5:=congrArg List.length e
   rw[List.length_tail] at h5
   have:0 < q1.length:=List.length_pos_iff.2 hq1
   simp at h5
   omega
  rw[if_neg (by rw[nextB_app b ht];exact h2),exprP_app b hq1 hs]
  simp only
  by_cases h4:howP q1=0
  ·rw[if_pos h4] at h
   rw[if_pos (how_zero b h4 h he)]
   exact heldP_app b he.ne h
  ·rw[if_neg h4] at h
   have h6:=how_pos b h4
   rw[h6.1,if_neg h4]
   exact aggregateP_app b h6.2 h
theorem bodyP_app:∀ (n:Nat) (acc:List Lt) (l b q:List TokI) (x:List Lt),l.length≤n→nextB 4 [46] q=true→bodyP acc l=.ok (x,q)→bodyP acc (l++b)=.ok (x,q++b):=by
 intro n
 induction n with
 | zero=>
  intro acc l b q x hl hq h
  have:l=[]:=List.eq_nil_of_length_eq_zero (by omega)
  subst this
  rw[bodyP_eq] at h
  split at h
  ·cases h
  ·cases hs:partP [] with
   | error e=>rw[hs] at h;cases h
   | ok p=>exact absurd (partP_less hs) (Nat.not_lt_zero _)
 | succ n ih=>
  intro acc l b q x hl hq h
  rw[bodyP_eq] at h ⊢
  split at h
  ·cases h
  next h8=>
   rw[if_neg h8]
   cases hs:partP l with
   | error e=>rw[hs] at h;cases h
   | ok p=>
    obtain⟨y,q1⟩:=p
    rw[hs] at h
    simp only at h
    have h1:=partP_less hs
    by_cases hn:nextB 4 [44] q1=true
    ·rw[if_pos hn] at h
     rw[partP_app b (.inl hn) hs]
     simp only
     rw[nextB_app b (next_ne hn),if_pos hn,tail_app b (next_ne hn)]
     exact ih _ _ _ _ _ (by rw[List.length_tail];omega) hq h
    ·rw[if_neg hn] at h
     cases h
     rw[partP_app b (.inr hq) hs]
     simp only
     rw[nextB_app b (next_ne hq),if_neg hn]
theorem end_dot {line:Int} {a:Am} {b:List Lt} {l q:List TokI} {r:Ru} (h:endP line a b l=.ok (r,q)):nextB 4 [46] l=true:=by
 unfold endP at h
 cases h1:mustP 4 [46] () l with
 | error e=>rw[h1] at h;cases h
 | ok p=>exact (mustP_ok h1).1
theorem endP_app {line:Int} {a:Am} {c:List Lt} {l q:List TokI} {r:Ru} (b:List TokI) (h:endP line a c l=.ok (r,q)):endP line a c (l++b)=.ok (r,q++b):=by
 unfold endP at h ⊢
 cases h1:mustP 4 [46] () l with
 | error e=>rw[h1] at h;cases h
 | ok p=>
  rw[h1] at h
  rw[(mustP_app b h1).1]
  simp only at h ⊢
  split at h
  next hh=>rw[if_pos hh];cases h;rfl
  next=>cases h
theorem ruleP_app {l q:List TokI} {r:Ru} (b:List TokI) (h:ruleP l=.ok (r,q)):ruleP (l++b)=.ok (r,q++b):=by
 have hl:l≠[]:=by
  rintro rfl
  exact absurd (ruleP_less h) (Nat.not_lt_zero _)
 unfold ruleP at h ⊢
 rw[lineL_app b hl]
 cases h1:atomP l with
 | error e=>rw[h1] at h;cases h
 | ok p=>
  obtain⟨a,q1⟩:=p
  rw[h1] at h
  rw[atomP_app b h1]
  simp only at h ⊢
  split at h
  next hh=>
   rw[if_pos hh]
   split at h
   next hn=>
    rw[nextB_app b (next_ne hn),if_pos hn,tail_app b (next_ne hn)]
    cases h2:bodyP [] q1.tail with
    | error e=>rw[h2] at h;cases h
    | ok p=>
     obtain⟨c,q2⟩:=p
     rw[h2] at h
     rw[bodyP_app _ _ _ b _ _ (Nat.le_refl _) (end_dot h) h2]
     exact endP_app b h
   next hn=>
    rw[nextB_app b (next_ne (end_dot h)),if_neg hn]
    exact endP_app b h
  next=>cases h
theorem typeP_app {l q:List TokI} {n:Int} (b:List TokI) (h:typeP l=.ok (n,q)):typeP (l++b)=.ok (n,q++b):=by
 have hl:l≠[]:=by
  rintro rfl
  exact absurd (typeP_less h) (Nat.not_lt_zero _)
 unfold typeP at h ⊢
 rw[nextB_app b hl]
 split at h
 next hn=>rw[if_pos hn,tail_app b hl];cases h;rfl
 next hn=>rw[if_neg hn];exact (mustP_app b h).1
theorem columnP_app {l q:List TokI} {x:ByteArray × Int} (b:List TokI) (h:columnP l=.ok (x,q)):columnP (l++b)=.ok (x,q++b):=by
 unfold columnP at h ⊢
 cases h1:nameP l with
 | error e=>rw[h1] at h;cases h
 | ok p=>
  obtain⟨s,q1⟩:=p
  rw[h1] at h
  rw[nameP_app b h1]
  simp only at h ⊢
  cases h2:mustP 4 [58] () q1 with
  | error e=>rw[h2] at h;cases h
  | ok p=>
   obtain⟨u,q2⟩:=p
   rw[h2] at h
   rw[(mustP_app b h2).1]
   simp only at h ⊢
   cases h3:typeP q2 with
   | error e=>rw[h3] at h;cases h
   | ok p=>
    obtain⟨n,q3⟩:=p
    rw[h3] at h
    rw[typeP_app b h3]
    cases h
    rfl
theorem columnsP_app:∀ (n:Nat) (acc:List (ByteArray × Int)) (l b q:List TokI) (x:List (ByteArray × Int)),l.length≤n→q≠[]→columnsP acc l=.ok (x,q)→columnsP acc (l++b)=.ok (x,q++b):=by
 intro n
 induction n with
 | zero=>
  intro acc l b q x hl hq h
  have:l=[]:=List.eq_nil_of_length_eq_zero (by omega)
  subst this
  rw[columnsP_eq] at h
  split at h
  ·cases h
  ·cases hs:columnP [] with
   | error e=>rw[hs] at h;cases h
   | ok p=>exact absurd (columnP_less hs) (Nat.not_lt_zero _)
 | succ n ih=>
  intro acc l b q x hl hq h
  rw[columnsP_eq] at h ⊢
  split at h
  ·cases h
  next h8=>
   rw[if_neg h8]
   cases hs:columnP l with
   | error e=>rw[hs] at h;cases h
   | ok p=>
    obtain⟨y,q1⟩:=p
    rw[hs] at h
    simp only at h
    have h1:=columnP_less hs
    rw[columnP_app b hs]
    simp only
    split at h
    next hn=>
     rw[nextB_app b (next_ne hn),if_pos hn,tail_app b (next_ne hn)]
     exact ih _ _ _ _ _ (by rw[List.length_tail];omega) hq h
    next hn=>
     cases h
     rw[nextB_app b hq,if_neg hn]
theorem declP_app {line:Int} {l q:List TokI} {d:De} (b:List TokI) (h:declP line l=.ok (d,q)):declP line (l++b)=.ok (d,q++b):=by
 unfold declP at h ⊢
 cases h1:nameP l with
 | error e=>rw[h1] at h;cases h
 | ok p=>
  obtain⟨s,q1⟩:=p
  rw[h1] at h
  rw[nameP_app b h1]
  simp only at h ⊢
  cases h2:mustP 4 [40] () q1 with
  | error e=>rw[h2] at h;cases h
  | ok p=>
   obtain⟨u,q2⟩:=p
   rw[h2] at h
   rw[(mustP_app b h2).1]
   simp only at h ⊢
   cases h3:columnsP [] q2 with
   | error e=>rw[h3] at h;cases h
   | ok p=>
    obtain⟨cs,q3⟩:=p
    rw[h3] at h
    simp only at h
    have hm:=mustP_app b h
    rw[columnsP_app _ _ _ b _ _ (Nat.le_refl _) hm.2 h3]
    exact hm.1
theorem markP_app {inn:Bool} {ds es:List De} {l q:List TokI} (b:List TokI) (h:markP inn ds l=.ok (es,q)):markP inn ds (l++b)=.ok (es,q++b):=by
 unfold markP at h ⊢
 cases h1:nameP l with
 | error e=>rw[h1] at h;cases h
 | ok p=>
  obtain⟨s,q1⟩:=p
  rw[h1] at h
  rw[nameP_app b h1]
  simp only at h ⊢
  cases hm:markL s inn ds with
  | none=>rw[hm] at h;cases h
  | some fs=>rw[hm] at h;cases h;rfl
theorem itemP_app {p p':Pg} {l q:List TokI} (b:List TokI) (h:itemP p l=.ok (p',q)):itemP p (l++b)=.ok (p',q++b):=by
 have hl:l≠[]:=by
  rintro rfl
  exact absurd (itemP_less h) (Nat.not_lt_zero _)
 unfold itemP at h ⊢
 rw[nextB_app b hl,nextB_app b hl,nextB_app b hl,tail_app b hl,lineL_app b hl]
 by_cases h1:nextB 5 [46,100,101,99,108] l=true
 ·rw[if_pos h1] at h ⊢
  by_cases h2:p.decls.length=60
  ·rw[if_pos h2] at h;cases h
  ·rw[if_neg h2] at h ⊢
   cases hs:declP (lineL l) l.tail with
   | error e=>rw[hs] at h;cases h
   | ok x=>
    rw[hs] at h
    rw[declP_app b hs]
    cases h
    rfl
 rw[if_neg h1] at h ⊢
 by_cases h1:nextB 5 [46,105,110,112,117,116] l=true
 ·rw[if_pos h1] at h ⊢
  cases hs:markP true p.decls l.tail with
  | error e=>rw[hs] at h;cases h
  | ok x=>
   rw[hs] at h
   rw[markP_app b hs]
   cases h
   rfl
 rw[if_neg h1] at h ⊢
 by_cases h1:nextB 5 [46,111,117,116,112,117,116] l=true
 ·rw[if_pos h1] at h ⊢
  cases hs:markP false p.decls l.tail with
  | error e=>rw[hs] at h;cases h
  | ok x=>
   rw[hs] at h
   rw[markP_app b hs]
   cases h
   rfl
 rw[if_neg h1] at h ⊢
 by_cases h2:p.rules.length=200
 ·rw[if_pos h2] at h;cases h
 ·rw[if_neg h2] at h ⊢
  cases hs:ruleP l with
  | error e=>rw[hs] at h;cases h
  | ok x=>
   rw[hs] at h
   rw[ruleP_app b hs]
   cases h
   rfl
theorem itemsP_app:∀ (n:Nat) (p p':Pg) (l b:List TokI),l.length≤n→itemsP p l=.ok p'→itemsP p (l++b)=itemsP p' b:=by
 intro n
 induction n with
 | zero=>
  intro p p' l b hl h
  have:l=[]:=List.eq_nil_of_length_eq_zero (by omega)
  subst this
  rw[itemsP_nil] at h
  cases h
  rfl
 | succ n ih=>
  intro p p' l b hl h
  by_cases he:l=[]
  ·subst he
   rw[itemsP_nil] at h
   cases h
   rfl
  ·rw[itemsP_eq p he] at h
   rw[itemsP_eq p (l:=l++b) (by simp[he])]
   cases hs:itemP p l with
   | error e=>rw[hs] at h;cases h
   | ok x=>
    obtain⟨p1,q1⟩:=x
    rw[hs] at h
    rw[itemP_app b hs]
    have h1:=itemP_less hs
    exact ih _ _ _ _ (by omega) h
def addP (P:List De) (S:List Ru) (r:Pg):Pg:=⟨P++r.decls,S++r.rules⟩
theorem mark_names {inn:Bool} {ds es:List De} {l q:List TokI} (h:markP inn ds l=.ok (es,q)):namesD es=namesD ds:=by
 unfold markP at h
 cases h1:nameP l with
 | error e=>rw[h1] at h;cases h
 | ok p=>
  rw[h1] at h
  simp only at h
  cases hm:markL p.1 inn ds with
  | none=>rw[hm] at h;cases h
  | some fs=>rw[hm] at h;cases h;exact (markL_names hm).1
theorem mark_base {inn:Bool} {P ds es:List De} {l q:List TokI} (hP:∀ s ∈ namesD es,s ∉ namesD P) (h:markP inn ds l=.ok (es,q)):markP inn (P++ds) l=.ok (P++es,q):=by
 unfold markP at h ⊢
 cases h1:nameP l with
 | error e=>rw[h1] at h;cases h
 | ok p=>
  rw[h1] at h
  simp only at h ⊢
  cases hm:markL p.1 inn ds with
  | none=>rw[hm] at h;cases h
  | some fs=>
   rw[hm] at h
   cases h
   have g:=markL_names hm
   rw[markL_base hm (hP _ (by rw[g.1];exact g.2))]
theorem item_base {P:List De} {S:List Ru} {r r':Pg} {l q:List TokI} (hd:P.length+r'.decls.length≤60) (hr:S.length+r'.rules.length≤200) (hP:∀ s ∈ namesD r'.decls,s ∉ namesD P) (h:itemP r l=.ok (r',q)) :
  itemP (addP P S r) l=.ok (addP P S r',q)∧namesD r.decls <+: namesD r'.decls∧r.decls.length≤r'.decls.length∧r.rules.length≤r'.rules.length:=by
 unfold itemP at h ⊢
 by_cases h1:nextB 5 [46,100,101,99,108] l=true
 ·rw[if_pos h1] at h ⊢
  by_cases h2:r.decls.length=60
  ·rw[if_pos h2] at h;cases h
  ·rw[if_neg h2] at h
   cases hs:declP (lineL l) l.tail with
   | error e=>rw[hs] at h;cases h
   | ok x=>
    rw[hs] at h
    cases h
    have hd:P.length+(r.decls++[x.1]).length≤60:=hd
    rw[List.length_append,List.length_singleton] at hd
    rw[if_neg (by show ¬ (P++r.decls).length=60;rw[List.length_append];omega)]
    refine⟨by show Except.ok (Pg.mk ((P++r.decls)++[x.1]) (S++r.rules),x.2)=_;rw[List.append_assoc];rfl,?_,by show _≤(r.decls++[x.1]).length;rw[List.length_append];omega,Nat.le_refl _⟩
    show namesD r.decls <+: (r.decls++[x.1]).map _
    rw[List.map_append]
    exact List.prefix_append _ _
 rw[if_neg h1] at h ⊢
 by_cases h1:nextB 5 [46,105,110,112,117,116] l=true
 ·rw[if_pos h1] at h ⊢
  cases hs:markP true r.decls l.tail with
  | error e=>rw[hs] at h;cases h
  | ok x=>
   rw[hs] at h
   cases h
   have g:=mark_names hs
   have gl:=congrArg List.length g
   simp only[namesD,List.length_map] at gl
   rw[show (addP P S r).decls=P++r.decls from rfl,mark_base hP hs]
   exact⟨rfl,g ▸ List.prefix_refl _,Nat.le_of_eq gl.symm,Nat.le_refl _⟩
 rw[if_neg h1] at h ⊢
 by_cases h1:nextB 5 [46,111,117,116,112,117,116] l=true
 ·rw[if_pos h1] at h ⊢
  cases hs:markP false r.decls l.tail with
  | error e=>rw[hs] at h;cases h
  | ok x=>
   rw[hs] at h
   cases h
   have g:=mark_names hs
   have gl:=congrArg List.length g
   simp only[namesD,List.length_map] at gl
   rw[show (addP P S r).decls=P++r.decls from rfl,mark_base hP hs]
   exact⟨rfl,g ▸ List.prefix_refl _,Nat.le_of_eq gl.symm,Nat.le_refl _⟩
 rw[if_neg h1] at h ⊢
 by_cases h2:r.rules.length=200
 ·rw[if_pos h2] at h;cases h
 ·rw[if_neg h2] at h
  cases hs:ruleP l with
  | error e=>rw[hs] at h;cases h
  | ok x=>
   rw[hs] at h
   cases h
   have hr:S.length+(r.rules++[x.1]).length≤200:=hr
   rw[List.length_append,List.length_singleton] at hr
   rw[if_neg (by show ¬ (S++r.rules).length=200;rw[List.length_append];omega)]
   exact⟨by show Except.ok (Pg.mk (P++r.decls) ((S++r.rules)++[x.1]),x.2)=_;rw[List.append_assoc];rfl,List.prefix_refl _,Nat.le_refl _,by show _≤(r.rules++[x.1]).length;rw[List.length_append];omega⟩
theorem item_grows {r r':Pg} {l q:List TokI} (h:itemP r l=.ok (r',q)):namesD r.decls <+: namesD r'.decls∧r.decls.length≤r'.decls.length∧r.rules.length≤r'.rules.length:=by
 unfold itemP at h
 split at h
 ·split at h
  ·cases h
  ·cases hs:declP (lineL l) l.tail with
   | error e=>rw[hs] at h;cases h
   | ok x=>
    rw[hs] at h
    cases h
    refine⟨?_,by show _≤(r.decls++[x.1]).length;rw[List.length_append];omega,Nat.le_refl _⟩
    show namesD r.decls <+: (r.decls++[x.1]).map _
    rw[List.map_append]
    exact List.prefix_append _ _
 split at h
 ·cases hs:markP true r.decls l.tail with
  | error e=>rw[hs] at h;cases h
  | ok x=>
   rw[hs] at h
   cases h
   have g:=mark_names hs
   have gl:=congrArg List.length g
   simp only[namesD,List.length_map] at gl
   exact⟨g ▸ List.prefix_refl _,Nat.le_of_eq gl.symm,Nat.le_refl _⟩
 split at h
 ·cases hs:markP false r.decls l.tail with
  | error e=>rw[hs] at h;cases h
  | ok x=>
   rw[hs] at h
   cases h
   have g:=mark_names hs
   have gl:=congrArg List.length g
   simp only[namesD,List.length_map] at gl
   exact⟨g ▸ List.prefix_refl _,Nat.le_of_eq gl.symm,Nat.le_refl _⟩
 split at h
 ·cases h
 ·cases hs:ruleP l with
  | error e=>rw[hs] at h;cases h
  | ok x=>
   rw[hs] at h
   cases h
   exact⟨List.prefix_refl _,Nat.le_refl _,by show _≤(r.rules++[x.1]).length;rw[List.length_append];omega⟩
theorem items_grow:∀ (n:Nat) (p p':Pg) (l:List TokI),l.length≤n→itemsP p l=.ok p'→namesD p.decls <+: namesD p'.decls∧p.decls.length≤p'.decls.length∧p.rules.length≤p'.rules.length:=by
 intro n
 induction n with
 | zero=>
  intro p p' l hl h
  have:l=[]:=List.eq_nil_of_length_eq_zero (by omega)
  subst this
  rw[itemsP_nil] at h
  cases h
  exact⟨List.prefix_refl _,Nat.le_refl _,Nat.le_refl _⟩
 | succ n ih=>
  intro p p' l hl h
  by_cases he:l=[]
  ·subst he
   rw[itemsP_nil] at h
   cases h
   exact⟨List.prefix_refl _,Nat.le_refl _,Nat.le_refl _⟩
  ·rw[itemsP_eq p he] at h
   cases hs:itemP p l with
   | error e=>rw[hs] at h;cases h
   | ok x=>
    rw[hs] at h
    have h1:=itemP_less hs
    have g1:=item_grows hs
    have g2:=ih _ _ _ (by omega) h
    exact⟨g1.1.trans g2.1,Nat.le_trans g1.2.1 g2.2.1,Nat.le_trans g1.2.2 g2.2.2⟩
theorem items_base {P:List De} {S:List Ru}:∀ (n:Nat) (p p':Pg) (l:List TokI),l.length≤n→P.length+p'.decls.length≤60→S.length+p'.rules.length≤200→(∀ s ∈ namesD p'.decls,s ∉ namesD P)→itemsP p l=.ok p'→itemsP (addP P S p) l=.ok (addP P S p'):=by
 intro n
 induction n with
 | zero=>
  intro p p' l hl hd hr hP h
  have:l=[]:=List.eq_nil_of_length_eq_zero (by omega)
  subst this
  rw[itemsP_nil] at h ⊢
  cases h
  rfl
 | succ n ih=>
  intro p p' l hl hd hr hP h
  by_cases he:l=[]
  ·subst he
   rw[itemsP_nil] at h ⊢
   cases h
   rfl
  ·rw[itemsP_eq p he] at h
   rw[itemsP_eq _ he]
   cases hs:itemP p l with
   | error e=>rw[hs] at h;cases h
   | ok x=>
    obtain⟨p1,q1⟩:=x
    rw[hs] at h
    simp only at h
    have h1:=itemP_less hs
    have g:=items_grow _ _ _ _ (Nat.le_refl _) h
    rw[(item_base (P:=P) (S:=S) (by omega) (by omega) (fun s hs'=>hP s (g.1.subset hs')) hs).1]
    exact ih _ _ _ (by omega) hd hr hP h
theorem parse_both {a b:List TokI} {p q:Pg} (ha:parseP a=(p,0,0)) (hb:parseP b=(q,0,0)) (hl:a.length+b.length≤20000) (hd:p.decls.length+q.decls.length≤60) (hr:p.rules.length+q.rules.length≤200) (hP:∀ s ∈ namesD q.decls,s ∉ namesD p.decls) :
  parseP (a++b)=(⟨p.decls++q.decls,p.rules++q.rules⟩,0,0):=by
 have h1:=(parse_ok ha).2.2
 have h2:=(parse_ok hb).2.2
 have h3:=items_base (P:=p.decls) (S:=p.rules) _ _ _ _ (Nat.le_refl _) hd hr hP h2
 have h4:addP p.decls p.rules ⟨[],[]⟩=p:=by unfold addP;rw[List.append_nil,List.append_nil]
 rw[h4] at h3
 unfold parseP
 rw[if_neg (by rw[List.length_append];omega),itemsP_app _ _ _ _ b (Nat.le_refl _) h1,h3]
 rfl
end Go.Proofs.YtdgbajnhhhjbcaaGreatDoor
