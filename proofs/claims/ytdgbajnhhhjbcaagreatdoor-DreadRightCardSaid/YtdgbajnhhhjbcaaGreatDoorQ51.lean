/- Lc@0 -/
import Derived.Test.YtdgbajnhhhjbcaaGreatDoorQ50
import Derived.Test.YtdgbajnhhhjbcaaGreatDoorQ28
import Derived.Test.YtdgbajnhhhjbcaaGreatDoorQ31
set_option linter.unusedSimpArgs false
set_option linter.unusedVariables false
namespace Go.Proofs.YtdgbajnhhhjbcaaGreatDoor
open Go.RowKit
def tlen (t:TokI):Nat:=if t.kind=3 then (quoteL t.s.data.toList).length else t.s.data.toList.length
def cost:List TokI→Nat
 | []=>0
 | t::l=>tlen t+cost l
theorem NuOk.tl {l:List TokI} (h:NuOk l):NuOk l.tail:=fun u hu=>h u (List.mem_of_mem_tail hu)
theorem tlen_not {t:TokI} (h:t.kind≠3):tlen t=t.s.data.toList.length:=by unfold tlen;rw[if_neg h]
theorem next_cost {k:Int} {s:List UInt8} (hk:k≠3) {l:List TokI} (h:nextB k s l=true):cost l=s.length+cost l.tail:=by
 cases l with
 | nil=>cases h
 | cons t r=>
  have h:tokB k s t=true:=h
  unfold tokB at h
  rw[Bool.and_eq_true] at h
  have h1:t.kind=k:=by simpa using h.1
  have h2:t.s.data.toList=s:=by simpa using h.2
  show tlen t+cost r=_
  rw[tlen_not (by rw[h1];exact hk),h2]
  rfl
theorem must_cost {α:Type} {k:Int} {s:List UInt8} (hk:k≠3) {x y:α} {l q:List TokI} (hl:NuOk l) (h:mustP k s x l=.ok (y,q)):y=x∧cost l=s.length+cost q∧NuOk q:=by
 unfold mustP at h
 split at h
 next hn=>
  cases h
  exact⟨rfl,next_cost hk hn,hl.tl⟩
 next=>cases h
theorem nm_cost {t:TokI} (h:isNm t=true):tlen t=t.s.data.toList.length:=tlen_not (by rw[nm_k h];decide)
theorem name_cost {l q:List TokI} {s:ByteArray} (hl:NuOk l) (h:nameP l=.ok (s,q)):cost l=s.data.toList.length+cost q∧NuOk q:=by
 obtain⟨t,rfl,hn,rfl⟩:=nameP_ok h
 refine⟨?_,hl.tail⟩
 show tlen t+cost q=_
 rw[nm_cost hn]
theorem lenT_mk (o:Int) (s:ByteArray) (n:Int) (l:List Tm):lenT (.mk o s n l)=if o=1 then s.data.toList.length else if o=2 then (Lib.itoa n).length else if o=3 then (quoteL s.data.toList).length else if o=4 then 1 else 5+lenTs l:=by rw[lenT]
theorem show_lenT:∀ (h:Nat) (t:Tm),(showT h t).length≤lenT t
 | 0,_=>by simp[showT]
 | h+1,.mk o s n l=>by
  unfold showT lenT
  by_cases h1:o=1
  ·rw[if_pos (show Tm.op (.mk o s n l)=1 from h1),if_pos h1];exact Nat.le_refl _
  rw[if_neg (show ¬ Tm.op (.mk o s n l)=1 from h1),if_neg h1]
  by_cases h1:o=2
  ·rw[if_pos (show Tm.op (.mk o s n l)=2 from h1),if_pos h1];exact Nat.le_refl _
  rw[if_neg (show ¬ Tm.op (.mk o s n l)=2 from h1),if_neg h1]
  by_cases h1:o=3
  ·rw[if_pos (show Tm.op (.mk o s n l)=3 from h1),if_pos h1];exact Nat.le_refl _
  rw[if_neg (show ¬ Tm.op (.mk o s n l)=3 from h1),if_neg h1]
  by_cases h1:o=4
  ·rw[if_pos (show Tm.op (.mk o s n l)=4 from h1),if_pos h1];exact Nat.le_refl _
  rw[if_neg (show ¬ Tm.op (.mk o s n l)=4 from h1),if_neg h1]
  match l with
  | []=>simp[Tm.l]
  | [a]=>simp[Tm.l]
  | [a,b]=>
   have ha:=show_lenT h a
   have hb:=show_lenT h b
   simp only[Tm.l,lenTs,List.length_append,List.length_cons,List.length_nil]
   omega
  | _::_::_::_=>simp[Tm.l]
theorem num_cost {t:TokI} (hk:t.kind=2) (h:∃ n:Nat,n≤9223372036854775807∧t.s.data.toList=Lib.decDigits n):okN (intT (digitsI t.s.data.toList))=true∧lenT (intT (digitsI t.s.data.toList))=tlen t∧okN (intT (-(digitsI t.s.data.toList)))=true∧lenT (intT (-(digitsI t.s.data.toList)))≤tlen t+1:=by
 obtain⟨n,hn,e⟩:=h
 rw[tlen_not (by rw[hk];decide),e,digitsI_dec]
 have e1:Lib.itoa (n:Int)=Lib.decDigits n:=by unfold Lib.itoa;rw[if_neg (by omega)];simp
 refine⟨?_,?_,?_,?_⟩
 ·unfold intT okN;simp[okNs];omega
 ·unfold intT lenT;rw[if_neg (by decide),if_pos rfl,e1]
 ·unfold intT okN;simp[okNs];omega
 ·unfold intT lenT
  rw[if_neg (by decide),if_pos rfl]
  unfold Lib.itoa
  split
  ·simp
  ·have:n=0:=by omega
   subst this
   simp
theorem join_cost {op line:Int} {x y z:Tm} {l q:List TokI} (ho:op=5∨op=6∨op=7) (hx:okN x=true) (hy:okN y=true) (h:joinP op x y line l=.ok (z,q)):q=l∧okN z=true∧lenT z=5+(lenT x+lenT y):=by
 obtain⟨rfl,rfl,_,_⟩:=joinP_ok h
 refine⟨rfl,?_,?_⟩
 ·unfold okN
  simp only[okNs,hx,hy,Bool.and_true,Bool.true_and]
  rcases ho with rfl | rfl | rfl <;> rfl
 ·rw[lenT_mk,if_neg (by omega),if_neg (by omega),if_neg (by omega),if_neg (by omega)]
  simp only[lenTs]
  omega
theorem tok_cost {k:Int} {s:List UInt8} (hk:k≠3) {t:TokI} (h:tokB k s t=true):tlen t=s.length:=by
 have:=next_cost (l:=[t]) hk h
 simpa[cost] using this
theorem sum_cost:∀ (n:Nat) (l:List TokI),l.length≤n→NuOk l →
  (∀ x q,thingP l=.ok (x,q)→okN x=true∧lenT x+6 * cost q≤6 * cost l∧NuOk q)∧(∀ z x q,okN z=true→timesP z l=.ok (x,q)→okN x=true∧lenT x+6 * cost q≤lenT z+6 * cost l∧NuOk q) ∧
  (∀ x q,productP l=.ok (x,q)→okN x=true∧lenT x+6 * cost q≤6 * cost l∧NuOk q)∧(∀ z x q,okN z=true→plusP z l=.ok (x,q)→okN x=true∧lenT x+6 * cost q≤lenT z+6 * cost l∧NuOk q) ∧
  (∀ x q,sumP l=.ok (x,q)→okN x=true∧lenT x+6 * cost q≤6 * cost l∧NuOk q):=by
 intro n
 induction n with
 | zero=>
  intro l hl hg
  have:l=[]:=List.eq_nil_of_length_eq_zero (by omega)
  subst this
  refine⟨?_,?_,?_,?_,?_⟩
  ·intro x q h;rw[thingP] at h;cases h
  ·intro z x q hz h;rw[timesP] at h;cases h;exact⟨hz,Nat.le_refl _,hg⟩
  ·intro x q h;rw[productP,thingP] at h;cases h
  ·intro z x q hz h;rw[plusP] at h;cases h;exact⟨hz,Nat.le_refl _,hg⟩
  ·intro x q h;rw[sumP,productP,thingP] at h;cases h
 | succ n ih=>
  intro l hl hg
  cases l with
  | nil=>exact ih [] (Nat.zero_le _) hg
  | cons t r=>
   have hr:r.length≤n:=by simpa using hl
   have hgr:=hg.tail
   have I:=ih r hr hgr
   have hc:cost (t::r)=tlen t+cost r:=rfl
   have h1:∀ x q,thingP (t::r)=.ok (x,q)→okN x=true∧lenT x+6 * cost q≤6 * cost (t::r)∧NuOk q:=by
    intro x q h
    rw[thingP] at h
    split at h
    ·next h2=>
     cases h
     obtain⟨n1,n2,_,_⟩:=num_cost h2 (hg t (by simp) h2)
     exact⟨n1,by omega,hgr⟩
    split at h
    ·next h3=>
     cases h
     refine⟨rfl,?_,hgr⟩
     have:lenT (.mk 3 t.s 0 [])=tlen t:=by unfold lenT tlen;rw[if_neg (by decide),if_neg (by decide),if_pos rfl,if_pos h3]
     omega
    split at h
    ·next h3=>
     cases h
     refine⟨rfl,?_,hgr⟩
     have:lenT (.mk 1 t.s 0 [])=tlen t:=by unfold lenT;rw[if_pos rfl,nm_cost h3]
     omega
    split at h
    ·next h3=>
     have h45:=tok_cost (by decide) h3
     cases r with
     | nil=>cases h
     | cons u r=>
      have h:(if u.kind=2 then Except.ok (intT (-(digitsI u.s.data.toList)),r) else .error ((40:Int),u.line))=Except.ok (x,q):=h
      by_cases h2:u.kind=2
      ·rw[if_pos h2] at h
       cases h
       obtain⟨_,_,n1,n2⟩:=num_cost h2 (hgr u (by simp) h2)
       have hc2:cost (u::q)=tlen u+cost q:=rfl
       simp only[List.length_cons,List.length_nil] at h45
       exact⟨n1,by omega,hgr.tail⟩
      ·rw[if_neg h2] at h
       cases h
    split at h
    ·split at h
     ·cases h
     ·next hs=>
      obtain⟨a1,a2,a3⟩:=I.2.2.2.2 _ _ hs
      obtain⟨rfl,b2,b3⟩:=must_cost (by decide) a3 h
      exact⟨a1,by omega,b3⟩
    ·cases h
   have h2:∀ z x q,okN z=true→timesP z (t::r)=.ok (x,q)→okN x=true∧lenT x+6 * cost q≤lenT z+6 * cost (t::r)∧NuOk q:=by
    intro z x q hz h
    rw[timesP] at h
    split at h
    ·next h3=>
     have h45:=tok_cost (by decide) h3
     simp only[List.length_cons,List.length_nil] at h45
     split at h
     ·cases h
     ·next hs=>
      obtain⟨a1,a2,a3⟩:=I.1 _ _ hs
      split at h
      ·cases h
      ·next hj=>
       obtain⟨_,b1,b2⟩:=join_cost (by simp) hz a1 hj
       split at h
       ·next hq=>
        obtain⟨c1,c2,c3⟩:=(ih _ (Nat.le_trans hq hr) a3).2.1 _ _ _ b1 h
        exact⟨c1,by omega,c3⟩
       ·cases h
    ·cases h;exact⟨hz,Nat.le_refl _,hg⟩
   have h3:∀ x q,productP (t::r)=.ok (x,q)→okN x=true∧lenT x+6 * cost q≤6 * cost (t::r)∧NuOk q:=by
    intro x q h
    rw[productP] at h
    split at h
    ·cases h
    ·next hs=>
     obtain⟨a1,a2,a3⟩:=h1 _ _ hs
     split at h
     ·next hq=>
      rw[List.length_cons] at hq
      obtain⟨c1,c2,c3⟩:=(ih _ (by omega) a3).2.1 _ _ _ a1 h
      exact⟨c1,by omega,c3⟩
     ·cases h
   have h4:∀ z x q,okN z=true→plusP z (t::r)=.ok (x,q)→okN x=true∧lenT x+6 * cost q≤lenT z+6 * cost (t::r)∧NuOk q:=by
    intro z x q hz h
    rw[plusP] at h
    split at h
    ·next h3'=>
     have h45:tlen t=1:=by rcases h3' with h | h <;> exact tok_cost (by decide) h
     split at h
     ·cases h
     ·next hs=>
      obtain⟨a1,a2,a3⟩:=I.2.2.1 _ _ hs
      split at h
      ·cases h
      ·next hj=>
       obtain⟨_,b1,b2⟩:=join_cost (by split <;> simp) hz a1 hj
       split at h
       ·next hq=>
        obtain⟨c1,c2,c3⟩:=(ih _ (Nat.le_trans hq hr) a3).2.2.2.1 _ _ _ b1 h
        exact⟨c1,by omega,c3⟩
       ·cases h
    ·cases h;exact⟨hz,Nat.le_refl _,hg⟩
   refine⟨h1,h2,h3,h4,?_⟩
   intro x q h
   rw[sumP] at h
   split at h
   ·cases h
   ·next hs=>
    obtain⟨a1,a2,a3⟩:=h3 _ _ hs
    split at h
    ·next hq=>
     rw[List.length_cons] at hq
     obtain⟨c1,c2,c3⟩:=(ih _ (by omega) a3).2.2.2.1 _ _ _ a1 h
     exact⟨c1,by omega,c3⟩
    ·cases h
theorem expr_cost {l q:List TokI} {x:Tm} (hl:NuOk l) (h:exprP l=.ok (x,q)):okN x=true∧lenT x+6 * cost q≤6 * cost l∧NuOk q:=(sum_cost _ l (Nat.le_refl _) hl).2.2.2.2 _ _ (exprP_less h).1
theorem arg_cost {l q:List TokI} {x:Tm} (hl:NuOk l) (h:argP l=.ok (x,q)):okN x=true∧lenT x+6 * cost q≤6 * cost l∧NuOk q:=by
 unfold argP at h
 split at h
 next hn=>
  cases h
  refine⟨rfl,?_,hl.tl⟩
  have:=next_cost (by decide) hn
  have e:lenT (.mk 4 ⟨#[]⟩ 0 [])=1:=rfl
  simp only[List.length_cons,List.length_nil] at this
  omega
 next=>exact expr_cost hl h
def lenS {α:Type} (f:α→Nat):List α→Nat
 | []=>0
 | x::l=>f x+2+lenS f l
theorem lenS_snoc {α:Type} (f:α→Nat) (x:α):∀ l:List α,lenS f (l++[x])=lenS f l+(f x+2)
 | []=>by simp[lenS]
 | y::l=>by rw[List.cons_append,lenS,lenS,lenS_snoc f x l];omega
theorem joinC_len {α:Type} {f:α→List UInt8} {g:α→Nat} (h:∀ x,(f x).length≤g x):∀ l:List α,(joinL [44,32] (l.map f)).length≤lenS g l
 | []=>by simp[joinL]
 | [x]=>by have:=h x;simp[joinL,lenS];omega
 | x::y::l=>by
  have ih:=joinC_len h (y::l)
  have:=h x
  have e:joinL [44,32] ((x::y::l).map f)=f x++[44,32]++joinL [44,32] ((y::l).map f):=by simp[joinL]
  rw[e,lenS,List.length_append,List.length_append,List.length_cons,List.length_cons,List.length_nil]
  omega
theorem all_snoc {α:Type} {p:α→Bool} {l:List α} {x:α} (h:l.all p=true) (hx:p x=true):(l++[x]).all p=true:=by simp[h,hx]
theorem args_cost:∀ (n:Nat) (acc:List Tm) (l q:List TokI) (x:List Tm),l.length≤n→NuOk l→acc.all okN=true→argsP acc l=.ok (x,q)→x.all okN=true∧lenS lenT x+6 * cost q≤lenS lenT acc+6 * cost l+2∧NuOk q:=by
 intro n
 induction n with
 | zero=>
  intro acc l q x hl hg ha h
  have:l=[]:=List.eq_nil_of_length_eq_zero (by omega)
  subst this
  exact absurd (argsP_less _ _ _ _ _ (Nat.le_refl _) h) (Nat.not_lt_zero _)
 | succ n ih=>
  intro acc l q x hl hg ha h
  rw[argsP_eq] at h
  split at h
  ·cases h
  ·cases hs:argP l with
   | error e=>rw[hs] at h;cases h
   | ok p=>
    rw[hs] at h
    have h:(if nextB 4 [44] p.2=true then argsP (acc++[p.1]) p.2.tail else .ok (acc++[p.1],p.2))=Except.ok (x,q):=h
    obtain⟨a1,a2,a3⟩:=arg_cost hg hs
    have h1:=argP_less hs
    split at h
    ·next hn=>
     have h2:=next_cost (by decide) hn
     simp only[List.length_cons,List.length_nil] at h2
     obtain⟨b1,b2,b3⟩:=ih _ _ _ _ (by rw[List.length_tail];omega) a3.tl (all_snoc ha a1) h
     rw[lenS_snoc] at b2
     exact⟨b1,by omega,b3⟩
    ·cases h
     rw[lenS_snoc]
     exact⟨all_snoc ha a1,by omega,a3⟩
def lenA (a:Am):Nat:=a.rel.data.toList.length+2+lenS lenT a.l
theorem show_lenA (a:Am):(showA a).length≤lenA a:=by
 have:=joinC_len (f:=showT 20) (show_lenT 20) a.l
 unfold showA lenA
 simp only[List.length_append,List.length_cons,List.length_nil]
 omega
theorem atom_cost {l q:List TokI} {a:Am} (hl:NuOk l) (h:atomP l=.ok (a,q)):okA a=true∧lenA a+6 * cost q≤6 * cost l∧NuOk q:=by
 unfold atomP at h
 cases h1:nameP l with
 | error e=>rw[h1] at h;cases h
 | ok p=>
  obtain⟨s,q1⟩:=p
  rw[h1] at h
  obtain⟨c1,n1⟩:=name_cost hl h1
  simp only at h
  cases h2:mustP 4 [40] () q1 with
  | error e=>rw[h2] at h;cases h
  | ok p=>
   obtain⟨u,q2⟩:=p
   rw[h2] at h
   obtain⟨_,c2,n2⟩:=must_cost (by decide) n1 h2
   simp only at h
   cases h3:argsP [] q2 with
   | error e=>rw[h3] at h;cases h
   | ok p=>
    obtain⟨ats,q3⟩:=p
    rw[h3] at h
    obtain⟨o3,c3,n3⟩:=args_cost _ _ _ _ _ (Nat.le_refl _) n2 rfl h3
    obtain⟨rfl,c4,n4⟩:=must_cost (by decide) n3 h
    refine⟨o3,?_,n4⟩
    unfold lenA
    simp only[List.length_cons,List.length_nil,lenS] at c2 c3 c4 ⊢
    omega
def lenL (l:Lt):Nat:=if l.op=1 then lenA l.a else if l.op=2 then 1+lenA l.a else if l.op≤6 then lenT l.x+lenT l.y+4 else lenT l.x+(if l.op=7 then 0 else lenT l.y)+20+lenA l.a
theorem word_len (op:Int):(wordL op).length≤5∧(op≤6→3≤op→(wordL op).length≤2):=by
 unfold wordL
 repeat' split
 all_goals (refine⟨by simp,fun h1 h2=>?_⟩;first | (simp;done) | omega)
theorem show_lenL (l:Lt) (h:rightL l=true):(showL l).length≤lenL l:=by
 have hA:=show_lenA l.a
 have hx:=show_lenT 20 l.x
 have hy:=show_lenT 20 l.y
 unfold showL lenL
 split
 ·exact hA
 split
 ·simp only[List.length_append,List.length_cons,List.length_nil];omega
 split
 ·next h1 h2 h6=>
  have:3≤l.op:=by
   unfold rightL at h
   rw[if_neg (fun e=>e.elim h1 h2)] at h
   by_cases h3:3≤l.op∧l.op≤6
   ·exact h3.1
   ·rw[if_neg h3,if_neg (by omega),if_neg (by omega)] at h
    cases h
  have:=(word_len l.op).2 h6 this
  simp only[List.length_append,List.length_cons,List.length_nil]
  omega
 ·have:=(word_len l.op).1
  split
  ·simp only[List.length_append,List.length_cons,List.length_nil];omega
  ·simp only[List.length_append,List.length_cons,List.length_nil];omega
theorem braced_cost {op:Int} {x y:Tm} {l q:List TokI} {a:Lt} (hl:NuOk l) (h:bracedP op x y l=.ok (a,q)):∃ b,a=⟨op,b,x,y⟩∧okA b=true∧lenA b+18+6 * cost q≤6 * cost l∧NuOk q:=by
 unfold bracedP at h
 cases h1:mustP 4 [58] () l with
 | error e=>rw[h1] at h;cases h
 | ok p=>
  obtain⟨s,q1⟩:=p
  rw[h1] at h
  obtain⟨_,c1,n1⟩:=must_cost (by decide) hl h1
  simp only at h
  cases h2:mustP 4 [123] () q1 with
  | error e=>rw[h2] at h;cases h
  | ok p=>
   obtain⟨u,q2⟩:=p
   rw[h2] at h
   obtain⟨_,c2,n2⟩:=must_cost (by decide) n1 h2
   simp only at h
   cases h3:atomP q2 with
   | error e=>rw[h3] at h;cases h
   | ok p=>
    obtain⟨b,q3⟩:=p
    rw[h3] at h
    obtain⟨o3,c3,n3⟩:=atom_cost n2 h3
    obtain⟨rfl,c4,n4⟩:=must_cost (by decide) n3 h
    simp only[List.length_cons,List.length_nil] at c1 c2 c4
    exact⟨b,rfl,o3,by omega,n4⟩
theorem how_some {l:List TokI} (h:howP l≠0):∃ t w r,l=t::w::r∧tokB 4 [61] t=true∧w.kind=1∧3≤w.s.data.toList.length∧(howP l=7∨howP l=8∨howP l=9∨howP l=10):=by
 match l,h with
 | [],h=>exact absurd rfl h
 | [t],h=>exact absurd rfl h
 | t::w::r,h=>
  refine⟨t,w,r,rfl,?_⟩
  unfold howP at h ⊢
  simp only at h ⊢
  by_cases h1:tokB 4 [61] t=true∧w.kind=1
  ·refine⟨h1.1,h1.2,?_⟩
   rw[if_pos h1] at h ⊢
   by_cases h2:w.s.data.toList=[99,111,117,110,116]∧nextB 4 [58] r=true
   ·rw[if_pos h2];exact⟨by rw[h2.1];simp,.inl rfl⟩
   ·rw[if_neg h2] at h ⊢
    by_cases h3:nmAt r=true∧nextB 4 [58] r.tail=true
    ·rw[if_pos h3] at h ⊢
     by_cases h4:w.s.data.toList=[115,117,109]
     ·rw[if_pos h4];exact⟨by rw[h4];simp,by simp⟩
     rw[if_neg h4] at h ⊢
     by_cases h5:w.s.data.toList=[109,105,110]
     ·rw[if_pos h5];exact⟨by rw[h5];simp,by simp⟩
     rw[if_neg h5] at h ⊢
     by_cases h6:w.s.data.toList=[109,97,120]
     ·rw[if_pos h6];exact⟨by rw[h6];simp,by simp⟩
     rw[if_neg h6] at h
     exact absurd rfl h
    ·rw[if_neg h3] at h
     exact absurd rfl h
  ·rw[if_neg h1] at h
   exact absurd rfl h
theorem held_cost {x:Tm} {l q:List TokI} {a:Lt} (hx:okN x=true) (hl:NuOk l) (h:heldP x l=.ok (a,q)):okLt a=true∧lenL a+6 * cost q≤lenT x+6 * cost l∧NuOk q:=by
 cases l with
 | nil=>cases h
 | cons t r=>
  unfold heldP at h
  simp only at h
  cases h0:(if t.kind=4 then signP t.s.data.toList else none) with
  | none=>rw[h0] at h;cases h
  | some p=>
   obtain⟨op,turn⟩:=p
   rw[h0] at h
   simp only at h
   cases hs:exprP r with
   | error e=>rw[hs] at h;cases h
   | ok p=>
    obtain⟨y,q1⟩:=p
    rw[hs] at h
    obtain⟨o1,c1,n1⟩:=expr_cost hl.tail hs
    cases h
    by_cases h4:t.kind=4
    ·rw[if_pos h4] at h0
     have hv:=sign_val h0
     have ht:1≤tlen t:=by
      rw[tlen_not (by rw[h4];decide)]
      cases ht:t.s.data.toList with
      | nil=>rw[ht] at h0;simp[signP] at h0
      | cons c l=>simp
     have hc:cost (t::r)=tlen t+cost r:=rfl
     refine⟨?_,?_,n1⟩
     ·unfold okLt
      cases turn <;> simp[hx,o1,okA,noAm]
     ·unfold lenL
      rw[if_neg (show ¬ op=1 by omega),if_neg (show ¬ op=2 by omega),if_pos (show op≤6 from hv.2)]
      cases turn <;> simp only[Bool.false_eq_true,if_false,if_true] <;> omega
    ·rw[if_neg h4] at h0
     cases h0
theorem agg_cost {op:Int} {x:Tm} {l q:List TokI} {a:Lt} (hop:op=7∨op=8∨op=9∨op=10) (hx:okN x=true) (hl:NuOk l) {t w:TokI} {r:List TokI} (he:l=t::w::r) (ht:tokB 4 [61] t=true) (hw:w.kind=1) (hw3:3≤w.s.data.toList.length) (h:aggregateP op x l=.ok (a,q)):okLt a=true∧lenL a+6 * cost q≤lenT x+6 * cost l∧NuOk q:=by
 subst he
 have h1:=tok_cost (by decide) ht
 have h2:=tlen_not (t:=w) (by rw[hw];decide)
 have hc:cost (t::w::r)=tlen t+(tlen w+cost r):=rfl
 simp only[List.length_cons,List.length_nil] at h1
 have hn:okN noTm=true:=rfl
 unfold aggregateP at h
 split at h
 ·split at h
  ·next h7=>
   obtain⟨b,rfl,o1,c1,n1⟩:=braced_cost hl.tail.tail h
   refine⟨by unfold okLt;simp[o1,hx,hn],?_,n1⟩
   unfold lenL
   rw[if_neg (show ¬ op=1 by omega),if_neg (show ¬ op=2 by omega),if_neg (show ¬ op≤6 by omega),if_pos h7]
   simp only
   have:cost ((t::w::r).drop 2)=cost r:=rfl
   omega
  ·next h7=>
   cases h3:nameP ((t::w::r).drop 2) with
   | error e=>rw[h3] at h;cases h
   | ok p=>
    obtain⟨s,q1⟩:=p
    rw[h3] at h
    obtain⟨c2,n2⟩:=name_cost hl.tail.tail h3
    obtain⟨b,rfl,o1,c1,n1⟩:=braced_cost n2 h
    refine⟨by unfold okLt;simp[o1,hx,okN,okNs],?_,n1⟩
    unfold lenL
    rw[if_neg (show ¬ op=1 by omega),if_neg (show ¬ op=2 by omega),if_neg (show ¬ op≤6 by omega),if_neg h7]
    simp only
    have e:lenT (.mk 1 s 0 [])=s.data.toList.length:=by unfold lenT;rw[if_pos rfl]
    have:cost ((t::w::r).drop 2)=cost r:=rfl
    omega
 ·cases h
theorem lit_cost {op:Int} (ho:op=1∨op=2) {l q:List TokI} {a:Lt} (hl:NuOk l) (h:litP op l=.ok (a,q)):okLt a=true∧lenL a+6 * cost q≤1+6 * cost l∧(op=1→lenL a+6 * cost q≤6 * cost l)∧NuOk q:=by
 unfold litP at h
 cases hs:atomP l with
 | error e=>rw[hs] at h;cases h
 | ok p=>
  obtain⟨b,q1⟩:=p
  rw[hs] at h
  obtain⟨o1,c1,n1⟩:=atom_cost hl hs
  cases h
  have hn:okN noTm=true:=rfl
  refine⟨by unfold okLt;simp[o1,hn],?_,fun e=>?_,n1⟩
  ·unfold lenL
   rcases ho with rfl | rfl
   ·rw[if_pos rfl];show lenA b+_≤_;omega
   ·rw[if_neg (show ¬ (2:Int)=1 by decide),if_pos rfl];show 1+lenA b+_≤_;omega
  ·subst e
   unfold lenL
   rw[if_pos rfl];show lenA b+_≤_;omega
theorem part_cost {l q:List TokI} {a:Lt} (hl:NuOk l) (h:partP l=.ok (a,q)):okLt a=true∧lenL a+6 * cost q≤6 * cost l∧NuOk q:=by
 unfold partP at h
 split at h
 ·next h1=>
  have:=next_cost (by decide) h1
  simp only[List.length_cons,List.length_nil] at this
  obtain⟨a1,a2,_,a3⟩:=lit_cost (.inr rfl) hl.tl h
  exact⟨a1,by omega,a3⟩
 split at h
 ·obtain⟨a1,_,a2,a3⟩:=lit_cost (.inl rfl) hl h
  exact⟨a1,a2 rfl,a3⟩
 ·cases hs:exprP l with
  | error e=>rw[hs] at h;cases h
  | ok p=>
   obtain⟨x,q1⟩:=p
   rw[hs] at h
   obtain⟨a1,a2,a3⟩:=expr_cost hl hs
   simp only at h
   by_cases h0:howP q1=0
   ·rw[if_pos h0] at h
    obtain⟨b1,b2,b3⟩:=held_cost a1 a3 h
    exact⟨b1,by omega,b3⟩
   ·rw[if_neg h0] at h
    obtain⟨t,w,r,he,ht,hw,h3,hop⟩:=how_some h0
    obtain⟨b1,b2,b3⟩:=agg_cost hop a1 a3 he ht hw h3 h
    exact⟨b1,by omega,b3⟩
theorem body_cost:∀ (n:Nat) (acc:List Lt) (l q:List TokI) (x:List Lt),l.length≤n→NuOk l→acc.all okLt=true→bodyP acc l=.ok (x,q)→x.all okLt=true∧lenS lenL x+6 * cost q≤lenS lenL acc+6 * cost l+2∧NuOk q:=by
 intro n
 induction n with
 | zero=>
  intro acc l q x hl hg ha h
  have:l=[]:=List.eq_nil_of_length_eq_zero (by omega)
  subst this
  rw[bodyP_eq] at h
  split at h
  ·cases h
  ·cases hs:partP [] with
   | error e=>rw[hs] at h;cases h
   | ok p=>exact absurd (partP_less hs) (Nat.not_lt_zero _)
 | succ n ih=>
  intro acc l q x hl hg ha h
  rw[bodyP_eq] at h
  split at h
  ·cases h
  ·cases hs:partP l with
   | error e=>rw[hs] at h;cases h
   | ok p=>
    rw[hs] at h
    have h:(if nextB 4 [44] p.2=true then bodyP (acc++[p.1]) p.2.tail else .ok (acc++[p.1],p.2))=Except.ok (x,q):=h
    obtain⟨a1,a2,a3⟩:=part_cost hg hs
    have h1:=partP_less hs
    split at h
    ·next hn=>
     have h2:=next_cost (by decide) hn
     simp only[List.length_cons,List.length_nil] at h2
     obtain⟨b1,b2,b3⟩:=ih _ _ _ _ (by rw[List.length_tail];omega) a3.tl (all_snoc ha a1) h
     rw[lenS_snoc] at b2
     exact⟨b1,by omega,b3⟩
    ·cases h
     rw[lenS_snoc]
     exact⟨all_snoc ha a1,by omega,a3⟩
def lenR (r:Ru):Nat:=lenA r.head+6+lenS lenL r.body
theorem show_lenR (r:Ru) (h:rightR r=true):(showR r++[10]).length≤lenR r:=by
 have hA:=show_lenA r.head
 unfold rightR at h
 simp only[Bool.and_eq_true] at h
 have hb:=h.2
 rw[List.all_eq_true] at hb
 have hj:(joinL [44,32] (r.body.map showL)).length≤lenS lenL r.body:=by
  have e:r.body.map showL=r.body.attach.map fun x=>showL x.1:=by simp
  have:=joinC_len (f:=fun x:{x // x ∈ r.body}=>showL x.1) (g:=fun x=>lenL x.1) (fun x=>show_lenL x.1 (hb x.1 x.2)) r.body.attach
  have e2:∀ (l:List {x // x ∈ r.body}),lenS (fun x=>lenL x.1) l=lenS lenL (l.map (·.1)):=by
   intro l
   induction l with
   | nil=>rfl
   | cons x l ih=>simp only[lenS,List.map_cons,ih]
  rw[e2] at this
  rw[e]
  simpa using this
 unfold showR lenR
 split
 ·simp only[List.length_append,List.length_cons,List.length_nil];omega
 ·simp only[List.length_append,List.length_cons,List.length_nil];omega
theorem end_cost {line:Int} {a:Am} {b:List Lt} {l q:List TokI} {r:Ru} (hl:NuOk l) (h:endP line a b l=.ok (r,q)):r=⟨a,b,line⟩∧cost l=1+cost q∧NuOk q:=by
 unfold endP at h
 cases h1:mustP 4 [46] () l with
 | error e=>rw[h1] at h;cases h
 | ok p=>
  obtain⟨s,q1⟩:=p
  rw[h1] at h
  obtain⟨_,c1,n1⟩:=must_cost (by decide) hl h1
  simp only at h
  split at h
  ·cases h;exact⟨rfl,c1,n1⟩
  ·cases h
theorem rule_cost {l q:List TokI} {r:Ru} (hl:NuOk l) (h:ruleP l=.ok (r,q)):okR r=true∧lenR r+6 * cost q≤6 * cost l∧NuOk q:=by
 unfold ruleP at h
 cases hs:atomP l with
 | error e=>rw[hs] at h;cases h
 | ok p=>
  obtain⟨a,q1⟩:=p
  rw[hs] at h
  obtain⟨a1,a2,a3⟩:=atom_cost hl hs
  simp only at h
  split at h
  ·split at h
   ·next hn=>
    have h2:=next_cost (by decide) hn
    simp only[List.length_cons,List.length_nil] at h2
    cases hb:bodyP [] q1.tail with
    | error e=>rw[hb] at h;cases h
    | ok p=>
     obtain⟨b,q2⟩:=p
     rw[hb] at h
     obtain⟨b1,b2,b3⟩:=body_cost _ _ _ _ _ (Nat.le_refl _) a3.tl rfl hb
     obtain⟨rfl,c1,n1⟩:=end_cost b3 h
     refine⟨by unfold okR;rw[a1,b1];rfl,?_,n1⟩
     unfold lenR
     simp only[lenS] at b2 ⊢
     omega
   ·obtain⟨rfl,c1,n1⟩:=end_cost a3 h
    refine⟨by unfold okR;rw[a1];rfl,?_,n1⟩
    unfold lenR
    simp only[lenS]
    omega
  ·cases h
def lenC (x:ByteArray × Int):Nat:=x.1.data.toList.length+2+(typeL x.2).length
theorem type_len (n:Int):(typeL n).length=6:=by unfold typeL;split <;> rfl
theorem column_cost {l q:List TokI} {x:ByteArray × Int} (hl:NuOk l) (h:columnP l=.ok (x,q)):lenC x+6 * cost q≤6 * cost l∧NuOk q:=by
 unfold columnP at h
 cases h1:nameP l with
 | error e=>rw[h1] at h;cases h
 | ok p=>
  obtain⟨s,q1⟩:=p
  rw[h1] at h
  obtain⟨c1,n1⟩:=name_cost hl h1
  simp only at h
  cases h2:mustP 4 [58] () q1 with
  | error e=>rw[h2] at h;cases h
  | ok p=>
   obtain⟨u,q2⟩:=p
   rw[h2] at h
   obtain⟨_,c2,n2⟩:=must_cost (by decide) n1 h2
   simp only[List.length_cons,List.length_nil] at h c2
   cases h3:typeP q2 with
   | error e=>rw[h3] at h;cases h
   | ok p=>
    obtain⟨n,q3⟩:=p
    rw[h3] at h
    have h3':cost q2=6+cost q3∧NuOk q3:=by
     unfold typeP at h3
     split at h3
     next hn=>
      cases h3
      exact⟨next_cost (by decide) hn,n2.tl⟩
     next=>
      obtain⟨_,c,n⟩:=must_cost (by decide) n2 h3
      exact⟨c,n⟩
    cases h
    refine⟨?_,h3'.2⟩
    unfold lenC
    rw[type_len]
    simp only
    omega
theorem columns_cost:∀ (n:Nat) (acc:List (ByteArray × Int)) (l q:List TokI) (x:List (ByteArray × Int)),l.length≤n→NuOk l→columnsP acc l=.ok (x,q)→lenS lenC x+6 * cost q≤lenS lenC acc+6 * cost l+2∧NuOk q:=by
 intro n
 induction n with
 | zero=>
  intro acc l q x hl hg h
  have:l=[]:=List.eq_nil_of_length_eq_zero (by omega)
  subst this
  rw[columnsP_eq] at h
  split at h
  ·cases h
  ·cases hs:columnP [] with
   | error e=>rw[hs] at h;cases h
   | ok p=>exact absurd (columnP_less hs) (Nat.not_lt_zero _)
 | succ n ih=>
  intro acc l q x hl hg h
  rw[columnsP_eq] at h
  split at h
  ·cases h
  ·cases hs:columnP l with
   | error e=>rw[hs] at h;cases h
   | ok p=>
    rw[hs] at h
    have h:(if nextB 4 [44] p.2=true then columnsP (acc++[p.1]) p.2.tail else .ok (acc++[p.1],p.2))=Except.ok (x,q):=h
    obtain⟨a2,a3⟩:=column_cost hg hs
    have h1:=columnP_less hs
    split at h
    ·next hn=>
     have h2:=next_cost (by decide) hn
     simp only[List.length_cons,List.length_nil] at h2
     obtain⟨b2,b3⟩:=ih _ _ _ _ (by rw[List.length_tail];omega) a3.tl h
     rw[lenS_snoc] at b2
     exact⟨by omega,b3⟩
    ·cases h
     rw[lenS_snoc]
     exact⟨by omega,a3⟩
def lenD (d:De):Nat:=9+d.rel.data.toList.length+lenS lenC (d.names.zip d.types)+(if d.inn=true then 8+d.rel.data.toList.length else 0)+(if d.out=true then 9+d.rel.data.toList.length else 0)
theorem show_lenD (d:De):(showD d).length≤lenD d:=by
 have hj:=joinC_len (f:=colL) (g:=lenC) (fun x=>by unfold colL lenC;simp;omega) (d.names.zip d.types)
 unfold showD lenD
 cases d.inn <;> cases d.out <;> simp only[Bool.false_eq_true,if_false,if_true,List.length_append,List.length_cons,List.length_nil] <;> omega
theorem decl_cost {line:Int} {l q:List TokI} {d:De} (hl:NuOk l) (h:declP line l=.ok (d,q)):lenD d+6 * cost q≤6 * cost l+9∧NuOk q:=by
 unfold declP at h
 cases h1:nameP l with
 | error e=>rw[h1] at h;cases h
 | ok p=>
  obtain⟨s,q1⟩:=p
  rw[h1] at h
  obtain⟨c1,n1⟩:=name_cost hl h1
  simp only at h
  cases h2:mustP 4 [40] () q1 with
  | error e=>rw[h2] at h;cases h
  | ok p=>
   obtain⟨u,q2⟩:=p
   rw[h2] at h
   obtain⟨_,c2,n2⟩:=must_cost (by decide) n1 h2
   simp only[List.length_cons,List.length_nil] at h c2
   cases h3:columnsP [] q2 with
   | error e=>rw[h3] at h;cases h
   | ok p=>
    obtain⟨cs,q3⟩:=p
    rw[h3] at h
    obtain⟨c3,n3⟩:=columns_cost _ _ _ _ _ (Nat.le_refl _) n2 h3
    obtain⟨rfl,c4,n4⟩:=must_cost (by decide) n3 h
    refine⟨?_,n4⟩
    have e:(cs.map (·.1)).zip (cs.map (·.2))=cs:=by
     clear h3 c3 h
     induction cs with
     | nil=>rfl
     | cons x cs ih=>simp only[List.map_cons,List.zip_cons_cons,ih]
    unfold lenD
    simp only[e,Bool.false_eq_true,if_false,lenS,List.length_cons,List.length_nil] at c3 c4 ⊢
    omega
def lenG {α:Type} (f:α→Nat):List α→Nat
 | []=>0
 | x::l=>f x+lenG f l
theorem lenG_snoc {α:Type} (f:α→Nat) (x:α):∀ l:List α,lenG f (l++[x])=lenG f l+f x
 | []=>by simp[lenG]
 | y::l=>by rw[List.cons_append,lenG,lenG,lenG_snoc f x l];omega
theorem markL_cost {s:ByteArray} {inn:Bool}:∀ {ds es:List De},markL s inn ds=some es→lenG lenD es≤lenG lenD ds+(9+s.data.toList.length)
 | [],es,h=>by simp[markL] at h
 | d::ds,es,h=>by
  unfold markL at h
  by_cases hd:d.rel.data.toList=s.data.toList
  ·rw[if_pos hd] at h
   by_cases hm:(if inn=true then d.inn else d.out)=true
   ·rw[if_pos hm] at h;cases h
   ·rw[if_neg hm] at h
    cases h
    rw[← hd]
    unfold lenG lenD
    obtain⟨rel,names,types,di,dt,line⟩:=d
    cases inn <;> cases di <;> cases dt <;> simp at hm ⊢ <;> omega
  ·rw[if_neg hd,Option.map_eq_some_iff] at h
   obtain⟨es',h',rfl⟩:=h
   have:=markL_cost h'
   unfold lenG
   omega
theorem mark_cost {inn:Bool} {ds es:List De} {l q:List TokI} (hl:NuOk l) (h:markP inn ds l=.ok (es,q)):lenG lenD es+6 * cost q≤lenG lenD ds+6 * cost l+9∧NuOk q:=by
 unfold markP at h
 cases h1:nameP l with
 | error e=>rw[h1] at h;cases h
 | ok p=>
  obtain⟨s,q1⟩:=p
  rw[h1] at h
  obtain⟨c1,n1⟩:=name_cost hl h1
  simp only at h
  split at h
  ·cases h
  ·next hm=>
   have:=markL_cost hm
   cases h
   exact⟨by omega,n1⟩
def lenP (p:Pg):Nat:=lenG lenD p.decls+lenG lenR p.rules
theorem item_cost {p p':Pg} {l q:List TokI} (hp:okP p=true) (hl:NuOk l) (h:itemP p l=.ok (p',q)):okP p'=true∧lenP p'+6 * cost q≤lenP p+6 * cost l∧NuOk q:=by
 unfold itemP at h
 by_cases h1:nextB 5 [46,100,101,99,108] l=true
 ·rw[if_pos h1] at h
  have h2:=next_cost (by decide) h1
  simp only[List.length_cons,List.length_nil] at h2
  by_cases h2:p.decls.length=60
  ·rw[if_pos h2] at h;cases h
  ·rw[if_neg h2] at h
   cases hs:declP (lineL l) l.tail with
   | error e=>rw[hs] at h;cases h
   | ok x=>
    rw[hs] at h
    obtain⟨c,n⟩:=decl_cost hl.tl hs
    cases h
    refine⟨hp,?_,n⟩
    unfold lenP
    rw[lenG_snoc]
    simp only
    omega
 rw[if_neg h1] at h
 by_cases h1:nextB 5 [46,105,110,112,117,116] l=true
 ·rw[if_pos h1] at h
  have h2:=next_cost (by decide) h1
  simp only[List.length_cons,List.length_nil] at h2
  cases hs:markP true p.decls l.tail with
  | error e=>rw[hs] at h;cases h
  | ok x=>
   rw[hs] at h
   obtain⟨c,n⟩:=mark_cost hl.tl hs
   cases h
   refine⟨hp,?_,n⟩
   unfold lenP
   simp only
   omega
 rw[if_neg h1] at h
 by_cases h1:nextB 5 [46,111,117,116,112,117,116] l=true
 ·rw[if_pos h1] at h
  have h2:=next_cost (by decide) h1
  simp only[List.length_cons,List.length_nil] at h2
  cases hs:markP false p.decls l.tail with
  | error e=>rw[hs] at h;cases h
  | ok x=>
   rw[hs] at h
   obtain⟨c,n⟩:=mark_cost hl.tl hs
   cases h
   refine⟨hp,?_,n⟩
   unfold lenP
   simp only
   omega
 rw[if_neg h1] at h
 by_cases h2:p.rules.length=200
 ·rw[if_pos h2] at h;cases h
 ·rw[if_neg h2] at h
  cases hs:ruleP l with
  | error e=>rw[hs] at h;cases h
  | ok x=>
   rw[hs] at h
   obtain⟨o,c,n⟩:=rule_cost hl hs
   cases h
   refine⟨?_,?_,n⟩
   ·unfold okP at hp ⊢
    exact all_snoc hp o
   ·unfold lenP
    rw[lenG_snoc]
    simp only
    omega
theorem items_cost:∀ (n:Nat) (p p':Pg) (l:List TokI),l.length≤n→okP p=true→NuOk l→itemsP p l=.ok p'→okP p'=true∧lenP p'≤lenP p+6 * cost l:=by
 intro n
 induction n with
 | zero=>
  intro p p' l hl hp hg h
  have:l=[]:=List.eq_nil_of_length_eq_zero (by omega)
  subst this
  rw[itemsP_nil] at h
  cases h
  exact⟨hp,by omega⟩
 | succ n ih=>
  intro p p' l hl hp hg h
  by_cases h0:l=[]
  ·subst h0
   rw[itemsP_nil] at h
   cases h
   exact⟨hp,by omega⟩
  rw[itemsP_eq p h0] at h
  cases hs:itemP p l with
  | error e=>rw[hs] at h;cases h
  | ok x=>
   rw[hs] at h
   have h1:=itemP_less hs
   obtain⟨o,c,g⟩:=item_cost hp hg hs
   obtain⟨o2,c2⟩:=ih x.1 p' x.2 (by omega) o g h
   exact⟨o2,by omega⟩
theorem flatC_len {α:Type} {f:α→List UInt8} {g:α→Nat}:∀ {l:List α},(∀ x ∈ l,(f x).length≤g x)→(l.flatMap f).length≤lenG g l
 | [],_=>by simp
 | x::l,h=>by
  have h1:=h x (by simp)
  have h2:=flatC_len (l:=l) fun y hy=>h y (by simp[hy])
  rw[List.flatMap_cons,List.length_append,lenG]
  omega
theorem show_lenP {p:Pg} (hp:rightP p=true):(showP p).length≤lenP p:=by
 unfold rightP at hp
 simp only[Bool.and_eq_true] at hp
 have hr:=hp.2
 rw[List.all_eq_true] at hr
 have h1:=flatC_len (l:=p.decls) (f:=showD) (g:=lenD) fun d _=>show_lenD d
 have h2:=flatC_len (l:=p.rules) (f:=fun r=>showR r++[10]) (g:=lenR) fun r h=>show_lenR r (hr r h)
 unfold showP lenP
 rw[List.length_append]
 omega
theorem parse_cost {l:List TokI} {p:Pg} (hl:NuOk l) (h:parseP l=(p,0,0)):okP p=true∧lenP p≤6 * cost l:=by
 obtain⟨_,_,h3⟩:=parse_ok h
 obtain⟨h1,h2⟩:=items_cost _ _ _ _ (Nat.le_refl _) rfl hl h3
 refine⟨h1,?_⟩
 have:lenP ⟨[],[]⟩=0:=rfl
 omega
end Go.Proofs.YtdgbajnhhhjbcaaGreatDoor
