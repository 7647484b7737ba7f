/- Parq@02, Toks@02, Dlaws@02 -/
import Derived.Test.YtdgbajnhhhjbcaaGreatDoorQ23
set_option linter.unusedSimpArgs false
set_option linter.unusedVariables false
namespace Go.Proofs.YtdgbajnhhhjbcaaGreatDoor
theorem aggQ_err {op:Int} {x:Tm} {l:List TokI} {e:Int × Int} (h:aggQ op x l=.error e):ErrC e.1:=by
 unfold aggQ at h
 split at h
 ·exact bracedP_err h
 ·cases h1:nameP l with
  | error e'=>rw[h1] at h;cases h;exact nameP_err h1
  | ok p=>rw[h1] at h;exact bracedP_err h
theorem restQ_err {x:Tm} {l:List TokI} {e:Int × Int} (h:restQ x l=.error e):ErrC e.1:=by
 cases l with
 | nil=>cases h;exact e40
 | cons t r=>
  unfold restQ at h
  simp only at h
  cases h0:(if t.kind=4 then signP t.s.data.toList else none) with
  | none=>rw[h0] at h;cases h;exact e40
  | some p=>
   obtain⟨op,turn⟩:=p
   rw[h0] at h
   simp only at h
   split at h
   ·exact aggQ_err h
   ·cases hs:exprP r with
    | error e'=>rw[hs] at h;cases h;exact exprP_err hs
    | ok p=>rw[hs] at h;cases h
theorem partQ_err {l:List TokI} {e:Int × Int} (h:partQ l=.error e):ErrC e.1:=by
 have lit:∀ {op:Int} {l:List TokI} {e:Int × Int},litP op l=.error e→ErrC e.1:=by
  intro op l e h
  unfold litP at h
  cases hs:atomP l with
  | error e'=>rw[hs] at h;cases h;exact atomP_err hs
  | ok p=>rw[hs] at h;cases h
 unfold partQ at h
 split at h
 ·exact lit h
 split at h
 ·exact lit h
 ·unfold heldQ at h
  cases hs:exprP l with
  | error e'=>rw[hs] at h;cases h;exact exprP_err hs
  | ok p=>rw[hs] at h;exact restQ_err h
theorem bodyQ_err:∀ (n:Nat) (acc:List Lt) (l:List TokI) (e:Int × Int),l.length≤n→bodyQ acc l=.error e→ErrC e.1:=by
 intro n
 induction n with
 | zero=>
  intro acc l e hl h
  have:l=[]:=List.eq_nil_of_length_eq_zero (by omega)
  subst this
  rw[bodyQ_eq] at h
  split at h
  ·cases h;exact e21
  ·cases hs:partQ [] with
   | error e'=>rw[hs] at h;cases h;exact partQ_err hs
   | ok p=>exact absurd (partQ_less hs) (Nat.not_lt_zero _)
 | succ n ih=>
  intro acc l e hl h
  rw[bodyQ_eq] at h
  split at h
  ·cases h;exact e21
  ·cases hs:partQ l with
   | error e'=>rw[hs] at h;cases h;exact partQ_err hs
   | ok p=>
    rw[hs] at h
    have h:(if nextB 4 [44] p.2=true then bodyQ (acc++[p.1]) p.2.tail else .ok (acc++[p.1],p.2))=Except.error e:=h
    have h1:=partQ_less hs
    split at h
    ·exact ih _ _ _ (by rw[List.length_tail];omega) h
    ·cases h
theorem ruleQ_err {l:List TokI} {e:Int × Int} (h:ruleQ l=.error e):ErrC e.1:=by
 unfold ruleQ at h
 cases ha:atomP l with
 | error e'=>rw[ha] at h;cases h;exact atomP_err ha
 | ok p=>
  rw[ha] at h
  simp only at h
  split at h
  ·split at h
   ·cases hb:bodyQ [] p.2.tail with
    | error e'=>rw[hb] at h;cases h;exact bodyQ_err _ _ _ _ (Nat.le_refl _) hb
    | ok q=>rw[hb] at h;exact endP_err h
   ·exact endP_err h
  ·cases h;exact e40
theorem markQ_err {inn:Bool} {ds:List De} {l:List TokI} {e:Int × Int} (h:markQ inn ds l=.error e):ErrC e.1:=by
 unfold markQ at h
 split at h
 ·split at h
  ·cases h;exact e40
  ·split at h
   ·split at h
    ·cases h;exact e40
    ·cases h
   ·cases h;exact e40
 ·cases h;exact e40
theorem itemQ_err {p:Pg} {l:List TokI} {e:Int × Int} (h:itemQ p l=.error e):ErrC e.1:=by
 unfold itemQ at h
 split at h
 ·split at h
  ·cases h;exact e21
  ·cases hs:declP (lineL l) l.tail with
   | error e'=>rw[hs] at h;cases h;exact declP_err hs
   | ok x=>rw[hs] at h;cases h
 split at h
 ·cases hs:markQ true p.decls l with
  | error e'=>rw[hs] at h;cases h;exact markQ_err hs
  | ok x=>rw[hs] at h;cases h
 split at h
 ·cases hs:markQ false p.decls l with
  | error e'=>rw[hs] at h;cases h;exact markQ_err hs
  | ok x=>rw[hs] at h;cases h
 split at h
 ·cases h;exact e21
 ·cases hs:ruleQ l with
  | error e'=>rw[hs] at h;cases h;exact ruleQ_err hs
  | ok x=>rw[hs] at h;cases h
theorem itemsQ_err:∀ (n:Nat) (p:Pg) (l:List TokI) (e:Int × Int),l.length≤n→itemsQ p l=.error e→ErrC e.1:=by
 intro n
 induction n with
 | zero=>
  intro p l e hl h
  have:l=[]:=List.eq_nil_of_length_eq_zero (by omega)
  subst this
  rw[itemsQ_nil] at h
  cases h
 | succ n ih=>
  intro p l e hl h
  by_cases h0:l=[]
  ·subst h0
   rw[itemsQ_nil] at h
   cases h
  rw[itemsQ_eq p h0] at h
  cases hs:itemQ p l with
  | error e'=>rw[hs] at h;cases h;exact itemQ_err hs
  | ok x=>
   rw[hs] at h
   have:=itemQ_less hs
   exact ih _ _ _ (by omega) h
theorem parseQ_ok {l:List TokI} {p:Pg} {n:Int} (h:parseQ l=(p,n,0)):parseP l=(p,0,0)∧n=0:=by
 unfold parseQ at h
 by_cases h2:20000 < l.length
 ·rw[if_pos h2] at h;cases h
 rw[if_neg h2] at h
 cases hq:itemsQ ⟨[],[]⟩ l with
 | error e=>
  obtain⟨e,m⟩:=e
  rw[hq] at h
  have:=(itemsQ_err _ _ _ _ (Nat.le_refl _) hq).ne
  simp only[Prod.mk.injEq] at h
  exact absurd h.2.2 this
 | ok x=>
  rw[hq] at h
  cases h
  refine⟨?_,rfl⟩
  unfold parseP
  rw[if_neg h2,(items_same _ ⟨[],[]⟩ l (Nat.le_refl _) (fun d hd=>by cases hd) _).2 hq]
theorem parseQ_fail {l:List TokI} {p:Pg} {n e:Int} (he:e≠0) (h:parseQ l=(p,n,e)):p=⟨[],[]⟩:=by
 unfold parseQ at h
 split at h
 ·cases h;rfl
 ·cases hq:itemsQ ⟨[],[]⟩ l with
  | error e=>rw[hq] at h;cases h;rfl
  | ok x=>rw[hq] at h;cases h;exact absurd rfl he
open Go.RowKit
theorem lexU_len (l:List UInt8):(lexU l).1.length≤l.length:=by
 induction h:l.length using Nat.strongRecOn generalizing l with
 | _ n ih=>
  subst h
  by_cases h:l.drop (gap false l)=[]
  ·rw[lexU_nil l h];simp
  cases ht:tokL (l.drop (gap false l)) with
  | none=>rw[lexU_bad l h ht];simp
  | some a=>
   obtain⟨k,s,z⟩:=a
   have hr:=rest_len h ht
   have:=ih _ hr ((l.drop (gap false l)).drop z) rfl
   rw[lexU_tok l h ht]
   simp only[List.length_cons]
   omega
def cutS (s:ByteArray):ByteArray:=s.extract 0 (min (s.size:Int) 3000).toNat
theorem cutS_size (s:ByteArray):(cutS s).size≤3000:=by unfold cutS;simp;omega
end Go.Proofs.YtdgbajnhhhjbcaaGreatDoor
