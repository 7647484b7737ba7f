/- Parb@012, Parq@012 -/
import Derived.Test.YtdgbajnhhhjbcaaGreatDoorQ8
set_option linter.unusedSimpArgs false
namespace Go.Proofs.YtdgbajnhhhjbcaaGreatDoor
def ErrC (e:Int):Prop:=e=21∨e=40∨e=41
theorem ErrC.ne {e:Int} (h:ErrC e):e≠0:=by unfold ErrC at h;omega
theorem e40:ErrC 40:=.inr (.inl rfl)
theorem e21:ErrC 21:=.inl rfl
theorem mustP_err {α:Type} {k:Int} {s:List UInt8} {x:α} {l:List TokI} {e:Int × Int} (h:mustP k s x l=.error e):ErrC e.1:=by
 unfold mustP at h
 split at h
 ·cases h
 ·cases h;exact e40
theorem nameP_err {l:List TokI} {e:Int × Int} (h:nameP l=.error e):ErrC e.1:=by
 cases l with
 | nil=>cases h;exact e40
 | cons t r=>
  have h:(if isNm t=true then Except.ok (t.s,r) else .error ((40:Int),t.line))=Except.error e:=h
  by_cases hn:isNm t=true
  ·rw[if_pos hn] at h;cases h
  ·rw[if_neg hn] at h;cases h;exact e40
theorem minusP_err {l:List TokI} {e:Int × Int} (h:minusP l=.error e):ErrC e.1:=by
 cases l with
 | nil=>cases h;exact e40
 | cons u r=>
  have h:(if u.kind=2 then Except.ok (intT (-(digitsI u.s.data.toList)),r) else .error ((40:Int),u.line))=Except.error e:=h
  by_cases hn:u.kind=2
  ·rw[if_pos hn] at h;cases h
  ·rw[if_neg hn] at h;cases h;exact e40
theorem sum_err:∀ (n:Nat) (l:List TokI),l.length≤n →
  (∀ e,thingP l=.error e→ErrC e.1)∧(∀ z e,timesP z l=.error e→ErrC e.1)∧(∀ e,productP l=.error e→ErrC e.1)∧(∀ z e,plusP z l=.error e→ErrC e.1)∧(∀ e,sumP l=.error e→ErrC e.1):=by
 intro n
 induction n with
 | zero=>
  intro l hl
  have:l=[]:=List.eq_nil_of_length_eq_zero (by omega)
  subst this
  refine⟨?_,?_,?_,?_,?_⟩
  ·intro e h;rw[thingP] at h;cases h;exact e40
  ·intro z e h;rw[timesP] at h;cases h
  ·intro e h;rw[productP,thingP] at h;cases h;exact e40
  ·intro z e h;rw[plusP] at h;cases h
  ·intro e h;rw[sumP,productP,thingP] at h;cases h;exact e40
 | succ n ih=>
  intro l hl
  cases l with
  | nil=>exact ih [] (Nat.zero_le _)
  | cons t r=>
   have hr:r.length≤n:=by simpa using hl
   have I:=ih r hr
   have h1:∀ e,thingP (t::r)=.error e→ErrC e.1:=by
    intro e h
    rw[thingP] at h
    split at h
    ·cases h
    split at h
    ·cases h
    split at h
    ·cases h
    split at h
    ·exact minusP_err h
    split at h
    ·cases hs:sumP r with
     | error e'=>rw[hs] at h;cases h;exact I.2.2.2.2 _ hs
     | ok p=>rw[hs] at h;exact mustP_err h
    ·cases h;exact e40
   have h2:∀ z e,timesP z (t::r)=.error e→ErrC e.1:=by
    intro z e h
    by_cases ht:tokB 4 [42] t=true
    ·rw[timesP_sign z r ht] at h
     cases hs:thingP r with
     | error e'=>rw[hs] at h;cases h;exact I.1 _ hs
     | ok p=>
      rw[hs] at h
      simp only at h
      split at h
      ·cases h;exact e40
      ·exact (ih p.2 (Nat.le_trans (Nat.le_of_lt (thing_less hs)) hr)).2.1 _ _ h
    ·rw[timesP_else z (l:=t::r) (by simpa[nextB] using ht)] at h
     cases h
   have h3:∀ e,productP (t::r)=.error e→ErrC e.1:=by
    intro e h
    rw[productP_eq] at h
    cases hs:thingP (t::r) with
    | error e'=>rw[hs] at h;cases h;exact h1 _ hs
    | ok p=>
     rw[hs] at h
     have h6:=thing_less hs
     rw[List.length_cons] at h6
     exact (ih p.2 (by omega)).2.1 _ _ h
   have h4:∀ z e,plusP z (t::r)=.error e→ErrC e.1:=by
    intro z e h
    by_cases ht:tokB 4 [43] t=true∨tokB 4 [45] t=true
    ·rw[plusP_sign z r ht] at h
     cases hs:productP r with
     | error e'=>rw[hs] at h;cases h;exact I.2.2.1 _ hs
     | ok p=>
      rw[hs] at h
      simp only at h
      split at h
      ·cases h;exact e40
      ·exact (ih p.2 (Nat.le_trans (Nat.le_of_lt (product_less hs)) hr)).2.2.2.1 _ _ h
    ·rw[plusP_else z (l:=t::r) (by simpa[nextB] using fun e=>ht (.inl e)) (by simpa[nextB] using fun e=>ht (.inr e))] at h
     cases h
   refine⟨h1,h2,h3,h4,?_⟩
   intro e h
   rw[sumP_eq] at h
   cases hs:productP (t::r) with
   | error e'=>rw[hs] at h;cases h;exact h3 _ hs
   | ok p=>
    rw[hs] at h
    have h6:=product_less hs
    rw[List.length_cons] at h6
    exact (ih p.2 (by omega)).2.2.2.1 _ _ h
theorem exprP_err {l:List TokI} {e:Int × Int} (h:exprP l=.error e):ErrC e.1:=by
 unfold exprP at h
 cases hs:sumP l with
 | error e'=>rw[hs] at h;cases h;exact (sum_err _ l (Nat.le_refl _)).2.2.2.2 _ hs
 | ok p=>
  rw[hs] at h
  simp only at h
  split at h
  ·cases h;exact .inr (.inr rfl)
  ·cases h
theorem argP_err {l:List TokI} {e:Int × Int} (h:argP l=.error e):ErrC e.1:=by
 unfold argP at h
 split at h
 ·cases h
 ·exact exprP_err h
theorem argsP_err:∀ (n:Nat) (acc:List Tm) (l:List TokI) (e:Int × Int),l.length≤n→argsP acc l=.error e→ErrC e.1:=by
 intro n
 induction n with
 | zero=>
  intro acc l e hl h
  have:l=[]:=List.eq_nil_of_length_eq_zero (by omega)
  subst this
  rw[argsP_eq] at h
  split at h
  ·cases h;exact e21
  ·cases hs:argP [] with
   | error e'=>rw[hs] at h;cases h;exact argP_err hs
   | ok p=>exact absurd (argP_less hs) (Nat.not_lt_zero _)
 | succ n ih=>
  intro acc l e hl h
  rw[argsP_eq] at h
  split at h
  ·cases h;exact e21
  ·cases hs:argP l with
   | error e'=>rw[hs] at h;cases h;exact argP_err hs
   | ok p=>
    rw[hs] at h
    have h1:=argP_less hs
    simp only at h
    split at h
    ·exact ih _ _ _ (by rw[List.length_tail];omega) h
    ·cases h
theorem atomP_err {l:List TokI} {e:Int × Int} (h:atomP l=.error e):ErrC e.1:=by
 unfold atomP at h
 cases h1:nameP l with
 | error e'=>rw[h1] at h;cases h;exact nameP_err h1
 | ok p=>
  rw[h1] at h
  simp only at h
  cases h2:mustP 4 [40] () p.2 with
  | error e'=>rw[h2] at h;cases h;exact mustP_err h2
  | ok p2=>
   rw[h2] at h
   simp only at h
   cases h3:argsP [] p2.2 with
   | error e'=>rw[h3] at h;cases h;exact argsP_err _ _ _ _ (Nat.le_refl _) h3
   | ok p3=>rw[h3] at h;exact mustP_err h
theorem bracedP_err {op:Int} {x y:Tm} {l:List TokI} {e:Int × Int} (h:bracedP op x y l=.error e):ErrC e.1:=by
 unfold bracedP at h
 cases h1:mustP 4 [58] () l with
 | error e'=>rw[h1] at h;cases h;exact mustP_err h1
 | ok p=>
  rw[h1] at h
  simp only at h
  cases h2:mustP 4 [123] () p.2 with
  | error e'=>rw[h2] at h;cases h;exact mustP_err h2
  | ok p2=>
   rw[h2] at h
   simp only at h
   cases h3:atomP p2.2 with
   | error e'=>rw[h3] at h;cases h;exact atomP_err h3
   | ok p3=>rw[h3] at h;exact mustP_err h
theorem partP_err {l:List TokI} {e:Int × Int} (h:partP l=.error e):ErrC e.1:=by
 have hlit:∀ op l,litP op l=.error e→ErrC e.1:=by
  intro op l h
  unfold litP at h
  cases h1:atomP l with
  | error e'=>rw[h1] at h;cases h;exact atomP_err h1
  | ok p=>rw[h1] at h;cases h
 unfold partP at h
 split at h
 ·exact hlit _ _ h
 split at h
 ·exact hlit _ _ h
 cases hs:exprP l with
 | error e'=>rw[hs] at h;cases h;exact exprP_err hs
 | ok p=>
  obtain⟨x,q1⟩:=p
  rw[hs] at h
  simp only at h
  split at h
  ·cases q1 with
   | nil=>cases h;exact e40
   | cons t r=>
    unfold heldP at h
    simp only at h
    cases h0:(if t.kind=4 then signP t.s.data.toList else none) with
    | none=>rw[h0] at h;cases h;exact e40
    | some p=>
     rw[h0] at h
     simp only at h
     cases h2:exprP r with
     | error e'=>rw[h2] at h;cases h;exact exprP_err h2
     | ok p=>rw[h2] at h;cases h
  ·unfold aggregateP at h
   split at h
   ·split at h
    ·exact bracedP_err h
    ·cases h1:nameP (q1.drop 2) with
     | error e'=>rw[h1] at h;cases h;exact nameP_err h1
     | ok p=>rw[h1] at h;exact bracedP_err h
   ·cases h;exact e40
theorem bodyP_err:∀ (n:Nat) (acc:List Lt) (l:List TokI) (e:Int × Int),l.length≤n→bodyP acc l=.error e→ErrC e.1:=by
 intro n
 induction n with
 | zero=>
  intro acc l e hl h
  have:l=[]:=List.eq_nil_of_length_eq_zero (by omega)
  subst this
  rw[bodyP_eq] at h
  split at h
  ·cases h;exact e21
  ·cases hs:partP [] with
   | error e'=>rw[hs] at h;cases h;exact partP_err hs
   | ok p=>exact absurd (partP_less hs) (Nat.not_lt_zero _)
 | succ n ih=>
  intro acc l e hl h
  rw[bodyP_eq] at h
  split at h
  ·cases h;exact e21
  ·cases hs:partP l with
   | error e'=>rw[hs] at h;cases h;exact partP_err hs
   | ok p=>
    rw[hs] at h
    have h1:=partP_less hs
    simp only at h
    split at h
    ·exact ih _ _ _ (by rw[List.length_tail];omega) h
    ·cases h
theorem endP_err {line:Int} {a:Am} {b:List Lt} {l:List TokI} {e:Int × Int} (h:endP line a b l=.error e):ErrC e.1:=by
 unfold endP at h
 cases h1:mustP 4 [46] () l with
 | error e'=>rw[h1] at h;cases h;exact mustP_err h1
 | ok p=>
  rw[h1] at h
  simp only at h
  split at h
  ·cases h
  ·cases h;exact e40
theorem ruleP_err {l:List TokI} {e:Int × Int} (h:ruleP l=.error e):ErrC e.1:=by
 unfold ruleP at h
 cases h1:atomP l with
 | error e'=>rw[h1] at h;cases h;exact atomP_err h1
 | ok p=>
  rw[h1] at h
  simp only at h
  split at h
  ·split at h
   ·cases h2:bodyP [] p.2.tail with
    | error e'=>rw[h2] at h;cases h;exact bodyP_err _ _ _ _ (Nat.le_refl _) h2
    | ok p2=>rw[h2] at h;exact endP_err h
   ·exact endP_err h
  ·cases h;exact e40
theorem columnP_err {l:List TokI} {e:Int × Int} (h:columnP l=.error e):ErrC e.1:=by
 unfold columnP at h
 cases h1:nameP l with
 | error e'=>rw[h1] at h;cases h;exact nameP_err h1
 | ok p=>
  rw[h1] at h
  simp only at h
  cases h2:mustP 4 [58] () p.2 with
  | error e'=>rw[h2] at h;cases h;exact mustP_err h2
  | ok p2=>
   rw[h2] at h
   simp only at h
   cases h3:typeP p2.2 with
   | error e'=>
    rw[h3] at h
    cases h
    unfold typeP at h3
    split at h3
    ·cases h3
    ·exact mustP_err h3
   | ok p3=>rw[h3] at h;cases h
theorem columnsP_err:∀ (n:Nat) (acc:List (ByteArray × Int)) (l:List TokI) (e:Int × Int),l.length≤n→columnsP acc l=.error e→ErrC e.1:=by
 intro n
 induction n with
 | zero=>
  intro acc l e hl h
  have:l=[]:=List.eq_nil_of_length_eq_zero (by omega)
  subst this
  rw[columnsP_eq] at h
  split at h
  ·cases h;exact e21
  ·cases hs:columnP [] with
   | error e'=>rw[hs] at h;cases h;exact columnP_err hs
   | ok p=>exact absurd (columnP_less hs) (Nat.not_lt_zero _)
 | succ n ih=>
  intro acc l e hl h
  rw[columnsP_eq] at h
  split at h
  ·cases h;exact e21
  ·cases hs:columnP l with
   | error e'=>rw[hs] at h;cases h;exact columnP_err hs
   | ok p=>
    rw[hs] at h
    have h1:=columnP_less hs
    simp only at h
    split at h
    ·exact ih _ _ _ (by rw[List.length_tail];omega) h
    ·cases h
theorem declP_err {line:Int} {l:List TokI} {e:Int × Int} (h:declP line l=.error e):ErrC e.1:=by
 unfold declP at h
 cases h1:nameP l with
 | error e'=>rw[h1] at h;cases h;exact nameP_err h1
 | ok p=>
  rw[h1] at h
  simp only at h
  cases h2:mustP 4 [40] () p.2 with
  | error e'=>rw[h2] at h;cases h;exact mustP_err h2
  | ok p2=>
   rw[h2] at h
   simp only at h
   cases h3:columnsP [] p2.2 with
   | error e'=>rw[h3] at h;cases h;exact columnsP_err _ _ _ _ (Nat.le_refl _) h3
   | ok p3=>rw[h3] at h;exact mustP_err h
theorem markP_err {inn:Bool} {ds:List De} {l:List TokI} {e:Int × Int} (h:markP inn ds l=.error e):ErrC e.1:=by
 unfold markP at h
 cases h1:nameP l with
 | error e'=>rw[h1] at h;cases h;exact nameP_err h1
 | ok p=>
  rw[h1] at h
  simp only at h
  cases hm:markL p.1 inn ds with
  | none=>rw[hm] at h;cases h;exact e40
  | some fs=>rw[hm] at h;cases h
theorem itemP_err {p:Pg} {l:List TokI} {e:Int × Int} (h:itemP p l=.error e):ErrC e.1:=by
 unfold itemP at h
 split at h
 ·split at h
  ·cases h;exact e21
  ·cases hs:declP (lineL l) l.tail with
   | error e'=>rw[hs] at h;cases h;exact declP_err hs
   | ok x=>rw[hs] at h;cases h
 split at h
 ·cases hs:markP true p.decls l.tail with
  | error e'=>rw[hs] at h;cases h;exact markP_err hs
  | ok x=>rw[hs] at h;cases h
 split at h
 ·cases hs:markP false p.decls l.tail with
  | error e'=>rw[hs] at h;cases h;exact markP_err hs
  | ok x=>rw[hs] at h;cases h
 split at h
 ·cases h;exact e21
 ·cases hs:ruleP l with
  | error e'=>rw[hs] at h;cases h;exact ruleP_err hs
  | ok x=>rw[hs] at h;cases h
theorem itemsP_err:∀ (n:Nat) (p:Pg) (l:List TokI) (e:Int × Int),l.length≤n→itemsP p l=.error e→ErrC e.1:=by
 intro n
 induction n with
 | zero=>
  intro p l e hl h
  have:l=[]:=List.eq_nil_of_length_eq_zero (by omega)
  subst this
  rw[itemsP_nil] at h
  cases h
 | succ n ih=>
  intro p l e hl h
  by_cases he:l=[]
  ·subst he;rw[itemsP_nil] at h;cases h
  ·rw[itemsP_eq p he] at h
   cases hs:itemP p l with
   | error e'=>rw[hs] at h;cases h;exact itemP_err hs
   | ok x=>
    rw[hs] at h
    have h1:=itemP_less hs
    exact ih _ _ _ (by omega) h
theorem parse_ok {l:List TokI} {p:Pg} {n:Int} (h:parseP l=(p,n,0)):l.length≤20000∧n=0∧itemsP ⟨[],[]⟩ l=.ok p:=by
 unfold parseP at h
 split at h
 ·cases h
 next hl=>
  cases hs:itemsP ⟨[],[]⟩ l with
  | error e=>
   rw[hs] at h
   have h':e.1=0:=congrArg (fun x=>x.2.2) h
   exact absurd h' (itemsP_err _ _ _ _ (Nat.le_refl _) hs).ne
  | ok x=>
   rw[hs] at h
   cases h
   exact⟨by omega,rfl,rfl⟩
def namesD (l:List De):List (List UInt8):=l.map fun d=>d.rel.data.toList
theorem markL_names {s:ByteArray} {inn:Bool}:∀ {ds es:List De},markL s inn ds=some es→namesD es=namesD ds∧s.data.toList ∈ namesD ds
 | [],_,h=>by cases h
 | d::ds,es,h=>by
  unfold markL at h
  by_cases h1:d.rel.data.toList=s.data.toList
  ·rw[if_pos h1] at h
   by_cases h2:(if inn=true then d.inn else d.out)=true
   ·rw[if_pos h2] at h;cases h
   ·rw[if_neg h2] at h
    cases h
    exact⟨rfl,by rw[← h1];exact List.mem_cons_self ..⟩
  ·rw[if_neg h1] at h
   cases hm:markL s inn ds with
   | none=>rw[hm] at h;cases h
   | some fs=>
    rw[hm] at h
    cases h
    have:=markL_names hm
    exact⟨congrArg (d.rel.data.toList::·) this.1,List.mem_cons_of_mem _ this.2⟩
theorem markL_base {s:ByteArray} {inn:Bool} {ds es:List De} (h:markL s inn ds=some es):∀ {P:List De},s.data.toList ∉ namesD P→markL s inn (P++ds)=some (P++es)
 | [],_=>h
 | d::P,hP=>by
  have h1:d.rel.data.toList≠s.data.toList:=fun e=>hP (by rw[← e];exact List.mem_cons_self ..)
  rw[List.cons_append]
  unfold markL
  rw[if_neg h1,markL_base h (fun e=>hP (List.mem_cons_of_mem _ e))]
  rfl
def howQ:List TokI→Int
 | []=>0
 | w::l=>
  if w.kind=1 then
   if w.s.data.toList=[99,111,117,110,116]∧nextB 4 [58] l=true then 7
   else if nmAt l=true then
    (if w.s.data.toList=[115,117,109] then 8 else if w.s.data.toList=[109,105,110] then 9 else if w.s.data.toList=[109,97,120] then 10 else 0)
   else 0
  else 0
theorem howQ_cons (w:TokI) (l:List TokI):howQ (w::l)=if w.kind=1 then
   if w.s.data.toList=[99,111,117,110,116]∧nextB 4 [58] l=true then 7
   else if nmAt l=true then
    (if w.s.data.toList=[115,117,109] then 8 else if w.s.data.toList=[109,105,110] then 9 else if w.s.data.toList=[109,97,120] then 10 else 0)
   else 0
  else 0:=rfl
theorem howP_cons (t w:TokI) (l:List TokI):howP (t::w::l)=if tokB 4 [61] t=true∧w.kind=1 then
   if w.s.data.toList=[99,111,117,110,116]∧nextB 4 [58] l=true then 7
   else if nmAt l=true∧nextB 4 [58] l.tail=true then
    (if w.s.data.toList=[115,117,109] then 8 else if w.s.data.toList=[109,105,110] then 9 else if w.s.data.toList=[109,97,120] then 10 else 0)
   else 0
  else 0:=rfl
def aggQ (op:Int) (x:Tm) (l:List TokI):Res Lt:=
 if op=7 then bracedP op x noTm l else
  match nameP l with
  | .error e=>.error e
  | .ok (s,q)=>bracedP op x (.mk 1 s 0 []) q
def restQ (x:Tm):List TokI→Res Lt
 | []=>.error (40,0)
 | t::r=>
  match (if t.kind=4 then signP t.s.data.toList else none) with
  | none=>.error (40,t.line)
  | some (op,turn)=>
   if howQ r≠0∧t.s.data.toList=[61]∧(x.op=1∨x.op=2) then aggQ (howQ r) x r.tail
   else match exprP r with
    | .error e=>.error e
    | .ok (y,q)=>.ok (⟨op,noAm,if turn=true then y else x,if turn=true then x else y⟩,q)
def heldQ (l:List TokI):Res Lt:=
 match exprP l with
 | .error e=>.error e
 | .ok (x,q)=>restQ x q
def partQ (l:List TokI):Res Lt:=
 if nextB 4 [33] l=true then litP 2 l.tail
 else if nmAt l=true∧nextB 4 [40] l.tail=true then litP 1 l
 else heldQ l
def bodyQ (acc:List Lt) (l:List TokI):Res (List Lt):=
 if acc.length=20 then .error (21,lineL l) else
  match partQ l with
  | .error e=>.error e
  | .ok (x,q)=>
   if nextB 4 [44] q=true then (if q.length < l.length then bodyQ (acc++[x]) q.tail else .error (90,0))
   else .ok (acc++[x],q)
 termination_by l.length
 decreasing_by rw[List.length_tail];omega
def ruleQ (l:List TokI):Res Ru:=
 match atomP l with
 | .error e=>.error e
 | .ok (a,q)=>
  if headedB false a=true then
   if nextB 4 [58,45] q=true then
    match bodyQ [] q.tail with
    | .error e=>.error e
    | .ok (b,q)=>endP (lineL l) a b q
   else endP (lineL l) a [] q
  else .error (40,lineL l)
def canB (inn:Bool) (ds:List De):Bool:=ds.any fun d=>(markL d.rel inn ds).isSome
def markQ (inn:Bool) (ds:List De) (l:List TokI):Res (List De):=
 if canB inn ds=true then
  match l.tail with
  | []=>.error (40,0)
  | t::r=>
   if t.kind=1 then
    match markL t.s inn ds with
    | none=>.error (40,t.line)
    | some ds=>.ok (ds,r)
   else .error (40,t.line)
 else .error (40,lineL l)
def itemQ (p:Pg) (l:List TokI):Res Pg:=
 if nextB 5 [46,100,101,99,108] l=true then
  if p.decls.length=60 then .error (21,lineL l) else
   match declP (lineL l) l.tail with
   | .error e=>.error e
   | .ok (d,q)=>.ok (⟨p.decls++[d],p.rules⟩,q)
 else if nextB 5 [46,105,110,112,117,116] l=true then
  match markQ true p.decls l with
  | .error e=>.error e
  | .ok (ds,q)=>.ok (⟨ds,p.rules⟩,q)
 else if nextB 5 [46,111,117,116,112,117,116] l=true then
  match markQ false p.decls l with
  | .error e=>.error e
  | .ok (ds,q)=>.ok (⟨ds,p.rules⟩,q)
 else if p.rules.length=200 then .error (21,lineL l) else
  match ruleQ l with
  | .error e=>.error e
  | .ok (r,q)=>.ok (⟨p.decls,p.rules++[r]⟩,q)
def itemsQ (p:Pg) (l:List TokI):Except (Int × Int) Pg:=
 if l=[] then .ok p else
  match itemQ p l with
  | .error e=>.error e
  | .ok (p,q)=>if q.length < l.length then itemsQ p q else .error (90,0)
 termination_by l.length
def parseQ (l:List TokI):Pg × Int × Int:=
 if 20000 < l.length then (⟨[],[]⟩,0,21) else
  match itemsQ ⟨[],[]⟩ l with
  | .error (e,n)=>(⟨[],[]⟩,n,e)
  | .ok p=>(p,0,0)
theorem aggQ_less {op:Int} {x:Tm} {l q:List TokI} {a:Lt} (h:aggQ op x l=.ok (a,q)):q.length < l.length:=by
 unfold aggQ at h
 split at h
 ·exact bracedP_less h
 ·cases h1:nameP l with
  | error e=>rw[h1] at h;cases h
  | ok p=>
   obtain⟨s,q1⟩:=p
   rw[h1] at h
   obtain⟨t,ht,_,_⟩:=nameP_ok h1
   have:=congrArg List.length ht
   rw[List.length_cons] at this
   have:=bracedP_less h
   omega
theorem restQ_less {x:Tm} {l q:List TokI} {a:Lt} (h:restQ x l=.ok (a,q)):q.length < l.length:=by
 cases l with
 | nil=>cases h
 | cons t r=>
  unfold restQ at h
  simp only at h
  cases h0:(if t.kind=4 then signP t.s.data.toList else none) with
  | none=>rw[h0] at h;cases h
  | some p=>
   obtain⟨op,turn⟩:=p
   rw[h0] at h
   simp only at h
   rw[List.length_cons]
   split at h
   ·have h1:=aggQ_less h
    rw[List.length_tail] at h1
    omega
   ·cases hs:exprP r with
    | error e=>rw[hs] at h;cases h
    | ok p=>
     obtain⟨y,q1⟩:=p
     rw[hs] at h
     have:=(exprP_less hs).2.2
     cases h
     omega
theorem heldQ_less {l q:List TokI} {a:Lt} (h:heldQ l=.ok (a,q)):q.length < l.length:=by
 unfold heldQ at h
 cases hs:exprP l with
 | error e=>rw[hs] at h;cases h
 | ok p=>
  rw[hs] at h
  exact Nat.lt_trans (restQ_less h) (exprP_less hs).2.2
theorem partQ_less {l q:List TokI} {a:Lt} (h:partQ l=.ok (a,q)):q.length < l.length:=by
 unfold partQ at h
 split at h
 ·have:=litP_less h
  rw[List.length_tail] at this
  omega
 split at h
 ·exact litP_less h
 ·exact heldQ_less h
theorem bodyQ_eq (acc:List Lt) (l:List TokI):bodyQ acc l=if acc.length=20 then .error (21,lineL l) else
  match partQ l with
  | .error e=>.error e
  | .ok (x,q)=>if nextB 4 [44] q=true then bodyQ (acc++[x]) q.tail else .ok (acc++[x],q):=by
 rw[bodyQ]
 cases h:partQ l with
 | error e=>rfl
 | ok p=>
  show (if _ then _ else if nextB 4 [44] p.2=true then (if p.2.length < l.length then bodyQ (acc++[p.1]) p.2.tail else .error (90,0)) else .ok (acc++[p.1],p.2))=_
  rw[if_pos (partQ_less h)]
theorem bodyQ_less:∀ (n:Nat) (acc:List Lt) (l q:List TokI) (x:List Lt),l.length≤n→bodyQ acc l=.ok (x,q)→q.length≤l.length:=by
 intro n
 induction n with
 | zero=>
  intro acc l q x hl h
  have:l=[]:=List.eq_nil_of_length_eq_zero (by omega)
  subst this
  rw[bodyQ_eq] at h
  split at h
  ·cases h
  ·cases hs:partQ [] with
   | error e=>rw[hs] at h;cases h
   | ok p=>exact absurd (partQ_less hs) (Nat.not_lt_zero _)
 | succ n ih=>
  intro acc l q x hl h
  rw[bodyQ_eq] at h
  split at h
  ·cases h
  ·cases hs:partQ l with
   | error e=>rw[hs] at h;cases h
   | ok p=>
    rw[hs] at h
    have h:(if nextB 4 [44] p.2=true then bodyQ (acc++[p.1]) p.2.tail else .ok (acc++[p.1],p.2))=Except.ok (x,q):=h
    have h1:=partQ_less hs
    split at h
    ·have h2:=ih _ _ _ _ (by rw[List.length_tail];omega) h
     rw[List.length_tail] at h2
     omega
    ·cases h
     exact Nat.le_of_lt h1
theorem ruleQ_less {l q:List TokI} {r:Ru} (h:ruleQ l=.ok (r,q)):q.length < l.length:=by
 unfold ruleQ at h
 split at h
 ·cases h
 next hs=>
  have h1:=atomP_less hs
  split at h
  ·split at h
   ·split at h
    ·cases h
    next hb=>
     have h2:=bodyQ_less _ _ _ _ _ (Nat.le_refl _) hb
     rw[List.length_tail] at h2
     have:=endP_less h
     omega
   ·exact Nat.lt_trans (endP_less h) h1
  ·cases h
theorem markQ_ok {inn:Bool} {ds es:List De} {l q:List TokI} (h:markQ inn ds l=.ok (es,q)):canB inn ds=true∧∃ t,l.tail=t::q∧t.kind=1∧markL t.s inn ds=some es:=by
 unfold markQ at h
 by_cases hc:canB inn ds=true
 ·rw[if_pos hc] at h
  refine⟨hc,?_⟩
  cases ht:l.tail with
  | nil=>rw[ht] at h;cases h
  | cons t r=>
   rw[ht] at h
   simp only at h
   by_cases hk:t.kind=1
   ·rw[if_pos hk] at h
    cases hm:markL t.s inn ds with
    | none=>rw[hm] at h;cases h
    | some fs=>
     rw[hm] at h
     simp only[Except.ok.injEq,Prod.mk.injEq] at h
     obtain⟨rfl,rfl⟩:=h
     exact⟨t,rfl,hk,hm⟩
   ·rw[if_neg hk] at h;cases h
 ·rw[if_neg hc] at h;cases h
theorem markQ_less {inn:Bool} {ds es:List De} {l q:List TokI} (h:markQ inn ds l=.ok (es,q)):q.length < l.length:=by
 obtain⟨_,t,ht,_,_⟩:=markQ_ok h
 have:=congrArg List.length ht
 rw[List.length_tail,List.length_cons] at this
 omega
theorem itemQ_less {p p':Pg} {l q:List TokI} (h:itemQ p l=.ok (p',q)):q.length < l.length:=by
 unfold itemQ at h
 by_cases h1:nextB 5 [46,100,101,99,108] l=true
 ·rw[if_pos h1] at h
  have:=next_tail h1
  by_cases h2:p.decls.length=60
  ·rw[if_pos h2] at h;cases h
  ·rw[if_neg h2] at h
   cases hs:declP (lineL l) l.tail with
   | error e=>rw[hs] at h;cases h
   | ok x=>
    rw[hs] at h
    have:=declP_less hs
    cases h
    omega
 rw[if_neg h1] at h
 by_cases h1:nextB 5 [46,105,110,112,117,116] l=true
 ·rw[if_pos h1] at h
  cases hs:markQ true p.decls l with
  | error e=>rw[hs] at h;cases h
  | ok x=>
   rw[hs] at h
   have:=markQ_less hs
   cases h
   omega
 rw[if_neg h1] at h
 by_cases h1:nextB 5 [46,111,117,116,112,117,116] l=true
 ·rw[if_pos h1] at h
  cases hs:markQ false p.decls l with
  | error e=>rw[hs] at h;cases h
  | ok x=>
   rw[hs] at h
   have:=markQ_less hs
   cases h
   omega
 rw[if_neg h1] at h
 by_cases h2:p.rules.length=200
 ·rw[if_pos h2] at h;cases h
 ·rw[if_neg h2] at h
  cases hs:ruleQ l with
  | error e=>rw[hs] at h;cases h
  | ok x=>
   rw[hs] at h
   have:=ruleQ_less hs
   cases h
   omega
theorem itemsQ_nil (p:Pg):itemsQ p []=.ok p:=by rw[itemsQ,if_pos rfl]
theorem itemsQ_eq (p:Pg) {l:List TokI} (hl:l≠[]):itemsQ p l=match itemQ p l with | .error e=>.error e | .ok (p,q)=>itemsQ p q:=by
 rw[itemsQ,if_neg hl]
 cases h:itemQ p l with
 | error e=>rfl
 | ok x=>exact if_pos (itemQ_less h)
def Dead {α:Type} (r:Res α):Prop:=∀ x q,r=.ok (x,q)→nextB 4 [44] q=false∧nextB 4 [46] q=false
def Alike {α:Type} (r s:Res α):Prop:=(∀ x q,r=.ok (x,q) ↔ s=.ok (x,q))∨(Dead r∧Dead s)
theorem Alike.of_eq {α:Type} {r s:Res α} (h:r=s):Alike r s:=.inl fun _ _=>by rw[h]
theorem dead_error {α:Type} (e:Int × Int):Dead (.error e:Res α):=fun _ _ h=>by cases h
theorem nm_next {l:List TokI} (h:nmAt l=true) (s:List UInt8):nextB 4 s l=false:=by
 cases l with
 | nil=>cases h
 | cons t r=>
  have:=nm_k (show isNm t=true from h)
  show tokB 4 s t=false
  unfold tokB
  rw[this]
  rfl
theorem colon_next {l:List TokI} (h:nextB 4 [58] l=true) {s:List UInt8} (hs:s≠[58]):nextB 4 s l=false:=by
 cases l with
 | nil=>cases h
 | cons t r=>
  have h:tokB 4 [58] t=true:=h
  unfold tokB at h
  rw[Bool.and_eq_true] at h
  have h2:t.s.data.toList=[58]:=by simpa using h.2
  exact key_not h2 (Ne.symm hs)
theorem expr_name {w:TokI} {l:List TokI} (hw:isNm w=true) (h1:nextB 4 [42] l=false) (h2:nextB 4 [43] l=false) (h3:nextB 4 [45] l=false):exprP (w::l)=.ok (.mk 1 w.s 0 [],l):=by
 have hk:=nm_k hw
 have ht:thingP (w::l)=.ok (.mk 1 w.s 0 [],l):=by
  rw[thingP,if_neg (by rw[hk];decide),if_neg (by rw[hk];decide),if_pos hw]
 have hp:productP (w::l)=.ok (.mk 1 w.s 0 [],l):=by
  rw[productP_eq,ht]
  exact timesP_else _ h1
 have hs:sumP (w::l)=.ok (.mk 1 w.s 0 [],l):=by
  rw[sumP_eq,hp]
  exact plusP_else _ h2 h3
 unfold exprP
 rw[hs]
 exact if_neg (by simp[highT,highTs])
theorem how_word {w:TokI} {l:List TokI} (h:howQ (w::l)≠0):isNm w=true∧(nextB 4 [58] l=true∨nmAt l=true)∧(howQ (w::l)=7→nextB 4 [58] l=true)∧(howQ (w::l)≠7→nmAt l=true):=by
 rw[howQ_cons] at h ⊢
 by_cases hk:w.kind=1
 ·rw[if_pos hk] at h ⊢
  by_cases hc:w.s.data.toList=[99,111,117,110,116]∧nextB 4 [58] l=true
  ·rw[if_pos hc]
   refine⟨?_,.inl hc.2,fun _=>hc.2,fun h=>absurd rfl h⟩
   unfold isNm
   rw[hk,hc.1]
   rfl
  ·rw[if_neg hc] at h ⊢
   by_cases hn:nmAt l=true
   ·rw[if_pos hn] at h ⊢
    have key:∀ (p:List UInt8),w.s.data.toList=p→p≠[95]→isNm w=true:=by
     intro p hp h9
     unfold isNm
     rw[hk,hp]
     simp[h9]
    split at h
    ·next e=>exact⟨key _ e (by decide),.inr hn,(fun h=>by rw[if_pos e] at h;omega),fun _=>hn⟩
    split at h
    ·next e0 e=>exact⟨key _ e (by decide),.inr hn,(fun h=>by rw[if_neg e0,if_pos e] at h;omega),fun _=>hn⟩
    split at h
    ·next e0 e1 e=>exact⟨key _ e (by decide),.inr hn,(fun h=>by rw[if_neg e0,if_neg e1,if_pos e] at h;omega),fun _=>hn⟩
    ·exact absurd rfl h
   ·rw[if_neg hn] at h
    exact absurd rfl h
 ·rw[if_neg hk] at h
  exact absurd rfl h
theorem how_expr {r:List TokI} (h:howQ r≠0):∃ w l,r=w::l∧exprP r=.ok (.mk 1 w.s 0 [],l)∧nextB 4 [44] l=false∧nextB 4 [46] l=false:=by
 cases r with
 | nil=>exact absurd rfl h
 | cons w l=>
  obtain⟨hw,hl,_⟩:=how_word h
  have key:∀ s,s≠[58]→nextB 4 s l=false:=fun s hs=>hl.elim (fun h=>colon_next h hs) (fun h=>nm_next h s)
  exact⟨w,l,rfl,expr_name hw (key _ (by decide)) (key _ (by decide)) (key _ (by decide)),key _ (by decide),key _ (by decide)⟩
theorem how_eq {t:TokI} {r:List TokI}:howP (t::r)=if tokB 4 [61] t=true∧(howQ r=7∨nextB 4 [58] (r.drop 2)=true) then howQ r else 0:=by
 cases r with
 | nil=>simp[howP,howQ]
 | cons w l=>
  rw[howP_cons,howQ_cons]
  by_cases h1:tokB 4 [61] t=true
  ·by_cases hk:w.kind=1
   ·rw[if_pos ⟨h1,hk⟩,if_pos hk]
    by_cases hc:w.s.data.toList=[99,111,117,110,116]∧nextB 4 [58] l=true
    ·rw[if_pos hc,if_pos hc]
     exact (if_pos ⟨h1,.inl rfl⟩).symm
    ·rw[if_neg hc,if_neg hc]
     have hd:(w::l).drop 2=l.tail:=by cases l <;> rfl
     rw[hd]
     by_cases hn:nmAt l=true
     ·rw[if_pos hn]
      by_cases h5:nextB 4 [58] l.tail=true
      ·rw[if_pos ⟨hn,h5⟩]
       exact (if_pos ⟨h1,.inr h5⟩).symm
      ·rw[if_neg (fun h=>h5 h.2)]
       rw[if_neg]
       rintro⟨_,h | h⟩
       ·revert h
        repeat' split
        all_goals decide
       ·exact h5 h
     ·rw[if_neg (fun h=>hn h.1),if_neg hn]
      split <;> rfl
   ·rw[if_neg (fun h=>hk h.2),if_neg hk]
    split <;> rfl
  ·rw[if_neg (fun h=>h1 h.1),if_neg (fun h=>h1 h.1)]
theorem eq_sign {t:TokI} (h:tokB 4 [61] t=true):(if t.kind=4 then signP t.s.data.toList else none)=some (3,false):=by
 unfold tokB at h
 rw[Bool.and_eq_true] at h
 have h1:t.kind=4:=by simpa using h.1
 have h2:t.s.data.toList=[61]:=by simpa using h.2
 rw[if_pos h1,h2]
 rfl
theorem braced_dead {op:Int} {x y:Tm} {l:List TokI} (h:nextB 4 [58] l=false):∃ e,bracedP op x y l=.error e:=by
 unfold bracedP mustP
 rw[if_neg (by rw[h];decide)]
 exact⟨_,rfl⟩
theorem rest_alike (x:Tm) (q:List TokI):Alike (if howP q=0 then heldP x q else aggregateP (howP q) x q) (restQ x q):=by
 cases q with
 | nil=>
  left
  intro y p
  constructor <;> intro h <;> cases h
 | cons t r=>
  by_cases h1:tokB 4 [61] t=true
  ·have hs:=eq_sign h1
   have h61:t.s.data.toList=[61]:=by
    unfold tokB at h1
    rw[Bool.and_eq_true] at h1
    simpa using h1.2
   have hQ:restQ x (t::r)=if howQ r≠0∧(x.op=1∨x.op=2) then aggQ (howQ r) x r.tail else match exprP r with | .error e=>.error e | .ok (y,q)=>.ok (⟨3,noAm,x,y⟩,q):=by
    unfold restQ
    simp only
    rw[hs]
    by_cases hh:howQ r≠0∧(x.op=1∨x.op=2)
    ·rw[if_pos hh]
     simp only
     rw[if_pos ⟨hh.1,h61,hh.2⟩]
    ·rw[if_neg hh]
     simp only
     rw[if_neg (fun h=>hh ⟨h.1,h.2.2⟩)]
     rfl
   have hP:heldP x (t::r)=match exprP r with | .error e=>.error e | .ok (y,q)=>.ok (⟨3,noAm,x,y⟩,q):=by
    unfold heldP
    simp only
    rw[hs]
    rfl
   rw[hQ]
   by_cases h0:howQ r=0
   ·have hp0:howP (t::r)=0:=by rw[how_eq,h0];split <;> rfl
    rw[if_pos hp0,if_neg (fun h=>h.1 h0),hP]
    exact .of_eq rfl
   ·obtain⟨w,l,rfl,he,hn1,hn2⟩:=how_expr h0
    have hw:=how_word h0
    have hdrop:(t::w::l).drop 2=l:=rfl
    by_cases hc:howQ (w::l)=7∨nextB 4 [58] ((w::l).drop 2)=true
    ·have hp1:howP (t::w::l)=howQ (w::l):=by rw[how_eq];exact if_pos ⟨h1,hc⟩
     rw[hp1,if_neg h0]
     unfold aggregateP
     rw[hdrop]
     by_cases hx:x.op=1∨x.op=2
     ·rw[if_pos hx,if_pos (show howQ (w::l)≠0∧(x.op=1∨x.op=2) from ⟨h0,hx⟩)]
      exact .of_eq rfl
     ·rw[if_neg hx,if_neg (fun h=>hx h.2),he]
      exact .inr ⟨dead_error _,fun _ _ h=>by cases h;exact⟨hn1,hn2⟩⟩
    ·have hp1:howP (t::w::l)=0:=by rw[how_eq];exact if_neg (fun h=>hc h.2)
     rw[if_pos hp1,hP,he]
     by_cases hx:x.op=1∨x.op=2
     ·rw[if_pos ⟨h0,hx⟩]
      right
      refine⟨fun _ _ h=>by cases h;exact⟨hn1,hn2⟩,?_⟩
      have h7:howQ (w::l)≠7:=fun h=>hc (.inl h)
      have hnm:=hw.2.2.2 h7
      have h5:nextB 4 [58] l.tail=false:=by
       have:nextB 4 [58] ((w::l).drop 2)=false:=by simpa using fun h=>hc (.inr h)
       cases l <;> exact this
      unfold aggQ
      rw[if_neg h7]
      show Dead (match nameP l with | .error e=>.error e | .ok (s,q)=>bracedP (howQ (w::l)) x (.mk 1 s 0 []) q)
      cases hl:nameP l with
      | error e=>exact dead_error _
      | ok p=>
       obtain⟨s,q⟩:=p
       obtain⟨u,rfl,_,_⟩:=nameP_ok hl
       obtain⟨e,he⟩:=braced_dead (op:=howQ (w::u::q)) (x:=x) (y:=.mk 1 s 0 []) (show nextB 4 [58] q=false from h5)
       show Dead (bracedP _ x (.mk 1 s 0 []) q)
       rw[he]
       exact dead_error _
     ·rw[if_neg (fun h=>hx h.2)]
      exact .of_eq rfl
  ·have h61:¬ (t.kind=4∧t.s.data.toList=[61]):=by
    rintro⟨a,b⟩
    exact h1 (key_tok a b)
   have hp0:howP (t::r)=0:=by rw[how_eq];exact if_neg (fun h=>h1 h.1)
   rw[if_pos hp0]
   refine .of_eq ?_
   unfold heldP restQ
   simp only
   by_cases hk:t.kind=4
   ·rw[if_pos hk]
    cases hs:signP t.s.data.toList with
    | none=>rfl
    | some p=>
     obtain⟨op,turn⟩:=p
     simp only
     rw[if_neg (fun h=>h61 ⟨hk,h.2.1⟩)]
     all_goals (cases exprP r <;> rfl)
   ·rw[if_neg hk]
theorem part_alike (l:List TokI):Alike (partP l) (partQ l):=by
 unfold partP partQ
 by_cases h1:nextB 4 [33] l=true
 ·rw[if_pos h1,if_pos h1];exact .of_eq rfl
 rw[if_neg h1,if_neg h1]
 by_cases h2:nmAt l=true∧nextB 4 [40] l.tail=true
 ·rw[if_pos h2,if_pos h2];exact .of_eq rfl
 rw[if_neg h2,if_neg h2]
 unfold heldQ
 cases exprP l with
 | error e=>exact .of_eq rfl
 | ok p=>exact rest_alike p.1 p.2
theorem body_alike:∀ (n:Nat) (acc:List Lt) (l:List TokI),l.length≤n→Alike (bodyP acc l) (bodyQ acc l):=by
 intro n
 induction n with
 | zero=>
  intro acc l hl
  have:l=[]:=List.eq_nil_of_length_eq_zero (by omega)
  subst this
  left
  intro x q
  constructor
  ·intro h
   rw[bodyP_eq] at h
   split at h
   ·cases h
   ·cases hs:partP [] with
    | error e=>rw[hs] at h;cases h
    | ok p=>exact absurd (partP_less hs) (Nat.not_lt_zero _)
  ·intro h
   rw[bodyQ_eq] at h
   split at h
   ·cases h
   ·cases hs:partQ [] with
    | error e=>rw[hs] at h;cases h
    | ok p=>exact absurd (partQ_less hs) (Nat.not_lt_zero _)
 | succ n ih=>
  intro acc l hl
  rw[bodyP_eq,bodyQ_eq]
  by_cases h20:acc.length=20
  ·rw[if_pos h20,if_pos h20];exact .of_eq rfl
  rw[if_neg h20,if_neg h20]
  rcases part_alike l with h | ⟨hd,he⟩
  ·cases hs:partP l with
   | error e=>
    cases hq:partQ l with
    | error e'=>exact .inl fun x q=>⟨(fun h=>by cases h),(fun h=>by cases h)⟩
    | ok p=>have:=(h p.1 p.2).2 hq;rw[hs] at this;cases this
   | ok p=>
    obtain⟨x,q⟩:=p
    rw[(h x q).1 hs]
    show Alike (if nextB 4 [44] q=true then bodyP (acc++[x]) q.tail else .ok (acc++[x],q)) (if nextB 4 [44] q=true then bodyQ (acc++[x]) q.tail else .ok (acc++[x],q))
    by_cases hc:nextB 4 [44] q=true
    ·rw[if_pos hc,if_pos hc]
     have:=partP_less hs
     exact ih _ _ (by rw[List.length_tail];omega)
    ·rw[if_neg hc,if_neg hc];exact .of_eq rfl
  ·right
   constructor
   ·cases hs:partP l with
    | error e=>exact dead_error _
    | ok p=>
     obtain⟨x,q⟩:=p
     have:=hd x q hs
     show Dead (if nextB 4 [44] q=true then bodyP (acc++[x]) q.tail else .ok (acc++[x],q))
     rw[this.1]
     intro y r h
     cases h
     exact this
   ·cases hs:partQ l with
    | error e=>exact dead_error _
    | ok p=>
     obtain⟨x,q⟩:=p
     have:=he x q hs
     show Dead (if nextB 4 [44] q=true then bodyQ (acc++[x]) q.tail else .ok (acc++[x],q))
     rw[this.1]
     intro y r h
     cases h
     exact this
theorem end_dead {line:Int} {a:Am} {b:List Lt} {q:List TokI} (h:nextB 4 [46] q=false):∃ e,endP line a b q=.error e:=by
 unfold endP mustP
 rw[if_neg (by rw[h];decide)]
 exact⟨_,rfl⟩
theorem rule_same (l:List TokI) (x:Ru) (q:List TokI):ruleP l=.ok (x,q) ↔ ruleQ l=.ok (x,q):=by
 unfold ruleP ruleQ
 cases atomP l with
 | error e=>exact Iff.rfl
 | ok p=>
  obtain⟨a,r⟩:=p
  simp only
  by_cases h1:headedB false a=true
  ·rw[if_pos h1,if_pos h1]
   by_cases h2:nextB 4 [58,45] r=true
   ·rw[if_pos h2,if_pos h2]
    rcases body_alike _ [] r.tail (Nat.le_refl _) with h | ⟨hd,he⟩
    ·cases hs:bodyP [] r.tail with
     | error e=>
      cases hq:bodyQ [] r.tail with
      | error e'=>exact⟨(fun h=>by cases h),(fun h=>by cases h)⟩
      | ok p=>have:=(h p.1 p.2).2 hq;rw[hs] at this;cases this
     | ok p=>
      rw[(h p.1 p.2).1 hs]
    ·have hP:¬ (match bodyP [] r.tail with | .error e=>(.error e:Res Ru) | .ok (b,q)=>endP (lineL l) a b q)=.ok (x,q):=by
      cases hs:bodyP [] r.tail with
      | error e=>intro h;cases h
      | ok p=>
       obtain⟨e,hq⟩:=end_dead (line:=lineL l) (a:=a) (b:=p.1) (hd p.1 p.2 hs).2
       intro h
       have h:endP (lineL l) a p.1 p.2=.ok (x,q):=h
       rw[hq] at h
       cases h
     have hQ:¬ (match bodyQ [] r.tail with | .error e=>(.error e:Res Ru) | .ok (b,q)=>endP (lineL l) a b q)=.ok (x,q):=by
      cases hs:bodyQ [] r.tail with
      | error e=>intro h;cases h
      | ok p=>
       obtain⟨e,hq⟩:=end_dead (line:=lineL l) (a:=a) (b:=p.1) (he p.1 p.2 hs).2
       intro h
       have h:endP (lineL l) a p.1 p.2=.ok (x,q):=h
       rw[hq] at h
       cases h
     exact⟨fun h=>absurd h hP,fun h=>absurd h hQ⟩
   ·rw[if_neg h2,if_neg h2]
  ·rw[if_neg h1,if_neg h1]
theorem markL_mem {s:ByteArray} {inn:Bool}:∀ {ds es:List De},markL s inn ds=some es→∃ d ∈ ds,d.rel.data.toList=s.data.toList
 | [],es,h=>by simp[markL] at h
 | d::ds,es,h=>by
  unfold markL at h
  by_cases hd:d.rel.data.toList=s.data.toList
  ·exact⟨d,by simp,hd⟩
  ·rw[if_neg hd,Option.map_eq_some_iff] at h
   obtain⟨es',h',_⟩:=h
   obtain⟨x,hx,e⟩:=markL_mem h'
   exact⟨x,by simp[hx],e⟩
theorem markL_rels {s:ByteArray} {inn:Bool}:∀ {ds es:List De},markL s inn ds=some es→es.map (·.rel)=ds.map (·.rel)
 | [],es,h=>by simp[markL] at h
 | d::ds,es,h=>by
  unfold markL at h
  by_cases hd:d.rel.data.toList=s.data.toList
  ·rw[if_pos hd] at h
   by_cases hm:(if inn=true then d.inn else d.out)=true
   ·rw[if_pos hm] at h;cases h
   ·rw[if_neg hm] at h;cases h;rfl
  ·rw[if_neg hd,Option.map_eq_some_iff] at h
   obtain⟨es',h',rfl⟩:=h
   simp[markL_rels h']
theorem can_of {s:ByteArray} {inn:Bool} {ds es:List De} (h:markL s inn ds=some es):canB inn ds=true:=by
 obtain⟨d,hd,e⟩:=markL_mem h
 unfold canB
 rw[List.any_eq_true]
 have he:d.rel=s:=bytes_eq e
 exact⟨d,hd,by rw[he,h];rfl⟩
def NoLine (ds:List De):Prop:=∀ d ∈ ds,d.rel.data.toList≠[95]
theorem NoLine.rels {ds es:List De} (h:NoLine ds) (e:es.map (·.rel)=ds.map (·.rel)):NoLine es:=by
 intro x hx
 have:x.rel ∈ ds.map (·.rel):=by rw[← e];exact List.mem_map_of_mem hx
 obtain⟨d,hd,hr⟩:=List.mem_map.1 this
 rw[← hr]
 exact h d hd
theorem mark_same {inn:Bool} {ds:List De} (hds:NoLine ds) {l:List TokI} (es:List De) (q:List TokI):markP inn ds l.tail=.ok (es,q) ↔ markQ inn ds l=.ok (es,q):=by
 constructor
 ·intro h
  unfold markP at h
  cases h1:nameP l.tail with
  | error e=>rw[h1] at h;cases h
  | ok p=>
   obtain⟨s,q1⟩:=p
   rw[h1] at h
   obtain⟨t,ht,hn,rfl⟩:=nameP_ok h1
   simp only at h
   split at h
   ·cases h
   ·next hm=>
    cases h
    unfold markQ
    rw[if_pos (can_of hm),ht]
    simp only
    rw[if_pos (nm_k hn),hm]
 ·intro h
  obtain⟨hc,t,ht,hk,hm⟩:=markQ_ok h
  have hn:isNm t=true:=by
   obtain⟨d,hd,e⟩:=markL_mem hm
   have:=hds d hd
   rw[e] at this
   unfold isNm
   rw[hk]
   simp[this]
  unfold markP nameP
  rw[ht]
  simp only
  rw[if_pos hn]
  simp only
  rw[hm]
theorem item_same {p:Pg} (hds:NoLine p.decls) (l:List TokI) (p':Pg) (q:List TokI):itemP p l=.ok (p',q) ↔ itemQ p l=.ok (p',q):=by
 unfold itemP itemQ
 by_cases h1:nextB 5 [46,100,101,99,108] l=true
 ·rw[if_pos h1,if_pos h1]
  all_goals exact Iff.rfl
 rw[if_neg h1,if_neg h1]
 by_cases h2:nextB 5 [46,105,110,112,117,116] l=true
 ·rw[if_pos h2,if_pos h2]
  have hm:=mark_same (inn:=true) hds (l:=l)
  constructor
  ·intro h
   cases hs:markP true p.decls l.tail with
   | error e=>rw[hs] at h;cases h
   | ok x=>rw[hs] at h;rw[(hm x.1 x.2).1 hs];exact h
  ·intro h
   cases hs:markQ true p.decls l with
   | error e=>rw[hs] at h;cases h
   | ok x=>rw[hs] at h;rw[(hm x.1 x.2).2 hs];exact h
 rw[if_neg h2,if_neg h2]
 by_cases h3:nextB 5 [46,111,117,116,112,117,116] l=true
 ·rw[if_pos h3,if_pos h3]
  have hm:=mark_same (inn:=false) hds (l:=l)
  constructor
  ·intro h
   cases hs:markP false p.decls l.tail with
   | error e=>rw[hs] at h;cases h
   | ok x=>rw[hs] at h;rw[(hm x.1 x.2).1 hs];exact h
  ·intro h
   cases hs:markQ false p.decls l with
   | error e=>rw[hs] at h;cases h
   | ok x=>rw[hs] at h;rw[(hm x.1 x.2).2 hs];exact h
 rw[if_neg h3,if_neg h3]
 by_cases h4:p.rules.length=200
 ·rw[if_pos h4,if_pos h4]
 rw[if_neg h4,if_neg h4]
 have hm:=rule_same l
 constructor
 ·intro h
  cases hs:ruleP l with
  | error e=>rw[hs] at h;cases h
  | ok x=>rw[hs] at h;rw[(hm x.1 x.2).1 hs];exact h
 ·intro h
  cases hs:ruleQ l with
  | error e=>rw[hs] at h;cases h
  | ok x=>rw[hs] at h;rw[(hm x.1 x.2).2 hs];exact h
theorem item_noline {p p':Pg} {l q:List TokI} (hds:NoLine p.decls) (h:itemP p l=.ok (p',q)):NoLine p'.decls:=by
 unfold itemP at h
 by_cases h1:nextB 5 [46,100,101,99,108] l=true
 ·rw[if_pos h1] at h
  by_cases h2:p.decls.length=60
  ·rw[if_pos h2] at h;cases h
  ·rw[if_neg h2] at h
   cases hs:declP (lineL l) l.tail with
   | error e=>rw[hs] at h;cases h
   | ok x=>
    rw[hs] at h
    cases h
    intro d hd
    rcases List.mem_append.1 hd with hd | hd
    ·exact hds d hd
    ·rw[List.mem_singleton.1 hd]
     unfold declP at hs
     cases hn:nameP l.tail with
     | error e=>rw[hn] at hs;cases hs
     | ok y=>
      obtain⟨s,q1⟩:=y
      rw[hn] at hs
      obtain⟨t,_,hnm,rfl⟩:=nameP_ok hn
      simp only at hs
      cases h5:mustP 4 [40] () q1 with
      | error e=>rw[h5] at hs;cases hs
      | ok y=>
       rw[h5] at hs
       simp only at hs
       cases h6:columnsP [] y.2 with
       | error e=>rw[h6] at hs;cases hs
       | ok z=>
        rw[h6] at hs
        have:=(mustP_ok hs).2.1
        rw[this]
        unfold isNm at hnm
        rw[Bool.and_eq_true] at hnm
        simpa using hnm.2
 rw[if_neg h1] at h
 by_cases h1:nextB 5 [46,105,110,112,117,116] l=true
 ·rw[if_pos h1] at h
  cases hs:markP true p.decls l.tail with
  | error e=>rw[hs] at h;cases h
  | ok x=>
   rw[hs] at h
   obtain⟨_,t,_,_,hm⟩:=markQ_ok ((mark_same hds (l:=l) x.1 x.2).1 hs)
   cases h
   exact hds.rels (markL_rels hm)
 rw[if_neg h1] at h
 by_cases h1:nextB 5 [46,111,117,116,112,117,116] l=true
 ·rw[if_pos h1] at h
  cases hs:markP false p.decls l.tail with
  | error e=>rw[hs] at h;cases h
  | ok x=>
   rw[hs] at h
   obtain⟨_,t,_,_,hm⟩:=markQ_ok ((mark_same hds (l:=l) x.1 x.2).1 hs)
   cases h
   exact hds.rels (markL_rels hm)
 rw[if_neg h1] at h
 by_cases h2:p.rules.length=200
 ·rw[if_pos h2] at h;cases h
 ·rw[if_neg h2] at h
  cases hs:ruleP l with
  | error e=>rw[hs] at h;cases h
  | ok x=>
   rw[hs] at h
   cases h
   exact hds
theorem items_same:∀ (n:Nat) (p:Pg) (l:List TokI),l.length≤n→NoLine p.decls→∀ r,itemsP p l=.ok r ↔ itemsQ p l=.ok r:=by
 intro n
 induction n with
 | zero=>
  intro p l hl _ r
  have:l=[]:=List.eq_nil_of_length_eq_zero (by omega)
  subst this
  rw[itemsP_nil,itemsQ_nil]
 | succ n ih=>
  intro p l hl hds r
  by_cases h0:l=[]
  ·subst h0
   rw[itemsP_nil,itemsQ_nil]
  rw[itemsP_eq p h0,itemsQ_eq p h0]
  have hm:=item_same hds l
  cases hs:itemP p l with
  | error e=>
   cases hq:itemQ p l with
   | error e'=>exact⟨(fun h=>by cases h),(fun h=>by cases h)⟩
   | ok x=>have:=(hm x.1 x.2).2 hq;rw[hs] at this;cases this
  | ok x=>
   rw[(hm x.1 x.2).1 hs]
   have:=itemP_less hs
   exact ih x.1 x.2 (by omega) (item_noline hds hs) r
theorem parseQ_of {l:List TokI} {p:Pg} {n:Int} (h:parseP l=(p,n,0)):parseQ l=(p,0,0):=by
 obtain⟨h1,rfl,h3⟩:=parse_ok h
 unfold parseQ
 rw[if_neg (by omega),(items_same _ ⟨[],[]⟩ l (Nat.le_refl _) (fun d hd=>by cases hd) _).1 h3]
end Go.Proofs.YtdgbajnhhhjbcaaGreatDoor
