/- Par@012 -/
import Derived.Test.YtdgbajnhhhjbcaaGreatDoorQ5
set_option linter.unusedSimpArgs false
namespace Go.Proofs.YtdgbajnhhhjbcaaGreatDoor
abbrev Res (α:Type):=Except (Int × Int) (α × List TokI)
def noTm:Tm:=.mk 0 ⟨#[]⟩ 0 []
def noAm:Am:=⟨⟨#[]⟩,[]⟩
def lineL:List TokI→Int
 | []=>0
 | t::_=>t.line
def tokB (k:Int) (s:List UInt8) (t:TokI):Bool:=(t.kind == k) && (t.s.data.toList == s)
def nextB (k:Int) (s:List UInt8):List TokI→Bool
 | []=>false
 | t::_=>tokB k s t
def isNm (t:TokI):Bool:=(t.kind == 1) && !(t.s.data.toList == [95])
def nmAt:List TokI→Bool
 | []=>false
 | t::_=>isNm t
def mustP {α:Type} (k:Int) (s:List UInt8) (x:α) (l:List TokI):Res α:=if nextB k s l=true then .ok (x,l.tail) else .error (40,lineL l)
def nameP:List TokI→Res ByteArray
 | []=>.error (40,0)
 | t::r=>if isNm t=true then .ok (t.s,r) else .error (40,t.line)
def digitsI (l:List UInt8):Int:=l.foldl (fun n c=>10 * n+(c.toNat - 48)) 0
def intT (n:Int):Tm:=.mk 2 ⟨#[]⟩ n []
def minusP:List TokI→Res Tm
 | []=>.error (40,0)
 | u::q=>if u.kind=2 then .ok (intT (-(digitsI u.s.data.toList)),q) else .error (40,u.line)
def joinP (op:Int) (x y:Tm) (line:Int) (l:List TokI):Res Tm:=if x.op=3∨y.op=3 then .error (40,line) else .ok (.mk op ⟨#[]⟩ 0 [x,y],l)
mutual
def thingP:List TokI→Res Tm
 | []=>.error (40,0)
 | t::r=>
  if t.kind=2 then .ok (intT (digitsI t.s.data.toList),r)
  else if t.kind=3 then .ok (.mk 3 t.s 0 [],r)
  else if isNm t=true then .ok (.mk 1 t.s 0 [],r)
  else if tokB 4 [45] t=true then minusP r
  else if tokB 4 [40] t=true then
   match sumP r with
   | .error e=>.error e
   | .ok (x,q)=>mustP 4 [41] x q
  else .error (40,t.line)
 termination_by l=>(l.length,0)
def timesP (x:Tm):List TokI→Res Tm
 | []=>.ok (x,[])
 | t::r=>
  if tokB 4 [42] t=true then
   match thingP r with
   | .error e=>.error e
   | .ok (y,q)=>
    match joinP 7 x y t.line q with
    | .error e=>.error e
    | .ok (z,_)=>if q.length≤r.length then timesP z q else .error (90,0)
  else .ok (x,t::r)
 termination_by l=>(l.length,1)
def productP (l:List TokI):Res Tm:=
 match thingP l with
 | .error e=>.error e
 | .ok (x,q)=>if q.length < l.length then timesP x q else .error (90,0)
 termination_by (l.length,2)
def plusP (x:Tm):List TokI→Res Tm
 | []=>.ok (x,[])
 | t::r=>
  if tokB 4 [43] t=true∨tokB 4 [45] t=true then
   match productP r with
   | .error e=>.error e
   | .ok (y,q)=>
    match joinP (if tokB 4 [45] t=true then 6 else 5) x y t.line q with
    | .error e=>.error e
    | .ok (z,_)=>if q.length≤r.length then plusP z q else .error (90,0)
  else .ok (x,t::r)
 termination_by l=>(l.length,3)
def sumP (l:List TokI):Res Tm:=
 match productP l with
 | .error e=>.error e
 | .ok (x,q)=>if q.length < l.length then plusP x q else .error (90,0)
 termination_by (l.length,4)
end
mutual
def highT:Tm→Nat
 | .mk _ _ _ l=>highTs l+1
def highTs:List Tm→Nat
 | []=>0
 | t::l=>max (highT t) (highTs l)
end
def exprP (l:List TokI):Res Tm:=
 match sumP l with
 | .error e=>.error e
 | .ok (x,q)=>if 20 < highT x then .error (41,lineL l) else .ok (x,q)
def argP (l:List TokI):Res Tm:=if nextB 1 [95] l=true then .ok (.mk 4 ⟨#[]⟩ 0 [],l.tail) else exprP l
def argsP (acc:List Tm) (l:List TokI):Res (List Tm):=
 if acc.length=8 then .error (21,lineL l) else
  match argP l with
  | .error e=>.error e
  | .ok (x,q)=>
   if nextB 4 [44] q=true then (if q.length < l.length then argsP (acc++[x]) q.tail else .error (90,0))
   else .ok (acc++[x],q)
 termination_by l.length
 decreasing_by rw[List.length_tail];omega
def atomP (l:List TokI):Res Am:=
 match nameP l with
 | .error e=>.error e
 | .ok (s,q)=>
  match mustP 4 [40] () q with
  | .error e=>.error e
  | .ok (_,q)=>
   match argsP [] q with
   | .error e=>.error e
   | .ok (ats,q)=>mustP 4 [41] ⟨s,ats⟩ q
def howP:List TokI→Int
 | t::w::l=>
  if tokB 4 [61] t=true∧w.kind=1 then
   if w.s.data.toList=[99,111,117,110,116]∧nextB 4 [58] l=true then 7
   else if nmAt l=true∧nextB 4 [58] l.tail=true then
    (if w.s.data.toList=[115,117,109] then 8 else if w.s.data.toList=[109,105,110] then 9 else if w.s.data.toList=[109,97,120] then 10 else 0)
   else 0
  else 0
 | _=>0
def bracedP (op:Int) (x y:Tm) (l:List TokI):Res Lt:=
 match mustP 4 [58] () l with
 | .error e=>.error e
 | .ok (_,q)=>
  match mustP 4 [123] () q with
  | .error e=>.error e
  | .ok (_,q)=>
   match atomP q with
   | .error e=>.error e
   | .ok (a,q)=>mustP 4 [125] ⟨op,a,x,y⟩ q
def aggregateP (op:Int) (x:Tm) (l:List TokI):Res Lt:=
 if x.op=1∨x.op=2 then
  if op=7 then bracedP op x noTm (l.drop 2) else
   match nameP (l.drop 2) with
   | .error e=>.error e
   | .ok (s,q)=>bracedP op x (.mk 1 s 0 []) q
 else .error (40,lineL l)
def signP (s:List UInt8):Option (Int × Bool):=
 if s=[61] then some (3,false) else if s=[33,61] then some (4,false)
 else if s=[60] then some (5,false) else if s=[62] then some (5,true)
 else if s=[60,61] then some (6,false) else if s=[62,61] then some (6,true) else none
def heldP (x:Tm):List TokI→Res Lt
 | []=>.error (40,0)
 | t::r=>
  match (if t.kind=4 then signP t.s.data.toList else none) with
  | none=>.error (40,t.line)
  | some (op,turn)=>
   match exprP r with
   | .error e=>.error e
   | .ok (y,q)=>.ok (⟨op,noAm,if turn=true then y else x,if turn=true then x else y⟩,q)
def litP (op:Int) (l:List TokI):Res Lt:=
 match atomP l with
 | .error e=>.error e
 | .ok (a,q)=>.ok (⟨op,a,noTm,noTm⟩,q)
def partP (l:List TokI):Res Lt:=
 if nextB 4 [33] l=true then litP 2 l.tail
 else if nmAt l=true∧nextB 4 [40] l.tail=true then litP 1 l
 else
  match exprP l with
  | .error e=>.error e
  | .ok (x,q)=>if howP q=0 then heldP x q else aggregateP (howP q) x q
def headedB (bare:Bool) (a:Am):Bool:=a.l.all fun t=>((t.op == 1) || (t.op == 2) || (t.op == 3)) && !(bare && (t.op == 1))
def bodyP (acc:List Lt) (l:List TokI):Res (List Lt):=
 if acc.length=20 then .error (21,lineL l) else
  match partP l with
  | .error e=>.error e
  | .ok (x,q)=>
   if nextB 4 [44] q=true then (if q.length < l.length then bodyP (acc++[x]) q.tail else .error (90,0))
   else .ok (acc++[x],q)
 termination_by l.length
 decreasing_by rw[List.length_tail];omega
def endP (line:Int) (a:Am) (b:List Lt) (l:List TokI):Res Ru:=
 match mustP 4 [46] () l with
 | .error e=>.error e
 | .ok (_,q)=>if headedB b.isEmpty a=true then .ok (⟨a,b,line⟩,q) else .error (40,line)
def ruleP (l:List TokI):Res Ru:=
 match atomP l with
 | .error e=>.error e
 | .ok (a,q)=>
  if headedB false a=true then
   if nextB 4 [58,45] q=true then
    match bodyP [] q.tail with
    | .error e=>.error e
    | .ok (b,q)=>endP (lineL l) a b q
   else endP (lineL l) a [] q
  else .error (40,lineL l)
def typeP (l:List TokI):Res Int:=if nextB 1 [110,117,109,98,101,114] l=true then .ok (1,l.tail) else mustP 1 [115,121,109,98,111,108] 2 l
def columnP (l:List TokI):Res (ByteArray × Int):=
 match nameP l with
 | .error e=>.error e
 | .ok (s,q)=>
  match mustP 4 [58] () q with
  | .error e=>.error e
  | .ok (_,q)=>
   match typeP q with
   | .error e=>.error e
   | .ok (n,q)=>.ok ((s,n),q)
def columnsP (acc:List (ByteArray × Int)) (l:List TokI):Res (List (ByteArray × Int)):=
 if acc.length=8 then .error (21,lineL l) else
  match columnP l with
  | .error e=>.error e
  | .ok (x,q)=>
   if nextB 4 [44] q=true then (if q.length < l.length then columnsP (acc++[x]) q.tail else .error (90,0))
   else .ok (acc++[x],q)
 termination_by l.length
 decreasing_by rw[List.length_tail];omega
def declP (line:Int) (l:List TokI):Res De:=
 match nameP l with
 | .error e=>.error e
 | .ok (s,q)=>
  match mustP 4 [40] () q with
  | .error e=>.error e
  | .ok (_,q)=>
   match columnsP [] q with
   | .error e=>.error e
   | .ok (cs,q)=>mustP 4 [41] ⟨s,cs.map (·.1),cs.map (·.2),false,false,line⟩ q
def markL (s:ByteArray) (inn:Bool):List De→Option (List De)
 | []=>none
 | d::ds=>
  if d.rel.data.toList=s.data.toList then
   (if (if inn=true then d.inn else d.out)=true then none else some ({ d with inn:=d.inn || inn,out:=d.out || !inn }::ds))
  else (markL s inn ds).map (d::·)
def markP (inn:Bool) (ds:List De) (l:List TokI):Res (List De):=
 match nameP l with
 | .error e=>.error e
 | .ok (s,q)=>
  match markL s inn ds with
  | none=>.error (40,lineL l)
  | some ds=>.ok (ds,q)
def itemP (p:Pg) (l:List TokI):Res Pg:=
 if nextB 5 [46,100,101,99,108] l=true then
  if p.decls.length=60 then .error (21,lineL l) else
   match declP (lineL l) l.tail with
   | .error e=>.error e
   | .ok (d,q)=>.ok (⟨p.decls++[d],p.rules⟩,q)
 else if nextB 5 [46,105,110,112,117,116] l=true then
  match markP true p.decls l.tail with
  | .error e=>.error e
  | .ok (ds,q)=>.ok (⟨ds,p.rules⟩,q)
 else if nextB 5 [46,111,117,116,112,117,116] l=true then
  match markP false p.decls l.tail with
  | .error e=>.error e
  | .ok (ds,q)=>.ok (⟨ds,p.rules⟩,q)
 else if p.rules.length=200 then .error (21,lineL l) else
  match ruleP l with
  | .error e=>.error e
  | .ok (r,q)=>.ok (⟨p.decls,p.rules++[r]⟩,q)
def itemsP (p:Pg) (l:List TokI):Except (Int × Int) Pg:=
 if l=[] then .ok p else
  match itemP p l with
  | .error e=>.error e
  | .ok (p,q)=>if q.length < l.length then itemsP p q else .error (90,0)
 termination_by l.length
def parseP (l:List TokI):Pg × Int × Int:=
 if 20000 < l.length then (⟨[],[]⟩,0,21) else
  match itemsP ⟨[],[]⟩ l with
  | .error (e,n)=>(⟨[],[]⟩,n,e)
  | .ok p=>(p,0,0)
theorem mustP_ok {α:Type} {k:Int} {s:List UInt8} {x y:α} {l q:List TokI} (h:mustP k s x l=.ok (y,q)):nextB k s l=true∧y=x∧l.length=q.length+1:=by
 unfold mustP at h
 split at h
 next hn=>
  cases l with
  | nil=>cases hn
  | cons t r=>
   cases h
   exact⟨hn,rfl,rfl⟩
 next=>cases h
theorem nameP_ok {l q:List TokI} {s:ByteArray} (h:nameP l=.ok (s,q)):∃ t,l=t::q∧isNm t=true∧t.s=s:=by
 cases l with
 | nil=>cases h
 | cons t r=>
  have h:(if isNm t=true then Except.ok (t.s,r) else .error ((40:Int),t.line))=Except.ok (s,q):=h
  by_cases hn:isNm t=true
  ·rw[if_pos hn] at h
   cases h
   exact⟨t,rfl,hn,rfl⟩
  ·rw[if_neg hn] at h
   cases h
theorem minusP_ok {l q:List TokI} {x:Tm} (h:minusP l=.ok (x,q)):l.length=q.length+1:=by
 cases l with
 | nil=>cases h
 | cons u r=>
  have h:(if u.kind=2 then Except.ok (intT (-(digitsI u.s.data.toList)),r) else .error ((40:Int),u.line))=Except.ok (x,q):=h
  by_cases hn:u.kind=2
  ·rw[if_pos hn] at h
   cases h
   rfl
  ·rw[if_neg hn] at h
   cases h
theorem sum_less:∀ (n:Nat) (l:List TokI),l.length≤n →
  (∀ x q,thingP l=.ok (x,q)→q.length < l.length)∧(∀ z x q,timesP z l=.ok (x,q)→q.length≤l.length)∧(∀ x q,productP l=.ok (x,q)→q.length < l.length) ∧
  (∀ z x q,plusP z l=.ok (x,q)→q.length≤l.length)∧(∀ x q,sumP l=.ok (x,q)→q.length < l.length):=by
 intro n
 induction n with
 | zero=>
  intro l hl
  have:l=[]:=List.eq_nil_of_length_eq_zero (by omega)
  subst this
  refine⟨?_,?_,?_,?_,?_⟩
  ·intro x q h;rw[thingP] at h;cases h
  ·intro z x q h;rw[timesP] at h;cases h;exact Nat.le_refl _
  ·intro x q h;rw[productP,thingP] at h;cases h
  ·intro z x q h;rw[plusP] at h;cases h;exact Nat.le_refl _
  ·intro x q h;rw[sumP,productP,thingP] at h;cases h
 | succ n ih=>
  intro l hl
  cases l with
  | nil=>exact ih [] (Nat.zero_le _)
  | cons t r=>
   have hr:r.length≤n:=by simpa using hl
   have I:=ih r hr
   have h1:∀ x q,thingP (t::r)=.ok (x,q)→q.length < (t::r).length:=by
    intro x q h
    rw[thingP] at h
    rw[List.length_cons]
    split at h
    ·cases h;omega
    split at h
    ·cases h;omega
    split at h
    ·cases h;omega
    split at h
    ·have:=minusP_ok h;omega
    split at h
    ·split at h
     ·cases h
     ·next hs=>
      have h5:=I.2.2.2.2 _ _ hs
      have:=(mustP_ok h).2.2
      omega
    ·cases h
   have h2:∀ z x q,timesP z (t::r)=.ok (x,q)→q.length≤(t::r).length:=by
    intro z x q h
    rw[timesP] at h
    rw[List.length_cons]
    split at h
    ·split at h
     ·cases h
     ·next hs=>
      have h5:=I.1 _ _ hs
      split at h
      ·cases h
      ·split at h
       ·next hq=>
        have:=(ih _ (Nat.le_trans hq hr)).2.1 _ _ _ h
        omega
       ·cases h
    ·cases h;exact Nat.le_refl _
   have h3:∀ x q,productP (t::r)=.ok (x,q)→q.length < (t::r).length:=by
    intro x q h
    rw[productP] at h
    rw[List.length_cons]
    split at h
    ·cases h
    ·next hs=>
     have h5:=h1 _ _ hs
     rw[List.length_cons] at h5
     split at h
     ·have:=(ih _ (by omega)).2.1 _ _ _ h
      omega
     ·cases h
   have h4:∀ z x q,plusP z (t::r)=.ok (x,q)→q.length≤(t::r).length:=by
    intro z x q h
    rw[plusP] at h
    rw[List.length_cons]
    split at h
    ·split at h
     ·cases h
     ·next hs=>
      split at h
      ·cases h
      ·split at h
       ·next hq=>
        have:=(ih _ (Nat.le_trans hq hr)).2.2.2.1 _ _ _ h
        omega
       ·cases h
    ·cases h;exact Nat.le_refl _
   refine⟨h1,h2,h3,h4,?_⟩
   intro x q h
   rw[sumP] at h
   rw[List.length_cons]
   split at h
   ·cases h
   ·next hs=>
    have h5:=h3 _ _ hs
    rw[List.length_cons] at h5
    split at h
    ·have:=(ih _ (by omega)).2.2.2.1 _ _ _ h
     omega
    ·cases h
theorem thing_less {l q:List TokI} {x:Tm} (h:thingP l=.ok (x,q)):q.length < l.length:=(sum_less _ l (Nat.le_refl _)).1 _ _ h
theorem product_less {l q:List TokI} {x:Tm} (h:productP l=.ok (x,q)):q.length < l.length:=(sum_less _ l (Nat.le_refl _)).2.2.1 _ _ h
theorem sumP_less {l q:List TokI} {x:Tm} (h:sumP l=.ok (x,q)):q.length < l.length:=(sum_less _ l (Nat.le_refl _)).2.2.2.2 _ _ h
theorem productP_eq (l:List TokI):productP l=match thingP l with | .error e=>.error e | .ok (x,q)=>timesP x q:=by
 rw[productP]
 cases h:thingP l with
 | error e=>rfl
 | ok p=>exact if_pos (thing_less h)
theorem sumP_eq (l:List TokI):sumP l=match productP l with | .error e=>.error e | .ok (x,q)=>plusP x q:=by
 rw[sumP]
 cases h:productP l with
 | error e=>rfl
 | ok p=>exact if_pos (product_less h)
theorem timesP_sign (x:Tm) {t:TokI} (r:List TokI) (h:tokB 4 [42] t=true):timesP x (t::r)=match thingP r with
  | .error e=>.error e
  | .ok (y,q)=>if x.op=3∨y.op=3 then .error (40,t.line) else timesP (.mk 7 ⟨#[]⟩ 0 [x,y]) q:=by
 rw[timesP,if_pos h]
 cases hs:thingP r with
 | error e=>rfl
 | ok p=>
  show (match joinP 7 x p.1 t.line p.2 with | .error e=>.error e | .ok (z,_)=>if p.2.length≤r.length then timesP z p.2 else .error (90,0))=if x.op=3∨p.1.op=3 then .error (40,t.line) else timesP (.mk 7 ⟨#[]⟩ 0 [x,p.1]) p.2
  unfold joinP
  by_cases h3:x.op=3∨p.1.op=3
  ·rw[if_pos h3,if_pos h3]
  ·rw[if_neg h3,if_neg h3]
   exact if_pos (Nat.le_of_lt (thing_less hs))
theorem timesP_else (x:Tm) {l:List TokI} (h:nextB 4 [42] l=false):timesP x l=.ok (x,l):=by
 cases l with
 | nil=>rw[timesP]
 | cons t r=>rw[timesP,if_neg (by rw[show tokB 4 [42] t=false from h];decide)]
theorem plusP_sign (x:Tm) {t:TokI} (r:List TokI) (h:tokB 4 [43] t=true∨tokB 4 [45] t=true):plusP x (t::r)=match productP r with
  | .error e=>.error e
  | .ok (y,q)=>if x.op=3∨y.op=3 then .error (40,t.line) else plusP (.mk (if tokB 4 [45] t=true then 6 else 5) ⟨#[]⟩ 0 [x,y]) q:=by
 rw[plusP,if_pos h]
 cases hs:productP r with
 | error e=>rfl
 | ok p=>
  show (match joinP (if tokB 4 [45] t=true then 6 else 5) x p.1 t.line p.2 with | .error e=>.error e | .ok (z,_)=>if p.2.length≤r.length then plusP z p.2 else .error (90,0))=if x.op=3∨p.1.op=3 then .error (40,t.line) else plusP (.mk (if tokB 4 [45] t=true then 6 else 5) ⟨#[]⟩ 0 [x,p.1]) p.2
  unfold joinP
  by_cases h3:x.op=3∨p.1.op=3
  ·rw[if_pos h3,if_pos h3]
  ·rw[if_neg h3,if_neg h3]
   exact if_pos (Nat.le_of_lt (product_less hs))
theorem plusP_else (x:Tm) {l:List TokI} (h:nextB 4 [43] l=false) (h':nextB 4 [45] l=false):plusP x l=.ok (x,l):=by
 cases l with
 | nil=>rw[plusP]
 | cons t r=>rw[plusP,if_neg (by rw[show tokB 4 [43] t=false from h,show tokB 4 [45] t=false from h'];decide)]
theorem exprP_less {l q:List TokI} {x:Tm} (h:exprP l=.ok (x,q)):sumP l=.ok (x,q)∧¬ 20 < highT x∧q.length < l.length:=by
 unfold exprP at h
 cases hs:sumP l with
 | error e=>rw[hs] at h;cases h
 | ok p=>
  rw[hs] at h
  have h:(if 20 < highT p.1 then Except.error ((41:Int),lineL l) else .ok (p.1,p.2))=Except.ok (x,q):=h
  by_cases hn:20 < highT p.1
  ·rw[if_pos hn] at h;cases h
  ·rw[if_neg hn] at h
   cases h
   exact⟨rfl,hn,sumP_less hs⟩
theorem argP_less {l q:List TokI} {x:Tm} (h:argP l=.ok (x,q)):q.length < l.length:=by
 unfold argP at h
 split at h
 next hn=>
  cases l with
  | nil=>cases hn
  | cons t r=>cases h;exact Nat.lt_succ_self _
 next=>exact (exprP_less h).2.2
theorem argsP_eq (acc:List Tm) (l:List TokI):argsP acc l=if acc.length=8 then .error (21,lineL l) else
  match argP l with
  | .error e=>.error e
  | .ok (x,q)=>if nextB 4 [44] q=true then argsP (acc++[x]) q.tail else .ok (acc++[x],q):=by
 rw[argsP]
 cases h:argP l with
 | error e=>rfl
 | ok p=>
  show (if _ then _ else if nextB 4 [44] p.2=true then (if p.2.length < l.length then argsP (acc++[p.1]) p.2.tail else .error (90,0)) else .ok (acc++[p.1],p.2))=_
  rw[if_pos (argP_less h)]
theorem argsP_less:∀ (n:Nat) (acc:List Tm) (l q:List TokI) (x:List Tm),l.length≤n→argsP acc l=.ok (x,q)→q.length < l.length:=by
 intro n
 induction n with
 | zero=>
  intro acc l q x hl h
  have:l=[]:=List.eq_nil_of_length_eq_zero (by omega)
  subst this
  rw[argsP_eq] at h
  split at h
  ·cases h
  ·have he:argP []=.error (40,0):=by unfold argP exprP;rw[sumP,productP,thingP];rfl
   rw[he] at h
   cases h
 | succ n ih=>
  intro acc l q x hl h
  rw[argsP_eq] at h
  split at h
  ·cases h
  ·cases hs:argP l with
   | error e=>rw[hs] at h;cases h
   | ok p=>
    rw[hs] at h
    have h:(if nextB 4 [44] p.2=true then argsP (acc++[p.1]) p.2.tail else .ok (acc++[p.1],p.2))=Except.ok (x,q):=h
    have h1:=argP_less hs
    split at h
    ·have h2:=ih _ _ _ _ (by rw[List.length_tail];omega) h
     rw[List.length_tail] at h2
     omega
    ·cases h
     exact h1
theorem atomP_less {l q:List TokI} {a:Am} (h:atomP l=.ok (a,q)):q.length < l.length:=by
 unfold atomP at h
 cases h1:nameP l with
 | error e=>rw[h1] at h;cases h
 | ok p=>
  obtain⟨s,q1⟩:=p
  rw[h1] at h
  obtain⟨t,rfl,_,_⟩:=nameP_ok h1
  simp only at h
  cases h2:mustP 4 [40] () q1 with
  | error e=>rw[h2] at h;cases h
  | ok p=>
   obtain⟨u,q2⟩:=p
   rw[h2] at h
   have l2:=(mustP_ok h2).2.2
   simp only at h
   cases h3:argsP [] q2 with
   | error e=>rw[h3] at h;cases h
   | ok p=>
    obtain⟨ats,q3⟩:=p
    rw[h3] at h
    have l3:=argsP_less _ _ _ _ _ (Nat.le_refl _) h3
    have l4:=(mustP_ok h).2.2
    rw[List.length_cons]
    omega
theorem bracedP_less {op:Int} {x y:Tm} {l q:List TokI} {a:Lt} (h:bracedP op x y l=.ok (a,q)):q.length < l.length:=by
 unfold bracedP at h
 cases h1:mustP 4 [58] () l with
 | error e=>rw[h1] at h;cases h
 | ok p=>
  obtain⟨s,q1⟩:=p
  rw[h1] at h
  have l1:=(mustP_ok h1).2.2
  simp only at h
  cases h2:mustP 4 [123] () q1 with
  | error e=>rw[h2] at h;cases h
  | ok p=>
   obtain⟨u,q2⟩:=p
   rw[h2] at h
   have l2:=(mustP_ok h2).2.2
   simp only at h
   cases h3:atomP q2 with
   | error e=>rw[h3] at h;cases h
   | ok p=>
    obtain⟨ats,q3⟩:=p
    rw[h3] at h
    have l3:=atomP_less h3
    have l4:=(mustP_ok h).2.2
    omega
theorem aggregateP_less {op:Int} {x:Tm} {l q:List TokI} {a:Lt} (h:aggregateP op x l=.ok (a,q)):q.length < l.length:=by
 have hd:(l.drop 2).length≤l.length:=by rw[List.length_drop];omega
 unfold aggregateP at h
 split at h
 ·split at h
  ·exact Nat.lt_of_lt_of_le (bracedP_less h) hd
  ·cases h1:nameP (l.drop 2) with
   | error e=>rw[h1] at h;cases h
   | ok p=>
    obtain⟨s,q1⟩:=p
    rw[h1] at h
    obtain⟨t,ht,_,_⟩:=nameP_ok h1
    have:=congrArg List.length ht
    rw[List.length_cons] at this
    have:=bracedP_less h
    omega
 ·cases h
theorem heldP_less {x:Tm} {l q:List TokI} {a:Lt} (h:heldP x l=.ok (a,q)):q.length < l.length:=by
 cases l with
 | nil=>cases h
 | cons t r=>
  unfold heldP at h
  simp only at h
  cases h0:(if t.kind=4 then signP t.s.data.toList else none) with
  | none=>rw[h0] at h;cases h
  | some p=>
   obtain⟨op,turn⟩:=p
   rw[h0] at h
   simp only at h
   cases hs:exprP r with
   | error e=>rw[hs] at h;cases h
   | ok p=>
    obtain⟨y,q1⟩:=p
    rw[hs] at h
    have:=(exprP_less hs).2.2
    cases h
    rw[List.length_cons]
    omega
theorem litP_less {op:Int} {l q:List TokI} {a:Lt} (h:litP op l=.ok (a,q)):q.length < l.length:=by
 unfold litP at h
 split at h
 ·cases h
 ·next hs=>cases h;exact atomP_less hs
theorem partP_less {l q:List TokI} {a:Lt} (h:partP l=.ok (a,q)):q.length < l.length:=by
 unfold partP at h
 split at h
 ·have:=litP_less h
  rw[List.length_tail] at this
  omega
 split at h
 ·exact litP_less h
 split at h
 ·cases h
 next hs=>
  have h1:=(exprP_less hs).2.2
  split at h
  ·exact Nat.lt_trans (heldP_less h) h1
  ·exact Nat.lt_trans (aggregateP_less h) h1
theorem bodyP_eq (acc:List Lt) (l:List TokI):bodyP acc l=if acc.length=20 then .error (21,lineL l) else
  match partP l with
  | .error e=>.error e
  | .ok (x,q)=>if nextB 4 [44] q=true then bodyP (acc++[x]) q.tail else .ok (acc++[x],q):=by
 rw[bodyP]
 cases h:partP l with
 | error e=>rfl
 | ok p=>
  show (if _ then _ else if nextB 4 [44] p.2=true then (if p.2.length < l.length then bodyP (acc++[p.1]) p.2.tail else .error (90,0)) else .ok (acc++[p.1],p.2))=_
  rw[if_pos (partP_less h)]
theorem bodyP_less:∀ (n:Nat) (acc:List Lt) (l q:List TokI) (x:List Lt),l.length≤n→bodyP acc l=.ok (x,q)→q.length≤l.length:=by
 intro n
 induction n with
 | zero=>
  intro acc l q x hl h
  have:l=[]:=List.eq_nil_of_length_eq_zero (by omega)
  subst this
  rw[bodyP_eq] at h
  split at h
  ·cases h
  ·cases hs:partP [] with
   | error e=>rw[hs] at h;cases h
   | ok p=>exact absurd (partP_less hs) (Nat.not_lt_zero _)
 | succ n ih=>
  intro acc l q x hl h
  rw[bodyP_eq] at h
  split at h
  ·cases h
  ·cases hs:partP l with
   | error e=>rw[hs] at h;cases h
   | ok p=>
    rw[hs] at h
    have h:(if nextB 4 [44] p.2=true then bodyP (acc++[p.1]) p.2.tail else .ok (acc++[p.1],p.2))=Except.ok (x,q):=h
    have h1:=partP_less hs
    split at h
    ·have h2:=ih _ _ _ _ (by rw[List.length_tail];omega) h
     rw[List.length_tail] at h2
     omega
    ·cases h
     exact Nat.le_of_lt h1
theorem endP_less {line:Int} {a:Am} {b:List Lt} {l q:List TokI} {r:Ru} (h:endP line a b l=.ok (r,q)):q.length < l.length:=by
 unfold endP at h
 split at h
 ·cases h
 next hs=>
  have:=(mustP_ok hs).2.2
  split at h
  ·cases h;omega
  ·cases h
theorem ruleP_less {l q:List TokI} {r:Ru} (h:ruleP l=.ok (r,q)):q.length < l.length:=by
 unfold ruleP at h
 split at h
 ·cases h
 next hs=>
  have h1:=atomP_less hs
  split at h
  ·split at h
   ·split at h
    ·cases h
    next hb=>
     have h2:=bodyP_less _ _ _ _ _ (Nat.le_refl _) hb
     rw[List.length_tail] at h2
     have:=endP_less h
     omega
   ·exact Nat.lt_trans (endP_less h) h1
  ·cases h
theorem typeP_less {l q:List TokI} {n:Int} (h:typeP l=.ok (n,q)):q.length < l.length:=by
 unfold typeP at h
 split at h
 next hn=>
  cases l with
  | nil=>cases hn
  | cons t r=>cases h;exact Nat.lt_succ_self _
 next=>
  have:=(mustP_ok h).2.2
  omega
theorem columnP_less {l q:List TokI} {x:ByteArray × Int} (h:columnP l=.ok (x,q)):q.length < l.length:=by
 unfold columnP at h
 cases h1:nameP l with
 | error e=>rw[h1] at h;cases h
 | ok p=>
  obtain⟨s,q1⟩:=p
  rw[h1] at h
  obtain⟨t,rfl,_,_⟩:=nameP_ok h1
  simp only at h
  cases h2:mustP 4 [58] () q1 with
  | error e=>rw[h2] at h;cases h
  | ok p=>
   obtain⟨u,q2⟩:=p
   rw[h2] at h
   have l2:=(mustP_ok h2).2.2
   simp only at h
   cases h3:typeP q2 with
   | error e=>rw[h3] at h;cases h
   | ok p=>
    obtain⟨n,q3⟩:=p
    rw[h3] at h
    have l3:=typeP_less h3
    cases h
    rw[List.length_cons]
    omega
theorem columnsP_eq (acc:List (ByteArray × Int)) (l:List TokI):columnsP acc l=if acc.length=8 then .error (21,lineL l) else
  match columnP l with
  | .error e=>.error e
  | .ok (x,q)=>if nextB 4 [44] q=true then columnsP (acc++[x]) q.tail else .ok (acc++[x],q):=by
 rw[columnsP]
 cases h:columnP l with
 | error e=>rfl
 | ok p=>
  show (if _ then _ else if nextB 4 [44] p.2=true then (if p.2.length < l.length then columnsP (acc++[p.1]) p.2.tail else .error (90,0)) else .ok (acc++[p.1],p.2))=_
  rw[if_pos (columnP_less h)]
theorem columnsP_less:∀ (n:Nat) (acc:List (ByteArray × Int)) (l q:List TokI) (x:List (ByteArray × Int)),l.length≤n→columnsP acc l=.ok (x,q)→q.length≤l.length:=by
 intro n
 induction n with
 | zero=>
  intro acc l q x hl h
  have:l=[]:=List.eq_nil_of_length_eq_zero (by omega)
  subst this
  rw[columnsP_eq] at h
  split at h
  ·cases h
  ·cases hs:columnP [] with
   | error e=>rw[hs] at h;cases h
   | ok p=>exact absurd (columnP_less hs) (Nat.not_lt_zero _)
 | succ n ih=>
  intro acc l q x hl h
  rw[columnsP_eq] at h
  split at h
  ·cases h
  ·cases hs:columnP l with
   | error e=>rw[hs] at h;cases h
   | ok p=>
    rw[hs] at h
    have h:(if nextB 4 [44] p.2=true then columnsP (acc++[p.1]) p.2.tail else .ok (acc++[p.1],p.2))=Except.ok (x,q):=h
    have h1:=columnP_less hs
    split at h
    ·have h2:=ih _ _ _ _ (by rw[List.length_tail];omega) h
     rw[List.length_tail] at h2
     omega
    ·cases h
     exact Nat.le_of_lt h1
theorem declP_less {line:Int} {l q:List TokI} {d:De} (h:declP line l=.ok (d,q)):q.length < l.length:=by
 unfold declP at h
 cases h1:nameP l with
 | error e=>rw[h1] at h;cases h
 | ok p=>
  obtain⟨s,q1⟩:=p
  rw[h1] at h
  obtain⟨t,rfl,_,_⟩:=nameP_ok h1
  simp only at h
  cases h2:mustP 4 [40] () q1 with
  | error e=>rw[h2] at h;cases h
  | ok p=>
   obtain⟨u,q2⟩:=p
   rw[h2] at h
   have l2:=(mustP_ok h2).2.2
   simp only at h
   cases h3:columnsP [] q2 with
   | error e=>rw[h3] at h;cases h
   | ok p=>
    obtain⟨cs,q3⟩:=p
    rw[h3] at h
    have l3:=columnsP_less _ _ _ _ _ (Nat.le_refl _) h3
    have l4:=(mustP_ok h).2.2
    rw[List.length_cons]
    omega
theorem markP_less {inn:Bool} {ds es:List De} {l q:List TokI} (h:markP inn ds l=.ok (es,q)):q.length < l.length:=by
 unfold markP at h
 cases h1:nameP l with
 | error e=>rw[h1] at h;cases h
 | ok p=>
  obtain⟨s,q1⟩:=p
  rw[h1] at h
  obtain⟨t,rfl,_,_⟩:=nameP_ok h1
  simp only at h
  split at h
  ·cases h
  ·cases h;exact Nat.lt_succ_self _
theorem next_tail {k:Int} {s:List UInt8} {l:List TokI} (h:nextB k s l=true):l.length=l.tail.length+1:=by
 cases l with
 | nil=>cases h
 | cons t r=>rfl
theorem itemP_less {p p':Pg} {l q:List TokI} (h:itemP p l=.ok (p',q)):q.length < l.length:=by
 unfold itemP at h
 by_cases h1:nextB 5 [46,100,101,99,108] l=true
 ·rw[if_pos h1] at h
  have:=next_tail h1
  by_cases h2:p.decls.length=60
  ·rw[if_pos h2] at h;cases h
  ·rw[if_neg h2] at h
   cases hs:declP (lineL l) l.tail with
   | error e=>rw[hs] at h;cases h
   | ok x=>
    rw[hs] at h
    have:=declP_less hs
    cases h
    omega
 rw[if_neg h1] at h
 by_cases h1:nextB 5 [46,105,110,112,117,116] l=true
 ·rw[if_pos h1] at h
  have:=next_tail h1
  cases hs:markP true p.decls l.tail with
  | error e=>rw[hs] at h;cases h
  | ok x=>
   rw[hs] at h
   have:=markP_less hs
   cases h
   omega
 rw[if_neg h1] at h
 by_cases h1:nextB 5 [46,111,117,116,112,117,116] l=true
 ·rw[if_pos h1] at h
  have:=next_tail h1
  cases hs:markP false p.decls l.tail with
  | error e=>rw[hs] at h;cases h
  | ok x=>
   rw[hs] at h
   have:=markP_less hs
   cases h
   omega
 rw[if_neg h1] at h
 by_cases h2:p.rules.length=200
 ·rw[if_pos h2] at h;cases h
 ·rw[if_neg h2] at h
  cases hs:ruleP l with
  | error e=>rw[hs] at h;cases h
  | ok x=>
   rw[hs] at h
   have:=ruleP_less hs
   cases h
   omega
theorem itemsP_nil (p:Pg):itemsP p []=.ok p:=by rw[itemsP,if_pos rfl]
theorem itemsP_eq (p:Pg) {l:List TokI} (hl:l≠[]):itemsP p l=match itemP p l with | .error e=>.error e | .ok (p,q)=>itemsP p q:=by
 rw[itemsP,if_neg hl]
 cases h:itemP p l with
 | error e=>rfl
 | ok x=>exact if_pos (itemP_less h)
end Go.Proofs.YtdgbajnhhhjbcaaGreatDoor
