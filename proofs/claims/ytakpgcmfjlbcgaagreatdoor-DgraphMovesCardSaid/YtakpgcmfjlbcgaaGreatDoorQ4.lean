/- Tm@0123, Tsp@0123, Tlook@0123, Tsize@0123 -/
import Derived.BigQuiet
import Derived.Deep.QuietTactic
import Derived.Test.YtakpgcmfjlbcgaaGreatDoorQ2
import Derived.Test.YtakpgcmfjlbcgaaGreatDoorQ3
set_option linter.unusedSimpArgs false
set_option linter.unusedVariables false
namespace Go.Proofs.YtakpgcmfjlbcgaaGreatDoor
open Lib(hid)
open Go.RowKit
inductive Tm where
 | mk (op:Int) (s:ByteArray) (n:Int) (l:List Tm)
def Tm.op:Tm→Int | .mk o _ _ _=>o
def Tm.s:Tm→ByteArray | .mk _ s _ _=>s
def Tm.n:Tm→Int | .mk _ _ n _=>n
def Tm.l:Tm→List Tm | .mk _ _ _ l=>l
@[simp] theorem Tm.op_mk (o:Int) (s:ByteArray) (n:Int) (l:List Tm):(Tm.mk o s n l).op=o:=rfl
@[simp] theorem Tm.s_mk (o:Int) (s:ByteArray) (n:Int) (l:List Tm):(Tm.mk o s n l).s=s:=rfl
@[simp] theorem Tm.n_mk (o:Int) (s:ByteArray) (n:Int) (l:List Tm):(Tm.mk o s n l).n=n:=rfl
@[simp] theorem Tm.l_mk (o:Int) (s:ByteArray) (n:Int) (l:List Tm):(Tm.mk o s n l).l=l:=rfl
structure Am where
 rel:ByteArray
 l:List Tm
structure Lt where
 op:Int
 a:Am
 x:Tm
 y:Tm
structure Ru where
 head:Am
 body:List Lt
 line:Int
structure De where
 rel:ByteArray
 names:List ByteArray
 types:List Int
 inn:Bool
 out:Bool
 line:Int
structure Pg where
 decls:List De
 rules:List Ru
inductive TmC (w:World) (B:Nat):Tm→List Value→Prop where
 | nil (op:Int) (s:ByteArray) (n:Int):I64 op→s.size≤maxLen→I64 n→TmC w B (.mk op s n []) [.int .i64 op,.string s,.int .i64 n,.slice none 0 0]
 | row (op:Int) (s:ByteArray) (n:Int) (l:List Tm) (a:Addr) (cap:Nat) (cs:Nat→List Value):I64 op→s.size≤maxLen→I64 n→l.length≤cap→cap≤maxLen→(l≠[]→a.block < B) →
   (∀ i x,l[i]?=some x→TmC w B x (cs i))→(∀ i x,l[i]?=some x→(cs i).length=4∧CellsAt w a (i * 4) (cs i)) →
   TmC w B (.mk op s n l) [.int .i64 op,.string s,.int .i64 n,.slice (some a) l.length cap]
abbrev TmS (w:World) (B:Nat) (l:List Tm) (v:Value):Prop:=SlOf w B 4 (TmC w B) l v
theorem TmC.parts {w:World} {B:Nat} {t:Tm} {cs:List Value} (h:TmC w B t cs):∃ v,cs=[.int .i64 t.op,.string t.s,.int .i64 t.n,v]∧I64 t.op∧t.s.size≤maxLen∧I64 t.n∧TmS w B t.l v:=by
 cases h with
 | nil op s n h1 h2 h3=>exact⟨_,rfl,h1,h2,h3,.inl ⟨rfl,rfl⟩⟩
 | row op s n l a cap cs h1 h2 h3 h4 h5 h6 h7 h8=>exact⟨_,rfl,h1,h2,h3,.inr ⟨a,cap,rfl,h4,h5,h6,fun i x hx=>⟨cs i,(h8 i x hx).1,h7 i x hx,(h8 i x hx).2⟩⟩⟩
theorem TmC.of {w:World} {B:Nat} {op:Int} {s:ByteArray} {n:Int} {l:List Tm} {v:Value} (h1:I64 op) (h2:s.size≤maxLen) (h3:I64 n) (h:TmS w B l v):TmC w B (.mk op s n l) [.int .i64 op,.string s,.int .i64 n,v]:=by
 rcases h with ⟨rfl,rfl⟩ | ⟨a,cap,rfl,h4,h5,h6,h7⟩
 ·exact .nil op s n h1 h2 h3
 ·let cs:Nat→List Value:=fun i=>if h:i < l.length then (h7 i l[i] (List.getElem?_eq_getElem h)).choose else []
  have hcs:∀ i x,l[i]?=some x→(cs i).length=4∧TmC w B x (cs i)∧CellsAt w a (i * 4) (cs i):=by
   intro i x hx
   obtain⟨hi,e⟩:=List.getElem?_eq_some_iff.1 hx
   subst e
   simp only[cs,dif_pos hi]
   exact (h7 i l[i] (List.getElem?_eq_getElem hi)).choose_spec
  exact .row op s n l a cap cs h1 h2 h3 h4 h5 h6 (fun i x hx=>(hcs i x hx).2.1) (fun i x hx=>⟨(hcs i x hx).1,(hcs i x hx).2.2⟩)
theorem TmC.under {w w':World} {B:Nat} {t:Tm} {cs:List Value} (h:TmC w B t cs) (hb:Below B w w'):TmC w' B t cs:=by
 induction h with
 | nil op s n h1 h2 h3=>exact .nil op s n h1 h2 h3
 | row op s n l a cap cs h1 h2 h3 h4 h5 h6 _ h8 ih=>exact .row op s n l a cap cs h1 h2 h3 h4 h5 h6 ih fun i x hx=>⟨(h8 i x hx).1,(h8 i x hx).2.below (h6 (by rintro rfl;simp at hx)) hb⟩
theorem TmC.more {w:World} {B B':Nat} {t:Tm} {cs:List Value} (h:TmC w B t cs) (hB:B≤B'):TmC w B' t cs:=by
 induction h with
 | nil op s n h1 h2 h3=>exact .nil op s n h1 h2 h3
 | row op s n l a cap cs h1 h2 h3 h4 h5 h6 _ h8 ih=>exact .row op s n l a cap cs h1 h2 h3 h4 h5 (fun h=>Nat.lt_of_lt_of_le (h6 h) hB) ih h8
theorem TmS.below {w w':World} {B:Nat} {l:List Tm} {v:Value} (h:TmS w B l v) (hb:Below B w w'):TmS w' B l v:=SlOf.below h hb fun _ _ _ h=>TmC.under h hb
theorem TmS.more {w:World} {B B':Nat} {l:List Tm} {v:Value} (h:TmS w B l v) (hB:B≤B'):TmS w B' l v:=SlOf.more h hB fun _ _ _ h=>h.more hB
def AmC (w:World) (B:Nat) (a:Am) (cs:List Value):Prop:=∃ v,cs=[.string a.rel,v]∧a.rel.size≤maxLen∧TmS w B a.l v
def LtC (w:World) (B:Nat) (t:Lt) (cs:List Value):Prop:=∃ ca cx cy,cs=.int .i64 t.op::(ca++cx++cy)∧I64 t.op∧AmC w B t.a ca∧TmC w B t.x cx∧TmC w B t.y cy
def RuC (w:World) (B:Nat) (r:Ru) (cs:List Value):Prop:=∃ ca v,cs=ca++[v,.int .i64 r.line]∧I64 r.line∧AmC w B r.head ca∧SlOf w B 11 (LtC w B) r.body v
def DeC (w:World) (B:Nat) (d:De) (cs:List Value):Prop:=∃ v u,cs=[.string d.rel,v,u,.bool d.inn,.bool d.out,.int .i64 d.line]∧d.rel.size≤maxLen∧I64 d.line∧SlOf w B 1 StrC d.names v∧SlOf w B 1 IntC d.types u
def PgC (w:World) (B:Nat) (p:Pg) (cs:List Value):Prop:=∃ v u,cs=[v,u]∧SlOf w B 6 (DeC w B) p.decls v∧SlOf w B 4 (RuC w B) p.rules u
theorem AmC.below {w w':World} {B:Nat} {t:Am} {cs:List Value} (h:AmC w B t cs) (hb:Below B w w'):AmC w' B t cs:=by
 obtain⟨v,h1,h2,h3⟩:=h
 exact⟨v,h1,h2,TmS.below h3 hb⟩
theorem AmC.more {w:World} {B B':Nat} {t:Am} {cs:List Value} (h:AmC w B t cs) (hB:B≤B'):AmC w B' t cs:=by
 obtain⟨v,h1,h2,h3⟩:=h
 exact⟨v,h1,h2,TmS.more h3 hB⟩
theorem LtC.below {w w':World} {B:Nat} {t:Lt} {cs:List Value} (h:LtC w B t cs) (hb:Below B w w'):LtC w' B t cs:=by
 obtain⟨ca,cx,cy,h1,h2,h3,h4,h5⟩:=h
 exact⟨ca,cx,cy,h1,h2,h3.below hb,h4.under hb,h5.under hb⟩
theorem LtC.more {w:World} {B B':Nat} {t:Lt} {cs:List Value} (h:LtC w B t cs) (hB:B≤B'):LtC w B' t cs:=by
 obtain⟨ca,cx,cy,h1,h2,h3,h4,h5⟩:=h
 exact⟨ca,cx,cy,h1,h2,h3.more hB,h4.more hB,h5.more hB⟩
theorem RuC.below {w w':World} {B:Nat} {t:Ru} {cs:List Value} (h:RuC w B t cs) (hb:Below B w w'):RuC w' B t cs:=by
 obtain⟨ca,v,h1,h2,h3,h4⟩:=h
 exact⟨ca,v,h1,h2,h3.below hb,SlOf.below h4 hb fun _ _ _ h=>h.below hb⟩
theorem RuC.more {w:World} {B B':Nat} {t:Ru} {cs:List Value} (h:RuC w B t cs) (hB:B≤B'):RuC w B' t cs:=by
 obtain⟨ca,v,h1,h2,h3,h4⟩:=h
 exact⟨ca,v,h1,h2,h3.more hB,SlOf.more h4 hB fun _ _ _ h=>h.more hB⟩
theorem DeC.below {w w':World} {B:Nat} {t:De} {cs:List Value} (h:DeC w B t cs) (hb:Below B w w'):DeC w' B t cs:=by
 obtain⟨v,u,h1,h2,h3,h4,h5⟩:=h
 exact⟨v,u,h1,h2,h3,SlOf.below h4 hb fun _ _ _ h=>h,SlOf.below h5 hb fun _ _ _ h=>h⟩
theorem DeC.more {w:World} {B B':Nat} {t:De} {cs:List Value} (h:DeC w B t cs) (hB:B≤B'):DeC w B' t cs:=by
 obtain⟨v,u,h1,h2,h3,h4,h5⟩:=h
 exact⟨v,u,h1,h2,h3,SlOf.more h4 hB fun _ _ _ h=>h,SlOf.more h5 hB fun _ _ _ h=>h⟩
theorem PgC.below {w w':World} {B:Nat} {t:Pg} {cs:List Value} (h:PgC w B t cs) (hb:Below B w w'):PgC w' B t cs:=by
 obtain⟨v,u,h1,h2,h3⟩:=h
 exact⟨v,u,h1,SlOf.below h2 hb fun _ _ _ h=>h.below hb,SlOf.below h3 hb fun _ _ _ h=>h.below hb⟩
theorem PgC.more {w:World} {B B':Nat} {t:Pg} {cs:List Value} (h:PgC w B t cs) (hB:B≤B'):PgC w B' t cs:=by
 obtain⟨v,u,h1,h2,h3⟩:=h
 exact⟨v,u,h1,SlOf.more h2 hB fun _ _ _ h=>h.more hB,SlOf.more h3 hB fun _ _ _ h=>h.more hB⟩
theorem TmC.len {w:World} {B:Nat} {t:Tm} {cs:List Value} (h:TmC w B t cs):cs.length=4:=by obtain⟨v,rfl,_⟩:=h.parts;rfl
theorem AmC.len {w:World} {B:Nat} {t:Am} {cs:List Value} (h:AmC w B t cs):cs.length=2:=by obtain⟨v,rfl,_⟩:=h;rfl
theorem LtC.len {w:World} {B:Nat} {t:Lt} {cs:List Value} (h:LtC w B t cs):cs.length=11:=by
 obtain⟨ca,cx,cy,rfl,_,h1,h2,h3⟩:=h
 simp[h1.len,h2.len,h3.len]
theorem RuC.len {w:World} {B:Nat} {t:Ru} {cs:List Value} (h:RuC w B t cs):cs.length=4:=by
 obtain⟨ca,v,rfl,_,h1,_⟩:=h
 simp[h1.len]
theorem DeC.len {w:World} {B:Nat} {t:De} {cs:List Value} (h:DeC w B t cs):cs.length=6:=by obtain⟨v,u,rfl,_⟩:=h;rfl
theorem TmC.look {w:World} {B:Nat} {t:Tm} {cs:List Value} (h:TmC w B t cs):∃ o cap,cs=[.int .i64 t.op,.string t.s,.int .i64 t.n,.slice o t.l.length cap]∧I64 t.op∧t.s.size≤maxLen∧I64 t.n∧TmS w B t.l (.slice o t.l.length cap):=by
 obtain⟨v,rfl,h1,h2,h3,h4⟩:=h.parts
 obtain⟨o,cap,rfl,_⟩:=SlOf.uni h4
 exact⟨o,cap,rfl,h1,h2,h3,h4⟩
theorem tm_at {w wr:World} {l:List Tm} {o:Option Addr} {k:Nat} {t:Tm} (S:Hid (SlIn w w.heap.size 4 (TmC w w.heap.size) l o)) (hB:Below w.heap.size w wr) (ht:l[k]?=some t) :
  ∃ a o' cap',o=some a∧a.block < w.heap.size∧Hid (TmC wr wr.heap.size t [.int .i64 t.op,.string t.s,.int .i64 t.n,.slice o' t.l.length cap']) ∧
   wr.cell? (a.add (k * 4))=some (.int .i64 t.op)∧wr.cell? ⟨(a.add (k * 4)).block,(a.add (k * 4)).off+1,none⟩=some (.string t.s)∧wr.cell? ⟨(a.add (k * 4)).block,(a.add (k * 4)).off+2,none⟩=some (.int .i64 t.n)∧wr.cell? ⟨(a.add (k * 4)).block,(a.add (k * 4)).off+3,none⟩=some (.slice o' t.l.length cap'):=by
 obtain⟨a,cs,rfl,ha,_,h1,h2⟩:=S.out k t ht
 obtain⟨o',cap',rfl,_⟩:=h1.look
 exact⟨a,o',cap',rfl,ha,hid ((h1.under hB).more hB.size),(h2.below ha hB).four⟩
mutual
def sameT:Tm→Tm→Bool
 | .mk o s n l,u=>(o == u.op) && (s.toList == u.s.toList) && (n == u.n) && sameTs l u.l
def sameTs:List Tm→List Tm→Bool
 | [],[]=>true
 | t::ts,u::us=>sameT t u && sameTs ts us
 | _,_=>false
end
def sameA (a b:Am):Bool:=(a.rel.toList == b.rel.toList) && sameTs a.l b.l
theorem sameTs_all:∀ l m:List Tm,sameTs l m=allS sameT l m
 | [],[]=>by simp[sameTs,allS]
 | [],_::_=>by simp[sameTs,allS]
 | _::_,[]=>by simp[sameTs,allS]
 | t::l,u::m=>by simp[sameTs,allS,sameTs_all l m]
theorem sameT_eq (t u:Tm):sameT t u=((t.op == u.op) && (t.s.toList == u.s.toList) && (t.n == u.n) && allS sameT t.l u.l):=by
 cases t
 unfold sameT
 rw[sameTs_all]
 rfl
mutual
def sizeT:Tm→Int→Int
 | .mk _ s _ l,left=>if 1000 < s.size then -1 else sizeTs l (left - 1)
def sizeTs:List Tm→Int→Int
 | [],left=>left
 | t::ts,left=>if left < 0 then left else sizeTs ts (sizeT t left)
end
def sizeA (a:Am) (left:Int):Int:=if 1000 < a.rel.size then -1 else sizeTs a.l left
def sizeL1 (l:Lt) (left:Int):Int:=if sizeA l.a (left - 1) < 0 then sizeA l.a (left - 1) else if sizeT l.x (sizeA l.a (left - 1)) < 0 then sizeT l.x (sizeA l.a (left - 1)) else sizeT l.y (sizeT l.x (sizeA l.a (left - 1)))
def foldS {α:Type} (f:α→Int→Int):List α→Int→Int
 | [],left=>left
 | t::ts,left=>if left < 0 then left else foldS f ts (f t left)
def sizeR (r:Ru) (left:Int):Int:=foldS sizeL1 r.body (sizeA r.head (left - 1))
def longB' (l:List ByteArray):Bool:=l.any fun s=>decide (1000 < s.size)
def bigD (d:De):Bool:=decide (1000 < d.rel.size) || longB' d.names
def smallP (p:Pg):Bool:=!(p.decls.any bigD) && decide (0≤foldS sizeR p.rules 2000) && decide (p.decls.length≤100) && decide (p.rules.length≤300)
theorem sizeTs_fold:∀ (l:List Tm) (left:Int),sizeTs l left=foldS sizeT l left
 | [],_=>by simp[sizeTs,foldS]
 | t::ts,left=>by unfold sizeTs foldS;rw[sizeTs_fold ts]
theorem sizeT_eq (t:Tm) (left:Int):sizeT t left=if 1000 < t.s.size then -1 else foldS sizeT t.l (left - 1):=by
 cases t
 unfold sizeT
 rw[sizeTs_fold]
 rfl
theorem sizeT_mk (op:Int) (s:ByteArray) (n:Int) (l:List Tm) (left:Int):sizeT (.mk op s n l) left=if 1000 < s.size then -1 else foldS sizeT l (left - 1):=by
 unfold sizeT
 rw[sizeTs_fold]
theorem retI {k:IntKind} {a b:Int} (h:a=b):Ending.returned (.int k a)=.returned (.int k b):=by rw[h]
theorem foldS_neg {α:Type} (f:α→Int→Int) (l:List α) {left:Int} (h:left < 0):foldS f l left=left:=by
 cases l with
 | nil=>rfl
 | cons t ts=>unfold foldS;rw[if_pos h]
theorem foldS_drop {α:Type} {f:α→Int→Int} {l:List α} {k:Nat} {t:α} {left:Int} (ht:l[k]?=some t) (h:0≤left):foldS f (l.drop k) left=foldS f (l.drop (k+1)) (f t left):=by
 have h1:l.drop k=t::l.drop (k+1):=by rw[List.drop_eq_getElem_cons (List.getElem?_eq_some_iff.1 ht).1,(List.getElem?_eq_some_iff.1 ht).2]
 rw[h1]
 show (if left < 0 then left else _)=_
 rw[if_neg (by omega)]
theorem sizeT_lo (t:Tm):∀ left:Int,0≤left → -1≤sizeT t left∧sizeT t left≤left:=by
 induction t using Tm.rec (motive_2:=fun l=>∀ left:Int,-1≤left → -1≤foldS sizeT l left∧foldS sizeT l left≤left) with
 | mk op s n l ih=>
  intro left h
  rw[sizeT_eq]
  split
  ·omega
  ·have:=ih (left - 1) (by omega)
   simp only[Tm.l_mk]
   omega
 | nil left h=>exact⟨h,Int.le_refl _⟩
 | cons t ts ih ihs left h=>
  unfold foldS
  split
  ·exact⟨h,Int.le_refl _⟩
  ·have h1:=ih left (by omega)
   have h2:=ihs _ h1.1
   omega
theorem foldS_lo {α:Type} {f:α→Int→Int} (hf:∀ x left,0≤left → -1≤f x left∧f x left≤left):∀ (l:List α) (left:Int),-1≤left → -1≤foldS f l left∧foldS f l left≤left
 | [],left,h=>⟨h,Int.le_refl _⟩
 | t::ts,left,h=>by
  unfold foldS
  split
  ·exact⟨h,Int.le_refl _⟩
  ·have h1:=hf t left (by omega)
   have h2:=foldS_lo hf ts _ h1.1
   omega
theorem sizeA_lo (a:Am) (left:Int) (h:-1≤left):-1≤sizeA a left∧sizeA a left≤left:=by
 unfold sizeA
 split
 ·omega
 ·rw[sizeTs_fold];exact foldS_lo sizeT_lo _ _ h
theorem sizeL1_lo (l:Lt) (left:Int) (h:0≤left):-1≤sizeL1 l left∧sizeL1 l left≤left:=by
 have h1:=sizeA_lo l.a (left - 1) (by omega)
 unfold sizeL1
 split
 ·omega
 ·have h2:=sizeT_lo l.x (sizeA l.a (left - 1)) (by omega)
  split
  ·omega
  ·have h3:=sizeT_lo l.y (sizeT l.x (sizeA l.a (left - 1))) (by omega)
   omega
theorem sizeR_lo (r:Ru) (left:Int) (h:0≤left):-1≤sizeR r left∧sizeR r left≤left:=by
 have h1:=sizeA_lo r.head (left - 1) (by omega)
 have h2:=foldS_lo sizeL1_lo r.body _ h1.1
 unfold sizeR
 omega
def twoB (op:Int):Bool:=(op == 5) || (op == 6) || (op == 7)
def recB (t:Tm):Bool:=(t.op != 3) && (t.op != 4)
def leafB (t:Tm):Bool:=
 if t.op=1 then nameB t.s.data.toList && (t.n == 0) && t.l.isEmpty
 else if t.op=2 then t.s.toList.isEmpty && t.l.isEmpty
 else if t.op=3 then (t.n == 0) && t.l.isEmpty
 else if t.op=4 then t.s.toList.isEmpty && (t.n == 0) && t.l.isEmpty
 else false
def rightT:Nat→Tm→Bool
 | 0,_=>false
 | h+1,t=>if twoB t.op=true then t.s.toList.isEmpty && (t.n == 0) && (match t.l with | [a,b]=>recB a && rightT h a && (recB b && rightT h b) | _=>false) else leafB t
def rightA (a:Am):Bool:=nameB a.rel.data.toList && decide (1≤a.l.length) && decide (a.l.length≤8) && a.l.all (rightT 20)
def noT (t:Tm):Bool:=(t.op == 0) && t.s.toList.isEmpty && (t.n == 0) && t.l.isEmpty
def noA (a:Am):Bool:=a.rel.toList.isEmpty && a.l.isEmpty
def rightL (l:Lt):Bool:=
 if l.op=1∨l.op=2 then rightA l.a && noT l.x && noT l.y
 else if 3≤l.op∧l.op≤6 then noA l.a && rightT 20 l.x && rightT 20 l.y && (l.x.op != 4) && (l.y.op != 4)
 else if l.op=7 then rightA l.a && rightT 20 l.x && ((l.x.op == 1) || (l.x.op == 2)) && noT l.y
 else if 8≤l.op∧l.op≤10 then rightA l.a && rightT 20 l.x && ((l.x.op == 1) || (l.x.op == 2)) && rightT 20 l.y && (l.y.op == 1)
 else false
def headT (fact:Bool) (t:Tm):Bool:=!((t.op == 4) || twoB t.op || ((t.op == 1) && fact))
def rightR (r:Ru):Bool:=rightA r.head && decide (r.body.length≤20) && r.head.l.all (headT r.body.isEmpty) && r.body.all rightL
def rightTy (n:Int):Bool:=(n == 1) || (n == 2)
def rightD (d:De):Bool:=nameB d.rel.data.toList && decide (1≤d.names.length) && decide (d.names.length≤8) && decide (d.types.length=d.names.length) && d.names.all (fun s=>nameB s.data.toList) && d.types.all rightTy
def rightP (p:Pg):Bool:=decide (p.decls.length≤60) && decide (p.rules.length≤200) && p.decls.all rightD && p.rules.all rightR
def shapeB (t:Tm):Bool:=if twoB t.op=true then t.s.toList.isEmpty && (t.n == 0) && (match t.l with | [a,b]=>recB a && recB b | _=>false) else leafB t
mutual
def okT:Nat→Tm→Bool
 | lv,.mk o s n l=>decide (lv≤20) && shapeB (.mk o s n l) && okTs (lv+1) l
def okTs:Nat→List Tm→Bool
 | _,[]=>true
 | lv,t::ts=>okT lv t && okTs lv ts
end
theorem okT_eq (lv:Nat) (t:Tm):okT lv t=(decide (lv≤20) && shapeB t && okTs (lv+1) t.l):=by cases t;unfold okT;rfl
theorem leaf_nil {t:Tm} (h:leafB t=true):t.l=[]:=by
 unfold leafB at h
 split at h
 ·simp at h;exact h.2
 ·split at h
  ·simp at h;exact h.2
  ·split at h
   ·simp at h;exact h.2
   ·split at h
    ·simp at h;exact h.2
    ·cases h
theorem ok_right:∀ (h:Nat) (t:Tm),h≤20→okT (21 - h) t=rightT h t
 | 0,t,_=>by rw[okT_eq];unfold rightT;simp
 | h+1,t,hh=>by
  have ih:∀ u,okT (21 - h) u=rightT h u:=fun u=>ok_right h u (by omega)
  rw[okT_eq,show 21 - (h+1)+1=21 - h by omega]
  have hd:decide (21 - (h+1)≤20)=true:=by simp
  rw[hd,Bool.true_and]
  unfold rightT shapeB
  by_cases h2:twoB t.op=true
  ·rw[if_pos h2,if_pos h2]
   match hl:t.l with
   | []=>simp
   | [a]=>simp
   | [a,b]=>
    simp only[okTs,ih,Bool.and_true]
    cases t.s.toList.isEmpty <;> cases (t.n == 0) <;> cases recB a <;> cases recB b <;> cases rightT h a <;> cases rightT h b <;> rfl
   | a::b::c::r=>simp
  ·rw[if_neg h2,if_neg h2]
   cases hf:leafB t with
   | false=>rfl
   | true=>rw[leaf_nil hf];rfl
theorem CellsAt.n6 {w:World} {a:Addr} {o:Nat} {c0 c1 c2 c3 c4 c5:Value} (h:CellsAt w a o [c0,c1,c2,c3,c4,c5]):w.cell? (a.add o)=some c0∧w.cell? ⟨(a.add o).block,(a.add o).off+1,none⟩=some c1∧w.cell? ⟨(a.add o).block,(a.add o).off+2,none⟩=some c2∧w.cell? ⟨(a.add o).block,(a.add o).off+3,none⟩=some c3∧w.cell? ⟨(a.add o).block,(a.add o).off+4,none⟩=some c4∧w.cell? ⟨(a.add o).block,(a.add o).off+5,none⟩=some c5:=by
 rw[← addNext a o 1 (by omega),← addNext a o 2 (by omega),← addNext a o 3 (by omega),← addNext a o 4 (by omega),← addNext a o 5 (by omega)]
 exact⟨h 0 _ rfl,h 1 _ rfl,h 2 _ rfl,h 3 _ rfl,h 4 _ rfl,h 5 _ rfl⟩
theorem CellsAt.n11 {w:World} {a:Addr} {o:Nat} {c0 c1 c2 c3 c4 c5 c6 c7 c8 c9 c10:Value} (h:CellsAt w a o [c0,c1,c2,c3,c4,c5,c6,c7,c8,c9,c10]):w.cell? (a.add o)=some c0∧w.cell? ⟨(a.add o).block,(a.add o).off+1,none⟩=some c1∧w.cell? ⟨(a.add o).block,(a.add o).off+2,none⟩=some c2∧w.cell? ⟨(a.add o).block,(a.add o).off+3,none⟩=some c3∧w.cell? ⟨(a.add o).block,(a.add o).off+4,none⟩=some c4∧w.cell? ⟨(a.add o).block,(a.add o).off+5,none⟩=some c5∧w.cell? ⟨(a.add o).block,(a.add o).off+6,none⟩=some c6∧w.cell? ⟨(a.add o).block,(a.add o).off+7,none⟩=some c7∧w.cell? ⟨(a.add o).block,(a.add o).off+8,none⟩=some c8∧w.cell? ⟨(a.add o).block,(a.add o).off+9,none⟩=some c9∧w.cell? ⟨(a.add o).block,(a.add o).off+10,none⟩=some c10:=by
 rw[← addNext a o 1 (by omega),← addNext a o 2 (by omega),← addNext a o 3 (by omega),← addNext a o 4 (by omega),← addNext a o 5 (by omega),← addNext a o 6 (by omega),← addNext a o 7 (by omega),← addNext a o 8 (by omega),← addNext a o 9 (by omega),← addNext a o 10 (by omega)]
 exact⟨h 0 _ rfl,h 1 _ rfl,h 2 _ rfl,h 3 _ rfl,h 4 _ rfl,h 5 _ rfl,h 6 _ rfl,h 7 _ rfl,h 8 _ rfl,h 9 _ rfl,h 10 _ rfl⟩
theorem AmC.look {w:World} {B:Nat} {t:Am} {cs:List Value} (h:AmC w B t cs):∃ o cap,cs=[.string t.rel,.slice o t.l.length cap]∧t.rel.size≤maxLen∧TmS w B t.l (.slice o t.l.length cap):=by
 obtain⟨v,rfl,h1,h2⟩:=h
 obtain⟨o,cap,rfl,_⟩:=SlOf.uni h2
 exact⟨o,cap,rfl,h1,h2⟩
theorem LtC.look {w:World} {B:Nat} {t:Lt} {cs:List Value} (h:LtC w B t cs):∃ o0 k0 o1 k1 o2 k2,cs=[.int .i64 t.op,.string t.a.rel,.slice o0 t.a.l.length k0,.int .i64 t.x.op,.string t.x.s,.int .i64 t.x.n,.slice o1 t.x.l.length k1,.int .i64 t.y.op,.string t.y.s,.int .i64 t.y.n,.slice o2 t.y.l.length k2]∧I64 t.op ∧
  AmC w B t.a [.string t.a.rel,.slice o0 t.a.l.length k0]∧TmC w B t.x [.int .i64 t.x.op,.string t.x.s,.int .i64 t.x.n,.slice o1 t.x.l.length k1]∧TmC w B t.y [.int .i64 t.y.op,.string t.y.s,.int .i64 t.y.n,.slice o2 t.y.l.length k2]:=by
 obtain⟨ca,cx,cy,rfl,h1,h2,h3,h4⟩:=h
 obtain⟨o0,k0,rfl,_⟩:=h2.look
 obtain⟨o1,k1,rfl,_⟩:=h3.look
 obtain⟨o2,k2,rfl,_⟩:=h4.look
 exact⟨o0,k0,o1,k1,o2,k2,rfl,h1,h2,h3,h4⟩
theorem RuC.look {w:World} {B:Nat} {t:Ru} {cs:List Value} (h:RuC w B t cs):∃ o0 k0 o1 k1,cs=[.string t.head.rel,.slice o0 t.head.l.length k0,.slice o1 t.body.length k1,.int .i64 t.line]∧I64 t.line ∧
  AmC w B t.head [.string t.head.rel,.slice o0 t.head.l.length k0]∧SlOf w B 11 (LtC w B) t.body (.slice o1 t.body.length k1):=by
 obtain⟨ca,v,rfl,h1,h2,h3⟩:=h
 obtain⟨o0,k0,rfl,_⟩:=h2.look
 obtain⟨o1,k1,rfl,_⟩:=SlOf.uni h3
 exact⟨o0,k0,o1,k1,rfl,h1,h2,h3⟩
theorem DeC.look {w:World} {B:Nat} {d:De} {cs:List Value} (h:DeC w B d cs):∃ o0 k0 o1 k1,cs=[.string d.rel,.slice o0 d.names.length k0,.slice o1 d.types.length k1,.bool d.inn,.bool d.out,.int .i64 d.line]∧d.rel.size≤maxLen∧I64 d.line ∧
  SlOf w B 1 StrC d.names (.slice o0 d.names.length k0)∧SlOf w B 1 IntC d.types (.slice o1 d.types.length k1):=by
 obtain⟨v,u,rfl,h1,h2,h3,h4⟩:=h
 obtain⟨o0,k0,rfl,_⟩:=SlOf.uni h3
 obtain⟨o1,k1,rfl,_⟩:=SlOf.uni h4
 exact⟨o0,k0,o1,k1,rfl,h1,h2,h3,h4⟩
theorem PgC.look {w:World} {B:Nat} {d:Pg} {cs:List Value} (h:PgC w B d cs):∃ o0 k0 o1 k1,cs=[.slice o0 d.decls.length k0,.slice o1 d.rules.length k1] ∧
  SlOf w B 6 (DeC w B) d.decls (.slice o0 d.decls.length k0)∧SlOf w B 4 (RuC w B) d.rules (.slice o1 d.rules.length k1):=by
 obtain⟨v,u,rfl,h3,h4⟩:=h
 obtain⟨o0,k0,rfl,_⟩:=SlOf.uni h3
 obtain⟨o1,k1,rfl,_⟩:=SlOf.uni h4
 exact⟨o0,k0,o1,k1,rfl,h3,h4⟩
theorem SlOf.lit {w w':World} {B B':Nat} {l:List Lt} {v:Value} (h:SlOf w B 11 (LtC w B) l v) (hb:Below B w w') (hB:B≤B'):SlOf w' B' 11 (LtC w' B') l v:=SlOf.more (SlOf.below h hb fun _ _ _ h=>h.below hb) hB fun _ _ _ h=>h.more hB
theorem SlOf.rule {w w':World} {B B':Nat} {l:List Ru} {v:Value} (h:SlOf w B 4 (RuC w B) l v) (hb:Below B w w') (hB:B≤B'):SlOf w' B' 4 (RuC w' B') l v:=SlOf.more (SlOf.below h hb fun _ _ _ h=>h.below hb) hB fun _ _ _ h=>h.more hB
theorem SlOf.decl {w w':World} {B B':Nat} {l:List De} {v:Value} (h:SlOf w B 6 (DeC w B) l v) (hb:Below B w w') (hB:B≤B'):SlOf w' B' 6 (DeC w' B') l v:=SlOf.more (SlOf.below h hb fun _ _ _ h=>h.below hb) hB fun _ _ _ h=>h.more hB
theorem lt_at {w wr:World} {l:List Lt} {o:Option Addr} {k:Nat} {t:Lt} (S:Hid (SlIn w w.heap.size 11 (LtC w w.heap.size) l o)) (hB:Below w.heap.size w wr) (ht:l[k]?=some t) :
  ∃ a o0 k0 o1 k1 o2 k2,o=some a∧a.block < w.heap.size∧Hid (LtC wr wr.heap.size t [.int .i64 t.op,.string t.a.rel,.slice o0 t.a.l.length k0,.int .i64 t.x.op,.string t.x.s,.int .i64 t.x.n,.slice o1 t.x.l.length k1,.int .i64 t.y.op,.string t.y.s,.int .i64 t.y.n,.slice o2 t.y.l.length k2]) ∧
   wr.cell? (a.add (k * 11))=some (.int .i64 t.op)∧wr.cell? ⟨(a.add (k * 11)).block,(a.add (k * 11)).off+1,none⟩=some (.string t.a.rel)∧wr.cell? ⟨(a.add (k * 11)).block,(a.add (k * 11)).off+2,none⟩=some (.slice o0 t.a.l.length k0)∧wr.cell? ⟨(a.add (k * 11)).block,(a.add (k * 11)).off+3,none⟩=some (.int .i64 t.x.op)∧wr.cell? ⟨(a.add (k * 11)).block,(a.add (k * 11)).off+4,none⟩=some (.string t.x.s)∧wr.cell? ⟨(a.add (k * 11)).block,(a.add (k * 11)).off+5,none⟩=some (.int .i64 t.x.n)∧wr.cell? ⟨(a.add (k * 11)).block,(a.add (k * 11)).off+6,none⟩=some (.slice o1 t.x.l.length k1)∧wr.cell? ⟨(a.add (k * 11)).block,(a.add (k * 11)).off+7,none⟩=some (.int .i64 t.y.op)∧wr.cell? ⟨(a.add (k * 11)).block,(a.add (k * 11)).off+8,none⟩=some (.string t.y.s)∧wr.cell? ⟨(a.add (k * 11)).block,(a.add (k * 11)).off+9,none⟩=some (.int .i64 t.y.n)∧wr.cell? ⟨(a.add (k * 11)).block,(a.add (k * 11)).off+10,none⟩=some (.slice o2 t.y.l.length k2):=by
 obtain⟨a,cs,rfl,ha,_,h1,h2⟩:=S.out k t ht
 obtain⟨o0,k0,o1,k1,o2,k2,rfl,_⟩:=h1.look
 exact⟨a,o0,k0,o1,k1,o2,k2,rfl,ha,hid ((h1.below hB).more hB.size),(h2.below ha hB).n11⟩
theorem ru_at {w wr:World} {l:List Ru} {o:Option Addr} {k:Nat} {t:Ru} (S:Hid (SlIn w w.heap.size 4 (RuC w w.heap.size) l o)) (hB:Below w.heap.size w wr) (ht:l[k]?=some t) :
  ∃ a o0 k0 o1 k1,o=some a∧a.block < w.heap.size∧Hid (RuC wr wr.heap.size t [.string t.head.rel,.slice o0 t.head.l.length k0,.slice o1 t.body.length k1,.int .i64 t.line]) ∧
   wr.cell? (a.add (k * 4))=some (.string t.head.rel)∧wr.cell? ⟨(a.add (k * 4)).block,(a.add (k * 4)).off+1,none⟩=some (.slice o0 t.head.l.length k0)∧wr.cell? ⟨(a.add (k * 4)).block,(a.add (k * 4)).off+2,none⟩=some (.slice o1 t.body.length k1)∧wr.cell? ⟨(a.add (k * 4)).block,(a.add (k * 4)).off+3,none⟩=some (.int .i64 t.line):=by
 obtain⟨a,cs,rfl,ha,_,h1,h2⟩:=S.out k t ht
 obtain⟨o0,k0,o1,k1,rfl,_⟩:=h1.look
 exact⟨a,o0,k0,o1,k1,rfl,ha,hid ((h1.below hB).more hB.size),(h2.below ha hB).four⟩
theorem de_at {w wr:World} {l:List De} {o:Option Addr} {k:Nat} {t:De} (S:Hid (SlIn w w.heap.size 6 (DeC w w.heap.size) l o)) (hB:Below w.heap.size w wr) (ht:l[k]?=some t) :
  ∃ a o0 k0 o1 k1,o=some a∧a.block < w.heap.size∧Hid (DeC wr wr.heap.size t [.string t.rel,.slice o0 t.names.length k0,.slice o1 t.types.length k1,.bool t.inn,.bool t.out,.int .i64 t.line]) ∧
   wr.cell? (a.add (k * 6))=some (.string t.rel)∧wr.cell? ⟨(a.add (k * 6)).block,(a.add (k * 6)).off+1,none⟩=some (.slice o0 t.names.length k0)∧wr.cell? ⟨(a.add (k * 6)).block,(a.add (k * 6)).off+2,none⟩=some (.slice o1 t.types.length k1)∧wr.cell? ⟨(a.add (k * 6)).block,(a.add (k * 6)).off+3,none⟩=some (.bool t.inn)∧wr.cell? ⟨(a.add (k * 6)).block,(a.add (k * 6)).off+4,none⟩=some (.bool t.out)∧wr.cell? ⟨(a.add (k * 6)).block,(a.add (k * 6)).off+5,none⟩=some (.int .i64 t.line):=by
 obtain⟨a,cs,rfl,ha,_,h1,h2⟩:=S.out k t ht
 obtain⟨o0,k0,o1,k1,rfl,_⟩:=h1.look
 exact⟨a,o0,k0,o1,k1,rfl,ha,hid ((h1.below hB).more hB.size),(h2.below ha hB).n6⟩
def SizeAt (t:Tm):Prop:=∀ (left:Int) (w:World) (cs:List Value),0≤left→left≤1000000→TmC w w.heap.size t cs →
  Calls Tryz.prog 47 #[.agg cs.toArray,.int .i64 left] w fun e w'=>e=.returned (.int .i64 (sizeT t left))∧Below w.heap.size w w'
set_option maxRecDepth 100000 in
set_option maxHeartbeats 4000000 in
theorem size_c (t:Tm):SizeAt t:=by
 induction t using Tm.rec (motive_2:=fun l=>∀ t ∈ l,SizeAt t) with
 | nil x hx=>simp at hx
 | cons t ts ih ihs x hx=>
  rcases List.mem_cons.1 hx with rfl | hx
  ·exact ih
  ·exact ihs x hx
 | mk op s n l ih=>
  intro left w cs hl0 hl1 hc
  obtain⟨p1,q1,rfl,_,hz,_,t1⟩:=hc.look
  have Hs:=hid (sizeT_mk op s n l left)
  simp only[Tm.op_mk,Tm.s_mk,Tm.n_mk,Tm.l_mk] at Hs t1 hz ⊢
  unfold maxLen at hz
  obtain⟨o1,cap1,e1,hc1,hm1,S1⟩:=SlOf.open t1
  cases e1
  have IH:=hid ih
  clear hc t1 ih
  have HB0:Hid (∀ (x:Obj),Below w.heap.size w (w.alloc x)):=hid fun x=>(Below.refl _ _).alloc (Nat.le_refl _) _
  by_cases hbig:1000 < s.size
  ·have Hz:Hid (sizeT (.mk op s n l) left = -1):=hid (by rw[Hs.out,if_pos hbig])
   have hbig':(1000:Int) < (s.size:Int):=by omega
   go_enter Tryz.func47,Tryz.ntmps47
   go_wp2
   go_ret
   exact⟨retI (by rw[Hz.out]),HB0.out _⟩
  ·have Hz:Hid (sizeT (.mk op s n l) left=foldS sizeT l (left - 1)):=hid (by rw[Hs.out,if_neg hbig])
   have hbig':¬ (1000:Int) < (s.size:Int):=by omega
   clear Hs
   go_enter Tryz.func47,Tryz.ntmps47
   go_wp2
   go_loopw [1,5] (fun lv i wr=>∃ (k:Nat) (L:Int),k≤l.length∧i=.int .i64 k∧lv=.int .i64 L ∧ -1≤L∧L≤1000000∧foldS sizeT l (left - 1)=foldS sizeT (l.drop k) L∧Below (w.heap.size+1) (w.alloc (.cells #[.int .i64 op,.string s,.int .i64 n,.slice p1 l.length q1] 51)) wr) (fun _ i _=>l.length - (intOf i).toNat)
   case atStart=>exact⟨0,left - 1,Nat.zero_le _,rfl,rfl,by omega,by omega,rfl,Below.refl _ _⟩
   case round=>
    obtain⟨k,L,hk,rfl,rfl,hL0,hL1,hr,hB2⟩:=hrel
    have hB:Below w.heap.size w wr:=(HB0.out _).trans (hB2.mono (by omega))
    have Hr:=hid hr
    clear hr
    have hBs:=hB2.size
    simp only[World.size_alloc] at hBs
    have hz0:w.heap.size < wr.heap.size:=by omega
    have x0:wr.cell? ⟨w.heap.size,3,none⟩=some (.slice p1 l.length q1):=(hB2.cell (p:=⟨w.heap.size,3,none⟩) (by show w.heap.size < _;omega)).trans (by go_simp)
    by_cases hlt:k < l.length
    ·have hlt':(k:Int) < (l.length:Int):=by omega
     by_cases hL:0≤L
     ·obtain⟨xe,ht⟩:∃ xe,l[k]?=some xe:=⟨l[k],List.getElem?_eq_getElem hlt⟩
      obtain⟨a,p3,q3,rfl,ha,Hc,c0,c1,c2,c3⟩:=tm_at S1 hB ht
      have hal:(a.add (k * 4)).block < wr.heap.size:=by rw[addBlock];omega
      have Hst:=hid (Hr.out.trans (foldS_drop (f:=sizeT) ht hL))
      have Hm:=hid (List.mem_of_getElem? ht)
      clear ht
      go_wp2_with fail
      refine (IH.out xe Hm.out L _ [_,_,_,_] hL (by omega) Hc.out).mono ?_
      rintro e w1 ⟨rfl,b1⟩
      have hB3:=hB2.trans (b1.mono (by omega))
      have lo:=sizeT_lo xe L hL
      obtain⟨L2,hL2⟩:∃ L2,sizeT xe L=L2:=⟨_,rfl⟩
      rw[hL2] at lo ⊢
      have Hst2:Hid _:=hid (Hst.out.trans (by rw[hL2]))
      clear hL2
      go_wp2
      go_roundw
      case rel=>exact⟨k+1,L2,hlt,by go_num,rfl,lo.1,by omega,Hst2.out,hB3⟩
      case measure=>simp[intOf];omega
     ·have Hz2:=hid (Hr.out.trans (foldS_neg sizeT (l.drop k) (by omega)))
      go_wp2
      (go_ret;exact⟨retI (by rw[Hz.out,Hz2.out]),hB⟩)
    ·have hlt':¬ (k:Int) < (l.length:Int):=by omega
     have Hz2:Hid (foldS sizeT l (left - 1)=L):=hid (by rw[Hr.out,List.drop_of_length_le (by omega)];rfl)
     go_wp2
     (go_ret;exact⟨retI (by rw[Hz.out,Hz2.out]),hB⟩)
set_option maxRecDepth 100000 in
set_option maxHeartbeats 4000000 in
theorem sizeAtom_c (t:Am) (left:Int) (w:World) (cs:List Value) (hl0:-1≤left) (hl1:left≤1000000) (hc:AmC w w.heap.size t cs) :
  Calls Tryz.prog 46 #[.agg cs.toArray,.int .i64 left] w fun e w'=>e=.returned (.int .i64 (sizeA t left))∧Below w.heap.size w w':=by
 obtain⟨p1,q1,rfl,hz,t1⟩:=hc.look
 unfold maxLen at hz
 obtain⟨o1,cap1,e1,hc1,hm1,S1⟩:=SlOf.open t1
 cases e1
 clear hc t1
 have HB0:Hid (∀ (x:Obj),Below w.heap.size w (w.alloc x)):=hid fun x=>(Below.refl _ _).alloc (Nat.le_refl _) _
 by_cases hbig:1000 < t.rel.size
 ·have Hz:Hid (sizeA t left = -1):=hid (by unfold sizeA;rw[if_pos hbig])
  have hbig':(1000:Int) < (t.rel.size:Int):=by omega
  go_enter Tryz.func46,Tryz.ntmps46
  go_wp2
  go_ret
  exact⟨retI (by rw[Hz.out]),HB0.out _⟩
 ·have Hz:Hid (sizeA t left=foldS sizeT t.l left):=hid (by unfold sizeA;rw[if_neg hbig,sizeTs_fold])
  have hbig':¬ (1000:Int) < (t.rel.size:Int):=by omega
  go_enter Tryz.func46,Tryz.ntmps46
  go_wp2
  go_loopw [1,5] (fun lv i wr=>∃ (k:Nat) (L:Int),k≤t.l.length∧i=.int .i64 k∧lv=.int .i64 L ∧ -1≤L∧L≤1000000∧foldS sizeT t.l (left)=foldS sizeT (t.l.drop k) L∧Below (w.heap.size+1) (w.alloc (.cells #[.string t.rel,.slice p1 t.l.length q1] 44)) wr) (fun _ i _=>t.l.length - (intOf i).toNat)
  case atStart=>exact⟨0,left,Nat.zero_le _,rfl,rfl,by omega,by omega,rfl,Below.refl _ _⟩
  case round=>
   obtain⟨k,L,hk,rfl,rfl,hL0,hL1,hr,hB2⟩:=hrel
   have hB:Below w.heap.size w wr:=(HB0.out _).trans (hB2.mono (by omega))
   have Hr:=hid hr
   clear hr
   have hBs:=hB2.size
   simp only[World.size_alloc] at hBs
   have hz0:w.heap.size < wr.heap.size:=by omega
   have x0:wr.cell? ⟨w.heap.size,1,none⟩=some (.slice p1 t.l.length q1):=(hB2.cell (p:=⟨w.heap.size,1,none⟩) (by show w.heap.size < _;omega)).trans (by go_simp)
   by_cases hlt:k < t.l.length
   ·have hlt':(k:Int) < (t.l.length:Int):=by omega
    by_cases hL:0≤L
    ·obtain⟨xe,ht⟩:∃ xe,t.l[k]?=some xe:=⟨t.l[k],List.getElem?_eq_getElem hlt⟩
     obtain⟨a,p3,q3,rfl,ha,Hc,c0,c1,c2,c3⟩:=tm_at S1 hB ht
     have hal:(a.add (k * 4)).block < wr.heap.size:=by rw[addBlock];omega
     have Hst:=hid (Hr.out.trans (foldS_drop (f:=sizeT) ht hL))
     have Hm:=hid (List.mem_of_getElem? ht)
     clear ht
     go_wp2_with fail
     refine (size_c xe L _ [_,_,_,_] hL hL1 Hc.out).mono ?_
     rintro e w1 ⟨rfl,b1⟩
     have hB3:=hB2.trans (b1.mono (by omega))
     have lo:=sizeT_lo xe L hL
     obtain⟨L2,hL2⟩:∃ L2,sizeT xe L=L2:=⟨_,rfl⟩
     rw[hL2] at lo ⊢
     have Hst2:Hid _:=hid (Hst.out.trans (by rw[hL2]))
     clear hL2
     go_wp2
     go_roundw
     case rel=>exact⟨k+1,L2,hlt,by go_num,rfl,lo.1,by omega,Hst2.out,hB3⟩
     case measure=>simp[intOf];omega
    ·have Hz2:=hid (Hr.out.trans (foldS_neg sizeT (t.l.drop k) (by omega)))
     go_wp2
     (go_ret;exact⟨retI (by rw[Hz.out,Hz2.out]),hB⟩)
   ·have hlt':¬ (k:Int) < (t.l.length:Int):=by omega
    have Hz2:Hid (foldS sizeT t.l (left)=L):=hid (by rw[Hr.out,List.drop_of_length_le (by omega)];rfl)
    go_wp2
    (go_ret;exact⟨retI (by rw[Hz.out,Hz2.out]),hB⟩)
set_option maxRecDepth 100000 in
set_option maxHeartbeats 4000000 in
theorem sizeRule_c (t:Ru) (left:Int) (w:World) (cs:List Value) (hl0:0≤left) (hl1:left≤1000000) (hc:RuC w w.heap.size t cs) :
  Calls Tryz.prog 24 #[.agg cs.toArray,.int .i64 left] w fun e w'=>e=.returned (.int .i64 (sizeR t left))∧Below w.heap.size w w':=by
 obtain⟨p1,q1,r1,s1,rfl,_,a1,t1⟩:=hc.look
 obtain⟨o1,cap1,e1,hc1,hm1,S1⟩:=SlOf.open t1
 cases e1
 have HB0:Hid (∀ (x:Obj),Below w.heap.size w (w.alloc x)):=hid fun x=>(Below.refl _ _).alloc (Nat.le_refl _) _
 have HH:=hid (fun (W:World) (hb:Below w.heap.size w W)=>sizeAtom_c t.head (left - 1) W [_,_] (by omega) (by omega) ((a1.below hb).more hb.size))
 clear hc t1 a1
 have lo0:=sizeA_lo t.head (left - 1) (by omega)
 obtain⟨A0,hA0⟩:∃ A0,sizeA t.head (left - 1)=A0:=⟨_,rfl⟩
 have Hz:Hid (sizeR t left=foldS sizeL1 t.body A0):=hid (by unfold sizeR;rw[hA0])
 rw[hA0] at lo0 HH
 clear hA0
 go_enter Tryz.func24,Tryz.ntmps24
 go_wp2_with fail
 refine (HH.out _ (HB0.out _)).mono ?_
 rintro e w0 ⟨rfl,b0⟩
 have b0':=b0.mono (show w.heap.size+1≤_ by simp)
 go_wp2
 go_loopw [1,5] (fun lv i wr=>∃ (k:Nat) (L:Int),k≤t.body.length∧i=.int .i64 k∧lv=.int .i64 L ∧ -1≤L∧L≤1000000∧foldS sizeL1 t.body (A0)=foldS sizeL1 (t.body.drop k) L∧Below (w.heap.size+1) (w.alloc (.cells #[.string t.head.rel,.slice p1 t.head.l.length q1,.slice r1 t.body.length s1,.int .i64 t.line] 47)) wr) (fun _ i _=>t.body.length - (intOf i).toNat)
 case atStart=>exact⟨0,A0,Nat.zero_le _,rfl,rfl,by omega,by omega,rfl,b0'⟩
 case round=>
  obtain⟨k,L,hk,rfl,rfl,hL0,hL1,hr,hB2⟩:=hrel
  have hB:Below w.heap.size w wr:=(HB0.out _).trans (hB2.mono (by omega))
  have Hr:=hid hr
  clear hr
  have hBs:=hB2.size
  simp only[World.size_alloc] at hBs
  have hz0:w.heap.size < wr.heap.size:=by omega
  have x0:wr.cell? ⟨w.heap.size,2,none⟩=some (.slice r1 t.body.length s1):=(hB2.cell (p:=⟨w.heap.size,2,none⟩) (by show w.heap.size < _;omega)).trans (by go_simp)
  by_cases hlt:k < t.body.length
  ·have hlt':(k:Int) < (t.body.length:Int):=by omega
   by_cases hL:0≤L
   ·obtain⟨xe,ht⟩:∃ xe,t.body[k]?=some xe:=⟨t.body[k],List.getElem?_eq_getElem hlt⟩
    obtain⟨a,p3,q3,p4,q4,p5,q5,rfl,ha,Hc,c0,c1,c2,c3,c4,c5,c6,c7,c8,c9,c10⟩:=lt_at S1 hB ht
    have hal:(a.add (k * 11)).block < wr.heap.size:=by rw[addBlock];omega
    have Hst:=hid (Hr.out.trans (foldS_drop (f:=sizeL1) ht hL))
    have Hm:=hid (List.mem_of_getElem? ht)
    clear ht
    obtain⟨_,_,_,_,_,_,e1,_,La,Lx,Ly⟩:=Hc.out.look
    cases e1
    have HA:=hid (fun (l:Int) (h0:-1≤l) (h1:l≤1000000)=>sizeAtom_c xe.a l wr [_,_] h0 h1 La)
    have HX:=hid (fun (l:Int) (W:World) (hb:Below wr.heap.size wr W) (h0:0≤l) (h1:l≤1000000)=>size_c xe.x l W [_,_,_,_] h0 h1 ((Lx.under hb).more hb.size))
    have HY:=hid (fun (l:Int) (W:World) (hb:Below wr.heap.size wr W) (h0:0≤l) (h1:l≤1000000)=>size_c xe.y l W [_,_,_,_] h0 h1 ((Ly.under hb).more hb.size))
    clear La Lx Ly
    have lo:=sizeL1_lo xe L hL
    have lo1:=sizeA_lo xe.a (L - 1) (by omega)
    obtain⟨A1,hA1⟩:∃ A1,sizeA xe.a (L - 1)=A1:=⟨_,rfl⟩
    have hs1:sizeL1 xe L=if A1 < 0 then A1 else if sizeT xe.x A1 < 0 then sizeT xe.x A1 else sizeT xe.y (sizeT xe.x A1):=by unfold sizeL1;rw[hA1]
    go_wp2_with fail
    refine (HA.out _ (by omega) (by omega)).mono ?_
    rw[hA1]
    rw[hA1] at lo1
    rintro e w1 ⟨rfl,b1⟩
    obtain⟨kc,kf⟩:=(⟨fun p h=>b1.cell (p:=p) h,fun p h=>b1.frozen (p:=p) h⟩:(∀ p:Addr,p.block < _→w1.cell? p=_)∧(∀ p:Addr,p.block < _→w1.frozen? p=_))
    have g0:=(kc ⟨w.heap.size,2,none⟩ hz0).trans x0
    have f3:=(kc ⟨(a.add (k * 11)).block,(a.add (k * 11)).off+3,none⟩ hal).trans c3
    have f4:=(kc ⟨(a.add (k * 11)).block,(a.add (k * 11)).off+4,none⟩ hal).trans c4
    have f5:=(kc ⟨(a.add (k * 11)).block,(a.add (k * 11)).off+5,none⟩ hal).trans c5
    have f6:=(kc ⟨(a.add (k * 11)).block,(a.add (k * 11)).off+6,none⟩ hal).trans c6
    have f7:=(kc ⟨(a.add (k * 11)).block,(a.add (k * 11)).off+7,none⟩ hal).trans c7
    have f8:=(kc ⟨(a.add (k * 11)).block,(a.add (k * 11)).off+8,none⟩ hal).trans c8
    have f9:=(kc ⟨(a.add (k * 11)).block,(a.add (k * 11)).off+9,none⟩ hal).trans c9
    have f10:=(kc ⟨(a.add (k * 11)).block,(a.add (k * 11)).off+10,none⟩ hal).trans c10
    have hB3:=hB2.trans (b1.mono (by omega))
    have hk1:=b1.size
    clear kc kf hA1
    by_cases n1:A1 < 0
    ·have n1':¬ 0≤A1:=by omega
     have Hst2:Hid _:=hid (Hst.out.trans (by rw[hs1,if_pos n1]))
     clear hs1
     go_wp2
     go_roundw
     case rel=>exact⟨k+1,A1,hlt,by go_num,rfl,lo1.1,by omega,Hst2.out,hB3⟩
     case measure=>simp[intOf];omega
    ·have n1':0≤A1:=by omega
     rw[if_neg n1] at hs1
     have lo2:=sizeT_lo xe.x A1 n1'
     obtain⟨A2,hA2⟩:∃ A2,sizeT xe.x A1=A2:=⟨_,rfl⟩
     rw[hA2] at hs1 lo2
     have Hs1:=hid hs1
     have HA2:=hid hA2
     clear hs1 hA2
     go_wp2_with fail
     refine (HX.out _ _ b1 n1' (by omega)).mono ?_
     rw[HA2.out]
     rintro e w2 ⟨rfl,b2⟩
     have b12:=b1.trans (b2.mono hk1)
     obtain⟨kc,kf⟩:=(⟨fun p h=>b12.cell (p:=p) h,fun p h=>b12.frozen (p:=p) h⟩:(∀ p:Addr,p.block < _→w2.cell? p=_)∧(∀ p:Addr,p.block < _→w2.frozen? p=_))
     have u0:=(kc ⟨w.heap.size,2,none⟩ hz0).trans x0
     have u7:=(kc ⟨(a.add (k * 11)).block,(a.add (k * 11)).off+7,none⟩ hal).trans c7
     have u8:=(kc ⟨(a.add (k * 11)).block,(a.add (k * 11)).off+8,none⟩ hal).trans c8
     have u9:=(kc ⟨(a.add (k * 11)).block,(a.add (k * 11)).off+9,none⟩ hal).trans c9
     have u10:=(kc ⟨(a.add (k * 11)).block,(a.add (k * 11)).off+10,none⟩ hal).trans c10
     have hB4:=hB2.trans (b12.mono (by omega))
     clear kc kf
     by_cases n2:A2 < 0
     ·have n2':¬ 0≤A2:=by omega
      have Hst2:Hid _:=hid (Hst.out.trans (by rw[Hs1.out,if_pos n2]))
      go_wp2
      go_roundw
      case rel=>exact⟨k+1,A2,hlt,by go_num,rfl,lo2.1,by omega,Hst2.out,hB4⟩
      case measure=>simp[intOf];omega
     ·have n2':0≤A2:=by omega
      have lo3:=sizeT_lo xe.y A2 n2'
      have Hst2:Hid _:=hid (Hst.out.trans (by rw[Hs1.out,if_neg n2]))
      go_wp2_with fail
      refine (HY.out _ _ b12 n2' (by omega)).mono ?_
      rintro e w3 ⟨rfl,b3⟩
      have hk2:=b12.size
      have hB5:=hB2.trans ((b12.trans (b3.mono hk2)).mono (by omega))
      go_wp2
      go_roundw
      case rel=>exact⟨k+1,_,hlt,by go_num,rfl,lo3.1,by omega,Hst2.out,hB5⟩
      case measure=>simp[intOf];omega
   ·have Hz2:=hid (Hr.out.trans (foldS_neg sizeL1 (t.body.drop k) (by omega)))
    go_wp2
    (go_ret;exact⟨retI (by rw[Hz.out,Hz2.out]),hB⟩)
  ·have hlt':¬ (k:Int) < (t.body.length:Int):=by omega
   have Hz2:Hid (foldS sizeL1 t.body (A0)=L):=hid (by rw[Hr.out,List.drop_of_length_le (by omega)];rfl)
   go_wp2
   (go_ret;exact⟨retI (by rw[Hz.out,Hz2.out]),hB⟩)
end Go.Proofs.YtakpgcmfjlbcgaaGreatDoor
