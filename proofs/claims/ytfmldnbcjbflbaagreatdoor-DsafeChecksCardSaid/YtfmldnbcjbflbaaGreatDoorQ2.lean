/- Tm@012, Tsp@012, Tlook@012 -/
import Derived.Test.YtfmldnbcjbflbaaGreatDoorQ1
set_option linter.unusedSimpArgs false
set_option linter.unusedVariables false
namespace Go.Proofs.YtfmldnbcjbflbaaGreatDoor
open Lib(hid)
open Go.RowKit
inductive Tm where
 | mk (op:Int) (s:ByteArray) (n:Int) (l:List Tm)
def Tm.op:Tm→Int | .mk o _ _ _=>o
def Tm.s:Tm→ByteArray | .mk _ s _ _=>s
def Tm.n:Tm→Int | .mk _ _ n _=>n
def Tm.l:Tm→List Tm | .mk _ _ _ l=>l
@[simp] theorem Tm.op_mk (o:Int) (s:ByteArray) (n:Int) (l:List Tm):(Tm.mk o s n l).op=o:=rfl
@[simp] theorem Tm.s_mk (o:Int) (s:ByteArray) (n:Int) (l:List Tm):(Tm.mk o s n l).s=s:=rfl
@[simp] theorem Tm.n_mk (o:Int) (s:ByteArray) (n:Int) (l:List Tm):(Tm.mk o s n l).n=n:=rfl
@[simp] theorem Tm.l_mk (o:Int) (s:ByteArray) (n:Int) (l:List Tm):(Tm.mk o s n l).l=l:=rfl
structure Am where
 rel:ByteArray
 l:List Tm
structure Lt where
 op:Int
 a:Am
 x:Tm
 y:Tm
structure Ru where
 head:Am
 body:List Lt
 line:Int
structure De where
 rel:ByteArray
 names:List ByteArray
 types:List Int
 inn:Bool
 out:Bool
 line:Int
structure Pg where
 decls:List De
 rules:List Ru
inductive TmC (w:World) (B:Nat):Tm→List Value→Prop where
 | nil (op:Int) (s:ByteArray) (n:Int):I64 op→s.size≤maxLen→I64 n→TmC w B (.mk op s n []) [.int .i64 op,.string s,.int .i64 n,.slice none 0 0]
 | row (op:Int) (s:ByteArray) (n:Int) (l:List Tm) (a:Addr) (cap:Nat) (cs:Nat→List Value):I64 op→s.size≤maxLen→I64 n→l.length≤cap→cap≤maxLen→(l≠[]→a.block < B) →
   (∀ i x,l[i]?=some x→TmC w B x (cs i))→(∀ i x,l[i]?=some x→(cs i).length=4∧CellsAt w a (i * 4) (cs i)) →
   TmC w B (.mk op s n l) [.int .i64 op,.string s,.int .i64 n,.slice (some a) l.length cap]
abbrev TmS (w:World) (B:Nat) (l:List Tm) (v:Value):Prop:=SlOf w B 4 (TmC w B) l v
theorem TmC.parts {w:World} {B:Nat} {t:Tm} {cs:List Value} (h:TmC w B t cs):∃ v,cs=[.int .i64 t.op,.string t.s,.int .i64 t.n,v]∧I64 t.op∧t.s.size≤maxLen∧I64 t.n∧TmS w B t.l v:=by
 cases h with
 | nil op s n h1 h2 h3=>exact⟨_,rfl,h1,h2,h3,.inl ⟨rfl,rfl⟩⟩
 | row op s n l a cap cs h1 h2 h3 h4 h5 h6 h7 h8=>exact⟨_,rfl,h1,h2,h3,.inr ⟨a,cap,rfl,h4,h5,h6,fun i x hx=>⟨cs i,(h8 i x hx).1,h7 i x hx,(h8 i x hx).2⟩⟩⟩
theorem TmC.of {w:World} {B:Nat} {op:Int} {s:ByteArray} {n:Int} {l:List Tm} {v:Value} (h1:I64 op) (h2:s.size≤maxLen) (h3:I64 n) (h:TmS w B l v):TmC w B (.mk op s n l) [.int .i64 op,.string s,.int .i64 n,v]:=by
 rcases h with ⟨rfl,rfl⟩ | ⟨a,cap,rfl,h4,h5,h6,h7⟩
 ·exact .nil op s n h1 h2 h3
 ·let cs:Nat→List Value:=fun i=>if h:i < l.length then (h7 i l[i] (List.getElem?_eq_getElem h)).choose else []
  have hcs:∀ i x,l[i]?=some x→(cs i).length=4∧TmC w B x (cs i)∧CellsAt w a (i * 4) (cs i):=by
   intro i x hx
   obtain⟨hi,e⟩:=List.getElem?_eq_some_iff.1 hx
   subst e
   simp only[cs,dif_pos hi]
   exact (h7 i l[i] (List.getElem?_eq_getElem hi)).choose_spec
  exact .row op s n l a cap cs h1 h2 h3 h4 h5 h6 (fun i x hx=>(hcs i x hx).2.1) (fun i x hx=>⟨(hcs i x hx).1,(hcs i x hx).2.2⟩)
theorem TmC.under {w w':World} {B:Nat} {t:Tm} {cs:List Value} (h:TmC w B t cs) (hb:Below B w w'):TmC w' B t cs:=by
 induction h with
 | nil op s n h1 h2 h3=>exact .nil op s n h1 h2 h3
 | row op s n l a cap cs h1 h2 h3 h4 h5 h6 _ h8 ih=>exact .row op s n l a cap cs h1 h2 h3 h4 h5 h6 ih fun i x hx=>⟨(h8 i x hx).1,(h8 i x hx).2.below (h6 (by rintro rfl;simp at hx)) hb⟩
theorem TmC.more {w:World} {B B':Nat} {t:Tm} {cs:List Value} (h:TmC w B t cs) (hB:B≤B'):TmC w B' t cs:=by
 induction h with
 | nil op s n h1 h2 h3=>exact .nil op s n h1 h2 h3
 | row op s n l a cap cs h1 h2 h3 h4 h5 h6 _ h8 ih=>exact .row op s n l a cap cs h1 h2 h3 h4 h5 (fun h=>Nat.lt_of_lt_of_le (h6 h) hB) ih h8
theorem TmS.below {w w':World} {B:Nat} {l:List Tm} {v:Value} (h:TmS w B l v) (hb:Below B w w'):TmS w' B l v:=SlOf.below h hb fun _ _ _ h=>TmC.under h hb
theorem TmS.more {w:World} {B B':Nat} {l:List Tm} {v:Value} (h:TmS w B l v) (hB:B≤B'):TmS w B' l v:=SlOf.more h hB fun _ _ _ h=>h.more hB
def AmC (w:World) (B:Nat) (a:Am) (cs:List Value):Prop:=∃ v,cs=[.string a.rel,v]∧a.rel.size≤maxLen∧TmS w B a.l v
def LtC (w:World) (B:Nat) (t:Lt) (cs:List Value):Prop:=∃ ca cx cy,cs=.int .i64 t.op::(ca++cx++cy)∧I64 t.op∧AmC w B t.a ca∧TmC w B t.x cx∧TmC w B t.y cy
def RuC (w:World) (B:Nat) (r:Ru) (cs:List Value):Prop:=∃ ca v,cs=ca++[v,.int .i64 r.line]∧I64 r.line∧AmC w B r.head ca∧SlOf w B 11 (LtC w B) r.body v
def DeC (w:World) (B:Nat) (d:De) (cs:List Value):Prop:=∃ v u,cs=[.string d.rel,v,u,.bool d.inn,.bool d.out,.int .i64 d.line]∧d.rel.size≤maxLen∧I64 d.line∧SlOf w B 1 StrC d.names v∧SlOf w B 1 IntC d.types u
def PgC (w:World) (B:Nat) (p:Pg) (cs:List Value):Prop:=∃ v u,cs=[v,u]∧SlOf w B 6 (DeC w B) p.decls v∧SlOf w B 4 (RuC w B) p.rules u
theorem AmC.below {w w':World} {B:Nat} {t:Am} {cs:List Value} (h:AmC w B t cs) (hb:Below B w w'):AmC w' B t cs:=by
 obtain⟨v,h1,h2,h3⟩:=h
 exact⟨v,h1,h2,TmS.below h3 hb⟩
theorem AmC.more {w:World} {B B':Nat} {t:Am} {cs:List Value} (h:AmC w B t cs) (hB:B≤B'):AmC w B' t cs:=by
 obtain⟨v,h1,h2,h3⟩:=h
 exact⟨v,h1,h2,TmS.more h3 hB⟩
theorem LtC.below {w w':World} {B:Nat} {t:Lt} {cs:List Value} (h:LtC w B t cs) (hb:Below B w w'):LtC w' B t cs:=by
 obtain⟨ca,cx,cy,h1,h2,h3,h4,h5⟩:=h
 exact⟨ca,cx,cy,h1,h2,h3.below hb,h4.under hb,h5.under hb⟩
theorem LtC.more {w:World} {B B':Nat} {t:Lt} {cs:List Value} (h:LtC w B t cs) (hB:B≤B'):LtC w B' t cs:=by
 obtain⟨ca,cx,cy,h1,h2,h3,h4,h5⟩:=h
 exact⟨ca,cx,cy,h1,h2,h3.more hB,h4.more hB,h5.more hB⟩
theorem RuC.below {w w':World} {B:Nat} {t:Ru} {cs:List Value} (h:RuC w B t cs) (hb:Below B w w'):RuC w' B t cs:=by
 obtain⟨ca,v,h1,h2,h3,h4⟩:=h
 exact⟨ca,v,h1,h2,h3.below hb,SlOf.below h4 hb fun _ _ _ h=>h.below hb⟩
theorem RuC.more {w:World} {B B':Nat} {t:Ru} {cs:List Value} (h:RuC w B t cs) (hB:B≤B'):RuC w B' t cs:=by
 obtain⟨ca,v,h1,h2,h3,h4⟩:=h
 exact⟨ca,v,h1,h2,h3.more hB,SlOf.more h4 hB fun _ _ _ h=>h.more hB⟩
theorem DeC.below {w w':World} {B:Nat} {t:De} {cs:List Value} (h:DeC w B t cs) (hb:Below B w w'):DeC w' B t cs:=by
 obtain⟨v,u,h1,h2,h3,h4,h5⟩:=h
 exact⟨v,u,h1,h2,h3,SlOf.below h4 hb fun _ _ _ h=>h,SlOf.below h5 hb fun _ _ _ h=>h⟩
theorem DeC.more {w:World} {B B':Nat} {t:De} {cs:List Value} (h:DeC w B t cs) (hB:B≤B'):DeC w B' t cs:=by
 obtain⟨v,u,h1,h2,h3,h4,h5⟩:=h
 exact⟨v,u,h1,h2,h3,SlOf.more h4 hB fun _ _ _ h=>h,SlOf.more h5 hB fun _ _ _ h=>h⟩
theorem PgC.below {w w':World} {B:Nat} {t:Pg} {cs:List Value} (h:PgC w B t cs) (hb:Below B w w'):PgC w' B t cs:=by
 obtain⟨v,u,h1,h2,h3⟩:=h
 exact⟨v,u,h1,SlOf.below h2 hb fun _ _ _ h=>h.below hb,SlOf.below h3 hb fun _ _ _ h=>h.below hb⟩
theorem PgC.more {w:World} {B B':Nat} {t:Pg} {cs:List Value} (h:PgC w B t cs) (hB:B≤B'):PgC w B' t cs:=by
 obtain⟨v,u,h1,h2,h3⟩:=h
 exact⟨v,u,h1,SlOf.more h2 hB fun _ _ _ h=>h.more hB,SlOf.more h3 hB fun _ _ _ h=>h.more hB⟩
theorem TmC.len {w:World} {B:Nat} {t:Tm} {cs:List Value} (h:TmC w B t cs):cs.length=4:=by obtain⟨v,rfl,_⟩:=h.parts;rfl
theorem AmC.len {w:World} {B:Nat} {t:Am} {cs:List Value} (h:AmC w B t cs):cs.length=2:=by obtain⟨v,rfl,_⟩:=h;rfl
theorem LtC.len {w:World} {B:Nat} {t:Lt} {cs:List Value} (h:LtC w B t cs):cs.length=11:=by
 obtain⟨ca,cx,cy,rfl,_,h1,h2,h3⟩:=h
 simp[h1.len,h2.len,h3.len]
theorem RuC.len {w:World} {B:Nat} {t:Ru} {cs:List Value} (h:RuC w B t cs):cs.length=4:=by
 obtain⟨ca,v,rfl,_,h1,_⟩:=h
 simp[h1.len]
theorem DeC.len {w:World} {B:Nat} {t:De} {cs:List Value} (h:DeC w B t cs):cs.length=6:=by obtain⟨v,u,rfl,_⟩:=h;rfl
theorem TmC.look {w:World} {B:Nat} {t:Tm} {cs:List Value} (h:TmC w B t cs):∃ o cap,cs=[.int .i64 t.op,.string t.s,.int .i64 t.n,.slice o t.l.length cap]∧I64 t.op∧t.s.size≤maxLen∧I64 t.n∧TmS w B t.l (.slice o t.l.length cap):=by
 obtain⟨v,rfl,h1,h2,h3,h4⟩:=h.parts
 obtain⟨o,cap,rfl,_⟩:=SlOf.uni h4
 exact⟨o,cap,rfl,h1,h2,h3,h4⟩
theorem tm_at {w wr:World} {l:List Tm} {o:Option Addr} {k:Nat} {t:Tm} (S:Hid (SlIn w w.heap.size 4 (TmC w w.heap.size) l o)) (hB:Below w.heap.size w wr) (ht:l[k]?=some t) :
  ∃ a o' cap',o=some a∧a.block < w.heap.size∧Hid (TmC wr wr.heap.size t [.int .i64 t.op,.string t.s,.int .i64 t.n,.slice o' t.l.length cap']) ∧
   wr.cell? (a.add (k * 4))=some (.int .i64 t.op)∧wr.cell? ⟨(a.add (k * 4)).block,(a.add (k * 4)).off+1,none⟩=some (.string t.s)∧wr.cell? ⟨(a.add (k * 4)).block,(a.add (k * 4)).off+2,none⟩=some (.int .i64 t.n)∧wr.cell? ⟨(a.add (k * 4)).block,(a.add (k * 4)).off+3,none⟩=some (.slice o' t.l.length cap'):=by
 obtain⟨a,cs,rfl,ha,_,h1,h2⟩:=S.out k t ht
 obtain⟨o',cap',rfl,_⟩:=h1.look
 exact⟨a,o',cap',rfl,ha,hid ((h1.under hB).more hB.size),(h2.below ha hB).four⟩
mutual
def sameT:Tm→Tm→Bool
 | .mk o s n l,u=>(o == u.op) && (s.toList == u.s.toList) && (n == u.n) && sameTs l u.l
def sameTs:List Tm→List Tm→Bool
 | [],[]=>true
 | t::ts,u::us=>sameT t u && sameTs ts us
 | _,_=>false
end
def sameA (a b:Am):Bool:=(a.rel.toList == b.rel.toList) && sameTs a.l b.l
theorem sameTs_all:∀ l m:List Tm,sameTs l m=allS sameT l m
 | [],[]=>by simp[sameTs,allS]
 | [],_::_=>by simp[sameTs,allS]
 | _::_,[]=>by simp[sameTs,allS]
 | t::l,u::m=>by simp[sameTs,allS,sameTs_all l m]
theorem sameT_eq (t u:Tm):sameT t u=((t.op == u.op) && (t.s.toList == u.s.toList) && (t.n == u.n) && allS sameT t.l u.l):=by
 cases t
 unfold sameT
 rw[sameTs_all]
 rfl
mutual
def sizeT:Tm→Int→Int
 | .mk _ s _ l,left=>if 1000 < s.size then -1 else sizeTs l (left - 1)
def sizeTs:List Tm→Int→Int
 | [],left=>left
 | t::ts,left=>if left < 0 then left else sizeTs ts (sizeT t left)
end
def sizeA (a:Am) (left:Int):Int:=if 1000 < a.rel.size then -1 else sizeTs a.l left
def sizeL1 (l:Lt) (left:Int):Int:=if sizeA l.a (left - 1) < 0 then sizeA l.a (left - 1) else if sizeT l.x (sizeA l.a (left - 1)) < 0 then sizeT l.x (sizeA l.a (left - 1)) else sizeT l.y (sizeT l.x (sizeA l.a (left - 1)))
def foldS {α:Type} (f:α→Int→Int):List α→Int→Int
 | [],left=>left
 | t::ts,left=>if left < 0 then left else foldS f ts (f t left)
def sizeR (r:Ru) (left:Int):Int:=foldS sizeL1 r.body (sizeA r.head (left - 1))
def longB' (l:List ByteArray):Bool:=l.any fun s=>decide (1000 < s.size)
def bigD (d:De):Bool:=decide (1000 < d.rel.size) || longB' d.names
def smallP (p:Pg):Bool:=!(p.decls.any bigD) && decide (0≤foldS sizeR p.rules 2000) && decide (p.decls.length≤100) && decide (p.rules.length≤300)
theorem sizeTs_fold:∀ (l:List Tm) (left:Int),sizeTs l left=foldS sizeT l left
 | [],_=>by simp[sizeTs,foldS]
 | t::ts,left=>by unfold sizeTs foldS;rw[sizeTs_fold ts]
theorem sizeT_eq (t:Tm) (left:Int):sizeT t left=if 1000 < t.s.size then -1 else foldS sizeT t.l (left - 1):=by
 cases t
 unfold sizeT
 rw[sizeTs_fold]
 rfl
theorem sizeT_mk (op:Int) (s:ByteArray) (n:Int) (l:List Tm) (left:Int):sizeT (.mk op s n l) left=if 1000 < s.size then -1 else foldS sizeT l (left - 1):=by
 unfold sizeT
 rw[sizeTs_fold]
theorem retI {k:IntKind} {a b:Int} (h:a=b):Ending.returned (.int k a)=.returned (.int k b):=by rw[h]
theorem foldS_neg {α:Type} (f:α→Int→Int) (l:List α) {left:Int} (h:left < 0):foldS f l left=left:=by
 cases l with
 | nil=>rfl
 | cons t ts=>unfold foldS;rw[if_pos h]
theorem foldS_drop {α:Type} {f:α→Int→Int} {l:List α} {k:Nat} {t:α} {left:Int} (ht:l[k]?=some t) (h:0≤left):foldS f (l.drop k) left=foldS f (l.drop (k+1)) (f t left):=by
 have h1:l.drop k=t::l.drop (k+1):=by rw[List.drop_eq_getElem_cons (List.getElem?_eq_some_iff.1 ht).1,(List.getElem?_eq_some_iff.1 ht).2]
 rw[h1]
 show (if left < 0 then left else _)=_
 rw[if_neg (by omega)]
theorem sizeT_lo (t:Tm):∀ left:Int,0≤left → -1≤sizeT t left∧sizeT t left≤left:=by
 induction t using Tm.rec (motive_2:=fun l=>∀ left:Int,-1≤left → -1≤foldS sizeT l left∧foldS sizeT l left≤left) with
 | mk op s n l ih=>
  intro left h
  rw[sizeT_eq]
  split
  ·omega
  ·have:=ih (left - 1) (by omega)
   simp only[Tm.l_mk]
   omega
 | nil left h=>exact⟨h,Int.le_refl _⟩
 | cons t ts ih ihs left h=>
  unfold foldS
  split
  ·exact⟨h,Int.le_refl _⟩
  ·have h1:=ih left (by omega)
   have h2:=ihs _ h1.1
   omega
theorem foldS_lo {α:Type} {f:α→Int→Int} (hf:∀ x left,0≤left → -1≤f x left∧f x left≤left):∀ (l:List α) (left:Int),-1≤left → -1≤foldS f l left∧foldS f l left≤left
 | [],left,h=>⟨h,Int.le_refl _⟩
 | t::ts,left,h=>by
  unfold foldS
  split
  ·exact⟨h,Int.le_refl _⟩
  ·have h1:=hf t left (by omega)
   have h2:=foldS_lo hf ts _ h1.1
   omega
theorem sizeA_lo (a:Am) (left:Int) (h:-1≤left):-1≤sizeA a left∧sizeA a left≤left:=by
 unfold sizeA
 split
 ·omega
 ·rw[sizeTs_fold];exact foldS_lo sizeT_lo _ _ h
theorem sizeL1_lo (l:Lt) (left:Int) (h:0≤left):-1≤sizeL1 l left∧sizeL1 l left≤left:=by
 have h1:=sizeA_lo l.a (left - 1) (by omega)
 unfold sizeL1
 split
 ·omega
 ·have h2:=sizeT_lo l.x (sizeA l.a (left - 1)) (by omega)
  split
  ·omega
  ·have h3:=sizeT_lo l.y (sizeT l.x (sizeA l.a (left - 1))) (by omega)
   omega
theorem sizeR_lo (r:Ru) (left:Int) (h:0≤left):-1≤sizeR r left∧sizeR r left≤left:=by
 have h1:=sizeA_lo r.head (left - 1) (by omega)
 have h2:=foldS_lo sizeL1_lo r.body _ h1.1
 unfold sizeR
 omega
def twoB (op:Int):Bool:=(op == 5) || (op == 6) || (op == 7)
def recB (t:Tm):Bool:=(t.op != 3) && (t.op != 4)
def leafB (t:Tm):Bool:=
 if t.op=1 then nameB t.s.data.toList && (t.n == 0) && t.l.isEmpty
 else if t.op=2 then t.s.toList.isEmpty && t.l.isEmpty
 else if t.op=3 then (t.n == 0) && t.l.isEmpty
 else if t.op=4 then t.s.toList.isEmpty && (t.n == 0) && t.l.isEmpty
 else false
def rightT:Nat→Tm→Bool
 | 0,_=>false
 | h+1,t=>if twoB t.op=true then t.s.toList.isEmpty && (t.n == 0) && (match t.l with | [a,b]=>recB a && rightT h a && (recB b && rightT h b) | _=>false) else leafB t
def rightA (a:Am):Bool:=nameB a.rel.data.toList && decide (1≤a.l.length) && decide (a.l.length≤8) && a.l.all (rightT 20)
def noT (t:Tm):Bool:=(t.op == 0) && t.s.toList.isEmpty && (t.n == 0) && t.l.isEmpty
def noA (a:Am):Bool:=a.rel.toList.isEmpty && a.l.isEmpty
def rightL (l:Lt):Bool:=
 if l.op=1∨l.op=2 then rightA l.a && noT l.x && noT l.y
 else if 3≤l.op∧l.op≤6 then noA l.a && rightT 20 l.x && rightT 20 l.y && (l.x.op != 4) && (l.y.op != 4)
 else if l.op=7 then rightA l.a && rightT 20 l.x && ((l.x.op == 1) || (l.x.op == 2)) && noT l.y
 else if 8≤l.op∧l.op≤10 then rightA l.a && rightT 20 l.x && ((l.x.op == 1) || (l.x.op == 2)) && rightT 20 l.y && (l.y.op == 1)
 else false
def headT (fact:Bool) (t:Tm):Bool:=!((t.op == 4) || twoB t.op || ((t.op == 1) && fact))
def rightR (r:Ru):Bool:=rightA r.head && decide (r.body.length≤20) && r.head.l.all (headT r.body.isEmpty) && r.body.all rightL
def rightTy (n:Int):Bool:=(n == 1) || (n == 2)
def rightD (d:De):Bool:=nameB d.rel.data.toList && decide (1≤d.names.length) && decide (d.names.length≤8) && decide (d.types.length=d.names.length) && d.names.all (fun s=>nameB s.data.toList) && d.types.all rightTy
def rightP (p:Pg):Bool:=decide (p.decls.length≤60) && decide (p.rules.length≤200) && p.decls.all rightD && p.rules.all rightR
def shapeB (t:Tm):Bool:=if twoB t.op=true then t.s.toList.isEmpty && (t.n == 0) && (match t.l with | [a,b]=>recB a && recB b | _=>false) else leafB t
mutual
def okT:Nat→Tm→Bool
 | lv,.mk o s n l=>decide (lv≤20) && shapeB (.mk o s n l) && okTs (lv+1) l
def okTs:Nat→List Tm→Bool
 | _,[]=>true
 | lv,t::ts=>okT lv t && okTs lv ts
end
theorem okT_eq (lv:Nat) (t:Tm):okT lv t=(decide (lv≤20) && shapeB t && okTs (lv+1) t.l):=by cases t;unfold okT;rfl
theorem leaf_nil {t:Tm} (h:leafB t=true):t.l=[]:=by
 unfold leafB at h
 split at h
 ·simp at h;exact h.2
 ·split at h
  ·simp at h;exact h.2
  ·split at h
   ·simp at h;exact h.2
   ·split at h
    ·simp at h;exact h.2
    ·cases h
theorem ok_right:∀ (h:Nat) (t:Tm),h≤20→okT (21 - h) t=rightT h t
 | 0,t,_=>by rw[okT_eq];unfold rightT;simp
 | h+1,t,hh=>by
  have ih:∀ u,okT (21 - h) u=rightT h u:=fun u=>ok_right h u (by omega)
  rw[okT_eq,show 21 - (h+1)+1=21 - h by omega]
  have hd:decide (21 - (h+1)≤20)=true:=by simp
  rw[hd,Bool.true_and]
  unfold rightT shapeB
  by_cases h2:twoB t.op=true
  ·rw[if_pos h2,if_pos h2]
   match hl:t.l with
   | []=>simp
   | [a]=>simp
   | [a,b]=>
    simp only[okTs,ih,Bool.and_true]
    cases t.s.toList.isEmpty <;> cases (t.n == 0) <;> cases recB a <;> cases recB b <;> cases rightT h a <;> cases rightT h b <;> rfl
   | a::b::c::r=>simp
  ·rw[if_neg h2,if_neg h2]
   cases hf:leafB t with
   | false=>rfl
   | true=>rw[leaf_nil hf];rfl
theorem CellsAt.n6 {w:World} {a:Addr} {o:Nat} {c0 c1 c2 c3 c4 c5:Value} (h:CellsAt w a o [c0,c1,c2,c3,c4,c5]):w.cell? (a.add o)=some c0∧w.cell? ⟨(a.add o).block,(a.add o).off+1,none⟩=some c1∧w.cell? ⟨(a.add o).block,(a.add o).off+2,none⟩=some c2∧w.cell? ⟨(a.add o).block,(a.add o).off+3,none⟩=some c3∧w.cell? ⟨(a.add o).block,(a.add o).off+4,none⟩=some c4∧w.cell? ⟨(a.add o).block,(a.add o).off+5,none⟩=some c5:=by
 rw[← addNext a o 1 (by omega),← addNext a o 2 (by omega),← addNext a o 3 (by omega),← addNext a o 4 (by omega),← addNext a o 5 (by omega)]
 exact⟨h 0 _ rfl,h 1 _ rfl,h 2 _ rfl,h 3 _ rfl,h 4 _ rfl,h 5 _ rfl⟩
theorem CellsAt.n11 {w:World} {a:Addr} {o:Nat} {c0 c1 c2 c3 c4 c5 c6 c7 c8 c9 c10:Value} (h:CellsAt w a o [c0,c1,c2,c3,c4,c5,c6,c7,c8,c9,c10]):w.cell? (a.add o)=some c0∧w.cell? ⟨(a.add o).block,(a.add o).off+1,none⟩=some c1∧w.cell? ⟨(a.add o).block,(a.add o).off+2,none⟩=some c2∧w.cell? ⟨(a.add o).block,(a.add o).off+3,none⟩=some c3∧w.cell? ⟨(a.add o).block,(a.add o).off+4,none⟩=some c4∧w.cell? ⟨(a.add o).block,(a.add o).off+5,none⟩=some c5∧w.cell? ⟨(a.add o).block,(a.add o).off+6,none⟩=some c6∧w.cell? ⟨(a.add o).block,(a.add o).off+7,none⟩=some c7∧w.cell? ⟨(a.add o).block,(a.add o).off+8,none⟩=some c8∧w.cell? ⟨(a.add o).block,(a.add o).off+9,none⟩=some c9∧w.cell? ⟨(a.add o).block,(a.add o).off+10,none⟩=some c10:=by
 rw[← addNext a o 1 (by omega),← addNext a o 2 (by omega),← addNext a o 3 (by omega),← addNext a o 4 (by omega),← addNext a o 5 (by omega),← addNext a o 6 (by omega),← addNext a o 7 (by omega),← addNext a o 8 (by omega),← addNext a o 9 (by omega),← addNext a o 10 (by omega)]
 exact⟨h 0 _ rfl,h 1 _ rfl,h 2 _ rfl,h 3 _ rfl,h 4 _ rfl,h 5 _ rfl,h 6 _ rfl,h 7 _ rfl,h 8 _ rfl,h 9 _ rfl,h 10 _ rfl⟩
theorem AmC.look {w:World} {B:Nat} {t:Am} {cs:List Value} (h:AmC w B t cs):∃ o cap,cs=[.string t.rel,.slice o t.l.length cap]∧t.rel.size≤maxLen∧TmS w B t.l (.slice o t.l.length cap):=by
 obtain⟨v,rfl,h1,h2⟩:=h
 obtain⟨o,cap,rfl,_⟩:=SlOf.uni h2
 exact⟨o,cap,rfl,h1,h2⟩
theorem LtC.look {w:World} {B:Nat} {t:Lt} {cs:List Value} (h:LtC w B t cs):∃ o0 k0 o1 k1 o2 k2,cs=[.int .i64 t.op,.string t.a.rel,.slice o0 t.a.l.length k0,.int .i64 t.x.op,.string t.x.s,.int .i64 t.x.n,.slice o1 t.x.l.length k1,.int .i64 t.y.op,.string t.y.s,.int .i64 t.y.n,.slice o2 t.y.l.length k2]∧I64 t.op ∧
  AmC w B t.a [.string t.a.rel,.slice o0 t.a.l.length k0]∧TmC w B t.x [.int .i64 t.x.op,.string t.x.s,.int .i64 t.x.n,.slice o1 t.x.l.length k1]∧TmC w B t.y [.int .i64 t.y.op,.string t.y.s,.int .i64 t.y.n,.slice o2 t.y.l.length k2]:=by
 obtain⟨ca,cx,cy,rfl,h1,h2,h3,h4⟩:=h
 obtain⟨o0,k0,rfl,_⟩:=h2.look
 obtain⟨o1,k1,rfl,_⟩:=h3.look
 obtain⟨o2,k2,rfl,_⟩:=h4.look
 exact⟨o0,k0,o1,k1,o2,k2,rfl,h1,h2,h3,h4⟩
theorem RuC.look {w:World} {B:Nat} {t:Ru} {cs:List Value} (h:RuC w B t cs):∃ o0 k0 o1 k1,cs=[.string t.head.rel,.slice o0 t.head.l.length k0,.slice o1 t.body.length k1,.int .i64 t.line]∧I64 t.line ∧
  AmC w B t.head [.string t.head.rel,.slice o0 t.head.l.length k0]∧SlOf w B 11 (LtC w B) t.body (.slice o1 t.body.length k1):=by
 obtain⟨ca,v,rfl,h1,h2,h3⟩:=h
 obtain⟨o0,k0,rfl,_⟩:=h2.look
 obtain⟨o1,k1,rfl,_⟩:=SlOf.uni h3
 exact⟨o0,k0,o1,k1,rfl,h1,h2,h3⟩
theorem DeC.look {w:World} {B:Nat} {d:De} {cs:List Value} (h:DeC w B d cs):∃ o0 k0 o1 k1,cs=[.string d.rel,.slice o0 d.names.length k0,.slice o1 d.types.length k1,.bool d.inn,.bool d.out,.int .i64 d.line]∧d.rel.size≤maxLen∧I64 d.line ∧
  SlOf w B 1 StrC d.names (.slice o0 d.names.length k0)∧SlOf w B 1 IntC d.types (.slice o1 d.types.length k1):=by
 obtain⟨v,u,rfl,h1,h2,h3,h4⟩:=h
 obtain⟨o0,k0,rfl,_⟩:=SlOf.uni h3
 obtain⟨o1,k1,rfl,_⟩:=SlOf.uni h4
 exact⟨o0,k0,o1,k1,rfl,h1,h2,h3,h4⟩
theorem PgC.look {w:World} {B:Nat} {d:Pg} {cs:List Value} (h:PgC w B d cs):∃ o0 k0 o1 k1,cs=[.slice o0 d.decls.length k0,.slice o1 d.rules.length k1] ∧
  SlOf w B 6 (DeC w B) d.decls (.slice o0 d.decls.length k0)∧SlOf w B 4 (RuC w B) d.rules (.slice o1 d.rules.length k1):=by
 obtain⟨v,u,rfl,h3,h4⟩:=h
 obtain⟨o0,k0,rfl,_⟩:=SlOf.uni h3
 obtain⟨o1,k1,rfl,_⟩:=SlOf.uni h4
 exact⟨o0,k0,o1,k1,rfl,h3,h4⟩
theorem SlOf.lit {w w':World} {B B':Nat} {l:List Lt} {v:Value} (h:SlOf w B 11 (LtC w B) l v) (hb:Below B w w') (hB:B≤B'):SlOf w' B' 11 (LtC w' B') l v:=SlOf.more (SlOf.below h hb fun _ _ _ h=>h.below hb) hB fun _ _ _ h=>h.more hB
theorem SlOf.rule {w w':World} {B B':Nat} {l:List Ru} {v:Value} (h:SlOf w B 4 (RuC w B) l v) (hb:Below B w w') (hB:B≤B'):SlOf w' B' 4 (RuC w' B') l v:=SlOf.more (SlOf.below h hb fun _ _ _ h=>h.below hb) hB fun _ _ _ h=>h.more hB
theorem lt_at {w wr:World} {l:List Lt} {o:Option Addr} {k:Nat} {t:Lt} (S:Hid (SlIn w w.heap.size 11 (LtC w w.heap.size) l o)) (hB:Below w.heap.size w wr) (ht:l[k]?=some t) :
  ∃ a o0 k0 o1 k1 o2 k2,o=some a∧a.block < w.heap.size∧Hid (LtC wr wr.heap.size t [.int .i64 t.op,.string t.a.rel,.slice o0 t.a.l.length k0,.int .i64 t.x.op,.string t.x.s,.int .i64 t.x.n,.slice o1 t.x.l.length k1,.int .i64 t.y.op,.string t.y.s,.int .i64 t.y.n,.slice o2 t.y.l.length k2]) ∧
   wr.cell? (a.add (k * 11))=some (.int .i64 t.op)∧wr.cell? ⟨(a.add (k * 11)).block,(a.add (k * 11)).off+1,none⟩=some (.string t.a.rel)∧wr.cell? ⟨(a.add (k * 11)).block,(a.add (k * 11)).off+2,none⟩=some (.slice o0 t.a.l.length k0)∧wr.cell? ⟨(a.add (k * 11)).block,(a.add (k * 11)).off+3,none⟩=some (.int .i64 t.x.op)∧wr.cell? ⟨(a.add (k * 11)).block,(a.add (k * 11)).off+4,none⟩=some (.string t.x.s)∧wr.cell? ⟨(a.add (k * 11)).block,(a.add (k * 11)).off+5,none⟩=some (.int .i64 t.x.n)∧wr.cell? ⟨(a.add (k * 11)).block,(a.add (k * 11)).off+6,none⟩=some (.slice o1 t.x.l.length k1)∧wr.cell? ⟨(a.add (k * 11)).block,(a.add (k * 11)).off+7,none⟩=some (.int .i64 t.y.op)∧wr.cell? ⟨(a.add (k * 11)).block,(a.add (k * 11)).off+8,none⟩=some (.string t.y.s)∧wr.cell? ⟨(a.add (k * 11)).block,(a.add (k * 11)).off+9,none⟩=some (.int .i64 t.y.n)∧wr.cell? ⟨(a.add (k * 11)).block,(a.add (k * 11)).off+10,none⟩=some (.slice o2 t.y.l.length k2):=by
 obtain⟨a,cs,rfl,ha,_,h1,h2⟩:=S.out k t ht
 obtain⟨o0,k0,o1,k1,o2,k2,rfl,_⟩:=h1.look
 exact⟨a,o0,k0,o1,k1,o2,k2,rfl,ha,hid ((h1.below hB).more hB.size),(h2.below ha hB).n11⟩
theorem ru_at {w wr:World} {l:List Ru} {o:Option Addr} {k:Nat} {t:Ru} (S:Hid (SlIn w w.heap.size 4 (RuC w w.heap.size) l o)) (hB:Below w.heap.size w wr) (ht:l[k]?=some t) :
  ∃ a o0 k0 o1 k1,o=some a∧a.block < w.heap.size∧Hid (RuC wr wr.heap.size t [.string t.head.rel,.slice o0 t.head.l.length k0,.slice o1 t.body.length k1,.int .i64 t.line]) ∧
   wr.cell? (a.add (k * 4))=some (.string t.head.rel)∧wr.cell? ⟨(a.add (k * 4)).block,(a.add (k * 4)).off+1,none⟩=some (.slice o0 t.head.l.length k0)∧wr.cell? ⟨(a.add (k * 4)).block,(a.add (k * 4)).off+2,none⟩=some (.slice o1 t.body.length k1)∧wr.cell? ⟨(a.add (k * 4)).block,(a.add (k * 4)).off+3,none⟩=some (.int .i64 t.line):=by
 obtain⟨a,cs,rfl,ha,_,h1,h2⟩:=S.out k t ht
 obtain⟨o0,k0,o1,k1,rfl,_⟩:=h1.look
 exact⟨a,o0,k0,o1,k1,rfl,ha,hid ((h1.below hB).more hB.size),(h2.below ha hB).four⟩
theorem de_at {w wr:World} {l:List De} {o:Option Addr} {k:Nat} {t:De} (S:Hid (SlIn w w.heap.size 6 (DeC w w.heap.size) l o)) (hB:Below w.heap.size w wr) (ht:l[k]?=some t) :
  ∃ a o0 k0 o1 k1,o=some a∧a.block < w.heap.size∧Hid (DeC wr wr.heap.size t [.string t.rel,.slice o0 t.names.length k0,.slice o1 t.types.length k1,.bool t.inn,.bool t.out,.int .i64 t.line]) ∧
   wr.cell? (a.add (k * 6))=some (.string t.rel)∧wr.cell? ⟨(a.add (k * 6)).block,(a.add (k * 6)).off+1,none⟩=some (.slice o0 t.names.length k0)∧wr.cell? ⟨(a.add (k * 6)).block,(a.add (k * 6)).off+2,none⟩=some (.slice o1 t.types.length k1)∧wr.cell? ⟨(a.add (k * 6)).block,(a.add (k * 6)).off+3,none⟩=some (.bool t.inn)∧wr.cell? ⟨(a.add (k * 6)).block,(a.add (k * 6)).off+4,none⟩=some (.bool t.out)∧wr.cell? ⟨(a.add (k * 6)).block,(a.add (k * 6)).off+5,none⟩=some (.int .i64 t.line):=by
 obtain⟨a,cs,rfl,ha,_,h1,h2⟩:=S.out k t ht
 obtain⟨o0,k0,o1,k1,rfl,_⟩:=h1.look
 exact⟨a,o0,k0,o1,k1,rfl,ha,hid ((h1.below hB).more hB.size),(h2.below ha hB).n6⟩
end Go.Proofs.YtfmldnbcjbflbaaGreatDoor
