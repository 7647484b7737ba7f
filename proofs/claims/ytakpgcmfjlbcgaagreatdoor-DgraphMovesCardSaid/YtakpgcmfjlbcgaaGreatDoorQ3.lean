/- Sl@0123 -/
import Derived.Below
import Derived.Lib.Hide
import Derived.Lib.Strings
import Derived.Test.YtakpgcmfjlbcgaaGreatDoorChecked
import Derived.WalkKit
import Derived.WalkLawsBesides
set_option linter.unusedSimpArgs false
set_option linter.unusedVariables false
namespace Go.Proofs.YtakpgcmfjlbcgaaGreatDoor
open Lib(hid)
open Go.RowKit
def CellsAt (w:World) (a:Addr) (o:Nat) (cs:List Value):Prop:=∀ j c,cs[j]?=some c→w.cell? (a.add (o+j))=some c
def I64 (n:Int):Prop := -9223372036854775808≤n∧n≤9223372036854775807
def SlOf {α:Type} (w:World) (B z:Nat) (R:α→List Value→Prop) (l:List α) (v:Value):Prop:=
 (v=.slice none 0 0∧l=[])∨∃ (a:Addr) (cap:Nat),v=.slice (some a) l.length cap∧l.length≤cap∧cap≤maxLen∧(l≠[]→a.block < B) ∧
  ∀ (i:Nat) (x:α),l[i]?=some x→∃ cs,cs.length=z∧R x cs∧CellsAt w a (i * z) cs
theorem addBlock (a:Addr) (n:Nat):(a.add n).block=a.block:=by unfold Addr.add;split <;> rfl
theorem addNext (a:Addr) (i j:Nat) (hj:0 < j):a.add (i+j)=⟨(a.add i).block,(a.add i).off+j,none⟩:=by
 unfold Addr.add
 by_cases hi:i=0
 ·subst hi
  rw[Nat.zero_add,if_neg (by omega),if_pos rfl]
 ·rw[if_neg (by omega),if_neg hi]
  simp[Nat.add_assoc]
theorem CellsAt.below {w w':World} {B:Nat} {a:Addr} {o:Nat} {cs:List Value} (h:CellsAt w a o cs) (hB:a.block < B) (hb:Below B w w'):CellsAt w' a o cs:=
 fun j c hc=>(hb.cell (by rw[addBlock];exact hB)).trans (h j c hc)
theorem SlOf.below {α:Type} {w w':World} {B z:Nat} {R R':α→List Value→Prop} {l:List α} {v:Value} (h:SlOf w B z R l v) (hb:Below B w w') (hR:∀ x ∈ l,∀ cs,R x cs→R' x cs):SlOf w' B z R' l v:=by
 rcases h with h | ⟨a,cap,h1,h2,h3,h4,h5⟩
 ·exact .inl h
 ·refine .inr ⟨a,cap,h1,h2,h3,h4,fun i x hx=>?_⟩
  obtain⟨cs,hl,hr,hc⟩:=h5 i x hx
  exact⟨cs,hl,hR x (List.mem_of_getElem? hx) cs hr,hc.below (h4 (by rintro rfl;simp at hx)) hb⟩
theorem SlOf.more {α:Type} {w:World} {B B' z:Nat} {R R':α→List Value→Prop} {l:List α} {v:Value} (h:SlOf w B z R l v) (hB:B≤B') (hR:∀ x ∈ l,∀ cs,R x cs→R' x cs):SlOf w B' z R' l v:=by
 rcases h with h | ⟨a,cap,h1,h2,h3,h4,h5⟩
 ·exact .inl h
 ·refine .inr ⟨a,cap,h1,h2,h3,fun h=>Nat.lt_of_lt_of_le (h4 h) hB,fun i x hx=>?_⟩
  obtain⟨cs,hl,hr,hc⟩:=h5 i x hx
  exact⟨cs,hl,hR x (List.mem_of_getElem? hx) cs hr,hc⟩
def StrC (s:ByteArray) (cs:List Value):Prop:=cs=[.string s]∧s.size≤maxLen
def IntC (n:Int) (cs:List Value):Prop:=cs=[.int .i64 n]∧I64 n
theorem SlOf.uni {α:Type} {w:World} {B z:Nat} {R:α→List Value→Prop} {l:List α} {v:Value} (h:SlOf w B z R l v):∃ (o:Option Addr) (cap:Nat),v=.slice o l.length cap∧l.length≤cap∧cap≤maxLen ∧
  ∀ (i:Nat) (x:α),l[i]?=some x→∃ (a:Addr) (cs:List Value),o=some a∧a.block < B∧cs.length=z∧R x cs∧CellsAt w a (i * z) cs:=by
 rcases h with ⟨rfl,rfl⟩ | ⟨a,cap,h1,h2,h3,h4,h5⟩
 ·exact⟨none,0,rfl,Nat.le_refl _,Nat.zero_le _,fun i x hx=>by simp at hx⟩
 ·refine⟨some a,cap,h1,h2,h3,fun i x hx=>?_⟩
  obtain⟨cs,hl,hr,hc⟩:=h5 i x hx
  exact⟨a,cs,rfl,h4 (by rintro rfl;simp at hx),hl,hr,hc⟩
theorem CellsAt.four {w:World} {a:Addr} {o:Nat} {c0 c1 c2 c3:Value} (h:CellsAt w a o [c0,c1,c2,c3]):w.cell? (a.add o)=some c0∧w.cell? ⟨(a.add o).block,(a.add o).off+1,none⟩=some c1∧w.cell? ⟨(a.add o).block,(a.add o).off+2,none⟩=some c2∧w.cell? ⟨(a.add o).block,(a.add o).off+3,none⟩=some c3:=by
 rw[← addNext a o 1 (by omega),← addNext a o 2 (by omega),← addNext a o 3 (by omega)]
 exact⟨h 0 _ rfl,h 1 _ rfl,h 2 _ rfl,h 3 _ rfl⟩
def SlIn {α:Type} (w:World) (B z:Nat) (R:α→List Value→Prop) (l:List α) (o:Option Addr):Prop:=
 ∀ (i:Nat) (x:α),l[i]?=some x→∃ (a:Addr) (cs:List Value),o=some a∧a.block < B∧cs.length=z∧R x cs∧CellsAt w a (i * z) cs
theorem SlOf.open {α:Type} {w:World} {B z:Nat} {R:α→List Value→Prop} {l:List α} {v:Value} (h:SlOf w B z R l v):∃ (o:Option Addr) (cap:Nat),v=.slice o l.length cap∧l.length≤cap∧cap≤9223372036854775807∧Hid (SlIn w B z R l o):=by
 obtain⟨o,cap,h1,h2,h3,h4⟩:=SlOf.uni h
 exact⟨o,cap,h1,h2,by unfold maxLen at h3;omega,hid h4⟩
theorem CellsAt.n1 {w:World} {a:Addr} {o:Nat} {c0:Value} (h:CellsAt w a o [c0]):w.cell? (a.add o)=some c0:=by
 exact h 0 _ rfl
theorem SlOf.str {w w':World} {B B':Nat} {l:List ByteArray} {v:Value} (h:SlOf w B 1 StrC l v) (hb:Below B w w') (hB:B≤B'):SlOf w' B' 1 StrC l v:=SlOf.more (SlOf.below h hb fun _ _ _ h=>h) hB fun _ _ _ h=>h
theorem SlOf.int {w w':World} {B B':Nat} {l:List Int} {v:Value} (h:SlOf w B 1 IntC l v) (hb:Below B w w') (hB:B≤B'):SlOf w' B' 1 IntC l v:=SlOf.more (SlOf.below h hb fun _ _ _ h=>h) hB fun _ _ _ h=>h
theorem str_at {w wr:World} {l:List ByteArray} {o:Option Addr} {k:Nat} {t:ByteArray} (S:Hid (SlIn w w.heap.size 1 StrC l o)) (hB:Below w.heap.size w wr) (ht:l[k]?=some t) :
  ∃ a,o=some a∧a.block < w.heap.size∧t.size≤maxLen∧wr.cell? (a.add k)=some (.string t):=by
 obtain⟨a,cs,rfl,ha,_,⟨rfl,hz⟩,h2⟩:=S.out k t ht
 have:=(h2.below ha hB).n1
 rw[Nat.mul_one] at this
 exact⟨a,rfl,ha,hz,this⟩
theorem int_at {w wr:World} {l:List Int} {o:Option Addr} {k:Nat} {t:Int} (S:Hid (SlIn w w.heap.size 1 IntC l o)) (hB:Below w.heap.size w wr) (ht:l[k]?=some t) :
  ∃ a,o=some a∧a.block < w.heap.size∧I64 t∧wr.cell? (a.add k)=some (.int .i64 t):=by
 obtain⟨a,cs,rfl,ha,_,⟨rfl,hz⟩,h2⟩:=S.out k t ht
 have:=(h2.below ha hB).n1
 rw[Nat.mul_one] at this
 exact⟨a,rfl,ha,hz,this⟩
def allS {α:Type} (f:α→α→Bool):List α→List α→Bool
 | [],[]=>true
 | t::ts,u::us=>f t u && allS f ts us
 | _,_=>false
theorem allS_len {α:Type} {f:α→α→Bool}:∀ {l m:List α},l.length≠m.length→allS f l m=false
 | [],[],h=>absurd rfl h
 | [],_::_,_=>rfl
 | _::_,[],_=>rfl
 | t::l,u::m,h=>by
  unfold allS
  rw[allS_len (l:=l) (m:=m) (by simpa using h),Bool.and_false]
theorem allS_drop {α:Type} {f:α→α→Bool} {l m:List α} {k:Nat} {t u:α} (ht:l[k]?=some t) (hu:m[k]?=some u):allS f (l.drop k) (m.drop k)=(f t u && allS f (l.drop (k+1)) (m.drop (k+1))):=by
 have h1:l.drop k=t::l.drop (k+1):=by rw[List.drop_eq_getElem_cons (List.getElem?_eq_some_iff.1 ht).1,(List.getElem?_eq_some_iff.1 ht).2]
 have h2:m.drop k=u::m.drop (k+1):=by rw[List.drop_eq_getElem_cons (List.getElem?_eq_some_iff.1 hu).1,(List.getElem?_eq_some_iff.1 hu).2]
 rw[h1,h2]
 rfl
theorem allS_end {α:Type} {f:α→α→Bool} {l m:List α} {k:Nat} (hl:l.length≤k) (hm:m.length≤k):allS f (l.drop k) (m.drop k)=true:=by
 rw[List.drop_of_length_le hl,List.drop_of_length_le hm];rfl
end Go.Proofs.YtakpgcmfjlbcgaaGreatDoor
