/- Name@012, Sl@012 -/
import Derived.Below
import Derived.Laws.RangeAny
import Derived.Lib.Hide
import Derived.Lib.Strings
import Derived.Test.YtfmldnbcjbflbaaGreatDoorChecked
import Derived.WalkKit
import Derived.WalkLawsBesides
set_option linter.unusedSimpArgs false
set_option linter.unusedVariables false
namespace Go.Proofs.YtfmldnbcjbflbaaGreatDoor
open Lib(hid)
open Go.RowKit
theorem ret_bool {a b:Bool} (h:a=b):Ending.returned (.bool a)=.returned (.bool b):=by rw[h]
def letB (r:Int):Bool:=decide ((97≤r∧r≤122)∨(65≤r∧r≤90)∨r=95)
def digB (r:Int):Bool:=decide (48≤r∧r≤57)
def okAt (i:Nat) (c:UInt8):Bool:=letB (c.toNat:Int) || (decide (i≠0) && digB (c.toNat:Int))
def okFrom:Nat→List UInt8→Bool
 | _,[]=>true
 | i,c::l=>okAt i c && okFrom (i+1) l
def nameB (l:List UInt8):Bool:=decide (l≠[]∧l.length≤40∧l≠[95]) && okFrom 0 l
theorem isLetter_any (r:Int) (w:World):Calls Tryz.prog 146 #[.int .i32 r] w fun e w'=>e=.returned (.bool (letB r))∧w=w':=by
 go_enter Tryz.func146,Tryz.ntmps146
 go_wp2
 all_goals go_ret
 all_goals exact⟨ret_bool (by unfold letB;rw[Bool.eq_iff_iff];simp;omega),rfl⟩
theorem isDigit_any (r:Int) (w:World):Calls Tryz.prog 147 #[.int .i32 r] w fun e w'=>e=.returned (.bool (digB r))∧w=w':=by
 go_enter Tryz.func147,Tryz.ntmps147
 go_wp2
 all_goals go_ret
 all_goals exact⟨ret_bool (by unfold digB;rw[Bool.eq_iff_iff];simp;omega),rfl⟩
theorem drop_cons (s:ByteArray) (k:Nat) (h:k < s.size):s.data.toList.drop k=s[k]::s.data.toList.drop (k+1):=
 List.drop_eq_getElem_cons (by simpa using h)
theorem letB_high {r:Int} (h:128≤r):letB r=false:=by unfold letB;simp;omega
theorem digB_high {r:Int} (h:128≤r):digB r=false:=by unfold digB;simp;omega
theorem okFrom_cons (s:ByteArray) (k:Nat) (h:k < s.size):okFrom k (s.data.toList.drop k)=(okAt k s[k] && okFrom (k+1) (s.data.toList.drop (k+1))):=by
 rw[drop_cons s k h];rfl
set_option maxHeartbeats 400000 in
theorem isName_any (s:ByteArray) (w:World) (hs:s.size≤maxLen) :
  Calls Tryz.prog 130 #[.string s] w fun e w'=>e=.returned (.bool (nameB s.data.toList))∧Below w.heap.size w w':=by
 unfold maxLen at hs
 have hl:s.toList=s.data.toList:=Lib.toList_data s
 have hlen:s.data.toList.length=s.size:=by simp
 by_cases h0:s.toList=[]
 ·have hf:nameB s.data.toList=false:=by unfold nameB;rw[← hl,h0];simp
  have Hf:=hid hf
  clear hf hl
  go_enter Tryz.func130,Tryz.ntmps130
  go_wp2
  go_ret
  exact⟨ret_bool Hf.out.symm,Below.refl _ _⟩
 by_cases h1:s.toList=[95]
 ·have hf:nameB s.data.toList=false:=by unfold nameB;rw[← hl,h1];simp
  have Hf:=hid hf
  clear hf hl
  have e1:(s.toList == [95])=true:=by simp[h1]
  have e0:s.toList.isEmpty=false:=by simp[h0]
  clear h1 h0
  go_enter Tryz.func130,Tryz.ntmps130
  go_wp2
  go_ret
  exact⟨ret_bool Hf.out.symm,Below.refl _ _⟩
 have e1:(s.toList == [95])=false:=by simp[h1]
 have e0:s.toList.isEmpty=false:=by simp[h0]
 by_cases h2:40 < s.size
 ·have hf:nameB s.data.toList=false:=by unfold nameB;simp;intro _ h;omega
  have Hf:=hid hf
  clear hf hl h0 h1 hlen
  go_enter Tryz.func130,Tryz.ntmps130
  go_wp2
  go_ret
  exact⟨ret_bool Hf.out.symm,Below.refl _ _⟩
 have hn:nameB s.data.toList=okFrom 0 s.data.toList:=by
  rw[hl] at h0 h1
  unfold nameB
  rw[hlen]
  simp[h0,h1]
  omega
 have Hn:=hid hn
 clear hn hl h0 h1 hlen
 have h2':decide (40 < (s.size:Int))=false:=by simp;omega
 go_enter Tryz.func130,Tryz.ntmps130
 go_wp2
 go_loopw [] (fun wr=>∃ pos:Nat,pos≤s.size∧wr=w.iter s pos∧okFrom pos (s.data.toList.drop pos)=okFrom 0 s.data.toList) (fun wr=>s.size - wr.iterPos w.heap.size)
 case atStart=>exact⟨0,Nat.zero_le _,rfl,by simp⟩
 case round=>
  obtain⟨pos,hp,rfl,hok⟩:=hrel
  have Hok:=hid hok
  clear hok
  by_cases hlt:pos < s.size
  ·have hc:=okFrom_cons s pos hlt
   have Hc:=hid hc
   clear hc
   have hin:pos+1≤s.size:=hlt
   by_cases ha:(s[pos]'hlt).toNat < 128
   ·have hnx:=fun ty=>run_next_ascii (P:=Tryz.prog) w s pos ty hlt ha
    by_cases hL:letB ((s[pos]'hlt).toNat:Int)=true
    ·have HO:=hid (show okAt pos (s[pos]'hlt)=true by simp[okAt,hL])
     go_wp2_with (first | (go_at_call 146;refine (isLetter_any _ _).mono ?_;rintro e w' ⟨rfl,rfl⟩) | (go_at_call 147;refine (isDigit_any _ _).mono ?_;rintro e w' ⟨rfl,rfl⟩))
     go_roundw
     case rel=>exact⟨pos+1,hin,rfl,by rw[← Hok.out,Hc.out,HO.out];rfl⟩
     case measure=>simp;omega
    have hL':letB ((s[pos]'hlt).toNat:Int)=false:=by simpa using hL
    clear hL
    by_cases h0:pos=0
    ·subst h0
     have HO:=hid (show okAt 0 (s[0]'hlt)=false by simp[okAt,hL'])
     go_wp2_with (first | (go_at_call 146;refine (isLetter_any _ _).mono ?_;rintro e w' ⟨rfl,rfl⟩) | (go_at_call 147;refine (isDigit_any _ _).mono ?_;rintro e w' ⟨rfl,rfl⟩))
     go_ret
     exact⟨ret_bool (by rw[Hn.out,← Hok.out,Hc.out,HO.out];rfl),(Below.refl _ _).alloc (Nat.le_refl _) _⟩
    have hz:((pos:Int) == 0)=false:=by simp;omega
    by_cases hD:digB ((s[pos]'hlt).toNat:Int)=true
    ·have HO:=hid (show okAt pos (s[pos]'hlt)=true by simp[okAt,hD,h0])
     go_wp2_with (first | (go_at_call 146;refine (isLetter_any _ _).mono ?_;rintro e w' ⟨rfl,rfl⟩) | (go_at_call 147;refine (isDigit_any _ _).mono ?_;rintro e w' ⟨rfl,rfl⟩))
     go_roundw
     case rel=>exact⟨pos+1,hin,rfl,by rw[← Hok.out,Hc.out,HO.out];rfl⟩
     case measure=>simp;omega
    ·have hD':digB ((s[pos]'hlt).toNat:Int)=false:=by simpa using hD
     clear hD
     have HO:=hid (show okAt pos (s[pos]'hlt)=false by simp[okAt,hL',hD'])
     go_wp2_with (first | (go_at_call 146;refine (isLetter_any _ _).mono ?_;rintro e w' ⟨rfl,rfl⟩) | (go_at_call 147;refine (isDigit_any _ _).mono ?_;rintro e w' ⟨rfl,rfl⟩))
     go_ret
     exact⟨ret_bool (by rw[Hn.out,← Hok.out,Hc.out,HO.out];rfl),(Below.refl _ _).alloc (Nat.le_refl _) _⟩
   ·have hnx:=fun ty=>run_next_any (P:=Tryz.prog) w s pos ty hlt
    have hh:=(decode_high s pos hlt (by omega)).1
    have hL':letB ((Utf8.decode s pos).1:Int)=false:=letB_high (by omega)
    have hD':digB ((Utf8.decode s pos).1:Int)=false:=digB_high (by omega)
    have HO:=hid (show okAt pos (s[pos]'hlt)=false by simp only[okAt,letB_high (r:=((s[pos]'hlt).toNat:Int)) (by omega),digB_high (r:=((s[pos]'hlt).toNat:Int)) (by omega)];simp)
    by_cases h0:pos=0
    ·subst h0
     go_wp2_with (first | (go_at_call 146;refine (isLetter_any _ _).mono ?_;rintro e w' ⟨rfl,rfl⟩) | (go_at_call 147;refine (isDigit_any _ _).mono ?_;rintro e w' ⟨rfl,rfl⟩))
     go_ret
     exact⟨ret_bool (by rw[Hn.out,← Hok.out,Hc.out,HO.out];rfl),(Below.refl _ _).alloc (Nat.le_refl _) _⟩
    have hz:((pos:Int) == 0)=false:=by simp;omega
    go_wp2_with (first | (go_at_call 146;refine (isLetter_any _ _).mono ?_;rintro e w' ⟨rfl,rfl⟩) | (go_at_call 147;refine (isDigit_any _ _).mono ?_;rintro e w' ⟨rfl,rfl⟩))
    go_ret
    exact⟨ret_bool (by rw[Hn.out,← Hok.out,Hc.out,HO.out];rfl),(Below.refl _ _).alloc (Nat.le_refl _) _⟩
  ·have hnx:=fun ty=>run_next_end (P:=Tryz.prog) w s pos ty hlt
   go_wp2
   go_ret
   obtain rfl:pos=s.size:=by omega
   refine⟨ret_bool ?_,(Below.refl _ _).alloc (Nat.le_refl _) _⟩
   rw[Hn.out,← Hok.out,List.drop_of_length_le (by simp)]
   rfl
def CellsAt (w:World) (a:Addr) (o:Nat) (cs:List Value):Prop:=∀ j c,cs[j]?=some c→w.cell? (a.add (o+j))=some c
def I64 (n:Int):Prop := -9223372036854775808≤n∧n≤9223372036854775807
def SlOf {α:Type} (w:World) (B z:Nat) (R:α→List Value→Prop) (l:List α) (v:Value):Prop:=
 (v=.slice none 0 0∧l=[])∨∃ (a:Addr) (cap:Nat),v=.slice (some a) l.length cap∧l.length≤cap∧cap≤maxLen∧(l≠[]→a.block < B) ∧
  ∀ (i:Nat) (x:α),l[i]?=some x→∃ cs,cs.length=z∧R x cs∧CellsAt w a (i * z) cs
theorem addBlock (a:Addr) (n:Nat):(a.add n).block=a.block:=by unfold Addr.add;split <;> rfl
theorem addNext (a:Addr) (i j:Nat) (hj:0 < j):a.add (i+j)=⟨(a.add i).block,(a.add i).off+j,none⟩:=by
 unfold Addr.add
 by_cases hi:i=0
 ·subst hi
  rw[Nat.zero_add,if_neg (by omega),if_pos rfl]
 ·rw[if_neg (by omega),if_neg hi]
  simp[Nat.add_assoc]
theorem CellsAt.below {w w':World} {B:Nat} {a:Addr} {o:Nat} {cs:List Value} (h:CellsAt w a o cs) (hB:a.block < B) (hb:Below B w w'):CellsAt w' a o cs:=
 fun j c hc=>(hb.cell (by rw[addBlock];exact hB)).trans (h j c hc)
theorem SlOf.below {α:Type} {w w':World} {B z:Nat} {R R':α→List Value→Prop} {l:List α} {v:Value} (h:SlOf w B z R l v) (hb:Below B w w') (hR:∀ x ∈ l,∀ cs,R x cs→R' x cs):SlOf w' B z R' l v:=by
 rcases h with h | ⟨a,cap,h1,h2,h3,h4,h5⟩
 ·exact .inl h
 ·refine .inr ⟨a,cap,h1,h2,h3,h4,fun i x hx=>?_⟩
  obtain⟨cs,hl,hr,hc⟩:=h5 i x hx
  exact⟨cs,hl,hR x (List.mem_of_getElem? hx) cs hr,hc.below (h4 (by rintro rfl;simp at hx)) hb⟩
theorem SlOf.more {α:Type} {w:World} {B B' z:Nat} {R R':α→List Value→Prop} {l:List α} {v:Value} (h:SlOf w B z R l v) (hB:B≤B') (hR:∀ x ∈ l,∀ cs,R x cs→R' x cs):SlOf w B' z R' l v:=by
 rcases h with h | ⟨a,cap,h1,h2,h3,h4,h5⟩
 ·exact .inl h
 ·refine .inr ⟨a,cap,h1,h2,h3,fun h=>Nat.lt_of_lt_of_le (h4 h) hB,fun i x hx=>?_⟩
  obtain⟨cs,hl,hr,hc⟩:=h5 i x hx
  exact⟨cs,hl,hR x (List.mem_of_getElem? hx) cs hr,hc⟩
def StrC (s:ByteArray) (cs:List Value):Prop:=cs=[.string s]∧s.size≤maxLen
def IntC (n:Int) (cs:List Value):Prop:=cs=[.int .i64 n]∧I64 n
theorem SlOf.uni {α:Type} {w:World} {B z:Nat} {R:α→List Value→Prop} {l:List α} {v:Value} (h:SlOf w B z R l v):∃ (o:Option Addr) (cap:Nat),v=.slice o l.length cap∧l.length≤cap∧cap≤maxLen ∧
  ∀ (i:Nat) (x:α),l[i]?=some x→∃ (a:Addr) (cs:List Value),o=some a∧a.block < B∧cs.length=z∧R x cs∧CellsAt w a (i * z) cs:=by
 rcases h with ⟨rfl,rfl⟩ | ⟨a,cap,h1,h2,h3,h4,h5⟩
 ·exact⟨none,0,rfl,Nat.le_refl _,Nat.zero_le _,fun i x hx=>by simp at hx⟩
 ·refine⟨some a,cap,h1,h2,h3,fun i x hx=>?_⟩
  obtain⟨cs,hl,hr,hc⟩:=h5 i x hx
  exact⟨a,cs,rfl,h4 (by rintro rfl;simp at hx),hl,hr,hc⟩
theorem CellsAt.four {w:World} {a:Addr} {o:Nat} {c0 c1 c2 c3:Value} (h:CellsAt w a o [c0,c1,c2,c3]):w.cell? (a.add o)=some c0∧w.cell? ⟨(a.add o).block,(a.add o).off+1,none⟩=some c1∧w.cell? ⟨(a.add o).block,(a.add o).off+2,none⟩=some c2∧w.cell? ⟨(a.add o).block,(a.add o).off+3,none⟩=some c3:=by
 rw[← addNext a o 1 (by omega),← addNext a o 2 (by omega),← addNext a o 3 (by omega)]
 exact⟨h 0 _ rfl,h 1 _ rfl,h 2 _ rfl,h 3 _ rfl⟩
def SlIn {α:Type} (w:World) (B z:Nat) (R:α→List Value→Prop) (l:List α) (o:Option Addr):Prop:=
 ∀ (i:Nat) (x:α),l[i]?=some x→∃ (a:Addr) (cs:List Value),o=some a∧a.block < B∧cs.length=z∧R x cs∧CellsAt w a (i * z) cs
theorem SlOf.open {α:Type} {w:World} {B z:Nat} {R:α→List Value→Prop} {l:List α} {v:Value} (h:SlOf w B z R l v):∃ (o:Option Addr) (cap:Nat),v=.slice o l.length cap∧l.length≤cap∧cap≤9223372036854775807∧Hid (SlIn w B z R l o):=by
 obtain⟨o,cap,h1,h2,h3,h4⟩:=SlOf.uni h
 exact⟨o,cap,h1,h2,by unfold maxLen at h3;omega,hid h4⟩
theorem CellsAt.n1 {w:World} {a:Addr} {o:Nat} {c0:Value} (h:CellsAt w a o [c0]):w.cell? (a.add o)=some c0:=by
 exact h 0 _ rfl
theorem SlOf.str {w w':World} {B B':Nat} {l:List ByteArray} {v:Value} (h:SlOf w B 1 StrC l v) (hb:Below B w w') (hB:B≤B'):SlOf w' B' 1 StrC l v:=SlOf.more (SlOf.below h hb fun _ _ _ h=>h) hB fun _ _ _ h=>h
theorem SlOf.int {w w':World} {B B':Nat} {l:List Int} {v:Value} (h:SlOf w B 1 IntC l v) (hb:Below B w w') (hB:B≤B'):SlOf w' B' 1 IntC l v:=SlOf.more (SlOf.below h hb fun _ _ _ h=>h) hB fun _ _ _ h=>h
theorem str_at {w wr:World} {l:List ByteArray} {o:Option Addr} {k:Nat} {t:ByteArray} (S:Hid (SlIn w w.heap.size 1 StrC l o)) (hB:Below w.heap.size w wr) (ht:l[k]?=some t) :
  ∃ a,o=some a∧a.block < w.heap.size∧t.size≤maxLen∧wr.cell? (a.add k)=some (.string t):=by
 obtain⟨a,cs,rfl,ha,_,⟨rfl,hz⟩,h2⟩:=S.out k t ht
 have:=(h2.below ha hB).n1
 rw[Nat.mul_one] at this
 exact⟨a,rfl,ha,hz,this⟩
theorem int_at {w wr:World} {l:List Int} {o:Option Addr} {k:Nat} {t:Int} (S:Hid (SlIn w w.heap.size 1 IntC l o)) (hB:Below w.heap.size w wr) (ht:l[k]?=some t) :
  ∃ a,o=some a∧a.block < w.heap.size∧I64 t∧wr.cell? (a.add k)=some (.int .i64 t):=by
 obtain⟨a,cs,rfl,ha,_,⟨rfl,hz⟩,h2⟩:=S.out k t ht
 have:=(h2.below ha hB).n1
 rw[Nat.mul_one] at this
 exact⟨a,rfl,ha,hz,this⟩
def allS {α:Type} (f:α→α→Bool):List α→List α→Bool
 | [],[]=>true
 | t::ts,u::us=>f t u && allS f ts us
 | _,_=>false
theorem allS_len {α:Type} {f:α→α→Bool}:∀ {l m:List α},l.length≠m.length→allS f l m=false
 | [],[],h=>absurd rfl h
 | [],_::_,_=>rfl
 | _::_,[],_=>rfl
 | t::l,u::m,h=>by
  unfold allS
  rw[allS_len (l:=l) (m:=m) (by simpa using h),Bool.and_false]
theorem allS_drop {α:Type} {f:α→α→Bool} {l m:List α} {k:Nat} {t u:α} (ht:l[k]?=some t) (hu:m[k]?=some u):allS f (l.drop k) (m.drop k)=(f t u && allS f (l.drop (k+1)) (m.drop (k+1))):=by
 have h1:l.drop k=t::l.drop (k+1):=by rw[List.drop_eq_getElem_cons (List.getElem?_eq_some_iff.1 ht).1,(List.getElem?_eq_some_iff.1 ht).2]
 have h2:m.drop k=u::m.drop (k+1):=by rw[List.drop_eq_getElem_cons (List.getElem?_eq_some_iff.1 hu).1,(List.getElem?_eq_some_iff.1 hu).2]
 rw[h1,h2]
 rfl
theorem allS_end {α:Type} {f:α→α→Bool} {l m:List α} {k:Nat} (hl:l.length≤k) (hm:m.length≤k):allS f (l.drop k) (m.drop k)=true:=by
 rw[List.drop_of_length_le hl,List.drop_of_length_le hm];rfl
end Go.Proofs.YtfmldnbcjbflbaaGreatDoor
