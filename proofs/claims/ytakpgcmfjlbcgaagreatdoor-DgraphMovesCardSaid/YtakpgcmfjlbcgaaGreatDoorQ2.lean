/- Name@0123 -/
import Derived.Laws.RangeAny
import Derived.Lib.Hide
import Derived.Lib.Strings
import Derived.Test.YtakpgcmfjlbcgaaGreatDoorChecked
import Derived.WalkKit
import Derived.WalkLawsBesides
set_option linter.unusedSimpArgs false
set_option linter.unusedVariables false
namespace Go.Proofs.YtakpgcmfjlbcgaaGreatDoor
open Lib(hid)
open Go.RowKit
theorem ret_bool {a b:Bool} (h:a=b):Ending.returned (.bool a)=.returned (.bool b):=by rw[h]
def letB (r:Int):Bool:=decide ((97≤r∧r≤122)∨(65≤r∧r≤90)∨r=95)
def digB (r:Int):Bool:=decide (48≤r∧r≤57)
def okAt (i:Nat) (c:UInt8):Bool:=letB (c.toNat:Int) || (decide (i≠0) && digB (c.toNat:Int))
def okFrom:Nat→List UInt8→Bool
 | _,[]=>true
 | i,c::l=>okAt i c && okFrom (i+1) l
def nameB (l:List UInt8):Bool:=decide (l≠[]∧l.length≤40∧l≠[95]) && okFrom 0 l
theorem isLetter_any (r:Int) (w:World):Calls Tryz.prog 189 #[.int .i32 r] w fun e w'=>e=.returned (.bool (letB r))∧w=w':=by
 go_enter Tryz.func189,Tryz.ntmps189
 go_wp2
 all_goals go_ret
 all_goals exact⟨ret_bool (by unfold letB;rw[Bool.eq_iff_iff];simp;omega),rfl⟩
theorem isDigit_any (r:Int) (w:World):Calls Tryz.prog 190 #[.int .i32 r] w fun e w'=>e=.returned (.bool (digB r))∧w=w':=by
 go_enter Tryz.func190,Tryz.ntmps190
 go_wp2
 all_goals go_ret
 all_goals exact⟨ret_bool (by unfold digB;rw[Bool.eq_iff_iff];simp;omega),rfl⟩
theorem drop_cons (s:ByteArray) (k:Nat) (h:k < s.size):s.data.toList.drop k=s[k]::s.data.toList.drop (k+1):=
 List.drop_eq_getElem_cons (by simpa using h)
theorem letB_high {r:Int} (h:128≤r):letB r=false:=by unfold letB;simp;omega
theorem digB_high {r:Int} (h:128≤r):digB r=false:=by unfold digB;simp;omega
theorem okFrom_cons (s:ByteArray) (k:Nat) (h:k < s.size):okFrom k (s.data.toList.drop k)=(okAt k s[k] && okFrom (k+1) (s.data.toList.drop (k+1))):=by
 rw[drop_cons s k h];rfl
set_option maxHeartbeats 400000 in
theorem isName_any (s:ByteArray) (w:World) (hs:s.size≤maxLen) :
  Calls Tryz.prog 168 #[.string s] w fun e w'=>e=.returned (.bool (nameB s.data.toList))∧Below w.heap.size w w':=by
 unfold maxLen at hs
 have hl:s.toList=s.data.toList:=Lib.toList_data s
 have hlen:s.data.toList.length=s.size:=by simp
 by_cases h0:s.toList=[]
 ·have hf:nameB s.data.toList=false:=by unfold nameB;rw[← hl,h0];simp
  have Hf:=hid hf
  clear hf hl
  go_enter Tryz.func168,Tryz.ntmps168
  go_wp2
  go_ret
  exact⟨ret_bool Hf.out.symm,Below.refl _ _⟩
 by_cases h1:s.toList=[95]
 ·have hf:nameB s.data.toList=false:=by unfold nameB;rw[← hl,h1];simp
  have Hf:=hid hf
  clear hf hl
  have e1:(s.toList == [95])=true:=by simp[h1]
  have e0:s.toList.isEmpty=false:=by simp[h0]
  clear h1 h0
  go_enter Tryz.func168,Tryz.ntmps168
  go_wp2
  go_ret
  exact⟨ret_bool Hf.out.symm,Below.refl _ _⟩
 have e1:(s.toList == [95])=false:=by simp[h1]
 have e0:s.toList.isEmpty=false:=by simp[h0]
 by_cases h2:40 < s.size
 ·have hf:nameB s.data.toList=false:=by unfold nameB;simp;intro _ h;omega
  have Hf:=hid hf
  clear hf hl h0 h1 hlen
  go_enter Tryz.func168,Tryz.ntmps168
  go_wp2
  go_ret
  exact⟨ret_bool Hf.out.symm,Below.refl _ _⟩
 have hn:nameB s.data.toList=okFrom 0 s.data.toList:=by
  rw[hl] at h0 h1
  unfold nameB
  rw[hlen]
  simp[h0,h1]
  omega
 have Hn:=hid hn
 clear hn hl h0 h1 hlen
 have h2':decide (40 < (s.size:Int))=false:=by simp;omega
 go_enter Tryz.func168,Tryz.ntmps168
 go_wp2
 go_loopw [] (fun wr=>∃ pos:Nat,pos≤s.size∧wr=w.iter s pos∧okFrom pos (s.data.toList.drop pos)=okFrom 0 s.data.toList) (fun wr=>s.size - wr.iterPos w.heap.size)
 case atStart=>exact⟨0,Nat.zero_le _,rfl,by simp⟩
 case round=>
  obtain⟨pos,hp,rfl,hok⟩:=hrel
  have Hok:=hid hok
  clear hok
  by_cases hlt:pos < s.size
  ·have hc:=okFrom_cons s pos hlt
   have Hc:=hid hc
   clear hc
   have hin:pos+1≤s.size:=hlt
   by_cases ha:(s[pos]'hlt).toNat < 128
   ·have hnx:=fun ty=>run_next_ascii (P:=Tryz.prog) w s pos ty hlt ha
    by_cases hL:letB ((s[pos]'hlt).toNat:Int)=true
    ·have HO:=hid (show okAt pos (s[pos]'hlt)=true by simp[okAt,hL])
     go_wp2_with (first | (go_at_call 189;refine (isLetter_any _ _).mono ?_;rintro e w' ⟨rfl,rfl⟩) | (go_at_call 190;refine (isDigit_any _ _).mono ?_;rintro e w' ⟨rfl,rfl⟩))
     go_roundw
     case rel=>exact⟨pos+1,hin,rfl,by rw[← Hok.out,Hc.out,HO.out];rfl⟩
     case measure=>simp;omega
    have hL':letB ((s[pos]'hlt).toNat:Int)=false:=by simpa using hL
    clear hL
    by_cases h0:pos=0
    ·subst h0
     have HO:=hid (show okAt 0 (s[0]'hlt)=false by simp[okAt,hL'])
     go_wp2_with (first | (go_at_call 189;refine (isLetter_any _ _).mono ?_;rintro e w' ⟨rfl,rfl⟩) | (go_at_call 190;refine (isDigit_any _ _).mono ?_;rintro e w' ⟨rfl,rfl⟩))
     go_ret
     exact⟨ret_bool (by rw[Hn.out,← Hok.out,Hc.out,HO.out];rfl),(Below.refl _ _).alloc (Nat.le_refl _) _⟩
    have hz:((pos:Int) == 0)=false:=by simp;omega
    by_cases hD:digB ((s[pos]'hlt).toNat:Int)=true
    ·have HO:=hid (show okAt pos (s[pos]'hlt)=true by simp[okAt,hD,h0])
     go_wp2_with (first | (go_at_call 189;refine (isLetter_any _ _).mono ?_;rintro e w' ⟨rfl,rfl⟩) | (go_at_call 190;refine (isDigit_any _ _).mono ?_;rintro e w' ⟨rfl,rfl⟩))
     go_roundw
     case rel=>exact⟨pos+1,hin,rfl,by rw[← Hok.out,Hc.out,HO.out];rfl⟩
     case measure=>simp;omega
    ·have hD':digB ((s[pos]'hlt).toNat:Int)=false:=by simpa using hD
     clear hD
     have HO:=hid (show okAt pos (s[pos]'hlt)=false by simp[okAt,hL',hD'])
     go_wp2_with (first | (go_at_call 189;refine (isLetter_any _ _).mono ?_;rintro e w' ⟨rfl,rfl⟩) | (go_at_call 190;refine (isDigit_any _ _).mono ?_;rintro e w' ⟨rfl,rfl⟩))
     go_ret
     exact⟨ret_bool (by rw[Hn.out,← Hok.out,Hc.out,HO.out];rfl),(Below.refl _ _).alloc (Nat.le_refl _) _⟩
   ·have hnx:=fun ty=>run_next_any (P:=Tryz.prog) w s pos ty hlt
    have hh:=(decode_high s pos hlt (by omega)).1
    have hL':letB ((Utf8.decode s pos).1:Int)=false:=letB_high (by omega)
    have hD':digB ((Utf8.decode s pos).1:Int)=false:=digB_high (by omega)
    have HO:=hid (show okAt pos (s[pos]'hlt)=false by simp only[okAt,letB_high (r:=((s[pos]'hlt).toNat:Int)) (by omega),digB_high (r:=((s[pos]'hlt).toNat:Int)) (by omega)];simp)
    by_cases h0:pos=0
    ·subst h0
     go_wp2_with (first | (go_at_call 189;refine (isLetter_any _ _).mono ?_;rintro e w' ⟨rfl,rfl⟩) | (go_at_call 190;refine (isDigit_any _ _).mono ?_;rintro e w' ⟨rfl,rfl⟩))
     go_ret
     exact⟨ret_bool (by rw[Hn.out,← Hok.out,Hc.out,HO.out];rfl),(Below.refl _ _).alloc (Nat.le_refl _) _⟩
    have hz:((pos:Int) == 0)=false:=by simp;omega
    go_wp2_with (first | (go_at_call 189;refine (isLetter_any _ _).mono ?_;rintro e w' ⟨rfl,rfl⟩) | (go_at_call 190;refine (isDigit_any _ _).mono ?_;rintro e w' ⟨rfl,rfl⟩))
    go_ret
    exact⟨ret_bool (by rw[Hn.out,← Hok.out,Hc.out,HO.out];rfl),(Below.refl _ _).alloc (Nat.le_refl _) _⟩
  ·have hnx:=fun ty=>run_next_end (P:=Tryz.prog) w s pos ty hlt
   go_wp2
   go_ret
   obtain rfl:pos=s.size:=by omega
   refine⟨ret_bool ?_,(Below.refl _ _).alloc (Nat.le_refl _) _⟩
   rw[Hn.out,← Hok.out,List.drop_of_length_le (by simp)]
   rfl
end Go.Proofs.YtakpgcmfjlbcgaaGreatDoor
