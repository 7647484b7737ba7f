/- RefName@012 -/
import Derived.Test.YtfmldnbcjbflbaaGreatDoorQNameR012
set_option linter.unusedSimpArgs false
set_option linter.unusedVariables false
namespace Go.Proofs.YtfmldnbcjbflbaaGreatDoor
open Lib(hid)
open Go.RowKit
set_option maxHeartbeats 400000 in
theorem refName_any (s:ByteArray) (w:World) (hs:s.size≤maxLen) :
  Calls Tryz.prog 98 #[.string s] w fun e w'=>e=.returned (.bool (nameB s.data.toList))∧w=w':=by
 unfold maxLen at hs
 have hl:s.toList=s.data.toList:=Lib.toList_data s
 have hlen:s.data.toList.length=s.size:=by simp
 by_cases h0:s.size < 1
 ·have hf:nameB s.data.toList=false:=by
   have:s.data.toList=[]:=List.eq_nil_of_length_eq_zero (by omega)
   unfold nameB;rw[this];simp
  have Hf:=hid hf
  clear hf hl hlen
  go_enter Tryz.func98,Tryz.ntmps98
  go_wp2
  go_ret
  exact⟨ret_bool Hf.out.symm,rfl⟩
 by_cases h2:40 < s.size
 ·have hf:nameB s.data.toList=false:=by unfold nameB;simp;intro _ h;omega
  have Hf:=hid hf
  clear hf hl hlen
  go_enter Tryz.func98,Tryz.ntmps98
  go_wp2
  go_ret
  exact⟨ret_bool Hf.out.symm,rfl⟩
 by_cases h1:s.toList=[95]
 ·have hf:nameB s.data.toList=false:=by unfold nameB;rw[← hl,h1];simp
  have Hf:=hid hf
  clear hf hl hlen
  have e1:(s.toList == [95])=true:=by simp[h1]
  clear h1
  go_enter Tryz.func98,Tryz.ntmps98
  go_wp2
  go_ret
  exact⟨ret_bool Hf.out.symm,rfl⟩
 have e1:(s.toList == [95])=false:=by simp[h1]
 have hn:nameB s.data.toList=okFrom 0 s.data.toList:=by
  have hne:s.data.toList≠[]:=by intro h;rw[h] at hlen;simp at hlen;omega
  rw[hl] at h1
  unfold nameB
  rw[hlen]
  simp[h1,hne]
  omega
 have Hn:=hid hn
 clear hn hl h1 hlen
 have d0:decide ((s.size:Int) < 1)=false:=by simp;omega
 have d1:decide (40 < (s.size:Int))=false:=by simp;omega
 go_enter Tryz.func98,Tryz.ntmps98
 go_wp2
 go_loop [3] (fun i=>∃ pos:Nat,pos≤s.size∧i=.int .i64 pos∧okFrom pos (s.data.toList.drop pos)=okFrom 0 s.data.toList) (fun i=>s.size - (intOf i).toNat)
 case atStart=>exact⟨0,Nat.zero_le _,rfl,by simp⟩
 case round=>
  obtain⟨pos,hp,rfl,hok⟩:=hrel
  have Hok:=hid hok
  clear hok
  by_cases hlt:pos < s.size
  ·have hc:=okFrom_cons s pos hlt
   have Hc:=hid hc
   clear hc
   have hin:pos+1≤s.size:=hlt
   by_cases hL:letB ((s[pos]'hlt).toNat:Int)=true
   ·have HO:=hid (show okAt pos (s[pos]'hlt)=true by simp[okAt,hL])
    go_wp2_with (first | (go_at_call 132;refine (letter_any _ _).mono ?_;rintro e w' ⟨rfl,rfl⟩) | (go_at_call 133;refine (digit_any _ _).mono ?_;rintro e w' ⟨rfl,rfl⟩))
    go_round
    case rel=>exact⟨pos+1,hin,rfl,by rw[← Hok.out,Hc.out,HO.out];rfl⟩
    case measure=>simp[intOf];omega
   have hL':letB ((s[pos]'hlt).toNat:Int)=false:=by simpa using hL
   clear hL
   by_cases h0:pos=0
   ·subst h0
    have HO:=hid (show okAt 0 (s[0]'hlt)=false by simp[okAt,hL'])
    go_wp2_with (first | (go_at_call 132;refine (letter_any _ _).mono ?_;rintro e w' ⟨rfl,rfl⟩) | (go_at_call 133;refine (digit_any _ _).mono ?_;rintro e w' ⟨rfl,rfl⟩))
    go_ret
    exact⟨ret_bool (by rw[Hn.out,← Hok.out,Hc.out,HO.out];rfl),rfl⟩
   have hz:((pos:Int) == 0)=false:=by simp;omega
   by_cases hD:digB ((s[pos]'hlt).toNat:Int)=true
   ·have HO:=hid (show okAt pos (s[pos]'hlt)=true by simp[okAt,hD,h0])
    go_wp2_with (first | (go_at_call 132;refine (letter_any _ _).mono ?_;rintro e w' ⟨rfl,rfl⟩) | (go_at_call 133;refine (digit_any _ _).mono ?_;rintro e w' ⟨rfl,rfl⟩))
    go_round
    case rel=>exact⟨pos+1,hin,rfl,by rw[← Hok.out,Hc.out,HO.out];rfl⟩
    case measure=>simp[intOf];omega
   ·have hD':digB ((s[pos]'hlt).toNat:Int)=false:=by simpa using hD
    clear hD
    have HO:=hid (show okAt pos (s[pos]'hlt)=false by simp[okAt,hL',hD'])
    go_wp2_with (first | (go_at_call 132;refine (letter_any _ _).mono ?_;rintro e w' ⟨rfl,rfl⟩) | (go_at_call 133;refine (digit_any _ _).mono ?_;rintro e w' ⟨rfl,rfl⟩))
    go_ret
    exact⟨ret_bool (by rw[Hn.out,← Hok.out,Hc.out,HO.out];rfl),rfl⟩
  ·go_wp2
   go_ret
   obtain rfl:pos=s.size:=by omega
   refine⟨ret_bool ?_,rfl⟩
   rw[Hn.out,← Hok.out,List.drop_of_length_le (by simp)]
   rfl
end Go.Proofs.YtfmldnbcjbflbaaGreatDoor
