/- Dshape@012, Dgap@012, Dmean@012 -/
import Derived.Test.YtdgbajnhhhjbcaaGreatDoorQ8
set_option linter.unusedSimpArgs false
namespace Go.Proofs.YtdgbajnhhhjbcaaGreatDoor
open Lib(hid)
open Go.RowKit
theorem ret_int {k:IntKind} {a b:Int} (h:a=b):Ending.returned (.int k a)=.returned (.int k b):=by rw[h]
set_option maxHeartbeats 400000 in
theorem runSize_part (s:ByteArray) (w:World) (hs:s.size≤maxLen) :
  Calls Tryz.prog 98 #[.string s,.func (.func 99) #[] #[]] w fun e w'=>e=.returned (.int .i64 (runN partB s.data.toList:Nat))∧w=w':=by
 unfold maxLen at hs
 go_enter Tryz.func98,Tryz.ntmps98
 go_wp2
 go_loop [5] (fun i=>∃ k:Nat,k≤s.size∧i=.int .i64 k∧runN partB s.data.toList=k+runN partB (s.data.toList.drop k)) (fun i=>s.size - (intOf i).toNat)
 case atStart=>exact⟨0,Nat.zero_le _,rfl,by simp⟩
 case round=>
  obtain⟨k,hk,rfl,hr⟩:=hrel
  have Hr:=hid hr
  clear hr
  by_cases hlt:k < s.size
  ·have hin:k+1≤s.size:=hlt
   have Hc:=hid (drop_cons s k hlt)
   by_cases hp:partB (s[k]'hlt)=true
   ·have Hn:Hid (runN partB (s.data.toList.drop k)=1+runN partB (s.data.toList.drop (k+1))):=hid (by rw[Hc.out];simp[runN,hp])
    go_wp2_with (go_at_call 99;refine (dpart_c _ _).mono ?_;rintro e w' ⟨rfl,rfl⟩)
    go_round
    case rel=>exact⟨k+1,hin,by go_num,by rw[Hr.out,Hn.out];omega⟩
    case measure=>simp[intOf];omega
   ·have hp':partB (s[k]'hlt)=false:=by simpa using hp
    clear hp
    have Hn:Hid (runN partB (s.data.toList.drop k)=0):=hid (by rw[Hc.out];simp[runN,hp'])
    go_wp2_with (go_at_call 99;refine (dpart_c _ _).mono ?_;rintro e w' ⟨rfl,rfl⟩)
    go_ret
    exact⟨ret_int (by rw[Hr.out,Hn.out];omega),rfl⟩
  ·go_wp2
   go_ret
   obtain rfl:k=s.size:=by omega
   exact⟨ret_int (by rw[Hr.out,List.drop_of_length_le (by simp)];simp[runN]),rfl⟩
set_option maxHeartbeats 400000 in
theorem runSize_small (s:ByteArray) (w:World) (hs:s.size≤maxLen) :
  Calls Tryz.prog 98 #[.string s,.func (.func 101) #[] #[]] w fun e w'=>e=.returned (.int .i64 (runN smallB s.data.toList:Nat))∧w=w':=by
 unfold maxLen at hs
 go_enter Tryz.func98,Tryz.ntmps98
 go_wp2
 go_loop [5] (fun i=>∃ k:Nat,k≤s.size∧i=.int .i64 k∧runN smallB s.data.toList=k+runN smallB (s.data.toList.drop k)) (fun i=>s.size - (intOf i).toNat)
 case atStart=>exact⟨0,Nat.zero_le _,rfl,by simp⟩
 case round=>
  obtain⟨k,hk,rfl,hr⟩:=hrel
  have Hr:=hid hr
  clear hr
  by_cases hlt:k < s.size
  ·have hin:k+1≤s.size:=hlt
   have Hc:=hid (drop_cons s k hlt)
   by_cases hp:smallB (s[k]'hlt)=true
   ·have Hn:Hid (runN smallB (s.data.toList.drop k)=1+runN smallB (s.data.toList.drop (k+1))):=hid (by rw[Hc.out];simp[runN,hp])
    go_wp2_with (go_at_call 101;refine (dsmall_c _ _).mono ?_;rintro e w' ⟨rfl,rfl⟩)
    go_round
    case rel=>exact⟨k+1,hin,by go_num,by rw[Hr.out,Hn.out];omega⟩
    case measure=>simp[intOf];omega
   ·have hp':smallB (s[k]'hlt)=false:=by simpa using hp
    clear hp
    have Hn:Hid (runN smallB (s.data.toList.drop k)=0):=hid (by rw[Hc.out];simp[runN,hp'])
    go_wp2_with (go_at_call 101;refine (dsmall_c _ _).mono ?_;rintro e w' ⟨rfl,rfl⟩)
    go_ret
    exact⟨ret_int (by rw[Hr.out,Hn.out];omega),rfl⟩
  ·go_wp2
   go_ret
   obtain rfl:k=s.size:=by omega
   exact⟨ret_int (by rw[Hr.out,List.drop_of_length_le (by simp)];simp[runN]),rfl⟩
set_option maxHeartbeats 400000 in
theorem symbolSize_c (s:ByteArray) (w:World) (hpos:1≤s.size) (hs:s.size≤maxLen) :
  Calls Tryz.prog 100 #[.string s] w fun e w'=>e=.returned (.int .i64 (1+symN false (s.data.toList.tail):Nat))∧w=w':=by
 unfold maxLen at hs
 go_enter Tryz.func100,Tryz.ntmps100
 go_wp2
 go_loop [3,4] (fun esc i=>∃ (k:Nat) (m:Bool),1≤k∧k≤s.size∧esc=.bool m∧i=.int .i64 k∧1+symN false (s.data.toList.tail)=k+symN m (s.data.toList.drop k)) (fun _ i=>s.size - (intOf i).toNat)
 case atStart=>exact⟨1,false,by omega,hpos,rfl,rfl,by simp⟩
 case round=>
  obtain⟨k,m,hk1,hk,rfl,rfl,hr⟩:=hrel
  have Hr:=hid hr
  clear hr
  by_cases hlt:k < s.size
  ·have hin:k+1≤s.size:=hlt
   have Hc:=hid (drop_cons s k hlt)
   cases m with
   | true=>
    have Hn:Hid (symN true (s.data.toList.drop k)=1+symN false (s.data.toList.drop (k+1))):=hid (by rw[Hc.out];simp[symN])
    go_wp2
    go_round
    case rel=>exact⟨k+1,false,by omega,hin,rfl,by go_num,by rw[Hr.out,Hn.out];omega⟩
    case measure=>simp[intOf];omega
   | false=>
    by_cases h1:s[k]'hlt=92
    ·have Hn:Hid (symN false (s.data.toList.drop k)=1+symN true (s.data.toList.drop (k+1))):=hid (by rw[Hc.out];simp[symN,h1])
     have e1:(((s[k]'hlt).toNat:Int) == 92)=true:=by rw[h1];rfl
     clear h1
     go_wp2
     go_round
     case rel=>exact⟨k+1,true,by omega,hin,rfl,by go_num,by rw[Hr.out,Hn.out];omega⟩
     case measure=>simp[intOf];omega
    have e1:(((s[k]'hlt).toNat:Int) == 92)=false:=by rw[beq_eq_false_iff_ne];intro e;exact h1 ((u8_eq _ 92).2 e)
    by_cases h2:s[k]'hlt=34
    ·have Hn:Hid (symN false (s.data.toList.drop k)=1):=hid (by rw[Hc.out];simp[symN,h2])
     have e2:(((s[k]'hlt).toNat:Int) == 34)=true:=by rw[h2];rfl
     clear h1 h2
     go_wp2
     go_ret
     exact⟨ret_int (by have h:=Hr.out;rw[Hn.out] at h;omega),rfl⟩
    ·have Hn:Hid (symN false (s.data.toList.drop k)=1+symN false (s.data.toList.drop (k+1))):=hid (by rw[Hc.out];simp[symN,h1,h2])
     have e2:(((s[k]'hlt).toNat:Int) == 34)=false:=by rw[beq_eq_false_iff_ne];intro e;exact h2 ((u8_eq _ 34).2 e)
     clear h1 h2
     go_wp2
     go_round
     case rel=>exact⟨k+1,false,by omega,hin,rfl,by go_num,by rw[Hr.out,Hn.out];omega⟩
     case measure=>simp[intOf];omega
  ·go_wp2
   go_ret
   obtain rfl:k=s.size:=by omega
   exact⟨ret_int (by have h:=Hr.out;rw[List.drop_of_length_le (by simp)] at h;cases m <;> simp[symN] at h <;> omega),rfl⟩
theorem dlong_c (s:ByteArray) (w:World):Calls Tryz.prog 140 #[.string s] w fun e w'=>e=.returned (.bool (longB s.data.toList))∧w=w':=by
 have Hl:Hid (s.toList=s.data.toList):=hid (Lib.toList_data s)
 go_enter Tryz.func140,Tryz.ntmps140
 go_wp2
 all_goals go_ret
 all_goals exact⟨ret_bool (by rw[← Hl.out];unfold longB;rw[Bool.eq_iff_iff];simp[*]),rfl⟩
theorem signSize_c (s:ByteArray) (w:World) (hs:s.size≤maxLen):Calls Tryz.prog 102 #[.string s] w fun e w'=>e=.returned (.int .i64 (signN s.data.toList:Nat))∧w=w':=by
 unfold maxLen at hs
 have hlen:s.data.toList.length=s.size:=by simp
 by_cases h2:1 < s.size
 ·clear hlen
  go_enter Tryz.func102,Tryz.ntmps102
  go_wp2_with (go_at_call 140;refine (dlong_c _ _).mono ?_;rintro e w' ⟨rfl,rfl⟩)
  all_goals go_ret
  all_goals
   rename_i hb
   exact⟨ret_int (by unfold signN;simp[hb]),rfl⟩
 ·have Hn:Hid (signN s.data.toList=1):=hid (by
   unfold signN
   rw[if_neg]
   intro h
   simp only[longB,decide_eq_true_eq] at h
   have:(s.data.toList.take 2).length=2:=by rcases h with h | h | h | h <;> rw[h] <;> rfl
   simp at this
   omega)
  clear hlen
  go_enter Tryz.func102,Tryz.ntmps102
  go_wp2
  go_ret
  exact⟨ret_int (by rw[Hn.out];rfl),rfl⟩
theorem hasPrefix_c (s p:ByteArray) (b:Bool) (h:Lib.hasPrefix s.data.toList p.data.toList=b) (w:World) :
  Calls Tryz.prog 92 #[.string s,.string p] w fun e w'=>e=.returned (.bool b)∧w=w':=
 (Tryz.strings_HasPrefix s p w).mono fun _ _ ⟨h1,h2⟩=>⟨by rw[h1,h],h2.symm⟩
theorem index10_c (s:ByteArray) (n:Int) (h:Lib.indexByte s.data.toList 10=n) (w:World) :
  Calls Tryz.prog 138 #[.string s,.int .u8 10] w fun e w'=>e=.returned (.int .i64 n)∧w=w':=
 (Tryz.strings_IndexByte s 10 w).mono fun _ _ ⟨h1,h2⟩=>⟨by rw[h1,← h];rfl,h2.symm⟩
theorem index_com:∀ l:List UInt8,Lib.indexByte l 10=if comN l < l.length then (comN l:Int) else -1
 | []=>by simp[Lib.indexByte,comN]
 | c::l=>by
  have ih:=index_com l
  by_cases hc:c=10
  ·simp[Lib.indexByte,comN,hc]
  ·have hb:(c == 10)=false:=by simp[hc]
   simp only[Lib.indexByte,comN,if_neg hc,hb,List.length_cons,Bool.false_eq_true,if_false]
   rw[ih]
   by_cases h:comN l < l.length
   ·have h2:((comN l:Int) == -1)=false:=by simp
    rw[if_pos h,h2,if_neg (by decide),if_pos (by omega)]
    omega
   ·rw[if_neg h,if_neg (show ¬ 1+comN l < l.length+1 by omega)]
    rfl
set_option maxHeartbeats 400000 in
theorem commentSize_c (s:ByteArray) (w:World) (_hs:s.size≤maxLen) :
  Calls Tryz.prog 93 #[.string s] w fun e w'=>e=.returned (.int .i64 (comN s.data.toList:Nat))∧w=w':=by
 unfold maxLen at _hs
 have hi:=index_com s.data.toList
 have hl:=comN_len s.data.toList
 have hlen:s.data.toList.length=s.size:=by simp
 by_cases h:comN s.data.toList < s.data.toList.length
 ·rw[if_pos h] at hi
  obtain⟨k,hk⟩:∃ k,comN s.data.toList=k:=⟨_,rfl⟩
  rw[hk] at hi h ⊢
  have Hi:=hid hi
  have h0:(0:Int)≤(k:Int):=by omega
  clear hi hl hlen h hk
  go_enter Tryz.func93,Tryz.ntmps93
  go_wp2_with (go_at_call 138;refine (index10_c _ _ Hi.out _).mono ?_;rintro e w' ⟨rfl,rfl⟩)
  go_ret
  exact⟨rfl,rfl⟩
 ·rw[if_neg h] at hi
  have Hi:=hid hi
  have Hk:Hid (comN s.data.toList=s.size):=hid (by omega)
  clear hi hl hlen h
  go_enter Tryz.func93,Tryz.ntmps93
  go_wp2_with (go_at_call 138;refine (index10_c _ _ Hi.out _).mono ?_;rintro e w' ⟨rfl,rfl⟩)
  go_ret
  exact⟨ret_int (by rw[Hk.out]),rfl⟩
theorem gap_blank (c:UInt8) (l:List UInt8) (h:blankB c=true):gap false (c::l)=1+gap false l:=by simp[gap,h]
theorem gap_pre {l:List UInt8} (h:Lib.hasPrefix l [47,47]=true):gap false l=comN l+gap false (l.drop (comN l)):=by
 unfold Lib.hasPrefix at h
 rw[List.isPrefixOf_iff_prefix] at h
 obtain⟨r,rfl⟩:=h
 have h1:=gap_com (47::47::r)
 have h2:gap false (47::47::r)=gap true (47::47::r):=by
  have hb:blankB 47=false:=by decide
  simp[gap,hb]
 exact h2.trans h1
theorem gap_stop {c:UInt8} {l:List UInt8} (h1:blankB c=false) (h2:Lib.hasPrefix (c::l) [47,47]=false):gap false (c::l)=0:=by
 unfold gap
 rw[if_neg (by rw[h1];decide),if_neg]
 rintro⟨rfl,hh⟩
 cases l with
 | nil=>simp at hh
 | cons d l=>
  simp at hh
  subst hh
  simp[Lib.hasPrefix] at h2
set_option maxHeartbeats 1000000 in
theorem gapSize_c (s:ByteArray) (w:World) (hs:s.size≤maxLen) :
  Calls Tryz.prog 59 #[.string s] w fun e w'=>e=.returned (.int .i64 (gap false s.data.toList:Nat))∧w=w':=by
 have Hs:=hid hs
 unfold maxLen at hs
 go_enter Tryz.func59,Tryz.ntmps59
 go_wp2
 go_loop [3] (fun i=>∃ k:Nat,k≤s.size∧i=.int .i64 k∧gap false s.data.toList=k+gap false (s.data.toList.drop k)) (fun i=>s.size - (intOf i).toNat)
 case atStart=>exact⟨0,Nat.zero_le _,rfl,by simp⟩
 case round=>
  obtain⟨k,hk,rfl,hr⟩:=hrel
  have Hr:=hid hr
  clear hr
  by_cases hlt:k < s.size
  ·have hin:k+1≤s.size:=hlt
   have Hc:=hid (drop_cons s k hlt)
   have Hx:=hid (Lib.extract_to_end s k)
   cases hb:blankB (s[k]'hlt) with
   | true=>
    have Hn:=hid (gap_blank (s[k]'hlt) (s.data.toList.drop (k+1)) hb)
    go_wp2_with (go_at_call 91;refine (dblank_c _ _).mono ?_;rintro e w' ⟨rfl,rfl⟩)
    go_round
    case rel=>exact⟨k+1,hin,by go_num,by rw[Hr.out,Hc.out,Hn.out];omega⟩
    case measure=>simp[intOf];omega
   | false=>
    cases hp:Lib.hasPrefix (s.data.toList.drop k) [47,47] with
    | true=>
     have Hp:Hid (Lib.hasPrefix (s.extract k s.size).data.toList (⟨#[47,47]⟩:ByteArray).data.toList=true):=hid (by rw[Hx.out];exact hp)
     have hcl:=comN_len (s.data.toList.drop k)
     have hg:=gap_pre hp
     have hc1:1≤comN (s.data.toList.drop k):=by
      rw[Hc.out] at hp ⊢
      unfold comN
      rw[if_neg]
      ·omega
      ·intro e
       rw[e] at hp
       simp[Lib.hasPrefix] at hp
     rw[List.drop_drop] at hg
     have Hcs:Hid (comN (s.extract k s.size).data.toList=comN (s.data.toList.drop k)):=hid (by rw[Hx.out])
     obtain⟨m,hm⟩:∃ m,comN (s.data.toList.drop k)=m:=⟨_,rfl⟩
     rw[hm] at hg hcl hc1 Hcs
     rw[List.length_drop] at hcl
     have hkm:k+m≤s.size:=by
      have:s.data.toList.length=s.size:=by simp
      omega
     have Hg:=hid hg
     clear hg hcl hm hp
     go_wp2_with (first | (go_at_call 91;refine (dblank_c _ _).mono ?_;rintro e w' ⟨rfl,rfl⟩) | (go_at_call 92;refine (hasPrefix_c _ _ _ Hp.out _).mono ?_;rintro e w' ⟨rfl,rfl⟩) | (go_at_call 93;refine (commentSize_c _ _ ?_).mono ?_;(unfold maxLen;simp;omega);rw[Hcs.out];rintro e w' ⟨rfl,rfl⟩))
     go_round
     case rel=>exact⟨k+m,hkm,by go_num,by rw[Hr.out,Hg.out];omega⟩
     case measure=>simp[intOf];omega
    | false=>
     have Hp:Hid (Lib.hasPrefix (s.extract k s.size).data.toList (⟨#[47,47]⟩:ByteArray).data.toList=false):=hid (by rw[Hx.out];exact hp)
     have Hn:Hid (gap false (s.data.toList.drop k)=0):=hid (by rw[Hc.out] at hp ⊢;exact gap_stop hb hp)
     clear hp
     go_wp2_with (first | (go_at_call 91;refine (dblank_c _ _).mono ?_;rintro e w' ⟨rfl,rfl⟩) | (go_at_call 92;refine (hasPrefix_c _ _ _ Hp.out _).mono ?_;rintro e w' ⟨rfl,rfl⟩))
     go_ret
     exact⟨ret_int (by rw[Hr.out,Hn.out];omega),rfl⟩
  ·go_wp2
   go_ret
   obtain rfl:k=s.size:=by omega
   exact⟨ret_int (by rw[Hr.out,List.drop_of_length_le (by simp)];simp[gap]),rfl⟩
structure DEnv (a b c:Addr) (w:World):Prop where
 env:Env a w
 noTok:w.cell? ⟨4,0,none⟩=some (.iface 295 (.pointer (some b)))
 many:w.cell? ⟨1,0,none⟩=some (.iface 295 (.pointer (some c)))
 typ:w.cell? ⟨2,0,none⟩=some (.iface 154 (.agg #[.pointer (some ⟨14,75,none⟩)]))
 ne:b≠c
theorem DEnv.belowB {a b c:Addr} {w w':World} {B:Nat} (hB:8≤B) (h:DEnv a b c w) (hb:Below B w w'):DEnv a b c w':=
 ⟨h.env.belowB hB hb,(hb.cell (p:=⟨4,0,none⟩) (by show 4 < _;omega)).trans h.noTok,(hb.cell (p:=⟨1,0,none⟩) (by show 1 < _;omega)).trans h.many,
  (hb.cell (p:=⟨2,0,none⟩) (by show 2 < _;omega)).trans h.typ,h.ne⟩
theorem DEnv.below {a b c:Addr} {w w':World} (h:DEnv a b c w) (hb:Below w.heap.size w w'):DEnv a b c w':=h.belowB h.env.size hb
set_option maxHeartbeats 1000000 in
theorem shape_c (s:ByteArray) (w:World) (hpos:1≤s.size) (hs:s.size≤1073741824) :
  Calls Tryz.prog 61 #[.string s] w fun e w'=>e=.returned (.tuple #[.int .i64 ((shapeL s.data.toList).1:Nat),.int .i64 ((shapeL s.data.toList).2:Nat)])∧w=w':=by
 have h0:0 < s.size:=by omega
 obtain⟨t,ht⟩:∃ t,s.data.toList.drop 1=t:=⟨_,rfl⟩
 have hl:s.data.toList=s[0]::t:=by have:=drop_cons s 0 h0;rw[List.drop_zero] at this;rw[this,ht]
 have hx:(s.extract 1 s.size).data.toList=t:=(Lib.extract_to_end s 1).trans ht
 have htl:s.data.toList.tail=t:=by rw[hl];rfl
 have Hl:=hid hl
 have Hx:=hid hx
 have Htl:=hid htl
 have hm:s.size≤maxLen:=by unfold maxLen;omega
 have Hm:=hid hm
 clear hl hx ht htl hm
 cases h1:digB ((s[0]'h0).toNat:Int) with
 | true=>
  have Hr:Hid (shapeL s.data.toList=(2,runN partB s.data.toList)):=hid (by rw[Hl.out,shapeL_cons,if_pos h1])
  go_enter Tryz.func61,Tryz.ntmps61
  go_wp2_with (first | (go_at_call 97;refine (ddigit_c _ _).mono ?_;rintro e w' ⟨rfl,rfl⟩) | (go_at_call 98;refine (runSize_part _ _ Hm.out).mono ?_;rintro e w' ⟨rfl,rfl⟩))
  go_ret2
  exact⟨by rw[Hr.out];rfl,rfl⟩
 | false=>
  have n1:¬ digB ((s[0]'h0).toNat:Int)=true:=by rw[h1];decide
  cases h2:partB (s[0]'h0) with
  | true=>
   have Hr:Hid (shapeL s.data.toList=(1,runN partB s.data.toList)):=hid (by rw[Hl.out,shapeL_cons,if_neg n1,if_pos h2])
   clear n1
   go_enter Tryz.func61,Tryz.ntmps61
   go_wp2_with (first | (go_at_call 97;refine (ddigit_c _ _).mono ?_;rintro e w' ⟨rfl,rfl⟩) | (go_at_call 99;refine (dpart_c _ _).mono ?_;rintro e w' ⟨rfl,rfl⟩) | (go_at_call 98;refine (runSize_part _ _ Hm.out).mono ?_;rintro e w' ⟨rfl,rfl⟩))
   go_ret2
   exact⟨by rw[Hr.out];rfl,rfl⟩
  | false=>
   have n2:¬ partB (s[0]'h0)=true:=by rw[h2];decide
   by_cases h3:s[0]'h0=34
   ·have Hr:Hid (shapeL s.data.toList=(3,1+symN false s.data.toList.tail)):=hid (by rw[Htl.out,Hl.out,shapeL_cons,if_neg n1,if_neg n2,if_pos h3])
    have e3:(((s[0]'h0).toNat:Int) == 34)=true:=by rw[h3];rfl
    clear n1 n2 h3
    go_enter Tryz.func61,Tryz.ntmps61
    go_wp2_with (first | (go_at_call 97;refine (ddigit_c _ _).mono ?_;rintro e w' ⟨rfl,rfl⟩) | (go_at_call 99;refine (dpart_c _ _).mono ?_;rintro e w' ⟨rfl,rfl⟩) | (go_at_call 100;refine (symbolSize_c _ _ hpos Hm.out).mono ?_;rintro e w' ⟨rfl,rfl⟩))
    go_ret2
    exact⟨by rw[Hr.out];rfl,rfl⟩
   have e3:(((s[0]'h0).toNat:Int) == 34)=false:=by rw[beq_eq_false_iff_ne];intro e;exact h3 ((u8_eq _ 34).2 e)
   by_cases h4:s[0]'h0=46
   ·have e4:(((s[0]'h0).toNat:Int) == 46)=true:=by rw[h4];rfl
    have Hm1:Hid ((s.extract 1 s.size).size≤maxLen):=hid (by unfold maxLen;simp;omega)
    obtain⟨r,hr⟩:∃ r,runN smallB t=r:=⟨_,rfl⟩
    have Hrs:Hid (runN smallB (s.extract 1 s.size).data.toList=r):=hid (by rw[Hx.out,hr])
    have hrl:r≤s.size:=by
     have h:=runN_len smallB t
     have h5:s.data.toList.length=s.size:=by simp
     rw[Hl.out,List.length_cons] at h5
     omega
    by_cases h5:0 < r
    ·have Hr:Hid (shapeL s.data.toList=(5,1+r)):=hid (by rw[Hl.out,shapeL_cons,if_neg n1,if_neg n2,if_neg h3,if_pos ⟨h4,by rw[hr];exact h5⟩,hr])
     have h5':(0:Int) < (r:Int):=by omega
     clear n1 n2 h3 h4 hr
     go_enter Tryz.func61,Tryz.ntmps61
     go_wp2_with (first | (go_at_call 97;refine (ddigit_c _ _).mono ?_;rintro e w' ⟨rfl,rfl⟩) | (go_at_call 99;refine (dpart_c _ _).mono ?_;rintro e w' ⟨rfl,rfl⟩) | (go_at_call 98;refine (runSize_small _ _ Hm1.out).mono ?_;rw[Hrs.out];rintro e w' ⟨rfl,rfl⟩))
     go_ret2
     exact⟨by rw[Hr.out];simp,rfl⟩
    ·have Hr:Hid (shapeL s.data.toList=(4,signN s.data.toList)):=hid (by rw[Hl.out,shapeL_cons,if_neg n1,if_neg n2,if_neg h3,if_neg];rintro⟨_,h⟩;omega)
     have h5':¬ (0:Int) < (r:Int):=by omega
     clear n1 n2 h3 h4 hr h5
     go_enter Tryz.func61,Tryz.ntmps61
     go_wp2_with (first | (go_at_call 97;refine (ddigit_c _ _).mono ?_;rintro e w' ⟨rfl,rfl⟩) | (go_at_call 99;refine (dpart_c _ _).mono ?_;rintro e w' ⟨rfl,rfl⟩) | (go_at_call 98;refine (runSize_small _ _ Hm1.out).mono ?_;rw[Hrs.out];rintro e w' ⟨rfl,rfl⟩) | (go_at_call 102;refine (signSize_c _ _ Hm.out).mono ?_;rintro e w' ⟨rfl,rfl⟩))
     go_ret2
     exact⟨by rw[Hr.out];rfl,rfl⟩
   ·have e4:(((s[0]'h0).toNat:Int) == 46)=false:=by rw[beq_eq_false_iff_ne];intro e;exact h4 ((u8_eq _ 46).2 e)
    have Hr:Hid (shapeL s.data.toList=(4,signN s.data.toList)):=hid (by rw[Hl.out,shapeL_cons,if_neg n1,if_neg n2,if_neg h3,if_neg];rintro⟨h,_⟩;exact h4 h)
    clear n1 n2 h3 h4
    go_enter Tryz.func61,Tryz.ntmps61
    go_wp2_with (first | (go_at_call 97;refine (ddigit_c _ _).mono ?_;rintro e w' ⟨rfl,rfl⟩) | (go_at_call 99;refine (dpart_c _ _).mono ?_;rintro e w' ⟨rfl,rfl⟩) | (go_at_call 102;refine (signSize_c _ _ Hm.out).mono ?_;rintro e w' ⟨rfl,rfl⟩))
    go_ret2
    exact⟨by rw[Hr.out];rfl,rfl⟩
theorem short_fin:∀ c:Fin 256,shortB (UInt8.ofNat c.1)=decide (0≤Lib.indexByte shortL (UInt8.ofNat c.1)):=by decide +kernel
theorem short_ix (c:UInt8):shortB c=decide (0≤Lib.indexByte shortL c):=by
 have:=short_fin ⟨c.toNat,c.toNat_lt⟩
 simpa only[ofNat_toNat] using this
theorem indexShort_c (c:UInt8) (n:Int) (h:Lib.indexByte shortL c=n) (w:World) :
  Calls Tryz.prog 138 #[.string ⟨#[40,41,123,125,44,46,58,33,61,60,62,43,45,42]⟩,.int .u8 (c.toNat:Int)] w fun e w'=>e=.returned (.int .i64 n)∧w=w':=
 (Tryz.strings_IndexByte _ _ w).mono fun _ _ ⟨h1,h2⟩=>⟨by
  have h3:((c.toNat:Int).toNat.toUInt8:UInt8)=c:=by simp
  rw[h1,h3,← h];rfl,h2.symm⟩
set_option maxHeartbeats 1000000 in
theorem isSign_c (s:ByteArray) (w:World) (hpos:1≤s.size) (hs:s.size≤1073741824) :
  Calls Tryz.prog 105 #[.string s] w fun e w'=>e=.returned (.bool (longB s.data.toList || shortB (s.data.toList.getD 0 0)))∧w=w':=by
 have h0:0 < s.size:=by omega
 have hg:s.data.toList.getD 0 0=s[0]'h0:=by rw[List.getD_eq_getElem?_getD,List.getElem?_eq_getElem (by simpa using h0)];rfl
 have hsx:=short_ix (s[0]'h0)
 obtain⟨n,hn⟩:∃ n,Lib.indexByte shortL (s[0]'h0)=n:=⟨_,rfl⟩
 rw[hn] at hsx
 have Hn:=hid hn
 have Hg:=hid hg
 have Hs:=hid hsx
 clear hn hg hsx
 go_enter Tryz.func105,Tryz.ntmps105
 go_wp2_with (first | (go_at_call 140;refine (dlong_c _ _).mono ?_;rintro e w' ⟨rfl,rfl⟩) | (go_at_call 138;refine (indexShort_c _ _ Hn.out _).mono ?_;rintro e w' ⟨rfl,rfl⟩))
 all_goals go_ret
 all_goals exact⟨ret_bool (by rw[Hg.out,Hs.out];simp[*]),rfl⟩
theorem dclone_c (s:ByteArray) (w:World) (hs:s.size≤1073741824) :
  Calls Tryz.prog 106 #[.string s] w fun e w'=>e=.returned (.string s)∧Below w.heap.size w w':=by
 have hl:s.size≤281474976710656:=by omega
 go_enter Tryz.func106,Tryz.ntmps106
 go_wp2_with fail
 refine (Tryz.stringslite_Clone s _ hl).mono ?_
 rintro e w1 ⟨rfl,b1⟩
 go_wp2
 go_ret
 exact⟨rfl,b1⟩
def meanV (b:Addr):Option (List UInt8)→Value
 | some t=>.tuple #[.string ⟨t.toArray⟩,.nilIface]
 | none=>.tuple #[.string ⟨#[]⟩,.iface 295 (.pointer (some b))]
theorem str_eta (s:ByteArray):(⟨s.data.toList.toArray⟩:ByteArray)=s:=by cases s;simp
set_option maxHeartbeats 1000000 in
theorem symbol_c (s:ByteArray) (a b c:Addr) (w:World) (hs:s.size≤1073741824) (E:DEnv a b c w) :
  Calls Tryz.prog 103 #[.string s] w fun e w'=>e=.returned (meanV b (unqL s.data.toList))∧Below w.heap.size w w':=by
 have hu:=unquote_c s a w hs E.env
 have HE:=hid E
 obtain⟨r,hr⟩:∃ r,unqL s.data.toList=r:=⟨_,rfl⟩
 rw[hr] at hu ⊢
 have Hu:=hid hu
 clear hu hr E
 cases r with
 | none=>
  go_enter Tryz.func103,Tryz.ntmps103
  go_wp2_with fail
  refine Hu.out.mono ?_
  rintro e w1 ⟨rfl,b1⟩
  have en:=(HE.out.below b1).noTok
  simp only[unqV]
  go_wp2
  go_quiet (fail)
  go_wp2
  go_ret2
  exact⟨rfl,b1.trans (below_drewN (Below.refl _ _) _)⟩
 | some t=>
  go_enter Tryz.func103,Tryz.ntmps103
  go_wp2_with fail
  refine Hu.out.mono ?_
  rintro e w1 ⟨rfl,b1⟩
  simp only[unqV]
  go_wp2
  go_ret2
  exact⟨rfl,b1⟩
def rightB (k:Nat) (b:List UInt8):Bool:=if k=1 then decide (b=[95]) || nameB b else if k=2 then (numL b).isSome else if k=5 then wordB b else longB b || shortB (b.getD 0 0)
theorem mean_right {k:Nat} {b:List UInt8} (hk:k≠3):meanL k b=if rightB k b=true then some b else none:=by
 unfold meanL rightB
 rw[if_neg hk]
theorem meanV_some (b:Addr) (s:ByteArray):meanV b (some s.data.toList)=.tuple #[.string s,.nilIface]:=by rw[meanV,str_eta]
set_option maxHeartbeats 2000000 in
theorem meaning_4 (s:ByteArray) (a b c:Addr) (w:World) (hpos:1≤s.size) (hs:s.size≤1073741824) (E:DEnv a b c w) :
  Calls Tryz.prog 62 #[.int .i64 4,.string s] w fun e w'=>e=.returned (meanV b (meanL 4 s.data.toList))∧Below w.heap.size w w':=by
 have hm:s.size≤maxLen:=by unfold maxLen;omega
 have hr:=mean_right (k:=4) (b:=s.data.toList) (by decide)
 have Hr:=hid hr
 have Hm:=hid hm
 have HE:=hid E
 obtain⟨r,hrr⟩:∃ r,(longB s.data.toList || shortB (s.data.toList.getD 0 0))=r:=⟨_,rfl⟩
 have Hb:Hid (rightB 4 s.data.toList=r):=hid hrr
 have hc:=isSign_c s w hpos hs
 rw[hrr] at hc
 have Hc:=hid hc
 clear hc hrr
 clear hr hm E
 cases r with
 | true=>
  go_enter Tryz.func62,Tryz.ntmps62
  go_wp2_with fail
  refine Hc.out.mono ?_
  rintro e w1 ⟨rfl,rfl⟩
  go_wp2_with fail
  refine (dclone_c s _ hs).mono ?_
  rintro e w1 ⟨rfl,b1⟩
  go_wp2
  go_ret2
  exact⟨by rw[Hr.out,Hb.out,if_pos rfl,meanV_some];rfl,b1⟩
 | false=>
  have en:=HE.out.noTok
  go_enter Tryz.func62,Tryz.ntmps62
  go_wp2_with fail
  refine Hc.out.mono ?_
  rintro e w1 ⟨rfl,rfl⟩
  go_wp2
  go_quiet (fail)
  go_wp2
  go_ret2
  exact⟨by rw[Hr.out,Hb.out,if_neg (by decide)];rfl,below_drewN (Below.refl _ _) _⟩
set_option maxHeartbeats 2000000 in
theorem meaning_5 (s:ByteArray) (a b c:Addr) (w:World) (hpos:1≤s.size) (hs:s.size≤1073741824) (E:DEnv a b c w) :
  Calls Tryz.prog 62 #[.int .i64 5,.string s] w fun e w'=>e=.returned (meanV b (meanL 5 s.data.toList))∧Below w.heap.size w w':=by
 have hm:s.size≤maxLen:=by unfold maxLen;omega
 have hr:=mean_right (k:=5) (b:=s.data.toList) (by decide)
 have Hr:=hid hr
 have Hm:=hid hm
 have HE:=hid E
 have Hl:Hid (s.toList=s.data.toList):=hid (Lib.toList_data s)
 clear hr hm E
 cases hb:wordB s.data.toList with
 | true=>
  have Hb:Hid (rightB 5 s.data.toList=true):=hid hb
  have hw:s.toList=[46,100,101,99,108]∨s.toList=[46,105,110,112,117,116]∨s.toList=[46,111,117,116,112,117,116]:=by rw[Hl.out];unfold wordB at hb;simpa using hb
  clear hb
  have done:∀ w1,Below w.heap.size w w1→((Ending.returned (.tuple #[.string s,.nilIface]):Ending)=.returned (meanV b (meanL 5 s.data.toList))∧Below w.heap.size w w1):=fun w1 b1=>⟨by rw[Hr.out,Hb.out,if_pos rfl,meanV,str_eta],b1⟩
  rcases hw with hw | hw | hw
  ·have t1:(s.toList == [46,100,101,99,108])=true:=by simp[hw]
   clear hw
   go_enter Tryz.func62,Tryz.ntmps62
   go_wp2_with fail
   refine (dclone_c s _ hs).mono ?_
   rintro e w1 ⟨rfl,b1⟩
   go_wp2
   go_ret2
   exact done _ b1
  ·have t1:(s.toList == [46,100,101,99,108])=false:=by simp[hw]
   have t2:(s.toList == [46,105,110,112,117,116])=true:=by simp[hw]
   clear hw
   go_enter Tryz.func62,Tryz.ntmps62
   go_wp2_with fail
   refine (dclone_c s _ hs).mono ?_
   rintro e w1 ⟨rfl,b1⟩
   go_wp2
   go_ret2
   exact done _ b1
  ·have t1:(s.toList == [46,100,101,99,108])=false:=by simp[hw]
   have t2:(s.toList == [46,105,110,112,117,116])=false:=by simp[hw]
   have t3:(s.toList == [46,111,117,116,112,117,116])=true:=by simp[hw]
   clear hw
   go_enter Tryz.func62,Tryz.ntmps62
   go_wp2_with fail
   refine (dclone_c s _ hs).mono ?_
   rintro e w1 ⟨rfl,b1⟩
   go_wp2
   go_ret2
   exact done _ b1
 | false=>
  have Hb:Hid (rightB 5 s.data.toList=false):=hid hb
  have hw:s.toList≠[46,100,101,99,108]∧s.toList≠[46,105,110,112,117,116]∧s.toList≠[46,111,117,116,112,117,116]:=by rw[Hl.out];unfold wordB at hb;simpa using hb
  have t1:(s.toList == [46,100,101,99,108])=false:=by simp[hw.1]
  have t2:(s.toList == [46,105,110,112,117,116])=false:=by simp[hw.2.1]
  have t3:(s.toList == [46,111,117,116,112,117,116])=false:=by simp[hw.2.2]
  clear hb hw
  have en:=HE.out.noTok
  go_enter Tryz.func62,Tryz.ntmps62
  go_wp2
  go_quiet (fail)
  go_wp2
  go_ret2
  exact⟨by rw[Hr.out,Hb.out,if_neg (by decide)];rfl,below_drewN (Below.refl _ _) _⟩
set_option maxHeartbeats 2000000 in
theorem meaning_2 (s:ByteArray) (a b c:Addr) (w:World) (hpos:1≤s.size) (hs:s.size≤1073741824) (E:DEnv a b c w) :
  Calls Tryz.prog 62 #[.int .i64 2,.string s] w fun e w'=>e=.returned (meanV b (meanL 2 s.data.toList))∧Below w.heap.size w w':=by
 have hm:s.size≤maxLen:=by unfold maxLen;omega
 have hr:=mean_right (k:=2) (b:=s.data.toList) (by decide)
 have Hr:=hid hr
 have Hm:=hid hm
 have HE:=hid E
 have hc:=parse_c s a w hm E.env
 obtain⟨r,hrr⟩:∃ r,numL s.data.toList=r:=⟨_,rfl⟩
 have Hb:Hid (rightB 2 s.data.toList=r.isSome):=hid (by rw[← hrr];rfl)
 rw[hrr] at hc
 have Hc:=hid hc
 clear hc hrr
 clear hr hm E
 cases r with
 | some n=>
  go_enter Tryz.func62,Tryz.ntmps62
  go_wp2_with fail
  refine Hc.out.mono ?_
  rintro e w1 ⟨rfl,b1⟩
  simp only[parseV]
  go_wp2_with fail
  refine (dclone_c s _ hs).mono ?_
  rintro e w2 ⟨rfl,b2⟩
  go_wp2
  go_ret2
  exact⟨by rw[Hr.out,Hb.out,Option.isSome_some,if_pos rfl,meanV_some];rfl,chain2 b1 b2⟩
 | none=>
  go_enter Tryz.func62,Tryz.ntmps62
  go_wp2_with fail
  refine Hc.out.mono ?_
  rintro e w1 ⟨rfl,b1⟩
  have en:=(HE.out.below b1).noTok
  simp only[parseV]
  go_wp2
  go_quiet (fail)
  go_wp2
  go_ret2
  exact⟨by rw[Hr.out,Hb.out,Option.isSome_none,if_neg (by decide)];rfl,b1.trans (below_drewN (Below.refl _ _) _)⟩
set_option maxHeartbeats 2000000 in
theorem meaning_1 (s:ByteArray) (a b c:Addr) (w:World) (hpos:1≤s.size) (hs:s.size≤1073741824) (E:DEnv a b c w) :
  Calls Tryz.prog 62 #[.int .i64 1,.string s] w fun e w'=>e=.returned (meanV b (meanL 1 s.data.toList))∧Below w.heap.size w w':=by
 have hm:s.size≤maxLen:=by unfold maxLen;omega
 have hr:=mean_right (k:=1) (b:=s.data.toList) (by decide)
 have Hr:=hid hr
 have Hm:=hid hm
 have HE:=hid E
 have Hl:Hid (s.toList=s.data.toList):=hid (Lib.toList_data s)
 clear hr hm E
 by_cases h95:s.toList=[95]
 ·have Hb:Hid (rightB 1 s.data.toList=true):=hid (by rw[← Hl.out,h95];decide)
  have t1:(s.toList == [95])=true:=by simp[h95]
  clear h95
  go_enter Tryz.func62,Tryz.ntmps62
  go_wp2_with fail
  refine (dclone_c s _ hs).mono ?_
  rintro e w1 ⟨rfl,b1⟩
  go_wp2
  go_ret2
  exact⟨by rw[Hr.out,Hb.out,if_pos rfl,meanV_some];rfl,b1⟩
 have t1:(s.toList == [95])=false:=by simp[h95]
 obtain⟨r,hrr⟩:∃ r,nameB s.data.toList=r:=⟨_,rfl⟩
 have Hb:Hid (rightB 1 s.data.toList=r):=hid (by unfold rightB;rw[if_pos rfl,hrr,← Hl.out,decide_eq_false h95,Bool.false_or])
 have hc:=isName_any s w Hm.out
 rw[hrr] at hc
 have Hc:=hid hc
 clear hc hrr h95
 cases r with
 | true=>
  go_enter Tryz.func62,Tryz.ntmps62
  go_wp2_with fail
  refine Hc.out.mono ?_
  rintro e w1 ⟨rfl,b1⟩
  go_wp2_with fail
  refine (dclone_c s _ hs).mono ?_
  rintro e w2 ⟨rfl,b2⟩
  go_wp2
  go_ret2
  exact⟨by rw[Hr.out,Hb.out,if_pos rfl,meanV_some];rfl,chain2 b1 b2⟩
 | false=>
  go_enter Tryz.func62,Tryz.ntmps62
  go_wp2_with fail
  refine Hc.out.mono ?_
  rintro e w1 ⟨rfl,b1⟩
  have en:=(HE.out.below b1).noTok
  go_wp2
  go_quiet (fail)
  go_wp2
  go_ret2
  exact⟨by rw[Hr.out,Hb.out,if_neg (by decide)];rfl,b1.trans (below_drewN (Below.refl _ _) _)⟩
set_option maxHeartbeats 1000000 in
theorem meaning_3 (s:ByteArray) (a b c:Addr) (w:World) (hs:s.size≤1073741824) (E:DEnv a b c w) :
  Calls Tryz.prog 62 #[.int .i64 3,.string s] w fun e w'=>e=.returned (meanV b (meanL 3 s.data.toList))∧Below w.heap.size w w':=by
 have hc:=symbol_c s a b c w hs E
 have Hr:Hid (meanL 3 s.data.toList=unqL s.data.toList):=hid (by unfold meanL;rw[if_pos rfl])
 obtain⟨r,hrr⟩:∃ r,unqL s.data.toList=r:=⟨_,rfl⟩
 have Hrr:=hid hrr
 rw[hrr] at hc
 have Hc:=hid hc
 clear hc hrr E
 cases r with
 | none=>
  go_enter Tryz.func62,Tryz.ntmps62
  go_wp2_with fail
  refine Hc.out.mono ?_
  rintro e w1 ⟨rfl,b1⟩
  simp only[meanV]
  go_wp2
  go_ret2
  exact⟨by rw[Hr.out,Hrr.out];rfl,b1⟩
 | some t=>
  go_enter Tryz.func62,Tryz.ntmps62
  go_wp2_with fail
  refine Hc.out.mono ?_
  rintro e w1 ⟨rfl,b1⟩
  simp only[meanV]
  go_wp2
  go_ret2
  exact⟨by rw[Hr.out,Hrr.out];rfl,b1⟩
theorem meaning_c (k:Nat) (hk:1≤k∧k≤5) (s:ByteArray) (a b c:Addr) (w:World) (hpos:1≤s.size) (hs:s.size≤1073741824) (E:DEnv a b c w) :
  Calls Tryz.prog 62 #[.int .i64 (k:Int),.string s] w fun e w'=>e=.returned (meanV b (meanL k s.data.toList))∧Below w.heap.size w w':=by
 have h:k=1∨k=2∨k=3∨k=4∨k=5:=by omega
 rcases h with rfl | rfl | rfl | rfl | rfl
 ·exact meaning_1 s a b c w hpos hs E
 ·exact meaning_2 s a b c w hpos hs E
 ·exact meaning_3 s a b c w hs E
 ·exact meaning_4 s a b c w hpos hs E
 ·exact meaning_5 s a b c w hpos hs E
end Go.Proofs.YtdgbajnhhhjbcaaGreatDoor
