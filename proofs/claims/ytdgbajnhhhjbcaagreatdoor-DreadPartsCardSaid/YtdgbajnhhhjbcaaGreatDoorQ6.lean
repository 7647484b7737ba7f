/- Num@012, Esc@012, First@012, Signs@012, ShelfP@012 -/
import Derived.Shelf.LaysC
import Derived.Shelf.Strconv.ParseIntPublic10
import Derived.Test.YtdgbajnhhhjbcaaGreatDoorQ5
set_option linter.unusedSimpArgs false
namespace Go.Proofs.YtdgbajnhhhjbcaaGreatDoor
open Lib(hid)
open Go.RowKit
def negO:Option Nat→Option Int
 | none=>none
 | some m=>if m=0 then none else some (-(m:Int))
def posO:Option Nat→Option Int
 | none=>none
 | some m=>some (m:Int)
def numL (l:List UInt8):Option Int:=
 if Lib.hasPrefix l [45] then negO (magL 9223372036854775808 (l.drop 1)) else posO (magL 9223372036854775807 l)
def numV (a:Addr):Option Int→Value
 | some n=>.tuple #[.int .i64 n,.nilIface]
 | none=>.tuple #[.int .i64 0,.iface 295 (.pointer (some a))]
def parseV:Option Int→Value
 | some n=>.tuple #[.int .i64 n,.int .i64 0]
 | none=>.tuple #[.int .i64 0,.int .i64 10]
theorem mag_le (g:Nat):∀ (l:List UInt8) (sz m:Nat),sz≤g→9≤g→mag g sz l=some m→m≤g
 | [],sz,m,h,_,e=>by simp only[mag,Option.some.injEq] at e;omega
 | c::l,sz,m,h,h9,e=>by
  by_cases hc:48≤c.toNat∧c.toNat≤57
  ·by_cases hb:(g - (c.toNat - 48)) / 10 < sz
   ·rw[mag_big g sz c l hc hb] at e;cases e
   ·rw[mag_go g sz c l hc hb] at e
    exact mag_le g l _ m (by omega) h9 e
  ·rw[mag_bad g sz c l hc] at e;cases e
theorem magL_le (g:Nat) (l:List UInt8) (m:Nat) (h9:9≤g) (e:magL g l=some m):m≤g:=by
 unfold magL at e
 split at e
 ·cases e
 ·exact mag_le g l 0 m (Nat.zero_le _) h9 e
theorem trim_of (l:List UInt8):Lib.trimPrefix l [45]=if Lib.hasPrefix l [45] then l.drop 1 else l:=rfl
theorem magnitude_l (l:List UInt8) (r:Option Nat) (g:Nat) (hg9:9≤g) (hg:g≤9223372036854775808) (hr:magL g l=r) (z:Int) (hz:z=(g:Int)) (a:Addr) (w:World) (hs:l.length≤maxLen) (E:Env a w) :
  Calls Tryz.prog 175 #[.string ⟨l.toArray⟩,.int .u64 z] w fun e w'=>e=.returned (magV a r)∧Below w.heap.size w w':=by
 subst hr
 exact magnitude_c ⟨l.toArray⟩ g hg9 hg z hz a w hs E
theorem wrap_neg (m:Nat) (h1:1≤m) (h2:m≤9223372036854775808):wrap64 (-wrap64 (m:Int)) = -(m:Int):=by
 unfold wrap64
 omega
set_option maxHeartbeats 1000000 in
theorem number_neg (l:List UInt8) (r:Option Nat) (s:ByteArray) (a:Addr) (w:World) (hl:l.length≤maxLen) (E:Env a w) (hp:Lib.hasPrefix s.data.toList [45]=true) (ht:Lib.trimPrefix s.data.toList [45]=l) (hr:magL 9223372036854775808 l=r) :
  Calls Tryz.prog 142 #[.string s] w fun e w'=>e=.returned (numV a (negO r))∧Below w.heap.size w w':=by
 have HE:=hid E
 have Hr:=hid hr
 have hle:∀ m,r=some m→m≤9223372036854775808:=fun m hm=>magL_le _ l m (by omega) (hr.trans hm)
 have herr:=E.err
 have hz:7 < w.heap.size:=by have:=E.size;omega
 clear hr E
 have Hl:=hid hl
 clear hl
 have hc:Calls Tryz.prog 174 #[.string s,.string ⟨#[45]⟩] w fun e w'=>e=.returned (.tuple #[.string ⟨l.toArray⟩,.bool true])∧w'=w:=by
  refine (Tryz.strings_CutPrefix s ⟨#[45]⟩ w).mono ?_
  rintro e w' ⟨rfl,rfl⟩
  refine⟨?_,rfl⟩
  rw[show (⟨#[45]⟩:ByteArray).data.toList=[45] from rfl,ht,hp]
 have Hc:=hid hc
 clear hc ht hp
 cases r with
 | none=>
  clear hle
  go_enter Tryz.func142,Tryz.ntmps142
  go_wp2_with fail
  refine Hc.out.mono ?_
  rintro e w' ⟨rfl,rfl⟩
  go_wp2_with fail
  refine (magnitude_l l none 9223372036854775808 (by omega) (by omega) Hr.out _ (by omega) a _ Hl.out HE.out).mono ?_
  rintro e w1 ⟨rfl,hb⟩
  simp only[magV]
  go_wp2
  go_ret2
  exact⟨rfl,hb⟩
 | some m=>
  have hm:=hle m rfl
  clear hle
  by_cases h0:m=0
  ·subst h0
   go_enter Tryz.func142,Tryz.ntmps142
   go_wp2_with fail
   refine Hc.out.mono ?_
   rintro e w' ⟨rfl,rfl⟩
   go_wp2_with fail
   refine (magnitude_l l (some 0) 9223372036854775808 (by omega) (by omega) Hr.out _ (by omega) a _ Hl.out HE.out).mono ?_
   rintro e w1 ⟨rfl,hb⟩
   simp only[magV]
   have herr1:=(hb.cell (p:=⟨7,0,none⟩) hz).trans herr
   go_wp2
   go_quiet (fail)
   go_wp2
   go_ret2
   exact⟨rfl,below_drewN hb _⟩
  ·have h0':((m:Int) == 0)=false:=by simp;omega
   go_enter Tryz.func142,Tryz.ntmps142
   go_wp2_with fail
   refine Hc.out.mono ?_
   rintro e w' ⟨rfl,rfl⟩
   go_wp2_with fail
   refine (magnitude_l l (some m) 9223372036854775808 (by omega) (by omega) Hr.out _ (by omega) a _ Hl.out HE.out).mono ?_
   rintro e w1 ⟨rfl,hb⟩
   simp only[magV]
   go_wp2
   go_ret2
   refine⟨?_,hb⟩
   show Ending.returned (.tuple #[.int .i64 (wrap64 (-wrap64 (m:Int))),.nilIface])=_
   rw[wrap_neg m (by omega) hm,show negO (some m)=some (-(m:Int)) by simp[negO,h0]]
   rfl
set_option maxHeartbeats 1000000 in
theorem number_pos (l:List UInt8) (r:Option Nat) (s:ByteArray) (a:Addr) (w:World) (hl:l.length≤maxLen) (E:Env a w) (hp:Lib.hasPrefix s.data.toList [45]=false) (ht:Lib.trimPrefix s.data.toList [45]=l) (hr:magL 9223372036854775807 l=r) :
  Calls Tryz.prog 142 #[.string s] w fun e w'=>e=.returned (numV a (posO r))∧Below w.heap.size w w':=by
 have HE:=hid E
 have Hr:=hid hr
 have hle:∀ m,r=some m→m≤9223372036854775807:=fun m hm=>magL_le _ l m (by omega) (hr.trans hm)
 clear hr E
 have Hl:=hid hl
 clear hl
 have hc:Calls Tryz.prog 174 #[.string s,.string ⟨#[45]⟩] w fun e w'=>e=.returned (.tuple #[.string ⟨l.toArray⟩,.bool false])∧w'=w:=by
  refine (Tryz.strings_CutPrefix s ⟨#[45]⟩ w).mono ?_
  rintro e w' ⟨rfl,rfl⟩
  refine⟨?_,rfl⟩
  rw[show (⟨#[45]⟩:ByteArray).data.toList=[45] from rfl,ht,hp]
 have Hc:=hid hc
 clear hc ht hp
 cases r with
 | none=>
  clear hle
  go_enter Tryz.func142,Tryz.ntmps142
  go_wp2_with fail
  refine Hc.out.mono ?_
  rintro e w' ⟨rfl,rfl⟩
  go_wp2_with fail
  refine (magnitude_l l none 9223372036854775807 (by omega) (by omega) Hr.out _ (by omega) a _ Hl.out HE.out).mono ?_
  rintro e w1 ⟨rfl,hb⟩
  simp only[magV]
  go_wp2
  go_ret2
  exact⟨rfl,hb⟩
 | some m=>
  have hm:=hle m rfl
  clear hle
  go_enter Tryz.func142,Tryz.ntmps142
  go_wp2_with fail
  refine Hc.out.mono ?_
  rintro e w' ⟨rfl,rfl⟩
  go_wp2_with fail
  refine (magnitude_l l (some m) 9223372036854775807 (by omega) (by omega) Hr.out _ (by omega) a _ Hl.out HE.out).mono ?_
  rintro e w1 ⟨rfl,hb⟩
  simp only[magV]
  go_wp2
  go_ret2
  exact⟨rfl,hb⟩
theorem number_c (s:ByteArray) (a:Addr) (w:World) (hs:s.size≤maxLen) (E:Env a w) :
  Calls Tryz.prog 142 #[.string s] w fun e w'=>e=.returned (numV a (numL s.data.toList))∧Below w.heap.size w w':=by
 have htl:=Lib.trimPrefix_le s.data.toList [45]
 have hsz:(Lib.trimPrefix s.data.toList [45]).length≤maxLen:=by
  have:s.data.toList.length=s.size:=by simp
  omega
 cases hp:Lib.hasPrefix s.data.toList [45] with
 | true=>
  have ht:Lib.trimPrefix s.data.toList [45]=s.data.toList.drop 1:=by rw[trim_of,if_pos hp]
  have e:numL s.data.toList=negO (magL 9223372036854775808 (s.data.toList.drop 1)):=by unfold numL;rw[if_pos hp]
  rw[e]
  exact number_neg _ _ s a w (ht ▸ hsz) E hp ht rfl
 | false=>
  have ht:Lib.trimPrefix s.data.toList [45]=s.data.toList:=by rw[trim_of,if_neg (by simp[hp])]
  have e:numL s.data.toList=posO (magL 9223372036854775807 s.data.toList):=by unfold numL;rw[if_neg (by simp[hp])]
  rw[e]
  exact number_pos _ _ s a w (ht ▸ hsz) E hp ht rfl
set_option maxHeartbeats 1000000 in
theorem parse_c (s:ByteArray) (a:Addr) (w:World) (hs:s.size≤maxLen) (E:Env a w) :
  Calls Tryz.prog 104 #[.string s] w fun e w'=>e=.returned (parseV (numL s.data.toList))∧Below w.heap.size w w':=by
 have herr:=E.err
 have hz:7 < w.heap.size:=by have:=E.size;omega
 have HE:=hid E
 have Hs:=hid hs
 clear E hs
 obtain⟨r,hr⟩:∃ r,numL s.data.toList=r:=⟨_,rfl⟩
 have hc:=number_c s a w Hs.out HE.out
 rw[hr] at hc ⊢
 have Hc:=hid hc
 clear hc hr HE
 cases r with
 | none=>
  go_enter Tryz.func104,Tryz.ntmps104
  go_wp2_with fail
  refine Hc.out.mono ?_
  rintro e w1 ⟨rfl,hb⟩
  simp only[numV]
  have herr1:=(hb.cell (p:=⟨7,0,none⟩) hz).trans herr
  go_wp2_with fail
  refine (is_same a _).mono ?_
  rintro e w' ⟨rfl,rfl⟩
  go_wp2
  go_ret2
  exact⟨rfl,hb⟩
 | some n=>
  go_enter Tryz.func104,Tryz.ntmps104
  go_wp2_with fail
  refine Hc.out.mono ?_
  rintro e w1 ⟨rfl,hb⟩
  simp only[numV]
  have herr1:=(hb.cell (p:=⟨7,0,none⟩) hz).trans herr
  go_wp2_with fail
  refine (is_nil a _).mono ?_
  rintro e w' ⟨rfl,rfl⟩
  go_wp2
  go_ret2
  exact⟨rfl,hb⟩
end Go.Proofs.YtdgbajnhhhjbcaaGreatDoor
namespace Go.Proofs.YtdgbajnhhhjbcaaGreatDoor
open Lib(hid)
open Go.RowKit
def hexIx (c:UInt8):Int:=Lib.indexByte hexL c
theorem hexIx_fin:∀ c:Fin 256,-1≤hexIx (UInt8.ofNat c.1)∧hexIx (UInt8.ofNat c.1) < 16:=by decide +kernel
theorem hexIx_in (c:UInt8):-1≤hexIx c∧hexIx c < 16:=by
 have:=hexIx_fin ⟨c.toNat,c.toNat_lt⟩
 simpa using this
theorem idx_c (c:UInt8) (z:Int) (hz:z=(c.toNat:Int)) (w:World) :
  Calls Tryz.prog 138 #[.string ⟨#[48,49,50,51,52,53,54,55,56,57,97,98,99,100,101,102]⟩,.int .u8 z] w fun e w'=>e=.returned (.int .i64 (hexIx c))∧w=w':=by
 subst hz
 refine (Tryz.strings_IndexByte _ _ _).mono ?_
 rintro e w' ⟨rfl,rfl⟩
 refine⟨?_,rfl⟩
 have:((c.toNat:Int).toNat.toUInt8:UInt8)=c:=by simp
 rw[this]
 rfl
theorem or_fin:∀ h l:Fin 16,bits BinOp.or IntKind.i64 ((h.1:Int) * 16) (l.1:Int) % 256=16 * (h.1:Int)+(l.1:Int):=by decide +kernel
theorem hex_or (h l:Int) (h0:0≤h) (h1:h < 16) (l0:0≤l) (l1:l < 16):bits BinOp.or IntKind.i64 (h * 16) l % 256=16 * h+l:=by
 have:=or_fin ⟨h.toNat,by omega⟩ ⟨l.toNat,by omega⟩
 simpa[Int.toNat_of_nonneg h0,Int.toNat_of_nonneg l0] using this
def hexS4 (l:List UInt8):Option (UInt8 × Nat):=
 if l.length < 4 then none else
  if hexIx (l.getD 2 0) < 0∨hexIx (l.getD 3 0) < 0 then none else
   if plainB (16 * hexIx (l.getD 2 0)+hexIx (l.getD 3 0))∨16 * hexIx (l.getD 2 0)+hexIx (l.getD 3 0)=10 then none
   else some (UInt8.ofNat (16 * hexIx (l.getD 2 0)+hexIx (l.getD 3 0)).toNat,4)
def signV (a:Addr):Option (UInt8 × Nat)→Value
 | some (c,n)=>.tuple #[.int .u8 (c.toNat:Int),.int .i64 (n:Int),.nilIface]
 | none=>.tuple #[.int .u8 0,.int .i64 0,.iface 295 (.pointer (some a))]
set_option maxHeartbeats 1000000 in
theorem firstHex_c (s:ByteArray) (a:Addr) (w:World) (hs:s.size≤1073741824) (herr:w.cell? ⟨7,0,none⟩=some (.iface 295 (.pointer (some a)))) :
  Calls Tryz.prog 218 #[.string s] w fun e w'=>e=.returned (signV a (hexS4 s.data.toList))∧∃ k,w'=w.drewN k:=by
 have hlen:s.data.toList.length=s.size:=by simp
 by_cases h4:s.size < 4
 ·have Hf:=hid (show hexS4 s.data.toList=none by unfold hexS4;rw[if_pos (by omega)])
  clear hlen
  go_enter Tryz.func218,Tryz.ntmps218
  go_wp2
  go_quiet (fail)
  go_wp2
  go_ret3
  rw[Hf.out]
  exact⟨rfl,_,rfl⟩
 have h2:2 < s.size:=by omega
 have h3:3 < s.size:=by omega
 have g2:s.data.toList.getD 2 0=s[2]:=by rw[List.getD_eq_getElem?_getD,List.getElem?_eq_getElem (by omega)];rfl
 have g3:s.data.toList.getD 3 0=s[3]:=by rw[List.getD_eq_getElem?_getD,List.getElem?_eq_getElem (by omega)];rfl
 have hH:=hexIx_in s[2]
 have hL:=hexIx_in s[3]
 by_cases hneg:hexIx s[2] < 0
 ·have Hf:=hid (show hexS4 s.data.toList=none by unfold hexS4;rw[if_neg (by omega),g2,if_pos (.inl hneg)])
  clear hlen g2 g3
  go_enter Tryz.func218,Tryz.ntmps218
  go_wp2_with fail
  refine (idx_c s[2] _ rfl _).mono ?_
  rintro e w1 ⟨rfl,rfl⟩
  go_wp2_with fail
  refine (idx_c s[3] _ rfl _).mono ?_
  rintro e w1 ⟨rfl,rfl⟩
  go_wp2
  go_quiet (fail)
  go_wp2
  go_ret3
  rw[Hf.out]
  exact⟨rfl,_,rfl⟩
 by_cases hneg2:hexIx s[3] < 0
 ·have Hf:=hid (show hexS4 s.data.toList=none by unfold hexS4;rw[if_neg (by omega),g3,if_pos (.inr hneg2)])
  clear hlen g2 g3
  go_enter Tryz.func218,Tryz.ntmps218
  go_wp2_with fail
  refine (idx_c s[2] _ rfl _).mono ?_
  rintro e w1 ⟨rfl,rfl⟩
  go_wp2_with fail
  refine (idx_c s[3] _ rfl _).mono ?_
  rintro e w1 ⟨rfl,rfl⟩
  go_wp2
  go_quiet (fail)
  go_wp2
  go_ret3
  rw[Hf.out]
  exact⟨rfl,_,rfl⟩
 have hor:=hex_or (hexIx s[2]) (hexIx s[3]) (by omega) (by omega) (by omega) (by omega)
 obtain⟨v,hv⟩:∃ v:Int,(16:Int) * hexIx s[2]+hexIx s[3]=v:=⟨_,rfl⟩
 have hv0:0≤v∧v < 256:=by omega
 have Hx:Hid (hexS4 s.data.toList=if plainB v∨v=10 then none else some (UInt8.ofNat v.toNat,4)):=hid (by
  unfold hexS4
  rw[if_neg (by omega),g2,g3,if_neg (by omega),hv])
 rw[hv] at hor
 have Hor:=hid hor
 clear hlen g2 g3 hv hor
 go_enter Tryz.func218,Tryz.ntmps218
 go_wp2_with fail
 refine (idx_c s[2] _ rfl _).mono ?_
 rintro e w1 ⟨rfl,rfl⟩
 go_wp2_with fail
 refine (idx_c s[3] _ rfl _).mono ?_
 rintro e w1 ⟨rfl,rfl⟩
 go_wp2_with fail
 rw[Hor.out]
 refine (isPlain_any _ _).mono ?_
 rintro e w1 ⟨rfl,rfl⟩
 by_cases hp:plainB v=true
 ·have Hf:=hid (show hexS4 s.data.toList=none by rw[Hx.out,if_pos (.inl hp)])
  go_wp2
  go_quiet (fail)
  go_wp2
  go_ret3
  rw[Hf.out]
  exact⟨rfl,_,rfl⟩
 have hp':plainB v=false:=by simpa using hp
 by_cases h10:v=10
 ·have Hf:=hid (show hexS4 s.data.toList=none by rw[Hx.out,if_pos (.inr h10)])
  have h10':(v == 10)=true:=by simp[h10]
  clear h10 hp
  go_wp2
  go_quiet (fail)
  go_wp2
  go_ret3
  rw[Hf.out]
  exact⟨rfl,_,rfl⟩
 have h10':(v == 10)=false:=by simp[h10]
 have Hf:=hid (show hexS4 s.data.toList=some (UInt8.ofNat v.toNat,4) by rw[Hx.out,if_neg (by rintro (h | h);exact hp h;exact h10 h)])
 clear hp h10
 go_wp2
 go_ret3
 rw[Hf.out]
 refine⟨?_,0,rfl⟩
 have hb:((UInt8.ofNat v.toNat).toNat:Int)=v:=by simp;omega
 simp only[signV,hb]
 rfl
def escS (l:List UInt8):Option (UInt8 × Nat):=
 if l.length < 2 then none else
  if l.getD 1 0=110 then some (10,2) else if l.getD 1 0=34 then some (34,2) else if l.getD 1 0=92 then some (92,2)
  else if l.getD 1 0=120 then hexS4 l else none
set_option maxHeartbeats 2000000 in
theorem firstEscape_c (s:ByteArray) (a:Addr) (w:World) (hs:s.size≤1073741824) (herr:w.cell? ⟨7,0,none⟩=some (.iface 295 (.pointer (some a)))) :
  Calls Tryz.prog 207 #[.string s] w fun e w'=>e=.returned (signV a (escS s.data.toList))∧∃ k,w'=w.drewN k:=by
 have hlen:s.data.toList.length=s.size:=by simp
 by_cases h2:s.size < 2
 ·have Hf:=hid (show escS s.data.toList=none by unfold escS;rw[if_pos (by omega)])
  clear hlen
  go_enter Tryz.func207,Tryz.ntmps207
  go_wp2
  go_quiet (fail)
  go_wp2
  go_ret3
  rw[Hf.out]
  exact⟨rfl,_,rfl⟩
 have h1:1 < s.size:=by omega
 have g1:s.data.toList.getD 1 0=s[1]:=by rw[List.getD_eq_getElem?_getD,List.getElem?_eq_getElem (by omega)];rfl
 have Hx:Hid (escS s.data.toList=if s[1]=110 then some (10,2) else if s[1]=34 then some (34,2) else if s[1]=92 then some (92,2) else if s[1]=120 then hexS4 s.data.toList else none):=hid (by
  unfold escS
  rw[if_neg (by omega),g1])
 have ne:∀ d:UInt8,s[1]≠d→((s[1].toNat:Int) == (d.toNat:Int))=false:=by
  intro d hd
  rw[beq_eq_false_iff_ne]
  intro e
  exact hd (UInt8.toNat_inj.1 (by omega))
 have NE:=hid ne
 clear hlen g1 ne
 by_cases c1:s[1]=110
 ·have Hf:=hid (show escS s.data.toList=some (10,2) by rw[Hx.out,if_pos c1])
  have e1:((s[1].toNat:Int) == 110)=true:=by rw[c1];rfl
  clear c1
  go_enter Tryz.func207,Tryz.ntmps207
  go_wp2
  go_ret3
  rw[Hf.out]
  exact⟨rfl,0,rfl⟩
 have e1:((s[1].toNat:Int) == 110)=false:=NE.out 110 c1
 by_cases c2:s[1]=34
 ·have Hf:=hid (show escS s.data.toList=some (34,2) by rw[Hx.out,if_neg c1,if_pos c2])
  have e2:((s[1].toNat:Int) == 34)=true:=by rw[c2];rfl
  have e3:(s[1].toNat:Int)=34:=by rw[c2];rfl
  have E3:=hid e3
  clear c1 c2 e3
  go_enter Tryz.func207,Tryz.ntmps207
  go_wp2
  go_ret3
  rw[Hf.out]
  refine⟨?_,0,rfl⟩
  show Ending.returned (.tuple #[.int .u8 (s[1].toNat:Int),.int .i64 2,.nilIface])=_
  rw[E3.out]
  rfl
 have e2:((s[1].toNat:Int) == 34)=false:=NE.out 34 c2
 by_cases c3:s[1]=92
 ·have Hf:=hid (show escS s.data.toList=some (92,2) by rw[Hx.out,if_neg c1,if_neg c2,if_pos c3])
  have e3:((s[1].toNat:Int) == 92)=true:=by rw[c3];rfl
  have e4:(s[1].toNat:Int)=92:=by rw[c3];rfl
  have E4:=hid e4
  clear c1 c2 c3 e4
  go_enter Tryz.func207,Tryz.ntmps207
  go_wp2
  go_ret3
  rw[Hf.out]
  refine⟨?_,0,rfl⟩
  show Ending.returned (.tuple #[.int .u8 (s[1].toNat:Int),.int .i64 2,.nilIface])=_
  rw[E4.out]
  rfl
 have e3:((s[1].toNat:Int) == 92)=false:=NE.out 92 c3
 by_cases c4:s[1]=120
 ·have Hf:=hid (show escS s.data.toList=hexS4 s.data.toList by rw[Hx.out,if_neg c1,if_neg c2,if_neg c3,if_pos c4])
  have e4:((s[1].toNat:Int) == 120)=true:=by rw[c4];rfl
  clear c1 c2 c3 c4
  have hc:=firstHex_c s a w hs herr
  obtain⟨r,hr⟩:∃ r,hexS4 s.data.toList=r:=⟨_,rfl⟩
  rw[hr] at hc
  have Hr:=hid hr
  have Hc:=hid hc
  clear hr hc
  cases r with
  | none=>
   go_enter Tryz.func207,Tryz.ntmps207
   go_wp2_with fail
   refine Hc.out.mono ?_
   rintro e w1 ⟨rfl,k,rfl⟩
   simp only[signV]
   go_wp2
   go_ret3
   rw[Hf.out,Hr.out]
   exact⟨rfl,_,rfl⟩
  | some x=>
   go_enter Tryz.func207,Tryz.ntmps207
   go_wp2_with fail
   refine Hc.out.mono ?_
   rintro e w1 ⟨rfl,k,rfl⟩
   simp only[signV]
   go_wp2
   go_ret3
   rw[Hf.out,Hr.out]
   exact⟨rfl,_,rfl⟩
 have e4:((s[1].toNat:Int) == 120)=false:=NE.out 120 c4
 have Hf:=hid (show escS s.data.toList=none by rw[Hx.out,if_neg c1,if_neg c2,if_neg c3,if_neg c4])
 clear c1 c2 c3 c4
 go_enter Tryz.func207,Tryz.ntmps207
 go_wp2
 go_quiet (fail)
 go_wp2
 go_ret3
 rw[Hf.out]
 exact⟨rfl,_,rfl⟩
end Go.Proofs.YtdgbajnhhhjbcaaGreatDoor
namespace Go.Proofs.YtdgbajnhhhjbcaaGreatDoor
open Lib(hid)
open Go.RowKit
def firstS (l:List UInt8):Option (UInt8 × Nat):=
 if l.getD 0 0=92 then escS l else if l.getD 0 0=34∨¬ plainB ((l.getD 0 0).toNat:Int)=true then none else some (l.getD 0 0,1)
set_option maxHeartbeats 2000000 in
theorem firstSign_c (s:ByteArray) (a:Addr) (w:World) (hpos:0 < s.size) (hs:s.size≤1073741824) (herr:w.cell? ⟨7,0,none⟩=some (.iface 295 (.pointer (some a)))) :
  Calls Tryz.prog 196 #[.string s] w fun e w'=>e=.returned (signV a (firstS s.data.toList))∧∃ k,w'=w.drewN k:=by
 have hlen:s.data.toList.length=s.size:=by simp
 have g0:s.data.toList.getD 0 0=s[0]:=by rw[List.getD_eq_getElem?_getD,List.getElem?_eq_getElem (by omega)];rfl
 have Hx:Hid (firstS s.data.toList=if s[0]=92 then escS s.data.toList else if s[0]=34∨¬ plainB (s[0].toNat:Int)=true then none else some (s[0],1)):=hid (by
  unfold firstS
  rw[g0])
 have ne:∀ d:UInt8,s[0]≠d→((s[0].toNat:Int) == (d.toNat:Int))=false:=by
  intro d hd
  rw[beq_eq_false_iff_ne]
  intro e
  exact hd (UInt8.toNat_inj.1 (by omega))
 have NE:=hid ne
 clear hlen g0 ne
 by_cases c1:s[0]=92
 ·have Hf:=hid (show firstS s.data.toList=escS s.data.toList by rw[Hx.out,if_pos c1])
  have e1:((s[0].toNat:Int) == 92)=true:=by rw[c1];rfl
  clear c1
  have hc:=firstEscape_c s a w hs herr
  obtain⟨r,hr⟩:∃ r,escS s.data.toList=r:=⟨_,rfl⟩
  rw[hr] at hc
  have Hr:=hid hr
  have Hc:=hid hc
  clear hr hc
  cases r with
  | none=>
   go_enter Tryz.func196,Tryz.ntmps196
   go_wp2_with fail
   refine Hc.out.mono ?_
   rintro e w1 ⟨rfl,k,rfl⟩
   simp only[signV]
   go_wp2
   go_ret3
   rw[Hf.out,Hr.out]
   exact⟨rfl,_,rfl⟩
  | some x=>
   go_enter Tryz.func196,Tryz.ntmps196
   go_wp2_with fail
   refine Hc.out.mono ?_
   rintro e w1 ⟨rfl,k,rfl⟩
   simp only[signV]
   go_wp2
   go_ret3
   rw[Hf.out,Hr.out]
   exact⟨rfl,_,rfl⟩
 have e1:((s[0].toNat:Int) == 92)=false:=NE.out 92 c1
 by_cases c2:s[0]=34
 ·have Hf:=hid (show firstS s.data.toList=none by rw[Hx.out,if_neg c1,if_pos (.inl c2)])
  have e2:((s[0].toNat:Int) == 34)=true:=by rw[c2];rfl
  clear c1 c2
  go_enter Tryz.func196,Tryz.ntmps196
  go_wp2
  go_quiet (fail)
  go_wp2
  go_ret3
  rw[Hf.out]
  exact⟨rfl,_,rfl⟩
 have e2:((s[0].toNat:Int) == 34)=false:=NE.out 34 c2
 by_cases hp:plainB (s[0].toNat:Int)=true
 ·have Hf:=hid (show firstS s.data.toList=some (s[0],1) by rw[Hx.out,if_neg c1,if_neg (by rintro (h | h);exact c2 h;exact h hp)])
  clear c1 c2
  go_enter Tryz.func196,Tryz.ntmps196
  go_wp2_with fail
  refine (isPlain_any _ _).mono ?_
  rintro e w1 ⟨rfl,rfl⟩
  go_wp2
  go_ret3
  rw[Hf.out]
  exact⟨rfl,0,rfl⟩
 ·have Hf:=hid (show firstS s.data.toList=none by rw[Hx.out,if_neg c1,if_pos (.inr hp)])
  have hp':plainB (s[0].toNat:Int)=false:=by simpa using hp
  clear c1 c2 hp
  go_enter Tryz.func196,Tryz.ntmps196
  go_wp2_with fail
  refine (isPlain_any _ _).mono ?_
  rintro e w1 ⟨rfl,rfl⟩
  go_wp2
  go_quiet (fail)
  go_wp2
  go_ret3
  rw[Hf.out]
  exact⟨rfl,_,rfl⟩
def betw (l:List UInt8):Option (List UInt8):=
 if Lib.hasPrefix l [34]=true∧Lib.hasSuffix (Lib.trimPrefix l [34]) [34]=true then some (Lib.trimSuffix (Lib.trimPrefix l [34]) [34]) else none
def betwV (a:Addr):Option (List UInt8)→Value
 | some l=>.tuple #[.string ⟨l.toArray⟩,.nilIface]
 | none=>.tuple #[.string ⟨#[]⟩,.iface 295 (.pointer (some a))]
set_option maxHeartbeats 1000000 in
theorem between_c (s:ByteArray) (a:Addr) (w:World) (hs:s.size≤1073741824) (herr:w.cell? ⟨7,0,none⟩=some (.iface 295 (.pointer (some a)))) :
  Calls Tryz.prog 172 #[.string s] w fun e w'=>e=.returned (betwV a (betw s.data.toList))∧∃ k,w'=w.drewN k:=by
 obtain⟨l1,h1⟩:∃ l1,Lib.trimPrefix s.data.toList [34]=l1:=⟨_,rfl⟩
 obtain⟨l2,h2⟩:∃ l2,Lib.trimSuffix l1 [34]=l2:=⟨_,rfl⟩
 obtain⟨p,hp⟩:∃ p,Lib.hasPrefix s.data.toList [34]=p:=⟨_,rfl⟩
 obtain⟨q,hq⟩:∃ q,Lib.hasSuffix l1 [34]=q:=⟨_,rfl⟩
 have hl1:l1.length≤s.size:=by
  have:=Lib.trimPrefix_le s.data.toList [34]
  have hlen:s.data.toList.length=s.size:=by simp
  rw[h1] at this
  omega
 have Hc1:Hid (Calls Tryz.prog 174 #[.string s,.string ⟨#[34]⟩] w fun e w'=>e=.returned (.tuple #[.string ⟨l1.toArray⟩,.bool p])∧w=w'):=hid (by
  refine (Tryz.strings_CutPrefix s ⟨#[34]⟩ w).mono ?_
  rintro e w' ⟨rfl,rfl⟩
  refine⟨?_,rfl⟩
  rw[show (⟨#[34]⟩:ByteArray).data.toList=[34] from rfl,h1,hp])
 have Hc2:Hid (Calls Tryz.prog 194 #[.string ⟨l1.toArray⟩,.string ⟨#[34]⟩] w fun e w'=>e=.returned (.tuple #[.string ⟨l2.toArray⟩,.bool q])∧w=w'):=hid (by
  refine (Tryz.strings_CutSuffix ⟨l1.toArray⟩ ⟨#[34]⟩ w (by show l1.toArray.size≤_;simp;omega)).mono ?_
  rintro e w' ⟨rfl,rfl⟩
  refine⟨?_,rfl⟩
  rw[show (⟨#[34]⟩:ByteArray).data.toList=[34] from rfl,show (⟨l1.toArray⟩:ByteArray).data.toList=l1 from rfl,h2,hq])
 have Hb:Hid (betw s.data.toList=if p=true∧q=true then some l2 else none):=hid (by
  unfold betw
  rw[h1,h2,hp,hq])
 clear h1 h2 hp hq hl1
 go_enter Tryz.func172,Tryz.ntmps172
 go_wp2_with fail
 refine Hc1.out.mono ?_
 rintro e w1 ⟨rfl,rfl⟩
 go_wp2_with fail
 refine Hc2.out.mono ?_
 rintro e w1 ⟨rfl,rfl⟩
 cases p with
 | false=>
  go_wp2
  go_quiet (fail)
  go_wp2
  go_ret2
  rw[Hb.out]
  exact⟨rfl,_,rfl⟩
 | true=>
  cases q with
  | false=>
   go_wp2
   go_quiet (fail)
   go_wp2
   go_ret2
   rw[Hb.out]
   exact⟨rfl,_,rfl⟩
  | true=>
   go_wp2
   go_ret2
   rw[Hb.out]
   exact⟨rfl,0,rfl⟩
end Go.Proofs.YtdgbajnhhhjbcaaGreatDoor
namespace Go.Proofs.YtdgbajnhhhjbcaaGreatDoor
open Lib(hid)
open Go.RowKit Go.Shelf
attribute [local go_sem] Oper.semAt_some
theorem firstS_len (l:List UInt8) (c:UInt8) (n:Nat) (hne:l≠[]) (h:firstS l=some (c,n)):1≤n∧n≤l.length:=by
 have hl:1≤l.length:=by cases l with | nil=>exact absurd rfl hne | cons=>simp
 unfold firstS at h
 split at h
 ·unfold escS at h
  split at h
  ·cases h
  ·split at h
   ·cases h;omega
   ·split at h
    ·cases h;omega
    ·split at h
     ·cases h;omega
     ·split at h
      ·unfold hexS4 at h
       split at h
       ·cases h
       ·split at h
        ·cases h
        ·split at h
         ·cases h
         ·cases h;omega
      ·cases h
 ·split at h
  ·cases h
  ·cases h;omega
def seqS:Nat→List UInt8→List (UInt8 × Bool)
 | 0,_=>[]
 | f+1,l=>if l=[] then [] else match firstS l with
  | none=>[(0,true)]
  | some (c,n)=>(c,false)::seqS f (l.drop n)
theorem seqS_nil (f:Nat):seqS f []=[]:=by cases f <;> rfl
theorem seqS_none (f:Nat) (l:List UInt8) (hne:l≠[]) (h:firstS l=none):seqS (f+1) l=[(0,true)]:=by
 rw[seqS,if_neg hne,h]
theorem seqS_some (f:Nat) (l:List UInt8) (c:UInt8) (n:Nat) (hne:l≠[]) (h:firstS l=some (c,n)):seqS (f+1) l=(c,false)::seqS f (l.drop n):=by
 rw[seqS,if_neg hne,h]
def encS (a:Addr) (x:UInt8 × Bool):Array Value:=#[.int .u8 (x.1.toNat:Int),if x.2 then .iface 295 (.pointer (some a)) else .nilIface]
def ErrAt (a:Addr) (W:World):Prop:=W.cell? ⟨7,0,none⟩=some (.iface 295 (.pointer (some a)))
def Keeps2 (Bn:Nat) (s:ByteArray) (a:Addr) (W W':World):Prop:=KeepsBox Bn s W W'∧(ErrAt a W→ErrAt a W')
theorem firstSign_at (s:ByteArray) (k:Nat) (a:Addr) (w:World) (hk:k < s.size) (hs:s.size≤1073741824) (r:Option (UInt8 × Nat)) (hr:firstS (s.data.toList.drop k)=r) (herr:ErrAt a w) :
  Calls Tryz.prog 196 #[.string (s.extract k s.size)] w fun e w'=>e=.returned (signV a r)∧∃ q,w'=w.drewN q:=by
 have hd:(s.extract k s.size).data.toList=s.data.toList.drop k:=by
  rw[Lib.extract_data,List.take_of_length_le (by simp)]
 have hsz:(s.extract k s.size).size=s.size - k:=by rw[ByteArray.size_extract];omega
 have:=firstSign_c (s.extract k s.size) a w (by omega) (by omega) herr
 rw[hd,hr] at this
 exact this
theorem grown_draws (W:World) (q:Nat):W.grownBy (W.drewN q) none:=⟨rfl,rfl,rfl,Nat.le_refl _,fun _ _ _=>rfl⟩
set_option maxHeartbeats 1000000 in
theorem eachSign_in (n:Nat) (s:ByteArray) (w:World) :
  CallsIn Fence.wide n Tryz.prog 173 #[.string s] w fun e w'=>e=.returned (.func (.func 195) #[] #[.pointer (some ⟨w.heap.size,0,none⟩)])∧w'=w.alloc (.cells #[.string s] 9):=by
 refine callsIn_of_wp Tryz.func173 rfl trivial ?_ rfl
 simp only[Tryz.ntmps173,List.size_toArray,List.length_cons,List.length_nil,Nat.reduceAdd,Nat.reduceSub,Array.replicate_succ,Array.replicate_zero,List.push_toArray,List.append_toArray,List.nil_append,List.cons_append]
 gi_wp2
 go_ret
 exact⟨rfl,rfl⟩
set_option maxRecDepth 100000 in
set_option maxHeartbeats 2000000 in
theorem eachSign1_in (n:Nat) (hn:1≤n) (l Bn:Nat) (s:ByteArray) (hs:s.size≤1073741824) (a:Addr) (J Jx:List (UInt8 × Bool)→World→Prop) (W:World)
  (hJd:∀ pre W q,J pre W→J pre (W.drewN q))
  (hY:∀ pre x W,J pre W→pre.length < s.size→YieldAt Fence.wide (n - 1) Tryz.prog l (encS a x) W fun e W'=>
   (e=.returned (.bool true)∧J (pre++[x]) W'∧Keeps2 Bn s a W W')∨(e=.returned (.bool false)∧Jx (pre++[x]) W'))
  (hBn:BoxAt Bn s W) (herr:ErrAt a W) (h0:J [] W) :
  CallsIn Fence.wide n Tryz.prog 195 #[.func (.yield l) #[] #[],.pointer (some ⟨Bn,0,none⟩)] W fun e W'=>(∃ v,e=.returned v) ∧
   ((∃ ys,ys=seqS s.size s.data.toList∧J ys W')∨(∃ pre,pre <+: seqS s.size s.data.toList∧Jx pre W')):=by
 have hb:=hBn.cell
 have hlen:s.data.toList.length=s.size:=by simp
 refine callsIn_of_wp Tryz.func195 rfl trivial ?_ rfl
 simp only[Tryz.ntmps195,List.size_toArray,List.length_cons,List.length_nil,Nat.reduceAdd,Nat.reduceSub,Array.replicate_succ,Array.replicate_zero,List.push_toArray,List.append_toArray,List.nil_append,List.cons_append]
 gi_wp2
 gi_loopw [3] (fun i wr=>∃ (k f:Nat) (pre:List (UInt8 × Bool)),k≤s.size∧i=.int .i64 k∧BoxAt Bn s wr∧ErrAt a wr∧J pre wr∧pre.length≤k∧s.size≤k+f∧pre++seqS f (s.data.toList.drop k)=seqS s.size s.data.toList)
  (fun i wr=>s.size - (intOf i).toNat)
 case atStart=>
  exact⟨0,s.size,[],Nat.zero_le _,rfl,hBn,herr,h0,by simp,by omega,by simp⟩
 case round=>
  obtain⟨k,f,pre,hk,rfl,hbx,her,hJ,hpl,hkf,hsq⟩:=hrel
  have hbc:=hbx.cell
  by_cases hlt:k < s.size
  ·obtain⟨f,rfl⟩:∃ f',f=f'+1:=⟨f - 1,by omega⟩
   have hne:s.data.toList.drop k≠[]:=by
    intro h
    have:=congrArg List.length h
    simp at this
    omega
   have Hsq:=hid hsq
   clear hsq
   obtain⟨r,hr⟩:∃ r,firstS (s.data.toList.drop k)=r:=⟨_,rfl⟩
   have Hr:=hid hr
   clear hr hlen
   cases r with
   | none=>
    have Hq:=hid (seqS_none f _ hne Hr.out)
    clear hne
    gi_wp2_with fail
    refine⟨trivial,(callsIn_wide.2 (firstSign_at s k a wr hlt hs none Hr.out her)).mono ?_⟩
    rintro e w1 ⟨rfl,q,rfl⟩
    simp only[signV]
    obtain⟨fn,tmps,assign,body,hy,hR⟩:=hY pre (0,true) (wr.drewN q) (hJd _ _ _ hJ) (by omega)
    simp only[encS,if_true,show ((0:UInt8).toNat:Int)=0 from rfl] at hy
    gi_wp2
    refine hR.mono ?_
    rintro e W3 (⟨rfl,hJ3,hk3⟩ | ⟨rfl,hJx3⟩)
    ·gi_wp2
     refine bodyPost_ret (results_none rfl _ _ _) rfl ?_
     exact⟨⟨_,rfl⟩,.inl ⟨_,(by rw[← Hsq.out,Hq.out]),hJ3⟩⟩
    ·gi_wp2
     refine bodyPost_ret (results_none rfl _ _ _) rfl ?_
     exact⟨⟨_,rfl⟩,.inr ⟨_,(by rw[← Hsq.out,Hq.out];exact List.prefix_refl _),hJx3⟩⟩
   | some x=>
    obtain⟨c,m⟩:=x
    have hm:=firstS_len _ c m hne Hr.out
    rw[List.length_drop] at hm
    have hlen2:s.data.toList.length=s.size:=by simp
    have hm1:1≤m:=hm.1
    have hm2:k+m≤s.size:=by omega
    have Hq:=hid (seqS_some f _ c m hne Hr.out)
    clear hne hlen2 hm
    gi_wp2_with fail
    refine⟨trivial,(callsIn_wide.2 (firstSign_at s k a wr hlt hs (some (c,m)) Hr.out her)).mono ?_⟩
    rintro e w1 ⟨rfl,q,rfl⟩
    simp only[signV]
    obtain⟨fn,tmps,assign,body,hy,hR⟩:=hY pre (c,false) (wr.drewN q) (hJd _ _ _ hJ) (by omega)
    simp only[encS,Bool.false_eq_true,if_false] at hy
    gi_wp2
    refine hR.mono ?_
    rintro e W3 (⟨rfl,hJ3,hk3⟩ | ⟨rfl,hJx3⟩)
    ·gi_wp2
     go_roundw
     case rel=>exact⟨k+m,f,pre++[(c,false)],hm2,by go_num,hk3.1 hbx,hk3.2 her,hJ3,by simp;omega,by omega,by rw[← Hsq.out,Hq.out,List.drop_drop];simp⟩
     case measure=>simp[intOf];omega
    ·gi_wp2
     refine bodyPost_ret (results_none rfl _ _ _) rfl ?_
     exact⟨⟨_,rfl⟩,.inr ⟨_,(by rw[← Hsq.out,Hq.out];exact⟨_,by simp;rfl⟩),hJx3⟩⟩
  ·obtain rfl:k=s.size:=by omega
   gi_wp2
   go_end0
   rw[List.drop_of_length_le (by omega),seqS_nil,List.append_nil] at hsq
   exact⟨⟨_,rfl⟩,.inl ⟨_,hsq,hJ⟩⟩
theorem eachSign_stops (n:Nat) (hn:1≤n) (Bn:Nat) (s:ByteArray) (hs:s.size≤1073741824) (a:Addr) (w:World) (hlt:Bn < w.heap.size) (hBn:BoxAt Bn s w) (hz:7 < w.heap.size) (herr:ErrAt a w) :
  SeqStopsK Fence.wide n Tryz.prog 195 #[.pointer (some ⟨Bn,0,none⟩)] (encS a) (Keeps2 Bn s a) (fun ys=>ys=seqS s.size s.data.toList) (fun pre=>pre <+: seqS s.size s.data.toList) s.size w:=fun l J Jx W hW hJ _ hY h0=>
 eachSign1_in n hn l Bn s hs a J Jx W (fun pre W q h=>hJ pre W _ none h (grown_draws W q) (fun _ e=>by cases e)) hY ((hW.block Bn hlt).trans hBn) ((hW.cell (p:=⟨7,0,none⟩) hz).trans herr) h0
end Go.Proofs.YtdgbajnhhhjbcaaGreatDoor
namespace Go.Proofs
open Go.Shelf
def Tryz.laysC174_ren:Go.Shelf.Ren:=⟨fun | 129=>221 | 171=>243 | 174=>232 | 205=>242 | 243=>244 | 245=>234 | 246=>200 | 247=>233 | 279=>236 | 280=>237 | 281=>238 | 282=>239 | 283=>209 | 284=>210 | 285=>211 | 286=>212 | 287=>235 | 316=>143 | 317=>220 | 318=>222 | 319=>223 | 320=>224 | 321=>240 | 322=>241 | 337=>227 | 338=>228 | n=>n,fun | 0=>0 | 2=>2 | 3=>3 | 4=>4 | 5=>5 | 9=>9 | 20=>20 | 21=>21 | 37=>57 | 46=>234 | 51=>258 | 53=>240 | 75=>75 | 80=>61 | 85=>209 | 127=>103 | 143=>295 | 145=>297 | 167=>286 | 168=>288 | 171=>266 | 173=>269 | 175=>241 | 210=>293 | 212=>275 | 213=>276 | 232=>280 | 233=>281 | n=>n,fun | 15=>12 | 16=>13 | 17=>9 | 18=>10 | 19=>11 | n=>n⟩
theorem Tryz.laysC174:Go.Proofs.LaysC.n174 Tryz.prog Tryz.laysC174_ren:={
 mixed:=by kernel_rfl
 f129:=Tryz.func221.trans (congrArg some (by kernel_rfl))
 f171:=Tryz.func243.trans (congrArg some (by kernel_rfl))
 f174:=Tryz.func232.trans (congrArg some (by kernel_rfl))
 f205:=Tryz.func242.trans (congrArg some (by kernel_rfl))
 f243:=Tryz.func244.trans (congrArg some (by kernel_rfl))
 f245:=Tryz.func234.trans (congrArg some (by kernel_rfl))
 f246:=Tryz.func200.trans (congrArg some (by kernel_rfl))
 f247:=Tryz.func233.trans (congrArg some (by kernel_rfl))
 f279:=Tryz.func236.trans (congrArg some (by kernel_rfl))
 f280:=Tryz.func237.trans (congrArg some (by kernel_rfl))
 f281:=Tryz.func238.trans (congrArg some (by kernel_rfl))
 f282:=Tryz.func239.trans (congrArg some (by kernel_rfl))
 f283:=Tryz.func209.trans (congrArg some (by kernel_rfl))
 f284:=Tryz.func210.trans (congrArg some (by kernel_rfl))
 f285:=Tryz.func211.trans (congrArg some (by kernel_rfl))
 f286:=Tryz.func212.trans (congrArg some (by kernel_rfl))
 f287:=Tryz.func235.trans (congrArg some (by kernel_rfl))
 f316:=Tryz.func143.trans (congrArg some (by kernel_rfl))
 f317:=Tryz.func220.trans (congrArg some (by kernel_rfl))
 f318:=Tryz.func222.trans (congrArg some (by kernel_rfl))
 f319:=Tryz.func223.trans (congrArg some (by kernel_rfl))
 f320:=Tryz.func224.trans (congrArg some (by kernel_rfl))
 f321:=Tryz.func240.trans (congrArg some (by kernel_rfl))
 f322:=Tryz.func241.trans (congrArg some (by kernel_rfl))
 f337:=Tryz.func227.trans (congrArg some (by kernel_rfl))
 f338:=Tryz.func228.trans (congrArg some (by kernel_rfl))
 t0:=Tryz.underlying0
 a0:=Tryz.isAgg0
 z0:=Tryz.sizeOf0
 v0:=Tryz.zeroValue0
 t2:=Tryz.underlying2
 a2:=Tryz.isAgg2
 z2:=Tryz.sizeOf2
 v2:=Tryz.zeroValue2
 t3:=Tryz.underlying3
 a3:=Tryz.isAgg3
 z3:=Tryz.sizeOf3
 v3:=Tryz.zeroValue3
 t4:=Tryz.underlying4
 a4:=Tryz.isAgg4
 z4:=Tryz.sizeOf4
 v4:=Tryz.zeroValue4
 t5:=Tryz.underlying5
 a5:=Tryz.isAgg5
 z5:=Tryz.sizeOf5
 v5:=Tryz.zeroValue5
 t9:=Tryz.underlying9
 a9:=Tryz.isAgg9
 z9:=Tryz.sizeOf9
 v9:=Tryz.zeroValue9
 t20:=Tryz.underlying20
 a20:=Tryz.isAgg20
 z20:=Tryz.sizeOf20
 v20:=Tryz.zeroValue20
 t21:=Tryz.underlying21
 a21:=Tryz.isAgg21
 z21:=Tryz.sizeOf21
 v21:=Tryz.zeroValue21
 t37:=Tryz.underlying57
 a37:=Tryz.isAgg57
 z37:=Tryz.sizeOf57
 v37:=Tryz.zeroValue57
 t46:=Tryz.underlying234
 a46:=Tryz.isAgg234
 z46:=Tryz.sizeOf234
 v46:=Tryz.zeroValue234
 t51:=Tryz.underlying258
 a51:=Tryz.isAgg258
 z51:=Tryz.sizeOf258
 v51:=Tryz.zeroValue258
 t53:=Tryz.underlying240
 a53:=Tryz.isAgg240
 z53:=Tryz.sizeOf240
 v53:=Tryz.zeroValue240
 t75:=Tryz.underlying75
 a75:=Tryz.isAgg75
 z75:=Tryz.sizeOf75
 v75:=Tryz.zeroValue75
 t85:=Tryz.underlying209
 a85:=Tryz.isAgg209
 z85:=Tryz.sizeOf209
 v85:=Tryz.zeroValue209
 t127:=Tryz.underlying103
 a127:=Tryz.isAgg103
 z127:=Tryz.sizeOf103
 v127:=Tryz.zeroValue103
 t143:=Tryz.underlying295
 a143:=Tryz.isAgg295
 z143:=Tryz.sizeOf295
 v143:=Tryz.zeroValue295
 t145:=Tryz.underlying297
 a145:=Tryz.isAgg297
 z145:=Tryz.sizeOf297
 v145:=Tryz.zeroValue297
 t167:=Tryz.underlying286
 a167:=Tryz.isAgg286
 z167:=Tryz.sizeOf286
 v167:=Tryz.zeroValue286
 t168:=Tryz.underlying288
 a168:=Tryz.isAgg288
 z168:=Tryz.sizeOf288
 v168:=Tryz.zeroValue288
 t171:=Tryz.underlying266
 a171:=Tryz.isAgg266
 z171:=Tryz.sizeOf266
 v171:=Tryz.zeroValue266
 t173:=Tryz.underlying269
 a173:=Tryz.isAgg269
 z173:=Tryz.sizeOf269
 v173:=Tryz.zeroValue269
 t175:=Tryz.underlying241
 a175:=Tryz.isAgg241
 z175:=Tryz.sizeOf241
 v175:=Tryz.zeroValue241
 t210:=Tryz.underlying293
 a210:=Tryz.isAgg293
 z210:=Tryz.sizeOf293
 v210:=Tryz.zeroValue293
 t212:=Tryz.underlying275
 a212:=Tryz.isAgg275
 z212:=Tryz.sizeOf275
 v212:=Tryz.zeroValue275
 t213:=Tryz.underlying276
 a213:=Tryz.isAgg276
 z213:=Tryz.sizeOf276
 t232:=Tryz.underlying280
 a232:=Tryz.isAgg280
 z232:=Tryz.sizeOf280
 v232:=Tryz.zeroValue280
 t233:=Tryz.underlying281
 a233:=Tryz.isAgg281
 z233:=Tryz.sizeOf281
 v233:=Tryz.zeroValue281
 g15:=by kernel_rfl
 g16:=by kernel_rfl
 g17:=by kernel_rfl
 g18:=by kernel_rfl
 g19:=by kernel_rfl
 t80:=Tryz.underlying61
 a80:=Tryz.isAgg61
 z80:=Tryz.sizeOf61
 v80:=Tryz.zeroValue61
 i0:=by kernel_rfl
 i2:=by kernel_rfl
 i3:=by kernel_rfl
 i4:=by kernel_rfl
 i5:=by kernel_rfl
 i9:=by kernel_rfl
 i20:=by kernel_rfl
 i21:=by kernel_rfl
 i37:=by kernel_rfl
 i46:=by kernel_rfl
 i51:=by kernel_rfl
 i53:=by kernel_rfl
 i75:=by kernel_rfl
 i80:=by kernel_rfl
 i85:=by kernel_rfl
 i127:=by kernel_rfl
 i143:=by kernel_rfl
 i145:=by kernel_rfl
 i167:=by kernel_rfl
 i168:=by kernel_rfl
 i171:=by kernel_rfl
 i173:=by kernel_rfl
 i175:=by kernel_rfl
 i210:=by kernel_rfl
 i212:=by kernel_rfl
 i232:=by kernel_rfl
 i233:=by kernel_rfl
 m15:=by kernel_rfl
 m16:=by kernel_rfl
 m17:=by kernel_rfl
 m18:=by kernel_rfl
 m19:=by kernel_rfl
 c0:=by kernel_rfl
 c2:=by kernel_rfl
 c3:=by kernel_rfl
 c4:=by kernel_rfl
 c5:=by kernel_rfl
 c9:=by kernel_rfl
 c20:=by kernel_rfl
 c21:=by kernel_rfl
 c37:=by kernel_rfl
 c46:=by kernel_rfl
 c51:=by kernel_rfl
 c53:=by kernel_rfl
 c75:=by kernel_rfl
 c80:=by kernel_rfl
 c85:=by kernel_rfl
 c127:=by kernel_rfl
 c143:=by kernel_rfl
 c145:=by kernel_rfl
 c167:=by kernel_rfl
 c168:=by kernel_rfl
 c171:=by kernel_rfl
 c173:=by kernel_rfl
 c175:=by kernel_rfl
 c210:=by kernel_rfl
 c212:=by kernel_rfl
 c213:=by kernel_rfl
 c232:=by kernel_rfl
 c233:=by kernel_rfl }
open Go.RowKit in
theorem Tryz.strconv_ParseInt_10_at64_ok (s:ByteArray) (hmax:s.size≤9223372036854775806) (v:Int) (h:Lib.parseIntB 64 s.data.toList=.ok v) (w:World) :
  Calls Tryz.prog 232 #[.string s,.int .i64 10,.int .i64 64] w fun e w'=>e=.returned (.tuple #[.int .i64 v,.nilIface])∧(w'=w∨∃ t,w'=Lib.bytesWorld w 5 t):=Any.strconv_ParseInt_10_at64_ok Tryz.laysC174 s hmax v h w
open Go.RowKit in
theorem Tryz.strconv_ParseInt_10_at64_syntax (s:ByteArray) (hlim:s.size≤281474976710656) (h:∀ v,Lib.parseIntB 64 s.data.toList≠.ok v) (h2:Lib.parseIntB 64 s.data.toList≠.range) (ev:Value) (w:World) (hv:w.cell? ⟨12,0,none⟩=some ev) (hev:ev=.nilIface∨∃ te pe,ev=.iface te pe) :
  Calls Tryz.prog 232 #[.string s,.int .i64 10,.int .i64 64] w fun e w'=>∃ N,e=.returned (.tuple #[.int .i64 (0),.iface 288 (.pointer (some ⟨N,0,none⟩))])∧w.heap.size≤N∧w'.heap[N]?=some (.cells #[.string ⟨#[80,97,114,115,101,73,110,116]⟩,.string s,ev] 293 (0,0))∧Below w.heap.size w w':=by
 cases hp:Lib.parseIntB 64 s.data.toList with
 | ok v=>exact absurd hp (h v)
 | range=>exact absurd hp h2
 | _=>exact Any.strconv_ParseInt_10_at64_syntax Tryz.laysC174 s hlim hp ev w hv hev
open Go.RowKit in
theorem Tryz.strconv_ParseInt_10_at64_range (s:ByteArray) (hlim:s.size≤281474976710656) (h:Lib.parseIntB 64 s.data.toList=.range) (ev:Value) (w:World) (hv:w.cell? ⟨13,0,none⟩=some ev) (hev:ev=.nilIface∨∃ te pe,ev=.iface te pe) :
  Calls Tryz.prog 232 #[.string s,.int .i64 10,.int .i64 64] w fun e w'=>∃ N,e=.returned (.tuple #[.int .i64 (Lib.intSat 64 s.data.toList),.iface 288 (.pointer (some ⟨N,0,none⟩))])∧w.heap.size≤N∧w'.heap[N]?=some (.cells #[.string ⟨#[80,97,114,115,101,73,110,116]⟩,.string s,ev] 293 (0,0))∧Below w.heap.size w w':=Any.strconv_ParseInt_10_at64_range Tryz.laysC174 s hlim h ev w hv hev
end Go.Proofs
