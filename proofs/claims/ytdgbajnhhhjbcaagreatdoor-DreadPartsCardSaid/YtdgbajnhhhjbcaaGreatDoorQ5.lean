/- Is@012, Mag@012, Tok0@012, Numc@012, Ttext@012, Tdig@012 -/
import Derived.BigQuiet
import Derived.Deep.QuietTactic
import Derived.LaidEql
import Derived.Lib.AppendIntMem
import Derived.Lib.ItoaMem
import Derived.RowKitTokens
import Derived.WalkSmall
import Derived.Test.YtdgbajnhhhjbcaaGreatDoorQ3
import Derived.Test.YtdgbajnhhhjbcaaGreatDoorQ4
set_option linter.unusedSimpArgs false
namespace Go.Proofs.YtdgbajnhhhjbcaaGreatDoor
open Lib(hid)
open Go.RowKit Go.Extern Go.Extern.Rtype
theorem isTypeOf (v:Value) (w:World):(Extern.ReflectliteType.typeOf #[.iface 295 v]).run Tryz.prog w=.ok (.iface 154 (.agg #[.pointer (some ⟨14,295,none⟩)])) w:=by kernel_rfl
theorem isComparable (w : World) : ((Extern.ReflectliteType.method fun t => do noPackHeld "Comparable" t; pure (.bool (← typeInfo t).comparable)) #[.agg #[.pointer (some ⟨14, 295, none⟩)]]).run Tryz.prog w = .ok (.bool true) w := by kernel_rfl
theorem isCalled (w:World):(callFunc 273 #[.agg #[.pointer (some ⟨14,295,none⟩)]]).run Tryz.prog w=.ok (Next.value (.bool true)) w:=by
 have h91 := @run_callFunc_extern Tryz.prog 273 _ (Extern.ReflectliteType.method fun t => do noPackHeld "Comparable" t; pure (.bool (← typeInfo t).comparable)) Tryz.func273 (by kernel_rfl) (by kernel_rfl) (by kernel_rfl) (by kernel_rfl)
 rw[h91,isComparable]
 rfl
theorem isMethodComparable (v : Value) (w : World) : (Go.method 424 154 v "Comparable").run Tryz.prog w = .ok (273, v) w := by kernel_rfl
theorem isComp:(Tryz.prog.info? 295).map (·.comparable)=some true:=by kernel_rfl
theorem isSize:(Tryz.prog.info? 297).map (·.size)=some 1:=by kernel_rfl
theorem is_nil (b:Addr) (w:World) :
  Calls Tryz.prog 31 #[.nilIface,.iface 295 (.pointer (some b))] w fun e w'=>e=.returned (.bool false)∧w=w':=by
 have hn:=run_eql_iface_nil_left (P:=Tryz.prog) w 295 (.pointer (some b)) Tryz.underlying75
 go_enter Tryz.func31,Tryz.ntmps31
 go_wp2
 go_ret
 exact⟨rfl,rfl⟩
set_option maxRecDepth 100000 in
theorem is_same (a:Addr) (w:World) :
  Calls Tryz.prog 31 #[.iface 295 (.pointer (some a)),.iface 295 (.pointer (some a))] w fun e w'=>e=.returned (.bool true)∧w=w':=by
 obtain⟨i,hi,hcmp⟩:=Option.map_eq_some_iff.1 isComp
 obtain⟨j,hj,hjs⟩:=Option.map_eq_some_iff.1 isSize
 have h39:=@run_callFunc_extern Tryz.prog 54 _ Extern.ReflectliteType.typeOf Tryz.func54 (by kernel_rfl) (by kernel_rfl) (by kernel_rfl) (by kernel_rfl)
 have tT:=isTypeOf
 have cT:=isCalled
 have mR:=isMethodComparable
 have heq:=run_eql_iface_ptr_same (P:=Tryz.prog) w a Tryz.underlying75 Tryz.underlying295 hi hcmp hj
 go_enter Tryz.func31,Tryz.ntmps31
 go_wp2
 refine wp_loop_rounds 1 ?_
 rw[rounds_succ]
 go_wp2
 go_ret
 exact⟨rfl,rfl⟩
structure Env (a:Addr) (w:World):Prop where
 err:w.cell? ⟨7,0,none⟩=some (.iface 295 (.pointer (some a)))
 size:8≤w.heap.size
theorem Env.belowB {a:Addr} {w w':World} {B:Nat} (hB:8≤B) (h:Env a w) (hb:Below B w w'):Env a w':=
 ⟨(hb.cell (p:=⟨7,0,none⟩) (by show 7 < _;omega)).trans h.err,Nat.le_trans h.size hb.size⟩
theorem Env.below {a:Addr} {w w':World} (h:Env a w) (hb:Below w.heap.size w w'):Env a w':=h.belowB h.size hb
theorem chain2 {w w1 w2:World} (b1:Below w.heap.size w w1) (b2:Below w1.heap.size w1 w2):Below w.heap.size w w2:=
 b1.trans (b2.mono b1.size)
def mag (g:Nat):Nat→List UInt8→Option Nat
 | sz,[]=>some sz
 | sz,c::l=>if 48≤c.toNat∧c.toNat≤57 then (if (g - (c.toNat - 48)) / 10 < sz then none else mag g (sz * 10+(c.toNat - 48)) l) else none
def magL (g:Nat) (l:List UInt8):Option Nat:=if l=[]∨(l.head?=some 48∧l≠[48]) then none else mag g 0 l
def magV (a:Addr):Option Nat→Value
 | some m=>.tuple #[.int .u64 (m:Int),.nilIface]
 | none=>.tuple #[.int .u64 0,.iface 295 (.pointer (some a))]
theorem mag_bad (g sz:Nat) (c:UInt8) (l:List UInt8) (h:¬ (48≤c.toNat∧c.toNat≤57)):mag g sz (c::l)=none:=by
 rw[mag,if_neg h]
theorem mag_big (g sz:Nat) (c:UInt8) (l:List UInt8) (h:48≤c.toNat∧c.toNat≤57) (h2:(g - (c.toNat - 48)) / 10 < sz):mag g sz (c::l)=none:=by
 rw[mag,if_pos h,if_pos h2]
theorem mag_go (g sz:Nat) (c:UInt8) (l:List UInt8) (h:48≤c.toNat∧c.toNat≤57) (h2:¬ (g - (c.toNat - 48)) / 10 < sz):mag g sz (c::l)=mag g (sz * 10+(c.toNat - 48)) l:=by
 rw[mag,if_pos h,if_neg h2]
theorem digB_iff {r:Int}:digB r=true ↔ (48≤r∧r≤57):=by unfold digB;simp
set_option maxHeartbeats 1000000 in
theorem magnitude_none (s:ByteArray) (g:Nat) (a:Addr) (w:World) (hs:s.size≤maxLen) (E:Env a w) (h:s.toList=[]∨(s.toList.head?=some 48∧s.toList≠[48])) :
  Calls Tryz.prog 175 #[.string s,.int .u64 (g:Int)] w fun e w'=>e=.returned (magV a none)∧Below w.heap.size w w':=by
 unfold maxLen at hs
 have herr:=E.err
 clear E
 rcases h with h | ⟨h,h2⟩
 ·have e0:s.toList.isEmpty=true:=by simp[h]
  clear h
  go_enter Tryz.func175,Tryz.ntmps175
  go_wp2
  go_quiet (fail)
  go_wp2
  go_ret2
  exact⟨rfl,below_drewN (Below.refl _ _) _⟩
 ·have e0:s.toList.isEmpty=false:=by cases hh:s.toList with | nil=>rw[hh] at h;cases h | cons=>rfl
  have e1:(s.toList == [48])=false:=by simp[h2]
  have hpos:0 < s.size:=by
   rw[Lib.toList_data] at h
   cases hh:s.data.toList with
   | nil=>rw[hh] at h;cases h
   | cons x l=>
    have:s.data.toList.length=s.size:=by simp
    rw[hh] at this;simp at this;omega
  have e2:(((s[0]'hpos).toNat:Int) == 48)=true:=by
   have hd:=drop_cons s 0 hpos
   simp only[List.drop_zero] at hd
   rw[Lib.toList_data,hd] at h
   simp at h
   rw[h];rfl
  clear h h2
  go_enter Tryz.func175,Tryz.ntmps175
  go_wp2
  go_quiet (fail)
  go_wp2
  go_ret2
  exact⟨rfl,below_drewN (Below.refl _ _) _⟩
theorem int_u64 {a b:Int} (h:a=b):Value.int .u64 a=Value.int .u64 b:=by rw[h]
theorem iter_cell (w:World) (s:ByteArray) (pos:Nat) {v:Value} (h:w.cell? ⟨7,0,none⟩=some v) (hz:7 < w.heap.size):(w.iter s pos).cell? ⟨7,0,none⟩=some v:=
 (((Below.refl _ w).alloc (Nat.le_refl _) _).cell (p:=⟨7,0,none⟩) hz).trans h
set_option maxHeartbeats 2000000 in
theorem magnitude_go (s:ByteArray) (g:Nat) (hg9:9≤g) (hg:g≤9223372036854775808) (a:Addr) (w:World) (hs:s.size≤maxLen) (E:Env a w) (h:s.toList≠[]∧(s.toList.head?=some 48→s.toList=[48])) :
  Calls Tryz.prog 175 #[.string s,.int .u64 (g:Int)] w fun e w'=>e=.returned (magV a (mag g 0 s.data.toList))∧Below w.heap.size w w':=by
 unfold maxLen at hs
 have hz:7 < w.heap.size:=by have:=E.size;omega
 have hcell:=fun pos=>iter_cell w s pos E.err hz
 obtain⟨h,h2⟩:=h
 have e0:s.toList.isEmpty=false:=by simp[h]
 have hpos:0 < s.size:=by
  rw[Lib.toList_data] at h
  have hl:s.data.toList.length=s.size:=by simp
  cases hh:s.data.toList with
  | nil=>exact absurd hh h
  | cons x l=>rw[hh] at hl;simp at hl;omega
 have e12:(s.toList == [48])=true∨(((s[0]'hpos).toNat:Int) == 48)=false:=by
  by_cases hc:s.toList=[48]
  ·left;simp[hc]
  ·right
   rw[beq_eq_false_iff_ne]
   intro e
   apply hc
   apply h2
   have hd:=drop_cons s 0 hpos
   simp only[List.drop_zero] at hd
   rw[Lib.toList_data,hd]
   simp only[List.head?_cons]
   have:s[0].toNat=48:=by omega
   exact congrArg some (UInt8.toNat_inj.1 this)
 have e3:((((s[0]'hpos).toNat:Int) == 48)=true∧(s.toList == [48])=true)∨(((s[0]'hpos).toNat:Int) == 48)=false:=by
  rcases e12 with e | e
  ·cases h0:(((s[0]'hpos).toNat:Int) == 48)
   ·exact .inr rfl
   ·exact .inl ⟨rfl,e⟩
  ·exact .inr e
 clear h h2 E e12
 have hl0:s.data.toList.drop 0=s.data.toList:=List.drop_zero
 rcases e3 with ⟨e2,e1⟩ | e2
 all_goals
  go_enter Tryz.func175,Tryz.ntmps175
  go_wp2
  go_loopw [6] (fun sz wr=>∃ pos m:Nat,pos≤s.size∧wr=w.iter s pos∧sz=.int .u64 (m:Int)∧m≤g∧mag g m (s.data.toList.drop pos)=mag g 0 s.data.toList) (fun _ wr=>s.size - wr.iterPos w.heap.size)
  case atStart=>exact⟨0,0,Nat.zero_le _,rfl,rfl,Nat.zero_le _,by rw[hl0]⟩
  case round=>
   obtain⟨pos,m,hp,rfl,rfl,hm,hok⟩:=hrel
   have Hok:=hid hok
   clear hok
   have hcl:=hcell (pos+1)
   by_cases hlt:pos < s.size
   ·have Hc:=hid (drop_cons s pos hlt)
    by_cases hD:digB ((s[pos]'hlt).toNat:Int)=true
    ·have hd:=digB_iff.1 hD
     have ha:(s[pos]'hlt).toNat < 128:=by omega
     have hnx:=fun ty=>run_next_ascii (P:=Tryz.prog) w s pos ty hlt ha
     by_cases hbig:(g - ((s[pos]'hlt).toNat - 48)) / 10 < m
     ·have Hf:=hid (mag_big g m (s[pos]'hlt) (s.data.toList.drop (pos+1)) ⟨by omega,by omega⟩ hbig)
      have hbig':((g:Int) - (((s[pos]'hlt).toNat:Int) - 48)) / 10 < (m:Int):=by omega
      clear hbig
      go_wp2_with (first | (go_at_call 134;refine (isDigit_any _ _).mono ?_;rintro e w' ⟨rfl,rfl⟩))
      go_quiet (fail)
      go_wp2
      go_ret2
      exact⟨by rw[← Hok.out,Hc.out,Hf.out];rfl,below_drewN ((Below.refl _ _).alloc (Nat.le_refl _) _) _⟩
     ·have Hf:=hid (mag_go g m (s[pos]'hlt) (s.data.toList.drop (pos+1)) ⟨by omega,by omega⟩ hbig)
      have hbig':¬ ((g:Int) - (((s[pos]'hlt).toNat:Int) - 48)) / 10 < (m:Int):=by omega
      have hb2:(m:Int) * 10+(((s[pos]'hlt).toNat:Int) - 48)≤(g:Int):=by omega
      have hb3:m * 10+((s[pos]'hlt).toNat - 48)≤g:=by omega
      have hb4:(m:Int) * 10≤(g:Int):=by omega
      clear hbig
      go_wp2_with (first | (go_at_call 134;refine (isDigit_any _ _).mono ?_;rintro e w' ⟨rfl,rfl⟩))
      go_roundw
      case rel=>exact⟨pos+1,m * 10+((s[pos]'hlt).toNat - 48),hlt,rfl,int_u64 (by omega),hb3,by rw[← Hok.out,Hc.out,Hf.out]⟩
      case measure=>simp;omega
    ·have hD':digB ((s[pos]'hlt).toNat:Int)=false:=by simpa using hD
     have hnd:¬ (48≤(s[pos]'hlt).toNat∧(s[pos]'hlt).toNat≤57):=fun hh=>hD (digB_iff.2 ⟨by omega,by omega⟩)
     have Hf:=hid (mag_bad g m (s[pos]'hlt) (s.data.toList.drop (pos+1)) hnd)
     clear hD hnd
     by_cases ha:(s[pos]'hlt).toNat < 128
     ·have hnx:=fun ty=>run_next_ascii (P:=Tryz.prog) w s pos ty hlt ha
      go_wp2_with (first | (go_at_call 134;refine (isDigit_any _ _).mono ?_;rintro e w' ⟨rfl,rfl⟩))
      go_quiet (fail)
      go_wp2
      go_ret2
      exact⟨by rw[← Hok.out,Hc.out,Hf.out];rfl,below_drewN ((Below.refl _ _).alloc (Nat.le_refl _) _) _⟩
     ·have hnx:=fun ty=>run_next_any (P:=Tryz.prog) w s pos ty hlt
      have hh:=(decode_high s pos hlt (by omega)).1
      have hD2:digB ((Utf8.decode s pos).1:Int)=false:=digB_high (by omega)
      have hcl2:=hcell (pos+(Utf8.decode s pos).2)
      go_wp2_with (first | (go_at_call 134;refine (isDigit_any _ _).mono ?_;rintro e w' ⟨rfl,rfl⟩))
      go_quiet (fail)
      go_wp2
      go_ret2
      exact⟨by rw[← Hok.out,Hc.out,Hf.out];rfl,below_drewN ((Below.refl _ _).alloc (Nat.le_refl _) _) _⟩
   ·have hnx:=fun ty=>run_next_end (P:=Tryz.prog) w s pos ty hlt
    obtain rfl:pos=s.size:=by omega
    go_wp2
    go_ret2
    exact⟨by rw[← Hok.out,List.drop_of_length_le (by simp)];rfl,(Below.refl _ _).alloc (Nat.le_refl _) _⟩
theorem magnitude_c (s:ByteArray) (g:Nat) (hg9:9≤g) (hg:g≤9223372036854775808) (z:Int) (hz:z=(g:Int)) (a:Addr) (w:World) (hs:s.size≤maxLen) (E:Env a w) :
  Calls Tryz.prog 175 #[.string s,.int .u64 z] w fun e w'=>e=.returned (magV a (magL g s.data.toList))∧Below w.heap.size w w':=by
 subst hz
 have hl:s.toList=s.data.toList:=Lib.toList_data s
 unfold magL
 by_cases h:s.data.toList=[]∨(s.data.toList.head?=some 48∧s.data.toList≠[48])
 ·rw[if_pos h]
  exact magnitude_none s g a w hs E (by rw[hl];exact h)
 ·rw[if_neg h]
  refine magnitude_go s g hg9 hg a w hs E ?_
  rw[hl]
  refine⟨fun h0=>h (.inl h0),fun h1=>?_⟩
  by_cases h2:s.data.toList=[48]
  ·exact h2
  ·exact absurd (.inr ⟨h1,h2⟩) h
structure TokI where
 kind:Int
 s:ByteArray
 line:Int
theorem num_c (n : Int) (h0 : -9223372036854775808 ≤ n) (h1 : n ≤ 9223372036854775807) (w : World) (htab0 : Lib.TabIs Tryz.prog w "internal/strconv.uint64pow10" .u64 Lib.pow10Tab) :
  Calls Tryz.prog 150 #[.int .i64 n] w fun e w'=>e=.returned (.string ⟨(Lib.itoa n).toArray⟩)∧Below w.heap.size w w':=by
 have htab:=hid htab0
 clear htab0
 go_enter Tryz.func150,Tryz.ntmps150
 go_wp2_with fail
 refine (Tryz.strconv_FormatInt_10 n h0 h1 _ htab.out).mono ?_
 rintro e w' ⟨rfl,k,os,rfl⟩
 go_wp2
 go_ret
 exact⟨rfl,Lib.below_grow _ _ (Nat.le_refl _) _ _⟩
def sgnT (op:Int):UInt8:=if op=5 then 43 else if op=6 then 45 else 42
def showT:Nat→Tm→List UInt8
 | 0,_=>[]
 | h+1,t=>
  if t.op=1 then t.s.data.toList
  else if t.op=2 then Lib.itoa t.n
  else if t.op=3 then quoteL t.s.data.toList
  else if t.op=4 then [95]
  else match t.l with
   | [a,b]=>[40]++showT h a++[32]++[sgnT t.op]++[32]++showT h b++[41]
   | _=>[]
def joinL (sep:List UInt8):List (List UInt8)→List UInt8
 | []=>[]
 | [x]=>x
 | x::y::r=>x++sep++joinL sep (y::r)
def showA (a:Am):List UInt8:=a.rel.data.toList++[40]++joinL [44,32] (a.l.map (showT 20))++[41]
def wordL (op:Int):List UInt8:=
 if op=3 then [61] else if op=4 then [33,61] else if op=5 then [60] else if op=6 then [60,61]
 else if op=7 then [99,111,117,110,116] else if op=8 then [115,117,109] else if op=9 then [109,105,110] else [109,97,120]
def showL (l:Lt):List UInt8:=
 if l.op=1 then showA l.a
 else if l.op=2 then [33]++showA l.a
 else if l.op≤6 then showT 20 l.x++[32]++wordL l.op++[32]++showT 20 l.y
 else showT 20 l.x++[32,61,32]++wordL l.op++(if l.op=7 then [] else [32]++showT 20 l.y)++[32,58,32,123,32]++showA l.a++[32,125]
def showR (r:Ru):List UInt8:=showA r.head++(if r.body=[] then [] else [32,58,45,32]++joinL [44,32] (r.body.map showL))++[46]
def typeL (n:Int):List UInt8:=if n=1 then [110,117,109,98,101,114] else [115,121,109,98,111,108]
def colL (x:ByteArray × Int):List UInt8:=x.1.data.toList++[58,32]++typeL x.2
def showD (d:De):List UInt8:=
 [46,100,101,99,108,32]++d.rel.data.toList++[40]++joinL [44,32] ((d.names.zip d.types).map colL)++[41,10] ++
 (if d.inn=true then [46,105,110,112,117,116,32]++d.rel.data.toList++[10] else [])++(if d.out=true then [46,111,117,116,112,117,116,32]++d.rel.data.toList++[10] else [])
def showP (p:Pg):List UInt8:=p.decls.flatMap showD++p.rules.flatMap fun r=>showR r++[10]
theorem dec_one (u:Nat) (h:u < 10):Lib.decDigits u=[UInt8.ofNat (48+u)]:=by
 rw[Lib.decDigits]
 simp[h]
theorem dec_more (u:Nat) (h:¬ u < 10):Lib.decDigits u=Lib.decDigits (u / 10)++[UInt8.ofNat (48+u % 10)]:=by
 conv=>lhs;rw[Lib.decDigits]
 simp[h]
end Go.Proofs.YtdgbajnhhhjbcaaGreatDoor
