/- Sign@012, Bytes@012, Quote@012 -/
import Derived.LoopIn
import Derived.LoopNIn
import Derived.OwnWalkIn
import Derived.RangeFuncBound
import Derived.RangeFuncCalls
import Derived.RangeFuncLeaves
import Derived.RangeFuncNested
import Derived.Shelf.Abstract
import Derived.Shelf.RegionOpen
import Derived.TacticsInMore
import Derived.Test.YtdgbajnhhhjbcaaGreatDoorQ1
import Derived.Test.YtdgbajnhhhjbcaaGreatDoorQ2
set_option linter.unusedSimpArgs false
namespace Go.Proofs.YtdgbajnhhhjbcaaGreatDoor
open Lib(hid)
open Go.RowKit
def Bd (B b:Nat) (l:List UInt8) (w:World):Prop:=Lib.IsBuilderF 59 5 B b (Lib.byteCells l) w
structure Kp (B b:Nat) (w w':World):Prop where
 below:Below B w w'
 others:Lib.OthersKept 5 (some b) w w'
theorem Kp.refl (B b:Nat) (w:World):Kp B b w w:=⟨Below.refl _ _,Lib.OthersKept.refl _ _ _⟩
theorem Kp.trans {B b:Nat} {a c d:World} (h:Kp B b a c) (k:Kp B b c d):Kp B b a d:=⟨h.below.trans k.below,h.others.trans k.others⟩
theorem Kp.size {B b:Nat} {a c:World} (h:Kp B b a c) (hB:B≤a.heap.size):B≤c.heap.size:=Nat.le_trans hB h.below.size
theorem byteCells_snoc (l:List UInt8) (c:UInt8):Lib.byteCells (l++[c])=Lib.byteCells l++[.int .u8 (c.toNat:Int)]:=by
 simp[Lib.byteCells]
theorem writeByte_c (B b:Nat) (l:List UInt8) (c:UInt8) (n:Int) (hn:n=(c.toNat:Int)) (w:World) (h:Bd B b l w) (hl:l.length+1≤140737488355328) (hB:B≤w.heap.size) :
  Calls Tryz.prog 42 #[.pointer (some ⟨b,0,none⟩),.int .u8 n] w fun e w'=>e=.returned .nilIface∧Bd B b (l++[c]) w'∧Kp B b w w':=by
 subst hn
 refine (Tryz.Builder_WriteByte_k B b (Lib.byteCells l) c.toNat w h (by rw[Lib.byteCells_length];exact hl) hB).mono ?_
 rintro e w' ⟨rfl,h1,h2,h3⟩
 refine⟨rfl,?_,h2,h3⟩
 unfold Bd
 rw[byteCells_snoc]
 exact .inr h1
theorem writeString_c (B b:Nat) (l:List UInt8) (s:ByteArray) (w:World) (h:Bd B b l w) (hl:l.length+s.size≤140737488355328) (hB:B≤w.heap.size) :
  Calls Tryz.prog 72 #[.pointer (some ⟨b,0,none⟩),.string s] w fun e w'=>e=.returned (.tuple #[.int .i64 s.size,.nilIface])∧Bd B b (l++s.data.toList) w'∧Kp B b w w':=by
 refine (Tryz.Builder_WriteString_k B b (Lib.byteCells l) s w h (by rw[Lib.byteCells_length];exact hl) hB).mono ?_
 rintro e w' ⟨rfl,h1,h2,h3⟩
 refine⟨rfl,?_,h2,h3⟩
 unfold Bd
 rw[Lib.byteCells_append]
 exact .inr h1
def plainB (n:Int):Bool:=decide (32≤n∧n≤126)
theorem isPlain_any (r:Int) (w:World):Calls Tryz.prog 203 #[.int .u8 r] w fun e w'=>e=.returned (.bool (plainB r))∧w=w':=by
 go_enter Tryz.func203,Tryz.ntmps203
 go_wp2
 all_goals go_ret
 all_goals exact⟨ret_bool (by unfold plainB;rw[Bool.eq_iff_iff];simp;omega),rfl⟩
def hexL:List UInt8:=[48,49,50,51,52,53,54,55,56,57,97,98,99,100,101,102]
def sign (c:UInt8):List UInt8:=
 if c=10 then [92,110] else if c=34∨c=92 then [92,c] else if plainB c.toNat then [c] else [92,120,hexL.getD (c.toNat / 16) 0,hexL.getD (c.toNat % 16) 0]
def hexS:ByteArray:=⟨#[48,49,50,51,52,53,54,55,56,57,97,98,99,100,101,102]⟩
theorem hex_fin:∀ k:Fin 16,(hexS[k.1]'(k.2:k.1 < 16))=hexL.getD k.1 0:=by decide
theorem hex_at (k:Nat) (hk:k < 16) (h:k < hexS.size):((hexS[k]'h).toNat:Int)=((hexL.getD k 0).toNat:Int):=by
 exact congrArg (fun x:UInt8=>(x.toNat:Int)) (hex_fin ⟨k,hk⟩)
set_option maxHeartbeats 400000 in
theorem writeSign_10 (B b:Nat) (l:List UInt8) (w:World) (h:Bd B b l w) (hl:l.length+4≤140737488355328) (hB:B≤w.heap.size) :
  Calls Tryz.prog 181 #[.pointer (some ⟨b,0,none⟩),.int .u8 10] w fun e w'=>e=.returned (.tuple #[])∧Bd B b (l++[92,110]) w'∧Kp B b w w':=by
 go_enter Tryz.func181,Tryz.ntmps181
 go_wp2_with fail
 refine (writeByte_c B b l 92 _ rfl _ h (by omega) hB).mono ?_
 rintro e w1 ⟨rfl,h1,k1⟩
 go_wp2_with fail
 refine (writeByte_c B b (l++[92]) 110 _ rfl _ h1 (by simp;omega) (k1.size hB)).mono ?_
 rintro e w2 ⟨rfl,h2,k2⟩
 go_wp2
 go_end0
 exact⟨rfl,by simpa using h2,k1.trans k2⟩
set_option maxHeartbeats 400000 in
theorem writeSign_34 (B b:Nat) (l:List UInt8) (w:World) (h:Bd B b l w) (hl:l.length+4≤140737488355328) (hB:B≤w.heap.size) :
  Calls Tryz.prog 181 #[.pointer (some ⟨b,0,none⟩),.int .u8 34] w fun e w'=>e=.returned (.tuple #[])∧Bd B b (l++[92,34]) w'∧Kp B b w w':=by
 go_enter Tryz.func181,Tryz.ntmps181
 go_wp2_with fail
 refine (writeByte_c B b l 92 _ rfl _ h (by omega) hB).mono ?_
 rintro e w1 ⟨rfl,h1,k1⟩
 go_wp2_with fail
 refine (writeByte_c B b (l++[92]) 34 _ rfl _ h1 (by simp;omega) (k1.size hB)).mono ?_
 rintro e w2 ⟨rfl,h2,k2⟩
 go_wp2
 go_end0
 exact⟨rfl,by simpa using h2,k1.trans k2⟩
set_option maxHeartbeats 400000 in
theorem writeSign_92 (B b:Nat) (l:List UInt8) (w:World) (h:Bd B b l w) (hl:l.length+4≤140737488355328) (hB:B≤w.heap.size) :
  Calls Tryz.prog 181 #[.pointer (some ⟨b,0,none⟩),.int .u8 92] w fun e w'=>e=.returned (.tuple #[])∧Bd B b (l++[92,92]) w'∧Kp B b w w':=by
 go_enter Tryz.func181,Tryz.ntmps181
 go_wp2_with fail
 refine (writeByte_c B b l 92 _ rfl _ h (by omega) hB).mono ?_
 rintro e w1 ⟨rfl,h1,k1⟩
 go_wp2_with fail
 refine (writeByte_c B b (l++[92]) 92 _ rfl _ h1 (by simp;omega) (k1.size hB)).mono ?_
 rintro e w2 ⟨rfl,h2,k2⟩
 go_wp2
 go_end0
 exact⟨rfl,by simpa using h2,k1.trans k2⟩
set_option maxHeartbeats 400000 in
theorem writeSign_plain (B b:Nat) (l:List UInt8) (c:UInt8) (w:World) (h:Bd B b l w) (hl:l.length+4≤140737488355328) (hB:B≤w.heap.size)
  (h10:((c.toNat:Int) == 10)=false) (h34:((c.toNat:Int) == 34)=false) (h92:((c.toNat:Int) == 92)=false) (hp:plainB (c.toNat:Int)=true) :
  Calls Tryz.prog 181 #[.pointer (some ⟨b,0,none⟩),.int .u8 (c.toNat:Int)] w fun e w'=>e=.returned (.tuple #[])∧Bd B b (l++[c]) w'∧Kp B b w w':=by
 go_enter Tryz.func181,Tryz.ntmps181
 go_wp2_with fail
 refine (isPlain_any _ _).mono ?_
 rintro e w0 ⟨rfl,rfl⟩
 go_wp2_with fail
 refine (writeByte_c B b l c _ rfl _ h (by omega) hB).mono ?_
 rintro e w1 ⟨rfl,h1,k1⟩
 go_wp2
 go_end0
 exact⟨rfl,h1,k1⟩
set_option maxHeartbeats 400000 in
theorem writeSign_hex (B b:Nat) (l:List UInt8) (c:UInt8) (w:World) (h:Bd B b l w) (hl:l.length+4≤140737488355328) (hB:B≤w.heap.size)
  (h10:((c.toNat:Int) == 10)=false) (h34:((c.toNat:Int) == 34)=false) (h92:((c.toNat:Int) == 92)=false) (hp:plainB (c.toNat:Int)=false) :
  Calls Tryz.prog 181 #[.pointer (some ⟨b,0,none⟩),.int .u8 (c.toNat:Int)] w fun e w'=>e=.returned (.tuple #[])∧Bd B b (l++[92,120,hexL.getD (c.toNat / 16) 0,hexL.getD (c.toNat % 16) 0]) w'∧Kp B b w w':=by
 have hc:=c.toNat_lt
 have q0:0≤(c.toNat:Int) / 16:=by omega
 have q1:(c.toNat:Int) / 16 < 16:=by omega
 have r0:0≤(c.toNat:Int) % 16:=by omega
 have r1:(c.toNat:Int) % 16 < 16:=by omega
 go_enter Tryz.func181,Tryz.ntmps181
 go_wp2_with fail
 refine (isPlain_any _ _).mono ?_
 rintro e w0 ⟨rfl,rfl⟩
 go_wp2_with fail
 refine (writeString_c B b l _ _ h (by show l.length+2≤_;omega) hB).mono ?_
 rintro e w1 ⟨rfl,h1,k1⟩
 go_wp2_with fail
 refine (writeByte_c B b (l++[92,120]) (hexL.getD (c.toNat / 16) 0) _ (hex_at _ (by omega) _) _ h1 (by simp;omega) (k1.size hB)).mono ?_
 rintro e w2 ⟨rfl,h2,k2⟩
 go_wp2_with fail
 refine (writeByte_c B b (l++[92,120]++[hexL.getD (c.toNat / 16) 0]) (hexL.getD (c.toNat % 16) 0) _ (hex_at _ (by omega) _) _ h2 (by simp;omega) ((k1.trans k2).size hB)).mono ?_
 rintro e w3 ⟨rfl,h3,k3⟩
 go_wp2
 go_end0
 exact⟨rfl,by simpa using h3,(k1.trans k2).trans k3⟩
theorem sign_len (c:UInt8):(sign c).length≤4:=by
 unfold sign
 split
 ·simp
 ·split
  ·simp
  ·split <;> simp
theorem writeSign_c (B b:Nat) (l:List UInt8) (c:UInt8) (w:World) (h:Bd B b l w) (hl:l.length+4≤140737488355328) (hB:B≤w.heap.size) :
  Calls Tryz.prog 181 #[.pointer (some ⟨b,0,none⟩),.int .u8 (c.toNat:Int)] w fun e w'=>e=.returned (.tuple #[])∧Bd B b (l++sign c) w'∧Kp B b w w':=by
 by_cases h10:c=10
 ·subst h10
  exact writeSign_10 B b l w h hl hB
 by_cases h34:c=34
 ·subst h34
  exact writeSign_34 B b l w h hl hB
 by_cases h92:c=92
 ·subst h92
  exact writeSign_92 B b l w h hl hB
 have ne:∀ d:UInt8,c≠d→((c.toNat:Int) == (d.toNat:Int))=false:=by
  intro d hd
  rw[beq_eq_false_iff_ne]
  intro e
  exact hd (UInt8.toNat_inj.1 (by omega))
 by_cases hp:plainB (c.toNat:Int)=true
 ·have e:sign c=[c]:=by simp[sign,h10,h34,h92,hp]
  rw[e]
  exact writeSign_plain B b l c w h hl hB (ne 10 h10) (ne 34 h34) (ne 92 h92) hp
 ·have e:sign c=[92,120,hexL.getD (c.toNat / 16) 0,hexL.getD (c.toNat % 16) 0]:=by simp[sign,h10,h34,h92,hp]
  rw[e]
  exact writeSign_hex B b l c w h hl hB (ne 10 h10) (ne 34 h34) (ne 92 h92) (by simpa using hp)
end Go.Proofs.YtdgbajnhhhjbcaaGreatDoor
namespace Go.Proofs.YtdgbajnhhhjbcaaGreatDoor
open Lib(hid)
open Go.RowKit Go.Shelf
attribute [local go_sem] Oper.semAt_some
def BoxAt (Bn:Nat) (s:ByteArray) (W:World):Prop:=W.heap[Bn]?=some (.cells #[.string s] 9 (0,0))
theorem BoxAt.cell {Bn:Nat} {s:ByteArray} {W:World} (h:BoxAt Bn s W):W.cell? ⟨Bn,0,none⟩=some (.string s):=by
 unfold BoxAt at h
 simp[World.cell?,h]
def KeepsBox (Bn:Nat) (s:ByteArray) (W W':World):Prop:=BoxAt Bn s W→BoxAt Bn s W'
theorem take_snoc (s:ByteArray) (k:Nat) (h:k < s.size):s.data.toList.take (k+1)=s.data.toList.take k++[s[k]]:=by
 rw[List.take_succ_eq_append_getElem (by simpa using h)];rfl
set_option maxHeartbeats 1000000 in
theorem eachByte_in (n:Nat) (s:ByteArray) (w:World) :
  CallsIn Fence.wide n Tryz.prog 180 #[.string s] w fun e w'=>e=.returned (.func (.func 202) #[] #[.pointer (some ⟨w.heap.size,0,none⟩)])∧w'=w.alloc (.cells #[.string s] 9):=by
 refine callsIn_of_wp Tryz.func180 rfl trivial ?_ rfl
 simp only[Tryz.ntmps180,List.size_toArray,List.length_cons,List.length_nil,Nat.reduceAdd,Nat.reduceSub,Array.replicate_succ,Array.replicate_zero,List.push_toArray,List.append_toArray,List.nil_append,List.cons_append]
 gi_wp2
 go_ret
 exact⟨rfl,rfl⟩
set_option maxRecDepth 100000 in
set_option maxHeartbeats 1000000 in
theorem eachByte1_in (n:Nat) (hn:1≤n) (l Bn:Nat) (s:ByteArray) (hs:s.size≤1073741824) (J Jx:List UInt8→World→Prop)
  (hY:∀ pre x W,J pre W→pre.length < s.size→YieldAt Fence.wide (n - 1) Tryz.prog l #[.int .u8 (x.toNat:Int)] W fun e W'=>
   (e=.returned (.bool true)∧J (pre++[x]) W'∧KeepsBox Bn s W W')∨(e=.returned (.bool false)∧Jx (pre++[x]) W'))
  (W:World) (hBn:BoxAt Bn s W) (h0:J [] W) :
  CallsIn Fence.wide n Tryz.prog 202 #[.func (.yield l) #[] #[],.pointer (some ⟨Bn,0,none⟩)] W fun e W'=>(∃ v,e=.returned v) ∧
   ((∃ ys,ys=s.data.toList∧J ys W')∨(∃ pre,pre <+: s.data.toList∧Jx pre W')):=by
 have hlen:s.data.toList.length=s.size:=by simp
 have hb:=hBn.cell
 refine callsIn_of_wp Tryz.func202 rfl trivial ?_ rfl
 simp only[Tryz.ntmps202,List.size_toArray,List.length_cons,List.length_nil,Nat.reduceAdd,Nat.reduceSub,Array.replicate_succ,Array.replicate_zero,List.push_toArray,List.append_toArray,List.nil_append,List.cons_append]
 gi_wp2
 gi_loopw [6] (fun i wr=>∃ k:Nat,k≤s.size∧i=.int .i64 k∧BoxAt Bn s wr∧J (s.data.toList.take k) wr)
  (fun i wr=>s.size - (intOf i).toNat)
 case atStart=>
  exact⟨0,Nat.zero_le _,rfl,hBn,by simpa using h0⟩
 case round=>
  obtain⟨k,hk,rfl,hbx,hJ⟩:=hrel
  have hbc:=hbx.cell
  by_cases hlt:k < s.size
  ·obtain⟨fn,tmps,assign,body,hy,hR⟩:=hY (s.data.toList.take k) (s[k]'hlt) wr hJ (by rw[List.length_take];omega)
   have Hts:=hid (take_snoc s k hlt)
   gi_wp2
   refine hR.mono ?_
   rintro e W3 (⟨rfl,hJ3,hk3⟩ | ⟨rfl,hJx3⟩)
   ·gi_wp2
    go_roundw
    case rel=>exact⟨k+1,hlt,by go_num,hk3 hbx,by rw[Hts.out];exact hJ3⟩
    case measure=>simp[intOf];omega
   ·gi_wp2
    refine bodyPost_ret (results_none rfl _ _ _) rfl ?_
    exact⟨⟨_,rfl⟩,.inr ⟨_,(by rw[← Hts.out];exact List.take_prefix _ _),hJx3⟩⟩
  ·obtain rfl:k=s.size:=by omega
   gi_wp2
   go_end0
   exact⟨⟨_,rfl⟩,.inl ⟨_,rfl,by rwa [List.take_of_length_le (by omega)] at hJ⟩⟩
theorem eachByte_stops (n:Nat) (hn:1≤n) (Bn:Nat) (s:ByteArray) (hs:s.size≤1073741824) (w:World) (hlt:Bn < w.heap.size) (hBn:BoxAt Bn s w) :
  SeqStopsK Fence.wide n Tryz.prog 202 #[.pointer (some ⟨Bn,0,none⟩)] (fun x:UInt8=>#[Value.int .u8 (x.toNat:Int)]) (KeepsBox Bn s) (fun ys=>ys=s.data.toList) (fun pre=>pre <+: s.data.toList) s.size w:=fun l J Jx W hW _ _ hY h0=>
 eachByte1_in n hn l Bn s hs J Jx hY W ((hW.block Bn hlt).trans hBn) h0
end Go.Proofs.YtdgbajnhhhjbcaaGreatDoor
namespace Go.Proofs.YtdgbajnhhhjbcaaGreatDoor
open Lib(hid)
open Go.RowKit Go.Shelf
attribute [local go_sem] Oper.semAt_some
theorem Bd.kept {B b:Nat} {l:List UInt8} {W W':World} {row:Option Nat} (h:Bd B b l W) (hg:W.grownBy W' row) (hr:∀ r,row=some r→∃ o:Obj,W.heap[r]?=some o∧o.isCells=false):Bd B b l W':=by
 have k:∀ p,Lib.BuilderAtF 59 5 B b p (Lib.byteCells l) W→Lib.BuilderAtF 59 5 B b p (Lib.byteCells l) W':=by
  rintro p ⟨hB,v,hb,hown,hne⟩
  refine⟨hB,v,(grownBy_keeps_cells hg hr hb rfl).trans hb,hown.kept hg ?_,hne⟩
  rcases hown.2 with ⟨rfl,_⟩ | ⟨g,cap,cur,fz,rfl,_,hgg,_⟩
  ·exact .inl rfl
  ·right
   intro e
   obtain⟨o,ho,hc⟩:=hr g e.symm
   rw[hgg] at ho
   cases ho
   cases hc
 exact h.elim (fun x=>.inl (k _ x)) (fun x=>.inr (k _ x))
theorem Kp.keepsOthers {B b:Nat} {l:List UInt8} {W W':World} (h:Bd B b l W) (k:Kp B b W W'):KeepsOthers W W':=by
 refine⟨k.below.size,fun i o hi ho=>k.others i o hi ?_ ?_⟩
 ·intro e
  obtain⟨v,hb⟩:∃ p v,W.heap[b]?=some (.cells #[p,v] 59 (0,0)):=by
   rcases h with ⟨_,v,hb,_⟩ | ⟨_,v,hb,_⟩ <;> exact⟨_,v,hb⟩
  obtain⟨v,hb⟩:=hb
  cases e
  rw[hb] at hi
  cases hi
  cases ho
 ·rintro c fz rfl
  cases ho
theorem Kp.keepsBox {B b Bn:Nat} {s:ByteArray} {W W':World} (hne:Bn≠b) (k:Kp B b W W'):KeepsBox Bn s W W':=by
 intro h
 refine k.others Bn _ h (fun e=>hne (Option.some.inj e)) ?_
 intro c fz e
 cases e
def quoteL (l:List UInt8):List UInt8:=34::(l.flatMap sign++[34])
theorem flat_len (l:List UInt8):(l.flatMap sign).length≤4 * l.length:=by
 induction l with
 | nil=>simp
 | cons c l ih=>have:=sign_len c;simp only[List.flatMap_cons,List.length_append,List.length_cons];omega
theorem grow_c (n:Int) (m:Nat) (hn:n=(m:Int)) (w:World) (hm:m≤281474976710656) :
  Calls Tryz.prog 179 #[.pointer (some ⟨w.heap.size,0,none⟩),.int .i64 n] (w.alloc (.cells #[.pointer none,.slice none 0 0] 59)) fun e w'=>
   e=.returned (.tuple #[])∧Bd w.heap.size w.heap.size [] w'∧Below w.heap.size w w'∧w.heap.size < w'.heap.size:=by
 subst hn
 refine (Tryz.Builder_Grow_fresh w.heap.size w.heap.size m _ (Nat.le_refl _) (World.alloc_heap_new w _) (by simp) hm).mono ?_
 rintro e w' ⟨rfl,h1,h2⟩
 refine⟨rfl,.inr (.of h1),((Below.refl _ w).alloc (Nat.le_refl _) _).trans h2,?_⟩
 have:=h2.size
 simp at this
 omega
theorem bstr_c (B b:Nat) (l:List UInt8) (w:World) (h:Bd B b l w) (hB:B≤w.heap.size) :
  Calls Tryz.prog 22 #[.pointer (some ⟨b,0,none⟩)] w fun e w'=>e=.returned (.string ⟨l.toArray⟩)∧Bd B b l w'∧Kp B b w w':=by
 refine (Tryz.Builder_String_any_k B b l w h hB).mono ?_
 rintro e w' ⟨rfl,h1,h2,h3⟩
 exact⟨rfl,h1,h2,h3⟩
set_option maxRecDepth 100000 in
set_option maxHeartbeats 2000000 in
theorem quote_in (s:ByteArray) (hs:s.size≤1073741824) (w:World) :
  CallsIn Fence.wide 6 Tryz.prog 151 #[.string s] w fun e W'=>e=.returned (.string ⟨(quoteL s.data.toList).toArray⟩)∧Below w.heap.size w W':=by
 refine callsIn_of_wp_marks Tryz.func151 rfl trivial ?_ rfl
 simp only[Tryz.ntmps151,List.size_toArray,List.length_cons,List.length_nil,Nat.reduceAdd,Nat.reduceSub,Array.replicate_succ,Array.replicate_zero,List.push_toArray,List.append_toArray,List.nil_append,List.cons_append]
 gi_wp2_with fail
 refine⟨trivial,(callsIn_wide.2 (grow_c _ (s.size+2) (by omega) w (by omega))).mono ?_⟩
 rintro e w1 ⟨rfl,b1,k1,z1⟩
 gi_wp2_with fail
 refine⟨trivial,(callsIn_wide.2 (writeByte_c _ _ [] 34 _ rfl _ b1 (by simp) (by omega))).mono ?_⟩
 rintro e w2 ⟨rfl,b2,k2⟩
 have z2:w.heap.size < w2.heap.size:=Nat.lt_of_lt_of_le z1 k2.below.size
 gi_wp2_with fail
 refine⟨trivial,(eachByte_in _ s w2).mono ?_⟩
 rintro e w3 ⟨rfl,rfl⟩
 gi_wp2_with fail
 have hbox:BoxAt w2.heap.size s (w2.alloc (.cells #[.string s] 9)):=World.alloc_heap_new w2 _
 have hB3:Below w.heap.size w (w2.alloc (.cells #[.string s] 9)):=(k1.trans k2.below).alloc (by omega) _
 have b3:Bd w.heap.size w.heap.size [34] (w2.alloc (.cells #[.string s] 9)):=b2.kept (World.grownBy_alloc w2 _ none) (fun r e=>by cases e)
 refine wpIn_rangeFunc_ownF rfl (by omega) (gf:=202) (lb:=#[.pointer (some ⟨w2.heap.size,0,none⟩)]) rfl trivial (enters_of Tryz.func202 (by kernel_rfl) rfl)
  (eachByte_stops 5 (by omega) w2.heap.size s hs (w2.alloc (.cells #[.string s] 9)) (by simp) hbox) (fun h k x=>k (h x)) ?hKb (Below.refl _ _) (fun _=>rfl)
  (fun pre W=>(Bd w.heap.size w.heap.size (34::pre.flatMap sign) W)∧Below w.heap.size w W)
  (fun _ _ _=>False)
  (OwnFrom.and (Own.from (fun s A B row hs hg hr=>hs.kept hg hr) _) (ownFrom_below (Nat.le_refl _) (by simp;omega)))
  (fun _ _ _ _ _ hs _ _=>hs)
  ⟨b3,hB3⟩
  (fun x=>{ tmps:=#[.string s,undef,.string ⟨#[]⟩,.pointer (some ⟨w.heap.size,0,none⟩),.int .u8 (x.toNat:Int),.string s,.int .i64 s.size,.int .i64 (s.size+2),.tuple #[],.nilIface,.string s,.func (.func 202) #[] #[.pointer (some ⟨w2.heap.size,0,none⟩)],.int .u8 (x.toNat:Int),undef,undef,undef,undef],defers:=[] }) ?assign ?body ?done ?stop
 case hKb=>
  intro W l o o' hl hl2 ho _ hb
  refine (grownBy_keeps_cells (grownBy_putObj' W l o') (fun r e=>by cases e;exact⟨o,hl2,ho⟩) hb rfl).trans hb
 case assign=>
  intro l x W K hK
  gi_wp2
  exact hK
 case body=>
  rintro l pre x W ⟨hb,hB⟩ hlen
  have hfl:=flat_len pre
  have hsz:=hB.size
  gi_wp2_with fail
  refine⟨trivial,(CallsIn.inRound l (callsIn_wide.2 (writeSign_c _ _ _ x W hb (by simp only[List.length_cons];omega) hB.size))).mono ?_⟩
  rintro e w4 ⟨rfl,b4,k4⟩
  gi_wp2
  exact⟨k4.keepsOthers hb,k4.keepsBox (by omega),by simpa using b4,hB.trans k4.below⟩
 case done=>
  rintro D ys W hD rfl ⟨hb,hB⟩ hK
  have hfl:=flat_len s.data.toList
  have hlen:s.data.toList.length=s.size:=by simp
  gi_wp2_with fail
  refine⟨trivial,(callsIn_wide.2 (writeByte_c _ _ _ 34 _ rfl _ hb (by simp only[List.length_cons];omega) hB.size)).mono ?_⟩
  rintro e w4 ⟨rfl,b4,k4⟩
  have hK4:=(k4.keepsOthers hb).same D _ hK rfl
  gi_wp2_with fail
  refine⟨trivial,(callsIn_wide.2 (bstr_c _ _ _ w4 b4 (Nat.le_trans hB.size k4.below.size))).mono ?_⟩
  rintro e w5 ⟨rfl,b5,k5⟩
  have hK5:=(k5.keepsOthers b4).same D _ hK4 rfl
  gi_wp2
  refine⟨by simp,.inl ⟨_,_,rfl,run_takeDeferred hK5,?_⟩⟩
  refine⟨_,results_tmp rfl _ _ _,by simp[quoteL],((hB.trans k4.below).trans k5.below).trans (belowK_b (w:=w) (Nat.le_refl _) w5 D _ _ (by simp at hD;omega) hK5 rfl rfl)⟩
 case stop=>
  rintro D c pre W _ _ h _
  exact h.elim
theorem quote_c (s:ByteArray) (hs:s.size≤1073741824) (w:World) :
  Calls Tryz.prog 151 #[.string s] w fun e W'=>e=.returned (.string ⟨(quoteL s.data.toList).toArray⟩)∧Below w.heap.size w W':=
 callsIn_wide.1 (quote_in s hs w)
end Go.Proofs.YtdgbajnhhhjbcaaGreatDoor
