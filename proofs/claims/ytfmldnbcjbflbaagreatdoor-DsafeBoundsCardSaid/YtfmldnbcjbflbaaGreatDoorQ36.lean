/- Sg@012 -/
import Derived.Test.YtfmldnbcjbflbaaGreatDoorQ34
import Derived.Test.YtfmldnbcjbflbaaGreatDoorQ35
set_option linter.unusedSimpArgs false
set_option linter.unusedVariables false
namespace Go.Proofs.YtfmldnbcjbflbaaGreatDoor
open Lib(hid)
open Go.RowKit
def intsN (D:List Nat):List Value:=D.map fun k:Nat=>.int .i64 (k:Int)
def WkR6 (r:Ru) (n n0:Nat) (w:World) (e:Ending) (w':World):Prop:=
 (walk6 r n=none∧e=.returned (.tuple #[.slice none 0 0,.slice none 0 0,.bool false])∧Below n0 w w') ∨
  ∃ D B v u,walk6 r n=some (D,B)∧e=.returned (.tuple #[v,u,.bool true])∧SlOf w' w'.heap.size 1 IntC (D.map fun k:Nat=>(k:Int)) v∧SlOf w' w'.heap.size 1 StrC B u∧Below n0 w w'
theorem walk_next {r:Ru} {m:Nat} {D:List Nat} {B:List ByteArray} (h:walk6 r m=some (D,B)) {k:Nat} {l:Lt} (hk:next6 r D B=some k) (hl:r.body[k]?=some l):walk6 r (m+1)=some (D++[k],withV B (gains6 r k l)):=by
 rw[walk6,h]
 show (next6 r D B).bind _=_
 rw[hk]
 show (r.body[k]?).map _=_
 rw[hl]
 rfl
theorem walk_end {r:Ru} {m:Nat} {D:List Nat} {B:List ByteArray} (h:walk6 r m=some (D,B)) (hk:next6 r D B=none):∀ j,walk6 r (m+1+j)=none
 | 0=>by
  rw[Nat.add_zero,walk6,h]
  show (next6 r D B).bind _=_
  rw[hk]
  rfl
 | j+1=>by
  rw[← Nat.add_assoc,walk6,walk_end h hk j]
  rfl
theorem next_lt {r:Ru} {D:List Nat} {B:List ByteArray} {k:Nat} (h:next6 r D B=some k):k < r.body.length:=by
 have key:∀ b,pick6 r D B b=some k→k < r.body.length:=fun b hb=>List.mem_range.1 (List.mem_of_find?_eq_some hb)
 unfold next6 at h
 cases h1:pick6 r D B false with
 | none=>rw[h1] at h;exact key true h
 | some j=>
  rw[h1] at h
  have e:j=k:=by simpa using h
  subst e
  exact key false h1
theorem doneL_set {n k:Nat} (D:List Nat) (hk:k < n):(doneL n D).set k (.bool true)=doneL n (D++[k]):=by
 refine List.ext_getElem? fun i=>?_
 by_cases hi:i < n
 ·rw[doneL_at _ hi]
  by_cases e:i=k
  ·subst e
   rw[List.getElem?_set_self (by unfold doneL;simpa using hk)]
   simp
  ·rw[List.getElem?_set_ne (Ne.symm e),doneL_at _ hi]
   congr 2
   by_cases h:i ∈ D <;> simp[h,e]
 ·rw[List.getElem?_eq_none (by unfold doneL;simpa using hi),List.getElem?_eq_none (by unfold doneL;simpa using hi)]
theorem doneL_zero (n:Nat):List.replicate n (Value.bool false)=doneL n []:=by
 refine List.ext_getElem? fun i=>?_
 by_cases hi:i < n
 ·rw[doneL_at _ hi,List.getElem?_replicate,if_pos hi];rfl
 ·rw[List.getElem?_eq_none (by simpa using hi),List.getElem?_eq_none (by unfold doneL;simpa using hi)]
theorem gains_len {r:Ru} {k:Nat} {l:Lt} (hk:r.body[k]?=some l):(gains6 r k l).length≤2 * (termsR r).length:=by
 have h3:=(termsR_pre r.body (k+1)).length_le
 rw[termsR_take hk,List.length_append] at h3
 have h4:(r.body.flatMap litTs).length≤(termsR r).length:=by unfold termsR;rw[List.length_append];omega
 have h5:=litTs_len l
 unfold gains6
 split
 ·have h1:=varsV_len (subT l.x)
  have h2:(outer6 r k l).length≤(varsV (termsR r)).length:=List.length_filter_le ..
  have h6:=varsV_len (termsR r)
  have h7:=withV_len (varsV (subT l.x)) (outer6 r k l)
  omega
 ·have:=varsV_len (litTs l)
  omega
theorem walk_len {r:Ru}:∀ {m:Nat} {D:List Nat} {B:List ByteArray},walk6 r m=some (D,B)→D.length=m∧B.length≤m * (2 * (termsR r).length)
 | 0,D,B,h=>by cases h;exact⟨rfl,Nat.zero_le _⟩
 | m+1,D,B,h=>by
  rw[walk6] at h
  cases hw:walk6 r m with
  | none=>rw[hw] at h;cases h
  | some x=>
   obtain⟨D0,B0⟩:=x
   rw[hw] at h
   have ih:=walk_len hw
   cases hn:next6 r D0 B0 with
   | none=>
    rw[show (some (D0,B0)).bind _=(next6 r D0 B0).bind _ from rfl,hn] at h
    cases h
   | some k=>
    rw[show (some (D0,B0)).bind _=(next6 r D0 B0).bind _ from rfl,hn] at h
    obtain⟨l,hl,e⟩:=Option.map_eq_some_iff.1 (show (r.body[k]?).map _=some (D,B) from h)
    cases e
    have h1:(withV (D0,B0).2 (gains6 r k l)).length≤B0.length+(gains6 r k l).length:=withV_len B0 (gains6 r k l)
    have h2:=gains_len hl
    refine⟨by rw[List.length_append,ih.1];rfl,?_⟩
    rw[Nat.succ_mul]
    omega
theorem walk_mem {r:Ru}:∀ {m:Nat} {D:List Nat} {B:List ByteArray},walk6 r m=some (D,B)→∀ k ∈ D,k < r.body.length
 | 0,D,B,h=>by cases h;intro k hk;cases hk
 | m+1,D,B,h=>by
  rw[walk6] at h
  cases hw:walk6 r m with
  | none=>rw[hw] at h;cases h
  | some x=>
   obtain⟨D0,B0⟩:=x
   rw[hw] at h
   have ih:=walk_mem hw
   cases hn:next6 r D0 B0 with
   | none=>
    rw[show (some (D0,B0)).bind _=(next6 r D0 B0).bind _ from rfl,hn] at h
    cases h
   | some j=>
    rw[show (some (D0,B0)).bind _=(next6 r D0 B0).bind _ from rfl,hn] at h
    obtain⟨l,hl,e⟩:=Option.map_eq_some_iff.1 (show (r.body[j]?).map _=some (D,B) from h)
    cases e
    intro k hk
    rcases List.mem_append.1 hk with hk | hk
    ·exact ih k hk
    ·rw[List.mem_singleton.1 hk]
     exact (List.getElem?_eq_some_iff.1 hl).1
theorem right_20 {r:Ru} (h:rightR r=true):r.body.length≤20:=by
 unfold rightR at h
 simp only[Bool.and_eq_true,decide_eq_true_eq] at h
 exact h.1.1.2
theorem row_of_own6 {w:World} {base n g:Nat} {T:TypeId} {xs:List Value} (h:w.ownsRow base T 1 (.slice (some ⟨g,0,none⟩) n n) n xs):w.heap[g]?=some (.cells xs.toArray T (0,0)):=by
 rcases h.2 with ⟨h1,_⟩ | ⟨g',cap,cur,hv,_,hg,_,_,hcur,ht⟩
 ·cases h1
 ·injection hv with e1 _ e3
  injection e1 with e1
  injection e1 with e1
  subst e1
  subst e3
  rw[List.take_of_length_le (by rw[Array.length_toList,hcur];exact Nat.le_refl _)] at ht
  rw[hg,← ht]
theorem own_type6 {W:World} {base e size n:Nat} {v:Value} {xs:List Value} (h:W.ownsRow base e size v n xs):∀ j,v.ownBlock=some j→∃ cur,W.heap[j]?=some (.cells cur e (0,0)):=by
 intro j hj
 rcases h.2 with ⟨rfl,_⟩ | ⟨g,cap,cur,rfl,_,hg,_⟩
 ·cases hj
 ·cases hj
  exact⟨_,hg⟩
theorem own_other6 {W W':World} {b1 e1 z1 n1:Nat} {v:Value} {xs:List Value} {row:Option Nat} (h:W.ownsRow b1 e1 z1 v n1 xs) (hg:W.grownBy W' row) (hne:∀ j,row=some j→∃ cur T,W.heap[j]?=some (.cells cur T (0,0))∧T≠e1):W'.ownsRow b1 e1 z1 v n1 xs:=by
 refine h.kept hg ?_
 cases hv:v.ownBlock with
 | none=>exact .inl rfl
 | some j=>
  refine .inr fun e2=>?_
  obtain⟨cur,T,h1,h2⟩:=hne j e2.symm
  obtain⟨cur',hc⟩:=own_type6 h j hv
  rw[h1] at hc
  cases hc
  exact h2 rfl
theorem own_row6 {W:World} {b1 e1 z1 n1:Nat} {v:Value} {xs:List Value} (h:W.ownsRow b1 e1 z1 v n1 xs) {e2:TypeId} (hne:e1≠e2):∀ j,v.ownBlock=some j→∃ cur T,W.heap[j]?=some (.cells cur T (0,0))∧T≠e2:=fun j hj=>by
 obtain⟨cur,hc⟩:=own_type6 h j hj
 exact⟨cur,e1,hc,hne⟩
set_option maxRecDepth 100000 in
set_option maxHeartbeats 4000000 in
theorem with6o_c (l m:List ByteArray) (v u:Value) (w:World) (h1:SlOf w w.heap.size 1 StrC l v) (h2:SlOf w w.heap.size 1 StrC m u) (hn:l.length+m.length≤1000000) :
  Calls Tryz.prog 77 #[v,u] w fun e w'=>∃ v,e=.returned v∧w'.ownsRow w.heap.size 9 1 v (withV l m).length ((withV l m).map Value.string)∧Below w.heap.size w w':=by
 obtain⟨xs,hlaid,hsp⟩:=sl_laid h1 str_one
 have hxs:=laid_str hlaid
 subst hxs
 have HSz:Hid (∀ s ∈ withV l m,s.size≤maxLen):=hid fun s hs=>((withV_mem _ _ _).1 hs).elim (str_sizes h1 s) (str_sizes h2 s)
 obtain⟨o1,k1,rfl,_,_,S1⟩:=SlOf.open h1
 obtain⟨o2,k2,rfl,_,_,S2⟩:=SlOf.open h2
 have HB0:Hid (Below w.heap.size w w):=hid (Below.refl _ _)
 have HSp:=hid hsp
 have Hn:=hid hn
 have HSzk:Hid (∀ k,∀ s ∈ withV l (m.take k),s.size≤maxLen):=hid fun k s hs=>HSz.out s ((withV_mem _ _ _).2 (((withV_mem _ _ _).1 hs).imp id fun h=>List.mem_of_mem_take h))
 have HLk:Hid (∀ k,k≤m.length→(withV l (m.take k)).length≤l.length+k):=hid fun k hk=>by
  have:=withV_len l (m.take k)
  rw[List.length_take] at this
  omega
 obtain⟨i0,hi,hz0,hz1,hz2⟩:=info_parts info_str
 have Kb:Hid (i0.bytes * (l.length+m.length)≤281474976710656):=hid (by rw[hz2];omega)
 have Km:Hid (l.length+m.length≤maxLen):=hid (by unfold maxLen;omega)
 have hw:IntKind.i64.wrap ((l.length:Int)+(m.length:Int))=(l.length:Int)+(m.length:Int):=IntWalk.i64_in _ (by omega)
 clear h1 h2 hlaid hsp hn
 go_enter Tryz.func77,Tryz.ntmps77
 go_wp2_with (first
  | (at_make;refine wpList_make_own _ rfl _ _ 45 rfl w.heap.size 9 i0 _ 1 Tryz.underlying45 hi hz0 hz1 .i64 .i64 _ (l.length+m.length) rfl rfl (by first | omega | go_num) Kb.out Km.out (Nat.le_refl _) ?_;intro w1 hown1 hg1;have O1:=hid hown1;have G1:=hid hg1;clear hown1 hg1)
  | (at_builtin;refine wpList_append_any _ rfl (.tmp 12) (.tmp 13) 45 rfl w.heap.size 9 i0 _ 1 16 Tryz.underlying45 hi hz0 hz1 hz2 rfl (by decide) _ 0 [] rfl O1.out _ l.length _ rfl (HSp.out.cells fun p c hc=>(World.cell?_of_block (G1.out.block _ (World.block_lt_of_cell? _ _ hc) (by simp))).trans hc) (by have:=Km.out;omega) (by have:=Km.out;have:=Hn.out;omega) (by have:=G1.out.size;omega) ?_;intro v2 w2 hown2 hg2 _;have O2:=hid hown2;have G2:=hid hg2;clear hown2 hg2))
 have hz12:w.heap.size≤w2.heap.size:=by have:=G1.out.size;have:=G2.out.size;omega
 have hb2:Below w.heap.size w w2:=((Below.refl _ _).grown G1.out (Nat.le_refl _) (fun q hq=>by cases hq)).grown G2.out (by have:=G1.out.size;exact this) (fun q hq=>(O1.out.lt q hq).1)
 have O3:Hid (w2.ownsRow w.heap.size 9 1 v2 l.length (l.map Value.string)):=hid (by have:=O2.out;simpa using this)
 have B2:=hid hb2
 clear O1 O2 G1 G2 hb2 HSp hw
 go_loopw [5,6] (fun lv i wr=>∃ k:Nat,k≤m.length∧i=.int .i64 k∧wr.ownsRow w.heap.size 9 1 lv (withV l (m.take k)).length ((withV l (m.take k)).map Value.string)∧Below w.heap.size w wr) (fun _ i _=>m.length - (intOf i).toNat)
 case atStart=>exact⟨0,Nat.zero_le _,rfl,O3.out,B2.out⟩
 case round=>
  obtain⟨k,hk,rfl,hown,hB⟩:=hrel
  have hsl:=sl_row (R:=StrC) hown (fun s hs=>⟨rfl,HSzk.out k s hs⟩)
  have hLk:=HLk.out k hk
  by_cases hlt:k < m.length
  ·have hlt':(k:Int) < (m.length:Int):=by omega
   obtain⟨x,hx⟩:∃ x,m[k]?=some x:=⟨m[k],List.getElem?_eq_getElem hlt⟩
   obtain⟨p,rfl,hp,hsz,c0⟩:=str_at S2 hB hx
   have htk:=withV_take (l:=l) hx
   obtain⟨cur,hcur⟩:∃ cur,withV l (m.take k)=cur:=⟨_,rfl⟩
   rw[hcur] at hown hsl hLk htk
   have HP:=hid (place_c cur _ x wr hsl)
   have HOWN:=hid hown
   have HB:=hid hB
   have Htk:=hid htk
   have HLc:=hid hLk
   have hpl:(p.add k).block < wr.heap.size:=by rw[addBlock];have:=hB.size;omega
   clear hsl hown hB htk hx hcur hLk
   go_wp2_with fail
   refine HP.out.mono ?_
   rintro e w3 ⟨rfl,b3⟩
   have HOWN3:=hid (own_below HOWN.out b3)
   have HB3:=hid (HB.out.trans (b3.mono HB.out.size))
   have c3:w3.cell? (p.add k)=some (.string x):=(World.cell?_of_block (b3.block _ hpl)).trans c0
   have hpl3:(p.add k).block < w3.heap.size:=by have:=b3.size;omega
   have hB3s:=HB3.out.size
   clear HP b3 c0
   by_cases hneg:placeV cur x < 0
   ·have Hz:Hid (withV l (m.take (k+1))=cur++[x]):=hid (by rw[Htk.out,if_pos hneg])
    have HS1:Hid (cur.length+1≤maxLen):=hid (by have:=HLc.out;have:=Hn.out;unfold maxLen;omega)
    have HS2:Hid ((cur.length+1) * 16≤140737488355328):=hid (by have:=HLc.out;have:=Hn.out;omega)
    clear Htk
    go_wp2_with (at_builtin;refine wpList_append_own _ rfl (.tmp 28) (.tmp 33) 45 rfl w.heap.size 9 i0 _ 1 16 Tryz.underlying45 hi hz0 hz1 hz2 rfl (by decide) _ cur.length _ rfl (HOWN3.out.alloc _) _ 1 1 [.string x] rfl rfl (news_one _ _ _) (one_str _) HS1.out HS2.out (by simp;omega) ?_;intro v' w6 hown' hgrow _;have HG:=hid (grown_past hgrow);have HOWN6:=hid hown';clear hgrow hown')
    go_wp2
    go_roundw
    case rel=>
     refine⟨k+1,hlt,by go_num,?_,?_⟩
     ·rw[Hz.out,List.length_append,List.map_append];exact HOWN6.out
     ·exact HB3.out.grown HG.out hB3s (fun q hq=>(HOWN3.out.lt q hq).1)
    case measure=>simp[intOf];omega
   ·have Hz:Hid (withV l (m.take (k+1))=cur):=hid (by rw[Htk.out,if_neg hneg])
    clear Htk
    go_wp2
    go_roundw
    case rel=>
     refine⟨k+1,hlt,by go_num,?_,HB3.out⟩
     rw[Hz.out];exact HOWN3.out
    case measure=>simp[intOf];omega
  ·have hlt':¬ (k:Int) < (m.length:Int):=by omega
   obtain rfl:k=m.length:=by omega
   rw[List.take_of_length_le (Nat.le_refl _)] at hsl hown
   have HOW:=hid hown
   have HB:=hid hB
   obtain⟨oq,kq,rfl⟩:=own_shape hown
   clear hown hB hsl
   go_wp2
   go_ret
   exact⟨_,rfl,HOW.out,HB.out⟩
structure WkI6 (r:Ru) (R:Array Value) (w:World) (bd N:Nat) (D:List Nat) (B:List ByteArray) (ov bv:Value) (wr:World):Prop where
 at_:walk6 r D.length=some (D,B)
 rr:wr.heap[w.heap.size]?=some (.cells R 37 (0,0))
 dn:wr.heap[bd]?=some (.cells (doneL r.body.length D).toArray 4 (0,0))
 own:wr.ownsRow N 3 1 ov D.length (intsN D)
 bnd:wr.ownsRow N 9 1 bv B.length (B.map Value.string)
 sz:∀ s ∈ B,s.size≤maxLen
 b:Below w.heap.size w wr
theorem WkI6.past {r:Ru} {R:Array Value} {w wr W:World} {bd N:Nat} {D:List Nat} {B:List ByteArray} {ov bv:Value} (h:WkI6 r R w bd N D B ov bv wr) (hb:Below wr.heap.size wr W):WkI6 r R w bd N D B ov bv W:=
 ⟨h.at_,(hb.block _ (heap_lt h.rr)).trans h.rr,(hb.block _ (heap_lt h.dn)).trans h.dn,own_below h.own hb,own_below h.bnd hb,h.sz,h.b.trans (hb.mono h.b.size)⟩
theorem WkI6.sl {r:Ru} {R:Array Value} {w wr:World} {bd N:Nat} {D:List Nat} {B:List ByteArray} {ov bv:Value} (h:WkI6 r R w bd N D B ov bv wr):SlOf wr wr.heap.size 1 StrC B bv:=sl_row (R:=StrC) h.bnd (fun s hs=>⟨rfl,h.sz s hs⟩)
theorem grown_set6 (w:World) (b i:Nat) (u:Value):w.grownBy (w.setCell ⟨b,i,none⟩ u) (some b):=
 ⟨rfl,rfl,rfl,by simp[World.setCell],fun k _ hk=>Below.heap_setCell w ⟨b,i,none⟩ u k (fun e=>hk (by rw[e]))⟩
theorem WkI6.put {r:Ru} {R:Array Value} {w w3 w4 w5:World} {bd N k:Nat} {D:List Nat} {B:List ByteArray} {ov bv v':Value} (h:WkI6 r R w bd N D B ov bv w3) (hk:k < r.body.length) (hw:w.heap.size < bd) (hN:bd < N) (hg:w3.grownBy w4 ov.ownBlock) (ho:w4.ownsRow N 3 1 v' (D.length+1) (intsN D++[.int .i64 (k:Int)])) (h5:w5=w4.setCell ⟨bd,k,none⟩ (.bool true)) :
  w4.heap[bd]?=some (.cells (doneL r.body.length D).toArray 4 (0,0))∧w5.heap[w.heap.size]?=some (.cells R 37 (0,0))∧w5.heap[bd]?=some (.cells (doneL r.body.length (D++[k])).toArray 4 (0,0)) ∧
   w5.ownsRow N 3 1 v' (D++[k]).length (intsN (D++[k]))∧w5.ownsRow N 9 1 bv B.length (B.map Value.string)∧Below w.heap.size w w5:=by
 have hne:∀ j,ov.ownBlock=some j→N≤j:=fun j hj=>(h.own.lt j hj).1
 have d4:w4.heap[bd]?=some (.cells (doneL r.body.length D).toArray 4 (0,0)):=(hg.block bd (heap_lt h.dn) (fun e=>by first | (have:=hne bd e;omega) | (have:=hne bd e.symm;omega))).trans h.dn
 have r4:w4.heap[w.heap.size]?=some (.cells R 37 (0,0)):=(hg.block _ (heap_lt h.rr) (fun e=>by first | (have:=hne _ e;omega) | (have:=hne _ e.symm;omega))).trans h.rr
 have b4:w4.ownsRow N 9 1 bv B.length (B.map Value.string):=own_other6 h.bnd hg (own_row6 h.own (by decide))
 have B4:Below w.heap.size w w4:=h.b.grown hg h.b.size (fun j hj=>by have:=hne j hj;omega)
 have hs:=set_row6 (i:=k) d4 (.bool true)
 rw[doneL_set D hk] at hs
 have hbool:∀ j,some bd=some j→∃ cur T,w4.heap[j]?=some (.cells cur T (0,0))∧T=4:=fun j e=>by
  cases e
  exact⟨_,_,d4,rfl⟩
 subst h5
 refine⟨d4,(Below.heap_setCell w4 ⟨bd,k,none⟩ _ w.heap.size (by show w.heap.size≠bd;omega)).trans r4,hs,?_,?_,B4.setCell (p:=⟨bd,k,none⟩) (by show w.heap.size≤bd;omega) _⟩
 ·have e:intsN (D++[k])=intsN D++[.int .i64 (k:Int)]:=by unfold intsN;simp
  rw[List.length_append,List.length_singleton,e]
  exact own_other6 ho (grown_set6 w4 bd k _) (fun j e=>by obtain⟨cur,T,h1,h2⟩:=hbool j e;exact⟨cur,T,h1,by rw[h2];decide⟩)
 ·exact own_other6 b4 (grown_set6 w4 bd k _) (fun j e=>by obtain⟨cur,T,h1,h2⟩:=hbool j e;exact⟨cur,T,h1,by rw[h2];decide⟩)
set_option maxRecDepth 100000 in
set_option maxHeartbeats 16000000 in
theorem walk6_c (r:Ru) (n:Nat) (w:World) (cs:List Value) (hc:RuC w w.heap.size r cs) (hr:rightR r=true) (hn:(termsR r).length+r.body.length≤10000) (hnn:n≤r.body.length) :
  Calls Tryz.prog 41 #[.agg cs.toArray,.int .i64 (n:Int)] w (WkR6 r n w.heap.size w):=by
 have HNx:=hid (fun (D:List Nat) (B:List ByteArray) (v:Value) (bd:Nat) (W:World) (hb2:Below w.heap.size w W) (hb:SlOf W W.heap.size 1 StrC B v) (hd:W.heap[bd]?=some (.cells (doneL r.body.length D).toArray 4 (0,0)))=>next6_c r D B W cs v bd ((hc.below hb2).more hb2.size) hr (by omega) hb hd)
 have HGa:=hid (fun (k:Nat) (l:Lt) (hk:r.body[k]?=some l) (W:World) (hb2:Below w.heap.size w W)=>gains6_c r k l W cs ((hc.below hb2).more hb2.size) hr (by omega) hk)
 obtain⟨y2,hz,hw0,hw1,hw2⟩:∃ y,Tryz.prog.info? 4=some y∧y.zero=some (.bool false)∧y.size=1∧y.bytes≤8:=⟨_,rfl,rfl,rfl,by decide⟩
 obtain⟨i1,hi1,hy0,hy1,hy2⟩:∃ y,Tryz.prog.info? 3=some y∧y.zero=some (.int .i64 0)∧y.size=1∧y.bytes=8:=⟨_,rfl,rfl,rfl,rfl⟩
 obtain⟨o0,k0,o1,k1,rfl,_,hh,hbd⟩:=hc.look
 have h20:=right_20 hr
 have Kb2:Hid (y2.bytes * r.body.length≤281474976710656):=hid (by have:=Nat.mul_le_mul hw2 h20;omega)
 have Km:Hid (r.body.length≤maxLen):=hid (by unfold maxLen;omega)
 have HT:=hid hn
 clear hc hh hbd hr hn
 go_enter Tryz.func41,Tryz.ntmps41
 obtain⟨w1,hw1e⟩:∃ W,w.alloc (.cells #[.string r.head.rel,.slice o0 r.head.l.length k0,.slice o1 r.body.length k1,.int .i64 r.line] 37)=W:=⟨_,rfl⟩
 have B1:Hid (Below w.heap.size w w1):=hid (by rw[← hw1e];exact (Below.refl _ _).alloc (Nat.le_refl _) _)
 have Q1:Hid (w1.heap[w.heap.size]?=some (.cells #[.string r.head.rel,.slice o0 r.head.l.length k0,.slice o1 r.body.length k1,.int .i64 r.line] 37 (0,0))):=hid (by rw[← hw1e];exact World.alloc_heap_new w _)
 obtain⟨bd,hbd⟩:∃ b,w1.heap.size=b:=⟨_,rfl⟩
 have Hbd:=hid hbd
 have hwb:w.heap.size < bd:=by rw[← hbd];exact heap_lt Q1.out
 have x2:w1.cell? ⟨w.heap.size,2,none⟩=some (.slice o1 r.body.length k1):=row_cells Q1.out 2
 have hl1:w.heap.size < w1.heap.size:=heap_lt Q1.out
 clear hbd
 go_wp2_with (first | (at_make;refine wpList_make_full _ rfl _ _ 117 rfl bd 4 y2 _ 1 Tryz.underlying117 hz hw0 hw1 .i64 .i64 _ _ r.body.length rfl rfl rfl rfl Kb2.out Km.out (by rw[Hbd.out];exact Nat.le_refl _) ?_;rw[Hbd.out];intro w2 hown hg;have O2:=hid hown;have G2:=hid hg;clear hown hg) | fail)
 obtain⟨N,hN⟩:∃ N,w2.heap.size=N:=⟨_,rfl⟩
 have hB12:Below w1.heap.size w1 w2:=(Below.refl _ _).grown G2.out (Nat.le_refl _) (fun q hq=>by cases hq)
 have hq2:w2.heap[bd]?=some (.cells (doneL r.body.length []).toArray 4 (0,0)):=by
  have h1:=O2.out
  rw[Nat.mul_one] at h1
  have h2:(madeCells (Value.bool false).cells r.body.length).toList=doneL r.body.length []:=(toList_madeCells_one _ _).trans (doneL_zero _)
  rw[h2] at h1
  exact row_of_own6 h1
 have hbN:bd < N:=by rw[← hN];exact heap_lt hq2
 have HI0:Hid (WkI6 r #[.string r.head.rel,.slice o0 r.head.l.length k0,.slice o1 r.body.length k1,.int .i64 r.line] w bd N [] [] (.slice none 0 0) (.slice none 0 0) w2):=hid ⟨rfl,(hB12.block _ hl1).trans Q1.out,hq2,World.ownsRow_nil _ _ _ _,World.ownsRow_nil _ _ _ _,(fun s hs=>by simp at hs),B1.out.trans (hB12.mono B1.out.size)⟩
 have HNw:=hid (show N≤w2.heap.size by omega)
 clear O2 G2 hB12 hq2 hN x2 hl1 hw1e
 go_wp2_with fail
 go_loopw [8,9] (fun ov bv wr=>∃ (D:List Nat) (B:List ByteArray) (oc:Option Addr) (oq:Nat) (b2:Value),D.length≤n∧.slice oc D.length oq=ov∧b2=bv∧Hid (WkI6 r #[.string r.head.rel,.slice o0 r.head.l.length k0,.slice o1 r.body.length k1,.int .i64 r.line] w bd N D B (.slice oc D.length oq) b2 wr)∧Hid (N≤wr.heap.size)) (fun ov _ _=>match ov with | .slice _ m _=>n - m | _=>0)
 case atStart=>exact⟨[],[],none,0,_,Nat.zero_le _,rfl,rfl,HI0,HNw⟩
 case round=>
  obtain⟨D,B,oc,oq,bv,hDn,rfl,rfl,HI,HNr⟩:=hrel
  obtain⟨ob,kb,rfl,_⟩:=SlOf.uni HI.out.sl
  have hrr:=HI.out.rr
  have y0:wr.cell? ⟨w.heap.size,0,none⟩=some (.string r.head.rel):=row_cells hrr 0
  have y1:wr.cell? ⟨w.heap.size,1,none⟩=some (.slice o0 r.head.l.length k0):=row_cells hrr 1
  have y2':wr.cell? ⟨w.heap.size,2,none⟩=some (.slice o1 r.body.length k1):=row_cells hrr 2
  have y3:wr.cell? ⟨w.heap.size,3,none⟩=some (.int .i64 r.line):=row_cells hrr 3
  have hl0:w.heap.size < wr.heap.size:=heap_lt hrr
  clear hrr
  by_cases hlt:D.length < n
  ·have hlt':(D.length:Int) < (n:Int):=by omega
   have HC:=hid (HNx.out D B _ bd wr HI.out.b HI.out.sl HI.out.dn)
   go_wp2_with fail
   refine HC.out.mono ?_
   rintro e w3 ⟨rfl,b3⟩
   have HI3:=hid (HI.out.past b3)
   have HN3:=hid (Nat.le_trans HNr.out b3.size)
   clear b3 HC y0 y1 y2' y3
   cases hnx:next6 r D B with
   | none=>
    have HE:Hid (walk6 r n=none):=hid (by
     have h:=walk_end HI.out.at_ hnx (n - (D.length+1))
     rwa [show D.length+1+(n - (D.length+1))=n by omega] at h)
    have hneg:nextI (none:Option Nat) = -1:=rfl
    rw[hneg]
    clear hnx hneg
    go_wp2
    go_ret3
    exact .inl ⟨HE.out,rfl,HI3.out.b⟩
   | some k=>
    have hkl:=next_lt hnx
    obtain⟨l,hl⟩:∃ l,r.body[k]?=some l:=⟨_,List.getElem?_eq_getElem hkl⟩
    have HStep:=hid (walk_next HI.out.at_ hnx hl)
    have Hl:=hid hl
    have hneg:nextI (some k)=(k:Int):=rfl
    rw[hneg]
    have hk0:¬ (k:Int) < 0:=by omega
    have hk0':(0:Int)≤(k:Int):=by omega
    have hkl':(k:Int) < (r.body.length:Int):=by omega
    have HS1:Hid (D.length+1≤maxLen):=hid (by unfold maxLen;omega)
    have HS2:Hid ((D.length+1) * 8≤140737488355328):=hid (by omega)
    obtain⟨m,hm⟩:∃ m,D.length=m:=⟨_,rfl⟩
    have Hm:=hid hm
    have HO3:Hid (w3.ownsRow N 3 1 (.slice oc m oq) m (intsN D)):=hid (by rw[← hm];exact HI3.out.own)
    rw[hm] at HS1 HS2
    clear hnx hneg hl
    rw[hm]
    go_wp2_with (at_builtin;refine wpList_append_own _ rfl (.tmp 25) (.tmp 27) 39 rfl N 3 i1 _ 1 8 Tryz.underlying39 hi1 hy0 hy1 hy2 rfl (by decide) (.slice oc m oq) m _ rfl (HO3.out.alloc _) _ 1 1 [.int .i64 (k:Int)] rfl rfl (news_one _ _ _) (fun u hu=>by simp at hu;subst hu;rfl) HS1.out HS2.out (by have:=HN3.out;simp;omega) ?_;intro v' w4 hown' hgrow _;obtain⟨vc,vq,rfl⟩:=own_shape hown';obtain⟨w5,hw5⟩:∃ W,w4.setCell ⟨bd,k,none⟩ (.bool true)=W:=⟨_,rfl⟩;have HP:=hid (HI3.out.put hkl hwb hbN (by rw[Hm.out];exact grown_past hgrow) (by rw[Hm.out];exact hown') hw5.symm);have hl4:bd < w4.heap.size:=heap_lt HP.out.1;have m4:w4.cell? ⟨bd,k,none⟩=some (.bool (D.contains k)):=(row_cell6 HP.out.1 k).trans (by rw[List.getElem?_toArray,doneL_at D hkl]);have hf4:w4.frozen? ⟨bd,k,none⟩=false:=(by simp[World.frozen?,HP.out.1]);have z0:w5.cell? ⟨w.heap.size,0,none⟩=some (.string r.head.rel):=row_cells HP.out.2.1 0;have z1:w5.cell? ⟨w.heap.size,1,none⟩=some (.slice o0 r.head.l.length k0):=row_cells HP.out.2.1 1;have z2:w5.cell? ⟨w.heap.size,2,none⟩=some (.slice o1 r.body.length k1):=row_cells HP.out.2.1 2;have z3:w5.cell? ⟨w.heap.size,3,none⟩=some (.int .i64 r.line):=row_cells HP.out.2.1 3;have hl5:w.heap.size < w5.heap.size:=heap_lt HP.out.2.1;have hs5:N≤w5.heap.size:=(by have h1:=hgrow.size;have h2:=HN3.out;rw[← hw5];simp at h1 ⊢;omega);clear hgrow hown')
    have HGa2:=hid (HGa.out k l Hl.out w5 HP.out.2.2.2.2.2)
    refine HGa2.out.mono ?_
    rintro e w6 ⟨v6,rfl,hS6,b6⟩
    have HS6:=hid hS6
    obtain⟨o6,q6,rfl,_⟩:=SlOf.uni hS6
    have hgl:=gains_len Hl.out
    have hbl:=(walk_len HI.out.at_).2
    have HSum:Hid (B.length+(gains6 r k l).length≤1000000):=hid (by
     have h1:=HT.out
     have h2:D.length * (2 * (termsR r).length)≤20 * (2 * (termsR r).length):=Nat.mul_le_mul_right _ (by omega)
     omega)
    have HBd6:=hid (own_below HP.out.2.2.2.2.1 b6)
    have HSl6:Hid (SlOf w6 w6.heap.size 1 StrC B (.slice ob B.length kb)):=hid (sl_row (R:=StrC) HBd6.out (fun s hs=>⟨rfl,HI.out.sz s hs⟩))
    have HWi:=hid (with6o_c _ _ _ _ w6 HSl6.out HS6.out HSum.out)
    have B56:=hid b6
    clear hS6 b6 HGa2 hgl hbl z0 z1 z2 z3
    go_wp2_with fail
    refine HWi.out.mono ?_
    rintro e w7 ⟨v7,rfl,hO7,b7⟩
    have HO7:=hid hO7
    have B57:=hid (B56.out.trans (b7.mono B56.out.size))
    obtain⟨o7,q7,rfl⟩:=own_shape hO7
    have eD:(D++[k]).length=m+1:=by rw[List.length_append,Hm.out];rfl
    have h36:=Nat.le_trans hs5 B56.out.size
    have hO7n:w7.ownsRow N 9 1 (.slice o7 (withV B (gains6 r k l)).length q7) (withV B (gains6 r k l)).length ((withV B (gains6 r k l)).map Value.string):=⟨hO7.1,hO7.2.imp id fun ⟨g,cap,cur,a1,a2,a3⟩=>⟨g,cap,cur,a1,Nat.le_trans h36 a2,a3⟩⟩
    have HI7:Hid (WkI6 r #[.string r.head.rel,.slice o0 r.head.l.length k0,.slice o1 r.body.length k1,.int .i64 r.line] w bd N (D++[k]) (withV B (gains6 r k l)) (.slice vc (D++[k]).length vq) (.slice o7 (withV B (gains6 r k l)).length q7) w7):=hid (by
     obtain⟨_,h1,h2,h3,h4,h5⟩:=HP.out
     have h3':=own_below h3 B57.out
     refine⟨?_,(B57.out.block _ (heap_lt h1)).trans h1,(B57.out.block _ (heap_lt h2)).trans h2,?_,hO7n,fun s hs=>?_,h5.trans (B57.out.mono h5.size)⟩
     ·rw[List.length_append];exact HStep.out
     ·rw[eD] at h3' ⊢
      exact h3'
     ·rcases (withV_mem _ _ _).1 hs with hs | hs
      ·exact HI.out.sz s hs
      ·exact str_sizes HS6.out s hs)
    have HN7:=hid (Nat.le_trans hs5 B57.out.size)
    clear hO7 hO7n b7 hw5 hl4 hf4 m4 HWi
    go_wp2
    go_roundw
    case rel=>exact⟨D++[k],withV B (gains6 r k l),vc,vq,_,by omega,by rw[eD],rfl,HI7,HN7⟩
    case measure=>simp <;> omega
  ·have hlt':¬ (D.length:Int) < (n:Int):=by omega
   have hDe:D.length=n:=by omega
   have HR:Hid (walk6 r n=some (D,B)∧SlOf wr wr.heap.size 1 IntC (D.map fun k:Nat=>(k:Int)) (.slice oc D.length oq)∧SlOf wr wr.heap.size 1 StrC B (.slice ob B.length kb)):=hid (by
    refine⟨by rw[← hDe];exact HI.out.at_,?_,HI.out.sl⟩
    have h1:=HI.out.own
    have e1:intsN D=(D.map fun k:Nat=>(k:Int)).map (Value.int .i64):=by unfold intsN;rw[List.map_map];rfl
    have e2:(D.map fun k:Nat=>(k:Int)).length=D.length:=List.length_map ..
    rw[e1,← e2] at h1
    have h2:=sl_row (R:=IntC) h1 (fun x hx=>by
     obtain⟨k,hk,rfl⟩:=List.mem_map.1 hx
     have:=walk_mem HI.out.at_ k hk
     exact⟨rfl,by unfold I64;omega⟩)
    rwa [e2] at h2)
   clear y0 y1 y2' y3 hDe
   go_wp2
   go_ret3
   exact .inr ⟨D,B,_,_,HR.out.1,rfl,HR.out.2.1,HR.out.2.2,HI.out.b⟩
end Go.Proofs.YtfmldnbcjbflbaaGreatDoor
