/- Zou@1 -/
import Derived.Test.YtfmldnbcjbflbaaGreatDoorQ43
set_option linter.unusedSimpArgs false
set_option linter.unusedVariables false
namespace Go.Proofs.YtfmldnbcjbflbaaGreatDoor
open Lib(hid)
open Go.RowKit Go.Shelf
attribute [local go_sem] Oper.semAt_some
set_option maxRecDepth 100000 in
set_option maxHeartbeats 8000000 in
theorem outer1_c (s:ByteArray) (hs:s.size≤maxLen) (mb M n c:Nat) (B:Bd) (w:World) (hq:w.heap[mb]?=some (.cells #[.map (some M)] 69 (0,0))) (hM:MapI Tryz.prog w 9 3 M n B c) :
  Calls Tryz.prog 54 #[.string s,.pointer (some ⟨mb,0,none⟩)] w fun e w'=>e=.returned (.bool (hasZ B s))∧w'=w:=by
 have zE:∀ w:World,(zeroValue 3).run Tryz.prog w=.ok (.int .i64 0) w:=fun w=>by kernel_rfl
 have hrun:=mapI_run hM 69 Tryz.underlying69 Tryz.underlying9 Tryz.underlying3 (zE _) s hs
 have y1:w.cell? ⟨mb,0,none⟩=some (.map (some M)):=row_cells hq 0
 have lq:=heap_lt hq
 clear hM hq
 unfold hasZ
 by_cases h:B s.data.toList > 0
 ·rw[decide_eq_true (show 0 < B s.data.toList from h)]
  go_enter Tryz.func54,Tryz.ntmps54
  go_wp2
  go_ret
  exact⟨by simp[h],rfl⟩
 ·rw[decide_eq_false (show ¬ 0 < B s.data.toList from h)]
  go_enter Tryz.func54,Tryz.ntmps54
  go_wp2
  go_ret
  exact⟨by simp[h],rfl⟩
set_option maxRecDepth 100000 in
set_option maxHeartbeats 8000000 in
theorem pickO_c (r:Ru) (cs:List Value) (t:Addr) (mb M n c:Nat) (B:Bd) (w:World) (hc:RuC w w.heap.size r cs) (hlen:(termsR r).length≤300000) (hS:∀ t ∈ termsR r,t.s.size≤1000000) (E:TErr t w)
  (hq:w.heap[mb]?=some (.cells #[.map (some M)] 69 (0,0))) (hM:MapI Tryz.prog w 9 3 M n B c) :
  Calls Tryz.prog 45 #[.agg cs.toArray,.func (.func 54) #[] #[.pointer (some ⟨mb,0,none⟩)]] w (VarsR ((varsA r).filter (hasZ B)) w.heap.size w):=by
 obtain⟨o0,k0,o1,k1,rfl,_⟩:=hc.look
 obtain⟨i0,hi,hz0,hz1,hz2⟩:=info_parts info_str
 obtain⟨W1,hW1⟩:∃ W,w.alloc (.cells #[.string r.head.rel,.slice o0 r.head.l.length k0,.slice o1 r.body.length k1,.int .i64 r.line] 37)=W:=⟨_,rfl⟩
 have b1:Below w.heap.size w W1:=by rw[← hW1];exact (Below.refl _ _).alloc (Nat.le_refl _) _
 have HV:=hid (vars_c r _ t W1 ((hc.below b1).more b1.size) (by omega) hS (E.below b1))
 have HF:=hid (fun (W:World) (hb:Below w.heap.size w W) (s:ByteArray) (hs:s.size≤maxLen)=>outer1_c s hs mb M n c B W ((hb.block _ (heap_lt hq)).trans hq) (hM.below hb hM.lt))
 have HLn:Hid ((varsA r).length≤300000):=hid (Nat.le_trans (varsA_len6 r) hlen)
 have HB1:=hid b1
 have HW1:=hid hW1
 obtain⟨N,hN⟩:∃ N,varsA r=N:=⟨_,rfl⟩
 rw[hN] at HV HLn ⊢
 clear hc hlen hS E hq hM b1 hW1 hN
 go_enter Tryz.func45,Tryz.ntmps45
 go_wp2_with fail
 rw[HW1.out]
 refine HV.out.mono ?_
 rintro e2 w2 ⟨v2,rfl,hS2,b2⟩
 have HB2:=hid (HB1.out.trans (b2.mono HB1.out.size))
 have hz1':=HB2.out.size
 obtain⟨o3,k3,rfl,_,_,S3⟩:=SlOf.open hS2
 have HSm:Hid (∀ s ∈ N,s.size≤maxLen):=hid (str_sizes hS2)
 clear b2 hS2 HV
 go_wp2_with fail
 go_loopw [5,7,11] (fun lv _ i wr=>∃ (j:Nat) (acc:List ByteArray),j≤N.length∧i=.int .i64 j∧(N.take j).filter (hasZ B)=acc∧wr.ownsRow w2.heap.size 9 1 lv acc.length (acc.map Value.string)∧Below w2.heap.size w2 wr) (fun _ _ i _=>N.length - (intOf i).toNat)
 case atStart=>exact⟨0,[],Nat.zero_le _,rfl,rfl,World.ownsRow_nil _ _ _ _,Below.refl _ _⟩
 case round=>
  obtain⟨j,acc,hj,rfl,hacc,hO,hB⟩:=hrel
  have Hacc:=hid hacc
  have HO:=hid hO
  have HB:=hid hB
  have hsz:=hB.size
  clear hacc hO
  by_cases hlt:j < N.length
  ·have hlt':(j:Int) < (N.length:Int):=by omega
   have hj0:(0:Int)≤(j:Int):=by omega
   obtain⟨x,hx⟩:∃ x,N[j]?=some x:=⟨N[j],List.getElem?_eq_getElem hlt⟩
   obtain⟨p,rfl,hp,hxs,c0⟩:=str_at S3 hB hx
   have hpl:(p.add j).block < wr.heap.size:=by rw[addBlock];omega
   have Hst:=hid (fil_take (f:=hasZ B) hx)
   have hle:acc.length≤j:=by
    rw[← Hacc.out]
    exact Nat.le_trans (List.length_filter_le _ _) (by rw[List.length_take];omega)
   have HCl:=hid (HF.out wr (HB2.out.trans (hB.mono hz1')) x hxs)
   have HS1:Hid (acc.length+1≤maxLen):=hid (by have:=HLn.out;unfold maxLen;omega)
   have HS2:Hid ((acc.length+1) * 16≤140737488355328):=hid (by have:=HLn.out;omega)
   clear hx hB
   go_wp2_with fail
   refine HCl.out.mono ?_
   rintro e4 w4 ⟨rfl,rfl⟩
   cases hb:hasZ B x with
   | true=>
    have Hst2:Hid ((N.take (j+1)).filter (hasZ B)=acc++[x]):=hid (by rw[Hst.out,Hacc.out,if_pos hb])
    clear hb
    go_wp2_with (at_builtin;refine wpList_append_own _ rfl (.tmp 18) (.tmp 20) 45 rfl w2.heap.size 9 i0 _ 1 16 Tryz.underlying45 hi hz0 hz1 hz2 rfl (by decide) _ acc.length _ rfl (HO.out.alloc _) _ 1 1 [.string x] rfl rfl (news_one _ _ _) (one_str _) HS1.out HS2.out (by simp;omega) ?_;intro v' w6 hown' hgrow _;have HG:=hid (grown_past hgrow);have HO6:=hid hown';clear hgrow hown')
    go_roundw
    case rel=>
     refine⟨j+1,acc++[x],hlt,by go_num,Hst2.out,?_,?_⟩
     ·rw[List.length_append,List.map_append];exact HO6.out
     ·exact HB.out.grown HG.out hsz (fun q hq=>(HO.out.lt q hq).1)
    case measure=>simp[intOf];omega
   | false=>
    have Hst2:Hid ((N.take (j+1)).filter (hasZ B)=acc):=hid (by rw[Hst.out,Hacc.out,if_neg (by rw[hb];decide),List.append_nil])
    clear hb
    go_wp2
    go_roundw
    case rel=>exact⟨j+1,acc,hlt,by go_num,Hst2.out,HO.out,HB.out⟩
    case measure=>simp[intOf];omega
  ·have hlt':¬ (j:Int) < (N.length:Int):=by omega
   have hN2:N.filter (hasZ B)=acc:=by rw[← Hacc.out,List.take_of_length_le (by omega)]
   have hS:=sl_row (R:=StrC) (l:=acc) HO.out (fun s hs=>⟨rfl,HSm.out s (by rw[← hN2] at hs;exact (List.mem_filter.1 hs).1)⟩)
   rw[← hN2] at hS
   have HS:=hid hS
   have HBz:=hid (HB2.out.trans (HB.out.mono hz1'))
   obtain⟨oq,kq,rfl⟩:=own_shape HO.out
   clear hS hN2 hB
   go_wp2
   go_ret
   exact⟨_,rfl,HS.out,HBz.out⟩
theorem sl_nextO {α:Type} {R:α→List Value→Prop} {w w':World} {l:List α} {v:Value} (h:SlOf w w.heap.size 1 R l v) (hb:Below w.heap.size w w'):SlOf w' w'.heap.size 1 R l v:=
 (SlOf.below h hb fun _ _ _ h=>h).more hb.size fun _ _ _ h=>h
def outC (r:Ru) (l:Lt):Bd:=fun s=>(cntN (outerZ r l.a.l) s:Int)
theorem has_out (r:Ru) (l:Lt) (s:ByteArray):hasZ (outC r l) s=true ↔ s ∈ outerZ r l.a.l:=by
 unfold hasZ outC
 rw[decide_eq_true_eq]
 have h:=cntN_zero (outerZ r l.a.l) s
 by_cases hm:s ∈ outerZ r l.a.l
 ·have:cntN (outerZ r l.a.l) s.data.toList≠0:=fun e=>(h.1 e) hm
  exact⟨fun _=>hm,fun _=>by omega⟩
 ·exact⟨fun hp=>by rw[h.2 hm] at hp;exact absurd hp (by decide),fun hh=>absurd hh hm⟩
def slotsO:List (Option Tmp):=[some 31,some 32,some 33,some 34,some 35,some 36,some 37,some 38,some 39,some 40]
def factsO (q0 q1 k:Nat) (a:Addr) (len cap:Nat) (L R:List Value) (F:List UInt8→Int) (O:List ByteArray):List (Value→World→Prop):=
 [fun v _=>v=.pointer (some ⟨q0,2,none⟩),fun v _=>v=.slice (some a) len cap,fun v _=>v=.int .i64 (k:Int),fun v _=>v=.pointer (some (a.add (k * 11))),fun v _=>v=.agg L.toArray,fun v _=>v=.agg R.toArray,
  fun v w=>∃ M n c,v=.map (some M)∧q1≤M∧MapI Tryz.prog w 9 3 M n F c,fun v w=>SlOf w w.heap.size 1 StrC O v,fun v _=>v=.int .i64 (O.length:Int),fun v _=>v=.int .i64 0]
theorem factsO_mono (q0 q1 k:Nat) (a:Addr) (len cap:Nat) (L R:List Value) (F:List UInt8→Int) (O:List ByteArray):∀ p ∈ factsO q0 q1 k a len cap L R F O,∀ v w w',p v w→Below w.heap.size w w'→p v w':=by
 intro p hp v w w' h hb
 simp only[factsO,List.mem_cons,List.not_mem_nil,or_false] at hp
 rcases hp with rfl | rfl | rfl | rfl | rfl | rfl | rfl | rfl | rfl | rfl
 ·exact h
 ·exact h
 ·exact h
 ·exact h
 ·exact h
 ·exact h
 ·obtain⟨M,n,c,h1,h2,h3⟩:=h
  exact⟨M,n,c,h1,h2,h3.below hb h3.lt⟩
 ·exact sl_nextO h hb
 ·exact h
 ·exact h
def OuZR (r:Ru) (k:Int) (n0:Nat) (w:World) (e:Ending) (w':World):Prop:=
 ((rightR r=false∧e=.returned (.tuple #[.slice none 0 0,.int .i64 30]))∨(rightR r=true∧(∀ (n:Nat) (l:Lt),k=n→r.body[n]?=some l→aggO l.op=false)∧e=.returned (.tuple #[.slice none 0 0,.int .i64 2])) ∨
  ∃ (n:Nat) (l:Lt) (v:Value),rightR r=true∧k=n∧r.body[n]?=some l∧aggO l.op=true∧e=.returned (.tuple #[v,.int .i64 0])∧SlOf w' w'.heap.size 1 StrC ((varsA r).filter (hasZ (outC r l))) v)∧Below n0 w w'
set_option maxRecDepth 100000 in
set_option maxHeartbeats 16000000 in
theorem outerZ_c (r:Ru) (cs:List Value) (k:Int) (t:Addr) (w:World) (hc:RuC w w.heap.size r cs) (hf:FewR r) (hlen:(termsR r).length≤300000) (hS:∀ t ∈ termsR r,t.s.size≤1000000) (E:TErr t w) :
  Calls Tryz.prog 20 #[.agg cs.toArray,.int .i64 k] w (OuZR r k w.heap.size w):=by
 have zE:∀ w:World,(zeroValue 3).run Tryz.prog w=.ok (.int .i64 0) w:=fun w=>by kernel_rfl
 have hmm:=@run_makeMap Tryz.prog
 have HC:=hid hc
 have HR:=hid (fun (W:World) (hb:Below w.heap.size w W)=>rightRule_c r t W cs ((hc.below hb).more hb.size) (E.below hb))
 have HSt:=hid (fun (W:World) (hb:Below w.heap.size w W)=>standings_c r cs W ((hc.below hb).more hb.size) hf)
 have HPk:=hid (fun (W:World) (hb:Below w.heap.size w W) (mb M n c:Nat) (B:Bd) hq hM=>pickO_c r cs t mb M n c B W ((hc.below hb).more hb.size) hlen hS (E.below hb) hq hM)
 have HF:=hid hf
 obtain⟨o0,k0,o1,k1,rfl,_,hh,hbd⟩:=hc.look
 obtain⟨o2,k2,e2,hc1,hm1,S1⟩:=SlOf.open hbd
 cases e2
 clear hc hh hbd hf hlen hS E
 go_enter Tryz.func20,Tryz.ntmps20
 go_wp2_with fail
 have B0:Hid (∀ X,Below w.heap.size w (w.alloc X)):=hid (fun X=>(Below.refl _ _).alloc (Nat.le_refl _) _)
 refine (HR.out _ (B0.out _)).mono ?_
 rintro e w1 ⟨rfl,b1⟩
 have Q1:=hid ((b1.block w.heap.size (by simp)).trans (World.alloc_heap_new w _))
 have B1:=hid ((B0.out _).trans (b1.mono (by simp)))
 obtain⟨y0,y1,y2,y3⟩:=row4 Q1.out
 have hl1:w.heap.size < w1.heap.size:=heap_lt Q1.out
 clear b1 HR
 cases hr:rightR r with
 | false=>
  have Hr:=hid hr
  clear hr
  go_wp2
  go_ret2
  exact⟨.inl ⟨Hr.out,rfl⟩,B1.out⟩
 | true=>
 have Hr:=hid hr
 clear hr
 by_cases hk0:k < 0
 ·have HN:Hid (∀ (n:Nat) (l:Lt),k=n→r.body[n]?=some l→aggO l.op=false):=hid (fun n l h=>by omega)
  go_wp2
  go_ret2
  exact⟨.inr (.inl ⟨Hr.out,HN.out,rfl⟩),B1.out⟩
 by_cases hk1:k ≥ (r.body.length:Int)
 ·have HN:Hid (∀ (n:Nat) (l:Lt),k=n→r.body[n]?=some l→aggO l.op=false):=hid (fun n l h h2=>by have:=(List.getElem?_eq_some_iff.1 h2).1;omega)
  go_wp2
  go_ret2
  exact⟨.inr (.inl ⟨Hr.out,HN.out,rfl⟩),B1.out⟩
 obtain⟨n,rfl⟩:∃ n:Nat,k=n:=⟨k.toNat,by omega⟩
 have hn:n < r.body.length:=by omega
 obtain⟨l,hl⟩:∃ l,r.body[n]?=some l:=⟨r.body[n],List.getElem?_eq_getElem hn⟩
 have hn':(n:Int) < (r.body.length:Int):=by omega
 have hn0:(0:Int)≤(n:Int):=by omega
 obtain⟨a,p0,q0,p1,q1,p2,q2,rfl,ha,Hc,c0,c1,c2,c3,c4,c5,c6,c7,c8,c9,c10⟩:=lt_at S1 B1.out hl
 have hal:(a.add (n * 11)).block < w1.heap.size:=by rw[addBlock];have:=B1.out.size;omega
 have HAg:=hid (fun (W:World)=>isAgg_v l (.string l.a.rel) (.slice p0 l.a.l.length q0) (.int .i64 l.x.op) (.string l.x.s) (.int .i64 l.x.n) (.slice p1 l.x.l.length q1) (.int .i64 l.y.op) (.string l.y.s) (.int .i64 l.y.n) (.slice p2 l.y.l.length q2) W)
 have Hl:=hid hl
 have HCC:Hid (∀ W:World,Below w1.heap.size w1 W→W.cell? (a.add (n * 11))=some (.int .i64 l.op)∧W.cell? ⟨(a.add (n * 11)).block,(a.add (n * 11)).off+1,none⟩=some (.string l.a.rel)∧W.cell? ⟨(a.add (n * 11)).block,(a.add (n * 11)).off+2,none⟩=some (.slice p0 l.a.l.length q0)∧W.cell? ⟨(a.add (n * 11)).block,(a.add (n * 11)).off+3,none⟩=some (.int .i64 l.x.op)∧W.cell? ⟨(a.add (n * 11)).block,(a.add (n * 11)).off+4,none⟩=some (.string l.x.s)∧W.cell? ⟨(a.add (n * 11)).block,(a.add (n * 11)).off+5,none⟩=some (.int .i64 l.x.n)∧W.cell? ⟨(a.add (n * 11)).block,(a.add (n * 11)).off+6,none⟩=some (.slice p1 l.x.l.length q1)∧W.cell? ⟨(a.add (n * 11)).block,(a.add (n * 11)).off+7,none⟩=some (.int .i64 l.y.op)∧W.cell? ⟨(a.add (n * 11)).block,(a.add (n * 11)).off+8,none⟩=some (.string l.y.s)∧W.cell? ⟨(a.add (n * 11)).block,(a.add (n * 11)).off+9,none⟩=some (.int .i64 l.y.n)∧W.cell? ⟨(a.add (n * 11)).block,(a.add (n * 11)).off+10,none⟩=some (.slice p2 l.y.l.length q2)):=hid fun W hb=>⟨(hb.cell hal).trans c0,(hb.cell (p:=⟨(a.add (n * 11)).block,(a.add (n * 11)).off+1,none⟩) hal).trans c1,(hb.cell (p:=⟨(a.add (n * 11)).block,(a.add (n * 11)).off+2,none⟩) hal).trans c2,(hb.cell (p:=⟨(a.add (n * 11)).block,(a.add (n * 11)).off+3,none⟩) hal).trans c3,(hb.cell (p:=⟨(a.add (n * 11)).block,(a.add (n * 11)).off+4,none⟩) hal).trans c4,(hb.cell (p:=⟨(a.add (n * 11)).block,(a.add (n * 11)).off+5,none⟩) hal).trans c5,(hb.cell (p:=⟨(a.add (n * 11)).block,(a.add (n * 11)).off+6,none⟩) hal).trans c6,(hb.cell (p:=⟨(a.add (n * 11)).block,(a.add (n * 11)).off+7,none⟩) hal).trans c7,(hb.cell (p:=⟨(a.add (n * 11)).block,(a.add (n * 11)).off+8,none⟩) hal).trans c8,(hb.cell (p:=⟨(a.add (n * 11)).block,(a.add (n * 11)).off+9,none⟩) hal).trans c9,(hb.cell (p:=⟨(a.add (n * 11)).block,(a.add (n * 11)).off+10,none⟩) hal).trans c10⟩
 have Hll:=hid ((few_lit HF.out (List.mem_of_getElem? hl)).2.2.1)
 have HcL:=hid Hc.out
 clear hl
 go_wp2_with fail
 refine (HAg.out _).mono ?_
 rintro e2 w2 ⟨rfl,b2⟩
 have Q2:=hid ((b2.block _ hl1).trans Q1.out)
 have B2:=hid (B1.out.trans (b2.mono B1.out.size))
 have hl2:w.heap.size < w2.heap.size:=heap_lt Q2.out
 have B12:=hid b2
 clear b2 y0 y1 y2 y3 c0 c1 c2 c3 c4 c5 c6 c7 c8 c9 c10
 cases hag:aggO l.op with
 | false=>
  have HN:Hid (∀ (m:Nat) (l':Lt),(n:Int)=m→r.body[m]?=some l'→aggO l'.op=false):=hid (fun m l' h h2=>by
   obtain rfl:n=m:=by omega
   rw[Hl.out] at h2
   cases h2
   exact hag)
  clear hag
  go_wp2
  go_ret2
  exact⟨.inr (.inl ⟨Hr.out,HN.out,rfl⟩),B2.out⟩
 | true=>
 have Hag:=hid hag
 clear hag
 go_wp2_with fail
 obtain⟨MO,hMO⟩:∃ q,w2.heap.size=q:=⟨_,rfl⟩
 obtain⟨W5,hW5⟩:∃ W,(w2.alloc (.map #[] 0)).alloc (.cells #[.map (some w2.heap.size)] 69)=W:=⟨_,rfl⟩
 have hb5:Below w2.heap.size w2 W5:=by rw[← hW5];exact ((Below.refl _ _).alloc (Nat.le_refl _) _).alloc (by simp) _
 have hm5:MapI Tryz.prog W5 9 3 MO 0 (fun _=>0) 0:=by
  have:=(mapI_made Tryz.prog w2 9 3).alloc (.cells #[.map (some w2.heap.size)] 69)
  rw[hW5,hMO] at this
  exact this
 have hr5:W5.heap[MO+1]?=some (.cells #[.map (some MO)] 69 (0,0)):=by
  have h1:=World.alloc_heap_new (w2.alloc (.map #[] 0)) (.cells #[.map (some w2.heap.size)] 69)
  rw[World.size_alloc,hW5,hMO] at h1
  exact h1
 have hs5:W5.heap.size=MO+2:=by rw[← hW5,← hMO];simp
 have hMw:w.heap.size < MO:=by rw[← hMO];exact hl2
 rw[hW5,hMO]
 have B5:=hid (B2.out.trans (hb5.mono B2.out.size))
 have B15:=hid (B12.out.trans (hb5.mono B12.out.size))
 have Q5:=hid ((hb5.block _ hl2).trans Q2.out)
 have HM5:=hid hm5
 have HR5:=hid hr5
 have HS5:=hid hs5
 clear hb5 hm5 hr5 hs5 hW5 hMO
 have hCF:outF (fun s=>(standZ r s:Int)) l.a.l=outerZ r l.a.l:=(outF_eq r l.a.l).symm
 obtain⟨O,hO⟩:∃ O,outerZ r l.a.l=O:=⟨_,rfl⟩
 have HO:=hid hO
 have HCF:Hid (outF (fun s=>(standZ r s:Int)) l.a.l=O):=hid (hCF.trans hO)
 clear hCF hO
 refine wp_region_any (by kernel_rfl) ?_
 (try (change wpAny _ _ _ _ _ _ _ (World.drew _)))
 refine wpAny_grow slotsO _ _ (factsO w.heap.size W5.heap.size n a r.body.length k1 [.int .i64 l.op,.string l.a.rel,.slice p0 l.a.l.length q0,.int .i64 l.x.op,.string l.x.s,.int .i64 l.x.n,.slice p1 l.x.l.length q1,.int .i64 l.y.op,.string l.y.s,.int .i64 l.y.n,.slice p2 l.y.l.length q2] [.string r.head.rel,.slice o0 r.head.l.length k0,.slice (some a) r.body.length k1,.int .i64 r.line] (fun s=>(standZ r s:Int)) O) (by kernel_rfl) (by kernel_rfl) (by kernel_rfl) (by kernel_rfl) (by kernel_rfl) (factsO_mono _ _ _ _ _ _ _ _ _ _) ⟨?s0,?s1,?s2,?s3,?s4,?s5,?s6,?s7,?s8,?s9,trivial⟩ ?fin
 case s0=>
  intro A w' K hb hfar hd hK
  have e1:A.tmps[2]?.getD undef=.pointer (some ⟨w.heap.size,0,none⟩):=hfar 2 (by decide)
  unfold Oper.wp
  simp[execOp,e1,go_sem,Result.andThen]
  exact hK _ _ (Below.refl _ _) (factG_mk rfl rfl)
 case s1=>
  intro A w' K hb hfar hd hK
  have e1:A.tmps[31]?.getD undef=.pointer (some ⟨w.heap.size,2,none⟩):=hd 0 31 rfl (by kernel_rfl) _ rfl
  have c:w'.cell? ⟨w.heap.size,2,none⟩=some (.slice (some a) r.body.length k1):=row_cells ((hb.block _ (heap_lt Q5.out)).trans Q5.out) 2
  unfold Oper.wp
  simp[execOp,e1,c,go_sem,Result.andThen]
  exact hK _ _ (Below.refl _ _) (factG_mk rfl rfl)
 case s2=>
  intro A w' K hb hfar hd hK
  have e1:A.tmps[1]?.getD undef=.int .i64 (n:Int):=hfar 1 (by decide)
  unfold Oper.wp
  simp[execOp,e1,go_sem,Result.andThen]
  exact hK _ _ (Below.refl _ _) (factG_mk rfl rfl)
 case s3=>
  intro A w' K hb hfar hd hK
  have e1:A.tmps[32]?.getD undef=.slice (some a) r.body.length k1:=hd 1 32 rfl (by kernel_rfl) _ rfl
  have e2:A.tmps[33]?.getD undef=.int .i64 (n:Int):=hd 2 33 rfl (by kernel_rfl) _ rfl
  unfold Oper.wp
  simp[execOp,e1,e2,hn,hn',hn0,go_sem,Result.andThen]
  exact hK _ _ (Below.refl _ _) (factG_mk rfl rfl)
 case s4=>
  intro A w' K hb hfar hd hK
  have e1:A.tmps[34]?.getD undef=.pointer (some (a.add (n * 11))):=hd 3 34 rfl (by kernel_rfl) _ rfl
  obtain⟨c0,c1,c2,c3,c4,c5,c6,c7,c8,c9,c10⟩:=HCC.out w' (B15.out.trans (((Below.refl _ W5).drew.trans hb).mono B15.out.size))
  unfold Oper.wp
  simp[execOp,e1,c0,c1,c2,c3,c4,c5,c6,c7,c8,c9,c10,go_sem,Result.andThen]
  exact hK _ _ (Below.refl _ _) (factG_mk rfl rfl)
 case s5=>
  intro A w' K hb hfar hd hK
  have e1:A.tmps[2]?.getD undef=.pointer (some ⟨w.heap.size,0,none⟩):=hfar 2 (by decide)
  obtain⟨c0,c1,c2,c3⟩:=row4 ((hb.block _ (heap_lt Q5.out)).trans Q5.out)
  unfold Oper.wp
  simp[execOp,e1,c0,c1,c2,c3,go_sem,Result.andThen]
  exact hK _ _ (Below.refl _ _) (factG_mk rfl rfl)
 case s6=>
  intro A w' K hb hfar hd hK
  have e1:A.tmps[36]?.getD undef=.agg #[.string r.head.rel,.slice o0 r.head.l.length k0,.slice (some a) r.body.length k1,.int .i64 r.line]:=hd 5 36 rfl (by kernel_rfl) _ rfl
  have hT:=HSt.out w' (B5.out.trans (((Below.refl _ W5).drew.trans hb).mono B5.out.size))
  unfold Oper.wp
  simp[execOp,e1,go_sem,Result.andThen]
  refine hT.mono ?_
  rintro e3 w3 ⟨M,m,c,rfl,hq,hM,b3⟩
  exact hK _ _ b3 (factG_mk rfl ⟨M,m,c,rfl,Nat.le_trans ((Below.refl _ W5).drew.trans hb).size hq,hM⟩)
 case s7=>
  intro A w' K hb hfar hd hK
  have e1:A.tmps[35]?.getD undef=.agg #[.int .i64 l.op,.string l.a.rel,.slice p0 l.a.l.length q0,.int .i64 l.x.op,.string l.x.s,.int .i64 l.x.n,.slice p1 l.x.l.length q1,.int .i64 l.y.op,.string l.y.s,.int .i64 l.y.n,.slice p2 l.y.l.length q2]:=hd 4 35 rfl (by kernel_rfl) _ rfl
  obtain⟨M,m,c,e2,_,hM⟩:∃ M m c,A.tmps[37]?.getD undef=.map (some M)∧W5.heap.size≤M∧MapI Tryz.prog w' 9 3 M m (fun s=>(standZ r s:Int)) c:=hd 6 37 rfl (by kernel_rfl) _ rfl
  have hbw:=B15.out.trans (((Below.refl _ W5).drew.trans hb).mono B15.out.size)
  have hT:=outerOf_c l _ M m c _ w' ((HcL.out.below hbw).more hbw.size) hM Hll.out
  rw[HCF.out] at hT
  unfold Oper.wp
  simp[execOp,e1,e2,go_sem,Result.andThen]
  refine hT.mono ?_
  rintro e3 w3 ⟨v,rfl,ho,b3⟩
  exact hK _ _ b3 (factG_mk rfl (sl_row (R:=StrC) ho (fun s hs=>⟨rfl,vz_max Hll.out s (by rw[← HCF.out] at hs;exact (List.mem_filter.1 hs).1)⟩)))
 case s8=>
  intro A w' K hb hfar hd hK
  have e1:SlOf w' w'.heap.size 1 StrC O (A.tmps[38]?.getD undef):=hd 7 38 rfl (by kernel_rfl) _ rfl
  obtain⟨o,c,e2,_⟩:=SlOf.uni e1
  unfold Oper.wp
  simp[execOp,e2,go_sem,Result.andThen]
  exact hK _ _ (Below.refl _ _) (factG_mk rfl rfl)
 case s9=>
  intro A w' K hb hfar hd hK
  unfold Oper.wp
  simp[execOp,go_sem,Result.andThen]
  exact hK _ _ (Below.refl _ _) (factG_mk rfl rfl)
 case fin=>
  intro val w6 hF hb
  obtain⟨M,m,c,e6,hMl,_⟩:∃ M m c,val 6=.map (some M)∧W5.heap.size≤M∧MapI Tryz.prog w6 9 3 M m (fun s=>(standZ r s:Int)) c:=hF 6 37 rfl _ rfl
  have e7:SlOf w6 w6.heap.size 1 StrC O (val 7):=hF 7 38 rfl _ rfl
  have e8:val 8=.int .i64 (O.length:Int):=hF 8 39 rfl _ rfl
  have e9:val 9=.int .i64 0:=hF 9 40 rfl _ rfl
  have hb6:Below W5.heap.size W5 w6:=(Below.refl _ W5).drew.trans hb
  have B6:=hid (B5.out.trans (hb6.mono B5.out.size))
  have Q6:=hid ((hb6.block _ (heap_lt Q5.out)).trans Q5.out)
  have HM6:=hid (HM5.out.below hb6 HM5.out.lt)
  have HR6:=hid ((hb6.block _ (heap_lt HR5.out)).trans HR5.out)
  obtain⟨o3,k3,e7',_,_,S3⟩:=SlOf.open e7
  have HSm:Hid (∀ s ∈ O,s.size≤maxLen):=hid (str_sizes e7)
  have HOl:Hid (O.length≤300000):=hid (by
   have h1:=vz_len l.a.l
   have h2:=Hll.out.n
   rw[← HCF.out]
   unfold outF
   exact Nat.le_trans (List.length_filter_le _ _) (by omega))
  simp only[slotsO,putsA,Nat.zero_add,Nat.reduceAdd]
  rw[e7',e8,e9]
  generalize val 0=v0
  generalize val 1=v1
  generalize val 2=v2
  generalize val 3=v3
  generalize val 4=v4
  generalize val 5=v5
  generalize val 6=v6
  clear hF hb e6 hMl e7 e8 e9 e7' hb6
  go_simp
  go_wp2_with fail
  go_loopw [8,40] (fun _ i wr=>∃ (j c:Nat),j≤O.length∧i=.int .i64 j∧MapI Tryz.prog wr 9 3 MO j (fun s=>(cntN (O.take j) s:Int)) c∧w6.grownBy wr (some MO)) (fun _ i _=>O.length - (intOf i).toNat)
  case atStart=>exact⟨0,0,Nat.zero_le _,rfl,by simpa[cntN] using HM6.out,World.grownBy.refl _ _⟩
  case round=>
   obtain⟨j,c,hj,rfl,hM,hg⟩:=hrel
   have HM:=hid hM
   have HG:=hid hg
   have bx:wr.heap[MO+1]?=some (.cells #[.map (some MO)] 69 (0,0)):=mapI_rows HM6.out hg HR6.out
   have bc:wr.cell? ⟨MO+1,0,none⟩=some (.map (some MO)):=row_cells bx 0
   have bl:MO+1 < wr.heap.size:=heap_lt bx
   have HBX:=hid bx
   by_cases hlt:j < O.length
   ·have hlt':(j:Int) < (O.length:Int):=by omega
    have hj0:(0:Int)≤(j:Int):=by omega
    obtain⟨s,hs⟩:∃ s,O[j]?=some s:=⟨O[j],List.getElem?_eq_getElem hlt⟩
    obtain⟨p,rfl,hp,hxs,c0'⟩:=str_at S3 (Below.refl _ _) hs
    have c0:wr.cell? (p.add j)=some (.string s):=mapI_cells HM6.out hg c0'
    have hpl:(p.add j).block < wr.heap.size:=World.block_lt_of_cell? _ _ c0
    obtain⟨L,hL⟩:∃ L,O.take j=L:=⟨_,rfl⟩
    have hL2:O.take (j+1)=L++[s]:=by rw[List.take_add_one,hs,← hL];simp
    have HL2:=hid hL2
    rw[hL] at HM
    have hct:=cntN_le L s.data.toList
    have hLn:L.length≤300000:=by have:=HOl.out;rw[← hL,List.length_take];omega
    have hct0:(0:Int)≤(cntN L s.data.toList:Int):=by omega
    have hct1:(cntN L s.data.toList:Int)≤1000000:=by omega
    have hf:updF (fun s=>(cntN L s:Int)) s.data.toList ((cntN L s.data.toList:Int)+1)=fun n=>(cntN (L++[s]) n:Int):=by
     funext n
     rw[cntN_snoc]
     by_cases e:n=s.data.toList
     ·subst e;rw[updF_same,if_pos rfl];omega
     ·rw[updF_other _ _ e,if_neg (fun h=>e h.symm)];omega
    have Hf:=hid hf
    have Hle:Hid (j < maxLen):=hid (by have:=HOl.out;unfold maxLen;omega)
    have Hne:Hid ((cntN L s.data.toList:Int)+1≠0):=hid (by omega)
    have Hwf:Hid ((Lit.int .i64 ((cntN L s.data.toList:Int)+1)).wf=true):=hid (WalkArith.wf_i64 (by omega))
    clear hM hg hs hL hL2 hf bx hct hLn c0'
    go_wp2_with (first
     | (at_mapUpdate;refine wpList_mapI_put _ rfl _ _ _ 69 rfl 9 3 Tryz.underlying69 Tryz.underlying9 Tryz.underlying3 MO j (fun s=>(cntN L s:Int)) c rfl HM.out Hle.out s ((cntN L s.data.toList:Int)+1) rfl rfl hxs Hne.out Hwf.out ?_;intro w4 hm4 hg4;rw[Hf.out] at hm4;have HM4:=hid hm4;have HG4:=hid hg4;clear hm4 hg4)
     | (at_lookup;refine wpList_mapI_get _ rfl _ _ 69 rfl 9 3 Tryz.underlying69 Tryz.underlying9 Tryz.underlying3 (zE _) MO j (fun s=>(cntN L s:Int)) c rfl HM.out s rfl hxs ?_;intro _))
    go_roundw
    case rel=>exact⟨j+1,_,hlt,by go_num,by rw[HL2.out];exact HM4.out,HG.out.trans HG4.out⟩
    case measure=>simp[intOf];omega
   ·have hlt':¬ (j:Int) < (O.length:Int):=by omega
    have hjO:O.take j=O:=List.take_of_length_le (by omega)
    rw[hjO] at HM
    have BZ:=hid (B6.out.trans (gBelow HG.out (Nat.le_of_lt hMw) B6.out.size))
    have qz:=mapI_rows HM6.out hg Q6.out
    obtain⟨y0,y1,y2,y3⟩:=row4 qz
    have lz:=heap_lt qz
    have HP:=hid (HPk.out wr BZ.out (MO+1) MO j c _ HBX.out HM.out)
    clear hM hg bx qz hjO
    go_wp2_with fail
    refine HP.out.mono ?_
    rintro e9 w9 ⟨v9,rfl,hs9,b9⟩
    obtain⟨o9,c9,rfl,_⟩:=SlOf.uni hs9
    have HS9:=hid hs9
    have B9:=hid (BZ.out.trans (b9.mono BZ.out.size))
    clear hs9 b9
    go_wp2
    go_ret2
    refine⟨.inr (.inr ⟨n,l,_,Hr.out,rfl,Hl.out,Hag.out,rfl,?_⟩),B9.out⟩
    unfold outC
    rw[HO.out]
    exact HS9.out
end Go.Proofs.YtfmldnbcjbflbaaGreatDoor
