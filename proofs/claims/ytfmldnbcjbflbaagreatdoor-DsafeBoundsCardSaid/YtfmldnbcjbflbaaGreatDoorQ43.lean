/- Zbd@1 -/
import Derived.Test.YtfmldnbcjbflbaaGreatDoorQ23
import Derived.Test.YtfmldnbcjbflbaaGreatDoorQ38
set_option linter.unusedSimpArgs false
set_option linter.unusedVariables false
namespace Go.Proofs.YtfmldnbcjbflbaaGreatDoor
open Lib(hid)
open Go.RowKit Go.Shelf
attribute [local go_sem] Oper.semAt_some
theorem stepV_len (past:List Tm) (acc:List ByteArray) (t:Tm):(stepV past acc t).length≤acc.length+1:=by
 unfold stepV
 split <;> simp
theorem namesV_len:∀ (ts past:List Tm) (acc:List ByteArray),(namesV past ts acc).length≤acc.length+ts.length
 | [],_,_=>by simp[namesV]
 | t::ts,past,acc=>by
  have h1:=namesV_len ts (past++[t]) (stepV past acc t)
  have h2:=stepV_len past acc t
  show (namesV (past++[t]) ts (stepV past acc t)).length≤_
  rw[List.length_cons]
  omega
theorem varsA_len6 (r:Ru):(varsA r).length≤(termsR r).length:=by
 unfold varsA varsV
 split
 ·have:=namesV_len (termsR r) [] []
  simpa using this
 ·exact Nat.zero_le _
def byZ (B:Bd) (k:Int) (s:ByteArray):Bool:=hasZ B s && decide (B s.data.toList≤k)
set_option maxRecDepth 100000 in
set_option maxHeartbeats 8000000 in
theorem bound1_c (s:ByteArray) (hs:s.size≤maxLen) (q kb M n c:Nat) (k:Int) (B:Bd) (v:Value) (bb:Bool) (w:World) (hq:w.heap[q]?=some (.cells #[v,.map (some M),.bool bb] 72 (0,0))) (hk:w.heap[kb]?=some (.cells #[.int .i64 k] 3 (0,0))) (hM:MapI Tryz.prog w 9 3 M n B c) :
  Calls Tryz.prog 46 #[.string s,.pointer (some ⟨q,0,none⟩),.pointer (some ⟨kb,0,none⟩)] w fun e w'=>e=.returned (.bool (byZ B k s))∧w'=w:=by
 have zE:∀ w:World,(zeroValue 3).run Tryz.prog w=.ok (.int .i64 0) w:=fun w=>by kernel_rfl
 have hrun:=mapI_run hM 70 Tryz.underlying70 Tryz.underlying9 Tryz.underlying3 (zE _) s hs
 have HC:=hid (has_c s hs M n c B w hM)
 obtain⟨⟨_,y1,_⟩,_⟩:=row3 hq
 have z0:=row_cells hk 0
 have lq:=heap_lt hq
 have lk:=heap_lt hk
 clear hM hq hk
 unfold byZ
 go_enter Tryz.func46,Tryz.ntmps46
 go_wp2_with fail
 refine HC.out.mono ?_
 rintro e1 w1 ⟨rfl,rfl⟩
 cases hh:hasZ B s with
 | false=>
  go_wp2
  go_ret
  exact⟨by simp[hh],rfl⟩
 | true=>
  go_wp2
  go_ret
  exact⟨by simp[hh],rfl⟩
set_option maxRecDepth 100000 in
set_option maxHeartbeats 8000000 in
theorem pick_c (r:Ru) (cs:List Value) (t:Addr) (q kb M n c:Nat) (k:Int) (B:Bd) (v:Value) (bb:Bool) (w:World) (hc:RuC w w.heap.size r cs) (hlen:(termsR r).length≤300000) (hS:∀ t ∈ termsR r,t.s.size≤1000000) (E:TErr t w)
  (hq:w.heap[q]?=some (.cells #[v,.map (some M),.bool bb] 72 (0,0))) (hk:w.heap[kb]?=some (.cells #[.int .i64 k] 3 (0,0))) (hM:MapI Tryz.prog w 9 3 M n B c) :
  Calls Tryz.prog 45 #[.agg cs.toArray,.func (.func 46) #[] #[.pointer (some ⟨q,0,none⟩),.pointer (some ⟨kb,0,none⟩)]] w (VarsR ((varsA r).filter (byZ B k)) w.heap.size w):=by
 obtain⟨o0,k0,o1,k1,rfl,_⟩:=hc.look
 obtain⟨i0,hi,hz0,hz1,hz2⟩:=info_parts info_str
 obtain⟨W1,hW1⟩:∃ W,w.alloc (.cells #[.string r.head.rel,.slice o0 r.head.l.length k0,.slice o1 r.body.length k1,.int .i64 r.line] 37)=W:=⟨_,rfl⟩
 have b1:Below w.heap.size w W1:=by rw[← hW1];exact (Below.refl _ _).alloc (Nat.le_refl _) _
 have HV:=hid (vars_c r _ t W1 ((hc.below b1).more b1.size) (by omega) hS (E.below b1))
 have HF:=hid (fun (W:World) (hb:Below w.heap.size w W) (s:ByteArray) (hs:s.size≤maxLen)=>bound1_c s hs q kb M n c k B v bb W ((hb.block _ (heap_lt hq)).trans hq) ((hb.block _ (heap_lt hk)).trans hk) (hM.below hb hM.lt))
 have HLn:Hid ((varsA r).length≤300000):=hid (Nat.le_trans (varsA_len6 r) hlen)
 have HB1:=hid b1
 have HW1:=hid hW1
 obtain⟨N,hN⟩:∃ N,varsA r=N:=⟨_,rfl⟩
 rw[hN] at HV HLn ⊢
 clear hc hlen hS E hq hk hM b1 hW1 hN
 go_enter Tryz.func45,Tryz.ntmps45
 go_wp2_with fail
 rw[HW1.out]
 refine HV.out.mono ?_
 rintro e2 w2 ⟨v2,rfl,hS2,b2⟩
 have HB2:=hid (HB1.out.trans (b2.mono HB1.out.size))
 have hz1':=HB2.out.size
 obtain⟨o3,k3,rfl,_,_,S3⟩:=SlOf.open hS2
 have HSm:Hid (∀ s ∈ N,s.size≤maxLen):=hid (str_sizes hS2)
 clear b2 hS2 HV
 go_wp2_with fail
 go_loopw [5,7,11] (fun lv _ i wr=>∃ (j:Nat) (acc:List ByteArray),j≤N.length∧i=.int .i64 j∧(N.take j).filter (byZ B k)=acc∧wr.ownsRow w2.heap.size 9 1 lv acc.length (acc.map Value.string)∧Below w2.heap.size w2 wr) (fun _ _ i _=>N.length - (intOf i).toNat)
 case atStart=>exact⟨0,[],Nat.zero_le _,rfl,rfl,World.ownsRow_nil _ _ _ _,Below.refl _ _⟩
 case round=>
  obtain⟨j,acc,hj,rfl,hacc,hO,hB⟩:=hrel
  have Hacc:=hid hacc
  have HO:=hid hO
  have HB:=hid hB
  have hsz:=hB.size
  clear hacc hO
  by_cases hlt:j < N.length
  ·have hlt':(j:Int) < (N.length:Int):=by omega
   have hj0:(0:Int)≤(j:Int):=by omega
   obtain⟨x,hx⟩:∃ x,N[j]?=some x:=⟨N[j],List.getElem?_eq_getElem hlt⟩
   obtain⟨p,rfl,hp,hxs,c0⟩:=str_at S3 hB hx
   have hpl:(p.add j).block < wr.heap.size:=by rw[addBlock];omega
   have Hst:=hid (fil_take (f:=byZ B k) hx)
   have hle:acc.length≤j:=by
    rw[← Hacc.out]
    exact Nat.le_trans (List.length_filter_le _ _) (by rw[List.length_take];omega)
   have HCl:=hid (HF.out wr (HB2.out.trans (hB.mono hz1')) x hxs)
   have HS1:Hid (acc.length+1≤maxLen):=hid (by have:=HLn.out;unfold maxLen;omega)
   have HS2:Hid ((acc.length+1) * 16≤140737488355328):=hid (by have:=HLn.out;omega)
   clear hx hB
   go_wp2_with fail
   refine HCl.out.mono ?_
   rintro e4 w4 ⟨rfl,rfl⟩
   cases hb:byZ B k x with
   | true=>
    have Hst2:Hid ((N.take (j+1)).filter (byZ B k)=acc++[x]):=hid (by rw[Hst.out,Hacc.out,if_pos hb])
    clear hb
    go_wp2_with (at_builtin;refine wpList_append_own _ rfl (.tmp 18) (.tmp 20) 45 rfl w2.heap.size 9 i0 _ 1 16 Tryz.underlying45 hi hz0 hz1 hz2 rfl (by decide) _ acc.length _ rfl (HO.out.alloc _) _ 1 1 [.string x] rfl rfl (news_one _ _ _) (one_str _) HS1.out HS2.out (by simp;omega) ?_;intro v' w6 hown' hgrow _;have HG:=hid (grown_past hgrow);have HO6:=hid hown';clear hgrow hown')
    go_roundw
    case rel=>
     refine⟨j+1,acc++[x],hlt,by go_num,Hst2.out,?_,?_⟩
     ·rw[List.length_append,List.map_append];exact HO6.out
     ·exact HB.out.grown HG.out hsz (fun q hq=>(HO.out.lt q hq).1)
    case measure=>simp[intOf];omega
   | false=>
    have Hst2:Hid ((N.take (j+1)).filter (byZ B k)=acc):=hid (by rw[Hst.out,Hacc.out,if_neg (by rw[hb];decide),List.append_nil])
    clear hb
    go_wp2
    go_roundw
    case rel=>exact⟨j+1,acc,hlt,by go_num,Hst2.out,HO.out,HB.out⟩
    case measure=>simp[intOf];omega
  ·have hlt':¬ (j:Int) < (N.length:Int):=by omega
   have hN2:N.filter (byZ B k)=acc:=by rw[← Hacc.out,List.take_of_length_le (by omega)]
   have hS:=sl_row (R:=StrC) (l:=acc) HO.out (fun s hs=>⟨rfl,HSm.out s (by rw[← hN2] at hs;exact (List.mem_filter.1 hs).1)⟩)
   rw[← hN2] at hS
   have HS:=hid hS
   have HBz:=hid (HB2.out.trans (HB.out.mono hz1'))
   obtain⟨oq,kq,rfl⟩:=own_shape HO.out
   clear hS hN2 hB
   go_wp2
   go_ret
   exact⟨_,rfl,HS.out,HBz.out⟩
end Go.Proofs.YtfmldnbcjbflbaaGreatDoor
