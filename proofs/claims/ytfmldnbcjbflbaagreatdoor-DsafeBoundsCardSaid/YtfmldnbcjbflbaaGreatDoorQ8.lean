/- Yvis@12, Yeach@12 -/
import Derived.Test.YtfmldnbcjbflbaaGreatDoorQ6
set_option linter.unusedSimpArgs false
set_option linter.unusedVariables false
namespace Go.Proofs.YtfmldnbcjbflbaaGreatDoor
open Lib(hid)
open Go.RowKit Go.Shelf
attribute [local go_sem] Oper.semAt_some
theorem subTs_pre {l:List Tm} (k:Nat):subTs (l.take k) <+: subTs l:=⟨subTs (l.drop k),by rw[← subTs_app,List.take_append_drop]⟩
section
variable {w0:World} {n₀:Nat} {G:Tm→Prop}
def YPost (S:World→Nat→Prop) (J Jx:List (Ne w0 n₀ G)→World→Prop) (l:List Tm) (pre:List (Ne w0 n₀ G)) (W:World) (e:Ending) (W':World):Prop:=
 (e=.returned (.bool true)∧(∃ ys:List (Ne w0 n₀ G),ys.map Ne.t=subTs l∧J (pre++ys) W')∧KO S W W')∨(e=.returned (.bool false)∧∃ ys:List (Ne w0 n₀ G),ys.map Ne.t <+: subTs l∧Jx (pre++ys) W')
def YVisit (lb N:Nat) (S:World→Nat→Prop) (J Jx:List (Ne w0 n₀ G)→World→Prop) (l:List Tm):Prop:=
 ∀ (n:Nat) (W:World) (v:Value) (pre:List (Ne w0 n₀ G)),Safe S w0 W→(∀ i,S W i→i < W.heap.size)→SlSafe S w0 n₀ W l v→(∀ t ∈ subTs l,G t)→J pre W→pre.length+(subTs l).length≤N →
  CallsIn Fence.wide n Tryz.prog 128 #[v,.func (.yield lb) #[] #[]] W (YPost S J Jx l pre W)
set_option maxRecDepth 100000 in
set_option maxHeartbeats 8000000 in
theorem yvisit_list (lb N:Nat) (S:World→Nat→Prop) (J Jx:List (Ne w0 n₀ G)→World→Prop)
  (hG:SGrow S) (hJg:∀ pre W W',J pre W→Below W.heap.size W W'→J pre W')
  (hY:∀ m pre (x:Ne w0 n₀ G) W,J pre W→pre.length < N→YieldAt Fence.wide m Tryz.prog lb x.enc W fun e W'=>(e=.returned (.bool true)∧J (pre++[x]) W'∧KO S W W')∨(e=.returned (.bool false)∧Jx (pre++[x]) W'))
  (l:List Tm) (IH:∀ t ∈ l,YVisit lb N S J Jx t.l):YVisit lb N S J Jx l:=by
 intro n W v pre hT hw hS hGd hJ hN
 obtain⟨o1,cap1,rfl,hc1,hm1,hS1⟩:=hS
 have S1:=hid hS1
 have HI:=hid IH
 have HJ:=hid hJg
 have HW:=hid hw
 have HY:=hid hY
 have HT:=hid hT
 have K0:Hid (KO S W W):=hid (KO.refl S W)
 have J0:=hid hJ
 clear IH hJg hY hS1 hT hw
 refine callsIn_of_wp Tryz.func128 rfl trivial ?_ rfl
 simp only[Tryz.ntmps128,List.size_toArray,List.length_cons,List.length_nil,Nat.reduceAdd,Nat.reduceSub,Array.replicate_succ,Array.replicate_zero,List.push_toArray,List.append_toArray,List.nil_append,List.cons_append]
 gi_wp2
 gi_loopw [9] (fun i wr=>∃ (k:Nat) (ys:List (Ne w0 n₀ G)),k≤l.length∧i=.int .i64 k∧ys.map Ne.t=subTs (l.take k)∧J (pre++ys) wr∧KO S W wr) (fun i _=>l.length - (intOf i).toNat)
 case atStart=>exact⟨0,[],Nat.zero_le _,rfl,by simp[subTs],by simpa using J0.out,K0.out⟩
 case round=>
  obtain⟨k,ys,hk,rfl,hys,hJk,hkk⟩:=hrel
  have Hys:=hid hys
  clear hys
  have hTr:Safe S w0 wr:=HT.out.ko hkk
  have hwr:=hkk.wf HW.out
  by_cases hlt:k < l.length
  ·have hlt':(k:Int) < (l.length:Int):=by omega
   have hk0:(0:Int)≤(k:Int):=by omega
   obtain⟨u,hu⟩:∃ u,l[k]?=some u:=⟨l[k],List.getElem?_eq_getElem hlt⟩
   obtain⟨a,p2,q2,rfl,hal,Hc,c0,c1,c2,c3⟩:=ne_at S1 hkk hu
   have Htk:=hid (subTs_take hu)
   have Hm:=hid (List.mem_of_getElem? hu)
   have hlen:(pre++ys).length+(u::subTs u.l).length≤N:=by
    have h1:=congrArg List.length Hys.out
    have h2:=(subTs_pre (l:=l) (k+1)).length_le
    rw[Htk.out] at h2
    simp only[List.length_map,List.length_append,List.length_cons] at h1 h2 hN ⊢
    omega
   have Hlen:=hid hlen
   obtain⟨V,hV⟩:∃ V,wr.alloc (.cells #[.int .i64 u.op,.string u.s,.int .i64 u.n,.slice p2 u.l.length q2] 51)=V:=⟨_,rfl⟩
   have hbV:Below wr.heap.size wr V:=by rw[← hV];exact (Below.refl _ _).alloc (Nat.le_refl _) _
   have JV:=HJ.out _ _ _ hJk hbV
   have KV:=KO.of_below hG hwr hbV
   have hnS:¬ S V wr.heap.size:=fun hs=>Nat.lt_irrefl _ (hwr _ (hG _ _ hwr hbV _ hs))
   have hsV:V.heap.size=wr.heap.size+1:=by rw[← hV];simp
   have hrow:V.heap[wr.heap.size]?=some (.cells #[.int .i64 u.op,.string u.s,.int .i64 u.n,.slice p2 u.l.length q2] 51 (0,0)):=by rw[← hV];exact World.alloc_heap_new wr _
   have d0:V.cell? ⟨wr.heap.size,0,none⟩=some (.int .i64 u.op):=by unfold World.cell?;rw[hrow];rfl
   have d1:V.cell? ⟨wr.heap.size,1,none⟩=some (.string u.s):=by unfold World.cell?;rw[hrow];rfl
   have d2:V.cell? ⟨wr.heap.size,2,none⟩=some (.int .i64 u.n):=by unfold World.cell?;rw[hrow];rfl
   have d3:V.cell? ⟨wr.heap.size,3,none⟩=some (.slice p2 u.l.length q2):=by unfold World.cell?;rw[hrow];rfl
   have hsub:∀ t,t=u∨t ∈ subTs u.l→t ∈ subTs l:=fun t h=>(subTs_pre (l:=l) (k+1)).subset (by rw[Htk.out];exact List.mem_append_right _ (List.mem_cons.2 h))
   have Hsub:=hid hsub
   have hgu:=hGd u (hsub u (.inl rfl))
   clear hsub
   obtain⟨x,hx⟩:∃ x:Ne w0 n₀ G,x=⟨u,_,Hc.out,hgu⟩:=⟨_,rfl⟩
   have hxe:x.enc=#[.agg #[.int .i64 u.op,.string u.s,.int .i64 u.n,.slice p2 u.l.length q2]]:=by rw[hx];rfl
   have hxt:x.t=u:=by rw[hx]
   obtain⟨fn,tmps,assign,body,hy,hR⟩:=HY.out (n - 1) (pre++ys) x V JV (by have:=Hlen.out;simp only[List.length_append,List.length_cons] at this ⊢;omega)
   rw[hxe] at hy
   have KVr:=hid (hkk.trans KV)
   have Hrow:=hid hrow
   have HnS:=hid hnS
   have HsV:=hid hsV
   have Hxt:=hid hxt
   have HSu:=hid (tmc_sl Hc.out)
   clear hu hx hxe hxt hkk KV hnS hrow hbV hTr hJk JV hlen hwr
   have pfx:subTs (l.take k)++(u::subTs u.l) <+: subTs l:=by rw[← Htk.out];exact subTs_pre (k+1)
   have Pfx:=hid pfx
   clear pfx
   gi_wp2
   refine⟨fun h=>(by cases h),hR.mono ?_⟩
   rintro e W1 (⟨rfl,hJ2,hk2⟩ | ⟨rfl,hx2⟩)
   ·have e3:W1.cell? ⟨wr.heap.size,3,none⟩=some (.slice p2 u.l.length q2):=hk2.cell d3 HnS.out
    have hK2:=hid (KVr.out.trans hk2)
    have hTr2:Safe S w0 W1:=HT.out.ko hK2.out
    have hlr:wr.heap.size < W1.heap.size:=by have:=hk2.size;have:=HsV.out;omega
    have HC:=hid (HI.out u Hm.out (n - 1) W1 _ (pre++ys++[x]) hTr2 (hK2.out.wf HW.out) (slSafe_of HSu.out hTr2) (fun t h=>hGd t (Hsub.out t (.inr h))) hJ2 (by have:=Hlen.out;simp only[List.length_append,List.length_cons,List.length_nil] at this ⊢;omega))
    clear hTr2 hJ2 hk2 c0 c1 c2 c3 d0 d1 d2 d3
    gi_wp2_with fail
    refine⟨trivial,fun h=>(by cases h),HC.out.mono ?_⟩
    rintro e W2 (⟨rfl,⟨zs,hz,hJ3⟩,hk3⟩ | ⟨rfl,zs,hz,hx3⟩)
    ·have Hz:=hid hz
     have HJ3:=hid hJ3
     have HK3:=hid (hK2.out.trans hk3)
     clear hz hJ3 hk3
     gi_wp2
     go_roundw
     case rel=>
      exact⟨k+1,ys++x::zs,hlt,by go_num,by rw[List.map_append,List.map_cons,Hys.out,Hz.out,Hxt.out,Htk.out],by have:=HJ3.out;simpa using this,HK3.out⟩
     case measure=>simp[intOf];omega
    ·have Hz:=hid hz
     have HX3:=hid hx3
     clear hz hx3
     gi_wp2
     go_ret
     refine .inr ⟨rfl,ys++x::zs,?_,by have:=HX3.out;simpa using this⟩
     rw[List.map_append,List.map_cons,Hys.out,Hxt.out]
     obtain⟨r,hr⟩:=Hz.out
     obtain⟨r2,hr2⟩:=Pfx.out
     exact⟨r++r2,by rw[← hr2,← hr];simp⟩
   ·have HX2:=hid hx2
    clear hx2 c0 c1 c2 c3 d0 d1 d2 d3
    gi_wp2
    refine⟨trivial,?_⟩
    gi_wp2
    go_ret
    refine .inr ⟨rfl,ys++[x],?_,by have:=HX2.out;simpa using this⟩
    rw[List.map_append,Hys.out,List.map_cons,List.map_nil,Hxt.out]
    obtain⟨r2,hr2⟩:=Pfx.out
    exact⟨subTs u.l++r2,by rw[← hr2];simp⟩
  ·have hlt':¬ (k:Int) < (l.length:Int):=by omega
   gi_wp2
   go_ret
   refine .inl ⟨rfl,⟨ys,?_,hJk⟩,hkk⟩
   rw[Hys.out,List.take_of_length_le (by omega)]
theorem yvisit_in (lb N:Nat) (S:World→Nat→Prop) (J Jx:List (Ne w0 n₀ G)→World→Prop)
  (hG:SGrow S) (hJg:∀ pre W W',J pre W→Below W.heap.size W W'→J pre W')
  (hY:∀ m pre (x:Ne w0 n₀ G) W,J pre W→pre.length < N→YieldAt Fence.wide m Tryz.prog lb x.enc W fun e W'=>(e=.returned (.bool true)∧J (pre++[x]) W'∧KO S W W')∨(e=.returned (.bool false)∧Jx (pre++[x]) W'))
  (l:List Tm):YVisit lb N S J Jx l:=by
 have all:∀ t:Tm,YVisit lb N S J Jx t.l:=by
  intro t
  induction t using Tm.rec (motive_2:=fun ts=>∀ t ∈ ts,YVisit lb N S J Jx t.l) with
  | nil x hx=>simp at hx
  | cons t ts ih ihs x hx=>
   rcases List.mem_cons.1 hx with rfl | hx
   ·exact ih
   ·exact ihs x hx
  | mk op s m ts ih=>exact yvisit_list lb N S J Jx hG hJg hY ts ih
 exact yvisit_list lb N S J Jx hG hJg hY l fun t _=>all t
end
end Go.Proofs.YtfmldnbcjbflbaaGreatDoor
namespace Go.Proofs.YtfmldnbcjbflbaaGreatDoor
open Lib(hid)
open Go.RowKit Go.Shelf
attribute [local go_sem] Oper.semAt_some
theorem lt_ko {S:World→Nat→Prop} {w0 wr:World} {n₀:Nat} {l:List Lt} {o:Option Addr} {k:Nat} {t:Lt} (h:Hid (SlIn w0 n₀ 11 (LtC w0 n₀) l o)) (hs:Safe S w0 wr) (ht:l[k]?=some t) :
  ∃ a o0 k0 o1 k1 o2 k2,o=some a∧(a.add (k * 11)).block < wr.heap.size∧Hid (LtC w0 n₀ t [.int .i64 t.op,.string t.a.rel,.slice o0 t.a.l.length k0,.int .i64 t.x.op,.string t.x.s,.int .i64 t.x.n,.slice o1 t.x.l.length k1,.int .i64 t.y.op,.string t.y.s,.int .i64 t.y.n,.slice o2 t.y.l.length k2]) ∧
   CellsAt wr a (k * 11) [.int .i64 t.op,.string t.a.rel,.slice o0 t.a.l.length k0,.int .i64 t.x.op,.string t.x.s,.int .i64 t.x.n,.slice o1 t.x.l.length k1,.int .i64 t.y.op,.string t.y.s,.int .i64 t.y.n,.slice o2 t.y.l.length k2]:=by
 obtain⟨a,cs,rfl,_,_,h1,h2⟩:=h.out k t ht
 obtain⟨o0,k0,o1,k1,o2,k2,rfl,_⟩:=h1.look
 have hc:CellsAt wr a (k * 11) _:=fun j c hj=>(hs _ _ (h2 j c hj)).1
 exact⟨a,o0,k0,o1,k1,o2,k2,rfl,(hs _ _ (h2 0 _ rfl)).2.1,hid h1,hc⟩
theorem yeach_in (n:Nat) (r:Ru) (cs:List Value) (w:World) (hc:RuC w w.heap.size r cs) :
  CallsIn Fence.wide n Tryz.prog 91 #[.agg cs.toArray] w fun e w'=>e=.returned (.func (.func 127) #[] #[.pointer (some ⟨w.heap.size,0,none⟩)])∧w'=w.alloc (.cells cs.toArray 37):=by
 obtain⟨o0,k0,o1,k1,rfl,_⟩:=hc.look
 clear hc
 refine callsIn_of_wp Tryz.func91 rfl trivial ?_ rfl
 simp only[Tryz.ntmps91,List.size_toArray,List.length_cons,List.length_nil,Nat.reduceAdd,Nat.reduceSub,Array.replicate_succ,Array.replicate_zero,List.push_toArray,List.append_toArray,List.nil_append,List.cons_append]
 gi_wp2
 go_ret
 exact⟨rfl,rfl⟩
set_option maxRecDepth 100000 in
set_option maxHeartbeats 4000000 in
theorem yeach_stops {G:Tm→Prop} (n B n₀:Nat) (r:Ru) (cs:List Value) (w0 w:World) (S:World→Nat→Prop) (hG:SGrow S) (hs:Safe S w0 w) (hw:∀ i,S w i→i < w.heap.size) (hB:CellsAt w0 ⟨B,0,none⟩ 0 cs) (hc:RuC w0 n₀ r cs) (hGd:∀ t ∈ termsR r,G t) :
  SeqStopsK Fence.wide n Tryz.prog 127 #[.pointer (some ⟨B,0,none⟩)] (Ne.enc (w:=w0) (B:=n₀) (G:=G)) (KO S) (fun ys=>ys.map Ne.t=termsR r) (fun pre=>pre.map Ne.t <+: termsR r) (termsR r).length w:=by
 intro l J Jx W hW hJ _ hY h0
 have hKW:=KO.of_below hG hw hW
 have hs1:=hs.ko hKW
 have hw1:=hKW.wf hw
 have hJg:∀ pre W W',J pre W→Below W.heap.size W W'→J pre W':=fun pre W W' h hb=>hJ pre W W' none h (grownBelow hb) (fun _ e=>by cases e)
 have HV:=hid (fun (ts:List Tm)=>yvisit_in (w0:=w0) (n₀:=n₀) (G:=G) l (termsR r).length S J Jx hG hJg (fun m pre x W hj hl=>yieldAny rfl m (hY pre x W hj hl)) ts)
 obtain⟨o0,k0,o1,k1,rfl,_,hA,hL⟩:=hc.look
 obtain⟨_,_,e1,_,hT⟩:=hA.look
 obtain⟨rfl,rfl⟩:_∧_:=by simpa using e1
 obtain⟨_,_,e2,hb1,hb2,SL⟩:=SlOf.open hL
 cases e2
 have hBW:CellsAt W ⟨B,0,none⟩ 0 _:=fun j c hj=>(hs1 _ _ (hB j c hj)).1
 obtain⟨c0,c1,c2,c3⟩:=hBW.four
 have ea:(⟨B,0,none⟩:Addr).add 0=⟨B,0,none⟩:=by unfold Addr.add;simp
 simp only[ea,Nat.zero_add] at c0 c1 c2 c3
 have hBl:B < W.heap.size:=World.block_lt_of_cell? _ _ c0
 have Hs:=hid hs1
 have Hw:=hid hw1
 have HJg:=hid hJg
 have HT:=hid hT
 have HBW:=hid hB
 have H0:=hid h0
 have HtR:Hid (termsR r=subTs r.head.l++r.body.flatMap litTs):=hid rfl
 have HC:=hid (HV.out r.head.l (n - 1) W _ [] hs1 hw1 (slSafe_of hT hs1) (fun t h=>hGd t (List.mem_append_left _ h)) h0 (by simp[termsR]))
 clear hKW hs1 hw1 hJg hA hL hT hBW hB hc hY hJ h0 hs hw hW ea
 refine callsIn_of_wp Tryz.func127 rfl trivial ?_ rfl
 simp only[Tryz.ntmps127,List.size_toArray,List.length_cons,List.length_nil,Nat.reduceAdd,Nat.reduceSub,Array.replicate_succ,Array.replicate_zero,List.push_toArray,List.append_toArray,List.nil_append,List.cons_append]
 gi_wp2_with fail
 refine⟨trivial,fun h=>(by cases h),HC.out.mono ?_⟩
 rintro e W1 (⟨rfl,⟨ys,hys,hJ1⟩,hk1⟩ | ⟨rfl,ys,hys,hx⟩)
 ·have Hk1:=hid hk1
  have hB1:CellsAt W1 ⟨B,0,none⟩ 0 _:=fun j c hj=>(Hs.out.ko hk1 _ _ (HBW.out j c hj)).1
  obtain⟨f0,f1,f2,f3⟩:=hB1.four
  have ea:(⟨B,0,none⟩:Addr).add 0=⟨B,0,none⟩:=by unfold Addr.add;simp
  simp only[ea,Nat.zero_add] at f0 f1 f2 f3
  have hBl1:B < W1.heap.size:=World.block_lt_of_cell? _ _ f0
  have Hys:=hid hys
  have HJ1:=hid hJ1
  clear hk1 hys hJ1 c0 c1 c2 c3 hB1 ea
  gi_wp2
  gi_loopw [14] (fun i wr=>∃ (k:Nat) (ys:List (Ne w0 n₀ G)),k≤r.body.length∧i=.int .i64 k∧ys.map Ne.t=subTs r.head.l++(r.body.take k).flatMap litTs∧J ys wr∧KO S W wr) (fun i _=>r.body.length - (intOf i).toNat)
  case atStart=>exact⟨0,ys,Nat.zero_le _,rfl,by simpa using Hys.out,by simpa using HJ1.out,Hk1.out⟩
  case round=>
   obtain⟨k,ys,hk,rfl,hys,hJk,hkk⟩:=hrel
   have Hyk:=hid hys
   have hsr:=Hs.out.ko hkk
   have hwr:=hkk.wf Hw.out
   by_cases hlt:k < r.body.length
   ·have hlt':(k:Int) < (r.body.length:Int):=by omega
    have hk0:(0:Int)≤(k:Int):=by omega
    obtain⟨u,hu⟩:∃ u,r.body[k]?=some u:=⟨r.body[k],List.getElem?_eq_getElem hlt⟩
    obtain⟨a,p0,q0,p1,q1,p2,q2,rfl,hal,Hc,hca⟩:=lt_ko SL hsr hu
    obtain⟨c0,c1,c2,c3,c4,c5,c6,c7,c8,c9,c10⟩:=hca.n11
    obtain⟨_,_,_,_,_,_,ec,_,hA,hX,hY⟩:=Hc.out.look
    simp only[List.cons.injEq,Value.slice.injEq,true_and,and_true] at ec
    obtain⟨⟨rfl,rfl⟩,⟨rfl,rfl⟩,rfl,rfl⟩:=ec
    obtain⟨_,_,ea,_,hTa⟩:=hA.look
    simp only[List.cons.injEq,Value.slice.injEq,true_and,and_true] at ea
    obtain⟨rfl,rfl⟩:=ea
    have Htk:=hid (termsR_take hu)
    have hlen:ys.length+(litTs u).length≤(termsR r).length:=by
     have h1:=congrArg List.length Hyk.out
     have h2:=(termsR_pre r.body (k+1)).length_le
     rw[Htk.out] at h2
     rw[HtR.out]
     simp only[List.length_map,List.length_append] at h1 h2 ⊢
     omega
    have pfx:subTs r.head.l++(r.body.take k).flatMap litTs++litTs u <+: termsR r:=by
     rw[HtR.out,List.append_assoc,← Htk.out]
     obtain⟨r2,hr2⟩:=termsR_pre r.body (k+1)
     exact⟨r2,by rw[List.append_assoc,hr2]⟩
    have Hlen:=hid hlen
    have Pfx:=hid pfx
    obtain⟨V1,hV1⟩:∃ V1,wr.alloc (.cells #[.int .i64 u.op,.string u.a.rel,.slice p0 u.a.l.length q0,.int .i64 u.x.op,.string u.x.s,.int .i64 u.x.n,.slice p1 u.x.l.length q1,.int .i64 u.y.op,.string u.y.s,.int .i64 u.y.n,.slice p2 u.y.l.length q2] 56)=V1:=⟨_,rfl⟩
    have hb1:Below wr.heap.size wr V1:=by rw[← hV1];exact (Below.refl _ _).alloc (Nat.le_refl _) _
    have hrow1:V1.heap[wr.heap.size]?=some (.cells #[.int .i64 u.op,.string u.a.rel,.slice p0 u.a.l.length q0,.int .i64 u.x.op,.string u.x.s,.int .i64 u.x.n,.slice p1 u.x.l.length q1,.int .i64 u.y.op,.string u.y.s,.int .i64 u.y.n,.slice p2 u.y.l.length q2] 56 (0,0)):=by rw[← hV1];exact World.alloc_heap_new wr _
    have hsz1:V1.heap.size=wr.heap.size+1:=by rw[← hV1];simp
    have K1:=KO.of_below hG hwr hb1
    have hw1:=K1.wf hwr
    obtain⟨V2,hV2⟩:∃ V2,V1.alloc (.cells #[.int .i64 u.x.op,.string u.x.s,.int .i64 u.x.n,.slice p1 u.x.l.length q1,.int .i64 u.y.op,.string u.y.s,.int .i64 u.y.n,.slice p2 u.y.l.length q2] 51)=V2:=⟨_,rfl⟩
    have hb2:Below V1.heap.size V1 V2:=by rw[← hV2];exact (Below.refl _ _).alloc (Nat.le_refl _) _
    have hrow2:V2.heap[V1.heap.size]?=some (.cells #[.int .i64 u.x.op,.string u.x.s,.int .i64 u.x.n,.slice p1 u.x.l.length q1,.int .i64 u.y.op,.string u.y.s,.int .i64 u.y.n,.slice p2 u.y.l.length q2] 51 (0,0)):=by rw[← hV2];exact World.alloc_heap_new V1 _
    have hsz2:V2.heap.size=V1.heap.size+1:=by rw[← hV2];simp
    have K2:=KO.of_below hG hw1 hb2
    have hw2:=K2.wf hw1
    have nS1:¬ S V2 wr.heap.size:=fun h=>Nat.lt_irrefl _ (hwr _ (hG _ _ hwr hb1 _ (hG _ _ hw1 hb2 _ h)))
    have nS2:¬ S V2 V1.heap.size:=fun h=>Nat.lt_irrefl _ (hw1 _ (hG _ _ hw1 hb2 _ h))
    have SS:SlSafe S w0 n₀ V2 [u.x,u.y] (.slice (some ⟨V1.heap.size,0,none⟩) 2 2):=by
     refine⟨_,2,rfl,Nat.le_refl _,by decide,fun i x hx=>?_⟩
     have news:=World.news_of_block hrow2
     match i,hx with
     | 0,hx=>
      obtain rfl:u.x=x:=by simpa using hx
      refine⟨_,_,rfl,hX,fun j c hj=>news (0 * 4+j) c ?_,nS2⟩
      rcases j with _ | _ | _ | _ | j <;> simp_all
     | 1,hx=>
      obtain rfl:u.y=x:=by simpa using hx
      refine⟨_,_,rfl,hY,fun j c hj=>news (1 * 4+j) c ?_,nS2⟩
      rcases j with _ | _ | _ | _ | j <;> simp_all
     | i+2,hx=>simp at hx
    rw[hsz1] at SS
    have K02:=hid (hkk.trans (K1.trans K2))
    have JV:=HJg.out _ _ _ (HJg.out _ _ _ hJk hb1) hb2
    have d0:V1.cell? ⟨wr.heap.size,0,none⟩=some (.int .i64 u.op):=by unfold World.cell?;rw[hrow1];rfl
    have d1:V1.cell? ⟨wr.heap.size,1,none⟩=some (.string u.a.rel):=by unfold World.cell?;rw[hrow1];rfl
    have d2:V1.cell? ⟨wr.heap.size,2,none⟩=some (.slice p0 u.a.l.length q0):=by unfold World.cell?;rw[hrow1];rfl
    have d3:V1.cell? ⟨wr.heap.size,3,none⟩=some (.int .i64 u.x.op):=by unfold World.cell?;rw[hrow1];rfl
    have d4:V1.cell? ⟨wr.heap.size,4,none⟩=some (.string u.x.s):=by unfold World.cell?;rw[hrow1];rfl
    have d5:V1.cell? ⟨wr.heap.size,5,none⟩=some (.int .i64 u.x.n):=by unfold World.cell?;rw[hrow1];rfl
    have d6:V1.cell? ⟨wr.heap.size,6,none⟩=some (.slice p1 u.x.l.length q1):=by unfold World.cell?;rw[hrow1];rfl
    have d7:V1.cell? ⟨wr.heap.size,7,none⟩=some (.int .i64 u.y.op):=by unfold World.cell?;rw[hrow1];rfl
    have d8:V1.cell? ⟨wr.heap.size,8,none⟩=some (.string u.y.s):=by unfold World.cell?;rw[hrow1];rfl
    have d9:V1.cell? ⟨wr.heap.size,9,none⟩=some (.int .i64 u.y.n):=by unfold World.cell?;rw[hrow1];rfl
    have d10:V1.cell? ⟨wr.heap.size,10,none⟩=some (.slice p2 u.y.l.length q2):=by unfold World.cell?;rw[hrow1];rfl
    have m2:V2.cell? ⟨wr.heap.size,2,none⟩=some (.slice p0 u.a.l.length q0):=(hb2.cell (p:=⟨wr.heap.size,2,none⟩) (by show wr.heap.size < _;omega)).trans d2
    have M2:=hid m2
    have HC1:=hid (HV.out [u.x,u.y] (n - 1) V2 _ ys (Hs.out.ko K02.out) hw2 SS (fun t h=>hGd t (Pfx.out.subset (List.mem_append_right _ (List.mem_append_left _ h)))) JV (by have:=Hlen.out;unfold litTs at this;simp only[List.length_append] at this;omega))
    have HTa:=hid hTa
    have NS1:=hid nS1
    have hszV:wr.heap.size < V1.heap.size:=by omega
    have hszW:wr.heap.size < V2.heap.size:=by omega
    clear hys hJk hkk hsr hwr hu Hc hca hA hX hY hTa hlen pfx hb1 hrow1 K1 hw1 hb2 hrow2 K2 hw2 nS1 nS2 SS JV m2
    gi_wp2_with fail
    refine⟨trivial,fun h=>(by cases h),HC1.out.mono ?_⟩
    rintro e W2 (⟨rfl,⟨zs,hz,hJ2⟩,hk2⟩ | ⟨rfl,zs,hz,hx2⟩)
    ·have e2:W2.cell? ⟨wr.heap.size,2,none⟩=some (.slice p0 u.a.l.length q0):=hk2.cell M2.out NS1.out
     have K22:=hid (K02.out.trans hk2)
     have hlr:wr.heap.size < W2.heap.size:=by have:=hk2.size;omega
     have hzl:zs.length=(subTs [u.x,u.y]).length:=by rw[← hz,List.length_map]
     have HC2:=hid (HV.out u.a.l (n - 1) W2 _ (ys++zs) (Hs.out.ko K22.out) (K22.out.wf Hw.out) (slSafe_of HTa.out (Hs.out.ko K22.out)) (fun t h=>hGd t (Pfx.out.subset (List.mem_append_right _ (List.mem_append_right _ h)))) hJ2 (by have:=Hlen.out;unfold litTs at this;simp only[List.length_append] at this ⊢;omega))
     have Hz:=hid hz
     clear hz hJ2 hk2 c0 c1 c2 c3 c4 c5 c6 c7 c8 c9 c10 d0 d1 d2 d3 d4 d5 d6 d7 d8 d9 d10
     gi_wp2_with fail
     refine⟨trivial,fun h=>(by cases h),HC2.out.mono ?_⟩
     rintro e W3 (⟨rfl,⟨vs,hv,hJ3⟩,hk3⟩ | ⟨rfl,vs,hv,hx3⟩)
     ·have Hv:=hid hv
      have HJ3:=hid hJ3
      have K33:=hid (K22.out.trans hk3)
      clear hv hJ3 hk3 e2
      gi_wp2
      go_roundw
      case rel=>
       refine⟨k+1,ys++zs++vs,hlt,by go_num,?_,HJ3.out,K33.out⟩
       rw[List.map_append,List.map_append,Hyk.out,Hz.out,Hv.out,Htk.out]
       unfold litTs
       simp only[List.append_assoc]
      case measure=>simp[intOf];omega
     ·have Hv:=hid hv
      have HX3:=hid hx3
      clear hv hx3 e2
      gi_wp2
      refine bodyPost_ret (results_none rfl _ _ _) rfl ?_
      refine⟨⟨_,rfl⟩,.inr ⟨ys++zs++vs,?_,HX3.out⟩⟩
      rw[List.map_append,List.map_append,Hyk.out,Hz.out]
      obtain⟨r1,hr1⟩:=Hv.out
      obtain⟨r2,hr2⟩:=Pfx.out
      refine⟨r1++r2,?_⟩
      rw[← hr2]
      unfold litTs
      rw[← hr1]
      simp only[List.append_assoc]
    ·have Hz:=hid hz
     have HX2:=hid hx2
     clear hz hx2 c0 c1 c2 c3 c4 c5 c6 c7 c8 c9 c10 d0 d1 d2 d3 d4 d5 d6 d7 d8 d9 d10
     gi_wp2
     refine⟨trivial,?_⟩
     gi_wp2
     refine bodyPost_ret (results_none rfl _ _ _) rfl ?_
     refine⟨⟨_,rfl⟩,.inr ⟨ys++zs,?_,HX2.out⟩⟩
     rw[List.map_append,Hyk.out]
     obtain⟨r1,hr1⟩:=Hz.out
     obtain⟨r2,hr2⟩:=Pfx.out
     refine⟨r1++(subTs u.a.l++r2),?_⟩
     rw[← hr2]
     unfold litTs
     rw[← hr1]
     simp only[List.append_assoc]
   ·have hlt':¬ (k:Int) < (r.body.length:Int):=by omega
    have HJk:=hid hJk
    clear hJk hkk hsr hwr hys
    gi_wp2
    go_end0
    refine⟨⟨_,rfl⟩,.inl ⟨ys,?_,HJk.out⟩⟩
    rw[Hyk.out,HtR.out,List.take_of_length_le (by omega)]
 ·have Hys:=hid hys
  have HX:=hid hx
  clear hys hx
  gi_wp2
  refine bodyPost_ret (results_none rfl _ _ _) rfl ?_
  refine⟨⟨_,rfl⟩,.inr ⟨ys,?_,by simpa using HX.out⟩⟩
  rw[HtR.out]
  exact Hys.out.trans (List.prefix_append _ _)
end Go.Proofs.YtfmldnbcjbflbaaGreatDoor
