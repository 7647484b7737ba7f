/- Yeach@0123 -/
import Derived.Deep.AppendLies
import Derived.Test.YtakpgcmfjlbcgaaGreatDoorQ9
import Derived.Test.YtakpgcmfjlbcgaaGreatDoorQ10
set_option linter.unusedSimpArgs false
set_option linter.unusedVariables false
namespace Go.Proofs.YtakpgcmfjlbcgaaGreatDoor
open Lib(hid)
open Go.RowKit Go.Shelf
attribute [local go_sem] Oper.semAt_some
def litTs (l:Lt):List Tm:=subTs [l.x,l.y]++subTs l.a.l
def termsR (r:Ru):List Tm:=subTs r.head.l++r.body.flatMap litTs
theorem termsR_take {l:List Lt} {k:Nat} {t:Lt} (h:l[k]?=some t):(l.take (k+1)).flatMap litTs=(l.take k).flatMap litTs++litTs t:=by
 rw[List.take_succ_eq_append_getElem (List.getElem?_eq_some_iff.1 h).1,(List.getElem?_eq_some_iff.1 h).2]
 simp
theorem termsR_pre (l:List Lt) (k:Nat):(l.take k).flatMap litTs <+: l.flatMap litTs:=
 ⟨(l.drop k).flatMap litTs,by rw[← List.flatMap_append,List.take_append_drop]⟩
theorem lt_ko {S:World→Nat→Prop} {w0 wr:World} {n₀:Nat} {l:List Lt} {o:Option Addr} {k:Nat} {t:Lt} (h:Hid (SlIn w0 n₀ 11 (LtC w0 n₀) l o)) (hs:Safe S w0 wr) (ht:l[k]?=some t) :
  ∃ a o0 k0 o1 k1 o2 k2,o=some a∧(a.add (k * 11)).block < wr.heap.size∧Hid (LtC w0 n₀ t [.int .i64 t.op,.string t.a.rel,.slice o0 t.a.l.length k0,.int .i64 t.x.op,.string t.x.s,.int .i64 t.x.n,.slice o1 t.x.l.length k1,.int .i64 t.y.op,.string t.y.s,.int .i64 t.y.n,.slice o2 t.y.l.length k2]) ∧
   CellsAt wr a (k * 11) [.int .i64 t.op,.string t.a.rel,.slice o0 t.a.l.length k0,.int .i64 t.x.op,.string t.x.s,.int .i64 t.x.n,.slice o1 t.x.l.length k1,.int .i64 t.y.op,.string t.y.s,.int .i64 t.y.n,.slice o2 t.y.l.length k2]:=by
 obtain⟨a,cs,rfl,_,_,h1,h2⟩:=h.out k t ht
 obtain⟨o0,k0,o1,k1,o2,k2,rfl,_⟩:=h1.look
 have hc:CellsAt wr a (k * 11) _:=fun j c hj=>(hs _ _ (h2 j c hj)).1
 exact⟨a,o0,k0,o1,k1,o2,k2,rfl,(hs _ _ (h2 0 _ rfl)).2.1,hid h1,hc⟩
theorem yeach_in (n:Nat) (r:Ru) (cs:List Value) (w:World) (hc:RuC w w.heap.size r cs) :
  CallsIn Fence.wide n Tryz.prog 145 #[.agg cs.toArray] w fun e w'=>e=.returned (.func (.func 175) #[] #[.pointer (some ⟨w.heap.size,0,none⟩)])∧w'=w.alloc (.cells cs.toArray 47):=by
 obtain⟨o0,k0,o1,k1,rfl,_⟩:=hc.look
 clear hc
 refine callsIn_of_wp Tryz.func145 rfl trivial ?_ rfl
 simp only[Tryz.ntmps145,List.size_toArray,List.length_cons,List.length_nil,Nat.reduceAdd,Nat.reduceSub,Array.replicate_succ,Array.replicate_zero,List.push_toArray,List.append_toArray,List.nil_append,List.cons_append]
 gi_wp2
 go_ret
 exact⟨rfl,rfl⟩
set_option maxRecDepth 100000 in
set_option maxHeartbeats 4000000 in
theorem yeach_stops {G:Tm→Prop} (n B n₀:Nat) (r:Ru) (cs:List Value) (w0 w:World) (S:World→Nat→Prop) (hG:SGrow S) (hs:Safe S w0 w) (hw:∀ i,S w i→i < w.heap.size) (hB:CellsAt w0 ⟨B,0,none⟩ 0 cs) (hc:RuC w0 n₀ r cs) (hGd:∀ t ∈ termsR r,G t) :
  SeqStopsK Fence.wide n Tryz.prog 175 #[.pointer (some ⟨B,0,none⟩)] (Ne.enc (w:=w0) (B:=n₀) (G:=G)) (KO S) (fun ys=>ys.map Ne.t=termsR r) (fun pre=>pre.map Ne.t <+: termsR r) (termsR r).length w:=by
 intro l J Jx W hW hJ _ hY h0
 have hKW:=KO.of_below hG hw hW
 have hs1:=hs.ko hKW
 have hw1:=hKW.wf hw
 have hJg:∀ pre W W',J pre W→Below W.heap.size W W'→J pre W':=fun pre W W' h hb=>hJ pre W W' none h (grownBelow hb) (fun _ e=>by cases e)
 have HV:=hid (fun (ts:List Tm)=>yvisit_in (w0:=w0) (n₀:=n₀) (G:=G) l (termsR r).length S J Jx hG hJg (fun m pre x W hj hl=>yieldAny rfl m (hY pre x W hj hl)) ts)
 obtain⟨o0,k0,o1,k1,rfl,_,hA,hL⟩:=hc.look
 obtain⟨_,_,e1,_,hT⟩:=hA.look
 obtain⟨rfl,rfl⟩:_∧_:=by simpa using e1
 obtain⟨_,_,e2,hb1,hb2,SL⟩:=SlOf.open hL
 cases e2
 have hBW:CellsAt W ⟨B,0,none⟩ 0 _:=fun j c hj=>(hs1 _ _ (hB j c hj)).1
 obtain⟨c0,c1,c2,c3⟩:=hBW.four
 have ea:(⟨B,0,none⟩:Addr).add 0=⟨B,0,none⟩:=by unfold Addr.add;simp
 simp only[ea,Nat.zero_add] at c0 c1 c2 c3
 have hBl:B < W.heap.size:=World.block_lt_of_cell? _ _ c0
 have Hs:=hid hs1
 have Hw:=hid hw1
 have HJg:=hid hJg
 have HT:=hid hT
 have HBW:=hid hB
 have H0:=hid h0
 have HtR:Hid (termsR r=subTs r.head.l++r.body.flatMap litTs):=hid rfl
 have HC:=hid (HV.out r.head.l (n - 1) W _ [] hs1 hw1 (slSafe_of hT hs1) (fun t h=>hGd t (List.mem_append_left _ h)) h0 (by simp[termsR]))
 clear hKW hs1 hw1 hJg hA hL hT hBW hB hc hY hJ h0 hs hw hW ea
 refine callsIn_of_wp Tryz.func175 rfl trivial ?_ rfl
 simp only[Tryz.ntmps175,List.size_toArray,List.length_cons,List.length_nil,Nat.reduceAdd,Nat.reduceSub,Array.replicate_succ,Array.replicate_zero,List.push_toArray,List.append_toArray,List.nil_append,List.cons_append]
 gi_wp2_with fail
 refine⟨trivial,fun h=>(by cases h),HC.out.mono ?_⟩
 rintro e W1 (⟨rfl,⟨ys,hys,hJ1⟩,hk1⟩ | ⟨rfl,ys,hys,hx⟩)
 ·have Hk1:=hid hk1
  have hB1:CellsAt W1 ⟨B,0,none⟩ 0 _:=fun j c hj=>(Hs.out.ko hk1 _ _ (HBW.out j c hj)).1
  obtain⟨f0,f1,f2,f3⟩:=hB1.four
  have ea:(⟨B,0,none⟩:Addr).add 0=⟨B,0,none⟩:=by unfold Addr.add;simp
  simp only[ea,Nat.zero_add] at f0 f1 f2 f3
  have hBl1:B < W1.heap.size:=World.block_lt_of_cell? _ _ f0
  have Hys:=hid hys
  have HJ1:=hid hJ1
  clear hk1 hys hJ1 c0 c1 c2 c3 hB1 ea
  gi_wp2
  gi_loopw [14] (fun i wr=>∃ (k:Nat) (ys:List (Ne w0 n₀ G)),k≤r.body.length∧i=.int .i64 k∧ys.map Ne.t=subTs r.head.l++(r.body.take k).flatMap litTs∧J ys wr∧KO S W wr) (fun i _=>r.body.length - (intOf i).toNat)
  case atStart=>exact⟨0,ys,Nat.zero_le _,rfl,by simpa using Hys.out,by simpa using HJ1.out,Hk1.out⟩
  case round=>
   obtain⟨k,ys,hk,rfl,hys,hJk,hkk⟩:=hrel
   have Hyk:=hid hys
   have hsr:=Hs.out.ko hkk
   have hwr:=hkk.wf Hw.out
   by_cases hlt:k < r.body.length
   ·have hlt':(k:Int) < (r.body.length:Int):=by omega
    have hk0:(0:Int)≤(k:Int):=by omega
    obtain⟨u,hu⟩:∃ u,r.body[k]?=some u:=⟨r.body[k],List.getElem?_eq_getElem hlt⟩
    obtain⟨a,p0,q0,p1,q1,p2,q2,rfl,hal,Hc,hca⟩:=lt_ko SL hsr hu
    obtain⟨c0,c1,c2,c3,c4,c5,c6,c7,c8,c9,c10⟩:=hca.n11
    obtain⟨_,_,_,_,_,_,ec,_,hA,hX,hY⟩:=Hc.out.look
    simp only[List.cons.injEq,Value.slice.injEq,true_and,and_true] at ec
    obtain⟨⟨rfl,rfl⟩,⟨rfl,rfl⟩,rfl,rfl⟩:=ec
    obtain⟨_,_,ea,_,hTa⟩:=hA.look
    simp only[List.cons.injEq,Value.slice.injEq,true_and,and_true] at ea
    obtain⟨rfl,rfl⟩:=ea
    have Htk:=hid (termsR_take hu)
    have hlen:ys.length+(litTs u).length≤(termsR r).length:=by
     have h1:=congrArg List.length Hyk.out
     have h2:=(termsR_pre r.body (k+1)).length_le
     rw[Htk.out] at h2
     rw[HtR.out]
     simp only[List.length_map,List.length_append] at h1 h2 ⊢
     omega
    have pfx:subTs r.head.l++(r.body.take k).flatMap litTs++litTs u <+: termsR r:=by
     rw[HtR.out,List.append_assoc,← Htk.out]
     obtain⟨r2,hr2⟩:=termsR_pre r.body (k+1)
     exact⟨r2,by rw[List.append_assoc,hr2]⟩
    have Hlen:=hid hlen
    have Pfx:=hid pfx
    obtain⟨V1,hV1⟩:∃ V1,wr.alloc (.cells #[.int .i64 u.op,.string u.a.rel,.slice p0 u.a.l.length q0,.int .i64 u.x.op,.string u.x.s,.int .i64 u.x.n,.slice p1 u.x.l.length q1,.int .i64 u.y.op,.string u.y.s,.int .i64 u.y.n,.slice p2 u.y.l.length q2] 53)=V1:=⟨_,rfl⟩
    have hb1:Below wr.heap.size wr V1:=by rw[← hV1];exact (Below.refl _ _).alloc (Nat.le_refl _) _
    have hrow1:V1.heap[wr.heap.size]?=some (.cells #[.int .i64 u.op,.string u.a.rel,.slice p0 u.a.l.length q0,.int .i64 u.x.op,.string u.x.s,.int .i64 u.x.n,.slice p1 u.x.l.length q1,.int .i64 u.y.op,.string u.y.s,.int .i64 u.y.n,.slice p2 u.y.l.length q2] 53 (0,0)):=by rw[← hV1];exact World.alloc_heap_new wr _
    have hsz1:V1.heap.size=wr.heap.size+1:=by rw[← hV1];simp
    have K1:=KO.of_below hG hwr hb1
    have hw1:=K1.wf hwr
    obtain⟨V2,hV2⟩:∃ V2,V1.alloc (.cells #[.int .i64 u.x.op,.string u.x.s,.int .i64 u.x.n,.slice p1 u.x.l.length q1,.int .i64 u.y.op,.string u.y.s,.int .i64 u.y.n,.slice p2 u.y.l.length q2] 51)=V2:=⟨_,rfl⟩
    have hb2:Below V1.heap.size V1 V2:=by rw[← hV2];exact (Below.refl _ _).alloc (Nat.le_refl _) _
    have hrow2:V2.heap[V1.heap.size]?=some (.cells #[.int .i64 u.x.op,.string u.x.s,.int .i64 u.x.n,.slice p1 u.x.l.length q1,.int .i64 u.y.op,.string u.y.s,.int .i64 u.y.n,.slice p2 u.y.l.length q2] 51 (0,0)):=by rw[← hV2];exact World.alloc_heap_new V1 _
    have hsz2:V2.heap.size=V1.heap.size+1:=by rw[← hV2];simp
    have K2:=KO.of_below hG hw1 hb2
    have hw2:=K2.wf hw1
    have nS1:¬ S V2 wr.heap.size:=fun h=>Nat.lt_irrefl _ (hwr _ (hG _ _ hwr hb1 _ (hG _ _ hw1 hb2 _ h)))
    have nS2:¬ S V2 V1.heap.size:=fun h=>Nat.lt_irrefl _ (hw1 _ (hG _ _ hw1 hb2 _ h))
    have SS:SlSafe S w0 n₀ V2 [u.x,u.y] (.slice (some ⟨V1.heap.size,0,none⟩) 2 2):=by
     refine⟨_,2,rfl,Nat.le_refl _,by decide,fun i x hx=>?_⟩
     have news:=World.news_of_block hrow2
     match i,hx with
     | 0,hx=>
      obtain rfl:u.x=x:=by simpa using hx
      refine⟨_,_,rfl,hX,fun j c hj=>news (0 * 4+j) c ?_,nS2⟩
      rcases j with _ | _ | _ | _ | j <;> simp_all
     | 1,hx=>
      obtain rfl:u.y=x:=by simpa using hx
      refine⟨_,_,rfl,hY,fun j c hj=>news (1 * 4+j) c ?_,nS2⟩
      rcases j with _ | _ | _ | _ | j <;> simp_all
     | i+2,hx=>simp at hx
    rw[hsz1] at SS
    have K02:=hid (hkk.trans (K1.trans K2))
    have JV:=HJg.out _ _ _ (HJg.out _ _ _ hJk hb1) hb2
    have d0:V1.cell? ⟨wr.heap.size,0,none⟩=some (.int .i64 u.op):=by unfold World.cell?;rw[hrow1];rfl
    have d1:V1.cell? ⟨wr.heap.size,1,none⟩=some (.string u.a.rel):=by unfold World.cell?;rw[hrow1];rfl
    have d2:V1.cell? ⟨wr.heap.size,2,none⟩=some (.slice p0 u.a.l.length q0):=by unfold World.cell?;rw[hrow1];rfl
    have d3:V1.cell? ⟨wr.heap.size,3,none⟩=some (.int .i64 u.x.op):=by unfold World.cell?;rw[hrow1];rfl
    have d4:V1.cell? ⟨wr.heap.size,4,none⟩=some (.string u.x.s):=by unfold World.cell?;rw[hrow1];rfl
    have d5:V1.cell? ⟨wr.heap.size,5,none⟩=some (.int .i64 u.x.n):=by unfold World.cell?;rw[hrow1];rfl
    have d6:V1.cell? ⟨wr.heap.size,6,none⟩=some (.slice p1 u.x.l.length q1):=by unfold World.cell?;rw[hrow1];rfl
    have d7:V1.cell? ⟨wr.heap.size,7,none⟩=some (.int .i64 u.y.op):=by unfold World.cell?;rw[hrow1];rfl
    have d8:V1.cell? ⟨wr.heap.size,8,none⟩=some (.string u.y.s):=by unfold World.cell?;rw[hrow1];rfl
    have d9:V1.cell? ⟨wr.heap.size,9,none⟩=some (.int .i64 u.y.n):=by unfold World.cell?;rw[hrow1];rfl
    have d10:V1.cell? ⟨wr.heap.size,10,none⟩=some (.slice p2 u.y.l.length q2):=by unfold World.cell?;rw[hrow1];rfl
    have m2:V2.cell? ⟨wr.heap.size,2,none⟩=some (.slice p0 u.a.l.length q0):=(hb2.cell (p:=⟨wr.heap.size,2,none⟩) (by show wr.heap.size < _;omega)).trans d2
    have M2:=hid m2
    have HC1:=hid (HV.out [u.x,u.y] (n - 1) V2 _ ys (Hs.out.ko K02.out) hw2 SS (fun t h=>hGd t (Pfx.out.subset (List.mem_append_right _ (List.mem_append_left _ h)))) JV (by have:=Hlen.out;unfold litTs at this;simp only[List.length_append] at this;omega))
    have HTa:=hid hTa
    have NS1:=hid nS1
    have hszV:wr.heap.size < V1.heap.size:=by omega
    have hszW:wr.heap.size < V2.heap.size:=by omega
    clear hys hJk hkk hsr hwr hu Hc hca hA hX hY hTa hlen pfx hb1 hrow1 K1 hw1 hb2 hrow2 K2 hw2 nS1 nS2 SS JV m2
    gi_wp2_with fail
    refine⟨trivial,fun h=>(by cases h),HC1.out.mono ?_⟩
    rintro e W2 (⟨rfl,⟨zs,hz,hJ2⟩,hk2⟩ | ⟨rfl,zs,hz,hx2⟩)
    ·have e2:W2.cell? ⟨wr.heap.size,2,none⟩=some (.slice p0 u.a.l.length q0):=hk2.cell M2.out NS1.out
     have K22:=hid (K02.out.trans hk2)
     have hlr:wr.heap.size < W2.heap.size:=by have:=hk2.size;omega
     have hzl:zs.length=(subTs [u.x,u.y]).length:=by rw[← hz,List.length_map]
     have HC2:=hid (HV.out u.a.l (n - 1) W2 _ (ys++zs) (Hs.out.ko K22.out) (K22.out.wf Hw.out) (slSafe_of HTa.out (Hs.out.ko K22.out)) (fun t h=>hGd t (Pfx.out.subset (List.mem_append_right _ (List.mem_append_right _ h)))) hJ2 (by have:=Hlen.out;unfold litTs at this;simp only[List.length_append] at this ⊢;omega))
     have Hz:=hid hz
     clear hz hJ2 hk2 c0 c1 c2 c3 c4 c5 c6 c7 c8 c9 c10 d0 d1 d2 d3 d4 d5 d6 d7 d8 d9 d10
     gi_wp2_with fail
     refine⟨trivial,fun h=>(by cases h),HC2.out.mono ?_⟩
     rintro e W3 (⟨rfl,⟨vs,hv,hJ3⟩,hk3⟩ | ⟨rfl,vs,hv,hx3⟩)
     ·have Hv:=hid hv
      have HJ3:=hid hJ3
      have K33:=hid (K22.out.trans hk3)
      clear hv hJ3 hk3 e2
      gi_wp2
      go_roundw
      case rel=>
       refine⟨k+1,ys++zs++vs,hlt,by go_num,?_,HJ3.out,K33.out⟩
       rw[List.map_append,List.map_append,Hyk.out,Hz.out,Hv.out,Htk.out]
       unfold litTs
       simp only[List.append_assoc]
      case measure=>simp[intOf];omega
     ·have Hv:=hid hv
      have HX3:=hid hx3
      clear hv hx3 e2
      gi_wp2
      refine bodyPost_ret (results_none rfl _ _ _) rfl ?_
      refine⟨⟨_,rfl⟩,.inr ⟨ys++zs++vs,?_,HX3.out⟩⟩
      rw[List.map_append,List.map_append,Hyk.out,Hz.out]
      obtain⟨r1,hr1⟩:=Hv.out
      obtain⟨r2,hr2⟩:=Pfx.out
      refine⟨r1++r2,?_⟩
      rw[← hr2]
      unfold litTs
      rw[← hr1]
      simp only[List.append_assoc]
    ·have Hz:=hid hz
     have HX2:=hid hx2
     clear hz hx2 c0 c1 c2 c3 c4 c5 c6 c7 c8 c9 c10 d0 d1 d2 d3 d4 d5 d6 d7 d8 d9 d10
     gi_wp2
     refine⟨trivial,?_⟩
     gi_wp2
     refine bodyPost_ret (results_none rfl _ _ _) rfl ?_
     refine⟨⟨_,rfl⟩,.inr ⟨ys++zs,?_,HX2.out⟩⟩
     rw[List.map_append,Hyk.out]
     obtain⟨r1,hr1⟩:=Hz.out
     obtain⟨r2,hr2⟩:=Pfx.out
     refine⟨r1++(subTs u.a.l++r2),?_⟩
     rw[← hr2]
     unfold litTs
     rw[← hr1]
     simp only[List.append_assoc]
   ·have hlt':¬ (k:Int) < (r.body.length:Int):=by omega
    have HJk:=hid hJk
    clear hJk hkk hsr hwr hys
    gi_wp2
    go_end0
    refine⟨⟨_,rfl⟩,.inl ⟨ys,?_,HJk.out⟩⟩
    rw[Hyk.out,HtR.out,List.take_of_length_le (by omega)]
 ·have Hys:=hid hys
  have HX:=hid hx
  clear hys hx
  gi_wp2
  refine bodyPost_ret (results_none rfl _ _ _) rfl ?_
  refine⟨⟨_,rfl⟩,.inr ⟨ys,?_,by simpa using HX.out⟩⟩
  rw[HtR.out]
  exact Hys.out.trans (List.prefix_append _ _)
end Go.Proofs.YtakpgcmfjlbcgaaGreatDoor
