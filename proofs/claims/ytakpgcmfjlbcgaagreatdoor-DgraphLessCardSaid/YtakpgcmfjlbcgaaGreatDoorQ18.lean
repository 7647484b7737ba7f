/- Yatom@0123 -/
import Derived.Test.YtakpgcmfjlbcgaaGreatDoorQ13
import Derived.Test.YtakpgcmfjlbcgaaGreatDoorQ14
set_option linter.unusedSimpArgs false
set_option linter.unusedVariables false
namespace Go.Proofs.YtakpgcmfjlbcgaaGreatDoor
open Lib(hid)
open Go.RowKit Go.Shelf
attribute [local go_sem] Oper.semAt_some
def atomsL:List Lt→List Am
 | []=>[]
 | t::l=>if duoB t then atomsL l else t.a::atomsL l
def atomsR (r:Ru):List Am:=r.head::atomsL r.body
theorem atomsL_app:∀ (a b:List Lt),atomsL (a++b)=atomsL a++atomsL b
 | [],b=>rfl
 | t::a,b=>by
  show (if duoB t then atomsL (a++b) else t.a::atomsL (a++b))=(if duoB t then atomsL a else t.a::atomsL a)++atomsL b
  rw[atomsL_app a b]
  split <;> rfl
theorem atomsL_take {l:List Lt} {k:Nat} {t:Lt} (h:l[k]?=some t):atomsL (l.take (k+1))=atomsL (l.take k)++(if duoB t then [] else [t.a]):=by
 rw[List.take_succ_eq_append_getElem (List.getElem?_eq_some_iff.1 h).1,(List.getElem?_eq_some_iff.1 h).2,atomsL_app]
 rfl
theorem atomsL_pre (l:List Lt) (k:Nat):atomsL (l.take k) <+: atomsL l:=⟨atomsL (l.drop k),by rw[← atomsL_app,List.take_append_drop]⟩
structure Na (w:World) (B:Nat) (G:Am→Prop) where
 t:Am
 cs:List Value
 ok:AmC w B t cs
 good:G t
def Na.enc {w:World} {B:Nat} {G:Am→Prop} (x:Na w B G):Array Value:=#[.agg x.cs.toArray]
theorem yatom_in (n:Nat) (r:Ru) (cs:List Value) (w:World) (hc:RuC w w.heap.size r cs) :
  CallsIn Fence.wide n Tryz.prog 170 #[.agg cs.toArray] w fun e w'=>e=.returned (.func (.func 191) #[] #[.pointer (some ⟨w.heap.size,0,none⟩)])∧w'=w.alloc (.cells cs.toArray 47):=by
 obtain⟨o0,k0,o1,k1,rfl,_⟩:=hc.look
 clear hc
 refine callsIn_of_wp Tryz.func170 rfl trivial ?_ rfl
 simp only[Tryz.ntmps170,List.size_toArray,List.length_cons,List.length_nil,Nat.reduceAdd,Nat.reduceSub,Array.replicate_succ,Array.replicate_zero,List.push_toArray,List.append_toArray,List.nil_append,List.cons_append]
 gi_wp2
 go_ret
 exact⟨rfl,rfl⟩
set_option maxRecDepth 100000 in
set_option maxHeartbeats 4000000 in
theorem yatom_stops {G:Am→Prop} (n B n₀:Nat) (r:Ru) (cs:List Value) (w0 w:World) (S:World→Nat→Prop) (hG:SGrow S) (hs:Safe S w0 w) (hw:∀ i,S w i→i < w.heap.size) (hB:CellsAt w0 ⟨B,0,none⟩ 0 cs) (hc:RuC w0 n₀ r cs) (hGd:∀ t ∈ atomsR r,G t) :
  SeqStopsK Fence.wide n Tryz.prog 191 #[.pointer (some ⟨B,0,none⟩)] (Na.enc (w:=w0) (B:=n₀) (G:=G)) (KO S) (fun ys=>ys.map Na.t=atomsR r) (fun pre=>pre.map Na.t <+: atomsR r) (atomsR r).length w:=by
 intro l J Jx W hW hJ _ hY h0
 have hKW:=KO.of_below hG hw hW
 have hs1:=hs.ko hKW
 have hw1:=hKW.wf hw
 have hJg:∀ pre W W',J pre W→Below W.heap.size W W'→J pre W':=fun pre W W' h hb=>hJ pre W W' none h (grownBelow hb) (fun _ e=>by cases e)
 obtain⟨o0,k0,o1,k1,rfl,_,hA,hL⟩:=hc.look
 obtain⟨_,_,e2,hb1,hb2,SL⟩:=SlOf.open hL
 cases e2
 have hBW:CellsAt W ⟨B,0,none⟩ 0 _:=fun j c hj=>(hs1 _ _ (hB j c hj)).1
 obtain⟨c0,c1,c2,c3⟩:=hBW.four
 have ea:(⟨B,0,none⟩:Addr).add 0=⟨B,0,none⟩:=by unfold Addr.add;simp
 simp only[ea,Nat.zero_add] at c0 c1 c2 c3
 have hBl:B < W.heap.size:=World.block_lt_of_cell? _ _ c0
 obtain⟨x,hx⟩:∃ x:Na w0 n₀ G,x=⟨r.head,_,hA,hGd _ (List.mem_cons_self ..)⟩:=⟨_,rfl⟩
 have hxe:x.enc=#[.agg #[.string r.head.rel,.slice o0 r.head.l.length k0]]:=by rw[hx];rfl
 have hxt:x.t=r.head:=by rw[hx]
 obtain⟨fn,tmps,assign,body,hy,hR⟩:=hY [] x W h0 (by simp[atomsR])
 rw[hxe] at hy
 have Hs:=hid hs1
 have Hw:=hid hw1
 have HJg:=hid hJg
 have HY:=hid hY
 have HBW:=hid hB
 have Hxt:=hid hxt
 have HGd:=hid hGd
 clear hKW hs1 hw1 hJg hA hL hBW hB hc hY hJ h0 hs hw hW ea hx hxe hxt hGd
 refine callsIn_of_wp Tryz.func191 rfl trivial ?_ rfl
 simp only[Tryz.ntmps191,List.size_toArray,List.length_cons,List.length_nil,Nat.reduceAdd,Nat.reduceSub,Array.replicate_succ,Array.replicate_zero,List.push_toArray,List.append_toArray,List.nil_append,List.cons_append]
 gi_wp2
 refine⟨fun h=>(by cases h),hR.mono ?_⟩
 rintro e W1 (⟨rfl,hJ1,hk1⟩ | ⟨rfl,hx2⟩)
 ·have Hk1:=hid hk1
  have hB1:CellsAt W1 ⟨B,0,none⟩ 0 _:=fun j c hj=>(Hs.out.ko hk1 _ _ (HBW.out j c hj)).1
  obtain⟨f0,f1,f2,f3⟩:=hB1.four
  have ea:(⟨B,0,none⟩:Addr).add 0=⟨B,0,none⟩:=by unfold Addr.add;simp
  simp only[ea,Nat.zero_add] at f0 f1 f2 f3
  have hBl1:B < W1.heap.size:=World.block_lt_of_cell? _ _ f0
  have HJ1:=hid hJ1
  clear hk1 hJ1 c0 c1 c2 c3 hB1 ea
  gi_wp2
  gi_loopw [13] (fun i wr=>∃ (k:Nat) (ys:List (Na w0 n₀ G)),k≤r.body.length∧i=.int .i64 k∧ys.map Na.t=r.head::atomsL (r.body.take k)∧J ys wr∧KO S W wr) (fun i _=>r.body.length - (intOf i).toNat)
  case atStart=>exact⟨0,[x],Nat.zero_le _,rfl,by simp[Hxt.out,atomsL],by simpa using HJ1.out,Hk1.out⟩
  case round=>
   obtain⟨k,ys,hk,rfl,hys,hJk,hkk⟩:=hrel
   have Hyk:=hid hys
   have hsr:=Hs.out.ko hkk
   have hwr:=hkk.wf Hw.out
   by_cases hlt:k < r.body.length
   ·have hlt':(k:Int) < (r.body.length:Int):=by omega
    have hk0:(0:Int)≤(k:Int):=by omega
    obtain⟨u,hu⟩:∃ u,r.body[k]?=some u:=⟨r.body[k],List.getElem?_eq_getElem hlt⟩
    obtain⟨a,p0,q0,p1,q1,p2,q2,rfl,hal,Hc,hca⟩:=lt_ko SL hsr hu
    obtain⟨c0,c1,c2,c3,c4,c5,c6,c7,c8,c9,c10⟩:=hca.n11
    have Htk:=hid (atomsL_take hu)
    obtain⟨V1,hV1⟩:∃ V1,wr.alloc (.cells #[.int .i64 u.op,.string u.a.rel,.slice p0 u.a.l.length q0,.int .i64 u.x.op,.string u.x.s,.int .i64 u.x.n,.slice p1 u.x.l.length q1,.int .i64 u.y.op,.string u.y.s,.int .i64 u.y.n,.slice p2 u.y.l.length q2] 53)=V1:=⟨_,rfl⟩
    have hb1':Below wr.heap.size wr V1:=by rw[← hV1];exact (Below.refl _ _).alloc (Nat.le_refl _) _
    have hrow1:V1.heap[wr.heap.size]?=some (.cells #[.int .i64 u.op,.string u.a.rel,.slice p0 u.a.l.length q0,.int .i64 u.x.op,.string u.x.s,.int .i64 u.x.n,.slice p1 u.x.l.length q1,.int .i64 u.y.op,.string u.y.s,.int .i64 u.y.n,.slice p2 u.y.l.length q2] 53 (0,0)):=by rw[← hV1];exact World.alloc_heap_new wr _
    have hsz1:V1.heap.size=wr.heap.size+1:=by rw[← hV1];simp
    have HV:=hid hV1
    have Hrow1:=hid hrow1
    have Hb1:=hid hb1'
    have HJk:=hid hJk
    have Hkk:=hid hkk
    have Hwr:=hid hwr
    clear hys hJk hkk hsr hwr hu hca hb1' hrow1 hV1
    gi_wp2_with fail
    refine⟨trivial,fun h=>(by cases h),(callsIn_wide.2 (holdsTwo_v u _ _ _ _ _ _ _ _ _ _ _)).mono ?_⟩
    rintro e W2 ⟨rfl,b2⟩
    have hbb:Below wr.heap.size wr W2:=((Below.refl _ _).alloc (Nat.le_refl _) _).trans (b2.mono (by simp))
    have hcell:=fun (o:Nat)=>b2.cell (p:=⟨wr.heap.size,o,none⟩) (by simp)
    have hsz2:=b2.size
    simp only[World.size_alloc] at hsz2
    have KK:=hid (Hkk.out.trans (KO.of_below hG Hwr.out hbb))
    have JJ:=hid (HJg.out _ _ _ HJk.out hbb)
    have hcl1:W2.cell? ⟨wr.heap.size,1,none⟩=some (.string u.a.rel):=by rw[hcell 1];unfold World.cell?;simp only[];rw[World.alloc_heap_new];rfl
    have hcl2:W2.cell? ⟨wr.heap.size,2,none⟩=some (.slice p0 u.a.l.length q0):=by rw[hcell 2];unfold World.cell?;simp only[];rw[World.alloc_heap_new];rfl
    clear hbb hcell b2
    cases hd:duoB u with
    | true=>
     have Htk2:Hid (atomsL (r.body.take (k+1))=atomsL (r.body.take k)):=hid (by rw[Htk.out,hd];simp)
     clear hd
     gi_wp2
     refine⟨fun f h=>(by cases h),?_⟩
     gi_wp2
     go_roundw
     case rel=>exact⟨k+1,ys,hlt,by go_num,by rw[Htk2.out];exact Hyk.out,JJ.out,KK.out⟩
     case measure=>simp[intOf];omega
    | false=>
     have Htk2:Hid (atomsL (r.body.take (k+1))=atomsL (r.body.take k)++[u.a]):=hid (by rw[Htk.out,hd];rfl)
     clear hd
     have pfx:atomsL (r.body.take (k+1)) <+: atomsL r.body:=atomsL_pre _ _
     have Pfx:=hid pfx
     obtain⟨_,_,_,_,_,_,ec,_,hAu,_,_⟩:=Hc.out.look
     simp only[List.cons.injEq,Value.slice.injEq,true_and,and_true] at ec
     obtain⟨⟨rfl,rfl⟩,⟨rfl,rfl⟩,rfl,rfl⟩:=ec
     have hgu:G u.a:=HGd.out _ (List.mem_cons_of_mem _ (Pfx.out.subset (by rw[Htk2.out];simp)))
     obtain⟨x2,hx2⟩:∃ x:Na w0 n₀ G,x=⟨u.a,_,hAu,hgu⟩:=⟨_,rfl⟩
     have hxe2:x2.enc=#[.agg #[.string u.a.rel,.slice p0 u.a.l.length q0]]:=by rw[hx2];rfl
     have hxt2:x2.t=u.a:=by rw[hx2]
     obtain⟨fn2,tmps2,assign2,body2,hy2,hR2⟩:=HY.out ys x2 W2 JJ.out (by
      have h1:=congrArg List.length Hyk.out
      have h2:=Pfx.out.length_le
      rw[Htk2.out] at h2
      simp only[List.length_map,List.length_append,List.length_cons,List.length_nil] at h1 h2
      unfold atomsR
      simp only[List.length_cons]
      omega)
     rw[hxe2] at hy2
     have Hxt2:=hid hxt2
     clear pfx hAu hgu hx2 hxe2 hxt2
     gi_wp2
     refine⟨fun h=>(by cases h),hR2.mono ?_⟩
     rintro e W3 (⟨rfl,hJ3,hk3⟩ | ⟨rfl,hx3⟩)
     ·have HJ3:=hid hJ3
      have K33:=hid (KK.out.trans hk3)
      clear hJ3 hk3
      gi_wp2
      go_roundw
      case rel=>
       refine⟨k+1,ys++[x2],hlt,by go_num,?_,HJ3.out,K33.out⟩
       rw[List.map_append,Hyk.out,Htk2.out,List.map_cons,List.map_nil,Hxt2.out]
       simp
      case measure=>simp[intOf];omega
     ·have HX3:=hid hx3
      clear hx3
      gi_wp2
      refine bodyPost_ret (results_none rfl _ _ _) rfl ?_
      refine⟨⟨_,rfl⟩,.inr ⟨ys++[x2],?_,HX3.out⟩⟩
      rw[List.map_append,Hyk.out,List.map_cons,List.map_nil,Hxt2.out]
      obtain⟨r2,hr2⟩:=Pfx.out
      refine⟨r2,?_⟩
      unfold atomsR
      rw[← hr2,Htk2.out]
      simp
   ·have hlt':¬ (k:Int) < (r.body.length:Int):=by omega
    have HJk:=hid hJk
    clear hJk hkk hsr hwr hys
    gi_wp2
    go_end0
    refine⟨⟨_,rfl⟩,.inl ⟨ys,?_,HJk.out⟩⟩
    rw[Hyk.out,List.take_of_length_le (by omega)]
    rfl
 ·have HX:=hid hx2
  clear hx2
  gi_wp2
  refine bodyPost_ret (results_none rfl _ _ _) rfl ?_
  refine⟨⟨_,rfl⟩,.inr ⟨[x],?_,by simpa using HX.out⟩⟩
  simp[Hxt.out,atomsR]
end Go.Proofs.YtakpgcmfjlbcgaaGreatDoor
