/- Zvis@012, Ysm@012, Trright2@012 -/
import Derived.Test.YtfmldnbcjbflbaaGreatDoorQ5
import Derived.Test.YtfmldnbcjbflbaaGreatDoorQ6
set_option linter.unusedSimpArgs false
set_option linter.unusedVariables false
namespace Go.Proofs.YtfmldnbcjbflbaaGreatDoor
open Lib(hid)
open Go.RowKit Go.Shelf
attribute [local go_sem] Oper.semAt_some
def occ (ts:List Tm):List ByteArray:=(ts.filter (fun t=>t.op == 1)).map Tm.s
theorem occ_app (a b:List Tm):occ (a++b)=occ a++occ b:=by simp[occ]
theorem occ_var {t:Tm} (h:t.op=1) (l:List Tm):occ (t::l)=t.s::occ l:=by simp[occ,h]
theorem occ_non {t:Tm} (h:t.op≠1) (l:List Tm):occ (t::l)=occ l:=by simp[occ,h]
theorem occ_take {l:List Tm} {k:Nat} {t:Tm} (h:l[k]?=some t):occ (subTs (l.take (k+1)))=occ (subTs (l.take k))++occ (t::subTs t.l):=by rw[subTs_take h,occ_app]
theorem occ_pre (l:List Tm) (k:Nat):occ (subTs (l.take k)) <+: occ (subTs l):=⟨occ (subTs (l.drop k)),by rw[← occ_app,← subTs_app,List.take_append_drop]⟩
structure Ns (G:ByteArray→Prop) where
 s:ByteArray
 good:G s
def Ns.enc {G:ByteArray→Prop} (x:Ns G):Array Value:=#[.string x.s]
section
variable {w0:World} {n₀:Nat} {G:ByteArray→Prop}
def ZPost (S:World→Nat→Prop) (J Jx:List (Ns G)→World→Prop) (l:List Tm) (pre:List (Ns G)) (W:World) (e:Ending) (W':World):Prop:=
 (e=.returned (.bool true)∧(∃ ys:List (Ns G),ys.map Ns.s=occ (subTs l)∧J (pre++ys) W')∧KO S W W')∨(e=.returned (.bool false)∧∃ ys:List (Ns G),ys.map Ns.s <+: occ (subTs l)∧Jx (pre++ys) W')
def ZVisit (w0:World) (n₀ lb N:Nat) (S:World→Nat→Prop) (J Jx:List (Ns G)→World→Prop) (l:List Tm):Prop:=
 ∀ (n:Nat) (W:World) (v:Value) (pre:List (Ns G)),Safe S w0 W→(∀ i,S W i→i < W.heap.size)→SlSafe S w0 n₀ W l v→(∀ s ∈ occ (subTs l),G s)→J pre W→pre.length+(occ (subTs l)).length≤N →
  CallsIn Fence.wide n Tryz.prog 114 #[v,.func (.yield lb) #[] #[]] W (ZPost S J Jx l pre W)
set_option maxRecDepth 100000 in
set_option maxHeartbeats 8000000 in
theorem zvisit_list (lb N:Nat) (S:World→Nat→Prop) (J Jx:List (Ns G)→World→Prop)
  (hG:SGrow S) (hJg:∀ pre W W',J pre W→Below W.heap.size W W'→J pre W')
  (hY:∀ m pre (x:Ns G) W,J pre W→pre.length < N→YieldAt Fence.wide m Tryz.prog lb x.enc W fun e W'=>(e=.returned (.bool true)∧J (pre++[x]) W'∧KO S W W')∨(e=.returned (.bool false)∧Jx (pre++[x]) W'))
  (l:List Tm) (IH:∀ t ∈ l,ZVisit w0 n₀ lb N S J Jx t.l):ZVisit w0 n₀ lb N S J Jx l:=by
 intro n W v pre hT hw hS hGd hJ hN
 obtain⟨o1,cap1,rfl,hc1,hm1,hS1⟩:=hS
 have S1:=hid hS1
 have HI:=hid IH
 have HJ:=hid hJg
 have HW:=hid hw
 have HY:=hid hY
 have HT:=hid hT
 have K0:Hid (KO S W W):=hid (KO.refl S W)
 have J0:=hid hJ
 clear IH hJg hY hS1 hT hw
 refine callsIn_of_wp Tryz.func114 rfl trivial ?_ rfl
 simp only[Tryz.ntmps114,List.size_toArray,List.length_cons,List.length_nil,Nat.reduceAdd,Nat.reduceSub,Array.replicate_succ,Array.replicate_zero,List.push_toArray,List.append_toArray,List.nil_append,List.cons_append]
 gi_wp2
 gi_loopw [9] (fun i wr=>∃ (k:Nat) (ys:List (Ns G)),k≤l.length∧i=.int .i64 k∧ys.map Ns.s=occ (subTs (l.take k))∧J (pre++ys) wr∧KO S W wr) (fun i _=>l.length - (intOf i).toNat)
 case atStart=>exact⟨0,[],Nat.zero_le _,rfl,by simp[subTs,occ],by simpa using J0.out,K0.out⟩
 case round=>
  obtain⟨k,ys,hk,rfl,hys,hJk,hkk⟩:=hrel
  have Hys:=hid hys
  clear hys
  have hTr:Safe S w0 wr:=HT.out.ko hkk
  have hwr:=hkk.wf HW.out
  by_cases hlt:k < l.length
  ·have hlt':(k:Int) < (l.length:Int):=by omega
   have hk0:(0:Int)≤(k:Int):=by omega
   obtain⟨u,hu⟩:∃ u,l[k]?=some u:=⟨l[k],List.getElem?_eq_getElem hlt⟩
   obtain⟨a,p2,q2,rfl,hal,Hc,c0,c1,c2,c3⟩:=ne_at S1 hkk hu
   have Htk:=hid (occ_take hu)
   have Hm:=hid (List.mem_of_getElem? hu)
   have hlen:(pre++ys).length+(occ (u::subTs u.l)).length≤N:=by
    have h1:=congrArg List.length Hys.out
    have h2:=(occ_pre l (k+1)).length_le
    rw[Htk.out] at h2
    simp only[List.length_map,List.length_append] at h1 h2 hN ⊢
    omega
   have Hlen:=hid hlen
   obtain⟨V,hV⟩:∃ V,wr.alloc (.cells #[.int .i64 u.op,.string u.s,.int .i64 u.n,.slice p2 u.l.length q2] 51)=V:=⟨_,rfl⟩
   have hbV:Below wr.heap.size wr V:=by rw[← hV];exact (Below.refl _ _).alloc (Nat.le_refl _) _
   have JV:=HJ.out _ _ _ hJk hbV
   have KV:=KO.of_below hG hwr hbV
   have hnS:¬ S V wr.heap.size:=fun hs=>Nat.lt_irrefl _ (hwr _ (hG _ _ hwr hbV _ hs))
   have hsV:V.heap.size=wr.heap.size+1:=by rw[← hV];simp
   have hrow:V.heap[wr.heap.size]?=some (.cells #[.int .i64 u.op,.string u.s,.int .i64 u.n,.slice p2 u.l.length q2] 51 (0,0)):=by rw[← hV];exact World.alloc_heap_new wr _
   have d0:V.cell? ⟨wr.heap.size,0,none⟩=some (.int .i64 u.op):=by unfold World.cell?;rw[hrow];rfl
   have d1:V.cell? ⟨wr.heap.size,1,none⟩=some (.string u.s):=by unfold World.cell?;rw[hrow];rfl
   have d3:V.cell? ⟨wr.heap.size,3,none⟩=some (.slice p2 u.l.length q2):=by unfold World.cell?;rw[hrow];rfl
   have hsub:∀ s ∈ occ (u::subTs u.l),s ∈ occ (subTs l):=fun s h=>(occ_pre l (k+1)).subset (by rw[Htk.out];exact List.mem_append_right _ h)
   have Hsub:=hid hsub
   have KVr:=hid (hkk.trans KV)
   have Hrow:=hid hrow
   have HnS:=hid hnS
   have HsV:=hid hsV
   have HSu:=hid (tmc_sl Hc.out)
   have pfx:occ (subTs (l.take k))++occ (u::subTs u.l) <+: occ (subTs l):=by rw[← Htk.out];exact occ_pre l (k+1)
   have Pfx:=hid pfx
   have HJV:=hid JV
   clear hu hkk KV hnS hrow hbV hTr hJk JV hlen hwr pfx hsub
   by_cases hop:u.op=1
   ·have hov:=occ_var hop (subTs u.l)
    rw[hov] at Hsub Hlen Pfx Htk
    have hgu:=hGd u.s (Hsub.out u.s (List.mem_cons_self ..))
    have Hgd:=hid hGd
    obtain⟨x,hx⟩:∃ x:Ns G,x=⟨u.s,hgu⟩:=⟨_,rfl⟩
    have hxe:x.enc=#[.string u.s]:=by rw[hx];rfl
    have hxt:x.s=u.s:=by rw[hx]
    obtain⟨fn,tmps,assign,body,hy,hR⟩:=HY.out (n - 1) (pre++ys) x V HJV.out (by have:=Hlen.out;simp only[List.length_append,List.length_cons] at this ⊢;omega)
    rw[hxe] at hy
    have Hxt:=hid hxt
    have hq1:(u.op == 1)=true:=by simp[hop]
    clear hx hxe hxt hov hgu hGd hop
    gi_wp2
    refine⟨fun h=>(by cases h),hR.mono ?_⟩
    rintro e W1 (⟨rfl,hJ2,hk2⟩ | ⟨rfl,hx2⟩)
    ·have e3:W1.cell? ⟨wr.heap.size,3,none⟩=some (.slice p2 u.l.length q2):=hk2.cell d3 HnS.out
     have hK2:=hid (KVr.out.trans hk2)
     have hTr2:Safe S w0 W1:=HT.out.ko hK2.out
     have hlr:wr.heap.size < W1.heap.size:=by have:=hk2.size;have:=HsV.out;omega
     have HC:=hid (HI.out u Hm.out (n - 1) W1 _ (pre++ys++[x]) hTr2 (hK2.out.wf HW.out) (slSafe_of HSu.out hTr2) (fun t h=>Hgd.out t (Hsub.out t (List.mem_cons_of_mem _ h))) hJ2 (by have:=Hlen.out;simp only[List.length_append,List.length_cons,List.length_nil] at this ⊢;omega))
     clear hTr2 hJ2 hk2 c0 c1 c2 c3 d0 d1 d3
     gi_wp2_with fail
     refine⟨trivial,fun h=>(by cases h),HC.out.mono ?_⟩
     rintro e W2 (⟨rfl,⟨zs,hz,hJ3⟩,hk3⟩ | ⟨rfl,zs,hz,hx3⟩)
     ·have Hz:=hid hz
      have HJ3:=hid hJ3
      have HK3:=hid (hK2.out.trans hk3)
      clear hz hJ3 hk3
      gi_wp2
      go_roundw
      case rel=>
       exact⟨k+1,ys++x::zs,hlt,by go_num,by rw[List.map_append,List.map_cons,Hys.out,Hz.out,Hxt.out,Htk.out],by have:=HJ3.out;simpa using this,HK3.out⟩
      case measure=>simp[intOf];omega
     ·have Hz:=hid hz
      have HX3:=hid hx3
      clear hz hx3
      gi_wp2
      go_ret
      refine .inr ⟨rfl,ys++x::zs,?_,by have:=HX3.out;simpa using this⟩
      rw[List.map_append,List.map_cons,Hys.out,Hxt.out]
      obtain⟨r,hr⟩:=Hz.out
      obtain⟨r2,hr2⟩:=Pfx.out
      exact⟨r++r2,by rw[← hr2,← hr];simp⟩
    ·have HX2:=hid hx2
     clear hx2 c0 c1 c2 c3 d0 d1 d3
     gi_wp2
     refine⟨trivial,?_⟩
     gi_wp2
     go_ret
     refine .inr ⟨rfl,ys++[x],?_,by have:=HX2.out;simpa using this⟩
     rw[List.map_append,Hys.out,List.map_cons,List.map_nil,Hxt.out]
     obtain⟨r2,hr2⟩:=Pfx.out
     exact⟨occ (subTs u.l)++r2,by rw[← hr2];simp⟩
   ·have hov:=occ_non hop (subTs u.l)
    rw[hov] at Hsub Hlen Pfx Htk
    have hq1:(u.op == 1)=false:=by simpa using hop
    have hTr2:Safe S w0 V:=HT.out.ko KVr.out
    have HC:=hid (HI.out u Hm.out (n - 1) V _ (pre++ys) hTr2 (KVr.out.wf HW.out) (slSafe_of HSu.out hTr2) (fun t h=>hGd t (Hsub.out t h)) HJV.out Hlen.out)
    have hlr:wr.heap.size < V.heap.size:=by have:=HsV.out;omega
    clear hTr2 hov hGd
    gi_wp2_with fail
    refine⟨fun f h=>(by cases h),?_⟩
    gi_wp2_with fail
    refine⟨trivial,fun h=>(by cases h),HC.out.mono ?_⟩
    rintro e W2 (⟨rfl,⟨zs,hz,hJ3⟩,hk3⟩ | ⟨rfl,zs,hz,hx3⟩)
    ·have Hz:=hid hz
     have HJ3:=hid hJ3
     have HK3:=hid (KVr.out.trans hk3)
     clear hz hJ3 hk3 c0 c1 c2 c3 d0 d1 d3
     gi_wp2
     go_roundw
     case rel=>
      exact⟨k+1,ys++zs,hlt,by go_num,by rw[List.map_append,Hys.out,Hz.out,Htk.out],by have:=HJ3.out;simpa using this,HK3.out⟩
     case measure=>simp[intOf];omega
    ·have Hz:=hid hz
     have HX3:=hid hx3
     clear hz hx3 c0 c1 c2 c3 d0 d1 d3
     gi_wp2
     go_ret
     refine .inr ⟨rfl,ys++zs,?_,by have:=HX3.out;simpa using this⟩
     rw[List.map_append,Hys.out]
     obtain⟨r,hr⟩:=Hz.out
     obtain⟨r2,hr2⟩:=Pfx.out
     exact⟨r++r2,by rw[← hr2,← hr];simp⟩
  ·have hlt':¬ (k:Int) < (l.length:Int):=by omega
   gi_wp2
   go_ret
   refine .inl ⟨rfl,⟨ys,?_,hJk⟩,hkk⟩
   rw[Hys.out,List.take_of_length_le (by omega)]
end
end Go.Proofs.YtfmldnbcjbflbaaGreatDoor
namespace Go.Proofs.YtfmldnbcjbflbaaGreatDoor
open Lib(hid)
open Go.RowKit
def Cnt {α:Type} (f:α→Int→Int) (g:α→List Tm) (x:α):Prop:=∀ left:Int,0≤left→0≤f x left→((g x).length:Int)≤left - f x left∧∀ t ∈ g x,t.s.size≤1000
theorem cnt_all {α:Type} {f:α→Int→Int} {g:α→List Tm}:∀ (l:List α),(∀ x ∈ l,Cnt f g x)→Cnt (foldS f) (fun l=>l.flatMap g) l
 | [],_,left,h,_=>⟨by simp[foldS],fun t ht=>by simp at ht⟩
 | x::l,hx,left,h,h1=>by
  have e:foldS f (x::l) left=foldS f l (f x left):=by
   show (if left < 0 then left else _)=_
   rw[if_neg (by omega)]
  rw[e] at h1 ⊢
  have h2:0≤f x left:=by
   rcases Int.lt_or_le (f x left) 0 with hn | hn
   ·rw[foldS_neg f l hn] at h1;omega
   ·exact hn
  obtain⟨a1,a2⟩:=hx x (List.mem_cons_self ..) left h h2
  obtain⟨b1,b2⟩:=cnt_all l (fun y hy=>hx y (List.mem_cons_of_mem _ hy)) _ h2 h1
  refine⟨?_,fun t ht=>?_⟩
  ·simp only[List.flatMap_cons,List.length_append]
   have b1:((l.flatMap g).length:Int)≤f x left - foldS f l (f x left):=b1
   omega
  ·simp only[List.flatMap_cons] at ht
   rcases List.mem_append.1 ht with ht | ht
   ·exact a2 t ht
   ·exact b2 t ht
theorem subTs_flat (l:List Tm):subTs l=l.flatMap subT:=by
 induction l with
 | nil=>simp[subTs]
 | cons t l ih=>unfold subTs;rw[ih];rfl
theorem cnt_term (t:Tm):Cnt sizeT subT t:=by
 induction t using Tm.rec (motive_2:=fun l=>∀ t ∈ l,Cnt sizeT subT t) with
 | nil x hx=>cases hx
 | cons t ts ih ihs x hx=>
  rcases List.mem_cons.1 hx with rfl | hx
  ·exact ih
  ·exact ihs x hx
 | mk op s n l ih=>
  intro left h h1
  rw[sizeT_mk] at h1 ⊢
  by_cases hs:1000 < s.size
  ·rw[if_pos hs] at h1;omega
  ·rw[if_neg hs] at h1 ⊢
   have h2:0≤left - 1:=by
    rcases Int.lt_or_le (left - 1) 0 with hn | hn
    ·rw[foldS_neg sizeT l hn] at h1;omega
    ·exact hn
   obtain⟨a1,a2⟩:=cnt_all l ih _ h2 h1
   rw[subT_eq]
   simp only[Tm.l_mk,subTs_flat]
   refine⟨?_,fun t ht=>?_⟩
   ·simp only[List.length_cons]
    have a1:((l.flatMap subT).length:Int)≤left - 1 - foldS sizeT l (left - 1):=a1
    omega
   ·rcases List.mem_cons.1 ht with rfl | ht
    ·show s.size≤1000
     omega
    ·exact a2 t ht
theorem cnt_atom (a:Am):Cnt sizeA (fun a=>subTs a.l) a:=by
 intro left h h1
 unfold sizeA at h1 ⊢
 split at h1
 ·omega
 ·rename_i hn
  rw[if_neg hn]
  rw[sizeTs_fold] at h1 ⊢
  simp only[subTs_flat]
  exact cnt_all a.l (fun t _=>cnt_term t) left h h1
theorem cnt_lit (l:Lt):Cnt sizeL1 litTs l:=by
 intro left h h1
 unfold sizeL1 at h1 ⊢
 by_cases c1:sizeA l.a (left - 1) < 0
 ·rw[if_pos c1] at h1;omega
 ·rw[if_neg c1] at h1 ⊢
  by_cases c2:sizeT l.x (sizeA l.a (left - 1)) < 0
  ·rw[if_pos c2] at h1;omega
  ·rw[if_neg c2] at h1 ⊢
   have h0:0≤left - 1:=by have:=(sizeA_lo l.a (left - 1) (by omega)).2;omega
   obtain⟨a1,a2⟩:=cnt_atom l.a _ h0 (by omega)
   have a1:((subTs l.a.l).length:Int)≤left - 1 - sizeA l.a (left - 1):=a1
   obtain⟨b1,b2⟩:=cnt_term l.x (sizeA l.a (left - 1)) (by omega) (by omega)
   obtain⟨d1,d2⟩:=cnt_term l.y _ (by omega) h1
   have e:litTs l=(subT l.x++subT l.y)++subTs l.a.l:=by unfold litTs;simp[subTs]
   rw[e]
   refine⟨?_,fun t ht=>?_⟩
   ·simp only[List.length_append];omega
   ·rcases List.mem_append.1 ht with ht | ht
    ·rcases List.mem_append.1 ht with ht | ht
     ·exact b2 t ht
     ·exact d2 t ht
    ·exact a2 t ht
theorem cnt_rule (r:Ru):Cnt sizeR termsR r:=by
 intro left h h1
 unfold sizeR at h1 ⊢
 have h0:0≤left - 1∧0≤sizeA r.head (left - 1):=by
  have k:=(foldS_lo sizeL1_lo r.body (sizeA r.head (left - 1)) (sizeA_lo r.head (left - 1) (by omega)).1).2
  have:=(sizeA_lo r.head (left - 1) (by omega)).2
  omega
 obtain⟨a1,a2⟩:=cnt_atom r.head _ h0.1 h0.2
 obtain⟨b1,b2⟩:=cnt_all r.body (fun l _=>cnt_lit l) _ h0.2 h1
 unfold termsR
 refine⟨?_,fun t ht=>?_⟩
 ·simp only[List.length_append]
  have b1:((r.body.flatMap litTs).length:Int)≤_:=b1
  have a1:((subTs r.head.l).length:Int)≤_:=a1
  omega
 ·rcases List.mem_append.1 ht with ht | ht
  ·exact a2 t ht
  ·exact b2 t ht
theorem small_terms {p:Pg} (h:smallP p=true):∀ r ∈ p.rules,(termsR r).length≤2000∧∀ t ∈ termsR r,t.s.size≤1000:=by
 unfold smallP at h
 simp only[Bool.and_eq_true,decide_eq_true_eq] at h
 have h0:=h.1.1.2
 obtain⟨a1,a2⟩:=cnt_all (f:=sizeR) (g:=termsR) p.rules (fun r _=>cnt_rule r) 2000 (by omega) h0
 intro r hr
 have sub:∀ t ∈ termsR r,t ∈ p.rules.flatMap termsR:=fun t ht=>List.mem_flatMap.2 ⟨r,hr,ht⟩
 refine⟨?_,fun t ht=>a2 t (sub t ht)⟩
 have hle:(termsR r).length≤(p.rules.flatMap termsR).length:=by
  obtain⟨s,t,e⟩:=List.append_of_mem hr
  rw[e]
  simp only[List.flatMap_append,List.flatMap_cons,List.length_append]
  omega
 have a1:((p.rules.flatMap termsR).length:Int)≤2000 - foldS sizeR p.rules 2000:=a1
 omega
end Go.Proofs.YtfmldnbcjbflbaaGreatDoor
namespace Go.Proofs.YtfmldnbcjbflbaaGreatDoor
open Lib(hid)
open Go.RowKit
set_option maxRecDepth 100000 in
set_option maxHeartbeats 4000000 in
theorem rnoTerm_c (t:Tm) (w:World) (cs:List Value) (hc:TmC w w.heap.size t cs) :
  Calls Tryz.prog 116 #[.agg cs.toArray] w fun e w'=>e=.returned (.bool (noT t))∧Below w.heap.size w w':=by
 obtain⟨op,s,n,l⟩:=t
 obtain⟨p1,q1,rfl,_,hz,_,t1⟩:=hc.look
 simp only[Tm.op_mk,Tm.s_mk,Tm.n_mk,Tm.l_mk] at hz t1 ⊢
 clear hc t1
 obtain⟨bo,hbo⟩:∃ b,(op == 0)=b:=⟨_,rfl⟩
 obtain⟨bn,hbn⟩:∃ b,(n == 0)=b:=⟨_,rfl⟩
 obtain⟨bl,hbl⟩:∃ b,((l.length:Int) == 0)=b:=⟨_,rfl⟩
 have hle:=empty_int l
 rw[hbl] at hle
 have A0:Hid (Below w.heap.size w (w.alloc (.cells #[.int .i64 op,.string s,.int .i64 n,.slice p1 l.length q1] 51))):=hid ((Below.refl _ _).alloc (Nat.le_refl _) _)
 have HL:Hid (noT (.mk op s n l)=(bo && s.toList.isEmpty && bn && bl)):=hid (by rw[← hle,← hbn,← hbo];rfl)
 clear hle
 by_cases h0:s.toList=[]
 ·have Hz:Hid (noT (.mk op s n l)=(bo && bn && bl)):=hid (by rw[HL.out,h0];cases bo <;> rfl)
  cases bo <;> cases bn <;> cases bl
  all_goals
   go_enter Tryz.func116,Tryz.ntmps116
   go_wp2
   go_ret
   exact⟨by rw[Hz.out];rfl,A0.out⟩
 ·have Hz:Hid (noT (.mk op s n l)=false):=hid (by rw[HL.out];simp[h0])
  cases bo
  all_goals
   go_enter Tryz.func116,Tryz.ntmps116
   go_wp2
   go_ret
   exact⟨by rw[Hz.out];rfl,A0.out⟩
set_option maxRecDepth 100000 in
set_option maxHeartbeats 4000000 in
theorem rnoAtom_c (t:Am) (w:World) (cs:List Value) (hc:AmC w w.heap.size t cs) :
  Calls Tryz.prog 117 #[.agg cs.toArray] w fun e w'=>e=.returned (.bool (noA t))∧Below w.heap.size w w':=by
 obtain⟨s,l⟩:=t
 obtain⟨p1,q1,rfl,hz,t1⟩:=hc.look
 clear hc t1
 simp only at hz ⊢
 obtain⟨bl,hbl⟩:∃ b,((l.length:Int) == 0)=b:=⟨_,rfl⟩
 have hle:=empty_int l
 rw[hbl] at hle
 have A0:Hid (Below w.heap.size w (w.alloc (.cells #[.string s,.slice p1 l.length q1] 34))):=hid ((Below.refl _ _).alloc (Nat.le_refl _) _)
 have HL:Hid (noA ⟨s,l⟩=(s.toList.isEmpty && bl)):=hid (by rw[← hle];rfl)
 clear hle
 by_cases h0:s.toList=[]
 ·have Hz:Hid (noA ⟨s,l⟩=bl):=hid (by rw[HL.out,h0];rfl)
  cases bl
  all_goals
   go_enter Tryz.func117,Tryz.ntmps117
   go_wp2
   go_ret
   exact⟨by rw[Hz.out];rfl,A0.out⟩
 ·have Hz:Hid (noA ⟨s,l⟩=false):=hid (by rw[HL.out];simp[h0])
  go_enter Tryz.func117,Tryz.ntmps117
  go_wp2
  go_ret
  exact⟨by rw[Hz.out];rfl,A0.out⟩
set_option maxRecDepth 100000 in
set_option maxHeartbeats 4000000 in
theorem rrightAtom_c (t:Am) (w:World) (cs:List Value) (hc:AmC w w.heap.size t cs) :
  Calls Tryz.prog 73 #[.agg cs.toArray] w fun e w'=>e=.returned (.bool (rightA t))∧Below w.heap.size w w':=by
 obtain⟨s,l⟩:=t
 obtain⟨p1,q1,rfl,hz,t1⟩:=hc.look
 simp only at hz t1 ⊢
 obtain⟨o1,cap1,e1,hc1,hm1,S1⟩:=SlOf.open t1
 cases e1
 clear hc t1
 have HN:=hid (fun w=>refName_any s w hz)
 have HB0:Hid (∀ (x:Obj),Below w.heap.size w (w.alloc x)):=hid fun x=>(Below.refl _ _).alloc (Nat.le_refl _) _
 have Hz0:Hid (rightA ⟨s,l⟩=(nameB s.data.toList && decide (1≤l.length) && decide (l.length≤8) && l.all (rightT 20))):=hid rfl
 cases hnm:nameB s.data.toList with
 | false=>
  have Hz:Hid (rightA ⟨s,l⟩=false):=hid (by rw[Hz0.out,hnm];rfl)
  rw[hnm] at HN
  clear hnm
  go_enter Tryz.func73,Tryz.ntmps73
  go_wp2_with fail
  refine (HN.out _).mono ?_
  rintro e w1 ⟨rfl,rfl⟩
  go_wp2
  go_ret
  exact⟨by rw[Hz.out];rfl,HB0.out _⟩
 | true=>
 rw[hnm] at HN
 by_cases g1:(l.length:Int) < 1
 ·have Hz:Hid (rightA ⟨s,l⟩=false):=hid (by rw[Hz0.out,decide_eq_false (show ¬ 1≤l.length by omega)];simp)
  clear hnm
  go_enter Tryz.func73,Tryz.ntmps73
  go_wp2_with fail
  refine (HN.out _).mono ?_
  rintro e w1 ⟨rfl,rfl⟩
  go_wp2
  go_ret
  exact⟨by rw[Hz.out];rfl,HB0.out _⟩
 by_cases g2:(8:Int) < (l.length:Int)
 ·have Hz:Hid (rightA ⟨s,l⟩=false):=hid (by rw[Hz0.out,decide_eq_false (show ¬ l.length≤8 by omega)];simp)
  clear hnm
  go_enter Tryz.func73,Tryz.ntmps73
  go_wp2_with fail
  refine (HN.out _).mono ?_
  rintro e w1 ⟨rfl,rfl⟩
  go_wp2
  go_ret
  exact⟨by rw[Hz.out];rfl,HB0.out _⟩
 have Hz:Hid (rightA ⟨s,l⟩=l.all (rightT 20)):=hid (by rw[Hz0.out,hnm,decide_eq_true (show 1≤l.length by omega),decide_eq_true (show l.length≤8 by omega)];rfl)
 clear hnm Hz0
 go_enter Tryz.func73,Tryz.ntmps73
 go_wp2_with fail
 refine (HN.out _).mono ?_
 rintro e w1 ⟨rfl,rfl⟩
 go_wp2
 go_loopw [4] (fun i wr=>∃ k:Nat,k≤l.length∧i=.int .i64 k∧l.all (rightT 20)=(l.drop k).all (rightT 20)∧Below (w.heap.size+1) (w.alloc (.cells #[.string s,.slice p1 l.length q1] 34)) wr) (fun i _=>l.length - (intOf i).toNat)
 case atStart=>exact⟨0,Nat.zero_le _,rfl,rfl,Below.refl _ _⟩
 case round=>
  obtain⟨k,hk,rfl,hr,hB2⟩:=hrel
  have hB:Below w.heap.size w wr:=(HB0.out _).trans (hB2.mono (by omega))
  have Hr:=hid hr
  clear hr
  have hBs:=hB2.size
  simp only[World.size_alloc] at hBs
  have hz0:w.heap.size < wr.heap.size:=by omega
  have x0:wr.cell? ⟨w.heap.size,1,none⟩=some (.slice p1 l.length q1):=(hB2.cell (p:=⟨w.heap.size,1,none⟩) (by show w.heap.size < _;omega)).trans (by go_simp)
  by_cases hlt:k < l.length
  ·have hlt':(k:Int) < (l.length:Int):=by omega
   obtain⟨t,ht⟩:∃ t,l[k]?=some t:=⟨l[k],List.getElem?_eq_getElem hlt⟩
   obtain⟨a,p3,q3,rfl,ha,Hc,c0,c1,c2,c3⟩:=tm_at S1 hB ht
   have hal:(a.add (k * 4)).block < wr.heap.size:=by rw[addBlock];omega
   have Hst:=hid (Hr.out.trans (all_drop' (f:=rightT 20) ht))
   clear ht
   have HI:=hid (fun (W:World) (hb:Below wr.heap.size wr W)=>rrightTerm_c 20 20 t W _ rfl (by omega) ((Hc.out.under hb).more hb.size))
   go_wp2_with fail
   refine (HI.out _ (Below.refl _ _)).mono ?_
   rintro e w1 ⟨rfl,b1⟩
   have hB3:=hB2.trans (b1.mono (by omega))
   cases hs:rightT 20 t with
   | false=>
    have Hz2:=hid (Hz.out.trans (Hst.out.trans (by rw[hs,Bool.false_and])))
    clear hs
    go_wp2
    go_ret
    exact⟨by rw[Hz2.out];rfl,(HB0.out _).trans (hB3.mono (by omega))⟩
   | true=>
    have Hz2:=hid (Hst.out.trans (by rw[hs,Bool.true_and]))
    clear hs
    go_wp2
    go_roundw
    case rel=>exact⟨k+1,hlt,by go_num,Hz2.out,hB3⟩
    case measure=>simp[intOf];omega
  ·have hlt':¬ (k:Int) < (l.length:Int):=by omega
   have Hz2:=hid (Hz.out.trans (Hr.out.trans (by rw[List.drop_of_length_le (by omega)];rfl:_=true)))
   go_wp2
   go_ret
   exact⟨by rw[Hz2.out];rfl,hB⟩
end Go.Proofs.YtfmldnbcjbflbaaGreatDoor
