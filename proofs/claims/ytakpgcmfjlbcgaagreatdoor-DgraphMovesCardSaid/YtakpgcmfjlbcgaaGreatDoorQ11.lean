/- Zvis@0123, Tsame@0123, Gfd@0123 -/
import Derived.Test.YtakpgcmfjlbcgaaGreatDoorQ6
import Derived.Test.YtakpgcmfjlbcgaaGreatDoorQ10
set_option linter.unusedSimpArgs false
set_option linter.unusedVariables false
namespace Go.Proofs.YtakpgcmfjlbcgaaGreatDoor
open Lib(hid)
open Go.RowKit Go.Shelf
attribute [local go_sem] Oper.semAt_some
def occ (ts:List Tm):List ByteArray:=(ts.filter (fun t=>t.op == 1)).map Tm.s
theorem occ_app (a b:List Tm):occ (a++b)=occ a++occ b:=by simp[occ]
theorem occ_var {t:Tm} (h:t.op=1) (l:List Tm):occ (t::l)=t.s::occ l:=by simp[occ,h]
theorem occ_non {t:Tm} (h:t.op≠1) (l:List Tm):occ (t::l)=occ l:=by simp[occ,h]
theorem occ_take {l:List Tm} {k:Nat} {t:Tm} (h:l[k]?=some t):occ (subTs (l.take (k+1)))=occ (subTs (l.take k))++occ (t::subTs t.l):=by rw[subTs_take h,occ_app]
theorem occ_pre (l:List Tm) (k:Nat):occ (subTs (l.take k)) <+: occ (subTs l):=⟨occ (subTs (l.drop k)),by rw[← occ_app,← subTs_app,List.take_append_drop]⟩
structure Ns (G:ByteArray→Prop) where
 s:ByteArray
 good:G s
def Ns.enc {G:ByteArray→Prop} (x:Ns G):Array Value:=#[.string x.s]
section
variable {w0:World} {n₀:Nat} {G:ByteArray→Prop}
def ZPost (S:World→Nat→Prop) (J Jx:List (Ns G)→World→Prop) (l:List Tm) (pre:List (Ns G)) (W:World) (e:Ending) (W':World):Prop:=
 (e=.returned (.bool true)∧(∃ ys:List (Ns G),ys.map Ns.s=occ (subTs l)∧J (pre++ys) W')∧KO S W W')∨(e=.returned (.bool false)∧∃ ys:List (Ns G),ys.map Ns.s <+: occ (subTs l)∧Jx (pre++ys) W')
def ZVisit (w0:World) (n₀ lb N:Nat) (S:World→Nat→Prop) (J Jx:List (Ns G)→World→Prop) (l:List Tm):Prop:=
 ∀ (n:Nat) (W:World) (v:Value) (pre:List (Ns G)),Safe S w0 W→(∀ i,S W i→i < W.heap.size)→SlSafe S w0 n₀ W l v→(∀ s ∈ occ (subTs l),G s)→J pre W→pre.length+(occ (subTs l)).length≤N →
  CallsIn Fence.wide n Tryz.prog 110 #[v,.func (.yield lb) #[] #[]] W (ZPost S J Jx l pre W)
set_option maxRecDepth 100000 in
set_option maxHeartbeats 8000000 in
theorem zvisit_list (lb N:Nat) (S:World→Nat→Prop) (J Jx:List (Ns G)→World→Prop)
  (hG:SGrow S) (hJg:∀ pre W W',J pre W→Below W.heap.size W W'→J pre W')
  (hY:∀ m pre (x:Ns G) W,J pre W→pre.length < N→YieldAt Fence.wide m Tryz.prog lb x.enc W fun e W'=>(e=.returned (.bool true)∧J (pre++[x]) W'∧KO S W W')∨(e=.returned (.bool false)∧Jx (pre++[x]) W'))
  (l:List Tm) (IH:∀ t ∈ l,ZVisit w0 n₀ lb N S J Jx t.l):ZVisit w0 n₀ lb N S J Jx l:=by
 intro n W v pre hT hw hS hGd hJ hN
 obtain⟨o1,cap1,rfl,hc1,hm1,hS1⟩:=hS
 have S1:=hid hS1
 have HI:=hid IH
 have HJ:=hid hJg
 have HW:=hid hw
 have HY:=hid hY
 have HT:=hid hT
 have K0:Hid (KO S W W):=hid (KO.refl S W)
 have J0:=hid hJ
 clear IH hJg hY hS1 hT hw
 refine callsIn_of_wp Tryz.func110 rfl trivial ?_ rfl
 simp only[Tryz.ntmps110,List.size_toArray,List.length_cons,List.length_nil,Nat.reduceAdd,Nat.reduceSub,Array.replicate_succ,Array.replicate_zero,List.push_toArray,List.append_toArray,List.nil_append,List.cons_append]
 gi_wp2
 gi_loopw [9] (fun i wr=>∃ (k:Nat) (ys:List (Ns G)),k≤l.length∧i=.int .i64 k∧ys.map Ns.s=occ (subTs (l.take k))∧J (pre++ys) wr∧KO S W wr) (fun i _=>l.length - (intOf i).toNat)
 case atStart=>exact⟨0,[],Nat.zero_le _,rfl,by simp[subTs,occ],by simpa using J0.out,K0.out⟩
 case round=>
  obtain⟨k,ys,hk,rfl,hys,hJk,hkk⟩:=hrel
  have Hys:=hid hys
  clear hys
  have hTr:Safe S w0 wr:=HT.out.ko hkk
  have hwr:=hkk.wf HW.out
  by_cases hlt:k < l.length
  ·have hlt':(k:Int) < (l.length:Int):=by omega
   have hk0:(0:Int)≤(k:Int):=by omega
   obtain⟨u,hu⟩:∃ u,l[k]?=some u:=⟨l[k],List.getElem?_eq_getElem hlt⟩
   obtain⟨a,p2,q2,rfl,hal,Hc,c0,c1,c2,c3⟩:=ne_at S1 hkk hu
   have Htk:=hid (occ_take hu)
   have Hm:=hid (List.mem_of_getElem? hu)
   have hlen:(pre++ys).length+(occ (u::subTs u.l)).length≤N:=by
    have h1:=congrArg List.length Hys.out
    have h2:=(occ_pre l (k+1)).length_le
    rw[Htk.out] at h2
    simp only[List.length_map,List.length_append] at h1 h2 hN ⊢
    omega
   have Hlen:=hid hlen
   obtain⟨V,hV⟩:∃ V,wr.alloc (.cells #[.int .i64 u.op,.string u.s,.int .i64 u.n,.slice p2 u.l.length q2] 51)=V:=⟨_,rfl⟩
   have hbV:Below wr.heap.size wr V:=by rw[← hV];exact (Below.refl _ _).alloc (Nat.le_refl _) _
   have JV:=HJ.out _ _ _ hJk hbV
   have KV:=KO.of_below hG hwr hbV
   have hnS:¬ S V wr.heap.size:=fun hs=>Nat.lt_irrefl _ (hwr _ (hG _ _ hwr hbV _ hs))
   have hsV:V.heap.size=wr.heap.size+1:=by rw[← hV];simp
   have hrow:V.heap[wr.heap.size]?=some (.cells #[.int .i64 u.op,.string u.s,.int .i64 u.n,.slice p2 u.l.length q2] 51 (0,0)):=by rw[← hV];exact World.alloc_heap_new wr _
   have d0:V.cell? ⟨wr.heap.size,0,none⟩=some (.int .i64 u.op):=by unfold World.cell?;rw[hrow];rfl
   have d1:V.cell? ⟨wr.heap.size,1,none⟩=some (.string u.s):=by unfold World.cell?;rw[hrow];rfl
   have d3:V.cell? ⟨wr.heap.size,3,none⟩=some (.slice p2 u.l.length q2):=by unfold World.cell?;rw[hrow];rfl
   have hsub:∀ s ∈ occ (u::subTs u.l),s ∈ occ (subTs l):=fun s h=>(occ_pre l (k+1)).subset (by rw[Htk.out];exact List.mem_append_right _ h)
   have Hsub:=hid hsub
   have KVr:=hid (hkk.trans KV)
   have Hrow:=hid hrow
   have HnS:=hid hnS
   have HsV:=hid hsV
   have HSu:=hid (tmc_sl Hc.out)
   have pfx:occ (subTs (l.take k))++occ (u::subTs u.l) <+: occ (subTs l):=by rw[← Htk.out];exact occ_pre l (k+1)
   have Pfx:=hid pfx
   have HJV:=hid JV
   clear hu hkk KV hnS hrow hbV hTr hJk JV hlen hwr pfx hsub
   by_cases hop:u.op=1
   ·have hov:=occ_var hop (subTs u.l)
    rw[hov] at Hsub Hlen Pfx Htk
    have hgu:=hGd u.s (Hsub.out u.s (List.mem_cons_self ..))
    have Hgd:=hid hGd
    obtain⟨x,hx⟩:∃ x:Ns G,x=⟨u.s,hgu⟩:=⟨_,rfl⟩
    have hxe:x.enc=#[.string u.s]:=by rw[hx];rfl
    have hxt:x.s=u.s:=by rw[hx]
    obtain⟨fn,tmps,assign,body,hy,hR⟩:=HY.out (n - 1) (pre++ys) x V HJV.out (by have:=Hlen.out;simp only[List.length_append,List.length_cons] at this ⊢;omega)
    rw[hxe] at hy
    have Hxt:=hid hxt
    have hq1:(u.op == 1)=true:=by simp[hop]
    clear hx hxe hxt hov hgu hGd hop
    gi_wp2
    refine⟨fun h=>(by cases h),hR.mono ?_⟩
    rintro e W1 (⟨rfl,hJ2,hk2⟩ | ⟨rfl,hx2⟩)
    ·have e3:W1.cell? ⟨wr.heap.size,3,none⟩=some (.slice p2 u.l.length q2):=hk2.cell d3 HnS.out
     have hK2:=hid (KVr.out.trans hk2)
     have hTr2:Safe S w0 W1:=HT.out.ko hK2.out
     have hlr:wr.heap.size < W1.heap.size:=by have:=hk2.size;have:=HsV.out;omega
     have HC:=hid (HI.out u Hm.out (n - 1) W1 _ (pre++ys++[x]) hTr2 (hK2.out.wf HW.out) (slSafe_of HSu.out hTr2) (fun t h=>Hgd.out t (Hsub.out t (List.mem_cons_of_mem _ h))) hJ2 (by have:=Hlen.out;simp only[List.length_append,List.length_cons,List.length_nil] at this ⊢;omega))
     clear hTr2 hJ2 hk2 c0 c1 c2 c3 d0 d1 d3
     gi_wp2_with fail
     refine⟨trivial,fun h=>(by cases h),HC.out.mono ?_⟩
     rintro e W2 (⟨rfl,⟨zs,hz,hJ3⟩,hk3⟩ | ⟨rfl,zs,hz,hx3⟩)
     ·have Hz:=hid hz
      have HJ3:=hid hJ3
      have HK3:=hid (hK2.out.trans hk3)
      clear hz hJ3 hk3
      gi_wp2
      go_roundw
      case rel=>
       exact⟨k+1,ys++x::zs,hlt,by go_num,by rw[List.map_append,List.map_cons,Hys.out,Hz.out,Hxt.out,Htk.out],by have:=HJ3.out;simpa using this,HK3.out⟩
      case measure=>simp[intOf];omega
     ·have Hz:=hid hz
      have HX3:=hid hx3
      clear hz hx3
      gi_wp2
      go_ret
      refine .inr ⟨rfl,ys++x::zs,?_,by have:=HX3.out;simpa using this⟩
      rw[List.map_append,List.map_cons,Hys.out,Hxt.out]
      obtain⟨r,hr⟩:=Hz.out
      obtain⟨r2,hr2⟩:=Pfx.out
      exact⟨r++r2,by rw[← hr2,← hr];simp⟩
    ·have HX2:=hid hx2
     clear hx2 c0 c1 c2 c3 d0 d1 d3
     gi_wp2
     refine⟨trivial,?_⟩
     gi_wp2
     go_ret
     refine .inr ⟨rfl,ys++[x],?_,by have:=HX2.out;simpa using this⟩
     rw[List.map_append,Hys.out,List.map_cons,List.map_nil,Hxt.out]
     obtain⟨r2,hr2⟩:=Pfx.out
     exact⟨occ (subTs u.l)++r2,by rw[← hr2];simp⟩
   ·have hov:=occ_non hop (subTs u.l)
    rw[hov] at Hsub Hlen Pfx Htk
    have hq1:(u.op == 1)=false:=by simpa using hop
    have hTr2:Safe S w0 V:=HT.out.ko KVr.out
    have HC:=hid (HI.out u Hm.out (n - 1) V _ (pre++ys) hTr2 (KVr.out.wf HW.out) (slSafe_of HSu.out hTr2) (fun t h=>hGd t (Hsub.out t h)) HJV.out Hlen.out)
    have hlr:wr.heap.size < V.heap.size:=by have:=HsV.out;omega
    clear hTr2 hov hGd
    gi_wp2_with fail
    refine⟨fun f h=>(by cases h),?_⟩
    gi_wp2_with fail
    refine⟨trivial,fun h=>(by cases h),HC.out.mono ?_⟩
    rintro e W2 (⟨rfl,⟨zs,hz,hJ3⟩,hk3⟩ | ⟨rfl,zs,hz,hx3⟩)
    ·have Hz:=hid hz
     have HJ3:=hid hJ3
     have HK3:=hid (KVr.out.trans hk3)
     clear hz hJ3 hk3 c0 c1 c2 c3 d0 d1 d3
     gi_wp2
     go_roundw
     case rel=>
      exact⟨k+1,ys++zs,hlt,by go_num,by rw[List.map_append,Hys.out,Hz.out,Htk.out],by have:=HJ3.out;simpa using this,HK3.out⟩
     case measure=>simp[intOf];omega
    ·have Hz:=hid hz
     have HX3:=hid hx3
     clear hz hx3 c0 c1 c2 c3 d0 d1 d3
     gi_wp2
     go_ret
     refine .inr ⟨rfl,ys++zs,?_,by have:=HX3.out;simpa using this⟩
     rw[List.map_append,Hys.out]
     obtain⟨r,hr⟩:=Hz.out
     obtain⟨r2,hr2⟩:=Pfx.out
     exact⟨r++r2,by rw[← hr2,← hr];simp⟩
  ·have hlt':¬ (k:Int) < (l.length:Int):=by omega
   gi_wp2
   go_ret
   refine .inl ⟨rfl,⟨ys,?_,hJk⟩,hkk⟩
   rw[Hys.out,List.take_of_length_le (by omega)]
end
end Go.Proofs.YtakpgcmfjlbcgaaGreatDoor
namespace Go.Proofs.YtakpgcmfjlbcgaaGreatDoor
open Lib(hid)
open Go.RowKit
def SameTermAt (t:Tm):Prop:=∀ (u:Tm) (w:World) (cs ds:List Value),TmC w w.heap.size t cs→TmC w w.heap.size u ds →
  Calls Tryz.prog 179 #[.agg cs.toArray,.agg ds.toArray] w fun e w'=>e=.returned (.bool (sameT t u))∧Below w.heap.size w w'
set_option maxRecDepth 100000 in
set_option maxHeartbeats 4000000 in
theorem equalTerms_c (l m:List Tm) (ih:∀ t ∈ l,SameTermAt t) (v1 v2:Value) (w:World) (h1:TmS w w.heap.size l v1) (h2:TmS w w.heap.size m v2) :
  Calls Tryz.prog 195 #[v1,v2,.func (.func 179) #[] #[]] w fun e w'=>e=.returned (.bool (allS sameT l m))∧Below w.heap.size w w':=by
 obtain⟨o1,cap1,rfl,hc1,hm1,S1⟩:=SlOf.open h1
 obtain⟨o2,cap2,rfl,hc2,hm2,S2⟩:=SlOf.open h2
 have IH:=hid ih
 clear h1 h2 ih
 by_cases hlen:l.length=m.length
 ·have q:((l.length:Int) != (m.length:Int))=false:=by rw[hlen];simp
  have Hlen:=hid hlen
  clear hlen
  go_enter Tryz.func195,Tryz.ntmps195
  go_wp2
  go_loopw [17] (fun i wr=>∃ k:Nat,k≤l.length∧i=.int .i64 k∧allS sameT l m=allS sameT (l.drop k) (m.drop k)∧Below w.heap.size w wr) (fun i _=>l.length - (intOf i).toNat)
  case atStart=>exact⟨0,Nat.zero_le _,rfl,rfl,Below.refl _ _⟩
  case round=>
   obtain⟨k,hk,rfl,hr,hB⟩:=hrel
   have Hr:=hid hr
   clear hr
   have hBs:=hB.size
   by_cases hlt:k < l.length
   ·have hlt':(k:Int) < (l.length:Int):=by omega
    have hlt2:k < m.length:=by have:=Hlen.out;omega
    obtain⟨t,ht⟩:∃ t,l[k]?=some t:=⟨l[k],List.getElem?_eq_getElem hlt⟩
    obtain⟨u,hu⟩:∃ u,m[k]?=some u:=⟨m[k],List.getElem?_eq_getElem hlt2⟩
    obtain⟨a,p1,q1,rfl,ha,Hc,c0,c1,c2,c3⟩:=tm_at S1 hB ht
    obtain⟨b,p2,q2,rfl,hb,Hd,d0,d1,d2,d3⟩:=tm_at S2 hB hu
    have hal:(a.add (k * 4)).block < wr.heap.size:=by rw[addBlock];omega
    have hbl:(b.add (k * 4)).block < wr.heap.size:=by rw[addBlock];omega
    have Hs:=hid (allS_drop (f:=sameT) ht hu)
    have Ht:=hid (List.mem_of_getElem? ht)
    clear ht hu
    have HI:=hid (fun (W:World) (hb:Below wr.heap.size wr W)=>IH.out t Ht.out u W _ _ ((Hc.out.under hb).more hb.size) ((Hd.out.under hb).more hb.size))
    go_wp2_with fail
    refine (HI.out _ (((Below.refl _ _).alloc (Nat.le_refl _) _).alloc (by simp) _)).mono ?_
    rintro e w1 ⟨rfl,b1⟩
    have hB1:=hB.trans ((((Below.refl _ wr).alloc (Nat.le_refl _) _).alloc (by simp) _).mono hBs |>.trans (b1.mono (by simp;omega)))
    cases hs:sameT t u
    ·have Hz:=hid (Hr.out.trans (Hs.out.trans (by rw[hs,Bool.false_and])))
     clear hs
     go_wp2
     go_ret
     exact⟨by rw[Hz.out];rfl,hB1⟩
    ·have Hz:=hid (Hr.out.trans (Hs.out.trans (by rw[hs,Bool.true_and])))
     clear hs
     go_wp2
     go_roundw
     case rel=>exact⟨k+1,hlt,by go_num,Hz.out,hB1⟩
     case measure=>simp[intOf];omega
   ·have hlt':¬ (k:Int) < (l.length:Int):=by omega
    have Hz:=hid (allS_end (f:=sameT) (l:=l) (m:=m) (k:=k) (by omega) (by have:=Hlen.out;omega))
    go_wp2
    go_ret
    exact⟨by rw[Hr.out,Hz.out];rfl,hB⟩
 ·have q:((l.length:Int) != (m.length:Int))=true:=by rw[bne_iff_ne];omega
  have Hz:=hid (allS_len (f:=sameT) hlen)
  clear hlen
  go_enter Tryz.func195,Tryz.ntmps195
  go_wp2
  go_ret
  exact⟨by rw[Hz.out];rfl,Below.refl _ _⟩
set_option maxRecDepth 100000 in
set_option maxHeartbeats 4000000 in
theorem sameTerm_c (t:Tm):SameTermAt t:=by
 induction t using Tm.rec (motive_2:=fun l=>∀ t ∈ l,SameTermAt t) with
 | nil x hx=>simp at hx
 | cons t ts ih ihs x hx=>
  rcases List.mem_cons.1 hx with rfl | hx
  ·exact ih
  ·exact ihs x hx
 | mk op s n l ih=>
  intro u w cs ds hc hd
  obtain⟨p1,q1,rfl,_,_,_,t1⟩:=hc.look
  obtain⟨p2,q2,rfl,_,_,_,t2⟩:=hd.look
  have Hs:=hid (sameT_eq (.mk op s n l) u)
  have H:=hid (fun (W:World) (hb:Below w.heap.size w W)=>equalTerms_c l u.l ih _ _ W ((TmS.below t1 hb).more hb.size) ((TmS.below t2 hb).more hb.size))
  simp only[Tm.op_mk,Tm.s_mk,Tm.n_mk,Tm.l_mk] at Hs H ⊢
  clear hc hd t1 t2 ih
  obtain⟨b1,hb1⟩:∃ b,(op == u.op)=b:=⟨_,rfl⟩
  obtain⟨b2,hb2⟩:∃ b,(s.toList == u.s.toList)=b:=⟨_,rfl⟩
  obtain⟨b3,hb3⟩:∃ b,(n == u.n)=b:=⟨_,rfl⟩
  have Hf:Hid ((b1 && b2 && b3)=false→sameT (.mk op s n l) u=false):=hid (by
   intro h
   rw[Hs.out,hb1,hb2,hb3,h,Bool.false_and])
  cases b1
  ·have Hz:=hid (Hf.out rfl)
   go_enter Tryz.func179,Tryz.ntmps179
   go_wp2
   go_ret
   exact⟨by rw[Hz.out];rfl,((Below.refl _ _).alloc (Nat.le_refl _) _).alloc (by simp) _⟩
  cases b2
  ·have Hz:=hid (Hf.out rfl)
   go_enter Tryz.func179,Tryz.ntmps179
   go_wp2
   go_ret
   exact⟨by rw[Hz.out];rfl,((Below.refl _ _).alloc (Nat.le_refl _) _).alloc (by simp) _⟩
  cases b3
  ·have Hz:=hid (Hf.out rfl)
   go_enter Tryz.func179,Tryz.ntmps179
   go_wp2
   go_ret
   exact⟨by rw[Hz.out];rfl,((Below.refl _ _).alloc (Nat.le_refl _) _).alloc (by simp) _⟩
  have Hz:Hid (sameT (.mk op s n l) u=allS sameT l u.l):=hid (by rw[Hs.out,hb1,hb2,hb3];rfl)
  go_enter Tryz.func179,Tryz.ntmps179
  go_wp2_with fail
  refine (H.out _ (((Below.refl _ _).alloc (Nat.le_refl _) _).alloc (by simp) _)).mono ?_
  rintro e w1 ⟨rfl,b1⟩
  go_wp2
  go_ret
  exact⟨by rw[Hz.out];rfl,(((Below.refl _ _).alloc (Nat.le_refl _) _).alloc (by simp) _).trans (b1.mono (by simp;omega))⟩
end Go.Proofs.YtakpgcmfjlbcgaaGreatDoor
namespace Go.Proofs.YtakpgcmfjlbcgaaGreatDoor
open Lib(hid)
open Go.RowKit
structure FD (a b c d:Nat) (ps:List (Nat × Nat)) (R:List (Value→Prop)) (W0:World) (E1 E2 E3:Value→World→Prop) (E4:World→Prop) (l:Array Bool) (val:Nat→Value) (w:World):Prop where
 rd:∀ j p,l.getD j false=true→R[j]?=some p→p (val j)
 dp:∀ q ∈ ps,l.getD q.1 false=true→l.getD q.2 false=true
 s0:l.getD a false=false→w=W0
 s1:l.getD a false=true→l.getD b false=false→E1 (val a) w
 s2:l.getD b false=true→l.getD c false=false→E2 (val b) w
 s3:l.getD c false=true→l.getD d false=false→E3 (val c) w
 s4:l.getD d false=true→E4 w
section
variable {a b c d n:Nat} {ps:List (Nat × Nat)} {R:List (Value→Prop)} {W0 w w':World} {E1 E2 E3:Value→World→Prop} {E4:World→Prop} {l:Array Bool} {val:Nat→Value}
theorem FD.start:FD a b c d ps R W0 E1 E2 E3 E4 (Array.replicate n false) val W0:=by
 have rep:∀ j,(Array.replicate n false).getD j false=false:=by
  intro j
  simp[Array.getD_eq_getD_getElem?,Array.getElem?_replicate]
  split <;> simp
 exact⟨fun j p h=>ntb (rep _) h,fun q _ h=>ntb (rep _) h,fun _=>rfl,fun h=>ntb (rep _) h,fun h=>ntb (rep _) h,fun h=>ntb (rep _) h,fun h=>ntb (rep _) h⟩
theorem FD.upd (h:FD a b c d ps R W0 E1 E2 E3 E4 l val w) {i:Nat} {v:Value} (hl:i < l.size) (hd:∀ q ∈ ps,q.1=i→l.getD q.2 false=true) (hv:∀ p,R[i]?=some p→p v) :
  (∀ j p,(l.setIfInBounds i true).getD j false=true→R[j]?=some p→p (updV val i v j))∧(∀ q ∈ ps,(l.setIfInBounds i true).getD q.1 false=true→(l.setIfInBounds i true).getD q.2 false=true):=by
 refine⟨fun j p hj hp=>?_,fun q hq h1=>?_⟩
 ·by_cases e:j=i
  ·subst e;rw[updV_same];exact hv p hp
  ·rw[updV_other _ _ e];rw[getD_set e] at hj;exact h.rd j p hj hp
 ·by_cases e2:q.2=i
  ·rw[e2];exact getD_same hl
  ·rw[getD_set e2]
   by_cases e1:q.1=i
   ·exact hd q hq e1
   ·rw[getD_set e1] at h1;exact h.dp q hq h1
theorem FD.off (h:FD a b c d ps R W0 E1 E2 E3 E4 l val w) {i j:Nat} (p:(j,i) ∈ ps) (hn:l.getD i false=false):l.getD j false=false:=by
 cases h8:l.getD j false with
 | false=>rfl
 | true=>exact ntb hn (h.dp _ p h8)
theorem FD.read (h:FD a b c d ps R W0 E1 E2 E3 E4 l val w) {i:Nat} {v:Value} (hl:i < l.size) (hd:∀ q ∈ ps,q.1=i→l.getD q.2 false=true) (hv:∀ p,R[i]?=some p→p v) (ha:i≠a) (hb:i≠b) (hc:i≠c) (hdd:i≠d) :
  FD a b c d ps R W0 E1 E2 E3 E4 (l.setIfInBounds i true) (updV val i v) w:=by
 obtain⟨x,y⟩:=h.upd hl hd hv
 refine⟨x,y,?_,?_,?_,?_,?_⟩
 ·rw[getD_set (Ne.symm ha)];exact h.s0
 ·rw[getD_set (Ne.symm ha),getD_set (Ne.symm hb),updV_other _ _ (Ne.symm ha)];exact h.s1
 ·rw[getD_set (Ne.symm hb),getD_set (Ne.symm hc),updV_other _ _ (Ne.symm hb)];exact h.s2
 ·rw[getD_set (Ne.symm hc),getD_set (Ne.symm hdd),updV_other _ _ (Ne.symm hc)];exact h.s3
 ·rw[getD_set (Ne.symm hdd)];exact h.s4
theorem FD.called (h:FD a b c d ps R W0 E1 E2 E3 E4 l val w) {v:Value} (hl:a < l.size) (hn:l.getD a false=false) (hd:∀ q ∈ ps,q.1=a→l.getD q.2 false=true) (hv:∀ p,R[a]?=some p→p v) (hab:b≠a) (hac:c≠a) (had:d≠a) (pb:(b,a) ∈ ps) (pc:(c,b) ∈ ps) (pd:(d,c) ∈ ps)
  (he:E1 v w'):FD a b c d ps R W0 E1 E2 E3 E4 (l.setIfInBounds a true) (updV val a v) w':=by
 obtain⟨x,y⟩:=h.upd hl hd hv
 have eb:=h.off pb hn
 have ec:=h.off pc eb
 have ed:=h.off pd ec
 refine⟨x,y,fun k=>?_,fun _ _=>?_,fun k=>?_,fun k=>?_,fun k=>?_⟩
 ·rw[getD_same hl] at k;cases k
 ·rw[updV_same];exact he
 ·rw[getD_set hab] at k;exact ntb eb k
 ·rw[getD_set hac] at k;exact ntb ec k
 ·rw[getD_set had] at k;exact ntb ed k
theorem FD.made (h:FD a b c d ps R W0 E1 E2 E3 E4 l val w) {v:Value} (hl:b < l.size) (hn:l.getD b false=false) (hd:∀ q ∈ ps,q.1=b→l.getD q.2 false=true) (hv:∀ p,R[b]?=some p→p v) (hab:a≠b) (hbc:c≠b) (hbd:d≠b) (pb:(b,a) ∈ ps) (pc:(c,b) ∈ ps) (pd:(d,c) ∈ ps)
  (he:E2 v w'):FD a b c d ps R W0 E1 E2 E3 E4 (l.setIfInBounds b true) (updV val b v) w':=by
 obtain⟨x,y⟩:=h.upd hl hd hv
 have ea:=hd _ pb rfl
 have ec:=h.off pc hn
 have ed:=h.off pd ec
 refine⟨x,y,fun k=>?_,fun _ k=>?_,fun _ _=>?_,fun k=>?_,fun k=>?_⟩
 ·rw[getD_set hab] at k;exact ntb k ea
 ·rw[getD_same hl] at k;cases k
 ·rw[updV_same];exact he
 ·rw[getD_set hbc] at k;exact ntb ec k
 ·rw[getD_set hbd] at k;exact ntb ed k
theorem FD.appended (h:FD a b c d ps R W0 E1 E2 E3 E4 l val w) {v:Value} (hl:c < l.size) (hn:l.getD c false=false) (hd:∀ q ∈ ps,q.1=c→l.getD q.2 false=true) (hv:∀ p,R[c]?=some p→p v) (hac:a≠c) (hbc:b≠c) (hcd:d≠c) (pb:(b,a) ∈ ps) (pc:(c,b) ∈ ps) (pd:(d,c) ∈ ps)
  (he:E3 v w'):FD a b c d ps R W0 E1 E2 E3 E4 (l.setIfInBounds c true) (updV val c v) w':=by
 obtain⟨x,y⟩:=h.upd hl hd hv
 have eb:=hd _ pc rfl
 have ea:=h.dp _ pb eb
 have ed:=h.off pd hn
 refine⟨x,y,fun k=>?_,fun _ k=>?_,fun _ k=>?_,fun _ _=>?_,fun k=>?_⟩
 ·rw[getD_set hac] at k;exact ntb k ea
 ·rw[getD_set hbc] at k;exact ntb k eb
 ·rw[getD_same hl] at k;cases k
 ·rw[updV_same];exact he
 ·rw[getD_set hcd] at k;exact ntb ed k
theorem FD.stored (h:FD a b c d ps R W0 E1 E2 E3 E4 l val w) {v:Value} (hl:d < l.size) (hn:l.getD d false=false) (hd:∀ q ∈ ps,q.1=d→l.getD q.2 false=true) (hv:∀ p,R[d]?=some p→p v) (had:a≠d) (hbd:b≠d) (hcd:c≠d) (pb:(b,a) ∈ ps) (pc:(c,b) ∈ ps) (pd:(d,c) ∈ ps)
  (he:E4 w'):FD a b c d ps R W0 E1 E2 E3 E4 (l.setIfInBounds d true) (updV val d v) w':=by
 obtain⟨x,y⟩:=h.upd hl hd hv
 have ec:=hd _ pd rfl
 have eb:=h.dp _ pc ec
 have ea:=h.dp _ pb eb
 refine⟨x,y,fun k=>?_,fun _ k=>?_,fun _ k=>?_,fun _ k=>?_,fun _=>he⟩
 ·rw[getD_set had] at k;exact ntb k ea
 ·rw[getD_set hbd] at k;exact ntb k eb
 ·rw[getD_set hcd] at k;exact ntb k ec
 ·rw[getD_same hl] at k;cases k
end
end Go.Proofs.YtakpgcmfjlbcgaaGreatDoor
