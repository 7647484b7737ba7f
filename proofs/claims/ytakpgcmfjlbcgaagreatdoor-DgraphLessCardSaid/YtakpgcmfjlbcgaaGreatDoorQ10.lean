/- Yvis@0123 -/
import Derived.Test.YtakpgcmfjlbcgaaGreatDoorQ8
set_option linter.unusedSimpArgs false
set_option linter.unusedVariables false
namespace Go.Proofs.YtakpgcmfjlbcgaaGreatDoor
open Lib(hid)
open Go.RowKit Go.Shelf
attribute [local go_sem] Oper.semAt_some
structure KO (S:World→Nat→Prop) (W W':World):Prop where
 size:W.heap.size≤W'.heap.size
 same:∀ i o,W.heap[i]?=some o→o.isCells=true→¬ S W i→W'.heap[i]?=some o
 own:∀ i,S W' i→S W i∨W.heap.size≤i
 wf:(∀ i,S W i→i < W.heap.size)→∀ i,S W' i→i < W'.heap.size
theorem KO.refl (S:World→Nat→Prop) (W:World):KO S W W:=⟨Nat.le_refl _,fun _ _ h _ _=>h,fun _ h=>.inl h,fun h=>h⟩
def SGrow (S:World→Nat→Prop):Prop:=∀ W W',(∀ i,S W i→i < W.heap.size)→Below W.heap.size W W'→∀ i,S W' i→S W i
theorem KO.of_below {S:World→Nat→Prop} (hG:SGrow S) {W W':World} (hw:∀ i,S W i→i < W.heap.size) (hb:Below W.heap.size W W'):KO S W W':=
 ⟨hb.size,fun i _ ho _ _=>(hb.block i (Array.getElem?_eq_some_iff.1 ho).1).trans ho,fun i h=>.inl (hG W W' hw hb i h),fun h i hi=>Nat.lt_of_lt_of_le (h i (hG W W' hw hb i hi)) hb.size⟩
def Safe (S:World→Nat→Prop) (w0 W:World):Prop:=∀ p c,w0.cell? p=some c→W.cell? p=some c∧p.block < W.heap.size∧¬ S W p.block
theorem KO.trans {S:World→Nat→Prop} {A B C:World} (h:KO S A B) (k:KO S B C):KO S A C:=
 ⟨Nat.le_trans h.size k.size,fun i o ho hc hs=>k.same i o (h.same i o ho hc hs) hc (fun hb=>(h.own i hb).elim hs (fun h=>by have:=(Array.getElem?_eq_some_iff.1 ho).1;omega)),
  fun i hc=>(k.own i hc).elim (fun hb=>h.own i hb) (fun hb=>.inr (Nat.le_trans h.size hb)),fun hw=>k.wf (h.wf hw)⟩
theorem KO.cell {S:World→Nat→Prop} {W W':World} (k:KO S W W') {p:Addr} {c:Value} (hp:W.cell? p=some c) (hs:¬ S W p.block):W'.cell? p=some c:=by
 obtain⟨o,ho,hc⟩:=cells_of_cell hp
 exact (World.cell?_of_block ((k.same _ o ho hc hs).trans ho.symm)).trans hp
def SPut (S:World→Nat→Prop):Prop:=∀ (W:World) (l:Nat) (o o':Obj),W.heap[l]?=some o→o.isCells=false→∀ i,S (W.putObj l o') i→S W i
theorem KO.put {S:World→Nat→Prop} (hP:SPut S) (W:World) (l:Nat) (o o':Obj) (ho:W.heap[l]?=some o) (hc:o.isCells=false):KO S W (W.putObj l o'):=by
 have hsz:(W.putObj l o').heap.size=W.heap.size:=by simp
 refine⟨by rw[hsz];exact Nat.le_refl _,fun i x hi hx _=>?_,fun i h=>.inl (hP W l o o' ho hc i h),fun h i hi=>by rw[hsz];exact h i (hP W l o o' ho hc i hi)⟩
 have hne:i≠l:=by rintro rfl;rw[ho] at hi;cases hi;rw[hc] at hx;cases hx
 exact (World.putObj_heap_other hne).trans hi
theorem Safe.ko {S:World→Nat→Prop} {w0 W W':World} (h:Safe S w0 W) (k:KO S W W'):Safe S w0 W':=fun p c hc=>by
 obtain⟨h1,h2,h3⟩:=h p c hc
 exact⟨k.cell h1 h3,Nat.lt_of_lt_of_le h2 k.size,fun hs=>(k.own _ hs).elim h3 (fun h=>by omega)⟩
mutual
def subT:Tm→List Tm
 | .mk o s n l=>.mk o s n l::subTs l
def subTs:List Tm→List Tm
 | []=>[]
 | t::ts=>subT t++subTs ts
end
theorem subT_eq (t:Tm):subT t=t::subTs t.l:=by cases t;unfold subT;rfl
theorem subTs_app (a b:List Tm):subTs (a++b)=subTs a++subTs b:=by
 induction a with
 | nil=>simp[subTs]
 | cons x a ih=>simp[subTs,ih]
theorem subTs_take {l:List Tm} {k:Nat} {t:Tm} (h:l[k]?=some t):subTs (l.take (k+1))=subTs (l.take k)++(t::subTs t.l):=by
 rw[List.take_succ_eq_append_getElem (List.getElem?_eq_some_iff.1 h).1,subTs_app,(List.getElem?_eq_some_iff.1 h).2]
 simp[subTs,subT_eq]
theorem subTs_pre {l:List Tm} (k:Nat):subTs (l.take k) <+: subTs l:=⟨subTs (l.drop k),by rw[← subTs_app,List.take_append_drop]⟩
structure Ne (w:World) (B:Nat) (G:Tm→Prop) where
 t:Tm
 cs:List Value
 ok:TmC w B t cs
 good:G t
def Ne.enc {w:World} {B:Nat} {G:Tm→Prop} (x:Ne w B G):Array Value:=#[.agg x.cs.toArray]
section
variable {w0:World} {n₀:Nat} {G:Tm→Prop}
def SlAt (S:World→Nat→Prop) (w0:World) (n₀:Nat) (W:World) (l:List Tm) (o:Option Addr):Prop:=
 ∀ (i:Nat) (x:Tm),l[i]?=some x→∃ (a:Addr) (cs:List Value),o=some a∧TmC w0 n₀ x cs∧CellsAt W a (i * 4) cs∧¬ S W a.block
def SlSafe (S:World→Nat→Prop) (w0:World) (n₀:Nat) (W:World) (l:List Tm) (v:Value):Prop:=∃ (o:Option Addr) (cap:Nat),v=.slice o l.length cap∧l.length≤cap∧cap≤9223372036854775807∧SlAt S w0 n₀ W l o
def YPost (S:World→Nat→Prop) (J Jx:List (Ne w0 n₀ G)→World→Prop) (l:List Tm) (pre:List (Ne w0 n₀ G)) (W:World) (e:Ending) (W':World):Prop:=
 (e=.returned (.bool true)∧(∃ ys:List (Ne w0 n₀ G),ys.map Ne.t=subTs l∧J (pre++ys) W')∧KO S W W')∨(e=.returned (.bool false)∧∃ ys:List (Ne w0 n₀ G),ys.map Ne.t <+: subTs l∧Jx (pre++ys) W')
def YVisit (lb N:Nat) (S:World→Nat→Prop) (J Jx:List (Ne w0 n₀ G)→World→Prop) (l:List Tm):Prop:=
 ∀ (n:Nat) (W:World) (v:Value) (pre:List (Ne w0 n₀ G)),Safe S w0 W→(∀ i,S W i→i < W.heap.size)→SlSafe S w0 n₀ W l v→(∀ t ∈ subTs l,G t)→J pre W→pre.length+(subTs l).length≤N →
  CallsIn Fence.wide n Tryz.prog 176 #[v,.func (.yield lb) #[] #[]] W (YPost S J Jx l pre W)
theorem ne_at {S:World→Nat→Prop} {l:List Tm} {o:Option Addr} {k:Nat} {t:Tm} {W wr:World} (h:Hid (SlAt S w0 n₀ W l o)) (hk:KO S W wr) (ht:l[k]?=some t) :
  ∃ a o' cap',o=some a∧(a.add (k * 4)).block < wr.heap.size∧Hid (TmC w0 n₀ t [.int .i64 t.op,.string t.s,.int .i64 t.n,.slice o' t.l.length cap']) ∧
   wr.cell? (a.add (k * 4))=some (.int .i64 t.op)∧wr.cell? ⟨(a.add (k * 4)).block,(a.add (k * 4)).off+1,none⟩=some (.string t.s)∧wr.cell? ⟨(a.add (k * 4)).block,(a.add (k * 4)).off+2,none⟩=some (.int .i64 t.n)∧wr.cell? ⟨(a.add (k * 4)).block,(a.add (k * 4)).off+3,none⟩=some (.slice o' t.l.length cap'):=by
 obtain⟨a,cs,rfl,h1,h2,h3⟩:=h.out k t ht
 obtain⟨o',cap',rfl,_⟩:=h1.look
 have hc:CellsAt wr a (k * 4) [.int .i64 t.op,.string t.s,.int .i64 t.n,.slice o' t.l.length cap']:=fun j c hj=>hk.cell (h2 j c hj) (by rw[addBlock];exact h3)
 have hb:=World.block_lt_of_cell? _ _ (hc 0 _ rfl)
 rw[addBlock] at hb
 exact⟨a,o',cap',rfl,by rw[addBlock];exact hb,hid h1,hc.four⟩
theorem slSafe_of {S:World→Nat→Prop} {W:World} {l:List Tm} {v:Value} (h:TmS w0 n₀ l v) (hs:Safe S w0 W):SlSafe S w0 n₀ W l v:=by
 obtain⟨o,cap,rfl,h2,h3,h4⟩:=SlOf.open h
 refine⟨o,cap,rfl,h2,h3,fun i x hx=>?_⟩
 obtain⟨a,cs,rfl,_,hl,g1,g2⟩:=h4.out i x hx
 obtain⟨o',cap',rfl,_⟩:=g1.look
 refine⟨a,_,rfl,g1,fun j c hj=>(hs _ _ (g2 j c hj)).1,?_⟩
 have:=(hs _ _ (g2 0 _ rfl)).2.2
 rw[addBlock] at this
 exact this
theorem tmc_sl {w:World} {B:Nat} {u:Tm} {x:Value} (h:TmC w B u [.int .i64 u.op,.string u.s,.int .i64 u.n,x]):TmS w B u.l x:=by
 obtain⟨v',e,_,_,_,h'⟩:=h.parts
 simp only[List.cons.injEq,true_and,and_true] at e
 subst e
 exact h'
set_option maxRecDepth 100000 in
set_option maxHeartbeats 8000000 in
theorem yvisit_list (lb N:Nat) (S:World→Nat→Prop) (J Jx:List (Ne w0 n₀ G)→World→Prop)
  (hG:SGrow S) (hJg:∀ pre W W',J pre W→Below W.heap.size W W'→J pre W')
  (hY:∀ m pre (x:Ne w0 n₀ G) W,J pre W→pre.length < N→YieldAt Fence.wide m Tryz.prog lb x.enc W fun e W'=>(e=.returned (.bool true)∧J (pre++[x]) W'∧KO S W W')∨(e=.returned (.bool false)∧Jx (pre++[x]) W'))
  (l:List Tm) (IH:∀ t ∈ l,YVisit lb N S J Jx t.l):YVisit lb N S J Jx l:=by
 intro n W v pre hT hw hS hGd hJ hN
 obtain⟨o1,cap1,rfl,hc1,hm1,hS1⟩:=hS
 have S1:=hid hS1
 have HI:=hid IH
 have HJ:=hid hJg
 have HW:=hid hw
 have HY:=hid hY
 have HT:=hid hT
 have K0:Hid (KO S W W):=hid (KO.refl S W)
 have J0:=hid hJ
 clear IH hJg hY hS1 hT hw
 refine callsIn_of_wp Tryz.func176 rfl trivial ?_ rfl
 simp only[Tryz.ntmps176,List.size_toArray,List.length_cons,List.length_nil,Nat.reduceAdd,Nat.reduceSub,Array.replicate_succ,Array.replicate_zero,List.push_toArray,List.append_toArray,List.nil_append,List.cons_append]
 gi_wp2
 gi_loopw [9] (fun i wr=>∃ (k:Nat) (ys:List (Ne w0 n₀ G)),k≤l.length∧i=.int .i64 k∧ys.map Ne.t=subTs (l.take k)∧J (pre++ys) wr∧KO S W wr) (fun i _=>l.length - (intOf i).toNat)
 case atStart=>exact⟨0,[],Nat.zero_le _,rfl,by simp[subTs],by simpa using J0.out,K0.out⟩
 case round=>
  obtain⟨k,ys,hk,rfl,hys,hJk,hkk⟩:=hrel
  have Hys:=hid hys
  clear hys
  have hTr:Safe S w0 wr:=HT.out.ko hkk
  have hwr:=hkk.wf HW.out
  by_cases hlt:k < l.length
  ·have hlt':(k:Int) < (l.length:Int):=by omega
   have hk0:(0:Int)≤(k:Int):=by omega
   obtain⟨u,hu⟩:∃ u,l[k]?=some u:=⟨l[k],List.getElem?_eq_getElem hlt⟩
   obtain⟨a,p2,q2,rfl,hal,Hc,c0,c1,c2,c3⟩:=ne_at S1 hkk hu
   have Htk:=hid (subTs_take hu)
   have Hm:=hid (List.mem_of_getElem? hu)
   have hlen:(pre++ys).length+(u::subTs u.l).length≤N:=by
    have h1:=congrArg List.length Hys.out
    have h2:=(subTs_pre (l:=l) (k+1)).length_le
    rw[Htk.out] at h2
    simp only[List.length_map,List.length_append,List.length_cons] at h1 h2 hN ⊢
    omega
   have Hlen:=hid hlen
   obtain⟨V,hV⟩:∃ V,wr.alloc (.cells #[.int .i64 u.op,.string u.s,.int .i64 u.n,.slice p2 u.l.length q2] 51)=V:=⟨_,rfl⟩
   have hbV:Below wr.heap.size wr V:=by rw[← hV];exact (Below.refl _ _).alloc (Nat.le_refl _) _
   have JV:=HJ.out _ _ _ hJk hbV
   have KV:=KO.of_below hG hwr hbV
   have hnS:¬ S V wr.heap.size:=fun hs=>Nat.lt_irrefl _ (hwr _ (hG _ _ hwr hbV _ hs))
   have hsV:V.heap.size=wr.heap.size+1:=by rw[← hV];simp
   have hrow:V.heap[wr.heap.size]?=some (.cells #[.int .i64 u.op,.string u.s,.int .i64 u.n,.slice p2 u.l.length q2] 51 (0,0)):=by rw[← hV];exact World.alloc_heap_new wr _
   have d0:V.cell? ⟨wr.heap.size,0,none⟩=some (.int .i64 u.op):=by unfold World.cell?;rw[hrow];rfl
   have d1:V.cell? ⟨wr.heap.size,1,none⟩=some (.string u.s):=by unfold World.cell?;rw[hrow];rfl
   have d2:V.cell? ⟨wr.heap.size,2,none⟩=some (.int .i64 u.n):=by unfold World.cell?;rw[hrow];rfl
   have d3:V.cell? ⟨wr.heap.size,3,none⟩=some (.slice p2 u.l.length q2):=by unfold World.cell?;rw[hrow];rfl
   have hsub:∀ t,t=u∨t ∈ subTs u.l→t ∈ subTs l:=fun t h=>(subTs_pre (l:=l) (k+1)).subset (by rw[Htk.out];exact List.mem_append_right _ (List.mem_cons.2 h))
   have Hsub:=hid hsub
   have hgu:=hGd u (hsub u (.inl rfl))
   clear hsub
   obtain⟨x,hx⟩:∃ x:Ne w0 n₀ G,x=⟨u,_,Hc.out,hgu⟩:=⟨_,rfl⟩
   have hxe:x.enc=#[.agg #[.int .i64 u.op,.string u.s,.int .i64 u.n,.slice p2 u.l.length q2]]:=by rw[hx];rfl
   have hxt:x.t=u:=by rw[hx]
   obtain⟨fn,tmps,assign,body,hy,hR⟩:=HY.out (n - 1) (pre++ys) x V JV (by have:=Hlen.out;simp only[List.length_append,List.length_cons] at this ⊢;omega)
   rw[hxe] at hy
   have KVr:=hid (hkk.trans KV)
   have Hrow:=hid hrow
   have HnS:=hid hnS
   have HsV:=hid hsV
   have Hxt:=hid hxt
   have HSu:=hid (tmc_sl Hc.out)
   clear hu hx hxe hxt hkk KV hnS hrow hbV hTr hJk JV hlen hwr
   have pfx:subTs (l.take k)++(u::subTs u.l) <+: subTs l:=by rw[← Htk.out];exact subTs_pre (k+1)
   have Pfx:=hid pfx
   clear pfx
   gi_wp2
   refine⟨fun h=>(by cases h),hR.mono ?_⟩
   rintro e W1 (⟨rfl,hJ2,hk2⟩ | ⟨rfl,hx2⟩)
   ·have e3:W1.cell? ⟨wr.heap.size,3,none⟩=some (.slice p2 u.l.length q2):=hk2.cell d3 HnS.out
    have hK2:=hid (KVr.out.trans hk2)
    have hTr2:Safe S w0 W1:=HT.out.ko hK2.out
    have hlr:wr.heap.size < W1.heap.size:=by have:=hk2.size;have:=HsV.out;omega
    have HC:=hid (HI.out u Hm.out (n - 1) W1 _ (pre++ys++[x]) hTr2 (hK2.out.wf HW.out) (slSafe_of HSu.out hTr2) (fun t h=>hGd t (Hsub.out t (.inr h))) hJ2 (by have:=Hlen.out;simp only[List.length_append,List.length_cons,List.length_nil] at this ⊢;omega))
    clear hTr2 hJ2 hk2 c0 c1 c2 c3 d0 d1 d2 d3
    gi_wp2_with fail
    refine⟨trivial,fun h=>(by cases h),HC.out.mono ?_⟩
    rintro e W2 (⟨rfl,⟨zs,hz,hJ3⟩,hk3⟩ | ⟨rfl,zs,hz,hx3⟩)
    ·have Hz:=hid hz
     have HJ3:=hid hJ3
     have HK3:=hid (hK2.out.trans hk3)
     clear hz hJ3 hk3
     gi_wp2
     go_roundw
     case rel=>
      exact⟨k+1,ys++x::zs,hlt,by go_num,by rw[List.map_append,List.map_cons,Hys.out,Hz.out,Hxt.out,Htk.out],by have:=HJ3.out;simpa using this,HK3.out⟩
     case measure=>simp[intOf];omega
    ·have Hz:=hid hz
     have HX3:=hid hx3
     clear hz hx3
     gi_wp2
     go_ret
     refine .inr ⟨rfl,ys++x::zs,?_,by have:=HX3.out;simpa using this⟩
     rw[List.map_append,List.map_cons,Hys.out,Hxt.out]
     obtain⟨r,hr⟩:=Hz.out
     obtain⟨r2,hr2⟩:=Pfx.out
     exact⟨r++r2,by rw[← hr2,← hr];simp⟩
   ·have HX2:=hid hx2
    clear hx2 c0 c1 c2 c3 d0 d1 d2 d3
    gi_wp2
    refine⟨trivial,?_⟩
    gi_wp2
    go_ret
    refine .inr ⟨rfl,ys++[x],?_,by have:=HX2.out;simpa using this⟩
    rw[List.map_append,Hys.out,List.map_cons,List.map_nil,Hxt.out]
    obtain⟨r2,hr2⟩:=Pfx.out
    exact⟨subTs u.l++r2,by rw[← hr2];simp⟩
  ·have hlt':¬ (k:Int) < (l.length:Int):=by omega
   gi_wp2
   go_ret
   refine .inl ⟨rfl,⟨ys,?_,hJk⟩,hkk⟩
   rw[Hys.out,List.take_of_length_le (by omega)]
theorem yvisit_in (lb N:Nat) (S:World→Nat→Prop) (J Jx:List (Ne w0 n₀ G)→World→Prop)
  (hG:SGrow S) (hJg:∀ pre W W',J pre W→Below W.heap.size W W'→J pre W')
  (hY:∀ m pre (x:Ne w0 n₀ G) W,J pre W→pre.length < N→YieldAt Fence.wide m Tryz.prog lb x.enc W fun e W'=>(e=.returned (.bool true)∧J (pre++[x]) W'∧KO S W W')∨(e=.returned (.bool false)∧Jx (pre++[x]) W'))
  (l:List Tm):YVisit lb N S J Jx l:=by
 have all:∀ t:Tm,YVisit lb N S J Jx t.l:=by
  intro t
  induction t using Tm.rec (motive_2:=fun ts=>∀ t ∈ ts,YVisit lb N S J Jx t.l) with
  | nil x hx=>simp at hx
  | cons t ts ih ihs x hx=>
   rcases List.mem_cons.1 hx with rfl | hx
   ·exact ih
   ·exact ihs x hx
  | mk op s m ts ih=>exact yvisit_list lb N S J Jx hG hJg hY ts ih
 exact yvisit_list lb N S J Jx hG hJg hY l fun t _=>all t
end
end Go.Proofs.YtakpgcmfjlbcgaaGreatDoor
