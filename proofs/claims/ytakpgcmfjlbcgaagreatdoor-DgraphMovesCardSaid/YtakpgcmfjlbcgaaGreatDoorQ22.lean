/- Yrm@0123, Zvars@0123, Zm@0123 -/
import Derived.Test.YtakpgcmfjlbcgaaGreatDoorQ20
set_option linter.unusedSimpArgs false
set_option linter.unusedVariables false
namespace Go.Proofs.YtakpgcmfjlbcgaaGreatDoor
open Lib(hid)
def withV (l:List ByteArray):List ByteArray→List ByteArray
 | []=>l
 | s::m=>withV (if placeV l s < 0 then l++[s] else l) m
theorem place_neg {l:List ByteArray} {s:ByteArray}:placeV l s < 0 ↔ s ∉ l:=by
 constructor
 ·intro h hm
  obtain⟨i,h1,_⟩:=place_mem hm
  omega
 ·intro h
  unfold placeV
  have:l.findIdx? (fun x=>x.toList == s.toList)=none:=by
   rw[List.findIdx?_eq_none_iff]
   intro x hx
   by_cases e:x.toList=s.toList
   ·rw[ByteArray.toList_eq,ByteArray.toList_eq] at e
    exact absurd (bytes_ext e ▸ hx) h
   ·simpa using e
  rw[this]
  decide
theorem withV_snoc (l m:List ByteArray) (s:ByteArray):withV l (m++[s])=if placeV (withV l m) s < 0 then withV l m++[s] else withV l m:=by
 induction m generalizing l with
 | nil=>rfl
 | cons x m ih=>exact ih _
theorem withV_mem (l m:List ByteArray):∀ s,s ∈ withV l m ↔ s ∈ l∨s ∈ m:=by
 refine rev_ind (P:=fun m=>∀ s,s ∈ withV l m ↔ s ∈ l∨s ∈ m) (fun s=>by simp[withV]) (fun m x ih s=>?_) m
 rw[withV_snoc]
 split
 ·rw[List.mem_append,ih,List.mem_append]
  exact or_assoc
 ·rename_i h
  have hx:x ∈ withV l m:=Classical.not_not.1 fun hn=>h (place_neg.2 hn)
  rw[ih,List.mem_append]
  constructor
  ·rintro (h | h)
   ·exact .inl h
   ·exact .inr (.inl h)
  ·rintro (h' | h' | h')
   ·exact .inl h'
   ·exact .inr h'
   ·rw[show s=x by simpa using h'];exact (ih x).1 hx
theorem withV_len (l m:List ByteArray):(withV l m).length≤l.length+m.length:=by
 induction m generalizing l with
 | nil=>simp[withV]
 | cons s m ih=>
  have:=ih (if placeV l s < 0 then l++[s] else l)
  show (withV (if placeV l s < 0 then l++[s] else l) m).length≤_
  split at this
  ·rename_i h;rw[if_pos h];simp at this ⊢;omega
  ·rename_i h;rw[if_neg h];simp at this ⊢;omega
def zerosL (ts:List Int):Nat:=ts.countP (· == 0)
def SndT (J:ByteArray→Int→Prop) (vs:List ByteArray) (ts:List Int):Prop:=∀ (i:Nat) (s:ByteArray) (v:Int),vs[i]?=some s→ts[i]?=some v→v≠0→J s v
structure Lrn (J:ByteArray→Int→Prop) (vs:List ByteArray) (N:List Int→Prop) (ts ts':List Int) (more:Bool):Prop where
 len:ts'.length=ts.length
 snd:SndT J vs ts→SndT J vs ts'
 less:more=true→zerosL ts' < zerosL ts
 still:more=false→ts'=ts∧N ts
theorem Lrn.mono {J:ByteArray→Int→Prop} {vs:List ByteArray} {N M:List Int→Prop} {ts a:List Int} {m:Bool} (h:Lrn J vs N ts a m) (hN:N ts→M ts):Lrn J vs M ts a m:=
 ⟨h.len,h.snd,h.less,fun e=>⟨(h.still e).1,hN (h.still e).2⟩⟩
theorem Lrn.none {J:ByteArray→Int→Prop} {vs:List ByteArray} {N:List Int→Prop} {ts:List Int} (h:N ts):Lrn J vs N ts ts false:=⟨rfl,fun h=>h,fun e=>(by cases e),fun _=>⟨rfl,h⟩⟩
theorem zeros_set:∀ {ts:List Int} {i:Nat} {k:Int},ts[i]?=some 0→k≠0→zerosL (ts.set i k) < zerosL ts
 | [],i,k,h,_=>by simp at h
 | x::ts,0,k,h,hk=>by
  have hx:x=0:=by simpa using h
  subst hx
  show (k::ts).countP (· == 0) < ((0:Int)::ts).countP (· == 0)
  rw[List.countP_cons_of_neg (by simpa using hk),List.countP_cons_of_pos (by rfl)]
  exact Nat.lt_succ_self _
 | x::ts,i+1,k,h,hk=>by
  have:=zeros_set (ts:=ts) (i:=i) (by simpa using h) hk
  unfold zerosL at this
  show (x::ts.set i k).countP (· == 0) < (x::ts).countP (· == 0)
  rw[List.countP_cons,List.countP_cons]
  omega
theorem Lrn.set {J:ByteArray→Int→Prop} {vs:List ByteArray} {N:List Int→Prop} {ts:List Int} {i:Nat} {s:ByteArray} {k:Int} (hs:vs[i]?=some s) (h0:ts[i]?=some 0) (hk:k≠0) (hJ:J s k):Lrn J vs N ts (ts.set i k) true:=by
 refine⟨List.length_set,fun h j u v h1 h2 h3=>?_,fun _=>zeros_set h0 hk,fun e=>(by cases e)⟩
 rw[List.getElem?_set] at h2
 split at h2
 ·rename_i e
  subst e
  split at h2
  ·rw[hs] at h1
   cases h1;cases h2;exact hJ
  ·cases h2
 ·exact h j u v h1 h2 h3
def Full (P:Tm→Int→Prop) (t:Tm) (k:Int):Prop:=P t k∧∀ u ∈ subTs t.l,P u 1
def knP (vs:List ByteArray) (ts:List Int) (t:Tm) (k:Int):Prop:=t.op=1→k=0∨typedV vs ts t.s≠0
mutual
def fitsR (vs:List ByteArray) (ts:List Int):Tm→Int→Bool
 | .mk o s _ l,k=>if o=1 then typedV vs ts s == k else if o=2 then k == 1 else if o=3 then k == 2 else if o=4 then true else k == 1 && fitsRs vs ts l
def fitsRs (vs:List ByteArray) (ts:List Int):List Tm→Bool
 | []=>true
 | t::l=>fitsR vs ts t 1 && fitsRs vs ts l
end
theorem mem_subTs {u:Tm}:∀ {l:List Tm},u ∈ subTs l ↔ ∃ t ∈ l,u ∈ subT t
 | []=>by simp[subTs]
 | t::l=>by
  rw[subTs,List.mem_append,mem_subTs (l:=l)]
  simp
theorem mem_subT {u t:Tm}:u ∈ subT t ↔ u=t∨u ∈ subTs t.l:=by rw[subT_eq,List.mem_cons]
theorem size_part {t c:Tm} (h:c ∈ t.l):SizeOf.sizeOf c < SizeOf.sizeOf t:=by
 obtain⟨o,s,n,l⟩:=t
 have h1:SizeOf.sizeOf c < SizeOf.sizeOf l:=List.sizeOf_lt_of_mem h
 simp only[Tm.mk.sizeOf_spec]
 omega
end Go.Proofs.YtakpgcmfjlbcgaaGreatDoor
namespace Go.Proofs.YtakpgcmfjlbcgaaGreatDoor
open Lib(hid)
open Go.RowKit Go.Shelf
attribute [local go_sem] Oper.semAt_some
section
variable {w0:World} {n₀:Nat} {G:ByteArray→Prop}
theorem zvisit_in (lb N:Nat) (S:World→Nat→Prop) (J Jx:List (Ns G)→World→Prop)
  (hG:SGrow S) (hJg:∀ pre W W',J pre W→Below W.heap.size W W'→J pre W')
  (hY:∀ m pre (x:Ns G) W,J pre W→pre.length < N→YieldAt Fence.wide m Tryz.prog lb x.enc W fun e W'=>(e=.returned (.bool true)∧J (pre++[x]) W'∧KO S W W')∨(e=.returned (.bool false)∧Jx (pre++[x]) W'))
  (l:List Tm):ZVisit w0 n₀ lb N S J Jx l:=by
 have all:∀ t:Tm,ZVisit w0 n₀ lb N S J Jx t.l:=by
  intro t
  induction t using Tm.rec (motive_2:=fun ts=>∀ t ∈ ts,ZVisit w0 n₀ lb N S J Jx t.l) with
  | nil x hx=>simp at hx
  | cons t ts ih ihs x hx=>
   rcases List.mem_cons.1 hx with rfl | hx
   ·exact ih
   ·exact ihs x hx
  | mk op s m ts ih=>exact zvisit_list lb N S J Jx hG hJg hY ts ih
 exact zvisit_list lb N S J Jx hG hJg hY l fun t _=>all t
end
theorem zeach_in (n:Nat) (o:Option Addr) (k c:Nat) (w:World) :
  CallsIn Fence.wide n Tryz.prog 73 #[.slice o k c] w fun e w'=>e=.returned (.func (.func 109) #[] #[.pointer (some ⟨w.heap.size,0,none⟩)])∧w'=w.alloc (.cells #[.slice o k c] 42):=by
 refine callsIn_of_wp Tryz.func73 rfl trivial ?_ rfl
 simp only[Tryz.ntmps73,List.size_toArray,List.length_cons,List.length_nil,Nat.reduceAdd,Nat.reduceSub,Array.replicate_succ,Array.replicate_zero,List.push_toArray,List.append_toArray,List.nil_append,List.cons_append]
 gi_wp2
 go_ret
 exact⟨rfl,rfl⟩
set_option maxRecDepth 100000 in
set_option maxHeartbeats 4000000 in
theorem zeach_stops {G:ByteArray→Prop} (n B n₀:Nat) (l:List Tm) (v:Value) (w0 w:World) (S:World→Nat→Prop) (hG:SGrow S) (hs:Safe S w0 w) (hw:∀ i,S w i→i < w.heap.size) (hB:w0.cell? ⟨B,0,none⟩=some v) (hc:TmS w0 n₀ l v) (hGd:∀ s ∈ occ (subTs l),G s) :
  SeqStopsK Fence.wide n Tryz.prog 109 #[.pointer (some ⟨B,0,none⟩)] (Ns.enc (G:=G)) (KO S) (fun ys=>ys.map Ns.s=occ (subTs l)) (fun pre=>pre.map Ns.s <+: occ (subTs l)) (occ (subTs l)).length w:=by
 intro lp J Jx W hW hJ _ hY h0
 have hKW:=KO.of_below hG hw hW
 have hs1:=hs.ko hKW
 have hw1:=hKW.wf hw
 have hJg:∀ pre W W',J pre W→Below W.heap.size W W'→J pre W':=fun pre W W' h hb=>hJ pre W W' none h (grownBelow hb) (fun _ e=>by cases e)
 have HC:=hid (zvisit_in (w0:=w0) (n₀:=n₀) (G:=G) lp (occ (subTs l)).length S J Jx hG hJg (fun m pre x W hj hl=>yieldAny rfl m (hY pre x W hj hl)) l (n - 1) W v [] hs1 hw1 (slSafe_of hc hs1) hGd h0 (by simp))
 obtain⟨o1,k1,rfl,_,_,_⟩:=SlOf.open hc
 have c0:W.cell? ⟨B,0,none⟩=some (.slice o1 l.length k1):=(hs1 _ _ hB).1
 have hBl:B < W.heap.size:=World.block_lt_of_cell? _ _ c0
 clear hKW hs1 hw1 hJg hB hc hY hJ h0 hs hw hW
 refine callsIn_of_wp Tryz.func109 rfl trivial ?_ rfl
 simp only[Tryz.ntmps109,List.size_toArray,List.length_cons,List.length_nil,Nat.reduceAdd,Nat.reduceSub,Array.replicate_succ,Array.replicate_zero,List.push_toArray,List.append_toArray,List.nil_append,List.cons_append]
 gi_wp2_with fail
 refine⟨trivial,fun h=>(by cases h),HC.out.mono ?_⟩
 rintro e W1 (⟨rfl,⟨ys,hys,hJ1⟩,_⟩ | ⟨rfl,ys,hys,hx⟩)
 ·have Hys:=hid hys
  have HJ1:=hid hJ1
  clear hys hJ1 c0
  gi_wp2
  go_end0
  exact⟨⟨_,rfl⟩,.inl ⟨ys,Hys.out,by simpa using HJ1.out⟩⟩
 ·have Hys:=hid hys
  have HX:=hid hx
  clear hys hx c0
  gi_wp2
  go_end0
  exact⟨⟨_,rfl⟩,.inr ⟨ys,Hys.out,by simpa using HX.out⟩⟩
def cntN:List ByteArray→List UInt8→Nat
 | [],_=>0
 | t::ts,s=>cntN ts s+(if t.data.toList=s then 1 else 0)
theorem cntN_snoc (ts:List ByteArray) (t:ByteArray) (s:List UInt8):cntN (ts++[t]) s=cntN ts s+(if t.data.toList=s then 1 else 0):=by
 induction ts with
 | nil=>simp[cntN]
 | cons u ts ih=>simp only[List.cons_append,cntN,ih];omega
theorem cntN_le (ts:List ByteArray) (s:List UInt8):cntN ts s≤ts.length:=by
 induction ts with
 | nil=>simp[cntN]
 | cons t ts ih=>simp only[cntN,List.length_cons];split <;> omega
theorem cntN_zero (ts:List ByteArray) (s:ByteArray):cntN ts s.data.toList=0 ↔ s ∉ ts:=by
 induction ts with
 | nil=>simp[cntN]
 | cons t ts ih=>
  simp only[cntN,List.mem_cons,not_or]
  by_cases h:t.data.toList=s.data.toList
  ·rw[if_pos h]
   have:s=t:=(bytes_ext h).symm
   simp[this]
  ·rw[if_neg h,Nat.add_zero,ih]
   constructor
   ·exact fun h1=>⟨fun e=>h (by rw[e]),h1⟩
   ·exact fun h1=>h1.2
def onceN (l:List ByteArray):List ByteArray:=withV [] l
theorem onceN_snoc (l:List ByteArray) (s:ByteArray):onceN (l++[s])=if cntN l s.data.toList=0 then onceN l++[s] else onceN l:=by
 unfold onceN
 rw[withV_snoc]
 have h:placeV (withV [] l) s < 0 ↔ cntN l s.data.toList=0:=by
  rw[place_neg,cntN_zero,withV_mem]
  simp
 by_cases h1:cntN l s.data.toList=0
 ·rw[if_pos h1,if_pos (h.2 h1)]
 ·rw[if_neg h1,if_neg (fun e=>h1 (h.1 e))]
theorem onceN_len (l:List ByteArray):(onceN l).length≤l.length:=by
 have:=withV_len [] l
 simpa[onceN] using this
theorem onceN_mem (l:List ByteArray) (s:ByteArray):s ∈ onceN l ↔ s ∈ l:=by
 unfold onceN
 rw[withV_mem]
 simp
end Go.Proofs.YtakpgcmfjlbcgaaGreatDoor
namespace Go.Proofs.YtakpgcmfjlbcgaaGreatDoor
open Lib(hid)
open Go.RowKit
def vz (l:List Tm):List ByteArray:=onceN (occ (subTs l))
def aggO (o:Int):Bool:=o == 7 || o == 8 || o == 9 || o == 10
def rckT (t:Tm):Bool:=t.op == 5 || t.op == 6 || t.op == 7
def placesL:List Lt→List (List Tm)
 | []=>[]
 | l::r=>(if aggO l.op then [[l.x],l.y::l.a.l] else [(l.y::l.a.l)++[l.x]])++placesL r
def placesZ (r:Ru):List (List Tm):=r.head.l::placesL r.body
def standZ (r:Ru) (s:List UInt8):Nat:=cntN ((placesZ r).flatMap vz) s
def outerZ (r:Ru) (l:List Tm):List ByteArray:=(vz l).filter fun s=>decide (1 < standZ r s.data.toList)
structure Pt where
 place:Nat
 lit:Lt
 x:List ByteArray
 y:List ByteArray
 a:List ByteArray
 rk:List ByteArray
 ou:List ByteArray
def ptZ (r:Ru) (k:Nat) (l:Lt):Pt:=⟨k,l,vz [l.x],vz [l.y],vz l.a.l,vz (l.a.l.filter rckT),if aggO l.op then outerZ r l.a.l else []⟩
def partsZ (r:Ru):List Pt:=r.body.mapIdx (ptZ r)
abbrev Bd:=List UInt8→Int
def hasZ (B:Bd) (s:ByteArray):Bool:=decide (0 < B s.data.toList)
def allZ (B:Bd) (l:List ByteArray):Bool:=l.all (hasZ B)
def lacksZ (B:Bd) (t:Tm):Bool:=t.op == 1 && !hasZ B t.s
def plainZ (B:Bd) (p:Pt):Bool:=allZ B p.x && allZ B p.y && allZ B p.a
def eqZ (B:Bd) (p:Pt):Bool:=lacksZ B p.lit.x && allZ B p.y || lacksZ B p.lit.y && allZ B p.x
def inZ (p:Pt):Bool:=memB p.a p.lit.y.s
def readyZ (B:Bd) (p:Pt):Bool:=
 if p.lit.op=3 then eqZ B p || plainZ B p
 else if p.lit.op=2∨p.lit.op=4∨p.lit.op=5∨p.lit.op=6 then plainZ B p
 else if p.lit.op=8∨p.lit.op=9∨p.lit.op=10 then inZ p && (allZ B p.ou && allZ B p.rk)
 else if p.lit.op=7 then allZ B p.ou && allZ B p.rk
 else if p.lit.op=1 then allZ B p.rk
 else false
def inventsZ (B:Bd) (p:Pt):Bool:=if p.lit.op=3 then lacksZ B p.lit.x && rckT p.lit.y || lacksZ B p.lit.y && rckT p.lit.x else aggO p.lit.op
def bindsZ (p:Pt):List ByteArray:=if aggO p.lit.op then p.x else p.x++(p.y++p.a)
def addZ (d:Int):Bd→List ByteArray→Bd
 | B,[]=>B
 | B,s::l=>addZ d (if hasZ B s then B else updF B s.data.toList d) l
structure ZS where
 left:List Pt
 B:Bd
 done:Nat
def pickZ (B:Bd) (b:Bool) (l:List Pt):Option Nat:=l.findIdx? fun p=>((p.lit.op == 1) == b) && readyZ B p
def nextZ (s:ZS):Option Nat:=(pickZ s.B false s.left).or (pickZ s.B true s.left)
def ZS.step (s:ZS) (i:Nat) (p:Pt):ZS:=⟨s.left.eraseIdx i,addZ (s.done+1) s.B (bindsZ p),s.done+1⟩
def goZ (s:ZS):Option (Pt × ZS):=(nextZ s).bind fun i=>(s.left[i]?).map fun p=>(p,s.step i p)
def seqZ:Nat→ZS→List (Pt × Bd) × ZS
 | 0,s=>([],s)
 | k+1,s=>match goZ s with
  | none=>([],s)
  | some (p,u)=>((p,s.B)::(seqZ k u).1,(seqZ k u).2)
def zs0 (r:Ru):ZS:=⟨partsZ r,fun _=>0,0⟩
def walkZ (r:Ru):List (Pt × Bd) × ZS:=seqZ r.body.length (zs0 r)
def orderZ (r:Ru):List Int:=(walkZ r).1.map fun x=>(x.1.place:Int)
def invZ (r:Ru):Bool:=(walkZ r).1.any fun x=>inventsZ x.2 x.1
def boundZ (r:Ru):Bd:=(walkZ r).2.B
def comeZ (r:Ru):Bool:=(List.range r.body.length).all fun k=>decide ((k:Int) ∈ orderZ r)
def safeZ (r:Ru):Bool:=comeZ r && (occ (subTs r.head.l)).all (hasZ (boundZ r))
def ordE (r:Ru):Int:=if rightR r=true then (if safeZ r=true then 0 else 60) else 30
theorem goZ_none {s:ZS} (h:nextZ s=none):goZ s=none:=by unfold goZ;rw[h];rfl
theorem goZ_some {s:ZS} {i:Nat} {p:Pt} (h:nextZ s=some i) (hp:s.left[i]?=some p):goZ s=some (p,s.step i p):=by unfold goZ;rw[h];simp[hp]
theorem seqZ_snoc:∀ (k:Nat) (s t:ZS) (l:List (Pt × Bd)) (p:Pt) (u:ZS),seqZ k s=(l,t)→l.length=k→goZ t=some (p,u)→seqZ (k+1) s=(l++[(p,t.B)],u)
 | 0,s,t,l,p,u,h,hl,hg=>by
  cases h
  simp[seqZ,hg]
 | k+1,s,t,l,p,u,h,hl,hg=>by
  rw[seqZ] at h
  rw[seqZ]
  cases hs:goZ s with
  | none=>
   rw[hs] at h
   cases h
   cases hl
  | some q=>
   obtain⟨q,v⟩:=q
   rw[hs] at h
   simp only at h
   cases h
   have:=seqZ_snoc k v _ _ p u rfl (by simpa using hl) hg
   simp[this]
theorem seqZ_stop:∀ (k j:Nat) (s t:ZS) (l:List (Pt × Bd)),seqZ k s=(l,t)→goZ t=none→seqZ (k+j) s=(l,t)
 | 0,0,s,t,l,h,hg=>h
 | 0,j+1,s,t,l,h,hg=>by
  cases h
  rw[Nat.zero_add,seqZ,hg]
 | k+1,j,s,t,l,h,hg=>by
  rw[show k+1+j=(k+j)+1 by omega,seqZ]
  rw[seqZ] at h
  cases hs:goZ s with
  | none=>rw[hs] at h;exact h
  | some q=>
   obtain⟨q,v⟩:=q
   rw[hs] at h
   simp only at h
   cases h
   have:=seqZ_stop k j v _ _ rfl hg
   simp[this]
theorem parts_take {r:Ru} {k:Nat} {l:Lt} (h:r.body[k]?=some l):(r.body.take (k+1)).mapIdx (ptZ r)=(r.body.take k).mapIdx (ptZ r)++[ptZ r k l]:=by
 rw[List.take_add_one,h,List.mapIdx_append]
 have hk:=(List.getElem?_eq_some_iff.1 h).1
 simp[List.length_take,Nat.min_eq_left (Nat.le_of_lt hk)]
theorem addZ_snoc (d:Int):∀ (l:List ByteArray) (B:Bd) (s:ByteArray),addZ d B (l++[s])=if hasZ (addZ d B l) s then addZ d B l else updF (addZ d B l) s.data.toList d
 | [],B,s=>rfl
 | x::l,B,s=>by rw[List.cons_append,addZ,addZ_snoc d l];rfl
theorem addZ_take {d:Int} {B:Bd} {l:List ByteArray} {k:Nat} {s:ByteArray} (h:l[k]?=some s):addZ d B (l.take (k+1))=if hasZ (addZ d B (l.take k)) s then addZ d B (l.take k) else updF (addZ d B (l.take k)) s.data.toList d:=by
 rw[List.take_add_one,h];exact addZ_snoc d _ B s
end Go.Proofs.YtakpgcmfjlbcgaaGreatDoor
