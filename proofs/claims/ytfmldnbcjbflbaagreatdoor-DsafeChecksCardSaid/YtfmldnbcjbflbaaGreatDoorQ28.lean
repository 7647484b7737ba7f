/- Zw2@012, Zd@012, Sm@012 -/
import Derived.Test.YtfmldnbcjbflbaaGreatDoorQ18
import Derived.Test.YtfmldnbcjbflbaaGreatDoorQ25
set_option linter.unusedSimpArgs false
set_option linter.unusedVariables false
namespace Go.Proofs.YtfmldnbcjbflbaaGreatDoor
open Lib(hid)
open Go.RowKit
theorem cntN_app (a b:List ByteArray) (s:List UInt8):cntN (a++b) s=cntN a s+cntN b s:=by
 induction a with
 | nil=>simp[cntN]
 | cons x a ih=>simp only[List.cons_append,cntN,ih];omega
theorem cntN_pos {l:List ByteArray} {s:ByteArray} (h:s ∈ l):1≤cntN l s.data.toList:=by
 have:=mt (cntN_zero l s).1 (fun hn=>hn h)
 omega
def cntL (ls:List Lt) (s:List UInt8):Nat:=cntN ((placesL ls).flatMap vz) s
theorem placesL_app:∀ (a b:List Lt),placesL (a++b)=placesL a++placesL b
 | [],_=>rfl
 | l::a,b=>by simp only[List.cons_append,placesL,placesL_app a b,List.append_assoc]
theorem cntL_cons (l:Lt) (ls:List Lt) (s:List UInt8):cntL (l::ls) s=cntL [l] s+cntL ls s:=by
 unfold cntL
 rw[show l::ls=[l]++ls from rfl,placesL_app,List.flatMap_append,cntN_app]
theorem cntL_app (a b:List Lt) (s:List UInt8):cntL (a++b) s=cntL a s+cntL b s:=by
 unfold cntL
 rw[placesL_app,List.flatMap_append,cntN_app]
theorem stand_eq (r:Ru) (s:List UInt8):standZ r s=cntN (vz r.head.l) s+cntL r.body s:=by
 unfold standZ placesZ cntL
 rw[List.flatMap_cons,cntN_app]
theorem cntL_one {s:List UInt8}:∀ {ls:List Lt} {i:Nat} {l:Lt},ls[i]?=some l→cntL [l] s≤cntL ls s
 | x::ls,0,l,h=>by
  have:x=l:=by simpa using h
  subst this
  rw[cntL_cons x ls];omega
 | x::ls,i+1,l,h=>by
  have:=cntL_one (s:=s) (ls:=ls) (i:=i) (l:=l) (by simpa using h)
  rw[cntL_cons x ls];omega
theorem cntL_two {s:List UInt8}:∀ {ls:List Lt} {i j:Nat} {l m:Lt},i < j→ls[i]?=some l→ls[j]?=some m→cntL [l] s+cntL [m] s≤cntL ls s
 | x::ls,0,j+1,l,m,_,h,h2=>by
  have:x=l:=by simpa using h
  subst this
  have:=cntL_one (s:=s) (ls:=ls) (i:=j) (l:=m) (by simpa using h2)
  rw[cntL_cons x ls];omega
 | x::ls,i+1,j+1,l,m,hij,h,h2=>by
  have:=cntL_two (s:=s) (ls:=ls) (i:=i) (j:=j) (by omega) (by simpa using h) (by simpa using h2)
  rw[cntL_cons x ls];omega
theorem cntL_diff {s:List UInt8} {ls:List Lt} {i j:Nat} {l m:Lt} (hij:i≠j) (h:ls[i]?=some l) (h2:ls[j]?=some m):cntL [l] s+cntL [m] s≤cntL ls s:=by
 rcases Nat.lt_or_gt_of_ne hij with hlt | hgt
 ·exact cntL_two hlt h h2
 ·have:=cntL_two (s:=s) hgt h2 h;omega
theorem vz_sub {a b:List Tm} (h:∀ t ∈ a,t ∈ b) {s:ByteArray} (hs:s ∈ vz a):s ∈ vz b:=by
 rw[vz_mem,occ_mem] at hs ⊢
 obtain⟨t,ht,h1,h2⟩:=hs
 obtain⟨u,hu,hk⟩:=mem_subTs.1 ht
 exact⟨t,mem_subTs.2 ⟨u,h u hu,hk⟩,h1,h2⟩
theorem cntL_a {l:Lt} {s:ByteArray} (h:s ∈ vz l.a.l):1≤cntL [l] s.data.toList:=by
 unfold cntL placesL
 by_cases ha:aggO l.op=true
 ·rw[if_pos ha]
  refine cntN_pos (List.mem_flatMap.2 ⟨l.y::l.a.l,by simp,vz_sub (fun t ht=>List.mem_cons_of_mem _ ht) h⟩)
 ·rw[if_neg ha]
  refine cntN_pos (List.mem_flatMap.2 ⟨(l.y::l.a.l)++[l.x],by simp,vz_sub (fun t ht=>List.mem_append_left _ (List.mem_cons_of_mem _ ht)) h⟩)
structure PlainAt (r:Ru) (L:Lt):Prop where
 op:L.op=1
 x:occ (subTs [L.x])=[]
 y:occ (subTs [L.y])=[]
 arg:∀ t ∈ L.a.l,t.l=[]∧((t.op=1∧hasZ (boundZ r) t.s=true)∨t.op=2)
theorem occ_plain:∀ {l:List Tm},(∀ t ∈ l,t.l=[])→subTs l=l
 | [],_=>by rw[subTs]
 | t::l,h=>by
  rw[subTs,subT_eq,h t (List.mem_cons_self ..),subTs,occ_plain fun u hu=>h u (List.mem_cons_of_mem _ hu)]
  rfl
theorem PlainAt.bound {r:Ru} {L:Lt} (h:PlainAt r L) {s:ByteArray} (hs:s ∈ occ (subTs L.a.l)):hasZ (boundZ r) s=true:=by
 rw[occ_plain fun t ht=>(h.arg t ht).1,occ_mem] at hs
 obtain⟨t,ht,h1,rfl⟩:=hs
 rcases (h.arg t ht).2 with h2 | h2
 ·exact h2.2
 ·omega
theorem PlainAt.place {r:Ru} {L:Lt} (h:PlainAt r L) {s:ByteArray} (hs:s ∈ vz ((L.y::L.a.l)++[L.x])):hasZ (boundZ r) s=true:=by
 rw[vz_mem,occ_mem] at hs
 obtain⟨t,ht,h1,rfl⟩:=hs
 obtain⟨u,hu,hk⟩:=mem_subTs.1 ht
 have no:∀ v,occ (subTs [v])=[]→t ∈ subT v→False:=fun v hv hh=>by
  have:t.s ∈ occ (subTs [v]):=occ_mem.2 ⟨t,mem_subTs.2 ⟨v,List.mem_cons_self ..,hh⟩,h1,rfl⟩
  rw[hv] at this
  cases this
 simp only[List.cons_append,List.mem_cons,List.mem_append,List.not_mem_nil,or_false] at hu
 rcases hu with rfl | hu | rfl
 ·exact (no _ h.y hk).elim
 ·exact h.bound (occ_mem.2 ⟨t,mem_subTs.2 ⟨u,hu,hk⟩,h1,rfl⟩)
 ·exact (no _ h.x hk).elim
def ZS.and (s:ZS) (n:Pt):ZS:=⟨s.left++[n],s.B,s.done⟩
theorem ll_row {W:World} {B:Nat} {T:TypeId} {a b c:Value} {x y z:List ByteArray} (h:W.heap[B]?=some (.cells #[a,b,c] T (0,0))) (h1:SlOf W W.heap.size 1 StrC x a) (h2:SlOf W W.heap.size 1 StrC y b) (h3:SlOf W W.heap.size 1 StrC z c) :
  SlOf W W.heap.size 1 (LlC W W.heap.size) [x,y,z] (.slice (some ⟨B,0,none⟩) 3 3):=
 sl_cells (l:=[x,y,z]) (R:=LlC W W.heap.size) [[a],[b],[c]] h rfl (fun cs h=>by simp at h;rcases h with rfl | rfl | rfl <;> rfl) (fun i l cs hl hc=>by
  match i,hl,hc with
  | 0,hl,hc=>cases hl;cases hc;exact⟨_,rfl,h1⟩
  | 1,hl,hc=>cases hl;cases hc;exact⟨_,rfl,h2⟩
  | 2,hl,hc=>cases hl;cases hc;exact⟨_,rfl,h3⟩) (by show 3≤maxLen;decide)
set_option maxRecDepth 100000 in
set_option maxHeartbeats 16000000 in
theorem binds_c (p:Pt) (cs:List Value) (w:World) (hp:PtC w w.heap.size p cs) (hn:p.x.length+p.y.length+p.a.length≤1000000) :
  Calls Tryz.prog 107 #[.agg cs.toArray] w (VarsR (bindsZ p) w.heap.size w):=by
 have HP:=hid hp
 obtain⟨o0,k0,o1,k1,o2,k2,o3,k3,o4,k4,o5,k5,o6,k6,o7,k7,rfl,hl,h1,h2,h3,h4,h5⟩:=hp.look
 have HLT:=hid (fun (W:World) (hb:Below w.heap.size w W)=>isAgg_c p.lit _ W.heap.size W ((hl.below hb).more hb.size))
 have H1:=hid h1
 have H2:=hid h2
 have H3:=hid h3
 have HNs:=hid hn
 have hsz:Hid (∀ s ∈ p.x++(p.y++p.a),s.size≤maxLen):=hid fun s hs=>by
  rcases List.mem_append.1 hs with hs | hs
  ·exact str_sizes h1 s hs
  ·rcases List.mem_append.1 hs with hs | hs
   ·exact str_sizes h2 s hs
   ·exact str_sizes h3 s hs
 clear hp HP hl h1 h2 h3 h4 h5 hn
 have B0:Hid (Below w.heap.size w (w.alloc (.cells #[.int .i64 (p.place:Int),.int .i64 p.lit.op,.string p.lit.a.rel,.slice o0 p.lit.a.l.length k0,.int .i64 p.lit.x.op,.string p.lit.x.s,.int .i64 p.lit.x.n,.slice o1 p.lit.x.l.length k1,.int .i64 p.lit.y.op,.string p.lit.y.s,.int .i64 p.lit.y.n,.slice o2 p.lit.y.l.length k2,.slice o3 p.x.length k3,.slice o4 p.y.length k4,.slice o5 p.a.length k5,.slice o6 p.rk.length k6,.slice o7 p.ou.length k7] 105))):=hid ((Below.refl _ _).alloc (Nat.le_refl _) _)
 have R0:=hid (World.alloc_heap_new w (.cells #[.int .i64 (p.place:Int),.int .i64 p.lit.op,.string p.lit.a.rel,.slice o0 p.lit.a.l.length k0,.int .i64 p.lit.x.op,.string p.lit.x.s,.int .i64 p.lit.x.n,.slice o1 p.lit.x.l.length k1,.int .i64 p.lit.y.op,.string p.lit.y.s,.int .i64 p.lit.y.n,.slice o2 p.lit.y.l.length k2,.slice o3 p.x.length k3,.slice o4 p.y.length k4,.slice o5 p.a.length k5,.slice o6 p.rk.length k6,.slice o7 p.ou.length k7] 105))
 go_enter Tryz.func107,Tryz.ntmps107
 go_wp2_with fail
 refine (HLT.out _ B0.out).mono ?_
 rintro e1 w1 ⟨rfl,b1⟩
 have R1:=hid ((b1.block w.heap.size (heap_lt R0.out)).trans R0.out)
 have B1:=hid (B0.out.trans (b1.mono B0.out.size))
 have hz1:w.heap.size < w1.heap.size:=heap_lt R1.out
 obtain⟨x0,x1,x2,x3,x4,x5,x6,x7,x8,x9,x10,x11,x12,x13,x14,x15,x16⟩:=row17 R1.out
 clear b1
 cases ha:aggO p.lit.op with
 | true=>
  have Hq:Hid (bindsZ p=p.x):=hid (by unfold bindsZ;rw[if_pos ha])
  clear ha
  go_wp2
  go_ret
  exact⟨_,rfl,by rw[Hq.out];exact H1.out.str B1.out B1.out.size,B1.out⟩
 | false=>
  have Hq:Hid (bindsZ p=p.x++(p.y++p.a)):=hid (by unfold bindsZ;rw[if_neg (by rw[ha];decide)])
  clear ha
  have HC:=hid (fun (W:World) (hb:Below w.heap.size w W) (Bk:Nat) (T:TypeId) (h:W.heap[Bk]?=some (.cells #[.slice o3 p.x.length k3,.slice o4 p.y.length k4,.slice o5 p.a.length k5] T (0,0)))=>concat_c [p.x,p.y,p.a] _ W (ll_row h (H1.out.str hb hb.size) (H2.out.str hb hb.size) (H3.out.str hb hb.size)) (by have:=HNs.out;simp[catL];omega))
  go_wp2_with fail
  refine (HC.out _ (B1.out.alloc B1.out.size _) _ _ (World.alloc_heap_new w1 _)).mono ?_
  rintro e2 w2 ⟨u,rfl,hO,b2⟩
  have hS:SlOf w2 w2.heap.size 1 StrC (p.x++(p.y++p.a)) u:=by
   have:=sl_row (R:=StrC) hO (fun s hs=>⟨rfl,hsz.out s (by simpa[catL] using hs)⟩)
   simpa[catL] using this
  have HS:=hid hS
  have B2:=hid ((B1.out.alloc B1.out.size _).trans (b2.mono (B1.out.alloc B1.out.size _).size))
  obtain⟨oq,kq,rfl⟩:=own_shape hO
  clear hO hS b2
  go_wp2
  go_ret
  exact⟨_,rfl,by rw[Hq.out];exact HS.out,B2.out⟩
def in6 (m:List ByteArray) (s:ByteArray):Bool:=decide (0≤placeV m s)
def within6 (l m:List ByteArray):Bool:=l.all (in6 m)
theorem in6_neg {m:List ByteArray} {s:ByteArray} (h:placeV m s < 0):in6 m s=false:=by
 unfold in6
 rw[decide_eq_false_iff_not]
 omega
theorem in6_pos {m:List ByteArray} {s:ByteArray} (h:¬ placeV m s < 0):in6 m s=true:=by
 unfold in6
 rw[decide_eq_true_eq]
 omega
theorem in6_iff {m:List ByteArray} {s:ByteArray}:in6 m s=true ↔ s ∈ m:=by
 by_cases h:placeV m s < 0
 ·rw[in6_neg h]
  exact⟨fun h=>by (cases h),fun hm=>absurd hm (place_neg.1 h)⟩
 ·rw[in6_pos h]
  exact⟨fun _=>Classical.not_not.1 fun hn=>h (place_neg.2 hn),fun _=>rfl⟩
theorem within6_iff {l m:List ByteArray}:within6 l m=true ↔ ∀ s ∈ l,s ∈ m:=by
 unfold within6
 rw[List.all_eq_true]
 exact⟨fun h s hs=>in6_iff.1 (h s hs),fun h s hs=>in6_iff.2 (h s hs)⟩
theorem bool_iff {a b:Bool} (h:a=true ↔ b=true):a=b:=by
 cases a <;> cases b <;> simp_all
theorem varsV_occ {l:List Tm} {s:ByteArray}:s ∈ varsV l ↔ s ∈ occ l:=by rw[varsV_once,onceN_mem]
def reck6 (l:List Tm):List ByteArray:=(l.filter fun t=>decide (5≤t.op)).foldl (fun o t=>withV o (varsV (subT t))) []
theorem reck6_take {l:List Tm} {k:Nat} {t:Tm} (h:l[k]?=some t):reck6 (l.take (k+1))=if 5≤t.op then withV (reck6 (l.take k)) (varsV (subT t)) else reck6 (l.take k):=by
 unfold reck6
 rw[List.take_add_one,h,Option.toList_some,List.filter_append,List.foldl_append]
 by_cases h5:5≤t.op
 ·rw[if_pos h5];simp[h5]
 ·rw[if_neg h5];simp[h5]
theorem fold_mem {s:ByteArray}:∀ (l:List Tm) (o:List ByteArray),s ∈ l.foldl (fun o t=>withV o (varsV (subT t))) o ↔ s ∈ o∨∃ t ∈ l,s ∈ varsV (subT t)
 | [],o=>by simp
 | t::l,o=>by
  rw[List.foldl_cons,fold_mem l,withV_mem]
  constructor
  ·rintro ((h | h) | ⟨u,hu,h⟩)
   ·exact .inl h
   ·exact .inr ⟨t,List.mem_cons_self ..,h⟩
   ·exact .inr ⟨u,List.mem_cons_of_mem _ hu,h⟩
  ·rintro (h | ⟨u,hu,h⟩)
   ·exact .inl (.inl h)
   ·rcases List.mem_cons.1 hu with rfl | hu
    ·exact .inl (.inr h)
    ·exact .inr ⟨u,hu,h⟩
theorem reck6_mem {l:List Tm} {s:ByteArray}:s ∈ reck6 l ↔ ∃ t ∈ l,5≤t.op∧s ∈ occ (subT t):=by
 unfold reck6
 rw[fold_mem]
 constructor
 ·rintro (h | ⟨t,ht,h⟩)
  ·cases h
  ·rw[List.mem_filter] at ht
   exact⟨t,ht.1,by simpa using ht.2,varsV_occ.1 h⟩
 ·rintro⟨t,ht,h5,h⟩
  exact .inr ⟨t,List.mem_filter.2 ⟨ht,by simpa using h5⟩,varsV_occ.2 h⟩
theorem occ_subTs {l:List Tm} {s:ByteArray}:s ∈ occ (subTs l) ↔ ∃ t ∈ l,s ∈ occ (subT t):=by
 rw[occ_mem]
 constructor
 ·rintro⟨u,hu,h1,h2⟩
  obtain⟨t,ht,h3⟩:=mem_subTs.1 hu
  exact⟨t,ht,occ_mem.2 ⟨u,h3,h1,h2⟩⟩
 ·rintro⟨t,ht,h⟩
  obtain⟨u,hu,h1,h2⟩:=occ_mem.1 h
  exact⟨u,mem_subTs.2 ⟨t,ht,hu⟩,h1,h2⟩
theorem rightT_op {h:Nat} {t:Tm} (hr:rightT h t=true):1≤t.op∧t.op≤7:=by
 cases h with
 | zero=>unfold rightT at hr;cases hr
 | succ h=>
  rcases rightT_cases hr with ⟨h1,_⟩ | ⟨h1,h2⟩
  ·rcases twoB_op h1 with e | e | e <;> omega
  ·omega
theorem rck_same {l:List Tm} (h:∀ t ∈ l,rightT 20 t=true) {s:ByteArray}:s ∈ reck6 l ↔ s ∈ vz (l.filter rckT):=by
 rw[reck6_mem,vz_mem,occ_subTs]
 constructor
 ·rintro⟨t,ht,h5,hs⟩
  have:=rightT_op (h t ht)
  refine⟨t,List.mem_filter.2 ⟨ht,?_⟩,hs⟩
  unfold rckT
  simp only[Bool.or_eq_true,beq_iff_eq]
  omega
 ·rintro⟨t,ht,hs⟩
  obtain⟨h1,h2⟩:=List.mem_filter.1 ht
  unfold rckT at h2
  simp only[Bool.or_eq_true,beq_iff_eq] at h2
  exact⟨t,h1,by omega,hs⟩
def zTm:Tm:=.mk 0 ⟨#[]⟩ 0 []
def blank6 (l:Lt):Lt:=⟨l.op,⟨⟨#[]⟩,[]⟩,l.x,zTm⟩
def else6 (r:Ru) (k:Nat):List ByteArray:=varsV (subTs r.head.l++(r.body.mapIdx fun i l=>if i=k then blank6 l else l).flatMap litTs)
def outer6 (r:Ru) (k:Nat) (l:Lt):List ByteArray:=(varsV (termsR r)).filter fun s=>in6 (varsV (subTs l.a.l)) s && in6 (else6 r k) s
def binds6 (x y:Tm) (B:List ByteArray):Bool:=(x.op == 1) && (!in6 B x.s && within6 (varsV (subT y)) B)
def ready6 (r:Ru) (k:Nat) (l:Lt) (B:List ByteArray):Bool:=
 if l.op=1 then within6 (reck6 l.a.l) B
 else if l.op=2∨l.op=4∨l.op=5∨l.op=6 then within6 (varsV (litTs l)) B
 else if l.op=3 then within6 (varsV (litTs l)) B || binds6 l.x l.y B || binds6 l.y l.x B
 else within6 (outer6 r k l) B && within6 (reck6 l.a.l) B && ((l.op == 7) || in6 (varsV (subTs l.a.l)) l.y.s)
def gains6 (r:Ru) (k:Nat) (l:Lt):List ByteArray:=if 7≤l.op then withV (varsV (subT l.x)) (outer6 r k l) else varsV (litTs l)
theorem occ_lit {l:Lt} {s:ByteArray}:s ∈ occ (litTs l) ↔ s ∈ occ (subT l.x)∨s ∈ occ (subT l.y)∨s ∈ occ (subTs l.a.l):=by
 have e:∀ {a b:List Tm},s ∈ occ (a++b) ↔ s ∈ occ a∨s ∈ occ b:=fun {a b}=>by rw[occ_app,List.mem_append]
 unfold litTs
 rw[e,occ_subTs]
 constructor
 ·rintro (⟨t,ht,h⟩ | h)
  ·rcases List.mem_cons.1 ht with rfl | ht
   ·exact .inl h
   ·rw[List.mem_singleton.1 ht] at h
    exact .inr (.inl h)
  ·exact .inr (.inr h)
 ·rintro (h | h | h)
  ·exact .inl ⟨_,by simp,h⟩
  ·exact .inl ⟨l.y,by simp,h⟩
  ·exact .inr h
theorem occ_flat {L:List Lt} {s:ByteArray}:s ∈ occ (L.flatMap litTs) ↔ ∃ m ∈ L,s ∈ occ (litTs m):=by
 rw[occ_mem]
 constructor
 ·rintro⟨t,ht,h1,h2⟩
  obtain⟨m,hm,h3⟩:=List.mem_flatMap.1 ht
  exact⟨m,hm,occ_mem.2 ⟨t,h3,h1,h2⟩⟩
 ·rintro⟨m,hm,h⟩
  obtain⟨t,ht,h1,h2⟩:=occ_mem.1 h
  exact⟨t,List.mem_flatMap.2 ⟨m,hm,ht⟩,h1,h2⟩
theorem occ_blank {l:Lt} {s:ByteArray}:s ∈ occ (litTs (blank6 l)) ↔ s ∈ occ (subT l.x):=by
 rw[occ_lit]
 have e1:¬ s ∈ occ (subT zTm):=fun h=>by
  obtain⟨t,ht,h1,_⟩:=occ_mem.1 h
  rcases mem_subT.1 ht with rfl | ht
  ·cases h1
  ·cases ht
 have e2:¬ s ∈ occ (subTs (blank6 l).a.l):=fun h=>by
  obtain⟨t,ht,_⟩:=occ_mem.1 h
  cases ht
 constructor
 ·rintro (h | h | h)
  ·exact h
  ·exact absurd h e1
  ·exact absurd h e2
 ·exact .inl
theorem else6_mem {r:Ru} {k:Nat} {s:ByteArray}:s ∈ else6 r k ↔ s ∈ occ (subTs r.head.l)∨∃ j m,r.body[j]?=some m∧s ∈ occ (litTs (if j=k then blank6 m else m)):=by
 unfold else6
 rw[varsV_occ,occ_app,List.mem_append,occ_flat]
 refine or_congr Iff.rfl ?_
 constructor
 ·rintro⟨m,hm,h⟩
  obtain⟨j,hj,rfl⟩:=List.mem_mapIdx.1 hm
  exact⟨j,_,List.getElem?_eq_getElem hj,h⟩
 ·rintro⟨j,m,hj,h⟩
  obtain⟨hj',rfl⟩:=List.getElem?_eq_some_iff.1 hj
  exact⟨_,List.mem_mapIdx.2 ⟨j,hj',rfl⟩,h⟩
theorem once_le (l:List ByteArray) (s:ByteArray):cntN (onceN l) s.data.toList≤1:=by
 refine rev_ind (P:=fun l=>cntN (onceN l) s.data.toList≤1) (by show 0≤1;omega) (fun l x ih=>?_) l
 rw[onceN_snoc]
 split
 ·rename_i h
  rw[cntN_snoc]
  split
  ·rename_i e
   have:cntN (onceN l) s.data.toList=0:=by
    rw[cntN_zero]
    intro hm
    rw[onceN_mem] at hm
    rw[e] at h
    exact (cntN_zero l s).1 h hm
   omega
  ·omega
 ·exact ih
theorem vz_le (l:List Tm) (s:ByteArray):cntN (vz l) s.data.toList≤1:=once_le _ s
theorem cntL_lit {m:Lt} {s:ByteArray} (h:s ∈ occ (litTs m)):1≤cntL [m] s.data.toList:=by
 refine cntN_pos ?_
 have h1:s ∈ occ (subTs (m.x::m.y::m.a.l)):=by
  rw[occ_subTs]
  rcases occ_lit.1 h with h | h | h
  ·exact⟨_,by simp,h⟩
  ·exact⟨m.y,by simp,h⟩
  ·obtain⟨t,ht,h⟩:=occ_subTs.1 h
   exact⟨t,by simp[ht],h⟩
 rw[occ_subTs] at h1
 obtain⟨t,ht,h2⟩:=h1
 rw[List.mem_flatMap]
 unfold placesL
 have ht:t=m.x∨t ∈ m.y::m.a.l:=List.mem_cons.1 ht
 split
 ·rcases ht with rfl | ht
  ·exact⟨[m.x],by simp,vz_mem.2 (occ_subTs.2 ⟨_,by simp,h2⟩)⟩
  ·exact⟨m.y::m.a.l,by simp,vz_mem.2 (occ_subTs.2 ⟨_,ht,h2⟩)⟩
 ·refine⟨(m.y::m.a.l)++[m.x],by simp,vz_mem.2 (occ_subTs.2 ⟨t,?_,h2⟩)⟩
  rcases ht with rfl | ht
  ·simp
  ·exact List.mem_append_left _ ht
theorem cntL_zero {s:ByteArray}:∀ {ls:List Lt},(∀ m ∈ ls,s ∉ occ (litTs m))→cntL ls s.data.toList=0
 | [],_=>rfl
 | m::ls,h=>by
  rw[cntL_cons,cntL_zero (fun x hx=>h x (List.mem_cons_of_mem _ hx)),Nat.add_zero]
  refine (cntN_zero _ s).2 fun hm=>h m (List.mem_cons_self ..) ?_
  obtain⟨P,hP,h2⟩:=List.mem_flatMap.1 hm
  rw[vz_mem,occ_subTs] at h2
  obtain⟨t,ht,h3⟩:=h2
  have key:t=m.x∨t=m.y∨t ∈ m.a.l:=by
   unfold placesL placesL at hP
   split at hP
   ·simp only[List.cons_append,List.nil_append,List.append_nil,List.mem_cons,List.not_mem_nil,or_false] at hP
    rcases hP with rfl | rfl
    ·exact .inl (by simpa using ht)
    ·exact .inr (List.mem_cons.1 ht)
   ·simp only[List.append_nil,List.mem_singleton] at hP
    subst hP
    rcases List.mem_append.1 ht with ht | ht
    ·exact .inr (List.mem_cons.1 ht)
    ·exact .inl (by simpa using ht)
  rw[occ_lit]
  rcases key with rfl | rfl | hk
  ·exact .inl h3
  ·exact .inr (.inl h3)
  ·exact .inr (.inr (occ_subTs.2 ⟨t,hk,h3⟩))
theorem cntL_agg {l:Lt} (ha:aggO l.op=true) (s:List UInt8):cntL [l] s=cntN (vz [l.x]) s+cntN (vz (l.y::l.a.l)) s:=by
 unfold cntL placesL placesL
 rw[if_pos ha]
 simp[cntN_app]
theorem outer_same {r:Ru} {k:Nat} {l:Lt} (hk:r.body[k]?=some l) (ha:aggO l.op=true) {s:ByteArray}:s ∈ outer6 r k l ↔ s ∈ outerZ r l.a.l:=by
 unfold outer6 outerZ
 rw[List.mem_filter,List.mem_filter,Bool.and_eq_true,in6_iff,in6_iff,varsV_occ,varsV_occ,vz_mem,decide_eq_true_eq]
 constructor
 ·rintro⟨_,h1,h2⟩
  refine⟨h1,?_⟩
  have hl:1≤cntL [l] s.data.toList:=cntL_a (vz_mem.2 h1)
  rw[stand_eq]
  rcases else6_mem.1 h2 with h3 | ⟨j,m,hj,h3⟩
  ·have a1:=cntN_pos (vz_mem.2 h3)
   have a2:=cntL_one (s:=s.data.toList) hk
   omega
  ·by_cases e:j=k
   ·rw[if_pos e] at h3
    subst e
    rw[hk] at hj
    cases hj
    have a1:=cntL_one (s:=s.data.toList) hk
    have a2:=cntL_agg ha s.data.toList
    have a3:1≤cntN (vz [l.x]) s.data.toList:=cntN_pos (vz_mem.2 (occ_subTs.2 ⟨_,by simp,occ_blank.1 h3⟩))
    have a4:1≤cntN (vz (l.y::l.a.l)) s.data.toList:=cntN_pos (vz_mem.2 (by
     obtain⟨t,ht,h⟩:=occ_subTs.1 h1
     exact occ_subTs.2 ⟨t,by simp[ht],h⟩))
    omega
   ·rw[if_neg e] at h3
    have a1:=cntL_diff (s:=s.data.toList) (Ne.symm e) hk hj
    have a2:=cntL_lit h3
    omega
 ·rintro⟨h1,h2⟩
  refine⟨?_,h1,Classical.byContradiction fun hn=>?_⟩
  ·unfold termsR
   rw[occ_app,List.mem_append,occ_flat]
   exact .inr ⟨l,List.mem_of_getElem? hk,occ_lit.2 (.inr (.inr h1))⟩
  ·rw[else6_mem,not_or] at hn
   obtain⟨n1,n2⟩:=hn
   have hkl:=(List.getElem?_eq_some_iff.1 hk).1
   have e:r.body=r.body.take k++l::r.body.drop (k+1):=by
    have e2:=List.drop_eq_getElem_cons hkl
    rw[(List.getElem?_eq_some_iff.1 hk).2] at e2
    rw[← e2,List.take_append_drop]
   have z1:cntL (r.body.take k) s.data.toList=0:=cntL_zero fun m hm h=>by
    obtain⟨j,hj⟩:=List.mem_iff_getElem?.1 hm
    rw[List.getElem?_take] at hj
    split at hj
    ·exact n2 ⟨j,m,hj,by rw[if_neg (by omega)];exact h⟩
    ·cases hj
   have z2:cntL (r.body.drop (k+1)) s.data.toList=0:=cntL_zero fun m hm h=>by
    obtain⟨j,hj⟩:=List.mem_iff_getElem?.1 hm
    rw[List.getElem?_drop] at hj
    exact n2 ⟨k+1+j,m,hj,by rw[if_neg (by omega)];exact h⟩
   have z3:cntN (vz r.head.l) s.data.toList=0:=(cntN_zero _ s).2 fun hm=>n1 (vz_mem.1 hm)
   have z4:cntN (vz [l.x]) s.data.toList=0:=(cntN_zero _ s).2 fun hm=>by
    obtain⟨t,ht,h⟩:=occ_subTs.1 (vz_mem.1 hm)
    rw[List.mem_singleton.1 ht] at h
    exact n2 ⟨k,l,hk,by rw[if_pos rfl];exact occ_blank.2 h⟩
   have z5:=vz_le (l.y::l.a.l) s
   have z6:=cntL_agg ha s.data.toList
   rw[stand_eq,e,cntL_app,cntL_cons] at h2
   omega
end Go.Proofs.YtfmldnbcjbflbaaGreatDoor
