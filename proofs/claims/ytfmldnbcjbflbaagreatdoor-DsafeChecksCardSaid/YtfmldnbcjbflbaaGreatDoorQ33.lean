/- Sb@012, Sc@012 -/
import Derived.Test.YtfmldnbcjbflbaaGreatDoorQ32
import Derived.Test.YtfmldnbcjbflbaaGreatDoorQ22
set_option linter.unusedSimpArgs false
set_option linter.unusedVariables false
namespace Go.Proofs.YtfmldnbcjbflbaaGreatDoor
open Lib(hid)
open Go.RowKit
theorem lt_parts {w:World} {B:Nat} {t:Lt} {p0 p1 p2:Option Addr} {q0 q1 q2:Nat} (h:LtC w B t [.int .i64 t.op,.string t.a.rel,.slice p0 t.a.l.length q0,.int .i64 t.x.op,.string t.x.s,.int .i64 t.x.n,.slice p1 t.x.l.length q1,.int .i64 t.y.op,.string t.y.s,.int .i64 t.y.n,.slice p2 t.y.l.length q2]) :
  AmC w B t.a [.string t.a.rel,.slice p0 t.a.l.length q0]∧TmC w B t.x [.int .i64 t.x.op,.string t.x.s,.int .i64 t.x.n,.slice p1 t.x.l.length q1]∧TmC w B t.y [.int .i64 t.y.op,.string t.y.s,.int .i64 t.y.n,.slice p2 t.y.l.length q2]:=by
 obtain⟨a0,b0,a1,b1,a2,b2,e,_,HA,HX,HY⟩:=h.look
 cases e
 exact⟨HA,HX,HY⟩
def elseTo (r:Ru) (k i:Nat):List ByteArray:=varsV (subTs r.head.l++((r.body.mapIdx fun i l=>if i=k then blank6 l else l).take i).flatMap litTs)
theorem elseTo_zero (r:Ru) (k:Nat):elseTo r k 0=varsV (subTs r.head.l):=by unfold elseTo;simp
theorem elseTo_all (r:Ru) (k:Nat):elseTo r k r.body.length=else6 r k:=by
 unfold elseTo else6
 rw[List.take_of_length_le (by rw[List.length_mapIdx];exact Nat.le_refl _)]
theorem elseTo_at {r:Ru} {k i:Nat} {l:Lt} (h:r.body[i]?=some l):(r.body.mapIdx fun i l=>if i=k then blank6 l else l)[i]?=some (if i=k then blank6 l else l):=by
 rw[List.getElem?_mapIdx,h];rfl
theorem elseTo_step {r:Ru} {k i:Nat} {l:Lt} (h:r.body[i]?=some l):elseTo r k (i+1)=withV (elseTo r k i) (varsV (litTs (if i=k then blank6 l else l))):=body_step (subTs r.head.l) (elseTo_at h)
theorem blank_len (l:Lt):(litTs (blank6 l)).length≤(litTs l).length+1:=by
 rw[litTs_len,litTs_len]
 have:(subT (blank6 l).y).length=1:=rfl
 have h2:(subTs (blank6 l).a.l).length=0:=rfl
 show (subT l.x).length+_+_≤_
 rw[this,h2]
 omega
theorem flat_len6 (f:Nat→Lt→Lt) (hf:∀ i l,(litTs (f i l)).length≤(litTs l).length+1):∀ (L:List Lt) (j:Nat),((L.mapIdx fun i l=>f (i+j) l).flatMap litTs).length≤(L.flatMap litTs).length+L.length
 | [],j=>by simp
 | l::L,j=>by
  rw[List.mapIdx_cons,List.flatMap_cons,List.flatMap_cons,List.length_append,List.length_append,List.length_cons]
  have h1:=hf (0+j) l
  have h2:=flat_len6 f hf L (j+1)
  have e:(fun (i:Nat) (l:Lt)=>f (i+1+j) l)=fun i l=>f (i+(j+1)) l:=by funext i l;rw[show i+1+j=i+(j+1) by omega]
  rw[e]
  omega
theorem elseTo_sum {r:Ru} {k i:Nat} {l:Lt} (h:r.body[i]?=some l) (hn:(termsR r).length+r.body.length≤1000000):(elseTo r k i).length+(varsV (litTs (if i=k then blank6 l else l))).length≤1000000:=by
 refine body_sum (elseTo_at h) ?_
 have h1:=flat_len6 (fun i l=>if i=k then blank6 l else l) (fun i l=>by show (litTs (if i=k then _ else _)).length≤_;split;exact blank_len l;omega) r.body 0
 unfold termsR at hn
 rw[List.length_append] at hn ⊢
 simp only[Nat.add_zero] at h1
 omega
theorem blank_c {w:World} {B:Nat} {t:Lt} {p0 p1 p2:Option Addr} {q0 q1 q2:Nat} (h:LtC w B t [.int .i64 t.op,.string t.a.rel,.slice p0 t.a.l.length q0,.int .i64 t.x.op,.string t.x.s,.int .i64 t.x.n,.slice p1 t.x.l.length q1,.int .i64 t.y.op,.string t.y.s,.int .i64 t.y.n,.slice p2 t.y.l.length q2]) :
  LtC w B (blank6 t) [.int .i64 t.op,.string ⟨#[]⟩,.slice none 0 0,.int .i64 t.x.op,.string t.x.s,.int .i64 t.x.n,.slice p1 t.x.l.length q1,.int .i64 0,.string ⟨#[]⟩,.int .i64 0,.slice none 0 0]:=by
 have hx:=(lt_parts h).2.1
 obtain⟨_,_,_,_,hop,_⟩:=h
 exact⟨[.string ⟨#[]⟩,.slice none 0 0],_,[.int .i64 0,.string ⟨#[]⟩,.int .i64 0,.slice none 0 0],rfl,hop,⟨_,rfl,(show (⟨#[]⟩:ByteArray).size≤maxLen by decide),.inl ⟨rfl,rfl⟩⟩,hx,.nil 0 ⟨#[]⟩ 0 (by unfold I64;omega) (by decide) (by unfold I64;omega)⟩
theorem blank_leaf {t:Lt} (h:∀ u ∈ litTs t,u.op=1→u.l=[]):∀ u ∈ litTs (blank6 t),u.op=1→u.l=[]:=fun u hu h1=>by
 rcases litTs_mem.1 hu with hu | hu | hu
 ·exact h u (litTs_mem.2 (.inl hu)) h1
 ·rcases mem_subT.1 hu with rfl | hu
  ·rfl
  ·cases hu
 ·cases hu
set_option maxRecDepth 100000 in
set_option maxHeartbeats 8000000 in
theorem elsewhere_c (r:Ru) (k:Nat) (w:World) (cs:List Value) (hc:RuC w w.heap.size r cs) (hr:rightR r=true) (hn:(termsR r).length+r.body.length≤1000000) :
  Calls Tryz.prog 87 #[.agg cs.toArray,.int .i64 (k:Int)] w (VarsR (else6 r k) w.heap.size w):=by
 obtain⟨o0,k0,o1,k1,rfl,_,hh,hbd⟩:=hc.look
 have HB0:Hid (∀ (x:Obj),Below w.heap.size w (w.alloc x)):=hid fun x=>(Below.refl _ _).alloc (Nat.le_refl _) _
 obtain⟨o2,k2,e2,hc1,hm1,S1⟩:=SlOf.open hbd
 cases e2
 have hA:rightA r.head=true:=right_atoms hr _ (List.mem_cons_self ..)
 have hL:=right_lits hr
 have hlenA:(subTs r.head.l).length≤1000000:=by
  unfold termsR at hn
  rw[List.length_append] at hn
  omega
 have HAV:=hid (fun (W:World) (hb:Below w.heap.size w W)=>atomVars_c r.head W _ ((hh.below hb).more hb.size) (rightA_leaf1 hA) hlenA)
 have HLV:=hid (fun (t:Lt) (ht:t ∈ r.body)=>(⟨rightL_leaf1 (hL t ht),by
  obtain⟨k,hk⟩:=List.mem_iff_getElem?.1 ht
  have h3:=(termsR_pre r.body (k+1)).length_le
  rw[termsR_take hk,List.length_append] at h3
  have h4:=(List.getElem?_eq_some_iff.1 hk).1
  unfold termsR at hn
  rw[List.length_append] at hn
  omega⟩:(∀ u ∈ litTs t,u.op=1→u.l=[])∧(litTs t).length+1≤1000000))
 have HN:=hid hn
 clear hc hh hbd hn hA hL hlenA hr
 unfold varsM at HAV
 go_enter Tryz.func87,Tryz.ntmps87
 go_wp2_with fail
 have q1:=World.alloc_heap_new w (.cells #[.string r.head.rel,.slice o0 r.head.l.length k0,.slice o1 r.body.length k1,.int .i64 r.line] 37)
 have Q1:=hid q1
 clear q1
 refine (HAV.out _ (HB0.out _)).mono ?_
 rintro e w2 ⟨v2,rfl,hS2,b2⟩
 have Q2:=hid ((b2.block w.heap.size (by simp)).trans Q1.out)
 have B2:=hid ((HB0.out _).trans (b2.mono (HB0.out _).size))
 have HS2:=hid hS2
 obtain⟨ov,kv,rfl,_⟩:=SlOf.uni hS2
 clear b2 hS2 HAV Q1
 go_wp2_with fail
 go_loopw [5,6] (fun lv iv wr=>∃ i:Nat,i≤r.body.length∧iv=.int .i64 (i:Int)∧Hid (SlOf wr wr.heap.size 1 StrC (elseTo r k i) lv)∧Hid (Below w2.heap.size w2 wr)) (fun _ iv _=>r.body.length - (intOf iv).toNat)
 case atStart=>exact⟨0,Nat.zero_le _,rfl,hid (by rw[elseTo_zero];exact HS2.out),hid (Below.refl _ _)⟩
 case round=>
  obtain⟨i,hi,rfl,HSl,HBr⟩:=hrel
  have HB:=hid (B2.out.trans (HBr.out.mono B2.out.size))
  have qr:=(HBr.out.block w.heap.size (heap_lt Q2.out)).trans Q2.out
  have hz0:w.heap.size < wr.heap.size:=heap_lt qr
  have x0:wr.cell? ⟨w.heap.size,2,none⟩=some (.slice o1 r.body.length k1):=row_cells qr 2
  obtain⟨ov2,kv2,rfl,_⟩:=SlOf.uni HSl.out
  clear qr
  by_cases hlt:i < r.body.length
  ·have hlt3:(i:Int) < (r.body.length:Int):=by omega
   obtain⟨t,ht⟩:∃ t,r.body[i]?=some t:=⟨_,List.getElem?_eq_getElem hlt⟩
   obtain⟨a,p0,q0,p1,q1,p2,q2,rfl,ha,Hc,c0,c1,c2,c3,c4,c5,c6,c7,c8,c9,c10⟩:=lt_at S1 HB.out ht
   have hal:(a.add (i * 11)).block < wr.heap.size:=by rw[addBlock];have:=HB.out.size;omega
   by_cases hik:i=k
   ·subst hik
    have Hst:Hid (elseTo r i (i+1)=withV (elseTo r i i) (varsV (litTs (blank6 t)))):=hid (by rw[elseTo_step (k:=i) ht,if_pos rfl])
    have Hsum:Hid ((elseTo r i i).length+(varsV (litTs (blank6 t))).length≤1000000):=hid (by have h:=elseTo_sum (k:=i) ht HN.out;rwa [if_pos rfl] at h)
    have HT:=hid (List.mem_of_getElem? ht)
    have LC:=hid (blank_c Hc.out)
    clear ht
    have hb6:=fun X=>(Below.refl wr.heap.size wr).alloc (Nat.le_refl _) X
    have HC:=hid (fun X=>litVars_c (blank6 t) (wr.alloc X) _ ((LC.out.below (hb6 X)).more (hb6 X).size) (blank_leaf (HLV.out t HT.out).1) (by have:=blank_len t;have:=(HLV.out t HT.out).2;omega))
    have HB6:=hid hb6
    clear hb6
    go_wp2_with fail
    refine (HC.out _).mono ?_
    rintro e3 w3 ⟨v3,rfl,hS3,b3⟩
    have HB3:=hid ((HB6.out _).trans (b3.mono (HB6.out _).size))
    have HW:=hid (with6_c _ _ _ _ w3 (SlOf.str HSl.out HB3.out HB3.out.size) hS3 Hsum.out)
    obtain⟨o3,k3,rfl,_⟩:=SlOf.uni hS3
    clear hS3 b3 HC
    go_wp2_with fail
    refine HW.out.mono ?_
    rintro e4 w4 ⟨v4,rfl,hS4,b4⟩
    have HS4:=hid hS4
    have HB4:=hid (HBr.out.trans ((HB3.out.trans (b4.mono HB3.out.size)).mono HBr.out.size))
    clear hS4 b4 HW
    go_wp2
    go_roundw
    case rel=>exact⟨i+1,hlt,by go_num,hid (by rw[Hst.out];exact HS4.out),HB4⟩
    case measure=>simp[intOf];omega
   ·have hik':¬ (i:Int)=(k:Int):=by omega
    have Hst:Hid (elseTo r k (i+1)=withV (elseTo r k i) (varsV (litTs t))):=hid (by rw[elseTo_step (k:=k) ht,if_neg hik])
    have Hsum:Hid ((elseTo r k i).length+(varsV (litTs t)).length≤1000000):=hid (by have h:=elseTo_sum (k:=k) ht HN.out;rwa [if_neg hik] at h)
    have HT:=hid (List.mem_of_getElem? ht)
    have LC:=hid Hc.out
    clear ht
    have hb6:=fun X=>(Below.refl wr.heap.size wr).alloc (Nat.le_refl _) X
    have HC:=hid (fun X=>litVars_c t (wr.alloc X) _ ((LC.out.below (hb6 X)).more (hb6 X).size) (HLV.out t HT.out).1 (by have:=(HLV.out t HT.out).2;omega))
    have HB6:=hid hb6
    clear hb6
    go_wp2_with fail
    refine (HC.out _).mono ?_
    rintro e3 w3 ⟨v3,rfl,hS3,b3⟩
    have HB3:=hid ((HB6.out _).trans (b3.mono (HB6.out _).size))
    have HW:=hid (with6_c _ _ _ _ w3 (SlOf.str HSl.out HB3.out HB3.out.size) hS3 Hsum.out)
    obtain⟨o3,k3,rfl,_⟩:=SlOf.uni hS3
    clear hS3 b3 HC
    go_wp2_with fail
    refine HW.out.mono ?_
    rintro e4 w4 ⟨v4,rfl,hS4,b4⟩
    have HS4:=hid hS4
    have HB4:=hid (HBr.out.trans ((HB3.out.trans (b4.mono HB3.out.size)).mono HBr.out.size))
    clear hS4 b4 HW
    go_wp2
    go_roundw
    case rel=>exact⟨i+1,hlt,by go_num,hid (by rw[Hst.out];exact HS4.out),HB4⟩
    case measure=>simp[intOf];omega
  ·have hlt3:¬ (i:Int) < (r.body.length:Int):=by omega
   obtain rfl:i=r.body.length:=by omega
   go_wp2
   go_ret
   exact⟨_,rfl,by rw[← elseTo_all];exact HSl.out,HB.out⟩
theorem filter_yes {f:ByteArray→Bool} {l:List ByteArray} {k:Nat} {x:ByteArray} (hx:l[k]?=some x) (h:f x=true):(l.take (k+1)).filter f=(l.take k).filter f++[x]:=by
 rw[List.take_add_one,hx,List.filter_append];simp[h]
theorem filter_no {f:ByteArray→Bool} {l:List ByteArray} {k:Nat} {x:ByteArray} (hx:l[k]?=some x) (h:f x=false):(l.take (k+1)).filter f=(l.take k).filter f:=by
 rw[List.take_add_one,hx,List.filter_append];simp[h]
set_option maxRecDepth 100000 in
set_option maxHeartbeats 8000000 in
theorem outer6_c (r:Ru) (k:Nat) (l:Lt) (w:World) (cs:List Value) (hc:RuC w w.heap.size r cs) (hr:rightR r=true) (hn:(termsR r).length+r.body.length≤1000000) (hk:r.body[k]?=some l) :
  Calls Tryz.prog 55 #[.agg cs.toArray,.int .i64 (k:Int)] w (VarsR (outer6 r k l) w.heap.size w):=by
 have HV:=hid (fun (W:World) (hb:Below w.heap.size w W)=>vars5_c r W cs ((hc.below hb).more hb.size) (by omega))
 have HE:=hid (fun (W:World) (hb:Below w.heap.size w W)=>elsewhere_c r k W cs ((hc.below hb).more hb.size) hr hn)
 have hvar:varsA r=varsV (termsR r):=by unfold varsA;rw[if_pos hr]
 rw[hvar] at HV
 obtain⟨o0,k0,o1,k1,rfl,_,hh,hbd⟩:=hc.look
 have HB0:Hid (∀ (x:Obj),Below w.heap.size w (w.alloc x)):=hid fun x=>(Below.refl _ _).alloc (Nat.le_refl _) _
 obtain⟨o2,k2,e2,hc1,hm1,S1⟩:=SlOf.open hbd
 cases e2
 have hkl:=(List.getElem?_eq_some_iff.1 hk).1
 have hkl':(k:Int) < (r.body.length:Int):=by omega
 have hk0:(0:Int)≤(k:Int):=by omega
 have hll:=right_lits hr l (List.mem_of_getElem? hk)
 have hlit:(litTs l).length≤1000000:=by
  have h3:=(termsR_pre r.body (k+1)).length_le
  rw[termsR_take hk,List.length_append] at h3
  unfold termsR at hn
  rw[List.length_append] at hn
  omega
 have hla:(subTs l.a.l).length≤1000000:=by rw[litTs_len] at hlit;omega
 have HA:=hid (fun (W:World) (cs:List Value) (hc:AmC W W.heap.size l.a cs)=>atomVars_c l.a W cs hc (fun u hu=>rightL_leaf1 hll u (litTs_mem.2 (.inr (.inr hu)))) hla)
 have hlen:(varsV (termsR r)).length≤1000000:=by have:=varsV_len (termsR r);omega
 have HK:=hid hk
 obtain⟨i0,hi0,hz0,hz1,hz2⟩:=info_parts info_str
 clear hc hh hbd hn hr hll hlit hla hvar hk
 unfold varsM at HA
 obtain⟨all,hall⟩:∃ all,varsV (termsR r)=all:=⟨_,rfl⟩
 obtain⟨inn,hinn⟩:∃ inn,varsV (subTs l.a.l)=inn:=⟨_,rfl⟩
 obtain⟨oth,hoth⟩:∃ oth,else6 r k=oth:=⟨_,rfl⟩
 have HO:Hid (outer6 r k l=all.filter fun s=>in6 inn s && in6 oth s):=hid (by unfold outer6;rw[hall,hinn,hoth])
 rw[hall] at HV hlen
 rw[hinn] at HA
 rw[hoth] at HE
 clear hall hinn hoth
 go_enter Tryz.func55,Tryz.ntmps55
 go_wp2_with fail
 have Q1:=hid (World.alloc_heap_new w (.cells #[.string r.head.rel,.slice o0 r.head.l.length k0,.slice o1 r.body.length k1,.int .i64 r.line] 37))
 refine (HV.out _ (HB0.out _)).mono ?_
 rintro e w2 ⟨v2,rfl,hS2,b2⟩
 have Q2:=hid ((b2.block w.heap.size (by simp)).trans Q1.out)
 have B2:=hid ((HB0.out _).trans (b2.mono (HB0.out _).size))
 have HS2:=hid hS2
 obtain⟨ov,kv,rfl,_⟩:=SlOf.uni hS2
 clear b2 hS2 HV Q1
 obtain⟨a,p0,q0,p1,q1,p2,q2,rfl,ha,Hc,c0,c1,c2,c3,c4,c5,c6,c7,c8,c9,c10⟩:=lt_at S1 B2.out HK.out
 have hal:(a.add (k * 11)).block < w2.heap.size:=by rw[addBlock];have:=B2.out.size;omega
 have x0:w2.cell? ⟨w.heap.size,1+1,none⟩=some (.slice (some a) r.body.length k1):=row_cells Q2.out 2
 have hz2':w.heap.size < w2.heap.size:=heap_lt Q2.out
 have HA2:=hid (HA.out w2 _ ((lt_parts Hc.out).1))
 go_wp2_with fail
 refine HA2.out.mono ?_
 rintro e w3 ⟨v3,rfl,hS3,b3⟩
 have Q3:=hid ((b3.block w.heap.size hz2').trans Q2.out)
 have B23:=hid b3
 have B3:=hid (B2.out.trans (b3.mono B2.out.size))
 have HS3:=hid hS3
 obtain⟨ov3,kv3,rfl,_⟩:=SlOf.uni hS3
 have y0:w3.cell? ⟨w.heap.size,0,none⟩=some (.string r.head.rel):=row_cells Q3.out 0
 have y1:w3.cell? ⟨w.heap.size,1,none⟩=some (.slice o0 r.head.l.length k0):=row_cells Q3.out 1
 have y2:w3.cell? ⟨w.heap.size,2,none⟩=some (.slice (some a) r.body.length k1):=row_cells Q3.out 2
 have y3:w3.cell? ⟨w.heap.size,3,none⟩=some (.int .i64 r.line):=row_cells Q3.out 3
 have hz3:w.heap.size < w3.heap.size:=heap_lt Q3.out
 have HE2:=hid (HE.out w3 B3.out)
 clear b3 hS3 HA2 c0 c1 c2 c3 c4 c5 c6 c7 c8 c9 c10 x0 hal
 go_wp2_with fail
 refine HE2.out.mono ?_
 rintro e w4 ⟨v4,rfl,hS4,b4⟩
 have B24:=hid (B23.out.trans (b4.mono B23.out.size))
 have B4:=hid (B3.out.trans (b4.mono B3.out.size))
 have HS3':=hid (SlOf.str HS3.out b4 b4.size)
 have HS4:=hid hS4
 obtain⟨ov4,kv4,rfl,_⟩:=SlOf.uni hS4
 clear b4 hS4 HE2 y0 y1 y2 y3 Q3
 obtain⟨oa,ka,ea,_,_,SA⟩:=SlOf.open HS2.out
 injection ea with ea1 _ ea2
 subst ea1;subst ea2
 obtain⟨f,hf⟩:∃ f:ByteArray→Bool,(fun s=>in6 inn s && in6 oth s)=f:=⟨_,rfl⟩
 have Hf:=hid hf
 rw[hf] at HO
 clear hf
 go_wp2_with fail
 go_loopw [5,9] (fun lv iv wr=>∃ i:Nat,i≤all.length∧iv=.int .i64 (i:Int)∧Hid (wr.ownsRow w4.heap.size 9 1 lv ((all.take i).filter f).length (((all.take i).filter f).map Value.string))∧Hid (Below w4.heap.size w4 wr)) (fun _ iv _=>all.length - (intOf iv).toNat)
 case atStart=>exact⟨0,Nat.zero_le _,rfl,hid (World.ownsRow_nil _ _ _ _),hid (Below.refl _ _)⟩
 case round=>
  obtain⟨i,hi,rfl,HOw,HBr⟩:=hrel
  have HB:=hid (B4.out.trans (HBr.out.mono B4.out.size))
  obtain⟨cur,hcur⟩:∃ cur,(all.take i).filter f=cur:=⟨_,rfl⟩
  have hcl:cur.length≤i:=by
   rw[← hcur]
   exact Nat.le_trans (List.length_filter_le ..) (by rw[List.length_take];omega)
  rw[hcur] at HOw
  by_cases hlt:i < all.length
  ·have hlt':(i:Int) < (all.length:Int):=by omega
   obtain⟨x,hx⟩:∃ x,all[i]?=some x:=⟨all[i],List.getElem?_eq_getElem hlt⟩
   obtain⟨p,rfl,hp,_,d0⟩:=str_at SA (B24.out.trans (HBr.out.mono B24.out.size)) hx
   have hpl:(p.add i).block < wr.heap.size:=by rw[addBlock];have:=B24.out.size;have:=HBr.out.size;omega
   have HP:=hid (place_c inn _ x wr (SlOf.str HS3'.out HBr.out HBr.out.size))
   have HNo:Hid (f x=false→(all.take (i+1)).filter f=cur):=hid (fun h=>by rw[filter_no hx h,hcur])
   have HYes:Hid (f x=true→(all.take (i+1)).filter f=cur++[x]):=hid (fun h=>by rw[filter_yes hx h,hcur])
   have HFx:Hid (f x=(in6 inn x && in6 oth x)):=hid (by rw[← Hf.out])
   clear hx hcur
   go_wp2_with fail
   refine HP.out.mono ?_
   rintro e w5 ⟨rfl,b5⟩
   have HB5r:=hid (HBr.out.trans (b5.mono HBr.out.size))
   have HOw5:=hid (own_below HOw.out b5)
   have d5:w5.cell? (p.add i)=some (.string x):=(World.cell?_of_block (b5.block _ hpl)).trans d0
   have hpl5:(p.add i).block < w5.heap.size:=by have:=b5.size;omega
   have HP2:=hid (place_c oth _ x w5 (SlOf.str HS4.out HB5r.out HB5r.out.size))
   clear HP b5 d0
   by_cases h1:placeV inn x ≥ 0
   ·go_wp2_with fail
    refine HP2.out.mono ?_
    rintro e w6 ⟨rfl,b6⟩
    have HB6r:=hid (HB5r.out.trans (b6.mono HB5r.out.size))
    have HOw6:=hid (own_below HOw5.out b6)
    have d6:w6.cell? (p.add i)=some (.string x):=(World.cell?_of_block (b6.block _ hpl5)).trans d5
    have hpl6:(p.add i).block < w6.heap.size:=by have:=b6.size;omega
    have HSz:=hid HB6r.out.size
    clear HP2 b6 d5
    by_cases h2:placeV oth x ≥ 0
    ·have Hz:Hid ((all.take (i+1)).filter f=cur++[x]):=hid (HYes.out (by rw[HFx.out,in6_pos (by omega),in6_pos (by omega)];rfl))
     have HS1:Hid (cur.length+1≤maxLen):=hid (by unfold maxLen;omega)
     have HS2:Hid ((cur.length+1) * 16≤140737488355328):=hid (by omega)
     go_wp2_with (at_builtin;refine wpList_append_own _ rfl (.tmp 44) (.tmp 49) 45 rfl w4.heap.size 9 i0 _ 1 16 Tryz.underlying45 hi0 hz0 hz1 hz2 rfl (by decide) _ cur.length _ rfl (HOw6.out.alloc _) _ 1 1 [.string x] rfl rfl (news_one _ _ _) (one_str _) HS1.out HS2.out (by have:=HSz.out;simp;omega) ?_;intro v' w7 hown' hgrow _;have HG:=hid (grown_past hgrow);have HOw7:=hid hown';clear hgrow hown')
     go_roundw
     case rel=>
      refine⟨i+1,hlt,by go_num,hid ?_,hid ?_⟩
      ·rw[Hz.out,List.length_append,List.map_append];exact HOw7.out
      ·exact HB6r.out.grown HG.out HB6r.out.size (fun q hq=>(HOw6.out.lt q hq).1)
     case measure=>simp[intOf];omega
    ·have Hz:Hid ((all.take (i+1)).filter f=cur):=hid (HNo.out (by rw[HFx.out,in6_neg (m:=oth) (by omega)];simp))
     go_wp2
     go_roundw
     case rel=>exact⟨i+1,hlt,by go_num,hid (by rw[Hz.out];exact HOw6.out),HB6r⟩
     case measure=>simp[intOf];omega
   ·have Hz:Hid ((all.take (i+1)).filter f=cur):=hid (HNo.out (by rw[HFx.out,in6_neg (m:=inn) (by omega)];rfl))
    go_wp2
    go_roundw
    case rel=>exact⟨i+1,hlt,by go_num,hid (by rw[Hz.out];exact HOw5.out),HB5r⟩
    case measure=>simp[intOf];omega
  ·have hlt':¬ (i:Int) < (all.length:Int):=by omega
   obtain rfl:i=all.length:=by omega
   rw[List.take_of_length_le (Nat.le_refl _)] at hcur
   obtain⟨oq,kq,rfl⟩:=own_shape HOw.out
   have HR:Hid (SlOf wr wr.heap.size 1 StrC (outer6 r k l) (.slice oq cur.length kq)):=hid (by
    rw[HO.out,hcur]
    exact sl_row (R:=StrC) HOw.out (fun s hs=>⟨rfl,str_sizes HS2.out s (by rw[← hcur] at hs;exact (List.mem_filter.1 hs).1)⟩))
   clear hcur
   go_wp2
   go_ret
   exact⟨_,rfl,HR.out,HB.out⟩
end Go.Proofs.YtfmldnbcjbflbaaGreatDoor
