/- Zfl@012, Yrv4@012 -/
import Derived.Test.YtfmldnbcjbflbaaGreatDoorQ21
set_option linter.unusedSimpArgs false
set_option linter.unusedVariables false
namespace Go.Proofs.YtfmldnbcjbflbaaGreatDoor
open Lib(hid)
open Go.RowKit
def succOk (ops:Array Oper) (n:Nat) (succ:List Nat):Bool:=(List.range n).all fun i=>match succ[i]? with
 | some s=>decide (i < s) && decide (s≤n) && (match ops[s]? with | some o=>depG o i | none=>false)
 | none=>false
def LStep (P:Program) (Q:Exit→Act→World→Prop) (slots:List (Option Tmp)) (Rs:List (Value→World→Prop)) (a0:Act) (w0:World) (i:Nat) (o:Oper) (Fin:(Nat→Value)→World→Prop):Prop:=
 ∀ (A:Act) (w:World) (val:Nat→Value) (K:Act→World→Prop),Below w0.heap.size w0 w→(∀ s,(some s) ∉ slots→A.tmps[s]?.getD undef=a0.tmps[s]?.getD undef) →
  (∀ j s,slots[j]?=some (some s)→depG o j=true→factG Rs j (A.tmps[s]?.getD undef) w∧A.tmps[s]?.getD undef=val j)→(∀ j s,slots[j]?=some (some s)→j < i→factG Rs j (val j) w) →
  (∀ v w',Fin (updV val i v) w'→K (A.put o.dst v) w')→o.wp P A w K Q
theorem wpAny_last {P:Program} {ops:Array Oper} {Q:Exit→Act→World→Prop} (n:Nat) (succ:List Nat) (slots:List (Option Tmp)) (a0:Act) (w0:World) (Rs:List (Value→World→Prop)) (hn:ops.size=n+1) (hsucc:succOk ops n succ=true) (hdst:ops.toList.map (·.dst)=slots) (hok:slotsOk slots=true) (Fin:(Nat→Value)→World→Prop)
  (hac:(ops.toList.zipIdx.all fun q=>q.1.after.all fun e=>!Region.binds .any e || decide (e.on < q.2))=true) (hg:(ops.toList.all fun o=>o.guard.isNone)=true)
  (hsz:(slots.all fun d=>match d with | none=>true | some s=>decide (s < a0.tmps.size))=true)
  (mono:∀ p ∈ Rs,∀ v w w',p v w→Below w.heap.size w w'→p v w') (hst:AllG (GStep P Q slots Rs a0 w0) 0 (ops.toList.take n))
  (hlast:∀ (o:Oper),ops[n]?=some o→LStep P Q slots Rs a0 w0 n o Fin)
  (fin:∀ (val:Nat→Value) (w:World),Fin val w→Q .normal (putsA slots val 0 a0) w):wpAny P .any ops Q ops.size (Array.replicate ops.size false) a0 w0:=by
 have hat:∀ (i:Nat) (o:Oper),ops[i]?=some o→ops.toList[i]?=some o:=fun i o h=>(Array.getElem?_toList ..).trans h
 have hlen:slots.length=ops.size:=by rw[← hdst];simp
 have hD:∀ (i:Nat) (o:Oper),ops[i]?=some o→o.dst=slotG slots i:=by
  intro i o h
  unfold slotG
  rw[← hdst,List.getElem?_map,hat i o h]
  rfl
 have hS:∀ (i:Nat),i < ops.size→slots[i]?=some (slotG slots i):=by
  intro i hi
  unfold slotG
  rw[List.getElem?_eq_getElem (by omega)]
  rfl
 have hne:∀ i j,i < ops.size→j < ops.size→j≠i→slotG slots j≠slotG slots i∨slotG slots i=none:=by
  intro i j hi hj hji
  unfold slotsOk at hok
  have h1:=List.all_eq_true.1 hok i (List.mem_range.2 (by omega))
  have h2:=List.all_eq_true.1 h1 j (List.mem_range.2 (by omega))
  simp only[Bool.or_eq_true,decide_eq_true_eq,beq_iff_eq,Option.isNone_iff_eq_none] at h2
  rcases h2 with (h2 | h2) | h2
  ·exact absurd h2 hji
  ·exact .inl h2
  ·exact .inr h2
 have hlt:∀ (j:Nat) (s:Tmp),slots[j]?=some (some s)→s < a0.tmps.size:=fun j s h=>by
  have:=List.all_eq_true.1 hsz _ (List.mem_of_getElem? h)
  simpa using this
 have repF:∀ j,(Array.replicate ops.size false).getD j false=false:=by
  intro j
  simp[Array.getD_eq_getD_getElem?,Array.getElem?_replicate]
  split <;> simp
 refine wpAny_flow (slotG slots) hD hne ?_ ?_ a0 (fun l val w=>(∀ (i:Nat) (o:Oper),ops[i]?=some o→l.getD i false=true→∀ e ∈ o.after,Region.binds .any e=true→l.getD e.on false=true)∧(l.getD n false=false→Below w0.heap.size w0 w∧∀ j s,slots[j]?=some (some s)→l.getD j false=true→factG Rs j (val j) w)∧(l.getD n false=true→Fin val w)) ?_ ?_ w0 (fun _=>undef) ⟨?_,fun _=>⟨Below.refl _ _,?_⟩,?_⟩
 ·intro i o h e he hbn
  have hm:(o,i) ∈ ops.toList.zipIdx:=List.mem_zipIdx_iff_getElem?.2 (hat i o h)
  have:=List.all_eq_true.1 hac _ hm
  have:=Array.all_eq_true_iff_forall_mem.1 this e he
  rw[hbn] at this
  simpa using this
 ·intro i o h
  have:=List.all_eq_true.1 hg o (List.mem_of_getElem? (hat i o h))
  simpa using this
 ·rintro l val w i o ⟨hC,hN,hFin⟩ hl ho hf hd A K hA hK
  have hi:i < ops.size:=(Array.getElem?_eq_some_iff.1 ho).1
  have ev:∀ (B:Act) (s:Tmp),B.tmps[s]?.getD undef=B.eval (.tmp s):=fun B s=>by rw[← Array.getD_eq_getD_getElem?];rfl
  have hCl:∀ (k:Nat) (o':Oper),ops[k]?=some o'→(l.setIfInBounds i true).getD k false=true→∀ e ∈ o'.after,Region.binds .any e=true→(l.setIfInBounds i true).getD e.on false=true:=by
   intro k o' hk hkd e he hbn
   have h1:l.getD e.on false=true:=by
    by_cases ek:k=i
    ·subst ek
     rw[ho] at hk
     cases hk
     exact hd e he hbn
    ·rw[getD_set ek] at hkd
     exact hC k o' hk hkd e he hbn
   by_cases ee:e.on=i
   ·rw[ee];exact getD_same (by omega)
   ·rw[getD_set ee];exact h1
  have far:∀ s,(some s) ∉ slots→A.tmps[s]?.getD undef=a0.tmps[s]?.getD undef:=by
   intro s hs
   rw[ev,ev,hA]
   refine actsL_far _ _ fun j hj e=>hs ?_
   rw[← e]
   exact List.mem_of_getElem? (hS j (List.mem_range.1 hj))
  -- what all hangs on has run, if the last one may
  have all:(∀ (o':Oper),ops[n]?=some o'→∀ e ∈ o'.after,Region.binds .any e=true→l.getD e.on false=true)→∀ d k,k+d+1=n→l.getD k false=true:=by
   intro hr d
   induction d using Nat.strongRecOn with
   | _ d ih=>
    intro k hk
    unfold succOk at hsucc
    have h1:=List.all_eq_true.1 hsucc k (List.mem_range.2 (by omega))
    cases hs:succ[k]? with
    | none=>rw[hs] at h1;cases h1
    | some s=>
     rw[hs] at h1
     simp only[Bool.and_eq_true,decide_eq_true_eq] at h1
     obtain⟨⟨h2,h3⟩,h4⟩:=h1
     cases hos:ops[s]? with
     | none=>rw[hos] at h4;cases h4
     | some o'=>
      rw[hos] at h4
      by_cases hsn:s=n
      ·subst hsn
       exact depG_of h4 (hr o' hos)
      ·have hsd:=ih (n - 1 - s) (by omega) s (by omega)
       exact depG_of h4 (hC s o' hos hsd)
  have hnf:l.getD n false=false:=by
   cases hh:l.getD n false with
   | false=>rfl
   | true=>
    exfalso
    by_cases e:i=n
    ·subst e;rw[hf] at hh;cases hh
    ·have:=all (fun o' ho'=>hC n o' ho' hh) (n - 1 - i) i (by omega)
     rw[hf] at this
     cases this
  obtain⟨hb,hF⟩:=hN hnf
  have near:∀ j s,slots[j]?=some (some s)→depG o j=true→factG Rs j (A.tmps[s]?.getD undef) w∧A.tmps[s]?.getD undef=val j:=by
   intro j s hj hdep
   have hjl:=depG_of hdep hd
   have hjs:j < ops.size:=by rw[← hlen];exact (List.getElem?_eq_some_iff.1 hj).1
   have hsl:slotG slots j=some s:=by unfold slotG;rw[hj];rfl
   rw[ev,hA,actsL_eval hjl hsl _ _ (List.mem_range.2 hjs) List.nodup_range (fun k hk hkj e=>?_) (hlt j s hj)]
   ·exact⟨hF j s hj hjl,rfl⟩
   ·rcases hne j k hjs (List.mem_range.1 hk) hkj with h | h
    ·exact h (e.trans hsl.symm)
    ·rw[hsl] at h;cases h
  by_cases e:i=n
  ·subst e
   refine hlast o ho A w val K hb far near (fun j s hj hjn=>?_) fun v w' hR=>hK v w' ⟨hCl,fun h=>?_,fun _=>?_⟩
   ·have hjs:j < ops.size:=by rw[← hlen];exact (List.getElem?_eq_some_iff.1 hj).1
    exact hF j s hj (all (fun o' ho'=>by rw[ho] at ho';cases ho';exact hd) (i - 1 - j) j (by omega))
   ·rw[getD_same (by omega)] at h;cases h
   ·exact hR
  ·have ht:(ops.toList.take n)[i]?=some o:=by rw[List.getElem?_take_of_lt (by omega)];exact hat i o ho
   have hs:=hst.at ht
   rw[Nat.zero_add] at hs
   refine hs A w K hb far (fun j s hj hdep=>(near j s hj hdep).1) fun v w' hb' hR=>hK v w' ⟨hCl,fun _=>⟨hb.trans (hb'.mono hb.size),fun j s hj hjl=>?_⟩,fun h=>?_⟩
   ·by_cases e:j=i
    ·subst e;rw[updV_same];exact hR
    ·rw[getD_set e] at hjl
     rw[updV_other _ _ e]
     exact fun p hp=>mono p (List.mem_of_getElem? hp) _ _ _ (hF j s hj hjl p hp) hb'
   ·rw[getD_set (Ne.symm e),hnf] at h
    cases h
 ·rintro l val w ⟨_,_,hFin⟩ hall
  have h1:∀ i,i < slots.length→slots[i]?=some (slotG slots (0+i)):=fun i hi=>by rw[Nat.zero_add];exact hS i (by omega)
  have h2:∀ i,i < slots.length→l.getD (0+i) false=true:=fun i hi=>by rw[Nat.zero_add];exact hall i (by omega)
  have e:(List.range slots.length).map (0+·)=List.range ops.size:=by rw[hlen];simp
  have:=puts_all (D:=slotG slots) (l:=l) (val:=val) slots 0 a0 h1 h2
  rw[e] at this
  rw[this]
  exact fin val w (hFin (hall n (by omega)))
 ·intro i o _ h
  rw[repF] at h
  cases h
 ·intro j s hj h
  rw[repF] at h
  cases h
 ·intro h
  rw[repF] at h
  cases h
theorem rightT_leaf1:∀ (h:Nat) (t:Tm),rightT h t=true→∀ u ∈ subT t,u.op=1→u.l=[]
 | 0,t,hr=>by unfold rightT at hr;cases hr
 | h+1,t,hr=>by
  intro u hu h1
  rcases rightT_cases hr with ⟨h2,a,b,hl,ha,hb⟩ | ⟨h2,hl,ho⟩
  ·rcases mem_subT.1 hu with rfl | hu
   ·have:=twoB_op h2
    omega
   ·rw[hl] at hu
    obtain⟨c,hc,hu⟩:=mem_subTs.1 hu
    have hc:c=a∨c=b:=by simpa using hc
    rcases hc with e | e
    ·rw[e] at hu;exact rightT_leaf1 h a ha u hu h1
    ·rw[e] at hu;exact rightT_leaf1 h b hb u hu h1
  ·rcases mem_subT.1 hu with rfl | hu
   ·exact hl
   ·rw[hl] at hu;simp[subTs] at hu
theorem noT_leaf1 {t:Tm} (h:noT t=true):∀ u ∈ subT t,u.op=1→u.l=[]:=fun u hu h1=>by
 obtain⟨n1,n2⟩:=noT_op h
 rcases mem_subT.1 hu with rfl | hu
 ·omega
 ·rw[n2] at hu;simp[subTs] at hu
theorem rightA_leaf1 {a:Am} (h:rightA a=true):∀ u ∈ subTs a.l,u.op=1→u.l=[]:=fun u hu=>by
 obtain⟨t,ht,hu⟩:=mem_subTs.1 hu
 exact rightT_leaf1 20 t (right_arg h t ht) u hu
theorem rightL_leaf1 {l:Lt} (h:rightL l=true):∀ u ∈ litTs l,u.op=1→u.l=[]:=fun u hu=>by
 cases hd:duoB l with
 | true=>
  obtain⟨na,hx,hy⟩:=right_duo h hd
  rcases litTs_mem.1 hu with hu | hu | hu
  ·exact rightT_leaf1 20 _ hx u hu
  ·exact rightT_leaf1 20 _ hy u hu
  ·rw[noA_l na] at hu;simp[subTs] at hu
 | false=>
  rcases agg_or hd with h1 | h1
  ·obtain⟨ha,hx,hy⟩:=right_plain h h1
   rcases litTs_mem.1 hu with hu | hu | hu
   ·exact noT_leaf1 hx u hu
   ·exact noT_leaf1 hy u hu
   ·exact rightA_leaf1 ha u hu
  ·obtain⟨ha,hx,hy⟩:=right_agg h h1
   rcases litTs_mem.1 hu with hu | hu | hu
   ·exact rightT_leaf1 20 _ hx u hu
   ·rcases hy with ⟨_,hy⟩ | ⟨_,_,hy⟩
    ·exact noT_leaf1 hy u hu
    ·exact rightT_leaf1 20 _ hy u hu
   ·exact rightA_leaf1 ha u hu
theorem body_step {l:List Lt} {k:Nat} {t:Lt} (a:List Tm) (h:l[k]?=some t):varsV (a++(l.take (k+1)).flatMap litTs)=withV (varsV (a++(l.take k).flatMap litTs)) (varsV (litTs t)):=by
 rw[termsR_take h,← List.append_assoc,varsV_app]
theorem body_sum {l:List Lt} {k:Nat} {t:Lt} {a:List Tm} (h:l[k]?=some t) (hn:(a++l.flatMap litTs).length≤1000000):(varsV (a++(l.take k).flatMap litTs)).length+(varsV (litTs t)).length≤1000000:=by
 have h1:=varsV_len (a++(l.take k).flatMap litTs)
 have h2:=varsV_len (litTs t)
 have h3:=(termsR_pre l (k+1)).length_le
 rw[termsR_take h,List.length_append] at h3
 rw[List.length_append] at h1 hn
 omega
set_option maxRecDepth 100000 in
set_option maxHeartbeats 4000000 in
theorem vars5_c (r:Ru) (w:World) (cs:List Value) (hc:RuC w w.heap.size r cs) (hn:(termsR r).length≤1000000) :
  Calls Tryz.prog 48 #[.agg cs.toArray] w (VarsR (varsA r) w.heap.size w):=by
 have HR:=hid (fun (W:World) (hb:Below w.heap.size w W)=>rrightRule_c r W cs ((hc.below hb).more hb.size))
 have HC:=hid hc
 obtain⟨o0,k0,o1,k1,rfl,_,hh,hbd⟩:=hc.look
 have HB0:Hid (∀ (x:Obj),Below w.heap.size w (w.alloc x)):=hid fun x=>(Below.refl _ _).alloc (Nat.le_refl _) _
 obtain⟨o2,k2,e2,hc1,hm1,S1⟩:=SlOf.open hbd
 cases e2
 have HH:=hid hh
 have HN:=hid hn
 clear hc hh hbd hn
 go_enter Tryz.func48,Tryz.ntmps48
 go_wp2_with fail
 refine (HR.out _ (HB0.out _)).mono ?_
 rintro e w1 ⟨rfl,b1⟩
 have q1:=(b1.block w.heap.size (by simp)).trans (World.alloc_heap_new w _)
 have B1:=hid ((HB0.out _).trans (b1.mono (by simp)))
 have Q1:=hid q1
 clear b1 q1
 have HV1:Hid (rightR r=true→varsA r=varsV (subTs r.head.l++r.body.flatMap litTs)):=hid fun h=>by unfold varsA;rw[if_pos h];rfl
 have HV0:Hid (rightR r=false→varsA r=[]):=hid fun h=>by unfold varsA;rw[h];rfl
 cases hr:rightR r with
 | false=>
  have HV:=hid (HV0.out hr)
  clear hr
  go_wp2
  go_ret
  exact⟨_,rfl,.inl ⟨rfl,HV.out⟩,B1.out⟩
 | true=>
  have hA:rightA r.head=true:=right_atoms hr _ (List.mem_cons_self ..)
  have hL:=right_lits hr
  have hlenA:(subTs r.head.l).length≤1000000:=by
   have:=HN.out
   unfold termsR at this
   rw[List.length_append] at this
   omega
  have HAV:=hid (atomVars_c r.head w1 _ ((HH.out.below B1.out).more B1.out.size) (rightA_leaf1 hA) hlenA)
  have HLV:=hid (fun (t:Lt) (ht:t ∈ r.body) (W:World) (cs:List Value) (hc:LtC W W.heap.size t cs)=>litVars_c t W cs hc (rightL_leaf1 (hL t ht)) (by
   have:=HN.out
   obtain⟨k,hk⟩:=List.mem_iff_getElem?.1 ht
   have h3:=(termsR_pre r.body (k+1)).length_le
   rw[termsR_take hk,List.length_append] at h3
   unfold termsR at this
   rw[List.length_append] at this
   omega))
  have c0:w1.cell? ⟨w.heap.size,0,none⟩=some (.string r.head.rel):=row_cells Q1.out 0
  have c1:w1.cell? ⟨w.heap.size,1,none⟩=some (.slice o0 r.head.l.length k0):=row_cells Q1.out 1
  have hz1:w.heap.size < w1.heap.size:=heap_lt Q1.out
  have HV:=hid (HV1.out hr)
  clear hr hA hL hlenA
  unfold varsM at HAV
  go_wp2_with fail
  refine HAV.out.mono ?_
  rintro e w2 ⟨v2,rfl,hS2,b2⟩
  have q2:=(b2.block w.heap.size hz1).trans Q1.out
  have B2:=hid (B1.out.trans (b2.mono B1.out.size))
  have Q2:=hid q2
  have HS2:=hid hS2
  obtain⟨ov,kv,rfl,_⟩:=SlOf.uni hS2
  clear q2 b2 hS2 HAV c0 c1
  go_wp2
  go_loopw [4,5] (fun lv i wr=>∃ k:Nat,k≤r.body.length∧i=.int .i64 k∧SlOf wr wr.heap.size 1 StrC (varsV (subTs r.head.l++(r.body.take k).flatMap litTs)) lv∧Below w2.heap.size w2 wr) (fun _ i _=>r.body.length - (intOf i).toNat)
  case atStart=>exact⟨0,Nat.zero_le _,rfl,by simpa using HS2.out,Below.refl _ _⟩
  case round=>
   obtain⟨k,hk,rfl,hsl,hB2⟩:=hrel
   have hB:Below w.heap.size w wr:=B2.out.trans (hB2.mono B2.out.size)
   have HSl:=hid hsl
   have qr:=(hB2.block w.heap.size (heap_lt Q2.out)).trans Q2.out
   have hz0:w.heap.size < wr.heap.size:=heap_lt qr
   have x0:wr.cell? ⟨w.heap.size,2,none⟩=some (.slice o1 r.body.length k1):=row_cells qr 2
   have hBs:=hB2.size
   obtain⟨ov2,kv2,rfl,_⟩:=SlOf.uni hsl
   clear hsl qr
   by_cases hlt:k < r.body.length
   ·have hlt3:(k:Int) < (r.body.length:Int):=by omega
    obtain⟨t,ht⟩:∃ t,r.body[k]?=some t:=⟨_,List.getElem?_eq_getElem hlt⟩
    obtain⟨a,p0,q0,p1,q1,p2,q2,rfl,ha,Hc,c0,c1,c2,c3,c4,c5,c6,c7,c8,c9,c10⟩:=lt_at S1 hB ht
    have hal:(a.add (k * 11)).block < wr.heap.size:=by rw[addBlock];have:=B2.out.size;omega
    have HCL:=hid (HLV.out t (List.mem_of_getElem? ht) wr _ Hc.out)
    have Hst:=hid (body_step (subTs r.head.l) ht)
    have Hsum:=hid (body_sum ht HN.out)
    have HB:=hid hB2
    clear ht hB2 hB
    go_wp2_with fail
    refine HCL.out.mono ?_
    rintro e3 w3 ⟨v3,rfl,hS3,b3⟩
    have HW:=hid (with_c _ _ _ _ w3 (SlOf.str HSl.out b3 b3.size) hS3 Hsum.out)
    have HB3:=hid (HB.out.trans (b3.mono HB.out.size))
    obtain⟨o3,k3,rfl,_⟩:=SlOf.uni hS3
    clear hS3 b3 HCL
    go_wp2_with fail
    refine HW.out.mono ?_
    rintro e4 w4 ⟨v4,rfl,hS4,b4⟩
    have HS4:=hid hS4
    have HB4:=hid (HB3.out.trans (b4.mono HB3.out.size))
    clear hS4 b4 HW
    go_wp2
    go_roundw
    case rel=>exact⟨k+1,hlt,by go_num,by rw[Hst.out];exact HS4.out,HB4.out⟩
    case measure=>simp[intOf];omega
   ·have hlt3:¬ (k:Int) < (r.body.length:Int):=by omega
    obtain rfl:k=r.body.length:=by omega
    have HB:=hid hB
    have HS3:=hid HSl.out
    rw[List.take_of_length_le (Nat.le_refl _)] at HS3
    clear hB hB2
    go_wp2
    go_ret
    exact⟨_,rfl,by rw[HV.out];exact HS3.out,HB.out⟩
end Go.Proofs.YtfmldnbcjbflbaaGreatDoor
