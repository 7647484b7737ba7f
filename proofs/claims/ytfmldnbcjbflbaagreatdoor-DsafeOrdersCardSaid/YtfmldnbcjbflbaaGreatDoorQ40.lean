/- Zor@0, Sk6@0, Sl6@0 -/
import Derived.Test.YtfmldnbcjbflbaaGreatDoorQ39
set_option linter.unusedSimpArgs false
set_option linter.unusedVariables false
namespace Go.Proofs.YtfmldnbcjbflbaaGreatDoor
open Lib(hid)
open Go.RowKit Go.Shelf
attribute [local go_sem] Oper.semAt_some
inductive InvR (n0:Nat) (w:World) (r:Ru):Ending→World→Prop
 | bad {w':World}:ordE r≠0→Below n0 w w'→InvR n0 w r (.returned (.tuple #[.bool false,.int .i64 (ordE r)])) w'
 | good {w':World}:ordE r=0→Below n0 w w'→InvR n0 w r (.returned (.tuple #[.bool (invZ r),.int .i64 0])) w'
set_option maxRecDepth 100000 in
set_option maxHeartbeats 8000000 in
theorem invents6_c (r:Ru) (cs:List Value) (t a u:Addr) (w:World) (hc:RuC w w.heap.size r cs) (hf:FewR r) (hp:FewP' (partsZ r)) (E:EnvZ t a u w) :
  Calls Tryz.prog 15 #[.agg cs.toArray] w (InvR w.heap.size w r):=by
 obtain⟨o0,k0,o1,k1,rfl,_⟩:=hc.look
 obtain⟨W1,hW1⟩:∃ W,w.alloc (.cells #[.string r.head.rel,.slice o0 r.head.l.length k0,.slice o1 r.body.length k1,.int .i64 r.line] 37)=W:=⟨_,rfl⟩
 have b1:Below w.heap.size w W1:=by rw[← hW1];exact (Below.refl _ _).alloc (Nat.le_refl _) _
 have HK:=hid (callsIn_wide.1 (walkThrough_in r _ t a u W1.heap.size W1 rfl ((hc.below b1).more b1.size) hf hp (E.below b1).z (E.below b1).tr))
 have HE:=hid (E.below b1)
 have B1:=hid b1
 have HW1:=hid hW1
 clear hc hf hp E b1 hW1
 go_enter Tryz.func15,Tryz.ntmps15
 go_wp2_with fail
 rw[HW1.out]
 refine HK.out.mono ?_
 clear HK
 intro e2 w2 hT
 cases hT with
  | tree h1 h2=>
   have hbA:Below w2.heap.size w2 (w2.alloc (.cells #[.slice none 0 0,.map none,.bool false] 72)):=(Below.refl _ _).alloc (Nat.le_refl _) _
   have HN:=hid (numT_c _ a u _ ((HE.out.below h2).below hbA).z)
   have B2:=hid ((B1.out.trans (h2.mono B1.out.size)).trans (hbA.mono (Nat.le_trans B1.out.size h2.size)))
   have HO:=hid (ordE_tree h1)
   clear hbA
   clear h1 h2
   unfold errV at *
   go_wp2_with fail
   refine HN.out.mono ?_
   rintro e3 w3 ⟨rfl,b3⟩
   have B3:=hid (B2.out.trans (b3.mono B2.out.size))
   clear b3
   go_wp2
   go_ret2
   have hfin:InvR w.heap.size w r (.returned (.tuple #[.bool false,.int .i64 (ordE r)])) w3:=.bad (by rw[HO.out];decide) B3.out
   rw[HO.out] at hfin
   exact hfin
  | ready k h1 h0 h2=>
   have hbA:Below w2.heap.size w2 (w2.alloc (.cells #[.slice none 0 0,.map none,.bool false] 72)):=(Below.refl _ _).alloc (Nat.le_refl _) _
   have HN:=hid (numR_c k _ a u _ ((HE.out.below h2).below hbA).z (Nat.le_refl _))
   have B2:=hid ((B1.out.trans (h2.mono B1.out.size)).trans (hbA.mono (Nat.le_trans B1.out.size h2.size)))
   have HO:=hid (ordE_un h1 h0)
   clear hbA
   clear h1 h2 h0
   go_wp2_with fail
   refine HN.out.mono ?_
   rintro e3 w3 ⟨rfl,b3⟩
   have B3:=hid (B2.out.trans (b3.mono B2.out.size))
   clear b3
   go_wp2
   go_ret2
   have hfin:InvR w.heap.size w r (.returned (.tuple #[.bool false,.int .i64 (ordE r)])) w3:=.bad (by rw[HO.out];decide) B3.out
   rw[HO.out] at hfin
   exact hfin
  | bound s h1 h0 h2=>
   have hbA:Below w2.heap.size w2 (w2.alloc (.cells #[.slice none 0 0,.map none,.bool false] 72)):=(Below.refl _ _).alloc (Nat.le_refl _) _
   have HN:=hid (numB_c s _ a u _ ((HE.out.below h2).below hbA).z (Nat.le_refl _))
   have B2:=hid ((B1.out.trans (h2.mono B1.out.size)).trans (hbA.mono (Nat.le_trans B1.out.size h2.size)))
   have HO:=hid (ordE_un h1 h0)
   clear hbA
   clear h1 h2 h0
   go_wp2_with fail
   refine HN.out.mono ?_
   rintro e3 w3 ⟨rfl,b3⟩
   have B3:=hid (B2.out.trans (b3.mono B2.out.size))
   clear b3
   go_wp2
   go_ret2
   have hfin:InvR w.heap.size w r (.returned (.tuple #[.bool false,.int .i64 (ordE r)])) w3:=.bad (by rw[HO.out];decide) B3.out
   rw[HO.out] at hfin
   exact hfin
  | @good _ v M n c h1 h0 hs hm hM h2=>
   obtain⟨ov,cv,rfl,_,_,_⟩:=SlOf.open hs
   have B2:=hid (B1.out.trans (h2.mono B1.out.size))
   have HO:=hid (ordE_ok h1 h0)
   have HS:=hid hs
   have hb3:Below w2.heap.size w2 (w2.alloc (.cells #[.slice ov (orderZ r).length cv,.map (some M),.bool (invZ r)] 72)):=(Below.refl _ _).alloc (Nat.le_refl _) _
   have HB3:=hid hb3
   clear h1 h2 h0 hs hm hM hb3
   go_wp2
   go_ret2
   exact .good HO.out (B2.out.trans (HB3.out.mono B2.out.size))
end Go.Proofs.YtfmldnbcjbflbaaGreatDoor
namespace Go.Proofs.YtfmldnbcjbflbaaGreatDoor
open Lib(hid)
open Go.RowKit
def inv6 (B:List ByteArray) (l:Lt):Bool:=decide (7≤l.op) || ((l.op == 3) && ((binds6 l.x l.y B && decide (5≤l.y.op)) || (binds6 l.y l.x B && decide (5≤l.x.op))))
theorem rck_op {t:Tm} (h:rightT 20 t=true):rckT t=decide (5≤t.op):=by
 have:=rightT_op h
 refine bool_iff ?_
 unfold rckT
 simp only[Bool.or_eq_true,beq_iff_eq,decide_eq_true_eq]
 omega
theorem lacks_all {B:Bd} {t:Tm} (h:lacksZ B t=true):allZ B (vz [t])=false:=by
 unfold lacksZ at h
 rw[Bool.and_eq_true,beq_iff_eq] at h
 cases ha:allZ B (vz [t]) with
 | false=>rfl
 | true=>
  unfold allZ at ha
  rw[List.all_eq_true] at ha
  have h1:=ha t.s (vz_one.2 (occ_mem.2 ⟨t,mem_self,h.1,rfl⟩))
  have h2:=h.2
  rw[h1] at h2
  cases h2
theorem duo_right {l:Lt} (h:rightL l=true) (h3:l.op=3):rightT 20 l.x=true∧rightT 20 l.y=true:=by
 unfold rightL at h
 rw[if_neg (by omega),if_pos (by omega)] at h
 simp only[Bool.and_eq_true] at h
 exact⟨h.1.1.1.2,h.1.1.2⟩
theorem inv_same {r:Ru} {k:Nat} {l:Lt} {B:Bd} {bound:List ByteArray} (hl:rightL l=true) (h:Same6 B bound) (hr:ready6 r k l bound=true):inventsZ B (ptZ r k l)=inv6 bound l:=by
 have hlit:(ptZ r k l).lit=l:=rfl
 unfold inventsZ inv6
 rw[hlit]
 by_cases h3:l.op=3
 ·obtain⟨hx,hy⟩:=duo_right hl h3
  rw[if_pos h3,rck_op hx,rck_op hy,← binds_same h,← binds_same h]
  have e7:decide (7≤l.op)=false:=by rw[decide_eq_false_iff_not];omega
  have e3:(l.op == 3)=true:=by rw[h3];rfl
  rw[e7,e3,Bool.false_or,Bool.true_and]
  unfold ready6 at hr
  rw[if_neg (by omega),if_neg (by omega),if_pos h3,← plain_same (r:=r) (k:=k) h,← binds_same h,← binds_same h] at hr
  have hp:plainZ B (ptZ r k l)=(allZ B (vz [l.x]) && allZ B (vz [l.y]) && allZ B (vz l.a.l)):=rfl
  rw[hp] at hr
  have ha:=lacks_all (B:=B) (t:=l.x)
  have hb:=lacks_all (B:=B) (t:=l.y)
  generalize lacksZ B l.x=a at *
  generalize lacksZ B l.y=b at *
  generalize allZ B (vz [l.x])=q at *
  generalize allZ B (vz [l.y])=p at *
  generalize allZ B (vz l.a.l)=z at *
  generalize decide (5≤l.x.op)=u at *
  generalize decide (5≤l.y.op)=v at *
  cases a <;> cases b <;> cases q <;> cases p <;> cases z <;> cases u <;> cases v <;> simp_all
 ·rw[if_neg h3]
  have e3:(l.op == 3)=false:=by simpa using h3
  rw[e3,Bool.false_and,Bool.or_false]
  refine bool_iff ?_
  rw[agg_op hl,decide_eq_true_eq]
theorem go_ready {s u:ZS} {p:Pt} (h:goZ s=some (p,u)):readyZ s.B p=true:=by
 obtain⟨i,hn,hp,_⟩:=goZ_left h
 have key:∀ b,pickZ s.B b s.left=some i→readyZ s.B p=true:=fun b hb=>by
  obtain⟨hi,h1,_⟩:=List.findIdx?_eq_some_iff_getElem.1 hb
  rw[List.getElem?_eq_getElem hi] at hp
  rw[Option.some.inj hp] at h1
  exact (Bool.and_eq_true _ _ ▸ h1).2
 unfold nextZ at hn
 cases h1:pickZ s.B false s.left with
 | none=>rw[h1] at hn;exact key true hn
 | some j=>
  rw[h1] at hn
  have e:j=i:=by simpa using hn
  subst e
  exact key false h1
theorem walk_each {r:Ru} (hr:rightR r=true):∀ n,(seqZ n (zs0 r)).1.length=n→∀ (i:Nat) (x:Pt × Bd),(seqZ n (zs0 r)).1[i]?=some x →
  ∃ (l:Lt) (D:List Nat) (bound:List ByteArray),r.body[x.1.place]?=some l∧x.1=ptZ r x.1.place l∧walk6 r i=some (D,bound)∧Same6 x.2 bound∧ready6 r x.1.place l bound=true
 | 0,_,i,x,h=>by simp[seqZ] at h
 | n+1,hn,i,x,h=>by
  obtain⟨L,hL⟩:∃ L,(seqZ n (zs0 r)).1=L:=⟨_,rfl⟩
  obtain⟨t,ht⟩:∃ t,(seqZ n (zs0 r)).2=t:=⟨_,rfl⟩
  have hs:seqZ n (zs0 r)=(L,t):=by rw[← hL,← ht]
  have ih:=walk_each hr n
  have hw:=walk_same hr n
  rw[hL] at ih
  rw[hL,ht] at hw
  rcases hw with ⟨h1,bound,h2,h3,h4⟩ | ⟨h1,_,h3⟩
  ·cases hg:goZ t with
   | none=>
    rw[seqZ_stop n 1 _ _ _ hs hg] at hn
    have:L.length=n+1:=hn
    omega
   | some q=>
    obtain⟨p,u⟩:=q
    rw[seqZ_snoc n _ _ _ _ _ hs h1 hg] at h
    have h':(L++[(p,t.B)])[i]?=some x:=h
    rw[List.getElem?_append] at h'
    split at h'
    ·exact ih h1 i x h'
    ·rename_i hi
     have hi2:=(List.getElem?_eq_some_iff.1 h').1
     have e0:i - L.length=0:=by simp at hi2;omega
     have ei:i=n:=by simp at hi2;omega
     rw[e0] at h'
     have ex:(p,t.B)=x:=by simpa using h'
     subst ex
     obtain⟨l,e1,e2,_,_⟩:=go_step hr h3 h4 hg
     have hll:=right_lits hr l (List.mem_of_getElem? e1)
     refine⟨l,_,bound,e1,e2,by rw[ei];exact h2,h3,?_⟩
     have e3:readyZ t.B p=ready6 r p.place l bound:=by
      rw[e2]
      exact ready_same e1 hll h3
     show ready6 r p.place l bound=true
     rw[← e3]
     exact go_ready hg
  ·rw[seqZ_stop n 1 _ _ _ hs h3] at hn
   have:L.length=n+1:=hn
   omega
end Go.Proofs.YtfmldnbcjbflbaaGreatDoor
namespace Go.Proofs.YtfmldnbcjbflbaaGreatDoor
open Lib(hid)
open Go.RowKit
def In6R (r:Ru) (n0:Nat) (w:World) (e:Ending) (w':World):Prop:=
 ((ordE r≠0∧e=.returned (.tuple #[.bool false,.int .i64 (ordE r)]))∨(ordE r=0∧e=.returned (.tuple #[.bool (invZ r),.int .i64 0])))∧Below n0 w w'
theorem inv_at {r:Ru} (h0:ordE r=0) {i:Nat} {k:Int} (hk:(orderZ r)[i]?=some k):∃ (n:Nat) (l:Lt) (D:List Nat) (bound:List ByteArray) (x:Pt × Bd),k=n∧(walkZ r).1[i]?=some x∧r.body[n]?=some l∧walk6 r i=some (D,bound)∧inventsZ x.2 x.1=inv6 bound l:=by
 have hr:=ord_right h0
 unfold orderZ at hk
 rw[List.getElem?_map,Option.map_eq_some_iff] at hk
 obtain⟨x,hx,e⟩:=hk
 have hlen:(seqZ r.body.length (zs0 r)).1.length=r.body.length:=by
  rcases walk_same hr r.body.length with ⟨h1,_⟩ | ⟨_,h2,_⟩
  ·exact h1
  ·exact absurd h2 (walk_pre h0 (Nat.le_refl _))
 obtain⟨l,D,bound,h1,h2,h3,h4,h5⟩:=walk_each hr r.body.length hlen i x hx
 have hll:=right_lits hr l (List.mem_of_getElem? h1)
 refine⟨x.1.place,l,D,bound,x,e.symm,hx,h1,h3,?_⟩
 rw[h2]
 exact inv_same hll h4 h5
set_option maxRecDepth 100000 in
set_option maxHeartbeats 16000000 in
theorem invents6r_c (r:Ru) (w:World) (cs:List Value) (hc:RuC w w.heap.size r cs) (hn:(termsR r).length+r.body.length≤10000) :
  Calls Tryz.prog 16 #[.agg cs.toArray] w (In6R r w.heap.size w):=by
 have HOr:=hid (fun (W:World) (hb:Below w.heap.size w W)=>order6_c r W cs ((hc.below hb).more hb.size) hn)
 have HWk:=hid (fun (hr:rightR r=true) (n:Nat) (hnn:n≤r.body.length) (W:World) (hb:Below w.heap.size w W)=>walk6_c r n W cs ((hc.below hb).more hb.size) hr hn hnn)
 obtain⟨o0,k0,o1,k1,rfl,_,hh,hbd⟩:=hc.look
 obtain⟨o2,k2,e2,hc1,hm1,S1⟩:=SlOf.open hbd
 cases e2
 have HT:=hid hn
 clear hc hh hbd hn
 go_enter Tryz.func16,Tryz.ntmps16
 go_wp2_with fail
 have B0:Hid (∀ X,Below w.heap.size w (w.alloc X)):=hid (fun X=>(Below.refl _ _).alloc (Nat.le_refl _) _)
 refine (HOr.out _ (B0.out _)).mono ?_
 rintro e w1 ⟨hR,b1⟩
 have Q1:=hid ((b1.block w.heap.size (by simp)).trans (World.alloc_heap_new w _))
 have B1:=hid ((B0.out _).trans (b1.mono (by simp)))
 clear b1
 rcases hR with ⟨he,rfl⟩ | ⟨he,v1,rfl,hS1⟩
 ·have HE:=hid he
  obtain⟨oe,hoe⟩:∃ x,ordE r=x:=⟨_,rfl⟩
  have HOe:=hid hoe
  rw[hoe] at he
  have hne:(oe == 0)=false:=by simpa using he
  rw[hoe]
  clear hoe
  go_wp2
  go_ret2
  exact⟨.inl ⟨HE.out,by rw[HOe.out];rfl⟩,B1.out⟩
 ·have HE:=hid he
  obtain⟨lo,hlo⟩:∃ lo,orderZ r=lo:=⟨_,rfl⟩
  have HLo:=hid hlo
  rw[hlo] at hS1
  obtain⟨o3,q3,rfl,hc3,hm3,S3⟩:=SlOf.open hS1
  have hll:lo.length≤r.body.length:=by
   rw[← hlo]
   have:=ord_len_le r
   rw[orderZ_eq,List.length_map]
   exact this
  have HLL:=hid hll
  clear hS1 he hlo hll
  go_wp2_with fail
  go_loopw [6] (fun iv wr=>∃ i:Nat,i≤lo.length∧iv=.int .i64 (i:Int)∧Hid (∀ j x,j < i→(walkZ r).1[j]?=some x→inventsZ x.2 x.1=false)∧Hid (Below w1.heap.size w1 wr)) (fun iv _=>lo.length - (intOf iv).toNat)
  case atStart=>exact⟨0,Nat.zero_le _,rfl,hid (fun j x hj=>by omega),hid (Below.refl _ _)⟩
  case round=>
   obtain⟨i,hi,rfl,HA,HBr⟩:=hrel
   have HB:=hid (B1.out.trans (HBr.out.mono B1.out.size))
   have qr:=(HBr.out.block _ (heap_lt Q1.out)).trans Q1.out
   have y0:wr.cell? ⟨w.heap.size,0,none⟩=some (.string r.head.rel):=row_cells qr 0
   have y1:wr.cell? ⟨w.heap.size,1,none⟩=some (.slice o0 r.head.l.length k0):=row_cells qr 1
   have y2:wr.cell? ⟨w.heap.size,2,none⟩=some (.slice o1 r.body.length k1):=row_cells qr 2
   have y3:wr.cell? ⟨w.heap.size,3,none⟩=some (.int .i64 r.line):=row_cells qr 3
   have hl0:w.heap.size < wr.heap.size:=heap_lt qr
   clear qr
   by_cases hlt:i < lo.length
   ·have hlt':(i:Int) < (lo.length:Int):=by omega
    have hi0:(0:Int)≤(i:Int):=by omega
    obtain⟨k,hk⟩:∃ k,lo[i]?=some k:=⟨_,List.getElem?_eq_getElem hlt⟩
    obtain⟨a3,rfl,ha3,_,d0⟩:=int_at S3 HBr.out hk
    obtain⟨n,l,D,bound,x,rfl,hx,hl,hw,hinv⟩:=inv_at HE.out (by rw[HLo.out];exact hk)
    obtain⟨a,p0,q0,p1,q1,p2,q2,rfl,ha,Hc,c0,c1,c2,c3,c4,c5,c6,c7,c8,c9,c10⟩:=lt_at S1 HB.out hl
    have hal:(a.add (n * 11)).block < wr.heap.size:=by rw[addBlock];have:=HB.out.size;omega
    have ha3l:(a3.add i).block < wr.heap.size:=by rw[addBlock];have:=HBr.out.size;omega
    have hnl:=(List.getElem?_eq_some_iff.1 hl).1
    have hnl':(n:Int) < (r.body.length:Int):=by omega
    have hn0:(0:Int)≤(n:Int):=by omega
    have HX:=hid hx
    have HW:=hid hw
    have HInv:=hid hinv
    have HL:=hid hl
    clear hx hw hinv hl hk
    obtain⟨hAm,hX,hY⟩:=lt_parts Hc.out
    have hll:=right_lits (ord_right HE.out) l (List.mem_of_getElem? HL.out)
    have hv:=rightL_leaf1 hll
    have hlen:=litTs_len l
    have hlit:(litTs l).length≤10000:=by
     have h3:=(termsR_pre r.body (n+1)).length_le
     rw[termsR_take HL.out,List.length_append] at h3
     have h4:=HT.out
     unfold termsR at h4
     rw[List.length_append] at h4
     omega
    have HBx:=hid (fun (W:World) (hb2:Below wr.heap.size wr W) (u:Value) (hu:SlOf W W.heap.size 1 StrC bound u)=>binds6_c l.x l.y bound _ _ u W ((hX.under hb2).more hb2.size) ((hY.under hb2).more hb2.size) (fun u hu=>hv u (litTs_mem.2 (.inr (.inl hu)))) (by omega) hu)
    have HBy:=hid (fun (W:World) (hb2:Below wr.heap.size wr W) (u:Value) (hu:SlOf W W.heap.size 1 StrC bound u)=>binds6_c l.y l.x bound _ _ u W ((hY.under hb2).more hb2.size) ((hX.under hb2).more hb2.size) (fun u hu=>hv u (litTs_mem.2 (.inl hu))) (by omega) hu)
    have HTrue:Hid (inv6 bound l=true→invZ r=true):=hid (fun h=>by
     unfold invZ
     rw[List.any_eq_true]
     exact⟨x,List.mem_of_getElem? HX.out,by rw[HInv.out];exact h⟩)
    have HNext:Hid (inv6 bound l=false→∀ j y,j < i+1→(walkZ r).1[j]?=some y→inventsZ y.2 y.1=false):=hid (fun h j y hj hy=>by
     by_cases e:j=i
     ·subst e
      rw[HX.out] at hy
      cases hy
      rw[HInv.out]
      exact h
     ·exact HA.out j y (by omega) hy)
    have hib:i≤r.body.length:=by have:=HLL.out;omega
    have HC:=hid (fun (W:World) (hb:Below w.heap.size w W)=>HWk.out (ord_right HE.out) i hib W hb)
    have HW2:Hid (Below wr.heap.size wr (wr.alloc (.cells #[.int .i64 l.op,.string l.a.rel,.slice p0 l.a.l.length q0,.int .i64 l.x.op,.string l.x.s,.int .i64 l.x.n,.slice p1 l.x.l.length q1,.int .i64 l.y.op,.string l.y.s,.int .i64 l.y.n,.slice p2 l.y.l.length q2] 56)).drew):=hid (((Below.refl _ _).alloc (Nat.le_refl _) _).drew)
    have QL:Hid ((wr.alloc (.cells #[.int .i64 l.op,.string l.a.rel,.slice p0 l.a.l.length q0,.int .i64 l.x.op,.string l.x.s,.int .i64 l.x.n,.slice p1 l.x.l.length q1,.int .i64 l.y.op,.string l.y.s,.int .i64 l.y.n,.slice p2 l.y.l.length q2] 56)).drew.heap[wr.heap.size]?=some (.cells #[.int .i64 l.op,.string l.a.rel,.slice p0 l.a.l.length q0,.int .i64 l.x.op,.string l.x.s,.int .i64 l.x.n,.slice p1 l.x.l.length q1,.int .i64 l.y.op,.string l.y.s,.int .i64 l.y.n,.slice p2 l.y.l.length q2] 56 (0,0))):=hid (World.alloc_heap_new wr _)
    have QR:Hid ((wr.alloc (.cells #[.int .i64 l.op,.string l.a.rel,.slice p0 l.a.l.length q0,.int .i64 l.x.op,.string l.x.s,.int .i64 l.x.n,.slice p1 l.x.l.length q1,.int .i64 l.y.op,.string l.y.s,.int .i64 l.y.n,.slice p2 l.y.l.length q2] 56)).drew.heap[w.heap.size]?=some (.cells #[.string r.head.rel,.slice o0 r.head.l.length k0,.slice (some a) r.body.length k1,.int .i64 r.line] 37 (0,0))):=hid ((HW2.out.block _ hl0).trans ((HBr.out.block _ (heap_lt Q1.out)).trans Q1.out))
    clear hAm hX hY hll hv hlen hlit Hc
    go_wp2_with fail
    go_region
    generalize (wr.alloc (.cells #[.int .i64 l.op,.string l.a.rel,.slice p0 l.a.l.length q0,.int .i64 l.x.op,.string l.x.s,.int .i64 l.x.n,.slice p1 l.x.l.length q1,.int .i64 l.y.op,.string l.y.s,.int .i64 l.y.n,.slice p2 l.y.l.length q2] 56)).drew=W2 at *
    have z0:W2.cell? ⟨w.heap.size,0,none⟩=some (.string r.head.rel):=row_cells QR.out 0
    have z1:W2.cell? ⟨w.heap.size,1,none⟩=some (.slice o0 r.head.l.length k0):=row_cells QR.out 1
    have z2:W2.cell? ⟨w.heap.size,2,none⟩=some (.slice (some a) r.body.length k1):=row_cells QR.out 2
    have z3:W2.cell? ⟨w.heap.size,3,none⟩=some (.int .i64 r.line):=row_cells QR.out 3
    have hz0:w.heap.size < W2.heap.size:=heap_lt QR.out
    have HC2:=hid (HC.out W2 (HB.out.trans (HW2.out.mono HB.out.size)))
    clear c0 c1 c2 c3 c4 c5 c6 c7 c8 c9 c10 y0 y1 y2 y3 d0 HC
    go_wp2_with fail
    refine HC2.out.mono ?_
    rintro e w3 hR
    rcases hR with ⟨hw,_,_⟩ | ⟨D',B',v,u,hw,rfl,hv,hu,b3⟩
    ·rw[HW.out] at hw;cases hw
    ·rw[HW.out] at hw
     cases hw
     have HU:=hid hu
     obtain⟨ou,qu,rfl,_⟩:=SlOf.uni hu
     obtain⟨ov,qv,rfl,_⟩:=SlOf.uni hv
     have BW3:=hid (HW2.out.trans (b3.mono HW2.out.size))
     have HZ:Hid (∀ W,Below w3.heap.size w3 W→wr.heap.size < W.heap.size∧W.cell? ⟨wr.heap.size,0,none⟩=some (.int .i64 l.op)∧W.cell? ⟨wr.heap.size,1,none⟩=some (.string l.a.rel)∧W.cell? ⟨wr.heap.size,2,none⟩=some (.slice p0 l.a.l.length q0)∧W.cell? ⟨wr.heap.size,3,none⟩=some (.int .i64 l.x.op)∧W.cell? ⟨wr.heap.size,4,none⟩=some (.string l.x.s)∧W.cell? ⟨wr.heap.size,5,none⟩=some (.int .i64 l.x.n)∧W.cell? ⟨wr.heap.size,6,none⟩=some (.slice p1 l.x.l.length q1)∧W.cell? ⟨wr.heap.size,7,none⟩=some (.int .i64 l.y.op)∧W.cell? ⟨wr.heap.size,8,none⟩=some (.string l.y.s)∧W.cell? ⟨wr.heap.size,9,none⟩=some (.int .i64 l.y.n)∧W.cell? ⟨wr.heap.size,10,none⟩=some (.slice p2 l.y.l.length q2)):=hid (fun W hb=>by
      have h1:=(b3.block _ (heap_lt QL.out)).trans QL.out
      have h2:=(hb.block _ (heap_lt h1)).trans h1
      exact⟨heap_lt h2,row_cells h2 0,row_cells h2 1,row_cells h2 2,row_cells h2 3,row_cells h2 4,row_cells h2 5,row_cells h2 6,row_cells h2 7,row_cells h2 8,row_cells h2 9,row_cells h2 10⟩)
     obtain⟨hlz,c0,c1,c2,c3,c4,c5,c6,c7,c8,c9,c10⟩:=HZ.out w3 (Below.refl _ _)
     have HD:=hid (HBx.out w3 BW3.out _ hu)
     clear hu hv b3 HC2 z0 z1 z2 z3
     go_wp2_with fail
     refine HD.out.mono ?_
     rintro e w4 ⟨rfl,b4⟩
     have B34:=hid b4
     have BW4:=hid (BW3.out.trans (b4.mono BW3.out.size))
     obtain⟨one,hone⟩:∃ x,binds6 l.x l.y bound=x:=⟨_,rfl⟩
     rw[hone]
     have HOne:=hid hone
     have HD2:=hid (HBy.out w4 BW4.out _ (SlOf.str HU.out b4 b4.size))
     clear c0 c1 c2 c3 c4 c5 c6 c7 c8 c9 c10 hlz hone HD
     obtain⟨hlz,c0,c1,c2,c3,c4,c5,c6,c7,c8,c9,c10⟩:=HZ.out w4 b4
     clear b4
     go_wp2_with fail
     refine HD2.out.mono ?_
     rintro e w5 ⟨rfl,b5⟩
     have BW5:=hid (HBr.out.trans ((BW4.out.trans (b5.mono BW4.out.size)).mono HBr.out.size))
     obtain⟨oth,hoth⟩:∃ x,binds6 l.y l.x bound=x:=⟨_,rfl⟩
     rw[hoth]
     have HOth:=hid hoth
     clear c0 c1 c2 c3 c4 c5 c6 c7 c8 c9 c10 hlz hoth HD2
     obtain⟨hlz,c0,c1,c2,c3,c4,c5,c6,c7,c8,c9,c10⟩:=HZ.out w5 (B34.out.trans (b5.mono B34.out.size))
     clear b5
     by_cases h7:l.op ≥ 7
     ·have HI:Hid (inv6 bound l=true):=hid (by unfold inv6;simp[show (7:Int)≤l.op by omega])
      go_wp2
      go_ret2
      exact⟨.inr ⟨HE.out,by rw[HTrue.out HI.out];rfl⟩,B1.out.trans (BW5.out.mono B1.out.size)⟩
     ·have n7:¬ (7:Int)≤l.op:=by omega
      by_cases h3:l.op=3
      ·have HInv2:Hid (inv6 bound l=((one && decide (5≤l.y.op)) || (oth && decide (5≤l.x.op)))):=hid (by unfold inv6;rw[HOne.out,HOth.out];simp[n7,h3])
       rw[h3] at c0
       clear h3 h7 n7
       have leafT:inv6 bound l=true→invZ r=true:=HTrue.out
       by_cases hy5:l.y.op ≥ 5
       all_goals
        by_cases hx5:l.x.op ≥ 5
        all_goals
         cases one
         all_goals
          cases oth
          all_goals
           have HLeaf:=HInv2.out
           simp only[Bool.true_and,Bool.false_and,Bool.or_false,Bool.false_or] at HLeaf
           have HY5:=hid hy5
           have HX5:=hid hx5
           have HLf:=hid HLeaf
           clear HLeaf leafT
           go_wp2
           first
            | (
              go_ret2
              exact⟨.inr ⟨HE.out,by rw[HTrue.out (by have h1:=HY5.out;have h2:=HX5.out;rw[HLf.out] <;> simp <;> omega)];rfl⟩,B1.out.trans (BW5.out.mono B1.out.size)⟩)
            | (
              go_roundw
              case rel=>exact⟨i+1,hlt,by go_num,hid (HNext.out (by have h1:=HY5.out;have h2:=HX5.out;rw[HLf.out] <;> simp <;> omega)),BW5⟩
              case measure=>simp[intOf];omega)
      ·have HI:Hid (inv6 bound l=false):=hid (by unfold inv6;simp[n7,h3])
       go_wp2
       go_roundw
       case rel=>exact⟨i+1,hlt,by go_num,hid (HNext.out HI.out),BW5⟩
       case measure=>simp[intOf];omega
   ·have hlt':¬ (i:Int) < (lo.length:Int):=by omega
    obtain rfl:i=lo.length:=by omega
    have HF:Hid (invZ r=false):=hid (by
     unfold invZ
     rw[List.any_eq_false]
     intro x hx
     obtain⟨j,hj⟩:=List.mem_iff_getElem?.1 hx
     have hjl:j < lo.length:=by
      rw[← HLo.out]
      unfold orderZ
      rw[List.length_map]
      exact (List.getElem?_eq_some_iff.1 hj).1
     rw[HA.out j x hjl hj]
     decide)
    go_wp2
    go_ret2
    exact⟨.inr ⟨HE.out,by rw[HF.out];rfl⟩,HB.out⟩
end Go.Proofs.YtfmldnbcjbflbaaGreatDoor
