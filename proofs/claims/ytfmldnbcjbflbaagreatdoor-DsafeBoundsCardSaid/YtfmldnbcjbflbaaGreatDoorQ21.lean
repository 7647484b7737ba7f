/- Yrv2@012, Yrv3@012 -/
import Derived.Test.YtfmldnbcjbflbaaGreatDoorQ18
set_option linter.unusedSimpArgs false
set_option linter.unusedVariables false
namespace Go.Proofs.YtfmldnbcjbflbaaGreatDoor
open Lib(hid)
open Go.RowKit
theorem withV_varsV (b:List Tm):withV [] (varsV b)=varsV b:=by
 have:=varsV_app [] b
 simpa[varsV,namesV] using this.symm
theorem varsV_node {t:Tm} (h:t.op≠1):varsV (subT t)=varsV (subTs t.l):=by
 rw[subT_eq,show t::subTs t.l=[t]++subTs t.l from rfl,varsV_app]
 have:varsV [t]=[]:=by
  have:=varsV_snoc [] t
  rw[List.nil_append,stepV_mem,if_neg h] at this
  exact this
 rw[this,withV_varsV]
theorem varsV_leaf {t:Tm} (h:t.op=1) (hl:t.l=[]):varsV (subT t)=[t.s]:=by
 rw[subT_eq,hl]
 have:=varsV_snoc [] t
 rw[List.nil_append,stepV_mem,if_pos h] at this
 rw[subTs,this]
 rfl
theorem subTs_prel (l:List Tm) (k:Nat):(subTs (l.take k)).length≤(subTs l).length:=by
 have:=subTs_app (l.take k) (l.drop k)
 rw[List.take_append_drop] at this
 rw[this,List.length_append]
 omega
theorem subTs_one {l:List Tm} {k:Nat} {t:Tm} (h:l[k]?=some t):subTs (l.take (k+1))=subTs (l.take k)++subT t:=by
 rw[subTs_take h,subT_eq]
theorem vars_sum {l:List Tm} {k:Nat} {t:Tm} (h:l[k]?=some t) (hn:(subTs l).length≤1000000):(varsV (subTs (l.take k))).length+(varsV (subT t)).length≤1000000:=by
 have h1:=varsV_len (subTs (l.take k))
 have h2:=varsV_len (subT t)
 have h3:=subTs_prel l (k+1)
 rw[subTs_one h,List.length_append] at h3
 omega
theorem vars_step {l:List Tm} {k:Nat} {t:Tm} (h:l[k]?=some t):varsV (subTs (l.take (k+1)))=withV (varsV (subTs (l.take k))) (varsV (subT t)):=by rw[subTs_one h,varsV_app]
theorem subT_part {t c:Tm} (h:c ∈ t.l):∀ u ∈ subT c,u ∈ subT t:=fun u hu=>mem_subT.2 (.inr (mem_subTs.2 ⟨c,h,hu⟩))
theorem subT_less {t c:Tm} (h:c ∈ t.l):(subT c).length≤(subT t).length:=by
 obtain⟨k,hk⟩:=List.mem_iff_getElem?.1 h
 have h3:=subTs_prel t.l (k+1)
 rw[subTs_one hk,List.length_append] at h3
 rw[subT_eq t,List.length_cons]
 omega
theorem str_row1 {W:World} {B:Nat} {s:ByteArray} {T:TypeId} (h:W.heap[B]?=some (.cells #[.string s] T (0,0))) (hs:s.size≤maxLen):SlOf W W.heap.size 1 StrC [s] (.slice (some ⟨B,0,none⟩) 1 1):=
 sl_cells (l:=[s]) (R:=StrC) [[.string s]] h rfl (fun cs h=>by rw[List.mem_singleton.1 h];rfl) (fun i x cs hx hc=>by
  match i,hx,hc with
  | 0,hx,hc=>cases hx;cases hc;exact⟨rfl,hs⟩) (by show 1≤maxLen;decide)
set_option maxRecDepth 100000 in
set_option maxHeartbeats 4000000 in
theorem termVars_c:∀ (n:Nat) (t:Tm) (w:World) (cs:List Value),SizeOf.sizeOf t≤n→TmC w w.heap.size t cs→(∀ u ∈ subT t,u.op=1→u.l=[])→(subT t).length≤1000000 →
  Calls Tryz.prog 80 #[.agg cs.toArray] w (VarsR (varsV (subT t)) w.heap.size w):=by
 intro n
 induction n with
 | zero=>
  intro t w cs hs
  have:0 < SizeOf.sizeOf t:=by obtain⟨o,s,n,l⟩:=t;simp only[Tm.mk.sizeOf_spec];omega
  omega
 | succ n ih=>
  intro t w cs hs hc hv hn
  have IH:=hid (fun (x:Tm) (hx:x ∈ t.l) (W:World) (cs:List Value) (hc:TmC W W.heap.size x cs)=>ih x W cs (by have:=size_part hx;omega) hc (fun u hu=>hv u (subT_part hx u hu)) (Nat.le_trans (subT_less hx) hn))
  have HV1:t.op=1→varsV (subT t)=[t.s]:=fun h=>varsV_leaf h (hv t mem_self h)
  have HV2:t.op≠1→varsV (subT t)=varsV (subTs t.l):=fun h=>varsV_node h
  have hn':(subTs t.l).length≤1000000:=by rw[subT_eq,List.length_cons] at hn;omega
  obtain⟨V,hV⟩:∃ V,varsV (subT t)=V:=⟨_,rfl⟩
  rw[hV] at HV1 HV2 ⊢
  clear ih hv hn hs hV
  obtain⟨op,s,nn,l⟩:=t
  obtain⟨p1,q1,rfl,_,hzs,_,t1⟩:=hc.look
  simp only[Tm.op_mk,Tm.s_mk,Tm.n_mk,Tm.l_mk] at hzs t1 HV1 HV2 IH hn' ⊢
  have HB0:Hid (∀ (x:Obj),Below w.heap.size w (w.alloc x)):=hid fun x=>(Below.refl _ _).alloc (Nat.le_refl _) _
  obtain⟨o1,cap1,e1,hc1,hm1,S1⟩:=SlOf.open t1
  cases e1
  have HN:=hid hn'
  clear hc t1 hn'
  by_cases h1:op=1
  ·have Hz:=hid (HV1 h1)
   have Hs:=hid hzs
   clear HV1 HV2 IH S1
   subst h1
   go_enter Tryz.func80,Tryz.ntmps80
   go_wp2
   go_ret
   refine⟨_,rfl,?_,?_⟩
   ·rw[Hz.out]
    refine str_row1 (T:=9) ?_ Hs.out
    have:=World.alloc_heap_new (w.alloc (.cells #[.int .i64 1,.string s,.int .i64 nn,.slice p1 l.length q1] 51)) (.cells #[.string s] 9)
    simpa using this
   ·exact (HB0.out _).alloc (by simp) _
  ·have Hz:=hid (HV2 h1)
   have hb1:(op == 1)=false:=by simpa using h1
   clear HV1 HV2
   go_enter Tryz.func80,Tryz.ntmps80
   go_wp2
   go_loopw [3,4] (fun lv i wr=>∃ k:Nat,k≤l.length∧i=.int .i64 k∧SlOf wr wr.heap.size 1 StrC (varsV (subTs (l.take k))) lv∧Below (w.heap.size+1) (w.alloc (.cells #[.int .i64 op,.string s,.int .i64 nn,.slice p1 l.length q1] 51)) wr) (fun _ i _=>l.length - (intOf i).toNat)
   case atStart=>exact⟨0,Nat.zero_le _,rfl,.inl ⟨rfl,by simp[subTs,varsV,namesV]⟩,Below.refl _ _⟩
   case round=>
    obtain⟨k,hk,rfl,hsl,hB2⟩:=hrel
    have hB:Below w.heap.size w wr:=(HB0.out _).trans (hB2.mono (by omega))
    have HSl:=hid hsl
    have hBs:=hB2.size
    simp only[World.size_alloc] at hBs
    have hz0:w.heap.size < wr.heap.size:=by omega
    have x0:wr.cell? ⟨w.heap.size,3,none⟩=some (.slice p1 l.length q1):=(hB2.cell (p:=⟨w.heap.size,3,none⟩) (by show w.heap.size < _;omega)).trans (by go_simp)
    obtain⟨ov,kv,rfl,_⟩:=SlOf.uni hsl
    clear hsl
    by_cases hlt:k < l.length
    ·have hlt3:(k:Int) < (l.length:Int):=by omega
     obtain⟨t,ht⟩:∃ t,l[k]?=some t:=⟨l[k],List.getElem?_eq_getElem hlt⟩
     obtain⟨a,p3,q3,rfl,ha,Hc,c0,c1,c2,c3⟩:=tm_at S1 hB ht
     have hal:(a.add (k * 4)).block < wr.heap.size:=by rw[addBlock];omega
     have HC:=hid (IH.out t (List.mem_of_getElem? ht) wr _ Hc.out)
     have Hst:=hid (vars_step ht)
     have Hsum:=hid (vars_sum ht HN.out)
     have HB:=hid hB2
     clear ht hB2 hB
     go_wp2_with fail
     refine HC.out.mono ?_
     rintro e3 w3 ⟨v3,rfl,hS3,b3⟩
     have HW:=hid (with_c _ _ _ _ w3 (SlOf.str HSl.out b3 b3.size) hS3 Hsum.out)
     have HB3:=hid (HB.out.trans (b3.mono (by have:=HB.out.size;simp at this;omega)))
     obtain⟨o3,k3,rfl,_⟩:=SlOf.uni hS3
     clear hS3 b3 HC
     go_wp2_with fail
     refine HW.out.mono ?_
     rintro e4 w4 ⟨v4,rfl,hS4,b4⟩
     have HS4:=hid hS4
     have HB4:=hid (HB3.out.trans (b4.mono (by have:=HB3.out.size;simp at this;omega)))
     clear hS4 b4 HW
     go_wp2
     go_roundw
     case rel=>
      exact⟨k+1,hlt,by go_num,by rw[Hst.out];exact HS4.out,HB4.out⟩
     case measure=>simp[intOf];omega
    ·have hlt3:¬ (k:Int) < (l.length:Int):=by omega
     obtain rfl:k=l.length:=by omega
     have HB:=hid hB
     have HS2:=hid HSl.out
     rw[List.take_of_length_le (Nat.le_refl _)] at HS2
     clear hB hB2
     go_wp2
     go_ret
     refine⟨_,rfl,?_,HB.out⟩
     rw[Hz.out]
     exact HS2.out
def varsM (a:Am):List ByteArray:=varsV (subTs a.l)
set_option maxRecDepth 100000 in
set_option maxHeartbeats 4000000 in
theorem atomVars_c (t:Am) (w:World) (cs:List Value) (hc:AmC w w.heap.size t cs) (hv:∀ u ∈ subTs t.l,u.op=1→u.l=[]) (hn:(subTs t.l).length≤1000000) :
  Calls Tryz.prog 43 #[.agg cs.toArray] w (VarsR (varsM t) w.heap.size w):=by
 have IH:=hid (fun (x:Tm) (hx:x ∈ t.l) (W:World) (cs:List Value) (hc:TmC W W.heap.size x cs)=>termVars_c _ x W cs (Nat.le_refl _) hc (fun u hu=>hv u (mem_subTs.2 ⟨x,hx,hu⟩)) (by
  obtain⟨k,hk⟩:=List.mem_iff_getElem?.1 hx
  have h3:=subTs_prel t.l (k+1)
  rw[subTs_one hk,List.length_append] at h3
  omega))
 obtain⟨rel,l⟩:=t
 obtain⟨v0,rfl,hzr,t1⟩:=hc
 simp only at IH hn t1
 have HB0:Hid (∀ (x:Obj),Below w.heap.size w (w.alloc x)):=hid fun x=>(Below.refl _ _).alloc (Nat.le_refl _) _
 obtain⟨p1,q1,rfl,hc1,hm1,S1⟩:=SlOf.open t1
 have HN:=hid hn
 clear t1 hn hv
 unfold varsM
 go_enter Tryz.func43,Tryz.ntmps43
 go_wp2
 go_loopw [3,4] (fun lv i wr=>∃ k:Nat,k≤l.length∧i=.int .i64 k∧SlOf wr wr.heap.size 1 StrC (varsV (subTs (l.take k))) lv∧Below (w.heap.size+1) (w.alloc (.cells #[.string rel,.slice p1 l.length q1] 34)) wr) (fun _ i _=>l.length - (intOf i).toNat)
 case atStart=>exact⟨0,Nat.zero_le _,rfl,.inl ⟨rfl,by simp[subTs,varsV,namesV]⟩,Below.refl _ _⟩
 case round=>
  obtain⟨k,hk,rfl,hsl,hB2⟩:=hrel
  have hB:Below w.heap.size w wr:=(HB0.out _).trans (hB2.mono (by omega))
  have HSl:=hid hsl
  have hBs:=hB2.size
  simp only[World.size_alloc] at hBs
  have hz0:w.heap.size < wr.heap.size:=by omega
  have x0:wr.cell? ⟨w.heap.size,1,none⟩=some (.slice p1 l.length q1):=(hB2.cell (p:=⟨w.heap.size,1,none⟩) (by show w.heap.size < _;omega)).trans (by go_simp)
  obtain⟨ov,kv,rfl,_⟩:=SlOf.uni hsl
  clear hsl
  by_cases hlt:k < l.length
  ·have hlt3:(k:Int) < (l.length:Int):=by omega
   obtain⟨t,ht⟩:∃ t,l[k]?=some t:=⟨l[k],List.getElem?_eq_getElem hlt⟩
   obtain⟨a,p3,q3,rfl,ha,Hc,c0,c1,c2,c3⟩:=tm_at S1 hB ht
   have hal:(a.add (k * 4)).block < wr.heap.size:=by rw[addBlock];omega
   have HC:=hid (IH.out t (List.mem_of_getElem? ht) wr _ Hc.out)
   have Hst:=hid (vars_step ht)
   have Hsum:=hid (vars_sum ht HN.out)
   have HB:=hid hB2
   clear ht hB2 hB
   go_wp2_with fail
   refine HC.out.mono ?_
   rintro e3 w3 ⟨v3,rfl,hS3,b3⟩
   have HW:=hid (with_c _ _ _ _ w3 (SlOf.str HSl.out b3 b3.size) hS3 Hsum.out)
   have HB3:=hid (HB.out.trans (b3.mono (by have:=HB.out.size;simp at this;omega)))
   obtain⟨o3,k3,rfl,_⟩:=SlOf.uni hS3
   clear hS3 b3 HC
   go_wp2_with fail
   refine HW.out.mono ?_
   rintro e4 w4 ⟨v4,rfl,hS4,b4⟩
   have HS4:=hid hS4
   have HB4:=hid (HB3.out.trans (b4.mono (by have:=HB3.out.size;simp at this;omega)))
   clear hS4 b4 HW
   go_wp2
   go_roundw
   case rel=>exact⟨k+1,hlt,by go_num,by rw[Hst.out];exact HS4.out,HB4.out⟩
   case measure=>simp[intOf];omega
  ·have hlt3:¬ (k:Int) < (l.length:Int):=by omega
   obtain rfl:k=l.length:=by omega
   have HB:=hid hB
   have HS2:=hid HSl.out
   rw[List.take_of_length_le (Nat.le_refl _)] at HS2
   clear hB hB2
   go_wp2
   go_ret
   exact⟨_,rfl,HS2.out,HB.out⟩
def slotsLV:List (Option Tmp):=[some 4,some 5,some 6,some 7,some 8,some 9,some 10,some 3]
def factsLV (B:Nat) (cx cy:Array Value) (X Y:List ByteArray):List (Value→World→Prop):=
 [fun v _=>v=.pointer (some ⟨B,3,none⟩),fun v _=>v=.agg cx,fun v w=>SlOf w w.heap.size 1 StrC X v,fun v _=>v=.pointer (some ⟨B,7,none⟩),fun v _=>v=.agg cy,fun v w=>SlOf w w.heap.size 1 StrC Y v,
  fun v w=>SlOf w w.heap.size 1 StrC (withV X Y) v,fun v w=>SlOf w w.heap.size 1 StrC (withV X Y) v]
theorem factsLV_mono (B:Nat) (cx cy:Array Value) (X Y:List ByteArray):∀ p ∈ factsLV B cx cy X Y,∀ v w w',p v w→Below w.heap.size w w'→p v w':=by
 intro p hp v w w' h hb
 unfold factsLV at hp
 simp only[List.mem_cons,List.not_mem_nil,or_false] at hp
 rcases hp with rfl | rfl | rfl | rfl | rfl | rfl | rfl | rfl
 ·exact h
 ·exact h
 ·exact SlOf.str h hb hb.size
 ·exact h
 ·exact h
 ·exact SlOf.str h hb hb.size
 ·exact SlOf.str h hb hb.size
 ·exact SlOf.str h hb hb.size
theorem litTs_len (t:Lt):(litTs t).length=(subT t.x).length+(subT t.y).length+(subTs t.a.l).length:=by
 unfold litTs
 rw[List.length_append,subTs,subTs,subTs,List.append_nil,List.length_append]
theorem litTs_mem {t:Lt} {u:Tm}:u ∈ litTs t ↔ u ∈ subT t.x∨u ∈ subT t.y∨u ∈ subTs t.a.l:=by
 unfold litTs
 rw[List.mem_append,subTs,subTs,subTs,List.append_nil,List.mem_append,or_assoc]
theorem litTs_vars (t:Lt):varsV (litTs t)=withV (withV (varsV (subT t.x)) (varsV (subT t.y))) (varsM t.a):=by
 unfold litTs varsM
 rw[varsV_app,subTs,subTs,subTs,List.append_nil,varsV_app]
set_option maxRecDepth 100000 in
set_option maxHeartbeats 4000000 in
theorem litVars_c (t:Lt) (w:World) (cs:List Value) (hc:LtC w w.heap.size t cs) (hv:∀ u ∈ litTs t,u.op=1→u.l=[]) (hn:(litTs t).length≤1000000) :
  Calls Tryz.prog 82 #[.agg cs.toArray] w (VarsR (varsV (litTs t)) w.heap.size w):=by
 have hlen:=litTs_len t
 have hX:∀ (W:World) (cs:List Value),TmC W W.heap.size t.x cs→Calls Tryz.prog 80 #[.agg cs.toArray] W (VarsR (varsV (subT t.x)) W.heap.size W):=fun W cs hc=>termVars_c _ t.x W cs (Nat.le_refl _) hc (fun u hu=>hv u (litTs_mem.2 (.inl hu))) (by omega)
 have hY:∀ (W:World) (cs:List Value),TmC W W.heap.size t.y cs→Calls Tryz.prog 80 #[.agg cs.toArray] W (VarsR (varsV (subT t.y)) W.heap.size W):=fun W cs hc=>termVars_c _ t.y W cs (Nat.le_refl _) hc (fun u hu=>hv u (litTs_mem.2 (.inr (.inl hu)))) (by omega)
 have hA:∀ (W:World) (cs:List Value),AmC W W.heap.size t.a cs→Calls Tryz.prog 43 #[.agg cs.toArray] W (VarsR (varsM t.a) W.heap.size W):=fun W cs hc=>atomVars_c t.a W cs hc (fun u hu=>hv u (litTs_mem.2 (.inr (.inr hu)))) (by omega)
 have l1:=varsV_len (subT t.x)
 have l2:=varsV_len (subT t.y)
 have l3:=varsV_len (subTs t.a.l)
 have l4:=withV_len (varsV (subT t.x)) (varsV (subT t.y))
 have HW1:=hid (fun (W:World) (v u:Value) (h1:SlOf W W.heap.size 1 StrC (varsV (subT t.x)) v) (h2:SlOf W W.heap.size 1 StrC (varsV (subT t.y)) u)=>with_c _ _ v u W h1 h2 (by omega))
 have HW2:=hid (fun (W:World) (v u:Value) (h1:SlOf W W.heap.size 1 StrC (withV (varsV (subT t.x)) (varsV (subT t.y))) v) (h2:SlOf W W.heap.size 1 StrC (varsM t.a) u)=>with_c _ _ v u W h1 h2 (by unfold varsM;omega))
 have HX:=hid hX
 have HY:=hid hY
 have HA:=hid hA
 rw[litTs_vars]
 obtain⟨X,hXe⟩:∃ X,varsV (subT t.x)=X:=⟨_,rfl⟩
 obtain⟨Y,hYe⟩:∃ Y,varsV (subT t.y)=Y:=⟨_,rfl⟩
 obtain⟨Z,hZe⟩:∃ Z,varsM t.a=Z:=⟨_,rfl⟩
 rw[hXe] at HX HW1 HW2 ⊢
 rw[hYe] at HY HW1 HW2 ⊢
 rw[hZe] at HA HW2 ⊢
 clear hX hY hA l1 l2 l3 l4 hXe hYe hZe hlen hv hn
 obtain⟨ca,cx,cy,rfl,_,ha,hx,hy⟩:=hc
 obtain⟨v0,rfl,_,hal⟩:=ha
 obtain⟨o0,k0,rfl,_⟩:=SlOf.uni hal
 obtain⟨o1,k1,rfl,_⟩:=hx.look
 obtain⟨o2,k2,rfl,_⟩:=hy.look
 have Hx:=hid hx
 have Hy:=hid hy
 have Ha:Hid (AmC w w.heap.size t.a [.string t.a.rel,.slice o0 t.a.l.length k0]):=hid ⟨_,rfl,by assumption,hal⟩
 clear hx hy hal
 simp only[List.cons_append,List.nil_append]
 go_enter Tryz.func82,Tryz.ntmps82
 go_wp2_with fail
 obtain⟨C,hC⟩:∃ C:Array Value,#[.int .i64 t.op,.string t.a.rel,.slice o0 t.a.l.length k0,.int .i64 t.x.op,.string t.x.s,.int .i64 t.x.n,.slice o1 t.x.l.length k1,.int .i64 t.y.op,.string t.y.s,.int .i64 t.y.n,.slice o2 t.y.l.length k2]=C:=⟨_,rfl⟩
 have r1:(w.alloc (.cells #[.int .i64 t.op,.string t.a.rel,.slice o0 t.a.l.length k0,.int .i64 t.x.op,.string t.x.s,.int .i64 t.x.n,.slice o1 t.x.l.length k1,.int .i64 t.y.op,.string t.y.s,.int .i64 t.y.n,.slice o2 t.y.l.length k2] 56)).heap[w.heap.size]?=some (.cells #[.int .i64 t.op,.string t.a.rel,.slice o0 t.a.l.length k0,.int .i64 t.x.op,.string t.x.s,.int .i64 t.x.n,.slice o1 t.x.l.length k1,.int .i64 t.y.op,.string t.y.s,.int .i64 t.y.n,.slice o2 t.y.l.length k2] 56 (0,0)):=World.alloc_heap_new w _
 have b1:Below w.heap.size w (w.alloc (.cells #[.int .i64 t.op,.string t.a.rel,.slice o0 t.a.l.length k0,.int .i64 t.x.op,.string t.x.s,.int .i64 t.x.n,.slice o1 t.x.l.length k1,.int .i64 t.y.op,.string t.y.s,.int .i64 t.y.n,.slice o2 t.y.l.length k2] 56)):=(Below.refl _ _).alloc (Nat.le_refl _) _
 clear hC C
 generalize w.alloc (.cells #[.int .i64 t.op,.string t.a.rel,.slice o0 t.a.l.length k0,.int .i64 t.x.op,.string t.x.s,.int .i64 t.x.n,.slice o1 t.x.l.length k1,.int .i64 t.y.op,.string t.y.s,.int .i64 t.y.n,.slice o2 t.y.l.length k2] 56)=W1 at *
 have R1:=hid r1
 have B1:=hid b1
 clear r1 b1
 refine wp_region_any (by kernel_rfl) ?_
 (try (change wpAny _ _ _ _ _ _ _ (World.drew _)))
 refine wpAny_grow slotsLV _ _ (factsLV w.heap.size #[.int .i64 t.x.op,.string t.x.s,.int .i64 t.x.n,.slice o1 t.x.l.length k1] #[.int .i64 t.y.op,.string t.y.s,.int .i64 t.y.n,.slice o2 t.y.l.length k2] X Y) (by kernel_rfl) (by kernel_rfl) (by kernel_rfl) (by kernel_rfl) (by kernel_rfl) (factsLV_mono _ _ _ _ _) ⟨?s0,?s1,?s2,?s3,?s4,?s5,?s6,?s7,trivial⟩ ?fin
 case s0=>
  intro A w' K hb hfar hd hK
  have e1:A.tmps[1]?.getD undef=.pointer (some ⟨w.heap.size,0,none⟩):=hfar 1 (by decide)
  unfold Oper.wp
  simp[execOp,e1,go_sem,Result.andThen]
  exact hK _ _ (Below.refl _ _) (factG_mk rfl rfl)
 case s3=>
  intro A w' K hb hfar hd hK
  have e1:A.tmps[1]?.getD undef=.pointer (some ⟨w.heap.size,0,none⟩):=hfar 1 (by decide)
  unfold Oper.wp
  simp[execOp,e1,go_sem,Result.andThen]
  exact hK _ _ (Below.refl _ _) (factG_mk rfl rfl)
 case s1=>
  intro A w' K hb hfar hd hK
  have e1:A.tmps[4]?.getD undef=.pointer (some ⟨w.heap.size,3,none⟩):=hd 0 4 rfl (by kernel_rfl) _ rfl
  have q:=(hb.block _ (heap_lt R1.out)).trans R1.out
  have c0:w'.cell? ⟨w.heap.size,3,none⟩=some (.int .i64 t.x.op):=row_cells q 3
  have c1:w'.cell? ⟨w.heap.size,4,none⟩=some (.string t.x.s):=row_cells q 4
  have c2:w'.cell? ⟨w.heap.size,5,none⟩=some (.int .i64 t.x.n):=row_cells q 5
  have c3:w'.cell? ⟨w.heap.size,6,none⟩=some (.slice o1 t.x.l.length k1):=row_cells q 6
  unfold Oper.wp
  simp[execOp,e1,c0,c1,c2,c3,go_sem,Result.andThen]
  exact hK _ _ (Below.refl _ _) (factG_mk rfl rfl)
 case s4=>
  intro A w' K hb hfar hd hK
  have e1:A.tmps[7]?.getD undef=.pointer (some ⟨w.heap.size,7,none⟩):=hd 3 7 rfl (by kernel_rfl) _ rfl
  have q:=(hb.block _ (heap_lt R1.out)).trans R1.out
  have c0:w'.cell? ⟨w.heap.size,7,none⟩=some (.int .i64 t.y.op):=row_cells q 7
  have c1:w'.cell? ⟨w.heap.size,8,none⟩=some (.string t.y.s):=row_cells q 8
  have c2:w'.cell? ⟨w.heap.size,9,none⟩=some (.int .i64 t.y.n):=row_cells q 9
  have c3:w'.cell? ⟨w.heap.size,10,none⟩=some (.slice o2 t.y.l.length k2):=row_cells q 10
  unfold Oper.wp
  simp[execOp,e1,c0,c1,c2,c3,go_sem,Result.andThen]
  exact hK _ _ (Below.refl _ _) (factG_mk rfl rfl)
 case s2=>
  intro A w' K hb hfar hd hK
  have e1:A.tmps[5]?.getD undef=.agg #[.int .i64 t.x.op,.string t.x.s,.int .i64 t.x.n,.slice o1 t.x.l.length k1]:=hd 1 5 rfl (by kernel_rfl) _ rfl
  have hb':=B1.out.trans ((drewB hb).mono B1.out.size)
  have hT:=HX.out w' _ ((Hx.out.under hb').more hb'.size)
  unfold Oper.wp
  simp[execOp,e1,go_sem,Result.andThen]
  refine hT.mono ?_
  rintro e3 w3 ⟨u,rfl,h2,b3⟩
  exact hK _ _ b3 (factG_mk rfl h2)
 case s5=>
  intro A w' K hb hfar hd hK
  have e1:A.tmps[8]?.getD undef=.agg #[.int .i64 t.y.op,.string t.y.s,.int .i64 t.y.n,.slice o2 t.y.l.length k2]:=hd 4 8 rfl (by kernel_rfl) _ rfl
  have hb':=B1.out.trans ((drewB hb).mono B1.out.size)
  have hT:=HY.out w' _ ((Hy.out.under hb').more hb'.size)
  unfold Oper.wp
  simp[execOp,e1,go_sem,Result.andThen]
  refine hT.mono ?_
  rintro e3 w3 ⟨u,rfl,h2,b3⟩
  exact hK _ _ b3 (factG_mk rfl h2)
 case s6=>
  intro A w' K hb hfar hd hK
  have e1:SlOf w' w'.heap.size 1 StrC X (A.tmps[6]?.getD undef):=hd 2 6 rfl (by kernel_rfl) _ rfl
  have e2:SlOf w' w'.heap.size 1 StrC Y (A.tmps[9]?.getD undef):=hd 5 9 rfl (by kernel_rfl) _ rfl
  have hT:=HW1.out w' _ _ e1 e2
  unfold Oper.wp
  simp[execOp,go_sem,Result.andThen]
  refine hT.mono ?_
  rintro e3 w3 ⟨u,rfl,h2,b3⟩
  exact hK _ _ b3 (factG_mk rfl h2)
 case s7=>
  intro A w' K hb hfar hd hK
  have e1:SlOf w' w'.heap.size 1 StrC (withV X Y) (A.tmps[10]?.getD undef):=hd 6 10 rfl (by kernel_rfl) _ rfl
  unfold Oper.wp
  simp[execOp,go_sem,Result.andThen]
  exact hK _ _ (Below.refl _ _) (factG_mk rfl e1)
 case fin=>
  intro val w4 hF hb
  have h7:SlOf w4 w4.heap.size 1 StrC (withV X Y) (val 7):=hF 7 3 rfl _ rfl
  have q:=(hb.block _ (heap_lt R1.out)).trans R1.out
  have c0:w4.cell? ⟨w.heap.size,1,none⟩=some (.string t.a.rel):=row_cells q 1
  have c1:w4.cell? ⟨w.heap.size,2,none⟩=some (.slice o0 t.a.l.length k0):=row_cells q 2
  have hb':=B1.out.trans ((drewB hb).mono B1.out.size)
  have HT:=hid (HA.out w4 _ ((Ha.out.below hb').more hb'.size))
  have H7:=hid h7
  have B4:=hid hb'
  have hz:w.heap.size < w4.heap.size:=heap_lt q
  obtain⟨o7,k7,e7,_⟩:=SlOf.uni h7
  simp only[slotsLV,putsA,Nat.zero_add,Nat.reduceAdd]
  rw[e7] at H7
  simp only[e7]
  clear hF hb q hb' h7 e7
  go_simp
  go_wp2_with fail
  refine HT.out.mono ?_
  rintro e5 w5 ⟨v5,rfl,hS5,b5⟩
  have HW:=hid (HW2.out w5 _ _ (SlOf.str H7.out b5 b5.size) hS5)
  have B5:=hid (B4.out.trans (b5.mono B4.out.size))
  obtain⟨o5,k5,rfl,_⟩:=SlOf.uni hS5
  clear hS5 b5 HT c0 c1
  go_wp2_with fail
  refine HW.out.mono ?_
  rintro e6 w6 ⟨v6,rfl,hS6,b6⟩
  have HS6:=hid hS6
  have B6:=hid (B5.out.trans (b6.mono B5.out.size))
  clear hS6 b6 HW
  go_wp2
  go_ret
  exact⟨_,rfl,HS6.out,B6.out⟩
end Go.Proofs.YtfmldnbcjbflbaaGreatDoor
