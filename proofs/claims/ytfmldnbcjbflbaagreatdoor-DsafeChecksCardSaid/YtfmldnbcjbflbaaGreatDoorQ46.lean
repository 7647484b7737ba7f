/- Yrt4@2, Yrt5@2, Yrt6@2 -/
import Derived.Test.YtfmldnbcjbflbaaGreatDoorQ24
set_option linter.unusedSimpArgs false
set_option linter.unusedVariables false
namespace Go.Proofs.YtfmldnbcjbflbaaGreatDoor
open Lib(hid)
open Go.RowKit
structure PairJ (J:ByteArray→Int→Prop) (x y:Tm):Prop where
 lc:x.op=1→y.op≠1→tyC y≠0→J x.s (tyC y)
 lv:x.op=1→y.op=1→∀ k,J y.s k→J x.s k
theorem ty_in {J:ByteArray→Int→Prop} {vs:List ByteArray} {ts:List Int} (h12:∀ s k,J s k→k=1∨k=2) (hS:SndT J vs ts) (hl:ts.length=vs.length) (t:Tm):tyE vs ts t=0∨tyE vs ts t=1∨tyE vs ts t=2:=by
 unfold tyE
 split
 ·by_cases h:typedV vs ts t.s=0
  ·exact .inl h
  ·exact .inr (h12 _ _ (hS.typed hl h))
 ·split
  ·exact .inr (.inr rfl)
  ·split
   ·exact .inl rfl
   ·exact .inr (.inl rfl)
theorem tyE_C {vs:List ByteArray} {ts:List Int} {t:Tm} (hr:rightT 20 t=true) (h1:t.op≠1):tyE vs ts t=tyC t:=by
 rcases rightT_cases hr with ⟨h2,_⟩ | ⟨_,_,ho⟩
 ·have:=twoB_op h2
  unfold tyE tyC
  rw[if_neg h1,if_neg (by omega),if_neg (by omega),if_pos (by omega)]
 ·unfold tyE tyC
  rw[if_neg h1]
  rcases ho with h | h | h | h <;> rw[h] <;> first | (exact absurd h h1) | decide
theorem pair_just {J:ByteArray→Int→Prop} {vs:List ByteArray} {ts:List Int} {x y:Tm} (hS:SndT J vs ts) (hl:ts.length=vs.length) (hy:rightT 20 y=true) (hJ:PairJ J x y) (h1:x.op=1) {k:Int} (hk:k≠0) (h:k=tyE vs ts x∨k=tyE vs ts y):J x.s k:=by
 rcases h with h | h
 ·rw[tyE_var h1] at h
  rw[h]
  exact hS.typed hl (by rw[← h];exact hk)
 ·by_cases hv:y.op=1
  ·rw[tyE_var hv] at h
   refine hJ.lv h1 hv k ?_
   rw[h]
   exact hS.typed hl (by rw[← h];exact hk)
  ·rw[tyE_C hy hv] at h
   rw[h]
   exact hJ.lc h1 hv (by rw[← h];exact hk)
theorem right_op {l:Lt} (h:rightL l=true):l.op=1∨l.op=2∨3≤l.op:=by
 unfold rightL at h
 by_cases h1:l.op=1∨l.op=2
 ·rcases h1 with h1 | h1
  ·exact .inl h1
  ·exact .inr (.inl h1)
 ·rw[if_neg h1] at h
  by_cases h3:3≤l.op
  ·exact .inr (.inr h3)
  ·rw[if_neg (by omega),if_neg (by omega),if_neg (by omega)] at h
   cases h
def LitN (ds:List De) (vs:List ByteArray) (t:Lt) (ts:List Int):Prop:=
 if duoB t=true then nearP vs ts (t.x,t.y)∧(∀ u ∈ subTs t.x.l,knP vs ts u 1)∧(∀ u ∈ subTs t.y.l,knP vs ts u 1)
 else AllF vs (plc ds t.a) ts∧(aggB t=true→Full (knP vs ts) t.x 1∧Full (knP vs ts) t.y 1)
theorem near_of {vs:List ByteArray} {ts:List Int} {x y:Tm} {k:Int} (hk:tyE vs ts x≠0∨tyE vs ts y≠0→k≠0) (h1:Full (knP vs ts) x k) (h2:Full (knP vs ts) y k):nearP vs ts (x,y):=fun h=>
 ⟨fun hx=>(h1.1 hx).resolve_left (hk h),fun hy=>(h2.1 hy).resolve_left (hk h)⟩
set_option maxRecDepth 100000 in
set_option maxHeartbeats 8000000 in
theorem rlearnDuo_c (J:ByteArray→Int→Prop) (h12:∀ s k,J s k→k=1∨k=2) (vs:List ByteArray) (vv:Value) (B g:Nat) (ds:List De) (v:Value) (t:Lt) (ts:List Int) (w:World) (cs:List Value) (hc:LtC w B t cs) (hT:TyS B g w vs vv ts) (hS:SndT J vs ts)
  (hr:rightL t=true) (hdu:duoB t=true) (hv:∀ u ∈ litTs t,u.op=1→u.s ∈ vs∧u.l=[]) (hJ1:PairJ J t.x t.y) (hJ2:PairJ J t.y t.x) (hJp:∀ u,u ∈ subTs t.x.l∨u ∈ subTs t.y.l→u.op=1→J u.s 1) :
  Calls Tryz.prog 66 #[v,.agg cs.toArray,vv,.slice (some ⟨g,0,none⟩) ts.length ts.length] w (LrnR J vs (LitN ds vs t) ts B g vv w):=by
 obtain⟨_,hx,hy⟩:=right_duo hr hdu
 have hop:=duo_op hdu
 obtain⟨ca,cx,cy,rfl,_,ha,hcx,hcy⟩:=hc
 obtain⟨v0,rfl,_,hal⟩:=ha
 obtain⟨o0,k0,rfl,_⟩:=SlOf.uni hal
 obtain⟨o1,k1,rfl,_⟩:=hcx.look
 obtain⟨o2,k2,rfl,_⟩:=hcy.look
 have hvx:∀ u ∈ subT t.x,u.op=1→u.s ∈ vs∧u.l=[]:=fun u hu=>hv u (litTs_mem.2 (.inl hu))
 have hvy:∀ u ∈ subT t.y,u.op=1→u.s ∈ vs∧u.l=[]:=fun u hu=>hv u (litTs_mem.2 (.inr (.inl hu)))
 have hb:=hT.base
 have HTX:=hid (fun (W:World) (h:Below w.heap.size w W)=>rtypeOf_c t.x W _ B g vs vv ts (hcx.under (h.mono hb)) (hT.kept h) (fun e=>(hvx _ mem_self e).1))
 have HTY:=hid (fun (W:World) (h:Below w.heap.size w W)=>rtypeOf_c t.y W _ B g vs vv ts (hcy.under (h.mono hb)) (hT.kept h) (fun e=>(hvy _ mem_self e).1))
 obtain⟨a,ha⟩:∃ a,tyE vs ts t.x=a:=⟨_,rfl⟩
 obtain⟨b,hbb⟩:∃ b,tyE vs ts t.y=b:=⟨_,rfl⟩
 have ta:=ty_in h12 hS hT.len t.x
 have tb:=ty_in h12 hS hT.len t.y
 rw[ha] at HTX ta
 rw[hbb] at HTY tb
 obtain⟨k,hk⟩:∃ k,max a b=k:=⟨_,rfl⟩
 have hk1:k=a∨k=b:=by omega
 have hk2:a≠0∨b≠0→k≠0:=by omega
 have HLX:=hid (fun (W:World) (h:Below w.heap.size w W)=>rlearn_c J vs vv B g _ t.x k ts W _ (Nat.le_refl _) (hcx.under (h.mono hb)) (hT.kept h) hvx (fun h1 hne=>pair_just hS hT.len hy hJ1 h1 hne (by rw[ha,hbb];exact hk1)) (fun u hu=>hJp u (.inl hu)))
 have HLY:=hid (fun (W:World) (ts':List Int) (h:Below B w W) (hT':TyS B g W vs vv ts')=>rlearn_c J vs vv B g _ t.y k ts' W _ (Nat.le_refl _) (hcy.under h) hT' hvy (fun h1 hne=>pair_just hS hT.len hx hJ2 h1 hne (by rw[ha,hbb];exact hk1.symm)) (fun u hu=>hJp u (.inr hu)))
 have HN:Hid (∀ T:List Int,T=ts→Full (knP vs T) t.x k→Full (knP vs T) t.y k→LitN ds vs t T):=hid fun T hT h1 h2=>by
  subst hT
  unfold LitN
  rw[if_pos hdu]
  exact⟨near_of (by rw[ha,hbb];exact hk2) h1 h2,h1.2,h2.2⟩
 have HT:=hid hT
 have hrow:=hT.row
 have HB0:Hid (∀ (x:Obj),Below w.heap.size w (w.alloc x)):=hid fun x=>(Below.refl _ _).alloc (Nat.le_refl _) _
 obtain⟨ov,kv,rfl,_⟩:=SlOf.uni HT.out.vars
 have hop1:=hop.1
 have hop2:=hop.2
 clear hT hS hcx hcy hal hv hvx hvy hJ1 hJ2 hJp hx hy hr ha hbb hdu hk1 hk2 h12 hop
 simp only[List.cons_append,List.nil_append]
 go_enter Tryz.func66,Tryz.ntmps66
 go_wp2_with fail
 refine (HTX.out _ (HB0.out _)).mono ?_
 rintro e1 w1 ⟨rfl,b1⟩
 have r1:=(b1.block w.heap.size (by simp)).trans (World.alloc_heap_new w _)
 have B1:=hid ((HB0.out _).trans (b1.mono (by simp)))
 have x7:=row_cells r1 7
 have x8:=row_cells r1 8
 have x9:=row_cells r1 9
 have x10:=row_cells r1 10
 simp at x7 x8 x9 x10
 have R1:=hid r1
 have hz1:w.heap.size < w1.heap.size:=heap_lt r1
 clear b1 r1
 go_wp2_with fail
 refine (HTY.out _ B1.out).mono ?_
 rintro e2 w2 ⟨rfl,b2⟩
 have r2:=(b2.block w.heap.size hz1).trans R1.out
 have B2:=hid (B1.out.trans (b2.mono B1.out.size))
 have y3:=row_cells r2 3
 have y4:=row_cells r2 4
 have y5:=row_cells r2 5
 have y6:=row_cells r2 6
 simp at y3 y4 y5 y6
 have R2:=hid r2
 have hz2:w.heap.size < w2.heap.size:=heap_lt r2
 clear b2 r2 x7 x8 x9 x10 R1
 go_wp2_with fail
 refine (HLX.out _ B2.out).mono ?_
 rintro e3 w3 ⟨ts3,m3,rfl,hL3,hT3,hK3⟩
 have r3:=(hK3.block w.heap.size hz2 (by omega)).trans R2.out
 have hlen:ts3.length=ts.length:=hL3.len
 have x7:=row_cells r3 7
 have x8:=row_cells r3 8
 have x9:=row_cells r3 9
 have x10:=row_cells r3 10
 simp at x7 x8 x9 x10
 have hz3:w.heap.size < w3.heap.size:=heap_lt r3
 have hC:=HLY.out w3 ts3 ((B2.out.mono hb).trans (hK3.below (Nat.le_trans hb B2.out.size) fun i hi e=>by omega)) hT3
 rw[hlen] at hC
 have HC:=hid hC
 have HL3:=hid hL3
 have HK3:=hid ((Kp.ofBelow B2.out).trans hK3)
 clear hL3 hT3 hK3 hC r3 y3 y4 y5 y6 R2
 go_wp2_with fail
 refine HC.out.mono ?_
 rintro e4 w4 ⟨ts4,m4,rfl,hL4,hT4,hK4⟩
 have hx:=(HL3.out.comp hL4).mono (M:=LitN ds vs t) fun h=>HN.out ts rfl h.1 h.2
 have HL4:=hid hx
 have HT4:=hid hT4
 have HK4:=hid (HK3.out.trans hK4)
 clear hL4 hT4 hK4 HC hx
 cases m3 with
 | true=>
  go_wp2
  go_ret
  exact⟨ts4,true,rfl,HL4.out,HT4.out,HK4.out⟩
 | false=>
  go_wp2
  go_ret
  exact⟨ts4,m4,rfl,HL4.out,HT4.out,HK4.out⟩
set_option maxRecDepth 100000 in
set_option maxHeartbeats 8000000 in
theorem rlearnPart_c (J:ByteArray→Int→Prop) (vs:List ByteArray) (vv:Value) (B g:Nat) (ds:List De) (v:Value) (t:Lt) (ts:List Int) (w:World) (cs:List Value) (hd:SlOf w B 6 (DeC w B) ds v) (hc:LtC w B t cs) (hT:TyS B g w vs vv ts)
  (hr:rightL t=true) (hdu:duoB t=false) (hbd:badA ds t.a=0) (hv:∀ u ∈ litTs t,u.op=1→u.s ∈ vs∧u.l=[]) (hJa:∀ x ∈ plc ds t.a,x.1.op=1→x.2≠0→J x.1.s x.2) (hJ2:∀ x ∈ t.a.l,∀ u ∈ subTs x.l,u.op=1→J u.s 1)
  (hJx:aggB t=true→∀ u,u ∈ subT t.x∨u ∈ subT t.y→u.op=1→J u.s 1) :
  Calls Tryz.prog 66 #[v,.agg cs.toArray,vv,.slice (some ⟨g,0,none⟩) ts.length ts.length] w (LrnR J vs (LitN ds vs t) ts B g vv w):=by
 have hno:=duo_no hdu
 have hag:=agg_or hdu
 have hrange:=right_op hr
 obtain⟨ca,cx,cy,rfl,_,ha,hcx,hcy⟩:=hc
 have hca:=ha
 obtain⟨v0,rfl,_,hal⟩:=ha
 obtain⟨o0,k0,rfl,_⟩:=SlOf.uni hal
 obtain⟨o1,k1,rfl,_⟩:=hcx.look
 obtain⟨o2,k2,rfl,_⟩:=hcy.look
 have hvx:∀ u ∈ subT t.x,u.op=1→u.s ∈ vs∧u.l=[]:=fun u hu=>hv u (litTs_mem.2 (.inl hu))
 have hvy:∀ u ∈ subT t.y,u.op=1→u.s ∈ vs∧u.l=[]:=fun u hu=>hv u (litTs_mem.2 (.inr (.inl hu)))
 have hva:∀ u ∈ subTs t.a.l,u.op=1→u.s ∈ vs∧u.l=[]:=fun u hu=>hv u (litTs_mem.2 (.inr (.inr hu)))
 have hb:=hT.base
 have HLA:=hid (fun (W:World) (h:Below w.heap.size w W)=>rlearnAtom_c J vs vv B g ds v t.a ts W _ (SlOf.decl hd (h.mono hb) (Nat.le_refl _)) (hca.below (h.mono hb)) (hT.kept h) hbd hva hJa hJ2)
 have HLX:=hid (fun (hg:aggB t=true) (W:World) (ts':List Int) (h:Below B w W) (hT':TyS B g W vs vv ts')=>rlearn_c J vs vv B g _ t.x 1 ts' W _ (Nat.le_refl _) (hcx.under h) hT' hvx (fun h1 _=>hJx hg _ (.inl mem_self) h1) (fun u hu=>hJx hg u (.inl (mem_subT.2 (.inr hu)))))
 have HLY:=hid (fun (hg:aggB t=true) (W:World) (ts':List Int) (h:Below B w W) (hT':TyS B g W vs vv ts')=>rlearn_c J vs vv B g _ t.y 1 ts' W _ (Nat.le_refl _) (hcy.under h) hT' hvy (fun h1 _=>hJx hg _ (.inr mem_self) h1) (fun u hu=>hJx hg u (.inr (mem_subT.2 (.inr hu)))))
 have HN:Hid (∀ T:List Int,AllF vs (plc ds t.a) T→(aggB t=true→Full (knP vs T) t.x 1∧Full (knP vs T) t.y 1)→LitN ds vs t T):=hid fun T h1 h2=>by
  unfold LitN
  rw[if_neg (by rw[hdu];decide)]
  exact⟨h1,h2⟩
 have hrow:=hT.row
 have HB0:Hid (∀ (x:Obj),Below w.heap.size w (w.alloc x)):=hid fun x=>(Below.refl _ _).alloc (Nat.le_refl _) _
 obtain⟨ov,kv,rfl,_⟩:=SlOf.uni hT.vars
 obtain⟨od,kd,rfl,_⟩:=SlOf.uni hd
 clear hT hcx hcy hal hca hv hvx hvy hva hJa hJ2 hJx hr hdu hbd hd
 simp only[List.cons_append,List.nil_append]
 by_cases h36:3≤t.op
 ·have h67:¬ t.op≤6:=by omega
  have hg:aggB t=true:=hag.resolve_left (by omega)
  have ho1:(t.op == 1)=false:=by simp;omega
  have ho2:(t.op == 2)=false:=by simp;omega
  clear hag hno
  go_enter Tryz.func66,Tryz.ntmps66
  go_wp2_with fail
  refine (HLA.out _ (HB0.out _)).mono ?_
  rintro e1 w1 ⟨ts1,m1,rfl,hL1,hT1,hK1⟩
  have hlen1:ts1.length=ts.length:=hL1.len
  have r1:=(hK1.block w.heap.size (by simp) (by omega)).trans (World.alloc_heap_new w _)
  have hKK:Kp (fun b=>b=g) w w1:=(Kp.ofBelow (HB0.out _)).trans hK1
  have x0:=row_cells r1 0
  have x3:=row_cells r1 3
  have x4:=row_cells r1 4
  have x5:=row_cells r1 5
  have x6:=row_cells r1 6
  simp at x0 x3 x4 x5 x6
  have hz1:w.heap.size < w1.heap.size:=heap_lt r1
  have hC:=HLX.out hg w1 ts1 (hKK.below hb fun i hi e=>by omega) hT1
  rw[hlen1] at hC
  have HC:=hid hC
  have HL1:=hid hL1
  have HK1:=hid hKK
  have R1:=hid r1
  clear hL1 hT1 hK1 hC r1 hKK
  go_wp2_with fail
  refine HC.out.mono ?_
  rintro e2 w2 ⟨ts2,m2,rfl,hL2,hT2,hK2⟩
  have hlen2:ts2.length=ts.length:=hL2.len.trans hlen1
  have r2:=(hK2.block w.heap.size hz1 (by omega)).trans R1.out
  have y7:=row_cells r2 7
  have y8:=row_cells r2 8
  have y9:=row_cells r2 9
  have y10:=row_cells r2 10
  simp at y7 y8 y9 y10
  have hz2:w.heap.size < w2.heap.size:=heap_lt r2
  have hKK:=HK1.out.trans hK2
  have hC:=HLY.out hg w2 ts2 (hKK.below hb fun i hi e=>by omega) hT2
  rw[hlen2] at hC
  have HC2:=hid hC
  have HL2:=hid (HL1.out.comp hL2)
  have HK2:=hid hKK
  clear hL2 hT2 hK2 hC r2 hKK R1 HC x0 x3 x4 x5 x6
  go_wp2_with fail
  refine HC2.out.mono ?_
  rintro e3 w3 ⟨ts3,m3,rfl,hL3,hT3,hK3⟩
  have hx:=(HL2.out.comp hL3).mono (M:=LitN ds vs t) fun h=>HN.out ts h.1.1 fun _=>⟨h.1.2,h.2⟩
  have HL3:=hid hx
  have HT3:=hid hT3
  have HK3:=hid (HK2.out.trans hK3)
  clear hL3 hT3 hK3 HC2 hx
  cases m1 with
  | true=>
   go_wp2
   go_ret
   exact⟨ts3,true,rfl,HL3.out,HT3.out,HK3.out⟩
  | false=>
   cases m2 with
   | true=>
    go_wp2
    go_ret
    exact⟨ts3,true,rfl,HL3.out,HT3.out,HK3.out⟩
   | false=>
    go_wp2
    go_ret
    exact⟨ts3,m3,rfl,HL3.out,HT3.out,HK3.out⟩
 ·by_cases h12:t.op=1∨t.op=2
  ·have hg:aggB t=false:=by
    unfold aggB
    rcases h12 with h | h <;> rw[h] <;> simp
   clear hag hno HLX HLY
   go_enter Tryz.func66,Tryz.ntmps66
   go_wp2_with fail
   refine (HLA.out _ (HB0.out _)).mono ?_
   rintro e1 w1 ⟨ts1,m1,rfl,hL1,hT1,hK1⟩
   have r1:=(hK1.block w.heap.size (by simp) (by omega)).trans (World.alloc_heap_new w _)
   have hKK:Kp (fun b=>b=g) w w1:=(Kp.ofBelow (HB0.out _)).trans hK1
   have x0:=row_cells r1 0
   simp at x0
   have hz1:w.heap.size < w1.heap.size:=heap_lt r1
   have HL1:=hid (hL1.mono (M:=LitN ds vs t) fun h=>HN.out ts h fun e=>by rw[hg] at e;cases e)
   have HT1:=hid hT1
   have HK1:=hid hKK
   clear hL1 hT1 hK1 r1 hKK
   rcases h12 with h1 | h1
   ·have ho1:(t.op == 1)=true:=by simp[h1]
    go_wp2
    go_ret
    exact⟨ts1,m1,rfl,HL1.out,HT1.out,HK1.out⟩
   ·have ho1:(t.op == 1)=false:=by simp[h1]
    have ho2:(t.op == 2)=true:=by simp[h1]
    go_wp2
    go_ret
    exact⟨ts1,m1,rfl,HL1.out,HT1.out,HK1.out⟩
  ·exact absurd hrange (by omega)
theorem fitsR_var {vs:List ByteArray} {ts:List Int} {t:Tm} {k:Int} (h:t.op=1):fitsR vs ts t k=(typedV vs ts t.s == k):=by
 obtain⟨o,s,n,l⟩:=t
 have h:o=1:=h
 subst h
 unfold fitsR
 rw[if_pos rfl]
 rfl
theorem fitsR_int {vs:List ByteArray} {ts:List Int} {t:Tm} {k:Int} (h:t.op=2):fitsR vs ts t k=(k == 1):=by
 obtain⟨o,s,n,l⟩:=t
 have h:o=2:=h
 subst h
 unfold fitsR
 rw[if_neg (by decide),if_pos rfl]
theorem fitsR_sym {vs:List ByteArray} {ts:List Int} {t:Tm} {k:Int} (h:t.op=3):fitsR vs ts t k=(k == 2):=by
 obtain⟨o,s,n,l⟩:=t
 have h:o=3:=h
 subst h
 unfold fitsR
 rw[if_neg (by decide),if_neg (by decide),if_pos rfl]
theorem fitsR_any {vs:List ByteArray} {ts:List Int} {t:Tm} {k:Int} (h:t.op=4):fitsR vs ts t k=true:=by
 obtain⟨o,s,n,l⟩:=t
 have h:o=4:=h
 subst h
 unfold fitsR
 rw[if_neg (by decide),if_neg (by decide),if_neg (by decide),if_pos rfl]
theorem fitsR_two {vs:List ByteArray} {ts:List Int} {t a b:Tm} {k:Int} (h:t.op=5∨t.op=6∨t.op=7) (hl:t.l=[a,b]):fitsR vs ts t k=(k == 1 && (fitsR vs ts a 1 && fitsR vs ts b 1)):=by
 obtain⟨o,s,n,l⟩:=t
 have h:o=5∨o=6∨o=7:=h
 have hl:l=[a,b]:=hl
 subst hl
 conv=>lhs;unfold fitsR
 rw[if_neg (by omega),if_neg (by omega),if_neg (by omega),if_neg (by omega),fitsRs,fitsRs,fitsRs,Bool.and_true]
set_option maxRecDepth 100000 in
set_option maxHeartbeats 8000000 in
theorem rfits_c (vs:List ByteArray) (vv:Value) (ts:List Int) (B g:Nat):∀ (h:Nat) (t:Tm) (k:Int) (w:World) (cs:List Value),rightT h t=true→TmC w B t cs→TyS B g w vs vv ts→(∀ u ∈ subT t,u.op=1→u.s ∈ vs∧u.l=[]) →
  Calls Tryz.prog 134 #[.agg cs.toArray,.int .i64 k,vv,.slice (some ⟨g,0,none⟩) ts.length ts.length] w fun e w'=>e=.returned (.bool (fitsR vs ts t k))∧Below w.heap.size w w':=by
 intro h
 induction h with
 | zero=>intro t k w cs hr;unfold rightT at hr;cases hr
 | succ h ih=>
  intro t k w cs hr hc hT hv
  have hcase:=rightT_cases hr
  have IH:=hid (fun (x:Tm) (hx:x ∈ t.l) (hr:rightT h x=true) (W:World) (hb:Below w.heap.size w W) (cs:List Value) (hc:TmC W B x cs)=>ih x 1 W cs hr hc (hT.kept hb) (fun u hu=>hv u (subT_part hx u hu)))
  have HV1:Hid (t.op=1→∃ (i:Nat) (v:Int),placeV vs t.s=i∧ts[i]?=some v∧fitsR vs ts t k=(v == k)):=hid fun h=>by
   obtain⟨i,v,h1,_,h3,h4⟩:=typed_get hT.len (hv t mem_self h).1
   exact⟨i,v,h1,h3,by rw[fitsR_var h,h4]⟩
  have HV2:Hid (t.op=2→fitsR vs ts t k=(k == 1)):=hid fitsR_int
  have HV3:Hid (t.op=3→fitsR vs ts t k=(k == 2)):=hid fitsR_sym
  have HV4:Hid (t.op=4→fitsR vs ts t k=true):=hid fitsR_any
  have HV5:Hid (∀ a b,t.op=5∨t.op=6∨t.op=7→t.l=[a,b]→fitsR vs ts t k=(k == 1 && (fitsR vs ts a 1 && fitsR vs ts b 1))):=hid fun a b=>fitsR_two
  have HT:=hid hT
  have hbase:=hT.base
  have hrow:=hT.row
  clear ih hr hv hT
  obtain⟨op,s,nn,l⟩:=t
  obtain⟨p1,q1,rfl,_,_,_,t1⟩:=hc.look
  simp only[Tm.op_mk,Tm.s_mk,Tm.n_mk,Tm.l_mk] at t1 HV1 HV2 HV3 HV4 HV5 IH hcase ⊢
  have HB0:Hid (∀ (x:Obj),Below w.heap.size w (w.alloc x)):=hid fun x=>(Below.refl _ _).alloc (Nat.le_refl _) _
  obtain⟨X,hX⟩:∃ X,fitsR vs ts (.mk op s nn l) k=X:=⟨_,rfl⟩
  rw[hX] at HV1 HV2 HV3 HV4 HV5 ⊢
  clear hc hX
  obtain⟨ov,kv,rfl,_⟩:=SlOf.uni HT.out.vars
  rcases hcase with ⟨h2,a,b,hl,ha,hb⟩ | ⟨h2,hl,h1 | h1 | h1 | h1⟩
  ·have h2:=twoB_op h2
   have hz:=HV5.out a b h2 hl
   subst hl
   obtain⟨o1,cap1,e1,hc1,hm1,S1⟩:=SlOf.open t1
   cases e1
   have hb1:(op == 1)=false:=by simp;omega
   have hb2:(op == 2)=false:=by simp;omega
   have hb3:(op == 3)=false:=by simp;omega
   have hb4:(op == 4)=false:=by simp;omega
   have HA:=hid (IH.out a (by simp) ha)
   have HBB:=hid (IH.out b (by simp) hb)
   clear HV1 HV2 HV3 HV4 HV5 IH ha hb h2
   cases hk:(k == 1) with
   | false=>
    have HZ:Hid (X=false):=hid (by rw[hz,hk];rfl)
    clear hz
    go_enter Tryz.func134,Tryz.ntmps134
    go_wp2
    go_ret
    exact⟨by rw[HZ.out];rfl,HB0.out _⟩
   | true=>
    obtain⟨xa,hxa⟩:∃ xa,fitsR vs ts a 1=xa:=⟨_,rfl⟩
    obtain⟨xb,hxb⟩:∃ xb,fitsR vs ts b 1=xb:=⟨_,rfl⟩
    rw[hxa] at HA
    rw[hxb] at HBB
    have HZ:Hid (X=(xa && xb)):=hid (by rw[hz,hk,hxa,hxb];rfl)
    clear hz hxa hxb
    obtain⟨a1,p3,q3,rfl,ha1,Hca,c0,c1,c2,c3⟩:=tm_in S1 (Below.refl _ _) (show [a,b][0]?=some a from rfl)
    obtain⟨a',p4,q4,e2,ha',Hcb,d0,d1,d2,d3⟩:=tm_in S1 (Below.refl _ _) (show [a,b][1]?=some b from rfl)
    cases e2
    have hal:(a1.add (0 * 4)).block < w.heap.size:=by rw[addBlock];omega
    have hal':(a1.add (1 * 4)).block < w.heap.size:=by rw[addBlock];omega
    simp only[Nat.zero_mul,Nat.one_mul] at c0 c1 c2 c3 d0 d1 d2 d3 hal hal'
    have ea:a1.add 0=a1:=by unfold Addr.add;simp
    rw[ea] at c0 c1 c2 c3 hal
    have e4:a1.add 4=⟨a1.block,a1.off+4,none⟩:=by unfold Addr.add;simp
    simp only[e4] at d0 d1 d2 d3 hal'
    clear ea e4
    have HX:=hid (fun (W:World) (hb:Below w.heap.size w W)=>HA.out W hb _ (Hca.out.under (hb.mono hbase)))
    have HY:=hid (fun (W:World) (hb:Below w.heap.size w W)=>HBB.out W hb _ (Hcb.out.under (hb.mono hbase)))
    clear HA HBB t1 S1 Hca Hcb ha1 ha'
    go_enter Tryz.func134,Tryz.ntmps134
    go_wp2_with fail
    refine (HX.out _ (HB0.out _)).mono ?_
    rintro e w1 ⟨rfl,b1⟩
    have B1:=hid ((HB0.out _).trans (b1.mono (by simp)))
    have x3:w1.cell? ⟨w.heap.size,3,none⟩=some (.slice (some a1) 2 q1):=(b1.cell (p:=⟨w.heap.size,3,none⟩) (by simp)).trans (by go_simp)
    have hz1:w.heap.size < w1.heap.size:=by have:=b1.size;simp at this;omega
    cases xa with
    | false=>
     clear b1
     go_wp2
     go_ret
     exact⟨by rw[HZ.out];rfl,B1.out⟩
    | true=>
     have K:=fun (p:Addr) (hp:p.block < w.heap.size)=>B1.out.cell (p:=p) hp
     have f0:=(K ⟨a1.block,a1.off+4,none⟩ hal').trans d0
     have f1:=(K ⟨a1.block,a1.off+4+1,none⟩ hal').trans d1
     have f2:=(K ⟨a1.block,a1.off+4+2,none⟩ hal').trans d2
     have f3:=(K ⟨a1.block,a1.off+4+3,none⟩ hal').trans d3
     clear K b1 c0 c1 c2 c3 d0 d1 d2 d3
     go_wp2_with fail
     refine (HY.out _ B1.out).mono ?_
     rintro e w2 ⟨rfl,b2⟩
     have B2:=hid (B1.out.trans (b2.mono B1.out.size))
     clear b2 f0 f1 f2 f3
     go_wp2
     go_ret
     exact⟨by rw[HZ.out];rfl,B2.out⟩
  ·obtain⟨i,v,hp,hi,hX⟩:=HV1.out h1
   subst hX
   have HP:Hid (∀ (W:World),Below w.heap.size w W→Calls Tryz.prog 83 #[.slice ov vs.length kv,.string s] W fun e w'=>e=.returned (.int .i64 i)∧Below W.heap.size W w'):=hid fun W hb=>by
    have:=place1_c vs _ s W (HT.out.kept hb).vars'
    rw[hp] at this
    exact this
   have HC:=hid (fun (W:World) (hb:Below w.heap.size w W)=>(HT.out.kept hb).cell hi)
   have hlt:i < ts.length:=(List.getElem?_eq_some_iff.1 hi).1
   have hlt':(i:Int) < (ts.length:Int):=by omega
   have h0:(0:Int)≤(i:Int):=by omega
   clear HV1 HV2 HV3 HV4 HV5 IH hp hi
   subst h1
   go_enter Tryz.func134,Tryz.ntmps134
   go_wp2_with fail
   refine (HP.out _ (HB0.out _)).mono ?_
   rintro e w1 ⟨rfl,b1⟩
   have B1:=hid ((HB0.out _).trans (b1.mono (by simp)))
   have c0:=HC.out _ B1.out
   clear b1
   go_wp2
   go_ret
   exact⟨rfl,B1.out⟩
  ·have HZ:=hid (HV2.out h1)
   clear HV1 HV2 HV3 HV4 HV5 IH
   subst h1
   go_enter Tryz.func134,Tryz.ntmps134
   go_wp2
   go_ret
   exact⟨by rw[HZ.out];rfl,HB0.out _⟩
  ·have HZ:=hid (HV3.out h1)
   clear HV1 HV2 HV3 HV4 HV5 IH
   subst h1
   go_enter Tryz.func134,Tryz.ntmps134
   go_wp2
   go_ret
   exact⟨by rw[HZ.out];rfl,HB0.out _⟩
  ·have HZ:=hid (HV4.out h1)
   clear HV1 HV2 HV3 HV4 HV5 IH
   subst h1
   go_enter Tryz.func134,Tryz.ntmps134
   go_wp2
   go_ret
   exact⟨by rw[HZ.out];rfl,HB0.out _⟩
def fitsAB (ds:List De) (vs:List ByteArray) (ts:List Int) (a:Am):Bool:=(plc ds a).all fun x=>fitsR vs ts x.1 x.2
set_option maxRecDepth 100000 in
set_option maxHeartbeats 8000000 in
theorem rfitsAtom_c (vs:List ByteArray) (vv:Value) (B g:Nat) (ds:List De) (v:Value) (t:Am) (ts:List Int) (w:World) (cs:List Value) (hd:SlOf w B 6 (DeC w B) ds v) (hc:AmC w B t cs) (hT:TyS B g w vs vv ts) (hbd:badA ds t=0)
  (hr:∀ x ∈ t.l,rightT 20 x=true) (hv:∀ u ∈ subTs t.l,u.op=1→u.s ∈ vs∧u.l=[]) :
  Calls Tryz.prog 101 #[v,.agg cs.toArray,vv,.slice (some ⟨g,0,none⟩) ts.length ts.length] w fun e w'=>e=.returned (.bool (fitsAB ds vs ts t))∧Below w.heap.size w w':=by
 obtain⟨i,d,hf,hi,hlen,hplc⟩:=bad_zero hbd
 have HFA:Hid (fitsAB ds vs ts t=(t.l.zip d.types).all fun x=>fitsR vs ts x.1 x.2):=hid (by unfold fitsAB;rw[hplc])
 have HF:=hid (fun (W:World) (hb:Below w.heap.size w W)=>find5_c t.rel ds v W (SlOf.decl hd (hb.mono hT.base) (Nat.le_trans hT.base hb.size)))
 rw[hf] at HF
 unfold findV at HF
 have HL:=hid (fun (x:Tm) (hx:x ∈ t.l) (k:Int) (W:World) (cs:List Value) (hb:Below w.heap.size w W) (hc:TmC W B x cs)=>rfits_c vs vv ts B g 20 x k W cs (hr x hx) hc (hT.kept hb) (fun u hu=>hv u (mem_subTs.2 ⟨x,hx,hu⟩)))
 obtain⟨rel,l⟩:=t
 obtain⟨v0,rfl,hzr,t1⟩:=hc
 simp only at HF HL HFA t1 hlen ⊢
 obtain⟨X,hX⟩:∃ X,fitsAB ds vs ts ⟨rel,l⟩=X:=⟨_,rfl⟩
 rw[hX] at HFA ⊢
 have HB0:Hid (∀ (x:Obj),Below w.heap.size w (w.alloc x)):=hid fun x=>(Below.refl _ _).alloc (Nat.le_refl _) _
 obtain⟨p1,q1,rfl,hc1,hm1,S1⟩:=SlOf.open t1
 obtain⟨od,kd,rfl,hc2,hm2,S2⟩:=SlOf.open hd
 have HT:=hid hT
 have hrow:=hT.row
 have hbase:=hT.base
 have Hi:=hid hi
 have Hlen:=hid hlen
 have hil:i < ds.length:=(List.getElem?_eq_some_iff.1 hi).1
 have hil':(i:Int) < (ds.length:Int):=by omega
 have hi0:(0:Int)≤(i:Int):=by omega
 obtain⟨ov,kv,rfl,_⟩:=SlOf.uni HT.out.vars
 clear t1 hd hT hv hr hbd hplc hf hi hlen hX
 go_enter Tryz.func101,Tryz.ntmps101
 go_wp2_with fail
 refine (HF.out _ (HB0.out _)).mono ?_
 rintro e w1 ⟨rfl,b1⟩
 have q1':w1.heap[w.heap.size]?=some (.cells #[.string rel,.slice p1 l.length q1] 34 (0,0)):=(b1.block _ (by simp)).trans (World.alloc_heap_new w _)
 have B1:=hid ((HB0.out _).trans (b1.mono (by simp)))
 have Q1:=hid q1'
 have hz1:w.heap.size < w1.heap.size:=heap_lt q1'
 clear b1 q1' HF
 go_wp2
 go_loopw [11] (fun iv wr=>∃ (j:Nat),j≤l.length∧iv=.int .i64 j∧X=((l.zip d.types).drop j).all (fun x=>fitsR vs ts x.1 x.2)∧Below w1.heap.size w1 wr) (fun iv _=>l.length - (intOf iv).toNat)
 case atStart=>exact⟨0,Nat.zero_le _,rfl,HFA.out,Below.refl _ _⟩
 case round=>
  obtain⟨j,hj,rfl,hL,hK⟩:=hrel
  have hBw:Below w.heap.size w wr:=B1.out.trans (hK.mono B1.out.size)
  have hB:Below B w wr:=hBw.mono hbase
  have hKs:=hK.size
  have qr:=(hK.block w.heap.size hz1).trans Q1.out
  have hz0:w.heap.size < wr.heap.size:=heap_lt qr
  have x0:wr.cell? ⟨w.heap.size,1,none⟩=some (.slice p1 l.length q1):=row_cells qr 1
  have HLr:=hid hL
  have HK:=hid hK
  have HBw:=hid hBw
  clear hL hK qr hBw
  by_cases hlt:j < l.length
  ·have hlt3:(j:Int) < (l.length:Int):=by omega
   have hltd:j < d.types.length:=by have:=Hlen.out;omega
   have hltd3:(j:Int) < (d.types.length:Int):=by omega
   have hj0:(0:Int)≤(j:Int):=by omega
   obtain⟨t,ht⟩:∃ t,l[j]?=some t:=⟨l[j],List.getElem?_eq_getElem hlt⟩
   obtain⟨k,hk⟩:∃ k,d.types[j]?=some k:=⟨d.types[j],List.getElem?_eq_getElem hltd⟩
   have hzip:(l.zip d.types)[j]?=some (t,k):=by rw[List.getElem?_zip_eq_some];exact⟨ht,hk⟩
   obtain⟨a,p3,q3,rfl,ha,Hc,c0,c1,c2,c3⟩:=tm_in S1 hB ht
   have hal:(a.add (j * 4)).block < wr.heap.size:=by rw[addBlock];omega
   obtain⟨b,p4,q4,p5,q5,rfl,hb,Hd,hcd⟩:=de_in S2 hB Hi.out
   have hbl:(b.add (i * 6)).block < wr.heap.size:=by rw[addBlock];omega
   have d2:=hcd.n6.2.2.1
   obtain⟨v5,u5,e5,_,_,_,hty⟩:=Hd.out
   cases e5
   obtain⟨o6,k6,e6,_,_,S6⟩:=SlOf.open hty
   cases e6
   obtain⟨f,rfl,hf,_,f0⟩:=int_in S6 (Below.refl _ _) hk
   have hfl:(f.add j).block < wr.heap.size:=by rw[addBlock];omega
   have HC:=hid (HL.out t (List.mem_of_getElem? ht) k)
   obtain⟨xt,hxt⟩:∃ xt,fitsR vs ts t k=xt:=⟨_,rfl⟩
   rw[hxt] at HC
   have Hst:Hid (X=(xt && ((l.zip d.types).drop (j+1)).all fun x=>fitsR vs ts x.1 x.2)):=hid (by rw[HLr.out,all_drop' (f:=fun x=>fitsR vs ts x.1 x.2) hzip,hxt])
   have HcB:=hid Hc.out
   have hS0:wr.drew.cell? ⟨w.heap.size,1,none⟩=some (.slice (some a) l.length q1)∧wr.drew.cell? (a.add (j * 4))=some (.int .i64 t.op)∧wr.drew.cell? ⟨(a.add (j * 4)).block,(a.add (j * 4)).off+1,none⟩=some (.string t.s)∧wr.drew.cell? ⟨(a.add (j * 4)).block,(a.add (j * 4)).off+2,none⟩=some (.int .i64 t.n)∧wr.drew.cell? ⟨(a.add (j * 4)).block,(a.add (j * 4)).off+3,none⟩=some (.slice p3 t.l.length q3)∧wr.drew.cell? ⟨(b.add (i * 6)).block,(b.add (i * 6)).off+2,none⟩=some (.slice (some f) d.types.length q5)∧wr.drew.cell? (f.add j)=some (.int .i64 k):=⟨x0,c0,c1,c2,c3,d2,f0⟩
   have HKp:Hid (∀ W:World,Below wr.heap.size wr.drew W→W.cell? ⟨w.heap.size,1,none⟩=some (.slice (some a) l.length q1)∧W.cell? (a.add (j * 4))=some (.int .i64 t.op)∧W.cell? ⟨(a.add (j * 4)).block,(a.add (j * 4)).off+1,none⟩=some (.string t.s)∧W.cell? ⟨(a.add (j * 4)).block,(a.add (j * 4)).off+2,none⟩=some (.int .i64 t.n)∧W.cell? ⟨(a.add (j * 4)).block,(a.add (j * 4)).off+3,none⟩=some (.slice p3 t.l.length q3)∧W.cell? ⟨(b.add (i * 6)).block,(b.add (i * 6)).off+2,none⟩=some (.slice (some f) d.types.length q5)∧W.cell? (f.add j)=some (.int .i64 k)):=hid fun W hW=>
    have q:∀ p:Addr,p.block < wr.heap.size→W.cell? p=wr.drew.cell? p:=fun p h1=>World.cell?_of_block (hW.block _ h1)
    ⟨(q _ hz0).trans x0,(q _ hal).trans c0,(q ⟨(a.add (j * 4)).block,(a.add (j * 4)).off+1,none⟩ hal).trans c1,(q ⟨(a.add (j * 4)).block,(a.add (j * 4)).off+2,none⟩ hal).trans c2,(q ⟨(a.add (j * 4)).block,(a.add (j * 4)).off+3,none⟩ hal).trans c3,(q ⟨(b.add (i * 6)).block,(b.add (i * 6)).off+2,none⟩ hbl).trans d2,(q _ hfl).trans f0⟩
   clear ht hk hzip hcd hty Hd S6 hxt
   go_wp2_with fail
   go_region_held3 (fun W=>W.cell? ⟨w.heap.size,1,none⟩=some (.slice (some a) l.length q1)∧W.cell? (a.add (j * 4))=some (.int .i64 t.op)∧W.cell? ⟨(a.add (j * 4)).block,(a.add (j * 4)).off+1,none⟩=some (.string t.s)∧W.cell? ⟨(a.add (j * 4)).block,(a.add (j * 4)).off+2,none⟩=some (.int .i64 t.n)∧W.cell? ⟨(a.add (j * 4)).block,(a.add (j * 4)).off+3,none⟩=some (.slice p3 t.l.length q3)∧W.cell? ⟨(b.add (i * 6)).block,(b.add (i * 6)).off+2,none⟩=some (.slice (some f) d.types.length q5)∧W.cell? (f.add j)=some (.int .i64 k)) (first | exact hk1 | exact hS0)
    ((go_at_call 134;refine (HC.out _ _ HBw.out.drew (HcB.out.under (Below.refl _ _).drew)).mono ?_;rintro e3 w3 ⟨rfl,hK3⟩;have hk1:=HKp.out _ hK3))
   have HK3:=hid (HK.out.trans ((drewB hK3).mono hKs))
   clear hK3 HC
   cases xt with
   | true=>
    go_wp2
    go_roundw
    case rel=>exact⟨j+1,hlt,by go_num,by rw[Hst.out,Bool.true_and],HK3.out⟩
    case measure=>simp[intOf];omega
   | false=>
    go_wp2
    go_ret
    exact⟨by rw[Hst.out,Bool.false_and];rfl,B1.out.trans (HK3.out.mono B1.out.size)⟩
  ·have hlt3:¬ (j:Int) < (l.length:Int):=by omega
   obtain rfl:j=l.length:=by omega
   go_wp2
   go_ret
   refine⟨?_,B1.out.trans (HK.out.mono B1.out.size)⟩
   rw[HLr.out,List.drop_eq_nil_of_le (by rw[List.length_zip];exact Nat.min_le_left _ _)]
   rfl
def fitsLB (ds:List De) (vs:List ByteArray) (ts:List Int) (t:Lt):Bool:=
 if duoB t=true then pairFit vs ts t.x t.y
 else if t.op=1∨t.op=2 then fitsAB ds vs ts t.a
 else fitsAB ds vs ts t.a && fitsR vs ts t.x 1 && ((t.op == 7) || fitsR vs ts t.y 1)
theorem fitsLB_duo {ds:List De} {vs:List ByteArray} {ts:List Int} {t:Lt} (h:duoB t=true):fitsLB ds vs ts t=pairFit vs ts t.x t.y:=by unfold fitsLB;rw[if_pos h]
theorem fitsLB_plain {ds:List De} {vs:List ByteArray} {ts:List Int} {t:Lt} (h:duoB t=false) (h1:t.op=1∨t.op=2):fitsLB ds vs ts t=fitsAB ds vs ts t.a:=by unfold fitsLB;rw[if_neg (by rw[h];decide),if_pos h1]
theorem fitsLB_agg {ds:List De} {vs:List ByteArray} {ts:List Int} {t:Lt} (h:duoB t=false) (h1:¬ (t.op=1∨t.op=2)):fitsLB ds vs ts t=(fitsAB ds vs ts t.a && fitsR vs ts t.x 1 && ((t.op == 7) || fitsR vs ts t.y 1)):=by unfold fitsLB;rw[if_neg (by rw[h];decide),if_neg h1]
set_option maxRecDepth 100000 in
set_option maxHeartbeats 8000000 in
theorem rfitsDuo_c (vs:List ByteArray) (vv:Value) (B g:Nat) (ds:List De) (v:Value) (t:Lt) (ts:List Int) (w:World) (cs:List Value) (hc:LtC w B t cs) (hT:TyS B g w vs vv ts)
  (hr:rightL t=true) (hdu:duoB t=true) (hv:∀ u ∈ litTs t,u.op=1→u.s ∈ vs∧u.l=[]) :
  Calls Tryz.prog 102 #[v,.agg cs.toArray,vv,.slice (some ⟨g,0,none⟩) ts.length ts.length] w fun e w'=>e=.returned (.bool (fitsLB ds vs ts t))∧Below w.heap.size w w':=by
 obtain⟨_,hx,hy⟩:=right_duo hr hdu
 have hop:=duo_op hdu
 obtain⟨ca,cx,cy,rfl,_,ha,hcx,hcy⟩:=hc
 have hca:=ha
 obtain⟨v0,rfl,_,hal⟩:=ha
 obtain⟨o0,k0,rfl,_⟩:=SlOf.uni hal
 obtain⟨o1,k1,rfl,_⟩:=hcx.look
 obtain⟨o2,k2,rfl,_⟩:=hcy.look
 have hvx:∀ u ∈ subT t.x,u.op=1→u.s ∈ vs∧u.l=[]:=fun u hu=>hv u (litTs_mem.2 (.inl hu))
 have hvy:∀ u ∈ subT t.y,u.op=1→u.s ∈ vs∧u.l=[]:=fun u hu=>hv u (litTs_mem.2 (.inr (.inl hu)))
 have hb:=hT.base
 have hrow:=hT.row
 have HX:=hid (fun (hx:rightT 20 t.x=true) (k:Int) (W:World) (h:Below w.heap.size w W)=>rfits_c vs vv ts B g 20 t.x k W _ hx (hcx.under (h.mono hb)) (hT.kept h) hvx)
 have HY:=hid (fun (hy:rightT 20 t.y=true) (k:Int) (W:World) (h:Below w.heap.size w W)=>rfits_c vs vv ts B g 20 t.y k W _ hy (hcy.under (h.mono hb)) (hT.kept h) hvy)
 have HB0:Hid (∀ (x:Obj),Below w.heap.size w (w.alloc x)):=hid fun x=>(Below.refl _ _).alloc (Nat.le_refl _) _
 have HR:Hid (∀ (C:Obj) (cells:List Value) (W:World),C=.cells cells.toArray 56 (0,0)→Below (w.heap.size+1) (w.alloc C) W→W.heap[w.heap.size]?=some C):=hid fun C cells W hC hb=>by
  rw[hb.block _ (by omega)]
  exact World.alloc_heap_new w C
 have HX1:=hid (HX.out hx 1)
 have HX2:=hid (HX.out hx 2)
 have HY1:=hid (HY.out hy 1)
 have HY2:=hid (HY.out hy 2)
 obtain⟨x1,hx1⟩:∃ x1,fitsR vs ts t.x 1=x1:=⟨_,rfl⟩
 obtain⟨x2,hx2⟩:∃ x2,fitsR vs ts t.x 2=x2:=⟨_,rfl⟩
 obtain⟨y1,hy1⟩:∃ y1,fitsR vs ts t.y 1=y1:=⟨_,rfl⟩
 obtain⟨y2,hy2⟩:∃ y2,fitsR vs ts t.y 2=y2:=⟨_,rfl⟩
 have HZ:Hid (fitsLB ds vs ts t=((x1 && y1) || (x2 && y2))):=hid (by rw[fitsLB_duo hdu,← hx1,← hx2,← hy1,← hy2];rfl)
 rw[hx1] at HX1
 rw[hx2] at HX2
 rw[hy1] at HY1
 rw[hy2] at HY2
 obtain⟨X,hX⟩:∃ X,fitsLB ds vs ts t=X:=⟨_,rfl⟩
 rw[hX] at HZ ⊢
 have hop1:=hop.1
 have hop2:=hop.2
 obtain⟨ov,kv,rfl,_⟩:=SlOf.uni hT.vars
 clear hT hcx hcy hca hal hv hvx hvy hx hy hr hdu hop hx1 hx2 hy1 hy2 hX HX HY HR
 simp only[List.cons_append,List.nil_append]
 go_enter Tryz.func102,Tryz.ntmps102
 go_wp2_with fail
 refine (HX1.out _ (HB0.out _)).mono ?_
 rintro e1 w1 ⟨rfl,b1⟩
 have r1:=(b1.block w.heap.size (by simp)).trans (World.alloc_heap_new w _)
 have B1:=hid ((HB0.out _).trans (b1.mono (by simp)))
 have c1_3:=row_cells r1 3
 have c1_4:=row_cells r1 4
 have c1_5:=row_cells r1 5
 have c1_6:=row_cells r1 6
 have c1_7:=row_cells r1 7
 have c1_8:=row_cells r1 8
 have c1_9:=row_cells r1 9
 have c1_10:=row_cells r1 10
 simp at c1_3 c1_4 c1_5 c1_6 c1_7 c1_8 c1_9 c1_10
 have R1:=hid r1
 have hz1:w.heap.size < w1.heap.size:=heap_lt r1
 clear b1 r1
 cases x1 with
 | false=>
  go_wp2_with fail
  refine (HX2.out _ (B1.out)).mono ?_
  rintro e2 w2 ⟨rfl,b2⟩
  have r2:=(b2.block w.heap.size hz1).trans R1.out
  have B2:=hid (B1.out.trans (b2.mono B1.out.size))
  have c2_7:=row_cells r2 7
  have c2_8:=row_cells r2 8
  have c2_9:=row_cells r2 9
  have c2_10:=row_cells r2 10
  simp at c2_7 c2_8 c2_9 c2_10
  have R2:=hid r2
  have hz2:w.heap.size < w2.heap.size:=heap_lt r2
  clear b2 r2
  cases x2 with
  | false=>
   go_wp2
   go_ret
   exact⟨by rw[HZ.out];rfl,B2.out⟩
  | true=>
   go_wp2_with fail
   refine (HY2.out _ (B2.out)).mono ?_
   rintro e3 w3 ⟨rfl,b3⟩
   have r3:=(b3.block w.heap.size hz2).trans R2.out
   have B3:=hid (B2.out.trans (b3.mono B2.out.size))
   have R3:=hid r3
   have hz3:w.heap.size < w3.heap.size:=heap_lt r3
   clear b3 r3
   go_wp2
   go_ret
   exact⟨by rw[HZ.out];rfl,B3.out⟩
 | true=>
  go_wp2_with fail
  refine (HY1.out _ (B1.out)).mono ?_
  rintro e2 w2 ⟨rfl,b2⟩
  have r2:=(b2.block w.heap.size hz1).trans R1.out
  have B2:=hid (B1.out.trans (b2.mono B1.out.size))
  have c2_3:=row_cells r2 3
  have c2_4:=row_cells r2 4
  have c2_5:=row_cells r2 5
  have c2_6:=row_cells r2 6
  have c2_7:=row_cells r2 7
  have c2_8:=row_cells r2 8
  have c2_9:=row_cells r2 9
  have c2_10:=row_cells r2 10
  simp at c2_3 c2_4 c2_5 c2_6 c2_7 c2_8 c2_9 c2_10
  have R2:=hid r2
  have hz2:w.heap.size < w2.heap.size:=heap_lt r2
  clear b2 r2
  cases y1 with
  | false=>
   go_wp2_with fail
   refine (HX2.out _ (B2.out)).mono ?_
   rintro e3 w3 ⟨rfl,b3⟩
   have r3:=(b3.block w.heap.size hz2).trans R2.out
   have B3:=hid (B2.out.trans (b3.mono B2.out.size))
   have c3_7:=row_cells r3 7
   have c3_8:=row_cells r3 8
   have c3_9:=row_cells r3 9
   have c3_10:=row_cells r3 10
   simp at c3_7 c3_8 c3_9 c3_10
   have R3:=hid r3
   have hz3:w.heap.size < w3.heap.size:=heap_lt r3
   clear b3 r3
   cases x2 with
   | false=>
    go_wp2
    go_ret
    exact⟨by rw[HZ.out];rfl,B3.out⟩
   | true=>
    go_wp2_with fail
    refine (HY2.out _ (B3.out)).mono ?_
    rintro e4 w4 ⟨rfl,b4⟩
    have r4:=(b4.block w.heap.size hz3).trans R3.out
    have B4:=hid (B3.out.trans (b4.mono B3.out.size))
    have R4:=hid r4
    have hz4:w.heap.size < w4.heap.size:=heap_lt r4
    clear b4 r4
    go_wp2
    go_ret
    exact⟨by rw[HZ.out];rfl,B4.out⟩
  | true=>
   go_wp2_with fail
   refine (HX2.out _ (B2.out)).mono ?_
   rintro e3 w3 ⟨rfl,b3⟩
   have r3:=(b3.block w.heap.size hz2).trans R2.out
   have B3:=hid (B2.out.trans (b3.mono B2.out.size))
   have c3_7:=row_cells r3 7
   have c3_8:=row_cells r3 8
   have c3_9:=row_cells r3 9
   have c3_10:=row_cells r3 10
   simp at c3_7 c3_8 c3_9 c3_10
   have R3:=hid r3
   have hz3:w.heap.size < w3.heap.size:=heap_lt r3
   clear b3 r3
   cases x2 with
   | false=>
    go_wp2
    go_ret
    exact⟨by rw[HZ.out];rfl,B3.out⟩
   | true=>
    go_wp2_with fail
    refine (HY2.out _ (B3.out)).mono ?_
    rintro e4 w4 ⟨rfl,b4⟩
    have r4:=(b4.block w.heap.size hz3).trans R3.out
    have B4:=hid (B3.out.trans (b4.mono B3.out.size))
    have R4:=hid r4
    have hz4:w.heap.size < w4.heap.size:=heap_lt r4
    clear b4 r4
    go_wp2
    go_ret
    exact⟨by rw[HZ.out];rfl,B4.out⟩
set_option maxRecDepth 100000 in
set_option maxHeartbeats 8000000 in
theorem rfitsPart_c (vs:List ByteArray) (vv:Value) (B g:Nat) (ds:List De) (v:Value) (t:Lt) (ts:List Int) (w:World) (cs:List Value) (hd:SlOf w B 6 (DeC w B) ds v) (hc:LtC w B t cs) (hT:TyS B g w vs vv ts)
  (hr:rightL t=true) (hdu:duoB t=false) (hbd:badA ds t.a=0) (hv:∀ u ∈ litTs t,u.op=1→u.s ∈ vs∧u.l=[]) :
  Calls Tryz.prog 102 #[v,.agg cs.toArray,vv,.slice (some ⟨g,0,none⟩) ts.length ts.length] w fun e w'=>e=.returned (.bool (fitsLB ds vs ts t))∧Below w.heap.size w w':=by
 have hno:=duo_no hdu
 have hag:=agg_or hdu
 have hrange:=right_op hr
 obtain⟨ca,cx,cy,rfl,_,ha,hcx,hcy⟩:=hc
 have hca:=ha
 obtain⟨v0,rfl,_,hal⟩:=ha
 obtain⟨o0,k0,rfl,_⟩:=SlOf.uni hal
 obtain⟨o1,k1,rfl,_⟩:=hcx.look
 obtain⟨o2,k2,rfl,_⟩:=hcy.look
 have hvx:∀ u ∈ subT t.x,u.op=1→u.s ∈ vs∧u.l=[]:=fun u hu=>hv u (litTs_mem.2 (.inl hu))
 have hvy:∀ u ∈ subT t.y,u.op=1→u.s ∈ vs∧u.l=[]:=fun u hu=>hv u (litTs_mem.2 (.inr (.inl hu)))
 have hb:=hT.base
 have hrow:=hT.row
 have HX:=hid (fun (hx:rightT 20 t.x=true) (k:Int) (W:World) (h:Below w.heap.size w W)=>rfits_c vs vv ts B g 20 t.x k W _ hx (hcx.under (h.mono hb)) (hT.kept h) hvx)
 have HY:=hid (fun (hy:rightT 20 t.y=true) (k:Int) (W:World) (h:Below w.heap.size w W)=>rfits_c vs vv ts B g 20 t.y k W _ hy (hcy.under (h.mono hb)) (hT.kept h) hvy)
 have HB0:Hid (∀ (x:Obj),Below w.heap.size w (w.alloc x)):=hid fun x=>(Below.refl _ _).alloc (Nat.le_refl _) _
 have HR:Hid (∀ (C:Obj) (cells:List Value) (W:World),C=.cells cells.toArray 56 (0,0)→Below (w.heap.size+1) (w.alloc C) W→W.heap[w.heap.size]?=some C):=hid fun C cells W hC hb=>by
  rw[hb.block _ (by omega)]
  exact World.alloc_heap_new w C
 have hva:∀ u ∈ subTs t.a.l,u.op=1→u.s ∈ vs∧u.l=[]:=fun u hu=>hv u (litTs_mem.2 (.inr (.inr hu)))
 have hra:rightA t.a=true:=hag.elim (fun h=>(right_plain hr h).1) (fun h=>(right_agg hr h).1)
 have HLA:=hid (fun (W:World) (h:Below w.heap.size w W)=>rfitsAtom_c vs vv B g ds v t.a ts W _ (SlOf.decl hd (h.mono hb) (Nat.le_refl _)) (hca.below (h.mono hb)) (hT.kept h) hbd (right_arg hra) hva)
 have HG:Hid (aggB t=true→rightT 20 t.x=true∧(t.op=7∨(t.op≠7∧rightT 20 t.y=true))):=hid fun hg=>by
  obtain⟨_,hx,hy⟩:=right_agg hr hg
  exact⟨hx,hy.elim (fun h=>.inl h.1) (fun h=>.inr ⟨by omega,h.2.2⟩)⟩
 have HZ1:Hid (t.op=1∨t.op=2→fitsLB ds vs ts t=fitsAB ds vs ts t.a):=hid (fitsLB_plain hdu)
 have HZ2:Hid (¬ (t.op=1∨t.op=2)→fitsLB ds vs ts t=(fitsAB ds vs ts t.a && fitsR vs ts t.x 1 && ((t.op == 7) || fitsR vs ts t.y 1))):=hid (fitsLB_agg hdu)
 obtain⟨X,hX⟩:∃ X,fitsLB ds vs ts t=X:=⟨_,rfl⟩
 rw[hX] at HZ1 HZ2 ⊢
 obtain⟨xa,hxa⟩:∃ xa,fitsAB ds vs ts t.a=xa:=⟨_,rfl⟩
 rw[hxa] at HZ1 HZ2 HLA
 obtain⟨ov,kv,rfl,_⟩:=SlOf.uni hT.vars
 obtain⟨od,kd,rfl,_⟩:=SlOf.uni hd
 clear hT hcx hcy hal hca hv hvx hvy hva hr hra hdu hbd hd hX hxa HR
 simp only[List.cons_append,List.nil_append]
 by_cases h12:t.op=1∨t.op=2
 ·have HZ:=hid (HZ1.out h12)
  clear hag hno HX HY HG HZ1 HZ2
  have h36:¬ 3≤t.op:=by omega
  go_enter Tryz.func102,Tryz.ntmps102
  go_wp2_with fail
  refine (HLA.out _ (HB0.out _)).mono ?_
  rintro e1 w1 ⟨rfl,b1⟩
  have r1:=(b1.block w.heap.size (by simp)).trans (World.alloc_heap_new w _)
  have B1:=hid ((HB0.out _).trans (b1.mono (by simp)))
  have c1_0:=row_cells r1 0
  simp at c1_0
  have R1:=hid r1
  have hz1:w.heap.size < w1.heap.size:=heap_lt r1
  clear b1 r1
  rcases h12 with h1 | h1
  ·have ho1:(t.op == 1)=true:=by simp[h1]
   go_wp2
   go_ret
   exact⟨by rw[HZ.out];rfl,B1.out⟩
  ·have ho1:(t.op == 1)=false:=by simp[h1]
   have ho2:(t.op == 2)=true:=by simp[h1]
   go_wp2
   go_ret
   exact⟨by rw[HZ.out];rfl,B1.out⟩
 ·have hg:aggB t=true:=hag.resolve_left h12
  obtain⟨hx,hy⟩:=HG.out hg
  have HX1:=hid (HX.out hx 1)
  obtain⟨x1,hx1⟩:∃ x1,fitsR vs ts t.x 1=x1:=⟨_,rfl⟩
  have hz:=HZ2.out h12
  rw[hx1] at HX1 hz
  have h36:3≤t.op:=by omega
  have h67:¬ t.op≤6:=by omega
  have ho1:(t.op == 1)=false:=by simp;omega
  have ho2:(t.op == 2)=false:=by simp;omega
  clear hag hno HZ1 HZ2 HG HX hx hx1 hg
  rcases hy with h7 | ⟨h7,hy⟩
  ·have ho7:(t.op == 7)=true:=by simp[h7]
   have HZ:Hid (X=(xa && x1)):=hid (by rw[hz,ho7];simp)
   clear hz HY
   go_enter Tryz.func102,Tryz.ntmps102
   go_wp2_with fail
   refine (HLA.out _ (HB0.out _)).mono ?_
   rintro e1 w1 ⟨rfl,b1⟩
   have r1:=(b1.block w.heap.size (by simp)).trans (World.alloc_heap_new w _)
   have B1:=hid ((HB0.out _).trans (b1.mono (by simp)))
   have c1_0:=row_cells r1 0
   have c1_3:=row_cells r1 3
   have c1_4:=row_cells r1 4
   have c1_5:=row_cells r1 5
   have c1_6:=row_cells r1 6
   simp at c1_0 c1_3 c1_4 c1_5 c1_6
   have R1:=hid r1
   have hz1:w.heap.size < w1.heap.size:=heap_lt r1
   clear b1 r1
   go_wp2_with fail
   refine (HX1.out _ (B1.out)).mono ?_
   rintro e2 w2 ⟨rfl,b2⟩
   have r2:=(b2.block w.heap.size hz1).trans R1.out
   have B2:=hid (B1.out.trans (b2.mono B1.out.size))
   have c2_0:=row_cells r2 0
   simp at c2_0
   have R2:=hid r2
   have hz2:w.heap.size < w2.heap.size:=heap_lt r2
   clear b2 r2
   cases xa with
   | false=>
    go_wp2
    go_ret
    exact⟨by rw[HZ.out];rfl,B2.out⟩
   | true=>
    cases x1 with
    | false=>
     go_wp2
     go_ret
     exact⟨by rw[HZ.out];rfl,B2.out⟩
    | true=>
     go_wp2
     go_ret
     exact⟨by rw[HZ.out];rfl,B2.out⟩
  ·have ho7:(t.op == 7)=false:=by simp[h7]
   have HY1:=hid (HY.out hy 1)
   obtain⟨y1,hy1⟩:∃ y1,fitsR vs ts t.y 1=y1:=⟨_,rfl⟩
   rw[hy1] at HY1 hz
   have HZ:Hid (X=(xa && x1 && y1)):=hid (by rw[hz,ho7];simp)
   clear hz HY hy hy1
   go_enter Tryz.func102,Tryz.ntmps102
   go_wp2_with fail
   refine (HLA.out _ (HB0.out _)).mono ?_
   rintro e1 w1 ⟨rfl,b1⟩
   have r1:=(b1.block w.heap.size (by simp)).trans (World.alloc_heap_new w _)
   have B1:=hid ((HB0.out _).trans (b1.mono (by simp)))
   have c1_0:=row_cells r1 0
   have c1_3:=row_cells r1 3
   have c1_4:=row_cells r1 4
   have c1_5:=row_cells r1 5
   have c1_6:=row_cells r1 6
   simp at c1_0 c1_3 c1_4 c1_5 c1_6
   have R1:=hid r1
   have hz1:w.heap.size < w1.heap.size:=heap_lt r1
   clear b1 r1
   go_wp2_with fail
   refine (HX1.out _ (B1.out)).mono ?_
   rintro e2 w2 ⟨rfl,b2⟩
   have r2:=(b2.block w.heap.size hz1).trans R1.out
   have B2:=hid (B1.out.trans (b2.mono B1.out.size))
   have c2_0:=row_cells r2 0
   have c2_7:=row_cells r2 7
   have c2_8:=row_cells r2 8
   have c2_9:=row_cells r2 9
   have c2_10:=row_cells r2 10
   simp at c2_0 c2_7 c2_8 c2_9 c2_10
   have R2:=hid r2
   have hz2:w.heap.size < w2.heap.size:=heap_lt r2
   clear b2 r2
   go_wp2_with fail
   refine (HY1.out _ (B2.out)).mono ?_
   rintro e3 w3 ⟨rfl,b3⟩
   have r3:=(b3.block w.heap.size hz2).trans R2.out
   have B3:=hid (B2.out.trans (b3.mono B2.out.size))
   have R3:=hid r3
   have hz3:w.heap.size < w3.heap.size:=heap_lt r3
   clear b3 r3
   cases xa with
   | false=>
    go_wp2
    go_ret
    exact⟨by rw[HZ.out];rfl,B3.out⟩
   | true=>
    cases x1 with
    | false=>
     go_wp2
     go_ret
     exact⟨by rw[HZ.out];rfl,B3.out⟩
    | true=>
     go_wp2
     go_ret
     exact⟨by rw[HZ.out];rfl,B3.out⟩
def fitsRB (ds:List De) (vs:List ByteArray) (ts:List Int) (r:Ru):Bool:=fitsAB ds vs ts r.head && r.body.all (fitsLB ds vs ts)
theorem fitsRB_iff {ds:List De} {vs:List ByteArray} {ts:List Int} {r:Ru}:fitsRB ds vs ts r=true ↔ FitsU ds r vs ts:=by
 unfold fitsRB
 rw[Bool.and_eq_true,List.all_eq_true]
 have hA:∀ a:Am,fitsAB ds vs ts a=true ↔ ∀ x ∈ plc ds a,fitsR vs ts x.1 x.2=true:=fun a=>by unfold fitsAB;rw[List.all_eq_true]
 constructor
 ·rintro⟨h1,h2⟩
  refine⟨fun a ha=>?_,fun l hl hd=>?_,fun l hl hg=>?_⟩
  ·rcases List.mem_cons.1 ha with rfl | ha
   ·exact (hA _).1 h1
   ·obtain⟨l,hl,hd,rfl⟩:=mem_atomsL.1 ha
    have:=h2 l hl
    rcases agg_or hd with h | h
    ·rw[fitsLB_plain hd h] at this
     exact (hA _).1 this
    ·have hn:¬ (l.op=1∨l.op=2):=by
      unfold aggB at h
      simp only[Bool.and_eq_true,Bool.not_eq_true',beq_eq_false_iff_ne] at h
      omega
     rw[fitsLB_agg hd hn] at this
     simp only[Bool.and_eq_true] at this
     exact (hA _).1 this.1.1
  ·have:=h2 l hl
   rwa [fitsLB_duo hd] at this
  ·have:=h2 l hl
   unfold aggB at hg
   simp only[Bool.and_eq_true,Bool.not_eq_true',beq_eq_false_iff_ne] at hg
   rw[fitsLB_agg hg.1.1 (by omega)] at this
   simp only[Bool.and_eq_true,Bool.or_eq_true,beq_iff_eq] at this
   exact⟨this.1.2,this.2⟩
 ·intro h
  refine⟨(hA _).2 (h.atom _ (List.mem_cons_self ..)),fun l hl=>?_⟩
  cases hd:duoB l with
  | true=>rw[fitsLB_duo hd];exact h.duo l hl hd
  | false=>
   have ha:=(hA _).2 (h.atom l.a (List.mem_cons_of_mem _ (mem_atomsL.2 ⟨l,hl,hd,rfl⟩)))
   rcases agg_or hd with h1 | h1
   ·rw[fitsLB_plain hd h1];exact ha
   ·have hn:¬ (l.op=1∨l.op=2):=by
     have h1:=h1
     unfold aggB at h1
     simp only[Bool.and_eq_true,Bool.not_eq_true',beq_eq_false_iff_ne] at h1
     omega
    rw[fitsLB_agg hd hn]
    obtain⟨g1,g2⟩:=h.agg l hl h1
    simp only[Bool.and_eq_true,Bool.or_eq_true,beq_iff_eq]
    exact⟨⟨ha,g1⟩,g2⟩
set_option maxRecDepth 100000 in
set_option maxHeartbeats 8000000 in
theorem rfitsRule_c (vs:List ByteArray) (vv:Value) (B g:Nat) (ds:List De) (v:Value) (r:Ru) (ts:List Int) (w:World) (cs:List Value) (hd:SlOf w B 6 (DeC w B) ds v) (hc:RuC w B r cs) (hT:TyS B g w vs vv ts)
  (hr:rightR r=true) (hch:chkA ds (atomsR r)=0) (hv:∀ u ∈ termsR r,u.op=1→u.s ∈ vs∧u.l=[]) :
  Calls Tryz.prog 67 #[v,.agg cs.toArray,vv,.slice (some ⟨g,0,none⟩) ts.length ts.length] w fun e w'=>e=.returned (.bool (fitsRB ds vs ts r))∧Below w.heap.size w w':=by
 have hbad:=chkA_iff.1 hch
 obtain⟨o0,k0,o1,k1,rfl,_,hh,hbd⟩:=hc.look
 have hbase:=hT.base
 have hrow:=hT.row
 have HB0:Hid (∀ (x:Obj),Below w.heap.size w (w.alloc x)):=hid fun x=>(Below.refl _ _).alloc (Nat.le_refl _) _
 obtain⟨o2,k2,e2,hc1,hm1,S1⟩:=SlOf.open hbd
 cases e2
 have HA:=hid (fun (W:World) (h:Below w.heap.size w W)=>rfitsAtom_c vs vv B g ds v r.head ts W _ (SlOf.decl hd (h.mono hbase) (Nat.le_refl _)) (hh.below (h.mono hbase)) (hT.kept h) (hbad _ (List.mem_cons_self ..)) (right_arg (right_atoms hr _ (List.mem_cons_self ..))) (fun u hu=>hv u (List.mem_append_left _ hu)))
 have HL:=hid (fun (t:Lt) (ht:t ∈ r.body) (W:World) (cs:List Value) (h:Below w.heap.size w W) (hc:LtC W B t cs)=>show Calls Tryz.prog 102 #[v,.agg cs.toArray,vv,.slice (some ⟨g,0,none⟩) ts.length ts.length] W fun e w'=>e=.returned (.bool (fitsLB ds vs ts t))∧Below W.heap.size W w' from by
  have hvt:∀ u ∈ litTs t,u.op=1→u.s ∈ vs∧u.l=[]:=fun u hu=>hv u (List.mem_append_right _ (List.mem_flatMap.2 ⟨t,ht,hu⟩))
  cases hdu:duoB t with
  | true=>exact rfitsDuo_c vs vv B g ds v t ts W cs hc (hT.kept h) (right_lits hr t ht) hdu hvt
  | false=>exact rfitsPart_c vs vv B g ds v t ts W cs (SlOf.decl hd (h.mono hbase) (Nat.le_refl _)) hc (hT.kept h) (right_lits hr t ht) hdu (hbad _ (List.mem_cons_of_mem _ (mem_atomsL.2 ⟨t,ht,hdu,rfl⟩))) hvt)
 have HZ:Hid (fitsRB ds vs ts r=(fitsAB ds vs ts r.head && r.body.all (fitsLB ds vs ts))):=hid rfl
 obtain⟨X,hX⟩:∃ X,fitsRB ds vs ts r=X:=⟨_,rfl⟩
 rw[hX] at HZ ⊢
 obtain⟨xa,hxa⟩:∃ xa,fitsAB ds vs ts r.head=xa:=⟨_,rfl⟩
 rw[hxa] at HA HZ
 obtain⟨ov,kv,rfl,_⟩:=SlOf.uni hT.vars
 obtain⟨od,kd,rfl,_⟩:=SlOf.uni hd
 clear hd hc hT hr hch hv hbad hh hbd hX hxa
 go_enter Tryz.func67,Tryz.ntmps67
 go_wp2_with fail
 refine (HA.out _ (HB0.out _)).mono ?_
 rintro e w1 ⟨rfl,b1⟩
 have q1:=(b1.block w.heap.size (by simp)).trans (World.alloc_heap_new w _)
 have B1:=hid ((HB0.out _).trans (b1.mono (by simp)))
 have Q1:=hid q1
 clear b1 q1 HA
 go_wp2
 go_loopw [9,10] (fun av iv wr=>∃ (j:Nat) (m:Bool),j≤r.body.length∧iv=.int .i64 j∧av=.bool m∧X=(m && (r.body.drop j).all (fitsLB ds vs ts))∧Below w1.heap.size w1 wr) (fun _ iv _=>r.body.length - (intOf iv).toNat)
 case atStart=>exact⟨0,xa,Nat.zero_le _,rfl,rfl,HZ.out,Below.refl _ _⟩
 case round=>
  obtain⟨j,m,hj,rfl,rfl,hL,hK⟩:=hrel
  have hBw:Below w.heap.size w wr:=B1.out.trans (hK.mono B1.out.size)
  have qr:=(hK.block w.heap.size (heap_lt Q1.out)).trans Q1.out
  have hz0:w.heap.size < wr.heap.size:=heap_lt qr
  have x0:wr.cell? ⟨w.heap.size,2,none⟩=some (.slice o1 r.body.length k1):=row_cells qr 2
  have HLr:=hid hL
  have HK:=hid hK
  have HBw:=hid hBw
  clear hL hK qr hBw
  by_cases hlt:j < r.body.length
  ·have hlt3:(j:Int) < (r.body.length:Int):=by omega
   cases m with
   | false=>
    have Hst:Hid (X=false):=hid (by rw[HLr.out,Bool.false_and])
    go_wp2
    go_ret
    exact⟨by rw[Hst.out];rfl,HBw.out⟩
   | true=>
    obtain⟨t,ht⟩:∃ t,r.body[j]?=some t:=⟨_,List.getElem?_eq_getElem hlt⟩
    have Hst:Hid (X=(fitsLB ds vs ts t && (r.body.drop (j+1)).all (fitsLB ds vs ts))):=hid (by rw[HLr.out,Bool.true_and,all_drop' (f:=fitsLB ds vs ts) ht])
    obtain⟨a,p0,q0,p1,q1,p2,q2,rfl,ha,Hc,c0,c1,c2,c3,c4,c5,c6,c7,c8,c9,c10⟩:=lt_in S1 (HBw.out.mono hbase) ht
    have hal:(a.add (j * 11)).block < wr.heap.size:=by rw[addBlock];have:=HBw.out.size;omega
    have HCL:=hid (HL.out t (List.mem_of_getElem? ht) wr _ HBw.out Hc.out)
    obtain⟨xt,hxt⟩:∃ xt,fitsLB ds vs ts t=xt:=⟨_,rfl⟩
    rw[hxt] at HCL Hst
    clear ht hxt
    go_wp2_with fail
    refine HCL.out.mono ?_
    rintro e3 w3 ⟨rfl,b3⟩
    have HB3:=hid (HK.out.trans (b3.mono HK.out.size))
    clear b3 HCL
    go_wp2
    go_roundw
    case rel=>exact⟨j+1,xt,hlt,by go_num,rfl,Hst.out,HB3.out⟩
    case measure=>simp[intOf];omega
  ·have hlt3:¬ (j:Int) < (r.body.length:Int):=by omega
   obtain rfl:j=r.body.length:=by omega
   go_wp2
   go_ret
   refine⟨?_,HBw.out⟩
   rw[HLr.out,List.drop_eq_nil_of_le (Nat.le_refl _)]
   simp
end Go.Proofs.YtfmldnbcjbflbaaGreatDoor
