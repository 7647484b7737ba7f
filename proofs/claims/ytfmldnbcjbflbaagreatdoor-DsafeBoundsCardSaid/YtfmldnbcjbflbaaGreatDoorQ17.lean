/- Zb@012, Zp@012, Yrv@012, Zw@012, Zg@012, Ymv@012, Ysh@012 -/
import Derived.Lib.AppendZeros
import Derived.Test.YtfmldnbcjbflbaaGreatDoorQ13
import Derived.Test.YtfmldnbcjbflbaaGreatDoorQ16
set_option linter.unusedSimpArgs false
set_option linter.unusedVariables false
namespace Go.Proofs.YtfmldnbcjbflbaaGreatDoor
open Lib(hid)
open Go.RowKit
set_option maxRecDepth 100000 in
set_option maxHeartbeats 4000000 in
theorem has_c (s:ByteArray) (hs:s.size≤maxLen) (M n c:Nat) (B:Bd) (w:World) (hM:MapI Tryz.prog w 9 3 M n B c) :
  Calls Tryz.prog 47 #[.map (some M),.string s] w fun e w'=>e=.returned (.bool (hasZ B s))∧w'=w:=by
 have zE:∀ w:World,(zeroValue 3).run Tryz.prog w=.ok (.int .i64 0) w:=fun w=>by kernel_rfl
 have HM:=hid hM
 clear hM
 go_enter Tryz.func47,Tryz.ntmps47
 go_wp2_with (at_lookup;refine wpList_mapI_get _ rfl _ _ 70 rfl 9 3 Tryz.underlying70 Tryz.underlying9 Tryz.underlying3 (zE _) M n B c rfl HM.out s rfl hs ?_;intro _)
 go_ret
 exact⟨rfl,rfl⟩
set_option maxRecDepth 100000 in
set_option maxHeartbeats 4000000 in
theorem hasAll_c (l:List ByteArray) (v:Value) (M n c:Nat) (B:Bd) (w:World) (hv:SlOf w w.heap.size 1 StrC l v) (hM:MapI Tryz.prog w 9 3 M n B c) :
  Calls Tryz.prog 135 #[.map (some M),v] w fun e w'=>e=.returned (.bool (allZ B l))∧w'=w:=by
 have HM:=hid hM
 obtain⟨o1,k1,rfl,_,_,S1⟩:=SlOf.open hv
 clear hM hv
 have hB0:Below w.heap.size w w:=Below.refl _ _
 go_enter Tryz.func135,Tryz.ntmps135
 go_wp2
 go_loopw [9] (fun i wr=>∃ k:Nat,k≤l.length∧i=.int .i64 k∧allZ B (l.take k)=true∧wr=w) (fun i _=>l.length - (intOf i).toNat)
 case atStart=>exact⟨0,Nat.zero_le _,rfl,rfl,rfl⟩
 case round=>
  obtain⟨k,hk,rfl,ha,rfl⟩:=hrel
  have Ha:=hid ha
  clear ha
  by_cases hlt:k < l.length
  ·have hlt':(k:Int) < (l.length:Int):=by omega
   obtain⟨x,hx⟩:∃ x,l[k]?=some x:=⟨l[k],List.getElem?_eq_getElem hlt⟩
   obtain⟨p,rfl,hp,hsz,c0⟩:=str_at S1 hB0 hx
   have HX:=hid (has_c x hsz M n c B wr HM.out)
   have Hst:Hid (allZ B (l.take (k+1))=hasZ B x):=hid (by
    have h:=Ha.out
    unfold allZ at h ⊢
    rw[List.take_add_one,hx,List.all_append,h]
    simp)
   have Hx:=hid (List.mem_of_getElem? hx)
   clear hx
   go_wp2_with fail
   refine HX.out.mono ?_
   rintro e w1 ⟨rfl,rfl⟩
   cases hb:hasZ B x with
   | true=>
    have Hst2:Hid (allZ B (l.take (k+1))=true):=hid (by rw[Hst.out,hb])
    clear hb
    go_wp2
    go_roundw
    case rel=>exact⟨k+1,hlt,by go_num,Hst2.out,by trivial⟩
    case measure=>simp[intOf];omega
   | false=>
    have Hq:Hid (allZ B l=false):=hid (by
     unfold allZ
     rw[List.all_eq_false]
     exact⟨x,Hx.out,by rw[hb];decide⟩)
    clear hb
    go_wp2
    go_ret
    exact⟨by rw[Hq.out];rfl,rfl⟩
  ·have hlt':¬ (k:Int) < (l.length:Int):=by omega
   have Hq:Hid (allZ B l=true):=hid (by have h:=Ha.out;rwa [List.take_of_length_le (by omega)] at h)
   go_wp2
   go_ret
   exact⟨by rw[Hq.out];rfl,rfl⟩
set_option maxRecDepth 100000 in
set_option maxHeartbeats 4000000 in
theorem lacks_c (t:Tm) (cs:List Value) (n₀:Nat) (M n c:Nat) (B:Bd) (w:World) (hc:TmC w n₀ t cs) (hM:MapI Tryz.prog w 9 3 M n B c) :
  Calls Tryz.prog 110 #[.map (some M),.agg cs.toArray] w fun e w'=>e=.returned (.bool (lacksZ B t))∧Below w.heap.size w w':=by
 obtain⟨v,rfl,_,hsz,_⟩:=hc.parts
 have hB0:∀ x:Obj,Hid (Below w.heap.size w (w.alloc x)):=fun x=>hid ((Below.refl _ _).alloc (Nat.le_refl _) _)
 have HM:=hid (fun x:Obj=>has_c t.s hsz M n c B (w.alloc x) (hM.alloc x))
 clear hM hc
 unfold lacksZ
 by_cases h1:t.op=1
 ·have hq:(t.op == 1)=true:=by simp[h1]
  go_enter Tryz.func110,Tryz.ntmps110
  go_wp2_with fail
  refine (HM.out _).mono ?_
  rintro e w1 ⟨rfl,rfl⟩
  go_wp2
  go_ret
  exact⟨by rw[hq];simp,(hB0 _).out⟩
 ·have hq:(t.op == 1)=false:=by simp[h1]
  go_enter Tryz.func110,Tryz.ntmps110
  go_wp2
  go_ret
  exact⟨by rw[hq];simp,(hB0 _).out⟩
set_option maxRecDepth 100000 in
set_option maxHeartbeats 4000000 in
theorem isAgg_v (t:Lt) (v1 v2 v3 v4 v5 v6 v7 v8 v9 v10:Value) (w:World) :
  Calls Tryz.prog 51 #[.agg #[.int .i64 t.op,v1,v2,v3,v4,v5,v6,v7,v8,v9,v10]] w fun e w'=>e=.returned (.bool (aggO t.op))∧Below w.heap.size w w':=by
 have hB0:∀ x:Obj,Hid (Below w.heap.size w (w.alloc x)):=fun x=>hid ((Below.refl _ _).alloc (Nat.le_refl _) _)
 by_cases h3:t.op=7∨t.op=8∨t.op=9∨t.op=10
 ·have Hq:Hid (aggO t.op=true):=hid (by unfold aggO;rcases h3 with h | h | h | h <;> rw[h] <;> rfl)
  rcases h3 with h3 | h3 | h3 | h3
  all_goals
   go_enter Tryz.func51,Tryz.ntmps51
   go_wp2
   go_ret
   exact⟨by rw[Hq.out];rfl,(hB0 _).out⟩
 ·have g3:t.op≠7:=fun h=>h3 (.inl h)
  have g4:t.op≠8:=fun h=>h3 (.inr (.inl h))
  have g5:t.op≠9:=fun h=>h3 (.inr (.inr (.inl h)))
  have g6:t.op≠10:=fun h=>h3 (.inr (.inr (.inr h)))
  have Hq:Hid (aggO t.op=false):=hid (by unfold aggO;simp[g3,g4,g5,g6])
  clear h3
  go_enter Tryz.func51,Tryz.ntmps51
  go_wp2
  go_ret
  exact⟨by rw[Hq.out];rfl,(hB0 _).out⟩
theorem isAgg_c (t:Lt) (cs:List Value) (n₀:Nat) (w:World) (hc:LtC w n₀ t cs) :
  Calls Tryz.prog 51 #[.agg cs.toArray] w fun e w'=>e=.returned (.bool (aggO t.op))∧Below w.heap.size w w':=by
 obtain⟨o0,k0,o1,k1,o2,k2,rfl,_⟩:=hc.look
 exact isAgg_v t _ _ _ _ _ _ _ _ _ _ w
set_option maxRecDepth 100000 in
set_option maxHeartbeats 4000000 in
theorem isRck_c (t:Tm) (cs:List Value) (n₀:Nat) (w:World) (hc:TmC w n₀ t cs) :
  Calls Tryz.prog 111 #[.agg cs.toArray] w fun e w'=>e=.returned (.bool (rckT t))∧Below w.heap.size w w':=by
 obtain⟨v,rfl,_,hsz,_⟩:=hc.parts
 have hB0:∀ x:Obj,Hid (Below w.heap.size w (w.alloc x)):=fun x=>hid ((Below.refl _ _).alloc (Nat.le_refl _) _)
 clear hc
 by_cases h3:t.op=5∨t.op=6∨t.op=7
 ·have Hq:Hid (rckT t=true):=hid (by unfold rckT;rcases h3 with h | h | h <;> rw[h] <;> rfl)
  rcases h3 with h3 | h3 | h3
  all_goals
   go_enter Tryz.func111,Tryz.ntmps111
   go_wp2
   go_ret
   exact⟨by rw[Hq.out];rfl,(hB0 _).out⟩
 ·have g3:t.op≠5:=fun h=>h3 (.inl h)
  have g4:t.op≠6:=fun h=>h3 (.inr (.inl h))
  have g5:t.op≠7:=fun h=>h3 (.inr (.inr h))
  have Hq:Hid (rckT t=false):=hid (by unfold rckT;simp[g3,g4,g5])
  clear h3
  go_enter Tryz.func111,Tryz.ntmps111
  go_wp2
  go_ret
  exact⟨by rw[Hq.out];rfl,(hB0 _).out⟩
theorem mapI_cells {P:Program} {w w':World} {kT eT:TypeId} {B n:Nat} {f:List UInt8→Int} {c:Nat} (h:MapI P w kT eT B n f c) (hg:w.grownBy w' (some B)) {p:Addr} {v:Value} (hp:w.cell? p=some v):w'.cell? p=some v:=by
 obtain⟨o,ho,hoc⟩:=cells_of_cell hp
 have hne:p.block≠B:=fun e=>by
  obtain⟨D,⟨es,clock,h1,_⟩,_⟩:=h
  rw[e,h1] at ho
  cases ho
  cases hoc
 exact (World.cell?_of_block (hg.block _ (World.block_lt_of_cell? _ _ hp) (fun e=>hne (Option.some.inj e)))).trans hp
theorem mapI_rows {P:Program} {w w':World} {kT eT:TypeId} {B n:Nat} {f:List UInt8→Int} {c:Nat} (h:MapI P w kT eT B n f c) (hg:w.grownBy w' (some B)) {i:Nat} {cs:Array Value} {T:TypeId} (hp:w.heap[i]?=some (.cells cs T (0,0))):w'.heap[i]?=some (.cells cs T (0,0)):=by
 refine (hg.block i (heap_lt hp) (fun e=>?_)).trans hp
 obtain⟨D,⟨es,clock,h1,_⟩,_⟩:=h
 rw[Option.some.inj e,h1] at hp
 cases hp
set_option maxRecDepth 100000 in
set_option maxHeartbeats 4000000 in
theorem add_c (l:List ByteArray) (v:Value) (d:Nat) (hd:0 < d) (hd2:d≤1000000) (M n c:Nat) (B:Bd) (w:World) (hn:n+l.length≤4000000) (hv:SlOf w w.heap.size 1 StrC l v) (hM:MapI Tryz.prog w 9 3 M n B c) :
  Calls Tryz.prog 106 #[.map (some M),v,.int .i64 d] w fun e w'=>e=.returned (.tuple #[])∧(∃ c',MapI Tryz.prog w' 9 3 M (n+l.length) (addZ d B l) c')∧w.grownBy w' (some M):=by
 have HM:=hid hM
 have hMl:=hM.lt
 obtain⟨o1,k1,rfl,_,_,S1⟩:=SlOf.open hv
 have Hd:Hid ((Lit.int .i64 d).wf=true):=hid (WalkArith.wf_i64 (by omega))
 clear hM hv
 go_enter Tryz.func106,Tryz.ntmps106
 go_wp2
 go_loopw [10] (fun i wr=>∃ (k:Nat) (ck:Nat),k≤l.length∧i=.int .i64 k∧MapI Tryz.prog wr 9 3 M (n+k) (addZ d B (l.take k)) ck∧w.grownBy wr (some M)) (fun i _=>l.length - (intOf i).toNat)
 case atStart=>exact⟨0,c,Nat.zero_le _,rfl,HM.out,World.grownBy.refl _ _⟩
 case round=>
  obtain⟨k,ck,hk,rfl,hM2,hg⟩:=hrel
  have HM2:=hid hM2
  have HG:=hid hg
  clear hM2
  by_cases hlt:k < l.length
  ·have hlt':(k:Int) < (l.length:Int):=by omega
   obtain⟨x,hx⟩:∃ x,l[k]?=some x:=⟨l[k],List.getElem?_eq_getElem hlt⟩
   obtain⟨p,cs,rfl,hp,_,⟨rfl,hsz⟩,h2⟩:=S1.out k x hx
   have c0':=h2.n1
   rw[Nat.mul_one] at c0'
   have c0:=mapI_cells HM.out hg c0'
   clear c0'
   have hpl:(p.add k).block < wr.heap.size:=by rw[addBlock];have:=hg.size;omega
   have HX:=hid (has_c x hsz M (n+k) ck (addZ d B (l.take k)) wr HM2.out)
   have Hst:=hid (addZ_take (d:=d) (B:=B) hx)
   clear hx h2 hg
   go_wp2_with fail
   refine HX.out.mono ?_
   rintro e w1 ⟨rfl,rfl⟩
   cases hb:hasZ (addZ d B (l.take k)) x with
   | true=>
    have Hst2:Hid (addZ d B (l.take (k+1))=addZ d B (l.take k)):=hid (by rw[Hst.out,hb];rfl)
    clear hb
    go_wp2
    go_roundw
    case rel=>exact⟨k+1,ck,hlt,by go_num,by rw[Hst2.out];exact HM2.out.mono (by omega),HG.out⟩
    case measure=>simp[intOf];omega
   | false=>
    have Hst2:Hid (addZ d B (l.take (k+1))=updF (addZ d B (l.take k)) x.data.toList d):=hid (by rw[Hst.out,hb];rfl)
    have Hle:Hid (n+k < maxLen):=hid (by unfold maxLen;omega)
    have Hd0:Hid ((d:Int)≠0):=hid (by omega)
    clear hb
    go_wp2_with (at_mapUpdate;refine wpList_mapI_put _ rfl _ _ _ 70 rfl 9 3 Tryz.underlying70 Tryz.underlying9 Tryz.underlying3 M (n+k) (addZ d B (l.take k)) ck rfl HM2.out Hle.out x d rfl rfl hsz Hd0.out Hd.out ?_;intro w2 hm2 hg2;have HM3:=hid hm2;have HG3:=hid hg2;clear hm2 hg2)
    go_roundw
    case rel=>exact⟨k+1,_,hlt,by go_num,by rw[Hst2.out];exact HM3.out,HG.out.trans HG3.out⟩
    case measure=>simp[intOf];omega
  ·have hlt':¬ (k:Int) < (l.length:Int):=by omega
   obtain rfl:k=l.length:=by omega
   have h:=HM2.out
   rw[List.take_of_length_le (Nat.le_refl _)] at h
   have HM3:=hid h
   clear h
   go_wp2
   go_end0
   exact⟨rfl,⟨_,HM3.out⟩,HG.out⟩
def PtC (w:World) (B:Nat) (p:Pt) (cs:List Value):Prop:=∃ cl vx vy va vr vo,cs=.int .i64 (p.place:Int)::(cl++[vx,vy,va,vr,vo])∧LtC w B p.lit cl∧SlOf w B 1 StrC p.x vx∧SlOf w B 1 StrC p.y vy∧SlOf w B 1 StrC p.a va∧SlOf w B 1 StrC p.rk vr∧SlOf w B 1 StrC p.ou vo
theorem PtC.len {w:World} {B:Nat} {p:Pt} {cs:List Value} (h:PtC w B p cs):cs.length=17:=by
 obtain⟨cl,vx,vy,va,vr,vo,rfl,h1,_⟩:=h
 simp[h1.len]
theorem PtC.look {w:World} {B:Nat} {p:Pt} {cs:List Value} (h:PtC w B p cs):∃ o0 k0 o1 k1 o2 k2 o3 k3 o4 k4 o5 k5 o6 k6 o7 k7,
  cs=[.int .i64 (p.place:Int),.int .i64 p.lit.op,.string p.lit.a.rel,.slice o0 p.lit.a.l.length k0,.int .i64 p.lit.x.op,.string p.lit.x.s,.int .i64 p.lit.x.n,.slice o1 p.lit.x.l.length k1,.int .i64 p.lit.y.op,.string p.lit.y.s,.int .i64 p.lit.y.n,.slice o2 p.lit.y.l.length k2,
   .slice o3 p.x.length k3,.slice o4 p.y.length k4,.slice o5 p.a.length k5,.slice o6 p.rk.length k6,.slice o7 p.ou.length k7] ∧
  LtC w B p.lit [.int .i64 p.lit.op,.string p.lit.a.rel,.slice o0 p.lit.a.l.length k0,.int .i64 p.lit.x.op,.string p.lit.x.s,.int .i64 p.lit.x.n,.slice o1 p.lit.x.l.length k1,.int .i64 p.lit.y.op,.string p.lit.y.s,.int .i64 p.lit.y.n,.slice o2 p.lit.y.l.length k2] ∧
  SlOf w B 1 StrC p.x (.slice o3 p.x.length k3)∧SlOf w B 1 StrC p.y (.slice o4 p.y.length k4)∧SlOf w B 1 StrC p.a (.slice o5 p.a.length k5)∧SlOf w B 1 StrC p.rk (.slice o6 p.rk.length k6)∧SlOf w B 1 StrC p.ou (.slice o7 p.ou.length k7):=by
 obtain⟨cl,vx,vy,va,vr,vo,rfl,h1,h2,h3,h4,h5,h6⟩:=h
 obtain⟨o0,k0,o1,k1,o2,k2,rfl,_⟩:=h1.look
 obtain⟨o3,k3,rfl,_⟩:=SlOf.uni h2
 obtain⟨o4,k4,rfl,_⟩:=SlOf.uni h3
 obtain⟨o5,k5,rfl,_⟩:=SlOf.uni h4
 obtain⟨o6,k6,rfl,_⟩:=SlOf.uni h5
 obtain⟨o7,k7,rfl,_⟩:=SlOf.uni h6
 exact⟨o0,k0,o1,k1,o2,k2,o3,k3,o4,k4,o5,k5,o6,k6,o7,k7,rfl,h1,h2,h3,h4,h5,h6⟩
theorem info_str:(Tryz.prog.info? 9).map (fun i=>(i.zero,i.size,i.bytes))=some (some (.string ⟨#[]⟩),1,16):=by kernel_rfl
theorem one_str (s:ByteArray):∀ u ∈ [Value.string s],u.oneCell'=true:=by
 intro u hu
 rw[List.mem_singleton.1 hu]
 rfl
theorem str_one (s:ByteArray) (cs:List Value) (h:StrC s cs):∀ u ∈ cs,u.oneCell'=true:=by
 rw[h.1]
 exact one_str s
theorem laid_str {l:List ByteArray} {xs:List Value} (h:Laid 1 StrC l xs):xs=l.map Value.string:=by
 refine List.ext_getElem? fun i=>?_
 rw[List.getElem?_map]
 by_cases hi:i < l.length
 ·obtain⟨s,hs⟩:∃ s,l[i]?=some s:=⟨_,List.getElem?_eq_getElem hi⟩
  obtain⟨cs,_,h1,h2⟩:=h.2 i s hs
  have:=h2 0 (.string s) (by rw[h1.1];rfl)
  rw[hs]
  simpa using this
 ·have hl:=h.1
  rw[List.getElem?_eq_none (by omega),List.getElem?_eq_none (by omega)]
  rfl
theorem str_sizes {w:World} {B:Nat} {l:List ByteArray} {v:Value} (h:SlOf w B 1 StrC l v):∀ s ∈ l,s.size≤maxLen:=fun s hs=>by
 obtain⟨i,hi⟩:=List.mem_iff_getElem?.1 hs
 obtain⟨_,_,_,_,_,h2⟩:=SlOf.uni h
 obtain⟨_,_,_,_,_,h3,_⟩:=h2 i s hi
 exact h3.2
def VarsR (l:List ByteArray) (n0:Nat) (w:World) (e:Ending) (w':World):Prop:=∃ v,e=.returned v∧SlOf w' w'.heap.size 1 StrC l v∧Below n0 w w'
set_option maxRecDepth 100000 in
set_option maxHeartbeats 4000000 in
theorem with_c (l m:List ByteArray) (v u:Value) (w:World) (h1:SlOf w w.heap.size 1 StrC l v) (h2:SlOf w w.heap.size 1 StrC m u) (hn:l.length+m.length≤1000000) :
  Calls Tryz.prog 79 #[v,u] w (VarsR (withV l m) w.heap.size w):=by
 obtain⟨xs,hlaid,hsp⟩:=sl_laid h1 str_one
 have hxs:=laid_str hlaid
 subst hxs
 have HSz:Hid (∀ s ∈ withV l m,s.size≤maxLen):=hid fun s hs=>((withV_mem _ _ _).1 hs).elim (str_sizes h1 s) (str_sizes h2 s)
 obtain⟨o1,k1,rfl,_,_,S1⟩:=SlOf.open h1
 obtain⟨o2,k2,rfl,_,_,S2⟩:=SlOf.open h2
 have HB0:Hid (Below w.heap.size w w):=hid (Below.refl _ _)
 have HSp:=hid hsp
 have Hn:=hid hn
 have HSzk:Hid (∀ k,∀ s ∈ withV l (m.take k),s.size≤maxLen):=hid fun k s hs=>HSz.out s ((withV_mem _ _ _).2 (((withV_mem _ _ _).1 hs).imp id fun h=>List.mem_of_mem_take h))
 have HLk:Hid (∀ k,k≤m.length→(withV l (m.take k)).length≤l.length+k):=hid fun k hk=>by
  have:=withV_len l (m.take k)
  rw[List.length_take] at this
  omega
 obtain⟨i0,hi,hz0,hz1,hz2⟩:=info_parts info_str
 have Kb:Hid (i0.bytes * (l.length+m.length)≤281474976710656):=hid (by rw[hz2];omega)
 have Km:Hid (l.length+m.length≤maxLen):=hid (by unfold maxLen;omega)
 have hw:IntKind.i64.wrap ((l.length:Int)+(m.length:Int))=(l.length:Int)+(m.length:Int):=IntWalk.i64_in _ (by omega)
 clear h1 h2 hlaid hsp hn
 go_enter Tryz.func79,Tryz.ntmps79
 go_wp2_with (first
  | (at_make;refine wpList_make_own _ rfl _ _ 45 rfl w.heap.size 9 i0 _ 1 Tryz.underlying45 hi hz0 hz1 .i64 .i64 _ (l.length+m.length) rfl rfl (by first | omega | go_num) Kb.out Km.out (Nat.le_refl _) ?_;intro w1 hown1 hg1;have O1:=hid hown1;have G1:=hid hg1;clear hown1 hg1)
  | (at_builtin;refine wpList_append_any _ rfl (.tmp 12) (.tmp 13) 45 rfl w.heap.size 9 i0 _ 1 16 Tryz.underlying45 hi hz0 hz1 hz2 rfl (by decide) _ 0 [] rfl O1.out _ l.length _ rfl (HSp.out.cells fun p c hc=>(World.cell?_of_block (G1.out.block _ (World.block_lt_of_cell? _ _ hc) (by simp))).trans hc) (by have:=Km.out;omega) (by have:=Km.out;have:=Hn.out;omega) (by have:=G1.out.size;omega) ?_;intro v2 w2 hown2 hg2 _;have O2:=hid hown2;have G2:=hid hg2;clear hown2 hg2))
 have hz12:w.heap.size≤w2.heap.size:=by have:=G1.out.size;have:=G2.out.size;omega
 have hb2:Below w.heap.size w w2:=((Below.refl _ _).grown G1.out (Nat.le_refl _) (fun q hq=>by cases hq)).grown G2.out (by have:=G1.out.size;exact this) (fun q hq=>(O1.out.lt q hq).1)
 have O3:Hid (w2.ownsRow w.heap.size 9 1 v2 l.length (l.map Value.string)):=hid (by have:=O2.out;simpa using this)
 have B2:=hid hb2
 clear O1 O2 G1 G2 hb2 HSp hw
 go_loopw [5,6] (fun lv i wr=>∃ k:Nat,k≤m.length∧i=.int .i64 k∧wr.ownsRow w.heap.size 9 1 lv (withV l (m.take k)).length ((withV l (m.take k)).map Value.string)∧Below w.heap.size w wr) (fun _ i _=>m.length - (intOf i).toNat)
 case atStart=>exact⟨0,Nat.zero_le _,rfl,O3.out,B2.out⟩
 case round=>
  obtain⟨k,hk,rfl,hown,hB⟩:=hrel
  have hsl:=sl_row (R:=StrC) hown (fun s hs=>⟨rfl,HSzk.out k s hs⟩)
  have hLk:=HLk.out k hk
  by_cases hlt:k < m.length
  ·have hlt':(k:Int) < (m.length:Int):=by omega
   obtain⟨x,hx⟩:∃ x,m[k]?=some x:=⟨m[k],List.getElem?_eq_getElem hlt⟩
   obtain⟨p,rfl,hp,hsz,c0⟩:=str_at S2 hB hx
   have htk:=withV_take (l:=l) hx
   obtain⟨cur,hcur⟩:∃ cur,withV l (m.take k)=cur:=⟨_,rfl⟩
   rw[hcur] at hown hsl hLk htk
   have HP:=hid (place1_c cur _ x wr hsl)
   have HOWN:=hid hown
   have HB:=hid hB
   have Htk:=hid htk
   have HLc:=hid hLk
   have hpl:(p.add k).block < wr.heap.size:=by rw[addBlock];have:=hB.size;omega
   clear hsl hown hB htk hx hcur hLk
   go_wp2_with fail
   refine HP.out.mono ?_
   rintro e w3 ⟨rfl,b3⟩
   have HOWN3:=hid (own_below HOWN.out b3)
   have HB3:=hid (HB.out.trans (b3.mono HB.out.size))
   have c3:w3.cell? (p.add k)=some (.string x):=(World.cell?_of_block (b3.block _ hpl)).trans c0
   have hpl3:(p.add k).block < w3.heap.size:=by have:=b3.size;omega
   have hB3s:=HB3.out.size
   clear HP b3 c0
   by_cases hneg:placeV cur x < 0
   ·have Hz:Hid (withV l (m.take (k+1))=cur++[x]):=hid (by rw[Htk.out,if_pos hneg])
    have HS1:Hid (cur.length+1≤maxLen):=hid (by have:=HLc.out;have:=Hn.out;unfold maxLen;omega)
    have HS2:Hid ((cur.length+1) * 16≤140737488355328):=hid (by have:=HLc.out;have:=Hn.out;omega)
    clear Htk
    go_wp2_with (at_builtin;refine wpList_append_own _ rfl (.tmp 28) (.tmp 33) 45 rfl w.heap.size 9 i0 _ 1 16 Tryz.underlying45 hi hz0 hz1 hz2 rfl (by decide) _ cur.length _ rfl (HOWN3.out.alloc _) _ 1 1 [.string x] rfl rfl (news_one _ _ _) (one_str _) HS1.out HS2.out (by simp;omega) ?_;intro v' w6 hown' hgrow _;have HG:=hid (grown_past hgrow);have HOWN6:=hid hown';clear hgrow hown')
    go_wp2
    go_roundw
    case rel=>
     refine⟨k+1,hlt,by go_num,?_,?_⟩
     ·rw[Hz.out,List.length_append,List.map_append];exact HOWN6.out
     ·exact HB3.out.grown HG.out hB3s (fun q hq=>(HOWN3.out.lt q hq).1)
    case measure=>simp[intOf];omega
   ·have Hz:Hid (withV l (m.take (k+1))=cur):=hid (by rw[Htk.out,if_neg hneg])
    clear Htk
    go_wp2
    go_roundw
    case rel=>
     refine⟨k+1,hlt,by go_num,?_,HB3.out⟩
     rw[Hz.out];exact HOWN3.out
    case measure=>simp[intOf];omega
  ·have hlt':¬ (k:Int) < (m.length:Int):=by omega
   obtain rfl:k=m.length:=by omega
   rw[List.take_of_length_le (Nat.le_refl _)] at hsl hown
   have HSL:=hid hsl
   have HB:=hid hB
   obtain⟨oq,kq,rfl⟩:=own_shape hown
   clear hown hB hsl
   go_wp2
   go_ret
   exact⟨_,rfl,HSL.out,HB.out⟩
theorem goZ_left {s u:ZS} {p:Pt} (h:goZ s=some (p,u)):∃ i,nextZ s=some i∧s.left[i]?=some p∧u=s.step i p:=by
 unfold goZ at h
 cases hn:nextZ s with
 | none=>rw[hn] at h;cases h
 | some i=>
  rw[hn] at h
  simp only[Option.bind_some,Option.map_eq_some_iff] at h
  obtain⟨q,hq,e⟩:=h
  cases e
  exact⟨i,rfl,hq,rfl⟩
theorem erase_perm {α:Type}:∀ {l:List α} {i:Nat} {p:α},l[i]?=some p→(p::l.eraseIdx i).Perm l
 | x::l,0,p,h=>by
  have:x=p:=by simpa using h
  subst this
  exact List.Perm.refl _
 | x::l,i+1,p,h=>by
  have:=(erase_perm (l:=l) (i:=i) (p:=p) (by simpa using h)).cons x
  exact (List.Perm.swap x p (l.eraseIdx i)).trans this
theorem seqZ_perm:∀ (k:Nat) (s:ZS),((seqZ k s).1.map (·.1)++(seqZ k s).2.left).Perm s.left
 | 0,s=>by simp[seqZ]
 | k+1,s=>by
  rw[seqZ]
  cases hs:goZ s with
  | none=>simp
  | some q=>
   obtain⟨p,u⟩:=q
   obtain⟨i,_,hp,rfl⟩:=goZ_left hs
   simp only[List.map_cons,List.cons_append]
   have h1:=(seqZ_perm k (s.step i p)).cons p
   refine h1.trans ?_
   exact erase_perm hp
theorem places_range (r:Ru):(partsZ r).map Pt.place=List.range r.body.length:=by
 refine List.ext_getElem? fun i=>?_
 unfold partsZ
 rw[List.getElem?_map,List.getElem?_mapIdx]
 by_cases hi:i < r.body.length
 ·rw[List.getElem?_eq_getElem hi,List.getElem?_eq_getElem (by simpa using hi)]
  simp[ptZ]
 ·rw[List.getElem?_eq_none (by omega),List.getElem?_eq_none (by simpa using hi)]
  rfl
def ordN (r:Ru):List Nat:=(walkZ r).1.map fun x=>x.1.place
theorem orderZ_eq (r:Ru):orderZ r=(ordN r).map fun k:Nat=>(k:Int):=by unfold orderZ ordN;rw[List.map_map];rfl
theorem ord_perm (r:Ru):(ordN r++(walkZ r).2.left.map Pt.place).Perm (List.range r.body.length):=by
 have h:=(seqZ_perm r.body.length (zs0 r)).map Pt.place
 rw[List.map_append,List.map_map] at h
 have e:(zs0 r).left.map Pt.place=List.range r.body.length:=places_range r
 rw[e] at h
 exact h
theorem ord_lt {r:Ru} {k:Nat} (h:k ∈ ordN r):k < r.body.length:=List.mem_range.1 ((ord_perm r).subset (List.mem_append_left _ h))
theorem ord_len_le (r:Ru):(ordN r).length≤r.body.length:=by
 have:=(ord_perm r).length_eq
 rw[List.length_append,List.length_range] at this
 omega
theorem come_mem {r:Ru}:comeZ r=true ↔ ∀ k,k < r.body.length→k ∈ ordN r:=by
 unfold comeZ
 rw[List.all_eq_true]
 constructor
 ·intro h k hk
  have:=of_decide_eq_true (h k (List.mem_range.2 hk))
  rw[orderZ_eq] at this
  obtain⟨j,hj,e⟩:=List.mem_map.1 this
  obtain rfl:j=k:=Int.ofNat.inj e
  exact hj
 ·intro h k hk
  refine decide_eq_true ?_
  rw[orderZ_eq]
  exact List.mem_map.2 ⟨k,h k (List.mem_range.1 hk),rfl⟩
theorem sub_len:∀ {l m:List Nat},l.Nodup→(∀ x ∈ l,x ∈ m)→l.length≤m.length
 | [],_,_,_=>Nat.zero_le _
 | x::l,m,hn,hs=>by
  have hx:=hs x (List.mem_cons_self ..)
  have hn':=List.nodup_cons.1 hn
  have:=sub_len (m:=m.erase x) hn'.2 (fun y hy=>(List.mem_erase_of_ne (by rintro rfl;exact hn'.1 hy)).2 (hs y (List.mem_cons_of_mem _ hy)))
  rw[List.length_erase_of_mem hx] at this
  have:=List.length_pos_of_mem hx
  simp only[List.length_cons]
  omega
theorem come_len {r:Ru}:comeZ r=true ↔ (ordN r).length=r.body.length:=by
 rw[come_mem]
 constructor
 ·intro h
  have h1:=sub_len (l:=List.range r.body.length) (m:=ordN r) List.nodup_range fun k hk=>h k (List.mem_range.1 hk)
  rw[List.length_range] at h1
  have:=ord_len_le r
  omega
 ·intro h k hk
  have hp:=ord_perm r
  have hl:=hp.length_eq
  rw[List.length_append,List.length_range] at hl
  have h0:(walkZ r).2.left.map Pt.place=[]:=List.eq_nil_of_length_eq_zero (by omega)
  rw[h0,List.append_nil] at hp
  exact hp.symm.subset (List.mem_range.2 hk)
theorem vz_mem {l:List Tm} {s:ByteArray}:s ∈ vz l ↔ s ∈ occ (subTs l):=onceN_mem _ _
theorem occ_mem {l:List Tm} {s:ByteArray}:s ∈ occ l ↔ ∃ t ∈ l,t.op=1∧t.s=s:=by
 unfold occ
 rw[List.mem_map]
 constructor
 ·rintro⟨t,ht,e⟩
  obtain⟨h1,h2⟩:=List.mem_filter.1 ht
  exact⟨t,h1,by simpa using h2,e⟩
 ·rintro⟨t,h1,h2,e⟩
  exact⟨t,List.mem_filter.2 ⟨h1,by simpa using h2⟩,e⟩
set_option maxRecDepth 100000 in
set_option maxHeartbeats 4000000 in
theorem grow_c (n:Nat) (hn:n≤1000000) (w:World) :
  Calls Tryz.prog 149 #[.slice none 0 0,.int .i64 n] w fun e w'=>∃ v,e=.returned v∧w'.ownsRow w.heap.size 9 1 v 0 []∧Below w.heap.size w w':=by
 obtain⟨i0,hi,hz0,hz1,hz2⟩:=info_parts info_str
 have h1:¬ ((n:Int) < 0):=by omega
 have h2:wrap64 ((0:Int) - (0:Int))=0:=by unfold wrap64;rfl
 have h3:wrap64 ((n:Int) - 0)=(n:Int):=by unfold wrap64;omega
 by_cases h0:n=0
 ·subst h0
  go_enter Tryz.func149,Tryz.ntmps149
  go_wp2
  go_ret
  exact⟨_,rfl,World.ownsRow_nil _ _ _ _,Below.refl _ _⟩
 ·have h4:(n:Int) > 0:=by omega
  have hcap:grownCap w n 0 9≤maxLen:=grownCap_le_maxLen w n 0 9 (by unfold maxLen;omega)
  have hge:n≤grownCap w n 0 9:=grownCap_ge w _ _ _
  have hrz:∀ ty,(Builtin.append_ #[45,3] ty #[.slice none 0 0,.int .i64 n]).run Tryz.prog w=.ok (.slice (some ⟨w.heap.size,0,none⟩) n (grownCap w n 0 9)) (w.drew.alloc (.cells (Builtin.zeroCells (Value.string ⟨#[]⟩).cells n++Builtin.zeroCells (Value.string ⟨#[]⟩).cells (grownCap w n 0 9 - n)) 9)):=fun ty=>
   Lib.run_append_nil_zeros w 45 3 ty 9 i0 (.string ⟨#[]⟩) .i64 .i64 Tryz.underlying45 Tryz.underlying3 hi hz0 n (by omega) (by rw[hz1];decide) (by omega) (by rw[hz2];omega)
  obtain⟨G,hG⟩:∃ G,G=grownCap w n 0 9:=⟨_,rfl⟩
  rw[← hG] at hrz hge hcap
  obtain⟨cur,hcur⟩:∃ cur,cur=Builtin.zeroCells (Value.string ⟨#[]⟩).cells n++Builtin.zeroCells (Value.string ⟨#[]⟩).cells (G - n):=⟨_,rfl⟩
  have hsz:cur.size=G:=by
   rw[hcur]
   simp[size_zeroCells,Value.cells]
   omega
  rw[← hcur] at hrz
  have Own:Hid ((w.drew.alloc (.cells cur 9)).ownsRow w.heap.size 9 1 (.slice (some ⟨w.heap.size,0,none⟩) 0 G) 0 []):=hid ⟨by simp,.inr ⟨w.heap.size,G,cur,rfl,Nat.le_refl _,World.alloc_heap_new w.drew _,Nat.zero_le _,hcap,by rw[hsz];omega,by simp⟩⟩
  have HB:Hid (Below w.heap.size w (w.drew.alloc (.cells cur 9))):=hid ((Below.refl _ _).drew.alloc (Nat.le_refl _) _)
  have hG63:G≤9223372036854775807:=by unfold maxLen at hcap;omega
  clear hG hcur hcap hsz
  go_enter Tryz.func149,Tryz.ntmps149
  go_wp2_with (at_builtin;refine Lib.wpList_append_run _ rfl _ _ _ _ rfl _ _ rfl rfl _ _ (hrz _) ?_)
  go_ret
  exact⟨_,rfl,Own.out,HB.out⟩
theorem termsR_len (r:Ru):(termsR r).length=(subTs r.head.l).length+(r.body.map fun l=>(litTs l).length).sum:=by
 unfold termsR
 rw[List.length_append,List.length_flatMap]
theorem lit_pos (l:Lt):2≤(litTs l).length:=by
 unfold litTs
 simp only[subTs,List.length_append]
 have h1:1≤(subT l.x).length:=by rw[subT_eq];simp
 have h2:1≤(subT l.y).length:=by rw[subT_eq];simp
 omega
theorem body_len (r:Ru):r.body.length≤(termsR r).length:=by
 rw[termsR_len]
 have:∀ l:List Lt,l.length≤(l.map fun l=>(litTs l).length).sum:=by
  intro l
  induction l with
  | nil=>simp
  | cons x l ih=>simp only[List.map_cons,List.sum_cons,List.length_cons];have:=lit_pos x;omega
 have:=this r.body
 omega
theorem drewB {n:Nat} {w w':World} (h:Below n w.drew w'):Below n w w':=⟨h.os,h.tape,h.output,h.size,h.block⟩
def vCells (s:ByteArray):List Value:=[.int .i64 1,.string s,.int .i64 0,.slice none 0 0]
end Go.Proofs.YtfmldnbcjbflbaaGreatDoor
