/- Zb@0123, Zp@0123, Zr@0123 -/
import Derived.Test.YtakpgcmfjlbcgaaGreatDoorQ21
import Derived.Test.YtakpgcmfjlbcgaaGreatDoorQ22
set_option linter.unusedSimpArgs false
set_option linter.unusedVariables false
namespace Go.Proofs.YtakpgcmfjlbcgaaGreatDoor
open Lib(hid)
open Go.RowKit
set_option maxRecDepth 100000 in
set_option maxHeartbeats 4000000 in
theorem has_c (s:ByteArray) (hs:s.size≤maxLen) (M n c:Nat) (B:Bd) (w:World) (hM:MapI Tryz.prog w 9 3 M n B c) :
  Calls Tryz.prog 74 #[.map (some M),.string s] w fun e w'=>e=.returned (.bool (hasZ B s))∧w'=w:=by
 have zE:∀ w:World,(zeroValue 3).run Tryz.prog w=.ok (.int .i64 0) w:=fun w=>by kernel_rfl
 have HM:=hid hM
 clear hM
 go_enter Tryz.func74,Tryz.ntmps74
 go_wp2_with (at_lookup;refine wpList_mapI_get _ rfl _ _ 91 rfl 9 3 Tryz.underlying91 Tryz.underlying9 Tryz.underlying3 (zE _) M n B c rfl HM.out s rfl hs ?_;intro _)
 go_ret
 exact⟨rfl,rfl⟩
set_option maxRecDepth 100000 in
set_option maxHeartbeats 4000000 in
theorem hasAll_c (l:List ByteArray) (v:Value) (M n c:Nat) (B:Bd) (w:World) (hv:SlOf w w.heap.size 1 StrC l v) (hM:MapI Tryz.prog w 9 3 M n B c) :
  Calls Tryz.prog 148 #[.map (some M),v] w fun e w'=>e=.returned (.bool (allZ B l))∧w'=w:=by
 have HM:=hid hM
 obtain⟨o1,k1,rfl,_,_,S1⟩:=SlOf.open hv
 clear hM hv
 have hB0:Below w.heap.size w w:=Below.refl _ _
 go_enter Tryz.func148,Tryz.ntmps148
 go_wp2
 go_loopw [9] (fun i wr=>∃ k:Nat,k≤l.length∧i=.int .i64 k∧allZ B (l.take k)=true∧wr=w) (fun i _=>l.length - (intOf i).toNat)
 case atStart=>exact⟨0,Nat.zero_le _,rfl,rfl,rfl⟩
 case round=>
  obtain⟨k,hk,rfl,ha,rfl⟩:=hrel
  have Ha:=hid ha
  clear ha
  by_cases hlt:k < l.length
  ·have hlt':(k:Int) < (l.length:Int):=by omega
   obtain⟨x,hx⟩:∃ x,l[k]?=some x:=⟨l[k],List.getElem?_eq_getElem hlt⟩
   obtain⟨p,rfl,hp,hsz,c0⟩:=str_at S1 hB0 hx
   have HX:=hid (has_c x hsz M n c B wr HM.out)
   have Hst:Hid (allZ B (l.take (k+1))=hasZ B x):=hid (by
    have h:=Ha.out
    unfold allZ at h ⊢
    rw[List.take_add_one,hx,List.all_append,h]
    simp)
   have Hx:=hid (List.mem_of_getElem? hx)
   clear hx
   go_wp2_with fail
   refine HX.out.mono ?_
   rintro e w1 ⟨rfl,rfl⟩
   cases hb:hasZ B x with
   | true=>
    have Hst2:Hid (allZ B (l.take (k+1))=true):=hid (by rw[Hst.out,hb])
    clear hb
    go_wp2
    go_roundw
    case rel=>exact⟨k+1,hlt,by go_num,Hst2.out,by trivial⟩
    case measure=>simp[intOf];omega
   | false=>
    have Hq:Hid (allZ B l=false):=hid (by
     unfold allZ
     rw[List.all_eq_false]
     exact⟨x,Hx.out,by rw[hb];decide⟩)
    clear hb
    go_wp2
    go_ret
    exact⟨by rw[Hq.out];rfl,rfl⟩
  ·have hlt':¬ (k:Int) < (l.length:Int):=by omega
   have Hq:Hid (allZ B l=true):=hid (by have h:=Ha.out;rwa [List.take_of_length_le (by omega)] at h)
   go_wp2
   go_ret
   exact⟨by rw[Hq.out];rfl,rfl⟩
set_option maxRecDepth 100000 in
set_option maxHeartbeats 4000000 in
theorem lacks_c (t:Tm) (cs:List Value) (n₀:Nat) (M n c:Nat) (B:Bd) (w:World) (hc:TmC w n₀ t cs) (hM:MapI Tryz.prog w 9 3 M n B c) :
  Calls Tryz.prog 106 #[.map (some M),.agg cs.toArray] w fun e w'=>e=.returned (.bool (lacksZ B t))∧Below w.heap.size w w':=by
 obtain⟨v,rfl,_,hsz,_⟩:=hc.parts
 have hB0:∀ x:Obj,Hid (Below w.heap.size w (w.alloc x)):=fun x=>hid ((Below.refl _ _).alloc (Nat.le_refl _) _)
 have HM:=hid (fun x:Obj=>has_c t.s hsz M n c B (w.alloc x) (hM.alloc x))
 clear hM hc
 unfold lacksZ
 by_cases h1:t.op=1
 ·have hq:(t.op == 1)=true:=by simp[h1]
  go_enter Tryz.func106,Tryz.ntmps106
  go_wp2_with fail
  refine (HM.out _).mono ?_
  rintro e w1 ⟨rfl,rfl⟩
  go_wp2
  go_ret
  exact⟨by rw[hq];simp,(hB0 _).out⟩
 ·have hq:(t.op == 1)=false:=by simp[h1]
  go_enter Tryz.func106,Tryz.ntmps106
  go_wp2
  go_ret
  exact⟨by rw[hq];simp,(hB0 _).out⟩
set_option maxRecDepth 100000 in
set_option maxHeartbeats 4000000 in
theorem isAgg_v (t:Lt) (v1 v2 v3 v4 v5 v6 v7 v8 v9 v10:Value) (w:World) :
  Calls Tryz.prog 104 #[.agg #[.int .i64 t.op,v1,v2,v3,v4,v5,v6,v7,v8,v9,v10]] w fun e w'=>e=.returned (.bool (aggO t.op))∧Below w.heap.size w w':=by
 have hB0:∀ x:Obj,Hid (Below w.heap.size w (w.alloc x)):=fun x=>hid ((Below.refl _ _).alloc (Nat.le_refl _) _)
 by_cases h3:t.op=7∨t.op=8∨t.op=9∨t.op=10
 ·have Hq:Hid (aggO t.op=true):=hid (by unfold aggO;rcases h3 with h | h | h | h <;> rw[h] <;> rfl)
  rcases h3 with h3 | h3 | h3 | h3
  all_goals
   go_enter Tryz.func104,Tryz.ntmps104
   go_wp2
   go_ret
   exact⟨by rw[Hq.out];rfl,(hB0 _).out⟩
 ·have g3:t.op≠7:=fun h=>h3 (.inl h)
  have g4:t.op≠8:=fun h=>h3 (.inr (.inl h))
  have g5:t.op≠9:=fun h=>h3 (.inr (.inr (.inl h)))
  have g6:t.op≠10:=fun h=>h3 (.inr (.inr (.inr h)))
  have Hq:Hid (aggO t.op=false):=hid (by unfold aggO;simp[g3,g4,g5,g6])
  clear h3
  go_enter Tryz.func104,Tryz.ntmps104
  go_wp2
  go_ret
  exact⟨by rw[Hq.out];rfl,(hB0 _).out⟩
theorem isAgg_c (t:Lt) (cs:List Value) (n₀:Nat) (w:World) (hc:LtC w n₀ t cs) :
  Calls Tryz.prog 104 #[.agg cs.toArray] w fun e w'=>e=.returned (.bool (aggO t.op))∧Below w.heap.size w w':=by
 obtain⟨o0,k0,o1,k1,o2,k2,rfl,_⟩:=hc.look
 exact isAgg_v t _ _ _ _ _ _ _ _ _ _ w
set_option maxRecDepth 100000 in
set_option maxHeartbeats 4000000 in
theorem isRck_c (t:Tm) (cs:List Value) (n₀:Nat) (w:World) (hc:TmC w n₀ t cs) :
  Calls Tryz.prog 107 #[.agg cs.toArray] w fun e w'=>e=.returned (.bool (rckT t))∧Below w.heap.size w w':=by
 obtain⟨v,rfl,_,hsz,_⟩:=hc.parts
 have hB0:∀ x:Obj,Hid (Below w.heap.size w (w.alloc x)):=fun x=>hid ((Below.refl _ _).alloc (Nat.le_refl _) _)
 clear hc
 by_cases h3:t.op=5∨t.op=6∨t.op=7
 ·have Hq:Hid (rckT t=true):=hid (by unfold rckT;rcases h3 with h | h | h <;> rw[h] <;> rfl)
  rcases h3 with h3 | h3 | h3
  all_goals
   go_enter Tryz.func107,Tryz.ntmps107
   go_wp2
   go_ret
   exact⟨by rw[Hq.out];rfl,(hB0 _).out⟩
 ·have g3:t.op≠5:=fun h=>h3 (.inl h)
  have g4:t.op≠6:=fun h=>h3 (.inr (.inl h))
  have g5:t.op≠7:=fun h=>h3 (.inr (.inr h))
  have Hq:Hid (rckT t=false):=hid (by unfold rckT;simp[g3,g4,g5])
  clear h3
  go_enter Tryz.func107,Tryz.ntmps107
  go_wp2
  go_ret
  exact⟨by rw[Hq.out];rfl,(hB0 _).out⟩
theorem mapI_cells {P:Program} {w w':World} {kT eT:TypeId} {B n:Nat} {f:List UInt8→Int} {c:Nat} (h:MapI P w kT eT B n f c) (hg:w.grownBy w' (some B)) {p:Addr} {v:Value} (hp:w.cell? p=some v):w'.cell? p=some v:=by
 obtain⟨o,ho,hoc⟩:=cells_of_cell hp
 have hne:p.block≠B:=fun e=>by
  obtain⟨D,⟨es,clock,h1,_⟩,_⟩:=h
  rw[e,h1] at ho
  cases ho
  cases hoc
 exact (World.cell?_of_block (hg.block _ (World.block_lt_of_cell? _ _ hp) (fun e=>hne (Option.some.inj e)))).trans hp
theorem mapI_rows {P:Program} {w w':World} {kT eT:TypeId} {B n:Nat} {f:List UInt8→Int} {c:Nat} (h:MapI P w kT eT B n f c) (hg:w.grownBy w' (some B)) {i:Nat} {cs:Array Value} {T:TypeId} (hp:w.heap[i]?=some (.cells cs T (0,0))):w'.heap[i]?=some (.cells cs T (0,0)):=by
 refine (hg.block i (heap_lt hp) (fun e=>?_)).trans hp
 obtain⟨D,⟨es,clock,h1,_⟩,_⟩:=h
 rw[Option.some.inj e,h1] at hp
 cases hp
set_option maxRecDepth 100000 in
set_option maxHeartbeats 4000000 in
theorem add_c (l:List ByteArray) (v:Value) (d:Nat) (hd:0 < d) (hd2:d≤1000000) (M n c:Nat) (B:Bd) (w:World) (hn:n+l.length≤4000000) (hv:SlOf w w.heap.size 1 StrC l v) (hM:MapI Tryz.prog w 9 3 M n B c) :
  Calls Tryz.prog 98 #[.map (some M),v,.int .i64 d] w fun e w'=>e=.returned (.tuple #[])∧(∃ c',MapI Tryz.prog w' 9 3 M (n+l.length) (addZ d B l) c')∧w.grownBy w' (some M):=by
 have HM:=hid hM
 have hMl:=hM.lt
 obtain⟨o1,k1,rfl,_,_,S1⟩:=SlOf.open hv
 have Hd:Hid ((Lit.int .i64 d).wf=true):=hid (WalkArith.wf_i64 (by omega))
 clear hM hv
 go_enter Tryz.func98,Tryz.ntmps98
 go_wp2
 go_loopw [10] (fun i wr=>∃ (k:Nat) (ck:Nat),k≤l.length∧i=.int .i64 k∧MapI Tryz.prog wr 9 3 M (n+k) (addZ d B (l.take k)) ck∧w.grownBy wr (some M)) (fun i _=>l.length - (intOf i).toNat)
 case atStart=>exact⟨0,c,Nat.zero_le _,rfl,HM.out,World.grownBy.refl _ _⟩
 case round=>
  obtain⟨k,ck,hk,rfl,hM2,hg⟩:=hrel
  have HM2:=hid hM2
  have HG:=hid hg
  clear hM2
  by_cases hlt:k < l.length
  ·have hlt':(k:Int) < (l.length:Int):=by omega
   obtain⟨x,hx⟩:∃ x,l[k]?=some x:=⟨l[k],List.getElem?_eq_getElem hlt⟩
   obtain⟨p,cs,rfl,hp,_,⟨rfl,hsz⟩,h2⟩:=S1.out k x hx
   have c0':=h2.n1
   rw[Nat.mul_one] at c0'
   have c0:=mapI_cells HM.out hg c0'
   clear c0'
   have hpl:(p.add k).block < wr.heap.size:=by rw[addBlock];have:=hg.size;omega
   have HX:=hid (has_c x hsz M (n+k) ck (addZ d B (l.take k)) wr HM2.out)
   have Hst:=hid (addZ_take (d:=d) (B:=B) hx)
   clear hx h2 hg
   go_wp2_with fail
   refine HX.out.mono ?_
   rintro e w1 ⟨rfl,rfl⟩
   cases hb:hasZ (addZ d B (l.take k)) x with
   | true=>
    have Hst2:Hid (addZ d B (l.take (k+1))=addZ d B (l.take k)):=hid (by rw[Hst.out,hb];rfl)
    clear hb
    go_wp2
    go_roundw
    case rel=>exact⟨k+1,ck,hlt,by go_num,by rw[Hst2.out];exact HM2.out.mono (by omega),HG.out⟩
    case measure=>simp[intOf];omega
   | false=>
    have Hst2:Hid (addZ d B (l.take (k+1))=updF (addZ d B (l.take k)) x.data.toList d):=hid (by rw[Hst.out,hb];rfl)
    have Hle:Hid (n+k < maxLen):=hid (by unfold maxLen;omega)
    have Hd0:Hid ((d:Int)≠0):=hid (by omega)
    clear hb
    go_wp2_with (at_mapUpdate;refine wpList_mapI_put _ rfl _ _ _ 91 rfl 9 3 Tryz.underlying91 Tryz.underlying9 Tryz.underlying3 M (n+k) (addZ d B (l.take k)) ck rfl HM2.out Hle.out x d rfl rfl hsz Hd0.out Hd.out ?_;intro w2 hm2 hg2;have HM3:=hid hm2;have HG3:=hid hg2;clear hm2 hg2)
    go_roundw
    case rel=>exact⟨k+1,_,hlt,by go_num,by rw[Hst2.out];exact HM3.out,HG.out.trans HG3.out⟩
    case measure=>simp[intOf];omega
  ·have hlt':¬ (k:Int) < (l.length:Int):=by omega
   obtain rfl:k=l.length:=by omega
   have h:=HM2.out
   rw[List.take_of_length_le (Nat.le_refl _)] at h
   have HM3:=hid h
   clear h
   go_wp2
   go_end0
   exact⟨rfl,⟨_,HM3.out⟩,HG.out⟩
def PtC (w:World) (B:Nat) (p:Pt) (cs:List Value):Prop:=∃ cl vx vy va vr vo,cs=.int .i64 (p.place:Int)::(cl++[vx,vy,va,vr,vo])∧LtC w B p.lit cl∧SlOf w B 1 StrC p.x vx∧SlOf w B 1 StrC p.y vy∧SlOf w B 1 StrC p.a va∧SlOf w B 1 StrC p.rk vr∧SlOf w B 1 StrC p.ou vo
theorem PtC.len {w:World} {B:Nat} {p:Pt} {cs:List Value} (h:PtC w B p cs):cs.length=17:=by
 obtain⟨cl,vx,vy,va,vr,vo,rfl,h1,_⟩:=h
 simp[h1.len]
theorem PtC.look {w:World} {B:Nat} {p:Pt} {cs:List Value} (h:PtC w B p cs):∃ o0 k0 o1 k1 o2 k2 o3 k3 o4 k4 o5 k5 o6 k6 o7 k7,
  cs=[.int .i64 (p.place:Int),.int .i64 p.lit.op,.string p.lit.a.rel,.slice o0 p.lit.a.l.length k0,.int .i64 p.lit.x.op,.string p.lit.x.s,.int .i64 p.lit.x.n,.slice o1 p.lit.x.l.length k1,.int .i64 p.lit.y.op,.string p.lit.y.s,.int .i64 p.lit.y.n,.slice o2 p.lit.y.l.length k2,
   .slice o3 p.x.length k3,.slice o4 p.y.length k4,.slice o5 p.a.length k5,.slice o6 p.rk.length k6,.slice o7 p.ou.length k7] ∧
  LtC w B p.lit [.int .i64 p.lit.op,.string p.lit.a.rel,.slice o0 p.lit.a.l.length k0,.int .i64 p.lit.x.op,.string p.lit.x.s,.int .i64 p.lit.x.n,.slice o1 p.lit.x.l.length k1,.int .i64 p.lit.y.op,.string p.lit.y.s,.int .i64 p.lit.y.n,.slice o2 p.lit.y.l.length k2] ∧
  SlOf w B 1 StrC p.x (.slice o3 p.x.length k3)∧SlOf w B 1 StrC p.y (.slice o4 p.y.length k4)∧SlOf w B 1 StrC p.a (.slice o5 p.a.length k5)∧SlOf w B 1 StrC p.rk (.slice o6 p.rk.length k6)∧SlOf w B 1 StrC p.ou (.slice o7 p.ou.length k7):=by
 obtain⟨cl,vx,vy,va,vr,vo,rfl,h1,h2,h3,h4,h5,h6⟩:=h
 obtain⟨o0,k0,o1,k1,o2,k2,rfl,_⟩:=h1.look
 obtain⟨o3,k3,rfl,_⟩:=SlOf.uni h2
 obtain⟨o4,k4,rfl,_⟩:=SlOf.uni h3
 obtain⟨o5,k5,rfl,_⟩:=SlOf.uni h4
 obtain⟨o6,k6,rfl,_⟩:=SlOf.uni h5
 obtain⟨o7,k7,rfl,_⟩:=SlOf.uni h6
 exact⟨o0,k0,o1,k1,o2,k2,o3,k3,o4,k4,o5,k5,o6,k6,o7,k7,rfl,h1,h2,h3,h4,h5,h6⟩
theorem row17 {W:World} {b:Nat} {T:TypeId} {c0 c1 c2 c3 c4 c5 c6 c7 c8 c9 c10 c11 c12 c13 c14 c15 c16:Value} (h:W.heap[b]?=some (.cells #[c0,c1,c2,c3,c4,c5,c6,c7,c8,c9,c10,c11,c12,c13,c14,c15,c16] T (0,0))) :
  W.cell? ⟨b,0,none⟩=some c0∧W.cell? ⟨b,1,none⟩=some c1∧W.cell? ⟨b,2,none⟩=some c2∧W.cell? ⟨b,3,none⟩=some c3∧W.cell? ⟨b,4,none⟩=some c4∧W.cell? ⟨b,5,none⟩=some c5∧W.cell? ⟨b,6,none⟩=some c6∧W.cell? ⟨b,7,none⟩=some c7∧W.cell? ⟨b,8,none⟩=some c8∧W.cell? ⟨b,9,none⟩=some c9∧W.cell? ⟨b,10,none⟩=some c10∧W.cell? ⟨b,11,none⟩=some c11∧W.cell? ⟨b,12,none⟩=some c12∧W.cell? ⟨b,13,none⟩=some c13∧W.cell? ⟨b,14,none⟩=some c14∧W.cell? ⟨b,15,none⟩=some c15∧W.cell? ⟨b,16,none⟩=some c16:=
 ⟨row_cells h 0,row_cells h 1,row_cells h 2,row_cells h 3,row_cells h 4,row_cells h 5,row_cells h 6,row_cells h 7,row_cells h 8,row_cells h 9,row_cells h 10,row_cells h 11,row_cells h 12,row_cells h 13,row_cells h 14,row_cells h 15,row_cells h 16⟩
structure Asked (B:Bd) (p:Pt) (blx bly bax bay baa bou brk bin:Bool):Prop where
 lx:lacksZ B p.lit.x=blx
 ly:lacksZ B p.lit.y=bly
 ax:allZ B p.x=bax
 ay:allZ B p.y=bay
 aa:allZ B p.a=baa
 ou:allZ B p.ou=bou
 rk:allZ B p.rk=brk
 inn:inZ p=bin
theorem asked (B:Bd) (p:Pt):∃ a b c d e f g h,Asked B p a b c d e f g h:=⟨_,_,_,_,_,_,_,_,rfl,rfl,rfl,rfl,rfl,rfl,rfl,rfl⟩
set_option maxRecDepth 100000 in
set_option maxHeartbeats 16000000 in
theorem ready3_c (p:Pt) (cs:List Value) (M n c:Nat) (B:Bd) (w:World) (hp:PtC w w.heap.size p cs) (hM:MapI Tryz.prog w 9 3 M n B c) (ho:p.lit.op=3) :
  Calls Tryz.prog 97 #[.agg cs.toArray,.map (some M)] w fun e w'=>e=.returned (.bool (readyZ B p))∧Below w.heap.size w w':=by
 have hMl:=hM.lt
 obtain⟨blx,bly,bax,bay,baa,bou,brk,bin,Q⟩:=asked B p
 obtain⟨o0,k0,o1,k1,o2,k2,o3,k3,o4,k4,o5,k5,o6,k6,o7,k7,rfl,hl,h1,h2,h3,h4,h5⟩:=hp.look
 obtain⟨q0,q1,q2,q3,q4,q5,qe,_,_,hx,hy⟩:=hl.look
 cases qe
 have HLX:=hid (fun (W:World) (hb:Below w.heap.size w W)=>lacks_c p.lit.x _ W.heap.size M n c B W ((hx.under hb).more hb.size) (hM.below hb hMl))
 rw[Q.lx] at HLX
 have HLY:=hid (fun (W:World) (hb:Below w.heap.size w W)=>lacks_c p.lit.y _ W.heap.size M n c B W ((hy.under hb).more hb.size) (hM.below hb hMl))
 rw[Q.ly] at HLY
 have HAX:=hid (fun (W:World) (hb:Below w.heap.size w W)=>hasAll_c p.x _ M n c B W (h1.str hb hb.size) (hM.below hb hMl))
 rw[Q.ax] at HAX
 have HAY:=hid (fun (W:World) (hb:Below w.heap.size w W)=>hasAll_c p.y _ M n c B W (h2.str hb hb.size) (hM.below hb hMl))
 rw[Q.ay] at HAY
 have HAA:=hid (fun (W:World) (hb:Below w.heap.size w W)=>hasAll_c p.a _ M n c B W (h3.str hb hb.size) (hM.below hb hMl))
 rw[Q.aa] at HAA
 have Hq:Hid (readyZ B p=((blx && bay || bly && bax) || (bax && bay && baa))):=hid (by unfold readyZ eqZ plainZ;rw[if_pos ho,Q.lx,Q.ly,Q.ax,Q.ay,Q.aa])
 have B0:Hid (Below w.heap.size w (w.alloc (.cells #[.int .i64 (p.place:Int),.int .i64 p.lit.op,.string p.lit.a.rel,.slice o0 p.lit.a.l.length k0,.int .i64 p.lit.x.op,.string p.lit.x.s,.int .i64 p.lit.x.n,.slice o1 p.lit.x.l.length k1,.int .i64 p.lit.y.op,.string p.lit.y.s,.int .i64 p.lit.y.n,.slice o2 p.lit.y.l.length k2,.slice o3 p.x.length k3,.slice o4 p.y.length k4,.slice o5 p.a.length k5,.slice o6 p.rk.length k6,.slice o7 p.ou.length k7] 126))):=hid ((Below.refl _ _).alloc (Nat.le_refl _) _)
 have R0:=hid (World.alloc_heap_new w (.cells #[.int .i64 (p.place:Int),.int .i64 p.lit.op,.string p.lit.a.rel,.slice o0 p.lit.a.l.length k0,.int .i64 p.lit.x.op,.string p.lit.x.s,.int .i64 p.lit.x.n,.slice o1 p.lit.x.l.length k1,.int .i64 p.lit.y.op,.string p.lit.y.s,.int .i64 p.lit.y.n,.slice o2 p.lit.y.l.length k2,.slice o3 p.x.length k3,.slice o4 p.y.length k4,.slice o5 p.a.length k5,.slice o6 p.rk.length k6,.slice o7 p.ou.length k7] 126))
 clear hp hM hl hx hy h1 h2 h3 h4 h5 Q
 have t3:=congrArg (fun o:Int=>o == 3) ho
 have t2:=congrArg (fun o:Int=>o == 2) ho
 have t4:=congrArg (fun o:Int=>o == 4) ho
 have t5:=congrArg (fun o:Int=>o == 5) ho
 have t6:=congrArg (fun o:Int=>o == 6) ho
 have t8:=congrArg (fun o:Int=>o == 8) ho
 have t9:=congrArg (fun o:Int=>o == 9) ho
 have t10:=congrArg (fun o:Int=>o == 10) ho
 have t7:=congrArg (fun o:Int=>o == 7) ho
 have t1:=congrArg (fun o:Int=>o == 1) ho
 simp only[Int.reduceBEq] at t3 t2 t4 t5 t6 t8 t9 t10 t7 t1
 clear ho
 go_enter Tryz.func97,Tryz.ntmps97
 go_wp2_with fail
 refine (HLX.out _ B0.out).mono ?_
 rintro e1 w1 ⟨rfl,b1⟩
 have R1:=hid ((b1.block w.heap.size (heap_lt R0.out)).trans R0.out)
 have B1:=hid (B0.out.trans (b1.mono B0.out.size))
 have hz1:w.heap.size < w1.heap.size:=heap_lt R1.out
 obtain⟨x0,x1,x2,x3,x4,x5,x6,x7,x8,x9,x10,x11,x12,x13,x14,x15,x16⟩:=row17 R1.out
 clear b1
 cases blx with
 | true=>
  go_wp2_with fail
  refine (HAY.out _ B1.out).mono ?_
  rintro e2 w2 ⟨rfl,rfl⟩
  cases bay with
  | true=>
   go_wp2
   go_ret
   exact⟨by rw[Hq.out];rfl,B1.out⟩
  | false=>
   go_wp2_with fail
   refine (HLY.out _ B1.out).mono ?_
   rintro e3 w3 ⟨rfl,b3⟩
   have R3:=hid ((b3.block w.heap.size (heap_lt R1.out)).trans R1.out)
   have B3:=hid (B1.out.trans (b3.mono B1.out.size))
   have hz3:w.heap.size < w3.heap.size:=heap_lt R3.out
   obtain⟨x0,x1,x2,x3,x4,x5,x6,x7,x8,x9,x10,x11,x12,x13,x14,x15,x16⟩:=row17 R3.out
   clear b3
   cases bly with
   | true=>
    go_wp2_with fail
    refine (HAX.out _ B3.out).mono ?_
    rintro e4 w4 ⟨rfl,rfl⟩
    cases bax with
    | true=>
     go_wp2
     go_ret
     exact⟨by rw[Hq.out];rfl,B3.out⟩
    | false=>
     go_wp2_with fail
     refine (HAX.out _ B3.out).mono ?_
     rintro e5 w5 ⟨rfl,rfl⟩
     go_wp2
     go_ret
     exact⟨by rw[Hq.out];rfl,B3.out⟩
   | false=>
    go_wp2_with fail
    refine (HAX.out _ B3.out).mono ?_
    rintro e4 w4 ⟨rfl,rfl⟩
    cases bax with
    | true=>
     go_wp2_with fail
     refine (HAY.out _ B3.out).mono ?_
     rintro e5 w5 ⟨rfl,rfl⟩
     go_wp2
     go_ret
     exact⟨by rw[Hq.out];rfl,B3.out⟩
    | false=>
     go_wp2
     go_ret
     exact⟨by rw[Hq.out];rfl,B3.out⟩
 | false=>
  go_wp2_with fail
  refine (HLY.out _ B1.out).mono ?_
  rintro e2 w2 ⟨rfl,b2⟩
  have R2:=hid ((b2.block w.heap.size (heap_lt R1.out)).trans R1.out)
  have B2:=hid (B1.out.trans (b2.mono B1.out.size))
  have hz2:w.heap.size < w2.heap.size:=heap_lt R2.out
  obtain⟨x0,x1,x2,x3,x4,x5,x6,x7,x8,x9,x10,x11,x12,x13,x14,x15,x16⟩:=row17 R2.out
  clear b2
  cases bly with
  | true=>
   go_wp2_with fail
   refine (HAX.out _ B2.out).mono ?_
   rintro e3 w3 ⟨rfl,rfl⟩
   cases bax with
   | true=>
    go_wp2
    go_ret
    exact⟨by rw[Hq.out];rfl,B2.out⟩
   | false=>
    go_wp2_with fail
    refine (HAX.out _ B2.out).mono ?_
    rintro e4 w4 ⟨rfl,rfl⟩
    go_wp2
    go_ret
    exact⟨by rw[Hq.out];rfl,B2.out⟩
  | false=>
   go_wp2_with fail
   refine (HAX.out _ B2.out).mono ?_
   rintro e3 w3 ⟨rfl,rfl⟩
   cases bax with
   | true=>
    go_wp2_with fail
    refine (HAY.out _ B2.out).mono ?_
    rintro e4 w4 ⟨rfl,rfl⟩
    cases bay with
    | true=>
     go_wp2_with fail
     refine (HAA.out _ B2.out).mono ?_
     rintro e5 w5 ⟨rfl,rfl⟩
     cases baa with
     | true=>
      go_wp2
      go_ret
      exact⟨by rw[Hq.out];rfl,B2.out⟩
     | false=>
      go_wp2
      go_ret
      exact⟨by rw[Hq.out];rfl,B2.out⟩
    | false=>
     go_wp2
     go_ret
     exact⟨by rw[Hq.out];rfl,B2.out⟩
   | false=>
    go_wp2
    go_ret
    exact⟨by rw[Hq.out];rfl,B2.out⟩
set_option maxRecDepth 100000 in
set_option maxHeartbeats 16000000 in
theorem ready2_c (p:Pt) (cs:List Value) (M n c:Nat) (B:Bd) (w:World) (hp:PtC w w.heap.size p cs) (hM:MapI Tryz.prog w 9 3 M n B c) (ho:p.lit.op=2∨p.lit.op=4∨p.lit.op=5∨p.lit.op=6) :
  Calls Tryz.prog 97 #[.agg cs.toArray,.map (some M)] w fun e w'=>e=.returned (.bool (readyZ B p))∧Below w.heap.size w w':=by
 have hMl:=hM.lt
 obtain⟨blx,bly,bax,bay,baa,bou,brk,bin,Q⟩:=asked B p
 obtain⟨o0,k0,o1,k1,o2,k2,o3,k3,o4,k4,o5,k5,o6,k6,o7,k7,rfl,hl,h1,h2,h3,h4,h5⟩:=hp.look
 obtain⟨q0,q1,q2,q3,q4,q5,qe,_,_,hx,hy⟩:=hl.look
 cases qe
 have HAX:=hid (fun (W:World) (hb:Below w.heap.size w W)=>hasAll_c p.x _ M n c B W (h1.str hb hb.size) (hM.below hb hMl))
 rw[Q.ax] at HAX
 have HAY:=hid (fun (W:World) (hb:Below w.heap.size w W)=>hasAll_c p.y _ M n c B W (h2.str hb hb.size) (hM.below hb hMl))
 rw[Q.ay] at HAY
 have HAA:=hid (fun (W:World) (hb:Below w.heap.size w W)=>hasAll_c p.a _ M n c B W (h3.str hb hb.size) (hM.below hb hMl))
 rw[Q.aa] at HAA
 have Hq:Hid (readyZ B p=(bax && bay && baa)):=hid (by unfold readyZ plainZ;rw[if_neg (by omega),if_pos ho,Q.ax,Q.ay,Q.aa])
 have B0:Hid (Below w.heap.size w (w.alloc (.cells #[.int .i64 (p.place:Int),.int .i64 p.lit.op,.string p.lit.a.rel,.slice o0 p.lit.a.l.length k0,.int .i64 p.lit.x.op,.string p.lit.x.s,.int .i64 p.lit.x.n,.slice o1 p.lit.x.l.length k1,.int .i64 p.lit.y.op,.string p.lit.y.s,.int .i64 p.lit.y.n,.slice o2 p.lit.y.l.length k2,.slice o3 p.x.length k3,.slice o4 p.y.length k4,.slice o5 p.a.length k5,.slice o6 p.rk.length k6,.slice o7 p.ou.length k7] 126))):=hid ((Below.refl _ _).alloc (Nat.le_refl _) _)
 have R0:=hid (World.alloc_heap_new w (.cells #[.int .i64 (p.place:Int),.int .i64 p.lit.op,.string p.lit.a.rel,.slice o0 p.lit.a.l.length k0,.int .i64 p.lit.x.op,.string p.lit.x.s,.int .i64 p.lit.x.n,.slice o1 p.lit.x.l.length k1,.int .i64 p.lit.y.op,.string p.lit.y.s,.int .i64 p.lit.y.n,.slice o2 p.lit.y.l.length k2,.slice o3 p.x.length k3,.slice o4 p.y.length k4,.slice o5 p.a.length k5,.slice o6 p.rk.length k6,.slice o7 p.ou.length k7] 126))
 clear hp hM hl hx hy h1 h2 h3 h4 h5 Q
 rcases ho with ho | ho | ho | ho
 all_goals
  have t3:=congrArg (fun o:Int=>o == 3) ho
  have t2:=congrArg (fun o:Int=>o == 2) ho
  have t4:=congrArg (fun o:Int=>o == 4) ho
  have t5:=congrArg (fun o:Int=>o == 5) ho
  have t6:=congrArg (fun o:Int=>o == 6) ho
  have t8:=congrArg (fun o:Int=>o == 8) ho
  have t9:=congrArg (fun o:Int=>o == 9) ho
  have t10:=congrArg (fun o:Int=>o == 10) ho
  have t7:=congrArg (fun o:Int=>o == 7) ho
  have t1:=congrArg (fun o:Int=>o == 1) ho
  simp only[Int.reduceBEq] at t3 t2 t4 t5 t6 t8 t9 t10 t7 t1
  clear ho
  go_enter Tryz.func97,Tryz.ntmps97
  go_wp2_with fail
  refine (HAX.out _ B0.out).mono ?_
  rintro e1 w1 ⟨rfl,rfl⟩
  cases bax with
  | true=>
   go_wp2_with fail
   refine (HAY.out _ B0.out).mono ?_
   rintro e2 w2 ⟨rfl,rfl⟩
   cases bay with
   | true=>
    go_wp2_with fail
    refine (HAA.out _ B0.out).mono ?_
    rintro e3 w3 ⟨rfl,rfl⟩
    cases baa with
    | true=>
     go_wp2
     go_ret
     exact⟨by rw[Hq.out];rfl,B0.out⟩
    | false=>
     go_wp2
     go_ret
     exact⟨by rw[Hq.out];rfl,B0.out⟩
   | false=>
    go_wp2
    go_ret
    exact⟨by rw[Hq.out];rfl,B0.out⟩
  | false=>
   go_wp2
   go_ret
   exact⟨by rw[Hq.out];rfl,B0.out⟩
set_option maxRecDepth 100000 in
set_option maxHeartbeats 16000000 in
theorem ready8_c (p:Pt) (cs:List Value) (M n c:Nat) (B:Bd) (w:World) (hp:PtC w w.heap.size p cs) (hM:MapI Tryz.prog w 9 3 M n B c) (ho:p.lit.op=8∨p.lit.op=9∨p.lit.op=10) :
  Calls Tryz.prog 97 #[.agg cs.toArray,.map (some M)] w fun e w'=>e=.returned (.bool (readyZ B p))∧Below w.heap.size w w':=by
 have hMl:=hM.lt
 obtain⟨blx,bly,bax,bay,baa,bou,brk,bin,Q⟩:=asked B p
 obtain⟨o0,k0,o1,k1,o2,k2,o3,k3,o4,k4,o5,k5,o6,k6,o7,k7,rfl,hl,h1,h2,h3,h4,h5⟩:=hp.look
 obtain⟨q0,q1,q2,q3,q4,q5,qe,_,_,hx,hy⟩:=hl.look
 cases qe
 have HIN:=hid (fun (W:World) (hb:Below w.heap.size w W)=>contains_c p.a p.lit.y.s _ W (h3.str hb hb.size))
 rw[show memB p.a p.lit.y.s=bin from Q.inn] at HIN
 have HAO:=hid (fun (W:World) (hb:Below w.heap.size w W)=>hasAll_c p.ou _ M n c B W (h5.str hb hb.size) (hM.below hb hMl))
 rw[Q.ou] at HAO
 have HAR:=hid (fun (W:World) (hb:Below w.heap.size w W)=>hasAll_c p.rk _ M n c B W (h4.str hb hb.size) (hM.below hb hMl))
 rw[Q.rk] at HAR
 have Hq:Hid (readyZ B p=(bin && (bou && brk))):=hid (by unfold readyZ;rw[if_neg (by omega),if_neg (by omega),if_pos ho,Q.inn,Q.ou,Q.rk])
 have B0:Hid (Below w.heap.size w (w.alloc (.cells #[.int .i64 (p.place:Int),.int .i64 p.lit.op,.string p.lit.a.rel,.slice o0 p.lit.a.l.length k0,.int .i64 p.lit.x.op,.string p.lit.x.s,.int .i64 p.lit.x.n,.slice o1 p.lit.x.l.length k1,.int .i64 p.lit.y.op,.string p.lit.y.s,.int .i64 p.lit.y.n,.slice o2 p.lit.y.l.length k2,.slice o3 p.x.length k3,.slice o4 p.y.length k4,.slice o5 p.a.length k5,.slice o6 p.rk.length k6,.slice o7 p.ou.length k7] 126))):=hid ((Below.refl _ _).alloc (Nat.le_refl _) _)
 have R0:=hid (World.alloc_heap_new w (.cells #[.int .i64 (p.place:Int),.int .i64 p.lit.op,.string p.lit.a.rel,.slice o0 p.lit.a.l.length k0,.int .i64 p.lit.x.op,.string p.lit.x.s,.int .i64 p.lit.x.n,.slice o1 p.lit.x.l.length k1,.int .i64 p.lit.y.op,.string p.lit.y.s,.int .i64 p.lit.y.n,.slice o2 p.lit.y.l.length k2,.slice o3 p.x.length k3,.slice o4 p.y.length k4,.slice o5 p.a.length k5,.slice o6 p.rk.length k6,.slice o7 p.ou.length k7] 126))
 clear hp hM hl hx hy h1 h2 h3 h4 h5 Q
 rcases ho with ho | ho | ho
 all_goals
  have t3:=congrArg (fun o:Int=>o == 3) ho
  have t2:=congrArg (fun o:Int=>o == 2) ho
  have t4:=congrArg (fun o:Int=>o == 4) ho
  have t5:=congrArg (fun o:Int=>o == 5) ho
  have t6:=congrArg (fun o:Int=>o == 6) ho
  have t8:=congrArg (fun o:Int=>o == 8) ho
  have t9:=congrArg (fun o:Int=>o == 9) ho
  have t10:=congrArg (fun o:Int=>o == 10) ho
  have t7:=congrArg (fun o:Int=>o == 7) ho
  have t1:=congrArg (fun o:Int=>o == 1) ho
  simp only[Int.reduceBEq] at t3 t2 t4 t5 t6 t8 t9 t10 t7 t1
  clear ho
  go_enter Tryz.func97,Tryz.ntmps97
  go_wp2_with fail
  refine (HIN.out _ B0.out).mono ?_
  rintro e1 w1 ⟨rfl,rfl⟩
  cases bin with
  | true=>
   go_wp2_with fail
   refine (HAO.out _ B0.out).mono ?_
   rintro e2 w2 ⟨rfl,rfl⟩
   cases bou with
   | true=>
    go_wp2_with fail
    refine (HAR.out _ B0.out).mono ?_
    rintro e3 w3 ⟨rfl,rfl⟩
    cases brk with
    | true=>
     go_wp2
     go_ret
     exact⟨by rw[Hq.out];rfl,B0.out⟩
    | false=>
     go_wp2
     go_ret
     exact⟨by rw[Hq.out];rfl,B0.out⟩
   | false=>
    go_wp2
    go_ret
    exact⟨by rw[Hq.out];rfl,B0.out⟩
  | false=>
   go_wp2
   go_ret
   exact⟨by rw[Hq.out];rfl,B0.out⟩
set_option maxRecDepth 100000 in
set_option maxHeartbeats 16000000 in
theorem ready7_c (p:Pt) (cs:List Value) (M n c:Nat) (B:Bd) (w:World) (hp:PtC w w.heap.size p cs) (hM:MapI Tryz.prog w 9 3 M n B c) (ho:p.lit.op=7) :
  Calls Tryz.prog 97 #[.agg cs.toArray,.map (some M)] w fun e w'=>e=.returned (.bool (readyZ B p))∧Below w.heap.size w w':=by
 have hMl:=hM.lt
 obtain⟨blx,bly,bax,bay,baa,bou,brk,bin,Q⟩:=asked B p
 obtain⟨o0,k0,o1,k1,o2,k2,o3,k3,o4,k4,o5,k5,o6,k6,o7,k7,rfl,hl,h1,h2,h3,h4,h5⟩:=hp.look
 obtain⟨q0,q1,q2,q3,q4,q5,qe,_,_,hx,hy⟩:=hl.look
 cases qe
 have HAO:=hid (fun (W:World) (hb:Below w.heap.size w W)=>hasAll_c p.ou _ M n c B W (h5.str hb hb.size) (hM.below hb hMl))
 rw[Q.ou] at HAO
 have HAR:=hid (fun (W:World) (hb:Below w.heap.size w W)=>hasAll_c p.rk _ M n c B W (h4.str hb hb.size) (hM.below hb hMl))
 rw[Q.rk] at HAR
 have Hq:Hid (readyZ B p=(bou && brk)):=hid (by unfold readyZ;rw[if_neg (by omega),if_neg (by omega),if_neg (by omega),if_pos ho,Q.ou,Q.rk])
 have B0:Hid (Below w.heap.size w (w.alloc (.cells #[.int .i64 (p.place:Int),.int .i64 p.lit.op,.string p.lit.a.rel,.slice o0 p.lit.a.l.length k0,.int .i64 p.lit.x.op,.string p.lit.x.s,.int .i64 p.lit.x.n,.slice o1 p.lit.x.l.length k1,.int .i64 p.lit.y.op,.string p.lit.y.s,.int .i64 p.lit.y.n,.slice o2 p.lit.y.l.length k2,.slice o3 p.x.length k3,.slice o4 p.y.length k4,.slice o5 p.a.length k5,.slice o6 p.rk.length k6,.slice o7 p.ou.length k7] 126))):=hid ((Below.refl _ _).alloc (Nat.le_refl _) _)
 have R0:=hid (World.alloc_heap_new w (.cells #[.int .i64 (p.place:Int),.int .i64 p.lit.op,.string p.lit.a.rel,.slice o0 p.lit.a.l.length k0,.int .i64 p.lit.x.op,.string p.lit.x.s,.int .i64 p.lit.x.n,.slice o1 p.lit.x.l.length k1,.int .i64 p.lit.y.op,.string p.lit.y.s,.int .i64 p.lit.y.n,.slice o2 p.lit.y.l.length k2,.slice o3 p.x.length k3,.slice o4 p.y.length k4,.slice o5 p.a.length k5,.slice o6 p.rk.length k6,.slice o7 p.ou.length k7] 126))
 clear hp hM hl hx hy h1 h2 h3 h4 h5 Q
 have t3:=congrArg (fun o:Int=>o == 3) ho
 have t2:=congrArg (fun o:Int=>o == 2) ho
 have t4:=congrArg (fun o:Int=>o == 4) ho
 have t5:=congrArg (fun o:Int=>o == 5) ho
 have t6:=congrArg (fun o:Int=>o == 6) ho
 have t8:=congrArg (fun o:Int=>o == 8) ho
 have t9:=congrArg (fun o:Int=>o == 9) ho
 have t10:=congrArg (fun o:Int=>o == 10) ho
 have t7:=congrArg (fun o:Int=>o == 7) ho
 have t1:=congrArg (fun o:Int=>o == 1) ho
 simp only[Int.reduceBEq] at t3 t2 t4 t5 t6 t8 t9 t10 t7 t1
 clear ho
 go_enter Tryz.func97,Tryz.ntmps97
 go_wp2_with fail
 refine (HAO.out _ B0.out).mono ?_
 rintro e1 w1 ⟨rfl,rfl⟩
 cases bou with
 | true=>
  go_wp2_with fail
  refine (HAR.out _ B0.out).mono ?_
  rintro e2 w2 ⟨rfl,rfl⟩
  cases brk with
  | true=>
   go_wp2
   go_ret
   exact⟨by rw[Hq.out];rfl,B0.out⟩
  | false=>
   go_wp2
   go_ret
   exact⟨by rw[Hq.out];rfl,B0.out⟩
 | false=>
  go_wp2
  go_ret
  exact⟨by rw[Hq.out];rfl,B0.out⟩
set_option maxRecDepth 100000 in
set_option maxHeartbeats 16000000 in
theorem ready1_c (p:Pt) (cs:List Value) (M n c:Nat) (B:Bd) (w:World) (hp:PtC w w.heap.size p cs) (hM:MapI Tryz.prog w 9 3 M n B c) (ho:p.lit.op=1) :
  Calls Tryz.prog 97 #[.agg cs.toArray,.map (some M)] w fun e w'=>e=.returned (.bool (readyZ B p))∧Below w.heap.size w w':=by
 have hMl:=hM.lt
 obtain⟨blx,bly,bax,bay,baa,bou,brk,bin,Q⟩:=asked B p
 obtain⟨o0,k0,o1,k1,o2,k2,o3,k3,o4,k4,o5,k5,o6,k6,o7,k7,rfl,hl,h1,h2,h3,h4,h5⟩:=hp.look
 obtain⟨q0,q1,q2,q3,q4,q5,qe,_,_,hx,hy⟩:=hl.look
 cases qe
 have HAR:=hid (fun (W:World) (hb:Below w.heap.size w W)=>hasAll_c p.rk _ M n c B W (h4.str hb hb.size) (hM.below hb hMl))
 rw[Q.rk] at HAR
 have Hq:Hid (readyZ B p=brk):=hid (by unfold readyZ;rw[if_neg (by omega),if_neg (by omega),if_neg (by omega),if_neg (by omega),if_pos ho,Q.rk])
 have B0:Hid (Below w.heap.size w (w.alloc (.cells #[.int .i64 (p.place:Int),.int .i64 p.lit.op,.string p.lit.a.rel,.slice o0 p.lit.a.l.length k0,.int .i64 p.lit.x.op,.string p.lit.x.s,.int .i64 p.lit.x.n,.slice o1 p.lit.x.l.length k1,.int .i64 p.lit.y.op,.string p.lit.y.s,.int .i64 p.lit.y.n,.slice o2 p.lit.y.l.length k2,.slice o3 p.x.length k3,.slice o4 p.y.length k4,.slice o5 p.a.length k5,.slice o6 p.rk.length k6,.slice o7 p.ou.length k7] 126))):=hid ((Below.refl _ _).alloc (Nat.le_refl _) _)
 have R0:=hid (World.alloc_heap_new w (.cells #[.int .i64 (p.place:Int),.int .i64 p.lit.op,.string p.lit.a.rel,.slice o0 p.lit.a.l.length k0,.int .i64 p.lit.x.op,.string p.lit.x.s,.int .i64 p.lit.x.n,.slice o1 p.lit.x.l.length k1,.int .i64 p.lit.y.op,.string p.lit.y.s,.int .i64 p.lit.y.n,.slice o2 p.lit.y.l.length k2,.slice o3 p.x.length k3,.slice o4 p.y.length k4,.slice o5 p.a.length k5,.slice o6 p.rk.length k6,.slice o7 p.ou.length k7] 126))
 clear hp hM hl hx hy h1 h2 h3 h4 h5 Q
 have t3:=congrArg (fun o:Int=>o == 3) ho
 have t2:=congrArg (fun o:Int=>o == 2) ho
 have t4:=congrArg (fun o:Int=>o == 4) ho
 have t5:=congrArg (fun o:Int=>o == 5) ho
 have t6:=congrArg (fun o:Int=>o == 6) ho
 have t8:=congrArg (fun o:Int=>o == 8) ho
 have t9:=congrArg (fun o:Int=>o == 9) ho
 have t10:=congrArg (fun o:Int=>o == 10) ho
 have t7:=congrArg (fun o:Int=>o == 7) ho
 have t1:=congrArg (fun o:Int=>o == 1) ho
 simp only[Int.reduceBEq] at t3 t2 t4 t5 t6 t8 t9 t10 t7 t1
 clear ho
 go_enter Tryz.func97,Tryz.ntmps97
 go_wp2_with fail
 refine (HAR.out _ B0.out).mono ?_
 rintro e1 w1 ⟨rfl,rfl⟩
 cases brk with
 | true=>
  go_wp2
  go_ret
  exact⟨by rw[Hq.out];rfl,B0.out⟩
 | false=>
  go_wp2
  go_ret
  exact⟨by rw[Hq.out];rfl,B0.out⟩
set_option maxRecDepth 100000 in
set_option maxHeartbeats 16000000 in
theorem ready0_c (p:Pt) (cs:List Value) (M n c:Nat) (B:Bd) (w:World) (hp:PtC w w.heap.size p cs) (hM:MapI Tryz.prog w 9 3 M n B c) (n1:p.lit.op≠1) (n2:p.lit.op≠2) (n3:p.lit.op≠3) (n4:p.lit.op≠4) (n5:p.lit.op≠5) (n6:p.lit.op≠6) (n7:p.lit.op≠7) (n8:p.lit.op≠8) (n9:p.lit.op≠9) (n10:p.lit.op≠10) :
  Calls Tryz.prog 97 #[.agg cs.toArray,.map (some M)] w fun e w'=>e=.returned (.bool (readyZ B p))∧Below w.heap.size w w':=by
 have hMl:=hM.lt
 obtain⟨blx,bly,bax,bay,baa,bou,brk,bin,Q⟩:=asked B p
 obtain⟨o0,k0,o1,k1,o2,k2,o3,k3,o4,k4,o5,k5,o6,k6,o7,k7,rfl,hl,h1,h2,h3,h4,h5⟩:=hp.look
 obtain⟨q0,q1,q2,q3,q4,q5,qe,_,_,hx,hy⟩:=hl.look
 cases qe
 have Hq:Hid (readyZ B p=false):=hid (by unfold readyZ;rw[if_neg (by omega),if_neg (by omega),if_neg (by omega),if_neg (by omega),if_neg (by omega)])
 have B0:Hid (Below w.heap.size w (w.alloc (.cells #[.int .i64 (p.place:Int),.int .i64 p.lit.op,.string p.lit.a.rel,.slice o0 p.lit.a.l.length k0,.int .i64 p.lit.x.op,.string p.lit.x.s,.int .i64 p.lit.x.n,.slice o1 p.lit.x.l.length k1,.int .i64 p.lit.y.op,.string p.lit.y.s,.int .i64 p.lit.y.n,.slice o2 p.lit.y.l.length k2,.slice o3 p.x.length k3,.slice o4 p.y.length k4,.slice o5 p.a.length k5,.slice o6 p.rk.length k6,.slice o7 p.ou.length k7] 126))):=hid ((Below.refl _ _).alloc (Nat.le_refl _) _)
 have R0:=hid (World.alloc_heap_new w (.cells #[.int .i64 (p.place:Int),.int .i64 p.lit.op,.string p.lit.a.rel,.slice o0 p.lit.a.l.length k0,.int .i64 p.lit.x.op,.string p.lit.x.s,.int .i64 p.lit.x.n,.slice o1 p.lit.x.l.length k1,.int .i64 p.lit.y.op,.string p.lit.y.s,.int .i64 p.lit.y.n,.slice o2 p.lit.y.l.length k2,.slice o3 p.x.length k3,.slice o4 p.y.length k4,.slice o5 p.a.length k5,.slice o6 p.rk.length k6,.slice o7 p.ou.length k7] 126))
 clear hp hM hl hx hy h1 h2 h3 h4 h5 Q
 have t3:(p.lit.op == 3)=false:=by simpa using n3
 have t2:(p.lit.op == 2)=false:=by simpa using n2
 have t4:(p.lit.op == 4)=false:=by simpa using n4
 have t5:(p.lit.op == 5)=false:=by simpa using n5
 have t6:(p.lit.op == 6)=false:=by simpa using n6
 have t8:(p.lit.op == 8)=false:=by simpa using n8
 have t9:(p.lit.op == 9)=false:=by simpa using n9
 have t10:(p.lit.op == 10)=false:=by simpa using n10
 have t7:(p.lit.op == 7)=false:=by simpa using n7
 have t1:(p.lit.op == 1)=false:=by simpa using n1
 clear n1 n2 n3 n4 n5 n6 n7 n8 n9 n10
 go_enter Tryz.func97,Tryz.ntmps97
 go_wp2
 go_ret
 exact⟨by rw[Hq.out];rfl,B0.out⟩
theorem isReady_c (p:Pt) (cs:List Value) (M n c:Nat) (B:Bd) (w:World) (hp:PtC w w.heap.size p cs) (hM:MapI Tryz.prog w 9 3 M n B c) :
  Calls Tryz.prog 97 #[.agg cs.toArray,.map (some M)] w fun e w'=>e=.returned (.bool (readyZ B p))∧Below w.heap.size w w':=by
 by_cases h3:p.lit.op=3
 ·exact ready3_c p cs M n c B w hp hM h3
 by_cases h2:p.lit.op=2∨p.lit.op=4∨p.lit.op=5∨p.lit.op=6
 ·exact ready2_c p cs M n c B w hp hM h2
 by_cases h8:p.lit.op=8∨p.lit.op=9∨p.lit.op=10
 ·exact ready8_c p cs M n c B w hp hM h8
 by_cases h7:p.lit.op=7
 ·exact ready7_c p cs M n c B w hp hM h7
 by_cases h1:p.lit.op=1
 ·exact ready1_c p cs M n c B w hp hM h1
 exact ready0_c p cs M n c B w hp hM h1 (fun h=>h2 (.inl h)) h3 (fun h=>h2 (.inr (.inl h))) (fun h=>h2 (.inr (.inr (.inl h)))) (fun h=>h2 (.inr (.inr (.inr h)))) h7 (fun h=>h8 (.inl h)) (fun h=>h8 (.inr (.inl h))) (fun h=>h8 (.inr (.inr h)))
end Go.Proofs.YtakpgcmfjlbcgaaGreatDoor
