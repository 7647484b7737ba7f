/- Ylearn2@0123 -/
import Derived.Test.YtakpgcmfjlbcgaaGreatDoorQ9
import Derived.Test.YtakpgcmfjlbcgaaGreatDoorQ10
set_option linter.unusedSimpArgs false
set_option linter.unusedVariables false
namespace Go.Proofs.YtakpgcmfjlbcgaaGreatDoor
open Lib(hid)
open Go.RowKit
theorem KnM.kc {V:List (List UInt8)} {W W':World} {B:Nat} {K:Kn} (h:KnM V W B K) (hg:W.grownBy W' (some B)):KC W W':=by
 refine⟨hg.size,fun i o hi ho=>(hg.block i (Array.getElem?_eq_some_iff.1 hi).1 (fun e=>?_)).trans hi⟩
 cases e
 obtain⟨D,⟨es,clock,h1,_⟩,_⟩:=h.map
 rw[h1] at hi
 cases hi
 cases ho
theorem gBelow {n B:Nat} {W W':World} (hg:W.grownBy W' (some B)) (hB:n≤B) (hW:n≤W.heap.size):Below n W W':=
 ⟨hg.os,hg.tape,hg.output,hg.size,fun i hi=>hg.block i (by omega) (fun e=>by have:=Option.some.inj e;omega)⟩
def nums (l:List Tm):List (Tm × Int):=l.map fun t=>(t,1)
theorem nums_drop {l:List Tm} {k:Nat} {t:Tm} (h:l[k]?=some t):nums (l.drop k)=(t,1)::nums (l.drop (k+1)):=by
 have h1:l.drop k=t::l.drop (k+1):=by rw[List.drop_eq_getElem_cons (List.getElem?_eq_some_iff.1 h).1,(List.getElem?_eq_some_iff.1 h).2]
 rw[h1];rfl
theorem learnL_cons (K:Kn) (t:Tm) (k:Int) (l:List (Tm × Int)):learnL K ((t,k)::l)=(match learn1 K t k with | none=>none | some K'=>learnL K' l):=by
 rw[learnL];rfl
set_option maxRecDepth 100000 in
set_option maxHeartbeats 4000000 in
theorem learnNumbers_c (l:List Tm) (v:Value) (B n₀:Nat) (V:List (List UInt8)) (hV:V.length≤1000000) (K:Kn) (a b' c d:Addr) (w:World) (hc:SlOf w w.heap.size 4 (TmC w n₀) l v) (hB:n₀≤B) (hM:KnM V w B K) (hv:∀ t ∈ l,t.op=1→nm t ∈ V) (E:YEnv n₀ a b' c d w) :
  Calls Tryz.prog 173 #[.map (some B),v] w (LearnR V w B a (learnL K (nums l))):=by
 obtain⟨o,cap,rfl,hcap,hmax,SL⟩:=hc.open
 have HE:=hid E
 have HM:=hid hM
 have hB1:=hM.lt
 clear hM E hc
 go_enter Tryz.func173,Tryz.ntmps173
 go_wp2
 go_loopw [10] (fun i wr=>∃ (k:Nat) (Kk:Kn),k≤l.length∧i=.int .i64 k∧learnL K (nums l)=learnL Kk (nums (l.drop k))∧KnM V wr B Kk∧w.grownBy wr (some B)) (fun i _=>l.length - (intOf i).toNat)
 case atStart=>exact⟨0,K,Nat.zero_le _,rfl,rfl,HM.out,World.grownBy.refl _ _⟩
 case round=>
  obtain⟨k,Kk,hk,rfl,hr,hM2,hg2⟩:=hrel
  have hB':Below n₀ w wr:=gBelow hg2 hB (by omega)
  have Hr:=hid hr
  clear hr
  have HM2:=hid hM2
  have Hg2:=hid hg2
  have hBs:=hg2.size
  clear hM2 hg2
  by_cases hlt:k < l.length
  ·have hlt':(k:Int) < (l.length:Int):=by omega
   obtain⟨t,ht⟩:∃ t,l[k]?=some t:=⟨l[k],List.getElem?_eq_getElem hlt⟩
   obtain⟨b,cs,rfl,ha,_,h1,h2⟩:=SL.out k t ht
   obtain⟨p3,q3,rfl,_⟩:=h1.look
   obtain⟨c0,c1,c2,c3⟩:=(h2.kc (HM.out.kc Hg2.out)).four
   have hal:(b.add (k * 4)).block < wr.heap.size:=by rw[addBlock];omega
   have hBw:B < wr.heap.size:=by omega
   have Hst:=hid (Hr.out.trans (by rw[nums_drop ht,learnL_cons]))
   have Hv:=hid (hv t (List.mem_of_getElem? ht))
   have HI:=hid (fun (W:World) (hb:Below wr.heap.size wr W)=>learn_c t 1 _ B n₀ V hV Kk a b' c d W (TmC.under (TmC.under h1 hB') (hb.mono (by omega))) hB (HM2.out.below hb hBw) Hv.out (.inl rfl) ((HE.out.below hB').below (hb.mono (by omega))))
   clear h1 h2 ht Hr
   go_wp2_with fail
   refine (HI.out _ ((Below.refl _ _).alloc (Nat.le_refl _) _)).mono ?_
   rintro e w1 hR
   have G1:=hid (gB ((Below.refl _ wr).alloc (Nat.le_refl _) (.cells #[.int .i64 t.op,.string t.s,.int .i64 t.n,.slice p3 t.l.length q3] 51)) (some B))
   cases hl:learn1 Kk t 1 with
   | none=>
    rw[hl] at hR
    cases hR with
    | bad hg3=>
    have Hq:Hid (learnL K (nums l)=none):=hid (by rw[Hst.out,hl])
    have Hg3:=hid (Hg2.out.trans (G1.out.trans hg3))
    clear hl hg3
    unfold errV
    go_wp2
    go_ret
    rw[Hq.out]
    exact .bad Hg3.out
   | some K'=>
    rw[hl] at hR
    cases hR with
    | good hm3 hg3=>
    have Hz2:Hid (learnL K (nums l)=learnL K' (nums (l.drop (k+1)))):=hid (by rw[Hst.out,hl])
    have Hg3:=hid (Hg2.out.trans (G1.out.trans hg3))
    have Hm3:=hid hm3
    clear hl hg3 hm3
    go_wp2
    go_roundw
    case rel=>exact⟨k+1,K',hlt,by go_num,Hz2.out,Hm3.out,Hg3.out⟩
    case measure=>simp[intOf];omega
  ·have hlt':¬ (k:Int) < (l.length:Int):=by omega
   have Hq:Hid (learnL K (nums l)=some Kk):=hid (by rw[Hr.out,List.drop_of_length_le (by omega)];rfl)
   go_wp2
   go_ret
   rw[Hq.out]
   exact .good HM2.out Hg2.out
theorem LearnR.ret {V:List (List UInt8)} {W W':World} {B:Nat} {a:Addr} {r:Option Kn} {e:Ending} (h:LearnR V W B a r e W'):∃ v,e=.returned v∧LearnR V W B a r (.returned v) W':=by
 cases h with
 | bad h=>exact⟨_,rfl,.bad h⟩
 | good h k=>exact⟨_,rfl,.good h k⟩
def duoB (t:Lt):Bool:=t.op == 3 || t.op == 4 || t.op == 5 || t.op == 6
set_option maxRecDepth 100000 in
set_option maxHeartbeats 4000000 in
theorem holdsTwo_v (t:Lt) (v1 v2 v3 v4 v5 v6 v7 v8 v9 v10:Value) (w:World) :
  Calls Tryz.prog 172 #[.agg #[.int .i64 t.op,v1,v2,v3,v4,v5,v6,v7,v8,v9,v10]] w fun e w'=>e=.returned (.bool (duoB t))∧Below w.heap.size w w':=by
 have hB0:∀ x:Obj,Hid (Below w.heap.size w (w.alloc x)):=fun x=>hid ((Below.refl _ _).alloc (Nat.le_refl _) _)
 by_cases h3:t.op=3∨t.op=4∨t.op=5∨t.op=6
 ·have Hq:Hid (duoB t=true):=hid (by unfold duoB;rcases h3 with h | h | h | h <;> rw[h] <;> rfl)
  rcases h3 with h3 | h3 | h3 | h3
  all_goals
   go_enter Tryz.func172,Tryz.ntmps172
   go_wp2
   go_ret
   exact⟨by rw[Hq.out];rfl,(hB0 _).out⟩
 ·have g3:t.op≠3:=fun h=>h3 (.inl h)
  have g4:t.op≠4:=fun h=>h3 (.inr (.inl h))
  have g5:t.op≠5:=fun h=>h3 (.inr (.inr (.inl h)))
  have g6:t.op≠6:=fun h=>h3 (.inr (.inr (.inr h)))
  have Hq:Hid (duoB t=false):=hid (by unfold duoB;simp[g3,g4,g5,g6])
  clear h3
  go_enter Tryz.func172,Tryz.ntmps172
  go_wp2
  go_ret
  exact⟨by rw[Hq.out];rfl,(hB0 _).out⟩
theorem holdsTwo_c (t:Lt) (cs:List Value) (n₀:Nat) (w:World) (hc:LtC w n₀ t cs) :
  Calls Tryz.prog 172 #[.agg cs.toArray] w fun e w'=>e=.returned (.bool (duoB t))∧Below w.heap.size w w':=by
 obtain⟨o0,k0,o1,k1,o2,k2,rfl,_⟩:=hc.look
 exact holdsTwo_v t _ _ _ _ _ _ _ _ _ _ w
set_option maxRecDepth 100000 in
set_option maxHeartbeats 4000000 in
theorem learnAlike_c (x y:Tm) (cx cy:List Value) (B n₀:Nat) (V:List (List UInt8)) (hV:V.length≤1000000) (K:Kn) (a b' c d:Addr) (w:World) (hx:TmC w n₀ x cx) (hy:TmC w n₀ y cy) (hB:n₀≤B) (hM:KnM V w B K) (hvx:x.op=1→nm x ∈ V) (hvy:y.op=1→nm y ∈ V) (E:YEnv n₀ a b' c d w) :
  Calls Tryz.prog 174 #[.map (some B),.agg cx.toArray,.agg cy.toArray] w (LearnR V w B a (alike1 K x y)):=by
 obtain⟨p0,q0,rfl,_⟩:=hx.look
 obtain⟨p1,q1,rfl,_⟩:=hy.look
 have hB1:=hM.lt
 have hb2:∀ (o p:Obj),Below w.heap.size w ((w.alloc o).alloc p):=fun o p=>((Below.refl _ _).alloc (Nat.le_refl _) _).alloc (by simp) _
 have HOx:=hid (fun (W:World) (hb:Below w.heap.size w W)=>of_c x _ B n₀ V K W (TmC.under hx (hb.mono (by omega))) (hM.below hb hB1))
 have HOy:=hid (fun (W:World) (hb:Below w.heap.size w W)=>of_c y _ B n₀ V K W (TmC.under hy (hb.mono (by omega))) (hM.below hb hB1))
 have HLx:=hid (fun (k:Int) (hk:k=1∨k=2) (W:World) (hb:Below w.heap.size w W)=>learn_c x k _ B n₀ V hV K a b' c d W (TmC.under hx (hb.mono (by omega))) hB (hM.below hb hB1) hvx hk (E.below (hb.mono (by omega))))
 have HLy:=hid (fun (k:Int) (hk:k=1∨k=2) (W:World) (hb:Below w.heap.size w W)=>learn_c y k _ B n₀ V hV K a b' c d W (TmC.under hy (hb.mono (by omega))) hB (hM.below hb hB1) hvy hk (E.below (hb.mono (by omega))))
 have HM:=hid hM
 have tyx:=ofK_ty hM.ty x
 have tyy:=ofK_ty hM.ty y
 have fin:Hid (∀ (r:Option Kn) (W W':World) (e:Ending),Below w.heap.size w W→LearnR V W B a r e W'→LearnR V w B a r e W'):=hid fun r W W' e hb h=>by
  cases h with
  | bad h=>exact .bad ((gB hb _).trans h)
  | good h1 h2=>exact .good h1 ((gB hb _).trans h2)
 clear hM E hx hy
 by_cases h1:ofK K y=0
 ·have h1':(ofK K y == 0)=true:=by simpa using h1
  go_enter Tryz.func174,Tryz.ntmps174
  go_wp2_with fail
  refine (HOy.out _ (hb2 _ _)).mono ?_
  rintro e w1 ⟨rfl,b1⟩
  obtain⟨hc1,hf1⟩:=boxY w.heap.size b1 (by simp;omega)
  obtain⟨hc2,hf2⟩:=boxY (w.heap.size+1) b1 (by simp)
  have B1:=hid ((hb2 (.cells #[.int .i64 x.op,.string x.s,.int .i64 x.n,.slice p0 x.l.length q0] 51) (.cells #[.int .i64 y.op,.string y.s,.int .i64 y.n,.slice p1 y.l.length q1] 51)).trans (b1.mono (by simp;omega)))
  have hsz1:=b1.size
  simp only[World.size_alloc] at hsz1
  go_wp2_with fail
  have B2:∀ W:World,Hid (Below w.heap.size w W→∀ (a0 a1 a2 a3 b0 b1 b2 b3:Value),Below w.heap.size w ((((((((W.setCell ⟨w.heap.size,0,none⟩ a0).setCell ⟨w.heap.size,1,none⟩ a1).setCell ⟨w.heap.size,2,none⟩ a2).setCell ⟨w.heap.size,3,none⟩ a3).setCell ⟨w.heap.size+1,0,none⟩ b0).setCell ⟨w.heap.size+1,1,none⟩ b1).setCell ⟨w.heap.size+1,2,none⟩ b2).setCell ⟨w.heap.size+1,3,none⟩ b3)):=fun W=>hid fun h a0 a1 a2 a3 b0 b1 b2 b3=>
   (((((((h.setCell (Nat.le_refl _) a0).setCell (Nat.le_refl _) a1).setCell (Nat.le_refl _) a2).setCell (Nat.le_refl _) a3).setCell (Nat.le_succ _) b0).setCell (Nat.le_succ _) b1).setCell (Nat.le_succ _) b2).setCell (Nat.le_succ _) b3
  refine (HOx.out _ ((B2 w1).out B1.out _ _ _ _ _ _ _ _)).mono ?_
  rintro e w2 ⟨rfl,b2⟩
  have B3:=hid (((B2 w1).out B1.out _ _ _ _ _ _ _ _).trans (b2.mono (by simp;omega)))
  obtain⟨hc3,hf3⟩:=boxY w.heap.size b2 (by simp;omega)
  by_cases h2:ofK K x=0
  ·have h2':(ofK K x != 0)=false:=by simpa using h2
   have Hq:Hid (alike1 K x y=some K):=hid (by unfold alike1;rw[if_pos h1,if_neg (fun h=>h h2)])
   go_wp2
   go_ret
   rw[Hq.out]
   exact .good (HM.out.below B3.out hB1) (gB B3.out _)
  ·have h2':(ofK K x != 0)=true:=by simpa using h2
   have Hq:Hid (alike1 K x y=learn1 K y (ofK K x)):=hid (by unfold alike1;rw[if_pos h1,if_pos h2])
   have hk:Hid (ofK K x=1∨ofK K x=2):=hid (tyx.resolve_left h2)
   go_wp2_with fail
   refine (HLy.out _ hk.out _ B3.out).mono ?_
   rintro e w3 hR
   obtain⟨v,rfl,hR'⟩:=(fin.out _ _ _ _ B3.out hR).ret
   have HR:=hid hR'
   clear hR hR'
   go_wp2
   go_ret
   rw[Hq.out]
   exact HR.out
 ·have h1':(ofK K y == 0)=false:=by simpa using h1
  have h2':(ofK K y != 0)=true:=by simpa using h1
  have Hq:Hid (alike1 K x y=learn1 K x (ofK K y)):=hid (by unfold alike1;rw[if_neg h1])
  have hk:Hid (ofK K y=1∨ofK K y=2):=hid (tyy.resolve_left h1)
  go_enter Tryz.func174,Tryz.ntmps174
  go_wp2_with fail
  refine (HOy.out _ (hb2 _ _)).mono ?_
  rintro e w1 ⟨rfl,b1⟩
  obtain⟨hc1,hf1⟩:=boxY w.heap.size b1 (by simp;omega)
  obtain⟨hc2,hf2⟩:=boxY (w.heap.size+1) b1 (by simp)
  have B1:=hid ((hb2 (.cells #[.int .i64 x.op,.string x.s,.int .i64 x.n,.slice p0 x.l.length q0] 51) (.cells #[.int .i64 y.op,.string y.s,.int .i64 y.n,.slice p1 y.l.length q1] 51)).trans (b1.mono (by simp;omega)))
  have hsz1:=b1.size
  simp only[World.size_alloc] at hsz1
  go_wp2_with fail
  refine (HOy.out _ B1.out).mono ?_
  rintro e w2 ⟨rfl,b2⟩
  have B3:=hid (B1.out.trans (b2.mono (by omega)))
  obtain⟨hc3,hf3⟩:=boxY w.heap.size b2 (by omega)
  go_wp2_with fail
  refine (HLx.out _ hk.out _ B3.out).mono ?_
  rintro e w3 hR
  obtain⟨v,rfl,hR'⟩:=(fin.out _ _ _ _ B3.out hR).ret
  have HR:=hid hR'
  clear hR hR'
  go_wp2
  go_ret
  rw[Hq.out]
  exact HR.out
end Go.Proofs.YtakpgcmfjlbcgaaGreatDoor
