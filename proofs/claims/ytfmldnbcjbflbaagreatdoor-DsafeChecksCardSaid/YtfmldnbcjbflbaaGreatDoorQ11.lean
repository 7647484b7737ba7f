/- Ylearn2@2, Yatom@2, Yround@2, Yfind@2 -/
import Derived.Test.YtfmldnbcjbflbaaGreatDoorQ10
import Derived.Test.YtfmldnbcjbflbaaGreatDoorQ8
import Derived.Test.YtfmldnbcjbflbaaGreatDoorQ7
set_option linter.unusedSimpArgs false
set_option linter.unusedVariables false
namespace Go.Proofs.YtfmldnbcjbflbaaGreatDoor
open Lib(hid)
open Go.RowKit
theorem nums_drop {l:List Tm} {k:Nat} {t:Tm} (h:l[k]?=some t):nums (l.drop k)=(t,1)::nums (l.drop (k+1)):=by
 have h1:l.drop k=t::l.drop (k+1):=by rw[List.drop_eq_getElem_cons (List.getElem?_eq_some_iff.1 h).1,(List.getElem?_eq_some_iff.1 h).2]
 rw[h1];rfl
theorem learnL_cons (K:Kn) (t:Tm) (k:Int) (l:List (Tm × Int)):learnL K ((t,k)::l)=(match learn1 K t k with | none=>none | some K'=>learnL K' l):=by
 rw[learnL];rfl
set_option maxRecDepth 100000 in
set_option maxHeartbeats 4000000 in
theorem learnNumbers_c (l:List Tm) (v:Value) (B n₀:Nat) (V:List (List UInt8)) (hV:V.length≤1000000) (K:Kn) (a b' c d:Addr) (w:World) (hc:SlOf w w.heap.size 4 (TmC w n₀) l v) (hB:n₀≤B) (hM:KnM V w B K) (hv:∀ t ∈ l,t.op=1→nm t ∈ V) (E:YEnv n₀ a b' c d w) :
  Calls Tryz.prog 125 #[.map (some B),v] w (LearnR V w B a (learnL K (nums l))):=by
 obtain⟨o,cap,rfl,hcap,hmax,SL⟩:=hc.open
 have HE:=hid E
 have HM:=hid hM
 have hB1:=hM.lt
 clear hM E hc
 go_enter Tryz.func125,Tryz.ntmps125
 go_wp2
 go_loopw [10] (fun i wr=>∃ (k:Nat) (Kk:Kn),k≤l.length∧i=.int .i64 k∧learnL K (nums l)=learnL Kk (nums (l.drop k))∧KnM V wr B Kk∧w.grownBy wr (some B)) (fun i _=>l.length - (intOf i).toNat)
 case atStart=>exact⟨0,K,Nat.zero_le _,rfl,rfl,HM.out,World.grownBy.refl _ _⟩
 case round=>
  obtain⟨k,Kk,hk,rfl,hr,hM2,hg2⟩:=hrel
  have hB':Below n₀ w wr:=gBelow hg2 hB (by omega)
  have Hr:=hid hr
  clear hr
  have HM2:=hid hM2
  have Hg2:=hid hg2
  have hBs:=hg2.size
  clear hM2 hg2
  by_cases hlt:k < l.length
  ·have hlt':(k:Int) < (l.length:Int):=by omega
   obtain⟨t,ht⟩:∃ t,l[k]?=some t:=⟨l[k],List.getElem?_eq_getElem hlt⟩
   obtain⟨b,cs,rfl,ha,_,h1,h2⟩:=SL.out k t ht
   obtain⟨p3,q3,rfl,_⟩:=h1.look
   obtain⟨c0,c1,c2,c3⟩:=(h2.kc (HM.out.kc Hg2.out)).four
   have hal:(b.add (k * 4)).block < wr.heap.size:=by rw[addBlock];omega
   have hBw:B < wr.heap.size:=by omega
   have Hst:=hid (Hr.out.trans (by rw[nums_drop ht,learnL_cons]))
   have Hv:=hid (hv t (List.mem_of_getElem? ht))
   have HI:=hid (fun (W:World) (hb:Below wr.heap.size wr W)=>learn_c t 1 _ B n₀ V hV Kk a b' c d W (TmC.under (TmC.under h1 hB') (hb.mono (by omega))) hB (HM2.out.below hb hBw) Hv.out (.inl rfl) ((HE.out.below hB').below (hb.mono (by omega))))
   clear h1 h2 ht Hr
   go_wp2_with fail
   refine (HI.out _ ((Below.refl _ _).alloc (Nat.le_refl _) _)).mono ?_
   rintro e w1 hR
   have G1:=hid (gB ((Below.refl _ wr).alloc (Nat.le_refl _) (.cells #[.int .i64 t.op,.string t.s,.int .i64 t.n,.slice p3 t.l.length q3] 51)) (some B))
   cases hl:learn1 Kk t 1 with
   | none=>
    rw[hl] at hR
    cases hR with
    | bad hg3=>
    have Hq:Hid (learnL K (nums l)=none):=hid (by rw[Hst.out,hl])
    have Hg3:=hid (Hg2.out.trans (G1.out.trans hg3))
    clear hl hg3
    unfold errV
    go_wp2
    go_ret
    rw[Hq.out]
    exact .bad Hg3.out
   | some K'=>
    rw[hl] at hR
    cases hR with
    | good hm3 hg3=>
    have Hz2:Hid (learnL K (nums l)=learnL K' (nums (l.drop (k+1)))):=hid (by rw[Hst.out,hl])
    have Hg3:=hid (Hg2.out.trans (G1.out.trans hg3))
    have Hm3:=hid hm3
    clear hl hg3 hm3
    go_wp2
    go_roundw
    case rel=>exact⟨k+1,K',hlt,by go_num,Hz2.out,Hm3.out,Hg3.out⟩
    case measure=>simp[intOf];omega
  ·have hlt':¬ (k:Int) < (l.length:Int):=by omega
   have Hq:Hid (learnL K (nums l)=some Kk):=hid (by rw[Hr.out,List.drop_of_length_le (by omega)];rfl)
   go_wp2
   go_ret
   rw[Hq.out]
   exact .good HM2.out Hg2.out
set_option maxRecDepth 100000 in
set_option maxHeartbeats 4000000 in
theorem holdsTwo_v (t:Lt) (v1 v2 v3 v4 v5 v6 v7 v8 v9 v10:Value) (w:World) :
  Calls Tryz.prog 124 #[.agg #[.int .i64 t.op,v1,v2,v3,v4,v5,v6,v7,v8,v9,v10]] w fun e w'=>e=.returned (.bool (duoB t))∧Below w.heap.size w w':=by
 have hB0:∀ x:Obj,Hid (Below w.heap.size w (w.alloc x)):=fun x=>hid ((Below.refl _ _).alloc (Nat.le_refl _) _)
 by_cases h3:t.op=3∨t.op=4∨t.op=5∨t.op=6
 ·have Hq:Hid (duoB t=true):=hid (by unfold duoB;rcases h3 with h | h | h | h <;> rw[h] <;> rfl)
  rcases h3 with h3 | h3 | h3 | h3
  all_goals
   go_enter Tryz.func124,Tryz.ntmps124
   go_wp2
   go_ret
   exact⟨by rw[Hq.out];rfl,(hB0 _).out⟩
 ·have g3:t.op≠3:=fun h=>h3 (.inl h)
  have g4:t.op≠4:=fun h=>h3 (.inr (.inl h))
  have g5:t.op≠5:=fun h=>h3 (.inr (.inr (.inl h)))
  have g6:t.op≠6:=fun h=>h3 (.inr (.inr (.inr h)))
  have Hq:Hid (duoB t=false):=hid (by unfold duoB;simp[g3,g4,g5,g6])
  clear h3
  go_enter Tryz.func124,Tryz.ntmps124
  go_wp2
  go_ret
  exact⟨by rw[Hq.out];rfl,(hB0 _).out⟩
theorem holdsTwo_c (t:Lt) (cs:List Value) (n₀:Nat) (w:World) (hc:LtC w n₀ t cs) :
  Calls Tryz.prog 124 #[.agg cs.toArray] w fun e w'=>e=.returned (.bool (duoB t))∧Below w.heap.size w w':=by
 obtain⟨o0,k0,o1,k1,o2,k2,rfl,_⟩:=hc.look
 exact holdsTwo_v t _ _ _ _ _ _ _ _ _ _ w
set_option maxRecDepth 100000 in
set_option maxHeartbeats 4000000 in
theorem learnAlike_c (x y:Tm) (cx cy:List Value) (B n₀:Nat) (V:List (List UInt8)) (hV:V.length≤1000000) (K:Kn) (a b' c d:Addr) (w:World) (hx:TmC w n₀ x cx) (hy:TmC w n₀ y cy) (hB:n₀≤B) (hM:KnM V w B K) (hvx:x.op=1→nm x ∈ V) (hvy:y.op=1→nm y ∈ V) (E:YEnv n₀ a b' c d w) :
  Calls Tryz.prog 126 #[.map (some B),.agg cx.toArray,.agg cy.toArray] w (LearnR V w B a (alike1 K x y)):=by
 obtain⟨p0,q0,rfl,_⟩:=hx.look
 obtain⟨p1,q1,rfl,_⟩:=hy.look
 have hB1:=hM.lt
 have hb2:∀ (o p:Obj),Below w.heap.size w ((w.alloc o).alloc p):=fun o p=>((Below.refl _ _).alloc (Nat.le_refl _) _).alloc (by simp) _
 have HOx:=hid (fun (W:World) (hb:Below w.heap.size w W)=>of_c x _ B n₀ V K W (TmC.under hx (hb.mono (by omega))) (hM.below hb hB1))
 have HOy:=hid (fun (W:World) (hb:Below w.heap.size w W)=>of_c y _ B n₀ V K W (TmC.under hy (hb.mono (by omega))) (hM.below hb hB1))
 have HLx:=hid (fun (k:Int) (hk:k=1∨k=2) (W:World) (hb:Below w.heap.size w W)=>learn_c x k _ B n₀ V hV K a b' c d W (TmC.under hx (hb.mono (by omega))) hB (hM.below hb hB1) hvx hk (E.below (hb.mono (by omega))))
 have HLy:=hid (fun (k:Int) (hk:k=1∨k=2) (W:World) (hb:Below w.heap.size w W)=>learn_c y k _ B n₀ V hV K a b' c d W (TmC.under hy (hb.mono (by omega))) hB (hM.below hb hB1) hvy hk (E.below (hb.mono (by omega))))
 have HM:=hid hM
 have tyx:=ofK_ty hM.ty x
 have tyy:=ofK_ty hM.ty y
 have fin:Hid (∀ (r:Option Kn) (W W':World) (e:Ending),Below w.heap.size w W→LearnR V W B a r e W'→LearnR V w B a r e W'):=hid fun r W W' e hb h=>by
  cases h with
  | bad h=>exact .bad ((gB hb _).trans h)
  | good h1 h2=>exact .good h1 ((gB hb _).trans h2)
 clear hM E hx hy
 by_cases h1:ofK K y=0
 ·have h1':(ofK K y == 0)=true:=by simpa using h1
  go_enter Tryz.func126,Tryz.ntmps126
  go_wp2_with fail
  refine (HOy.out _ (hb2 _ _)).mono ?_
  rintro e w1 ⟨rfl,b1⟩
  obtain⟨hc1,hf1⟩:=boxY w.heap.size b1 (by simp;omega)
  obtain⟨hc2,hf2⟩:=boxY (w.heap.size+1) b1 (by simp)
  have B1:=hid ((hb2 (.cells #[.int .i64 x.op,.string x.s,.int .i64 x.n,.slice p0 x.l.length q0] 51) (.cells #[.int .i64 y.op,.string y.s,.int .i64 y.n,.slice p1 y.l.length q1] 51)).trans (b1.mono (by simp;omega)))
  have hsz1:=b1.size
  simp only[World.size_alloc] at hsz1
  go_wp2_with fail
  have B2:∀ W:World,Hid (Below w.heap.size w W→∀ (a0 a1 a2 a3 b0 b1 b2 b3:Value),Below w.heap.size w ((((((((W.setCell ⟨w.heap.size,0,none⟩ a0).setCell ⟨w.heap.size,1,none⟩ a1).setCell ⟨w.heap.size,2,none⟩ a2).setCell ⟨w.heap.size,3,none⟩ a3).setCell ⟨w.heap.size+1,0,none⟩ b0).setCell ⟨w.heap.size+1,1,none⟩ b1).setCell ⟨w.heap.size+1,2,none⟩ b2).setCell ⟨w.heap.size+1,3,none⟩ b3)):=fun W=>hid fun h a0 a1 a2 a3 b0 b1 b2 b3=>
   (((((((h.setCell (Nat.le_refl _) a0).setCell (Nat.le_refl _) a1).setCell (Nat.le_refl _) a2).setCell (Nat.le_refl _) a3).setCell (Nat.le_succ _) b0).setCell (Nat.le_succ _) b1).setCell (Nat.le_succ _) b2).setCell (Nat.le_succ _) b3
  refine (HOx.out _ ((B2 w1).out B1.out _ _ _ _ _ _ _ _)).mono ?_
  rintro e w2 ⟨rfl,b2⟩
  have B3:=hid (((B2 w1).out B1.out _ _ _ _ _ _ _ _).trans (b2.mono (by simp;omega)))
  obtain⟨hc3,hf3⟩:=boxY w.heap.size b2 (by simp;omega)
  by_cases h2:ofK K x=0
  ·have h2':(ofK K x != 0)=false:=by simpa using h2
   have Hq:Hid (alike1 K x y=some K):=hid (by unfold alike1;rw[if_pos h1,if_neg (fun h=>h h2)])
   go_wp2
   go_ret
   rw[Hq.out]
   exact .good (HM.out.below B3.out hB1) (gB B3.out _)
  ·have h2':(ofK K x != 0)=true:=by simpa using h2
   have Hq:Hid (alike1 K x y=learn1 K y (ofK K x)):=hid (by unfold alike1;rw[if_pos h1,if_pos h2])
   have hk:Hid (ofK K x=1∨ofK K x=2):=hid (tyx.resolve_left h2)
   go_wp2_with fail
   refine (HLy.out _ hk.out _ B3.out).mono ?_
   rintro e w3 hR
   obtain⟨v,rfl,hR'⟩:=(fin.out _ _ _ _ B3.out hR).ret
   have HR:=hid hR'
   clear hR hR'
   go_wp2
   go_ret
   rw[Hq.out]
   exact HR.out
 ·have h1':(ofK K y == 0)=false:=by simpa using h1
  have h2':(ofK K y != 0)=true:=by simpa using h1
  have Hq:Hid (alike1 K x y=learn1 K x (ofK K y)):=hid (by unfold alike1;rw[if_neg h1])
  have hk:Hid (ofK K y=1∨ofK K y=2):=hid (tyy.resolve_left h1)
  go_enter Tryz.func126,Tryz.ntmps126
  go_wp2_with fail
  refine (HOy.out _ (hb2 _ _)).mono ?_
  rintro e w1 ⟨rfl,b1⟩
  obtain⟨hc1,hf1⟩:=boxY w.heap.size b1 (by simp;omega)
  obtain⟨hc2,hf2⟩:=boxY (w.heap.size+1) b1 (by simp)
  have B1:=hid ((hb2 (.cells #[.int .i64 x.op,.string x.s,.int .i64 x.n,.slice p0 x.l.length q0] 51) (.cells #[.int .i64 y.op,.string y.s,.int .i64 y.n,.slice p1 y.l.length q1] 51)).trans (b1.mono (by simp;omega)))
  have hsz1:=b1.size
  simp only[World.size_alloc] at hsz1
  go_wp2_with fail
  refine (HOy.out _ B1.out).mono ?_
  rintro e w2 ⟨rfl,b2⟩
  have B3:=hid (B1.out.trans (b2.mono (by omega)))
  obtain⟨hc3,hf3⟩:=boxY w.heap.size b2 (by omega)
  go_wp2_with fail
  refine (HLx.out _ hk.out _ B3.out).mono ?_
  rintro e w3 hR
  obtain⟨v,rfl,hR'⟩:=(fin.out _ _ _ _ B3.out hR).ret
  have HR:=hid hR'
  clear hR hR'
  go_wp2
  go_ret
  rw[Hq.out]
  exact HR.out
end Go.Proofs.YtfmldnbcjbflbaaGreatDoor
namespace Go.Proofs.YtfmldnbcjbflbaaGreatDoor
open Lib(hid)
open Go.RowKit Go.Shelf
attribute [local go_sem] Oper.semAt_some
theorem atomsL_app:∀ (a b:List Lt),atomsL (a++b)=atomsL a++atomsL b
 | [],b=>rfl
 | t::a,b=>by
  show (if duoB t then atomsL (a++b) else t.a::atomsL (a++b))=(if duoB t then atomsL a else t.a::atomsL a)++atomsL b
  rw[atomsL_app a b]
  split <;> rfl
theorem atomsL_take {l:List Lt} {k:Nat} {t:Lt} (h:l[k]?=some t):atomsL (l.take (k+1))=atomsL (l.take k)++(if duoB t then [] else [t.a]):=by
 rw[List.take_succ_eq_append_getElem (List.getElem?_eq_some_iff.1 h).1,(List.getElem?_eq_some_iff.1 h).2,atomsL_app]
 rfl
theorem atomsL_pre (l:List Lt) (k:Nat):atomsL (l.take k) <+: atomsL l:=⟨atomsL (l.drop k),by rw[← atomsL_app,List.take_append_drop]⟩
theorem yatom_in (n:Nat) (r:Ru) (cs:List Value) (w:World) (hc:RuC w w.heap.size r cs) :
  CallsIn Fence.wide n Tryz.prog 122 #[.agg cs.toArray] w fun e w'=>e=.returned (.func (.func 144) #[] #[.pointer (some ⟨w.heap.size,0,none⟩)])∧w'=w.alloc (.cells cs.toArray 37):=by
 obtain⟨o0,k0,o1,k1,rfl,_⟩:=hc.look
 clear hc
 refine callsIn_of_wp Tryz.func122 rfl trivial ?_ rfl
 simp only[Tryz.ntmps122,List.size_toArray,List.length_cons,List.length_nil,Nat.reduceAdd,Nat.reduceSub,Array.replicate_succ,Array.replicate_zero,List.push_toArray,List.append_toArray,List.nil_append,List.cons_append]
 gi_wp2
 go_ret
 exact⟨rfl,rfl⟩
set_option maxRecDepth 100000 in
set_option maxHeartbeats 4000000 in
theorem yatom_stops {G:Am→Prop} (n B n₀:Nat) (r:Ru) (cs:List Value) (w0 w:World) (S:World→Nat→Prop) (hG:SGrow S) (hs:Safe S w0 w) (hw:∀ i,S w i→i < w.heap.size) (hB:CellsAt w0 ⟨B,0,none⟩ 0 cs) (hc:RuC w0 n₀ r cs) (hGd:∀ t ∈ atomsR r,G t) :
  SeqStopsK Fence.wide n Tryz.prog 144 #[.pointer (some ⟨B,0,none⟩)] (Na.enc (w:=w0) (B:=n₀) (G:=G)) (KO S) (fun ys=>ys.map Na.t=atomsR r) (fun pre=>pre.map Na.t <+: atomsR r) (atomsR r).length w:=by
 intro l J Jx W hW hJ _ hY h0
 have hKW:=KO.of_below hG hw hW
 have hs1:=hs.ko hKW
 have hw1:=hKW.wf hw
 have hJg:∀ pre W W',J pre W→Below W.heap.size W W'→J pre W':=fun pre W W' h hb=>hJ pre W W' none h (grownBelow hb) (fun _ e=>by cases e)
 obtain⟨o0,k0,o1,k1,rfl,_,hA,hL⟩:=hc.look
 obtain⟨_,_,e2,hb1,hb2,SL⟩:=SlOf.open hL
 cases e2
 have hBW:CellsAt W ⟨B,0,none⟩ 0 _:=fun j c hj=>(hs1 _ _ (hB j c hj)).1
 obtain⟨c0,c1,c2,c3⟩:=hBW.four
 have ea:(⟨B,0,none⟩:Addr).add 0=⟨B,0,none⟩:=by unfold Addr.add;simp
 simp only[ea,Nat.zero_add] at c0 c1 c2 c3
 have hBl:B < W.heap.size:=World.block_lt_of_cell? _ _ c0
 obtain⟨x,hx⟩:∃ x:Na w0 n₀ G,x=⟨r.head,_,hA,hGd _ (List.mem_cons_self ..)⟩:=⟨_,rfl⟩
 have hxe:x.enc=#[.agg #[.string r.head.rel,.slice o0 r.head.l.length k0]]:=by rw[hx];rfl
 have hxt:x.t=r.head:=by rw[hx]
 obtain⟨fn,tmps,assign,body,hy,hR⟩:=hY [] x W h0 (by simp[atomsR])
 rw[hxe] at hy
 have Hs:=hid hs1
 have Hw:=hid hw1
 have HJg:=hid hJg
 have HY:=hid hY
 have HBW:=hid hB
 have Hxt:=hid hxt
 have HGd:=hid hGd
 clear hKW hs1 hw1 hJg hA hL hBW hB hc hY hJ h0 hs hw hW ea hx hxe hxt hGd
 refine callsIn_of_wp Tryz.func144 rfl trivial ?_ rfl
 simp only[Tryz.ntmps144,List.size_toArray,List.length_cons,List.length_nil,Nat.reduceAdd,Nat.reduceSub,Array.replicate_succ,Array.replicate_zero,List.push_toArray,List.append_toArray,List.nil_append,List.cons_append]
 gi_wp2
 refine⟨fun h=>(by cases h),hR.mono ?_⟩
 rintro e W1 (⟨rfl,hJ1,hk1⟩ | ⟨rfl,hx2⟩)
 ·have Hk1:=hid hk1
  have hB1:CellsAt W1 ⟨B,0,none⟩ 0 _:=fun j c hj=>(Hs.out.ko hk1 _ _ (HBW.out j c hj)).1
  obtain⟨f0,f1,f2,f3⟩:=hB1.four
  have ea:(⟨B,0,none⟩:Addr).add 0=⟨B,0,none⟩:=by unfold Addr.add;simp
  simp only[ea,Nat.zero_add] at f0 f1 f2 f3
  have hBl1:B < W1.heap.size:=World.block_lt_of_cell? _ _ f0
  have HJ1:=hid hJ1
  clear hk1 hJ1 c0 c1 c2 c3 hB1 ea
  gi_wp2
  gi_loopw [13] (fun i wr=>∃ (k:Nat) (ys:List (Na w0 n₀ G)),k≤r.body.length∧i=.int .i64 k∧ys.map Na.t=r.head::atomsL (r.body.take k)∧J ys wr∧KO S W wr) (fun i _=>r.body.length - (intOf i).toNat)
  case atStart=>exact⟨0,[x],Nat.zero_le _,rfl,by simp[Hxt.out,atomsL],by simpa using HJ1.out,Hk1.out⟩
  case round=>
   obtain⟨k,ys,hk,rfl,hys,hJk,hkk⟩:=hrel
   have Hyk:=hid hys
   have hsr:=Hs.out.ko hkk
   have hwr:=hkk.wf Hw.out
   by_cases hlt:k < r.body.length
   ·have hlt':(k:Int) < (r.body.length:Int):=by omega
    have hk0:(0:Int)≤(k:Int):=by omega
    obtain⟨u,hu⟩:∃ u,r.body[k]?=some u:=⟨r.body[k],List.getElem?_eq_getElem hlt⟩
    obtain⟨a,p0,q0,p1,q1,p2,q2,rfl,hal,Hc,hca⟩:=lt_ko SL hsr hu
    obtain⟨c0,c1,c2,c3,c4,c5,c6,c7,c8,c9,c10⟩:=hca.n11
    have Htk:=hid (atomsL_take hu)
    obtain⟨V1,hV1⟩:∃ V1,wr.alloc (.cells #[.int .i64 u.op,.string u.a.rel,.slice p0 u.a.l.length q0,.int .i64 u.x.op,.string u.x.s,.int .i64 u.x.n,.slice p1 u.x.l.length q1,.int .i64 u.y.op,.string u.y.s,.int .i64 u.y.n,.slice p2 u.y.l.length q2] 56)=V1:=⟨_,rfl⟩
    have hb1':Below wr.heap.size wr V1:=by rw[← hV1];exact (Below.refl _ _).alloc (Nat.le_refl _) _
    have hrow1:V1.heap[wr.heap.size]?=some (.cells #[.int .i64 u.op,.string u.a.rel,.slice p0 u.a.l.length q0,.int .i64 u.x.op,.string u.x.s,.int .i64 u.x.n,.slice p1 u.x.l.length q1,.int .i64 u.y.op,.string u.y.s,.int .i64 u.y.n,.slice p2 u.y.l.length q2] 56 (0,0)):=by rw[← hV1];exact World.alloc_heap_new wr _
    have hsz1:V1.heap.size=wr.heap.size+1:=by rw[← hV1];simp
    have HV:=hid hV1
    have Hrow1:=hid hrow1
    have Hb1:=hid hb1'
    have HJk:=hid hJk
    have Hkk:=hid hkk
    have Hwr:=hid hwr
    clear hys hJk hkk hsr hwr hu hca hb1' hrow1 hV1
    gi_wp2_with fail
    refine⟨trivial,fun h=>(by cases h),(callsIn_wide.2 (holdsTwo_v u _ _ _ _ _ _ _ _ _ _ _)).mono ?_⟩
    rintro e W2 ⟨rfl,b2⟩
    have hbb:Below wr.heap.size wr W2:=((Below.refl _ _).alloc (Nat.le_refl _) _).trans (b2.mono (by simp))
    have hcell:=fun (o:Nat)=>b2.cell (p:=⟨wr.heap.size,o,none⟩) (by simp)
    have hsz2:=b2.size
    simp only[World.size_alloc] at hsz2
    have KK:=hid (Hkk.out.trans (KO.of_below hG Hwr.out hbb))
    have JJ:=hid (HJg.out _ _ _ HJk.out hbb)
    have hcl1:W2.cell? ⟨wr.heap.size,1,none⟩=some (.string u.a.rel):=by rw[hcell 1];unfold World.cell?;simp only[];rw[World.alloc_heap_new];rfl
    have hcl2:W2.cell? ⟨wr.heap.size,2,none⟩=some (.slice p0 u.a.l.length q0):=by rw[hcell 2];unfold World.cell?;simp only[];rw[World.alloc_heap_new];rfl
    clear hbb hcell b2
    cases hd:duoB u with
    | true=>
     have Htk2:Hid (atomsL (r.body.take (k+1))=atomsL (r.body.take k)):=hid (by rw[Htk.out,hd];simp)
     clear hd
     gi_wp2
     refine⟨fun f h=>(by cases h),?_⟩
     gi_wp2
     go_roundw
     case rel=>exact⟨k+1,ys,hlt,by go_num,by rw[Htk2.out];exact Hyk.out,JJ.out,KK.out⟩
     case measure=>simp[intOf];omega
    | false=>
     have Htk2:Hid (atomsL (r.body.take (k+1))=atomsL (r.body.take k)++[u.a]):=hid (by rw[Htk.out,hd];rfl)
     clear hd
     have pfx:atomsL (r.body.take (k+1)) <+: atomsL r.body:=atomsL_pre _ _
     have Pfx:=hid pfx
     obtain⟨_,_,_,_,_,_,ec,_,hAu,_,_⟩:=Hc.out.look
     simp only[List.cons.injEq,Value.slice.injEq,true_and,and_true] at ec
     obtain⟨⟨rfl,rfl⟩,⟨rfl,rfl⟩,rfl,rfl⟩:=ec
     have hgu:G u.a:=HGd.out _ (List.mem_cons_of_mem _ (Pfx.out.subset (by rw[Htk2.out];simp)))
     obtain⟨x2,hx2⟩:∃ x:Na w0 n₀ G,x=⟨u.a,_,hAu,hgu⟩:=⟨_,rfl⟩
     have hxe2:x2.enc=#[.agg #[.string u.a.rel,.slice p0 u.a.l.length q0]]:=by rw[hx2];rfl
     have hxt2:x2.t=u.a:=by rw[hx2]
     obtain⟨fn2,tmps2,assign2,body2,hy2,hR2⟩:=HY.out ys x2 W2 JJ.out (by
      have h1:=congrArg List.length Hyk.out
      have h2:=Pfx.out.length_le
      rw[Htk2.out] at h2
      simp only[List.length_map,List.length_append,List.length_cons,List.length_nil] at h1 h2
      unfold atomsR
      simp only[List.length_cons]
      omega)
     rw[hxe2] at hy2
     have Hxt2:=hid hxt2
     clear pfx hAu hgu hx2 hxe2 hxt2
     gi_wp2
     refine⟨fun h=>(by cases h),hR2.mono ?_⟩
     rintro e W3 (⟨rfl,hJ3,hk3⟩ | ⟨rfl,hx3⟩)
     ·have HJ3:=hid hJ3
      have K33:=hid (KK.out.trans hk3)
      clear hJ3 hk3
      gi_wp2
      go_roundw
      case rel=>
       refine⟨k+1,ys++[x2],hlt,by go_num,?_,HJ3.out,K33.out⟩
       rw[List.map_append,Hyk.out,Htk2.out,List.map_cons,List.map_nil,Hxt2.out]
       simp
      case measure=>simp[intOf];omega
     ·have HX3:=hid hx3
      clear hx3
      gi_wp2
      refine bodyPost_ret (results_none rfl _ _ _) rfl ?_
      refine⟨⟨_,rfl⟩,.inr ⟨ys++[x2],?_,HX3.out⟩⟩
      rw[List.map_append,Hyk.out,List.map_cons,List.map_nil,Hxt2.out]
      obtain⟨r2,hr2⟩:=Pfx.out
      refine⟨r2,?_⟩
      unfold atomsR
      rw[← hr2,Htk2.out]
      simp
   ·have hlt':¬ (k:Int) < (r.body.length:Int):=by omega
    have HJk:=hid hJk
    clear hJk hkk hsr hwr hys
    gi_wp2
    go_end0
    refine⟨⟨_,rfl⟩,.inl ⟨ys,?_,HJk.out⟩⟩
    rw[Hyk.out,List.take_of_length_le (by omega)]
    rfl
 ·have HX:=hid hx2
  clear hx2
  gi_wp2
  refine bodyPost_ret (results_none rfl _ _ _) rfl ?_
  refine⟨⟨_,rfl⟩,.inr ⟨[x],?_,by simpa using HX.out⟩⟩
  simp[Hxt.out,atomsR]
end Go.Proofs.YtfmldnbcjbflbaaGreatDoor
namespace Go.Proofs.YtfmldnbcjbflbaaGreatDoor
open Lib(hid)
open Go.RowKit
theorem lt_in {n₀:Nat} {w wr:World} {l:List Lt} {o:Option Addr} {k:Nat} {t:Lt} (S:Hid (SlIn w n₀ 11 (LtC w n₀) l o)) (hB:Below n₀ w wr) (ht:l[k]?=some t) :
  ∃ a o0 k0 o1 k1 o2 k2,o=some a∧a.block < n₀∧Hid (LtC wr n₀ t [.int .i64 t.op,.string t.a.rel,.slice o0 t.a.l.length k0,.int .i64 t.x.op,.string t.x.s,.int .i64 t.x.n,.slice o1 t.x.l.length k1,.int .i64 t.y.op,.string t.y.s,.int .i64 t.y.n,.slice o2 t.y.l.length k2]) ∧
   wr.cell? (a.add (k * 11))=some (.int .i64 t.op)∧wr.cell? ⟨(a.add (k * 11)).block,(a.add (k * 11)).off+1,none⟩=some (.string t.a.rel)∧wr.cell? ⟨(a.add (k * 11)).block,(a.add (k * 11)).off+2,none⟩=some (.slice o0 t.a.l.length k0)∧wr.cell? ⟨(a.add (k * 11)).block,(a.add (k * 11)).off+3,none⟩=some (.int .i64 t.x.op)∧wr.cell? ⟨(a.add (k * 11)).block,(a.add (k * 11)).off+4,none⟩=some (.string t.x.s)∧wr.cell? ⟨(a.add (k * 11)).block,(a.add (k * 11)).off+5,none⟩=some (.int .i64 t.x.n)∧wr.cell? ⟨(a.add (k * 11)).block,(a.add (k * 11)).off+6,none⟩=some (.slice o1 t.x.l.length k1)∧wr.cell? ⟨(a.add (k * 11)).block,(a.add (k * 11)).off+7,none⟩=some (.int .i64 t.y.op)∧wr.cell? ⟨(a.add (k * 11)).block,(a.add (k * 11)).off+8,none⟩=some (.string t.y.s)∧wr.cell? ⟨(a.add (k * 11)).block,(a.add (k * 11)).off+9,none⟩=some (.int .i64 t.y.n)∧wr.cell? ⟨(a.add (k * 11)).block,(a.add (k * 11)).off+10,none⟩=some (.slice o2 t.y.l.length k2):=by
 obtain⟨a,cs,rfl,ha,_,h1,h2⟩:=S.out k t ht
 obtain⟨o0,k0,o1,k1,o2,k2,rfl,_⟩:=h1.look
 exact⟨a,o0,k0,o1,k1,o2,k2,rfl,ha,hid (h1.below hB),(h2.below ha hB).n11⟩
theorem LtC.look2 {w:World} {B:Nat} {t:Lt} {v0 v1 v2 v3 v4 v5 v6 v7 v8 v9 v10:Value} (h:LtC w B t [v0,v1,v2,v3,v4,v5,v6,v7,v8,v9,v10]):TmC w B t.x [v3,v4,v5,v6]∧TmC w B t.y [v7,v8,v9,v10]:=by
 obtain⟨o0,k0,o1,k1,o2,k2,e,_,h1,h2,h3⟩:=h.look
 simp only[List.cons.injEq] at e
 obtain⟨rfl,rfl,rfl,rfl,rfl,rfl,rfl,rfl,rfl,rfl,rfl,_⟩:=e
 exact⟨h2,h3⟩
theorem prsL_drop {l:List Lt} {k:Nat} {t:Lt} (h:l[k]?=some t):prsL (l.drop k)=if duoB t then (t.x,t.y)::prsL (l.drop (k+1)) else prsL (l.drop (k+1)):=by
 have h1:l.drop k=t::l.drop (k+1):=by rw[List.drop_eq_getElem_cons (List.getElem?_eq_some_iff.1 h).1,(List.getElem?_eq_some_iff.1 h).2]
 rw[h1];rfl
theorem alikeL_cons (K:Kn) (x y:Tm) (l:List (Tm × Tm)):alikeL K ((x,y)::l)=(match alike1 K x y with | none=>none | some K'=>alikeL K' l):=by
 rw[alikeL];rfl
theorem learn_len {K K':Kn} {t:Tm} {k:Int} (h:learn1 K t k=some K'):K.length≤K'.length:=by
 rcases learn_cases h with ⟨_,rfl⟩ | ⟨_,_,rfl⟩ | ⟨_,_,_,rfl⟩ <;> simp
theorem alike_len {K K':Kn} {x y:Tm} (h:alike1 K x y=some K'):K.length≤K'.length:=by
 unfold alike1 at h
 split at h
 ·split at h
  ·exact learn_len h
  ·cases h;exact Nat.le_refl _
 ·exact learn_len h
theorem alikeL_len:∀ {l:List (Tm × Tm)} {K K':Kn},alikeL K l=some K'→K.length≤K'.length
 | [],_,_,h=>by cases h;exact Nat.le_refl _
 | (x,y)::l,K,K',h=>by
  rw[alikeL_cons] at h
  cases h1:alike1 K x y with
  | none=>rw[h1] at h;cases h
  | some K1=>rw[h1] at h;exact Nat.le_trans (alike_len h1) (alikeL_len h)
set_option maxRecDepth 100000 in
set_option maxHeartbeats 4000000 in
theorem eachOther_c (r:Ru) (cs:List Value) (B n₀:Nat) (V:List (List UInt8)) (hV:V.length≤1000000) (K:Kn) (a b' c d:Addr) (w:World) (hc:RuC w n₀ r cs) (hB:n₀≤B) (hM:KnM V w B K) (hv:∀ l ∈ r.body,(l.x.op=1→nm l.x ∈ V)∧(l.y.op=1→nm l.y ∈ V)) (E:YEnv n₀ a b' c d w) :
  Calls Tryz.prog 90 #[.map (some B),.agg cs.toArray] w fun e w'=>∃ rr,Rounds (prsL r.body) K rr∧LearnR V w B a rr e w':=by
 obtain⟨o0,k0,o1,k1,rfl,_,_,hL⟩:=hc.look
 obtain⟨_,_,e2,hcap,hmax,SL⟩:=hL.open
 cases e2
 have HE:=hid E
 have HM:=hid hM
 have hB1:=hM.lt
 have G0:∀ x:Obj,Hid (w.grownBy (w.alloc x) (some B)):=fun x=>hid (World.grownBy_alloc w x _)
 clear hM E hc hL
 go_enter Tryz.func90,Tryz.ntmps90
 go_wp2
 go_step3
 go_wp2
 go_step3
 go_wp2
 go_loopw [5,6] (fun wv bv wr=>∃ (bf:Int) (Ki:Kn),wv=.nilIface∧bv=.int .i64 bf∧KnM V wr B Ki∧(w.alloc (.cells #[.string r.head.rel,.slice o0 r.head.l.length k0,.slice o1 r.body.length k1,.int .i64 r.line] 37)).grownBy wr (some B) ∧
  -1≤bf∧bf≤Ki.length∧((bf = -1∧Ki=K)∨∃ Kp:Kn,bf=Kp.length∧alikeL Kp (prsL r.body)=some Ki∧∀ rr,Rounds (prsL r.body) Kp rr→Rounds (prsL r.body) K rr)) (fun _ bv _=>V.length+1 - (intOf bv+1).toNat)
 case atStart=>exact⟨-1,K,rfl,rfl,HM.out.same ((Below.heap_alloc _ _ _ hB1)),World.grownBy.refl _ _,by omega,by omega,.inl ⟨rfl,rfl⟩⟩
 case round=>
  obtain⟨bf,Ki,rfl,rfl,hM2,hg2,hb1,hb2,hst⟩:=hrel
  have Hst:=hid hst
  have Hb1:=hid hb1
  have Hmore:Hid (bf < Ki.length→∀ rr,Rounds (prsL r.body) Ki rr→Rounds (prsL r.body) K rr):=hid fun hlt=>by
   rcases hst with ⟨_,h2⟩ | ⟨Kp,h1,h2,h3⟩
   ·subst h2;exact fun _ h=>h
   ·exact fun rr h=>h3 rr (.more h2 (by omega) h)
  have HM2:=hid hM2
  have Hg2:=hid hg2
  have hBs:=hg2.size
  simp only[World.size_alloc] at hBs
  clear hM2 hg2 hst
  by_cases hlt:bf < Ki.length
  ·have Hlt:=hid hlt
   have hcr:wr.cell? ⟨w.heap.size,2,none⟩=some (.slice o1 r.body.length k1):=by
    have h:=Hg2.out.block w.heap.size (by simp) (fun e=>by have:=Option.some.inj e;omega)
    unfold World.cell?
    simp only[]
    rw[h,World.alloc_heap_new]
    rfl
   go_wp2_with (at_len;refine wpList_mapI_len _ rfl _ 87 rfl 9 3 Tryz.underlying87 B _ (look Ki) _ rfl HM2.out.map ?_)
   go_loopw [5,18] (fun wv i wx=>∃ (k:Nat) (Kj:Kn),wv=.nilIface∧k≤r.body.length∧i=.int .i64 k∧alikeL Ki (prsL r.body)=alikeL Kj (prsL (r.body.drop k))∧KnM V wx B Kj∧(w.alloc (.cells #[.string r.head.rel,.slice o0 r.head.l.length k0,.slice o1 r.body.length k1,.int .i64 r.line] 37)).grownBy wx (some B)) (fun _ i _=>r.body.length - (intOf i).toNat)
   case atStart=>exact⟨0,Ki,rfl,Nat.zero_le _,rfl,rfl,HM2.out,Hg2.out⟩
   case round=>
    obtain⟨k,Kj,rfl,hk,rfl,hr,hM3,hg3⟩:=hrel
    have Hr:=hid hr
    have HM3:=hid hM3
    have Hg3:=hid hg3
    have hBx:=hg3.size
    simp only[World.size_alloc] at hBx
    have hB':Below n₀ w wr:=gBelow ((G0 _).out.trans Hg3.out) hB (by omega)
    clear hr hM3 hg3
    by_cases hlt2:k < r.body.length
    ·have hlt':(k:Int) < (r.body.length:Int):=by omega
     obtain⟨t,ht⟩:∃ t,r.body[k]?=some t:=⟨r.body[k],List.getElem?_eq_getElem hlt2⟩
     obtain⟨b,p3,q3,p4,q4,p5,q5,rfl,ha,Hc,c0,c1,c2,c3,c4,c5,c6,c7,c8,c9,c10⟩:=lt_in SL hB' ht
     have hal:(b.add (k * 11)).block < wr.heap.size:=by rw[addBlock];omega
     have Hdr:=hid (prsL_drop ht)
     have Hvb:=hid (hv t (List.mem_of_getElem? ht))
     clear ht
     go_wp2_with fail
     have hb0:Below wr.heap.size wr (wr.alloc (.cells #[.int .i64 t.op,.string t.a.rel,.slice p3 t.a.l.length q3,.int .i64 t.x.op,.string t.x.s,.int .i64 t.x.n,.slice p4 t.x.l.length q4,.int .i64 t.y.op,.string t.y.s,.int .i64 t.y.n,.slice p5 t.y.l.length q5] 56)):=(Below.refl _ _).alloc (Nat.le_refl _) _
     have Hb0:=hid hb0
     refine (holdsTwo_c t _ n₀ _ (Hc.out.below (hb0.mono (by omega)))).mono ?_
     rintro e w1 ⟨rfl,b1⟩
     have b2:Below wr.heap.size wr w1:=hb0.trans (b1.mono (by simp))
     have Hb2:=hid b2
     obtain⟨hc1,hf1⟩:=boxY wr.heap.size b1 (by simp)
     have hBw:B < wr.heap.size:=by omega
     have hs1:=b1.size
     simp only[World.size_alloc] at hs1
     clear hb0 b1 b2
     cases hd:duoB t with
     | false=>
      have Hz:Hid (alikeL Ki (prsL r.body)=alikeL Kj (prsL (r.body.drop (k+1)))):=hid (by rw[Hr.out,Hdr.out,hd];rfl)
      clear hd
      go_wp2
      go_roundw
      case rel=>exact⟨k+1,Kj,rfl,hlt2,by go_num,Hz.out,HM3.out.below Hb2.out hBw,Hg3.out.trans (gB Hb2.out _)⟩
      case measure=>simp[intOf];omega
     | true=>
      have Hz:Hid (alikeL Ki (prsL r.body)=alikeL Kj ((t.x,t.y)::prsL (r.body.drop (k+1)))):=hid (by rw[Hr.out,Hdr.out,hd];rfl)
      clear hd
      go_wp2_with fail
      refine (learnAlike_c t.x t.y [.int .i64 t.x.op,.string t.x.s,.int .i64 t.x.n,.slice p4 t.x.l.length q4] [.int .i64 t.y.op,.string t.y.s,.int .i64 t.y.n,.slice p5 t.y.l.length q5] B n₀ V hV Kj a b' c d w1 (TmC.under Hc.out.look2.1 (Hb2.out.mono (by omega))) (TmC.under Hc.out.look2.2 (Hb2.out.mono (by omega))) hB (HM3.out.below Hb2.out hBw) Hvb.out.1 Hvb.out.2 (HE.out.below (hB'.trans (Hb2.out.mono (by omega))))).mono ?_
      rintro e w2 hR
      cases hl:alike1 Kj t.x t.y with
      | none=>
       rw[hl] at hR
       cases hR with
       | bad hg4=>
       have Hq:Hid (Rounds (prsL r.body) K none):=hid (Hmore.out Hlt.out _ (.bad (by rw[Hz.out,alikeL_cons,hl])))
       have Hg4:=hid (((G0 _).out.trans Hg3.out).trans ((gB Hb2.out _).trans hg4))
       clear hl hg4
       unfold errV
       go_wp2
       rw[Exit.noGoto_ret]
       go_ret
       exact⟨_,Hq.out,.bad Hg4.out⟩
      | some K'=>
       rw[hl] at hR
       cases hR with
       | good hm4 hg4=>
       have Hz2:Hid (alikeL Ki (prsL r.body)=alikeL K' (prsL (r.body.drop (k+1)))):=hid (by rw[Hz.out,alikeL_cons,hl])
       have Hg4:=hid (Hg3.out.trans ((gB Hb2.out _).trans hg4))
       have Hm4:=hid hm4
       clear hl hg4 hm4
       go_wp2
       go_roundw
       case rel=>exact⟨k+1,K',rfl,hlt2,by go_num,Hz2.out,Hm4.out,Hg4.out⟩
       case measure=>simp[intOf];omega
    ·have hlt':¬ (k:Int) < (r.body.length:Int):=by omega
     have Hq:Hid (alikeL Ki (prsL r.body)=some Kj):=hid (by rw[Hr.out,List.drop_of_length_le (by omega)];rfl)
     go_wp2
     go_roundw
     case rel=>exact⟨Ki.length,Kj,rfl,rfl,HM3.out,Hg3.out,by omega,by have:=alikeL_len Hq.out;omega,.inr ⟨Ki,rfl,Hq.out,Hmore.out Hlt.out⟩⟩
     case measure=>have:=HM2.out.len;have:=Hlt.out;have:=Hb1.out;simp[intOf];omega
  ·have Hq:Hid (Rounds (prsL r.body) K (some Ki)):=hid (by
    rcases Hst.out with ⟨h1,_⟩ | ⟨Kp,h1,h2,h3⟩
    ·omega
    ·exact h3 _ (.still h2 (by omega)))
   go_wp2_with (at_len;refine wpList_mapI_len _ rfl _ 87 rfl 9 3 Tryz.underlying87 B _ (look Ki) _ rfl HM2.out.map ?_)
   go_ret
   exact⟨_,Hq.out,.good HM2.out ((G0 _).out.trans Hg2.out)⟩
end Go.Proofs.YtfmldnbcjbflbaaGreatDoor
namespace Go.Proofs.YtfmldnbcjbflbaaGreatDoor
open Lib(hid)
open Go.RowKit
theorem ixY_drop {s:ByteArray} {l:List De} {k:Nat} {d:De} (h:l[k]?=some d):ixY s k (l.drop k)=if relY s d then (k:Int) else ixY s (k+1) (l.drop (k+1)):=by
 have h1:l.drop k=d::l.drop (k+1):=by rw[List.drop_eq_getElem_cons (List.getElem?_eq_some_iff.1 h).1,(List.getElem?_eq_some_iff.1 h).2]
 rw[h1];rfl
theorem ixY_cases (s:ByteArray):∀ (l:List De) (k:Nat),(ixY s k l = -1∧∀ d ∈ l,relY s d=false)∨∃ (i:Nat) (d:De),ixY s k l=((k+i:Nat):Int)∧l[i]?=some d∧relY s d=true
 | [],_=>.inl ⟨rfl,fun _ h=>by cases h⟩
 | d::l,k=>by
  unfold ixY
  cases h:relY s d with
  | true=>exact .inr ⟨0,d,by simp,rfl,h⟩
  | false=>
   rcases ixY_cases s l (k+1) with ⟨h1,h2⟩ | ⟨i,e,h1,h2,h3⟩
   ·refine .inl ⟨by simpa using h1,fun x hx=>?_⟩
    rcases List.mem_cons.1 hx with rfl | hx
    ·exact h
    ·exact h2 x hx
   ·exact .inr ⟨i+1,e,by simp only[Bool.false_eq_true,if_false];rw[h1];congr 1;omega,h2,h3⟩
def findV:Option Nat→Value
 | none=>.tuple #[.int .i64 0,.bool false]
 | some i=>.tuple #[.int .i64 i,.bool true]
set_option maxRecDepth 100000 in
set_option maxHeartbeats 4000000 in
theorem relIs_c (d:De) (s:ByteArray) (nb:Nat) (o0 o1:Option Addr) (k0 k1:Nat) (w:World) (c0:w.cell? ⟨nb,0,none⟩=some (.string s)) :
  Calls Tryz.prog 97 #[.agg #[.string d.rel,.slice o0 d.names.length k0,.slice o1 d.types.length k1,.bool d.inn,.bool d.out,.int .i64 d.line],.pointer (some ⟨nb,0,none⟩)] w fun e w'=>e=.returned (.bool (relY s d))∧Below w.heap.size w w':=by
 have HB0:Hid (∀ (x:Obj),Below w.heap.size w (w.alloc x)):=hid fun x=>(Below.refl _ _).alloc (Nat.le_refl _) _
 have hlt:nb < w.heap.size:=World.block_lt_of_cell? _ _ c0
 go_enter Tryz.func97,Tryz.ntmps97
 go_wp2
 go_ret
 exact⟨rfl,HB0.out _⟩
theorem de_in {n₀:Nat} {w wr:World} {l:List De} {o:Option Addr} {k:Nat} {t:De} (S:Hid (SlIn w n₀ 6 (DeC w n₀) l o)) (hB:Below n₀ w wr) (ht:l[k]?=some t) :
  ∃ a o0 k0 o1 k1,o=some a∧a.block < n₀∧Hid (DeC wr n₀ t [.string t.rel,.slice o0 t.names.length k0,.slice o1 t.types.length k1,.bool t.inn,.bool t.out,.int .i64 t.line]) ∧
   CellsAt wr a (k * 6) [.string t.rel,.slice o0 t.names.length k0,.slice o1 t.types.length k1,.bool t.inn,.bool t.out,.int .i64 t.line]:=by
 obtain⟨a,cs,rfl,ha,_,h1,h2⟩:=S.out k t ht
 obtain⟨o0,k0,o1,k1,rfl,_⟩:=h1.look
 exact⟨a,o0,k0,o1,k1,rfl,ha,hid (h1.below hB),h2.below ha hB⟩
set_option maxRecDepth 100000 in
set_option maxHeartbeats 4000000 in
theorem indexD_c (s:ByteArray) (nb n₀:Nat) (l:List De) (v:Value) (w:World) (hl:SlOf w n₀ 6 (DeC w n₀) l v) (hn:n₀≤w.heap.size) (hb:w.cell? ⟨nb,0,none⟩=some (.string s)) :
  Calls Tryz.prog 96 #[v,.func (.func 97) #[] #[.pointer (some ⟨nb,0,none⟩)]] w fun e w'=>e=.returned (.int .i64 (ixY s 0 l))∧Below w.heap.size w w':=by
 obtain⟨o,cap,rfl,hcap,hcm,S⟩:=SlOf.open hl
 have HB0:Hid (Below w.heap.size w w):=hid (Below.refl _ _)
 have hnb:nb < w.heap.size:=World.block_lt_of_cell? _ _ hb
 have Hb:=hid hb
 clear hl hb
 go_enter Tryz.func96,Tryz.ntmps96
 go_wp2
 go_loopw [8] (fun i wr=>∃ k:Nat,k≤l.length∧i=.int .i64 (k:Int)∧ixY s 0 l=ixY s k (l.drop k)∧Below w.heap.size w wr) (fun i _=>l.length - (intOf i).toNat)
 case atStart=>exact⟨0,Nat.zero_le _,rfl,rfl,HB0.out⟩
 case round=>
  obtain⟨k,hk,rfl,hix,hB⟩:=hrel
  have hBs:=hB.size
  by_cases hlt:k < l.length
  ·have hlt':(k:Int) < (l.length:Int):=by omega
   obtain⟨u,hu⟩:∃ u,l[k]?=some u:=⟨l[k],List.getElem?_eq_getElem hlt⟩
   obtain⟨b,p1,q1,p2,q2,rfl,hbb,Hc,hca⟩:=de_in S (hB.mono hn) hu
   obtain⟨c0,c1,c2,c3,c4,c5⟩:=hca.n6
   have hbl:(b.add (k * 6)).block < wr.heap.size:=by rw[addBlock];omega
   have Hix:=hid (hix.trans (ixY_drop hu))
   have HF:=hid (relIs_c u s nb p1 p2 q1 q2 wr ((hB.cell (p:=⟨nb,0,none⟩) hnb).trans Hb.out))
   clear hu hix Hc hca
   go_wp2_with fail
   refine HF.out.mono ?_
   rintro e w2 ⟨rfl,b2⟩
   have HB2:=hid (hB.trans (b2.mono hBs))
   clear b2
   cases hp:relY s u with
   | true=>
    have Hr:Hid (ixY s 0 l=(k:Int)):=hid (by rw[Hix.out,if_pos hp])
    clear hp
    go_wp2
    go_ret
    exact⟨by rw[Hr.out];rfl,HB2.out⟩
   | false=>
    have Hr:Hid (ixY s 0 l=ixY s (k+1) (l.drop (k+1))):=hid (by rw[Hix.out,if_neg (by rw[hp];decide)])
    clear hp
    go_wp2
    go_roundw
    case rel=>exact⟨k+1,by omega,by go_num,Hr.out,HB2.out⟩
    case measure=>simp[intOf];omega
  ·have hlt':¬ (k:Int) < (l.length:Int):=by omega
   have Hr:Hid (ixY s 0 l = -1):=hid (by rw[hix,List.drop_of_length_le (by omega)];rfl)
   clear hix
   go_wp2
   go_ret
   exact⟨by rw[Hr.out];rfl,hB⟩
set_option maxRecDepth 100000 in
set_option maxHeartbeats 4000000 in
theorem find_c (s:ByteArray) (n₀:Nat) (l:List De) (v:Value) (w:World) (hl:SlOf w n₀ 6 (DeC w n₀) l v) (hn:n₀≤w.heap.size) :
  Calls Tryz.prog 62 #[v,.string s] w fun e w'=>e=.returned (findV (findY s l))∧Below w.heap.size w w':=by
 have hb1:Below w.heap.size w (w.alloc (.cells #[.string s] 9)):=(Below.refl _ _).alloc (Nat.le_refl _) _
 have hr:(w.alloc (.cells #[.string s] 9)).cell? ⟨w.heap.size,0,none⟩=some (.string s):=by
  unfold World.cell?
  simp only[]
  rw[World.alloc_heap_new]
  rfl
 have HH:=hid (indexD_c s w.heap.size n₀ l v (w.alloc (.cells #[.string s] 9)) (SlOf.decl hl (hb1.mono hn) (Nat.le_refl _)) (by simp;omega) hr)
 have Hb1:=hid hb1
 have hcs:=ixY_cases s l 0
 clear hl hb1 hr
 go_enter Tryz.func62,Tryz.ntmps62
 go_wp2_with fail
 refine HH.out.mono ?_
 rintro e w2 ⟨rfl,b2⟩
 have HB2:=hid (Hb1.out.trans (b2.mono Hb1.out.size))
 clear b2
 rcases hcs with ⟨h1,_⟩ | ⟨i,d,h1,h2,_⟩
 ·have Hq:Hid (findY s l=none):=hid (by unfold findY;rw[h1];rfl)
  rw[h1]
  go_wp2
  go_ret2
  exact⟨by rw[Hq.out];rfl,HB2.out⟩
 ·have Hq:Hid (findY s l=some i):=hid (by
   unfold findY
   rw[h1,Nat.zero_add,if_neg (by omega)]
   simp)
  rw[h1,Nat.zero_add]
  have hi:¬ ((i:Nat):Int) < 0:=by omega
  clear h1
  go_wp2
  go_ret2
  exact⟨by rw[Hq.out];rfl,HB2.out⟩
end Go.Proofs.YtfmldnbcjbflbaaGreatDoor
