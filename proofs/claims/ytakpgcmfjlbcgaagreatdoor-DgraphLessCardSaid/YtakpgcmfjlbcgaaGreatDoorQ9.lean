/- Teach@0123, Ylearn@0123 -/
import Derived.Test.YtakpgcmfjlbcgaaGreatDoorQ5
import Derived.Test.YtakpgcmfjlbcgaaGreatDoorQ8
set_option linter.unusedSimpArgs false
set_option linter.unusedVariables false
namespace Go.Proofs.YtakpgcmfjlbcgaaGreatDoor
open Lib(hid)
open Go.RowKit Go.Shelf
attribute [local go_sem] Oper.semAt_some
theorem roomOfNone {F:Fence} (hd:F.depth=none) (k:Nat):F.room k:=fun d h=>by rw[hd] at h;cases h
theorem roundAny {F:Fence} (hd:F.depth=none) {m m':Nat} {P:Program} {l:Nat} {f:FuncId} {tmps:Array Value} {assign body:Code} {w:World} {R:Ending→World→Prop}
  (h:RoundIn F m P l f tmps assign body w R):RoundIn F m' P l f tmps assign body w R:=⟨h.1,fun c cs _=>h.2 c cs (roomOfNone hd _)⟩
theorem yieldAny {F:Fence} (hd:F.depth=none) {m:Nat} (m':Nat) {P:Program} {l:Nat} {args:Array Value} {W:World} {R:Ending→World→Prop} (h:YieldAt F m P l args W R):YieldAt F m' P l args W R:=by
 obtain⟨fn,tmps,assign,body,hy,hR⟩:=h
 exact⟨fn,tmps,assign,body,hy,roundAny hd hR⟩
theorem grownBelow {W W':World} (h:Below W.heap.size W W'):W.grownBy W' none:=⟨h.os,h.tape,h.output,h.size,fun k hk _=>h.block k hk⟩
theorem eachTerm_in (n:Nat) (t:Tm) (cs:List Value) (w:World) (hc:TmC w w.heap.size t cs) :
  CallsIn Fence.wide n Tryz.prog 193 #[.agg cs.toArray] w fun e w'=>e=.returned (.func (.func 196) #[] #[.pointer (some ⟨w.heap.size,0,none⟩)])∧w'=w.alloc (.cells cs.toArray 51):=by
 obtain⟨p1,q1,rfl,_,_,_,_⟩:=hc.look
 clear hc
 refine callsIn_of_wp Tryz.func193 rfl trivial ?_ rfl
 simp only[Tryz.ntmps193,List.size_toArray,List.length_cons,List.length_nil,Nat.reduceAdd,Nat.reduceSub,Array.replicate_succ,Array.replicate_zero,List.push_toArray,List.append_toArray,List.nil_append,List.cons_append]
 gi_wp2
 go_ret
 exact⟨rfl,rfl⟩
set_option maxRecDepth 100000 in
set_option maxHeartbeats 2000000 in
theorem eachTerm_stops (n:Nat) (B n₀:Nat) (t:Tm) (cs:List Value) (w:World) (hB:CellsAt w ⟨B,0,none⟩ 0 cs) (hc:TmC w n₀ t cs) :
  SeqStopsK Fence.wide n Tryz.prog 196 #[.pointer (some ⟨B,0,none⟩)] (Nd.enc (w:=w) (B:=n₀)) KC (fun ys=>ys.map Nd.pair=nodesT 1 t) (fun pre=>pre.map Nd.pair <+: nodesT 1 t) (nodesT 1 t).length w:=by
 intro l J Jx W hW hJ _ hY h0
 have hK:KC w W:=KC.of_below hW
 have hv:=visit_in (w0:=w) (n₀:=n₀) l (nodesT 1 t).length J Jx (fun pre W W' h hb=>hJ pre W W' none h (grownBelow hb) (fun _ e=>by cases e)) (fun m pre x W hj hl=>yieldAny rfl m (hY pre x W hj hl)) t (n - 1) 1 W cs [] hK hc h0 (by simp)
 obtain⟨p1,q1,rfl,_,_,_,_⟩:=hc.look
 obtain⟨c0,c1,c2,c3⟩:=(hB.kc hK).four
 have ea:(⟨B,0,none⟩:Addr).add 0=⟨B,0,none⟩:=by unfold Addr.add;simp
 simp only[ea,Nat.zero_add] at c0 c1 c2 c3
 have HV:=hid hv
 clear hv hc hB ea hY hJ
 refine callsIn_of_wp Tryz.func196 rfl trivial ?_ rfl
 simp only[Tryz.ntmps196,List.size_toArray,List.length_cons,List.length_nil,Nat.reduceAdd,Nat.reduceSub,Array.replicate_succ,Array.replicate_zero,List.push_toArray,List.append_toArray,List.nil_append,List.cons_append]
 gi_wp2_with fail
 refine⟨trivial,fun h=>(by cases h),HV.out.mono ?_⟩
 rintro e W1 (⟨rfl,⟨ys,hys,hJ1⟩,_⟩ | ⟨rfl,ys,hys,hx⟩)
 ·gi_wp2
  go_end0
  exact⟨⟨_,rfl⟩,.inl ⟨ys,hys,by simpa using hJ1⟩⟩
 ·gi_wp2
  go_end0
  exact⟨⟨_,rfl⟩,.inr ⟨ys,hys,by simpa using hx⟩⟩
end Go.Proofs.YtakpgcmfjlbcgaaGreatDoor
namespace Go.Proofs.YtakpgcmfjlbcgaaGreatDoor
open Lib(hid)
open Go.RowKit
def errV (a:Addr):Value:=.iface 250 (.pointer (some a))
structure YEnv (n:Nat) (a b c d:Addr) (w:World):Prop where
 ty:w.cell? ⟨6,0,none⟩=some (errV a)
 tw:w.cell? ⟨3,0,none⟩=some (errV b)
 no:w.cell? ⟨4,0,none⟩=some (errV c)
 ar:w.cell? ⟨5,0,none⟩=some (errV d)
 big:6 < n∧3 < n∧4 < n∧5 < n
theorem YEnv.below {n:Nat} {a b c d:Addr} {w w':World} (h:YEnv n a b c d w) (k:Below n w w'):YEnv n a b c d w':=by
 have hb:=h.big
 have e:∀ g v,g < n→w.cell? ⟨g,0,none⟩=some v→w'.cell? ⟨g,0,none⟩=some v:=fun g v hg h=>(k.cell (by show g < n;exact hg)).trans h
 exact⟨e _ _ hb.1 h.ty,e _ _ hb.2.1 h.tw,e _ _ hb.2.2.1 h.no,e _ _ hb.2.2.2 h.ar,hb⟩
theorem gB {W W':World} (h:Below W.heap.size W W') (row:Option Nat):W.grownBy W' row:=⟨h.os,h.tape,h.output,h.size,fun k hk _=>h.block k hk⟩
structure KnM (V:List (List UInt8)) (W:World) (B:Nat) (K:Kn):Prop where
 map:MapI Tryz.prog W 9 3 B K.length (look K) K.length
 ok:KnOk K
 sub:∀ x ∈ K,x.1 ∈ V
 ty:∀ x ∈ K,x.2=1∨x.2=2
theorem KnM.same {V:List (List UInt8)} {W W':World} {B:Nat} {K:Kn} (h:KnM V W B K) (hb:W'.heap[B]?=W.heap[B]?):KnM V W' B K:=
 ⟨by
  obtain⟨D,⟨es,clock,h1,h2⟩,h3⟩:=h.map
  exact⟨D,⟨es,clock,hb.trans h1,h2⟩,h3⟩,h.ok,h.sub,h.ty⟩
theorem KnM.lt {V:List (List UInt8)} {W:World} {B:Nat} {K:Kn} (h:KnM V W B K):B < W.heap.size:=h.map.lt
theorem KnM.below {V:List (List UInt8)} {W W':World} {B n:Nat} {K:Kn} (h:KnM V W B K) (hb:Below n W W') (hn:B < n):KnM V W' B K:=h.same (hb.block B hn)
inductive LearnR (V:List (List UInt8)) (W:World) (B:Nat) (a:Addr):Option Kn→Ending→World→Prop
 | bad {W':World}:W.grownBy W' (some B)→LearnR V W B a none (.returned (errV a)) W'
 | good {K':Kn} {W':World}:KnM V W' B K'→W.grownBy W' (some B)→LearnR V W B a (some K') (.returned .nilIface) W'
theorem boxY {W W1:World} {B:Nat} (n:Nat) (hb:Below B W W1) (hn:n < B):(∀ o,W1.cell? ⟨n,o,none⟩=W.cell? ⟨n,o,none⟩)∧(∀ o,W1.frozen? ⟨n,o,none⟩=W.frozen? ⟨n,o,none⟩):=
 ⟨fun o=>hb.cell (p:=⟨n,o,none⟩) hn,fun o=>hb.frozen (p:=⟨n,o,none⟩) hn⟩
theorem nodup_sub:∀ {l m:List (List UInt8)},l.Nodup→(∀ x ∈ l,x ∈ m)→l.length≤m.length
 | [],_,_,_=>Nat.zero_le _
 | x::l,m,hn,hs=>by
  have hx:=hs x (List.mem_cons_self ..)
  have hn':=List.nodup_cons.1 hn
  have:=nodup_sub (m:=m.erase x) hn'.2 (fun y hy=>(List.mem_erase_of_ne (by rintro rfl;exact hn'.1 hy)).2 (hs y (List.mem_cons_of_mem _ hy)))
  rw[List.length_erase_of_mem hx] at this
  have:=List.length_pos_of_mem hx
  simp only[List.length_cons]
  omega
theorem KnM.len {V:List (List UInt8)} {W:World} {B:Nat} {K:Kn} (h:KnM V W B K):K.length≤V.length:=by
 have:=nodup_sub h.ok.nod (m:=V) (fun x hx=>by
  obtain⟨y,hy,rfl⟩:=List.mem_map.1 hx
  exact h.sub y hy)
 rwa [List.length_map] at this
theorem look_ty {K:Kn} (h:∀ x ∈ K,x.2=1∨x.2=2) (s:List UInt8):look K s=0∨look K s=1∨look K s=2:=by
 induction K with
 | nil=>exact .inl rfl
 | cons x K ih=>
  obtain⟨a,k⟩:=x
  show (if a=s then k else look K s)=0∨(if a=s then k else look K s)=1∨(if a=s then k else look K s)=2
  by_cases e:a=s
  ·rw[if_pos e];exact .inr (h (a,k) (List.mem_cons_self ..))
  ·rw[if_neg e];exact ih (fun x hx=>h x (List.mem_cons_of_mem _ hx))
theorem ofK_ty {K:Kn} (h:∀ x ∈ K,x.2=1∨x.2=2) (t:Tm):ofK K t=0∨ofK K t=1∨ofK K t=2:=by
 unfold ofK tyC
 by_cases e:t.op=1
 ·rw[if_pos e];exact look_ty h _
 ·rw[if_neg e]
  by_cases e2:t.op=2∨t.op=5∨t.op=6∨t.op=7
  ·rw[if_pos e2];exact .inr (.inl rfl)
  ·rw[if_neg e2]
   by_cases e3:t.op=3
   ·rw[if_pos e3];exact .inr (.inr rfl)
   ·rw[if_neg e3];exact .inl rfl
set_option maxRecDepth 100000 in
set_option maxHeartbeats 4000000 in
theorem of_c (t:Tm) (cs:List Value) (B n₀:Nat) (V:List (List UInt8)) (K:Kn) (w:World) (hc:TmC w n₀ t cs) (hM:KnM V w B K) :
  Calls Tryz.prog 192 #[.map (some B),.agg cs.toArray] w fun e w'=>e=.returned (.int .i64 (ofK K t))∧Below w.heap.size w w':=by
 obtain⟨v,rfl,_,hsz,_⟩:=hc.parts
 have zE:∀ w:World,(zeroValue 3).run Tryz.prog w=.ok (.int .i64 0) w:=fun w=>by kernel_rfl
 have hB0:∀ x:Obj,Hid (Below w.heap.size w (w.alloc x)):=fun x=>hid ((Below.refl _ _).alloc (Nat.le_refl _) _)
 have HM:=hid hM.map
 clear hM hc
 by_cases h1:t.op=1
 ·have Hq:Hid (ofK K t=look K t.s.data.toList):=hid (by unfold ofK;rw[if_pos h1];rfl)
  go_enter Tryz.func192,Tryz.ntmps192
  go_wp2_with (at_lookup;refine wpList_mapI_get _ rfl _ _ 151 rfl 9 3 Tryz.underlying151 Tryz.underlying9 Tryz.underlying3 (zE _) B _ (look K) _ rfl (HM.out.alloc _) t.s rfl hsz ?_;intro _)
  go_ret
  exact⟨by rw[Hq.out];rfl,(hB0 _).out⟩
 ·by_cases h2:t.op=2∨t.op=5∨t.op=6∨t.op=7
  ·have Hq:Hid (ofK K t=1):=hid (by unfold ofK tyC;rw[if_neg h1,if_pos h2])
   rcases h2 with h2 | h2 | h2 | h2
   all_goals
    go_enter Tryz.func192,Tryz.ntmps192
    go_wp2
    go_ret
    exact⟨by rw[Hq.out];rfl,(hB0 _).out⟩
  ·have g2:t.op≠2:=fun h=>h2 (.inl h)
   have g5:t.op≠5:=fun h=>h2 (.inr (.inl h))
   have g6:t.op≠6:=fun h=>h2 (.inr (.inr (.inl h)))
   have g7:t.op≠7:=fun h=>h2 (.inr (.inr (.inr h)))
   by_cases h3:t.op=3
   ·have Hq:Hid (ofK K t=2):=hid (by unfold ofK tyC;rw[if_neg h1,if_neg h2,if_pos h3])
    clear h2
    go_enter Tryz.func192,Tryz.ntmps192
    go_wp2
    go_ret
    exact⟨by rw[Hq.out];rfl,(hB0 _).out⟩
   ·have Hq:Hid (ofK K t=0):=hid (by unfold ofK tyC;rw[if_neg h1,if_neg h2,if_neg h3])
    clear h2
    go_enter Tryz.func192,Tryz.ntmps192
    go_wp2
    go_ret
    exact⟨by rw[Hq.out];rfl,(hB0 _).out⟩
set_option maxRecDepth 100000 in
set_option maxHeartbeats 4000000 in
theorem learn_c (t:Tm) (k:Int) (cs:List Value) (B n₀:Nat) (V:List (List UInt8)) (hV:V.length≤1000000) (K:Kn) (a b c d:Addr) (w:World) (hc:TmC w n₀ t cs) (hB:n₀≤B) (hM:KnM V w B K) (hv:t.op=1→nm t ∈ V) (hk:k=1∨k=2) (E:YEnv n₀ a b c d w) :
  Calls Tryz.prog 171 #[.map (some B),.agg cs.toArray,.int .i64 k] w (LearnR V w B a (learn1 K t k)):=by
 obtain⟨v,rfl,_,hsz,_⟩:=hc.parts
 have hB1:=hM.lt
 have hg0:∀ (x:Obj),Hid (w.grownBy (w.alloc x) (some B)):=fun x=>hid (World.grownBy_alloc w x _)
 have HO:=hid (fun (W:World) (hb:Below w.heap.size w W)=>of_c t _ B n₀ V K W (TmC.under hc (hb.mono (by omega))) (hM.below hb hB1))
 have HE:=hid E
 have HM:=hid hM
 have HK2:=hid hk
 have hk1:(k == 0)=false:=by rcases hk with rfl | rfl <;> rfl
 clear hM E hc
 go_enter Tryz.func171,Tryz.ntmps171
 go_wp2_with fail
 refine (HO.out _ ((Below.refl _ _).alloc (Nat.le_refl _) _)).mono ?_
 rintro e w1 ⟨rfl,b1⟩
 have B1:Below w.heap.size w w1:=((Below.refl _ _).alloc (Nat.le_refl _) _).trans (b1.mono (by simp))
 have G1:=hid (gB B1 (some B))
 by_cases h1:ofK K t=k
 ·have Hq:Hid (learn1 K t k=some K):=hid (by unfold learn1;rw[if_pos h1])
  have h1':(ofK K t == k)=true:=by simpa using h1
  go_wp2
  go_ret
  rw[Hq.out]
  exact .good (HM.out.below B1 hB1) G1.out
 ·have h1':(ofK K t == k)=false:=by simpa using h1
  obtain⟨hc1,hf1⟩:=boxY w.heap.size b1 (by simp)
  by_cases h2:ofK K t=0
  ·have h2':(ofK K t != 0)=false:=by simpa using h2
   by_cases h3:t.op=1
   ·have hl:look K (nm t)=0:=by unfold ofK at h2;rwa [if_pos h3] at h2
    have hk0:k≠0:=by rcases hk with rfl | rfl <;> decide
    have Hq:Hid (learn1 K t k=some (K++[(nm t,k)])):=hid (by unfold learn1;rw[if_neg h1,if_neg (fun h=>h h2),if_pos h3])
    have HM1:=hid (HM.out.below B1 hB1)
    have hlen:=HM.out.len
    have hf:updF (look K) t.s.data.toList k=look (K++[(nm t,k)]):=by
     funext s
     rw[look_snoc hl HM.out.ok.pos]
     rfl
    have Hf:=hid hf
    have hle:Hid (K.length < maxLen):=hid (by unfold maxLen;omega)
    have hw:Hid ((Lit.int .i64 k).wf=true):=hid (by rcases hk with rfl | rfl <;> rfl)
    have Hk0:=hid hk0
    have Hl:=hid hl
    have Hv:=hid (hv h3)
    clear hf hk0 hl hv hk h1 h2
    go_wp2_with (at_mapUpdate;refine wpList_mapI_put _ rfl _ _ _ 151 rfl 9 3 Tryz.underlying151 Tryz.underlying9 Tryz.underlying3 B _ (look K) _ rfl HM1.out.map hle.out t.s k rfl rfl hsz Hk0.out hw.out ?_;intro w2 hm2 hg2)
    go_ret
    rw[Hq.out]
    refine .good ⟨?_,HM.out.ok.snoc Hl.out Hk0.out,?_,?_⟩ (G1.out.trans hg2)
    ·rw[Hf.out,if_pos (show look K t.s.data.toList=0 from Hl.out)] at hm2
     simpa using hm2
    ·intro x hx
     rcases List.mem_append.1 hx with hx | hx
     ·exact HM.out.sub x hx
     ·cases List.mem_singleton.1 hx;exact Hv.out
    ·intro x hx
     rcases List.mem_append.1 hx with hx | hx
     ·exact HM.out.ty x hx
     ·cases List.mem_singleton.1 hx;exact HK2.out
   ·have Hq:Hid (learn1 K t k=some K):=hid (by unfold learn1;rw[if_neg h1,if_neg (fun h=>h h2),if_neg h3])
    go_wp2
    go_ret
    rw[Hq.out]
    exact .good (HM.out.below B1 hB1) G1.out
  ·have h2':(ofK K t != 0)=true:=by simpa using h2
   have Hq:Hid (learn1 K t k=none):=hid (by unfold learn1;rw[if_neg h1,if_pos h2])
   have cg:=(HE.out.below (B1.mono (by omega))).ty
   unfold errV at cg
   go_wp2
   go_ret
   rw[Hq.out]
   exact .bad G1.out
end Go.Proofs.YtakpgcmfjlbcgaaGreatDoor
