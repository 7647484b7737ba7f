/- Ggo@0123 -/
import Derived.Test.YtakpgcmfjlbcgaaGreatDoorQ36
import Derived.Test.YtakpgcmfjlbcgaaGreatDoorQ35
set_option linter.unusedSimpArgs false
set_option linter.unusedVariables false
namespace Go.Proofs.YtakpgcmfjlbcgaaGreatDoor
open Lib(hid)
open Go.RowKit Go.Maps
attribute [local go_sem] Oper.semAt_some
theorem infoPl:(Tryz.prog.info? 66).map (fun i=>(i.zero,i.size,i.bytes))=some (some (.map none),1,8):=by kernel_rfl
structure GgI (w:World) (P:Array Value) (v u:Value) (wr:World):Prop where
 b:Below w.heap.size w wr
 pr:wr.heap[w.heap.size]?=some (.cells P 25 (0,0))
 rs:wr.heap[w.heap.size+1]?=some (.cells #[.slice none 0 0,.slice none 0 0] 62 (0,0))
 gr:wr.heap[w.heap.size+1+1]?=some (.cells #[v,u] 62 (0,0))
theorem GgI.push {w wr w4 w5:World} {P:Array Value} {v u v':Value} {Ms:List Nat} {c:Nat} {F:Nat→Nat→Prop} (hI:GgI w P v u wr) (hO:GrO wr (w.heap.size+3) v Ms c F) (hF:∀ x,¬ F Ms.length x)
  (hg:((wr.alloc (.map #[] 0)).alloc (.cells #[.map (some wr.heap.size)] 66)).grownBy w4 v.ownBlock) (ho:w4.ownsRow (w.heap.size+3) 66 1 v' (Ms.length+1) (mapsL Ms++[.map (some wr.heap.size)])) (h5:w4.setCell ⟨w.heap.size+1+1,0,none⟩ v'=w5) :
  w4.heap[w.heap.size+1+1]?=some (.cells #[v,u] 62 (0,0))∧GgI w P v' u w5∧GrO w5 (w.heap.size+3) v' (Ms++[wr.heap.size]) c F∧wr.heap.size < w5.heap.size:=by
 have hne:∀ j,v.ownBlock=some j→w.heap.size+3≤j∧j < wr.heap.size:=fun j hj=>hO.own.lt j hj
 have hl:=heap_lt hI.gr
 have hg4:wr.grownBy w4 v.ownBlock:=grown_past (grown_past hg)
 have bl:∀ i,i < w.heap.size+3→i < wr.heap.size→w4.heap[i]?=wr.heap[i]?:=fun i h1 h2=>hg4.block i h2 fun e=>by have:=hne i e.symm;omega
 have g4:=(bl _ (by omega) hl).trans hI.gr
 have hs:SetG w4 wr.heap.size 0 []:=by
  have h1:=setG_made wr
  have h2:SetG ((wr.alloc (.map #[] 0)).alloc (.cells #[.map (some wr.heap.size)] 66)) wr.heap.size 0 []:=h1.below ((Below.refl _ _).alloc (Nat.le_refl _) _) h1.lt
  exact h2.kept hg fun e=>by have:=hne _ e.symm;omega
 have hz4:=heap_lt g4
 have keep:∀ i,i≠w.heap.size+1+1→w5.heap[i]?=w4.heap[i]?:=fun i hi=>by rw[← h5];exact Below.heap_setCell _ _ _ _ hi
 have hb4:Below w.heap.size w w4:=hI.b.trans (belowG hg4 (fun r e=>by have:=hne r e;omega) hI.b.size)
 have hsz:w5.heap.size=w4.heap.size:=by rw[← h5];simp[World.setCell]
 refine⟨g4,⟨by rw[← h5];exact hb4.setCell (by show w.heap.size≤w.heap.size+1+1;omega) _,?_,?_,?_⟩,?_,?_⟩
 ·exact (keep _ (by omega)).trans ((bl _ (by omega) (heap_lt hI.pr)).trans hI.pr)
 ·exact (keep _ (by omega)).trans ((bl _ (by omega) (heap_lt hI.rs)).trans hI.rs)
 ·have:=rowSet g4 0 v'
  rw[h5] at this
  simpa using this
 ·refine hO.push (m:=0) (ms:=[]) (by omega) (fun h=>by have:=hO.lt _ h;omega) (hs.same (keep _ (by omega))) (Nat.zero_le _) (fun x=>by simp[hF x]) (own_blk ho fun g h1 h2 h3=>keep _ (by omega)) fun b hb=>?_
  have:=hO.lt b hb
  refine (keep _ (by omega)).trans (hg4.block b this.2 fun e=>?_)
  obtain⟨i,hi⟩:=List.getElem?_of_mem hb
  obtain⟨_,_,_,⟨es,cl,h1,_⟩,_⟩:=hO.set i b hi
  rcases hO.own.2 with ⟨h0,_⟩ | ⟨g',cap,cur,h2,_,h3,_⟩
  ·rw[h0] at e;cases e
  ·rw[h2] at e
   obtain rfl:b=g':=Option.some.inj e
   rw[h1] at h3
   cases h3
 ·have h1:=hs.lt;omega
theorem GgI.low {w wr W:World} {P:Array Value} {v u:Value} {N:Nat} (h:GgI w P v u wr) (hb:Below N wr W) (hN:w.heap.size+3≤N):GgI w P v u W:=
 ⟨h.b.trans (hb.mono (by omega)),(hb.block _ (by omega)).trans h.pr,(hb.block _ (by omega)).trans h.rs,(hb.block _ (by omega)).trans h.gr⟩
theorem edges_fst {p:Pg} (hh:∀ r ∈ p.rules,findY r.head.rel p.decls=some (headG p.decls r)):∀ x ∈ edgesG p,x.1 < p.decls.length:=by
 intro x hx
 obtain⟨r,hr,h⟩:=List.mem_flatMap.1 hx
 obtain⟨y,_,rfl⟩:=List.mem_map.1 h
 exact findY_lt (hh r hr)
theorem grownKC {A B:World} {b:Nat} {es:Array MapEntry} {cl:Nat} (g:A.grownBy B (some b)) (hb:A.heap[b]?=some (.map es cl)):KC A B:=
 ⟨g.size,fun j o ho hc=>(g.block j (heap_lt ho) fun e=>by obtain rfl:j=b:=Option.some.inj e;rw[hb] at ho;cases ho;cases hc).trans ho⟩
theorem grownFrom {A B:World} {b N:Nat} (g:A.grownBy B (some b)) (hb:b < N):KeepsFrom N A B:=
 ⟨g.size,fun j o hj ho _=>(g.block j (heap_lt ho) fun e=>by have:=Option.some.inj e;omega).trans ho⟩
structure LoI (w:World) (P:Array Value) (sv v2 v3:Value) (Ms Ms2:List Nat) (N2 D cE:Nat) (E:Ed) (wr:World):Prop where
 gi:GgI w P sv v2 wr
 near:GrO wr (w.heap.size+3) sv Ms cE fun i x=>(i,x) ∈ E
 far:GrO wr N2 v3 Ms2 1000000 (Rch E)
 dd:wr.heap[D]?=some (.deferred (some []))
section
variable {w:World} {P:Array Value} {sv v2 v3 v':Value} {Ms Ms2:List Nat} {N2 D cE:Nat} {E:Ed} {wr W W3:World}
theorem LoI.below (h:LoI w P sv v2 v3 Ms Ms2 N2 D cE E wr) (hb:Below wr.heap.size wr W):LoI w P sv v2 v3 Ms Ms2 N2 D cE E W:=
 ⟨h.gi.low hb (heap_lt h.gi.gr),h.near.below hb,h.far.below hb,(hb.block _ (heap_lt h.dd)).trans h.dd⟩
theorem LoI.push (h:LoI w P sv v2 v2 Ms Ms2 N2 D cE E W) (hN:w.heap.size+3≤N2) (hD:D < N2) (hlow:∀ b,(b ∈ Ms∨sv.ownBlock=some b)→b < N2) (hsz:N2≤W.heap.size) {M m:Nat} {ms:List Nat} (hM:N2≤M) (hnew:∀ b ∈ Ms2,b≠M) (hs:SetG W M m ms) (hm:m≤1000000) (hF:∀ x,x ∈ ms ↔ Rch E Ms2.length x)
  (hg:W.grownBy W3 v2.ownBlock) (ho:W3.ownsRow N2 66 1 v' (Ms2.length+1) (mapsL Ms2++[.map (some M)])):LoI w P sv v2 v' Ms (Ms2++[M]) N2 D cE E W3:=by
 have hne:∀ j,v2.ownBlock=some j→N2≤j∧j < W.heap.size:=fun j hj=>h.far.own.lt j hj
 have bl:Below N2 W W3:=belowG hg (fun r e=>(hne r e).1) hsz
 have hmap:∀ (b:Nat) (o:Obj),W.heap[b]?=some o→o.isCells=false→some b≠v2.ownBlock:=fun b o h1 h2 e=>by
  rcases h.far.own.2 with ⟨h0,_⟩ | ⟨g',cap,cur,h3,_,h4,_⟩
  ·rw[h0] at e;cases e
  ·rw[h3] at e
   obtain rfl:b=g':=Option.some.inj e
   rw[h1] at h4
   cases h4
   cases h2
 have hset:∀ (b i:Nat) (l:List Nat),SetG W b i l→W3.heap[b]?=W.heap[b]?:=fun b i l hs=>by
  obtain⟨es,cl,h1,_⟩:=id hs
  exact hg.block b hs.lt (hmap b _ h1 rfl)
 refine⟨h.gi.low bl hN,h.near.same fun b _ _ hb=>bl.block b (hlow b hb),h.far.push hM (fun hm=>hnew M hm rfl) (hs.same (hset M m ms hs)) hm hF ho fun b hb=>?_,(bl.block _ hD).trans h.dd⟩
 obtain⟨i,hi⟩:=List.getElem?_of_mem hb
 obtain⟨_,m',ms',h2,_⟩:=h.far.set i b hi
 exact hset b m' ms' h2
theorem LoI.put (h:LoI w P sv v2 v3 Ms Ms2 N2 D cE E W) (hN:w.heap.size+3≤N2) (hD:w.heap.size+3≤D):LoI w P sv v3 v3 Ms Ms2 N2 D cE E (W.setCell ⟨w.heap.size+1+1,1,none⟩ v3):=by
 have keep:∀ i,i≠w.heap.size+1+1→(W.setCell ⟨w.heap.size+1+1,1,none⟩ v3).heap[i]?=W.heap[i]?:=fun i hi=>Below.heap_setCell _ _ _ _ hi
 refine⟨⟨h.gi.b.setCell (by show w.heap.size≤w.heap.size+1+1;omega) _,(keep _ (by omega)).trans h.gi.pr,(keep _ (by omega)).trans h.gi.rs,?_⟩,h.near.same fun b hb _ _=>keep b (by omega),h.far.same fun b hb _ _=>keep b (by omega),(keep _ (by omega)).trans h.dd⟩
 have:=rowSet h.gi.gr 1 v3
 simpa using this
end
theorem load_graph {W:World} {b:Nat} {v u:Value} (h:W.heap[b]?=some (.cells #[v,u] 62 (0,0))):(loadVar 62 ⟨b,0,none⟩).run Tryz.prog W=.ok (.agg #[v,u]) W:=by
 have c0:W.cell? ⟨b,0,none⟩=some v:=row_cells h 0
 have c1:W.cell? ⟨b,1,none⟩=some u:=row_cells h 1
 have hl:b < W.heap.size:=heap_lt h
 have ha:∀ w:World,(isAgg 62).run Tryz.prog w=.ok true w:=fun w=>by kernel_rfl
 have hz:∀ w:World,(sizeOf 62).run Tryz.prog w=.ok 2 w:=fun w=>by kernel_rfl
 unfold loadVar
 go_simp
theorem addKG (b k:Nat):(⟨b,0,none⟩:Addr).add k=⟨b,k,none⟩:=by unfold Addr.add;split <;> simp_all
def slotsO:List (Option Tmp):=[some 36,some 37,some 38,some 39,some 40,some 41,some 42,some 43,none]
def depsO:List (Nat × Nat):=[(1,0),(4,2),(4,3),(5,4),(6,1),(6,5),(8,6),(8,7)]
def factsO (n0 k:Nat) (sv v2:Value):List (Value→Prop):=
 [fun u=>u=.pointer (some ⟨n0+1+1,1,none⟩),fun u=>u=v2,fun u=>u=.agg #[sv,v2],fun u=>u=.int .i64 (k:Int),fun _=>True,fun _=>True,fun _=>True,fun u=>u=.pointer (some ⟨n0+1+1,1,none⟩),fun _=>True]
def Called (E:Ed) (k:Nat) (wr:World) (M:Nat) (W:World):Prop:=∃ m ms,SetG W M m ms∧wr.heap.size≤M∧m≤1000000∧(∀ x,x ∈ ms ↔ Rch E k x)∧Below wr.heap.size wr W
abbrev FDo (w:World) (P:Array Value) (sv v2:Value) (Ms Ms2:List Nat) (N2 D cE:Nat) (E:Ed) (wr:World):Array Bool→(Nat→Value)→World→Prop:=
 FD 4 5 6 8 depsO (factsO w.heap.size Ms2.length sv v2) wr.drew (fun v W=>∃ M,v=.map (some M)∧Called E Ms2.length wr M W) (fun v W=>∃ M b,v=.slice (some ⟨b,0,none⟩) 1 1∧W.heap[b]?=some (.cells #[.map (some M)] 66 (0,0))∧Called E Ms2.length wr M W)
  (fun v W=>∃ M o c,v=.slice o (Ms2.length+1) c∧LoI w P sv v2 v Ms (Ms2++[M]) N2 D cE E W) (fun W=>∃ v M o c,v=.slice o (Ms2.length+1) c∧LoI w P sv v v Ms (Ms2++[M]) N2 D cE E W)
theorem FDo.old {w:World} {P:Array Value} {sv v2:Value} {Ms Ms2:List Nat} {N2 D cE:Nat} {E:Ed} {wr:World} {l:Array Bool} {val:Nat→Value} {w':World} (hF:FDo w P sv v2 Ms Ms2 N2 D cE E wr l val w') (h6:l.getD 6 false=false):Below wr.heap.size wr w':=by
 cases h4:l.getD 4 false with
 | false=>rw[hF.s0 h4];exact (Below.refl _ wr).drew
 | true=>
  cases h5:l.getD 5 false with
  | false=>obtain⟨_,_,_,_,_,_,_,_,h⟩:=hF.s1 h4 h5;exact h
  | true=>obtain⟨_,_,_,_,_,_,_,_,_,_,h⟩:=hF.s2 h5 h6;exact h
set_option maxRecDepth 100000 in
set_option maxHeartbeats 8000000 in
theorem graphOf_in (p:Pg) (cs:List Value) (w:World) (hc:PgC w w.heap.size p cs) (hh:∀ r ∈ p.rules,findY r.head.rel p.decls=some (headG p.decls r)) (hn:p.decls.length≤1000) (he:(edgesG p).length≤1000000) :
  CallsIn Fence.wide 8 Tryz.prog 34 #[.agg cs.toArray] w fun e w'=>∃ v1 v2 b1 b2,e=.returned (.agg #[v1,v2])∧GrK w.heap.size w' v1 b1 p.decls.length (fun i x=>(i,x) ∈ edgesG p)∧GrK w.heap.size w' v2 b2 p.decls.length (Rch (edgesG p))∧Below w.heap.size w w':=by
 have hmm:=@run_makeMap Tryz.prog
 obtain⟨i1,hi1,hy0,hy1,hy2⟩:=info_parts infoPl
 obtain⟨od,kd,orr,kr,rfl,hD,hR⟩:=hc.look
 obtain⟨n,hnn⟩:∃ n,p.decls.length=n:=⟨_,rfl⟩
 obtain⟨W1,hW1⟩:∃ W1,((w.alloc (.cells #[.slice od n kd,.slice orr p.rules.length kr] 25)).alloc (.cells #[.slice none 0 0,.slice none 0 0] 62)).alloc (.cells #[.slice none 0 0,.slice none 0 0] 62)=W1:=⟨_,rfl⟩
 have HI0:Hid (GgI w #[.slice od n kd,.slice orr p.rules.length kr] (.slice none 0 0) (.slice none 0 0) W1):=hid (by
  rw[← hW1]
  refine⟨(((Below.refl _ _).alloc (Nat.le_refl _) _).alloc (by simp) _).alloc (by simp;omega) _,?_,?_,?_⟩
  ·exact (Below.heap_alloc _ _ _ (by simp;omega)).trans ((Below.heap_alloc _ _ _ (by simp)).trans (World.alloc_heap_new w _))
  ·have h1:=World.alloc_heap_new (w.alloc (.cells #[.slice od n kd,.slice orr p.rules.length kr] 25)) (.cells #[.slice none 0 0,.slice none 0 0] 62)
   rw[World.size_alloc] at h1
   exact (Below.heap_alloc _ _ _ (by simp)).trans h1
  ·have h1:=World.alloc_heap_new ((w.alloc (.cells #[.slice od n kd,.slice orr p.rules.length kr] 25)).alloc (.cells #[.slice none 0 0,.slice none 0 0] 62)) (.cells #[.slice none 0 0,.slice none 0 0] 62)
   rw[World.size_alloc,World.size_alloc] at h1
   exact h1)
 have hz1:W1.heap.size=w.heap.size+3:=by rw[← hW1];simp
 have HZ1:=hid hz1
 have HW1:=hid hW1
 have HC:=hid hc
 have HH:=hid hh
 have HE:=hid he
 rw[hnn] at hn ⊢
 have Hnn:=hid hnn
 clear hc hh he hW1 hz1 hD hR
 refine callsIn_of_wp_marks Tryz.func34 rfl trivial ?_ rfl
 simp only[Tryz.ntmps34,List.size_toArray,List.length_cons,List.length_nil,Nat.reduceAdd,Nat.reduceSub,Array.replicate_succ,Array.replicate_zero,List.push_toArray,List.append_toArray,List.nil_append,List.cons_append]
 have x0:W1.cell? ⟨w.heap.size,0,none⟩=some (.slice od n kd):=row_cells HI0.out.pr 0
 have lx0:=heap_lt HI0.out.pr
 gi_wp2_with fail
 rw[HW1.out]
 gi_loopw [10] (fun iv wr=>∃ (k:Nat) (v:Value) (Ms:List Nat),k≤n∧iv=.int .i64 (k:Int)∧Ms.length=k∧Hid (GgI w #[.slice od n kd,.slice orr p.rules.length kr] v (.slice none 0 0) wr)∧Hid (GrO wr (w.heap.size+3) v Ms 0 fun _ _=>False)) (fun iv _=>n - (intOf iv).toNat)
 case atStart=>exact⟨0,_,[],Nat.zero_le _,rfl,rfl,HI0,hid (GrO.nil _ _ _ _)⟩
 case round=>
  obtain⟨k,v,Ms,hk,rfl,hMs,HI,HO⟩:=hrel
  by_cases hlt:k < n
  ·have hlt':(k:Int) < (n:Int):=by omega
   obtain⟨o,c,rfl⟩:=own_shape HO.out.own
   have HOk:Hid (wr.ownsRow (w.heap.size+3) 66 1 (.slice o k c) k (mapsL Ms)):=hid (by rw[← hMs];exact HO.out.own)
   rw[hMs] at HI HO
   have g0:wr.cell? ⟨w.heap.size+1+1,0,none⟩=some (.slice o k c):=row_cells HI.out.gr 0
   have gl:=heap_lt HI.out.gr
   have HMs:=hid hMs
   have HS1:Hid (k+1≤maxLen):=hid (by unfold maxLen;omega)
   have HS2:Hid ((k+1) * 8≤140737488355328):=hid (by omega)
   have HBs:Hid (w.heap.size+3≤wr.heap.size):=hid gl
   have HNw:Hid (((wr.alloc (.map #[] 0)).alloc (.cells #[.map (some wr.heap.size)] 66)).heap[wr.heap.size+1]?=some (.cells #[.map (some wr.heap.size)] 66 (0,0))):=hid (by
    have:=World.alloc_heap_new (wr.alloc (.map #[] 0)) (.cells #[.map (some wr.heap.size)] 66)
    rwa [World.size_alloc] at this)
   clear hMs
   gi_wp2_with (gi_at_builtin;go_loud (refine wpListIn_append_own _ rfl _ _ 60 rfl (w.heap.size+3) 66 i1 _ 1 8 Tryz.underlying60 hi1 hy0 hy1 hy2 rfl (by decide) (.slice o k c) k _ rfl ((HOk.out.alloc _).alloc _) ⟨wr.heap.size+1,0,none⟩ 1 1 [.map (some wr.heap.size)] rfl rfl (World.news_of_block HNw.out) (fun u hu=>by simp at hu;subst hu;rfl) HS1.out HS2.out (by have:=HBs.out;simp;omega) ?_);intro v' w4 hown' hgrow _;obtain⟨vc,vq,rfl⟩:=own_shape hown';obtain⟨w5,hw5⟩:∃ W,w4.setCell ⟨w.heap.size+1+1,0,none⟩ (.slice vc (k+1) vq)=W:=⟨_,rfl⟩;have HP:=hid (HI.out.push HO.out (fun _ h=>h) hgrow (by rw[HMs.out];exact hown') hw5);have hl4:=heap_lt HP.out.1;have m4:w4.cell? ⟨w.heap.size+1+1,0,none⟩=some (.slice o k c):=row_cells HP.out.1 0;have hf4:=frz_row HP.out.1 0;have HW5:=hid hw5;clear hown' hgrow hw5)
   rw[HW5.out]
   exact⟨⟨k+1,_,Ms++[wr.heap.size],hlt,by go_num,by rw[List.length_append,HMs.out];rfl,hid HP.out.2.1,hid HP.out.2.2.1⟩,by simp[intOf];omega⟩
  ·have hlt':¬ (k:Int) < (n:Int):=by omega
   obtain rfl:k=n:=by omega
   obtain⟨o,c,rfl⟩:=own_shape HO.out.own
   rw[hMs] at HI HO
   have HMs:=hid hMs
   have x0:wr.cell? ⟨w.heap.size,0,none⟩=some (.slice od k kd):=row_cells HI.out.pr 0
   have x1:wr.cell? ⟨w.heap.size,1,none⟩=some (.slice orr p.rules.length kr):=row_cells HI.out.pr 1
   have lx:=heap_lt HI.out.pr
   have HGi:=hid (ghang_in 7 [.slice od k kd,.slice orr p.rules.length kr] wr ⟨_,_,rfl⟩)
   clear hMs
   gi_wp2_with fail
   refine⟨trivial,HGi.out.mono ?_⟩
   rintro e w4 ⟨rfl,hw4⟩
   obtain⟨sv,hsv⟩:∃ sv,Value.slice o k c=sv:=⟨_,rfl⟩
   have hs4:w4.heap.size=wr.heap.size+1:=by rw[hw4];simp
   have b4:Below wr.heap.size wr w4:=by rw[hw4];exact (Below.refl _ _).alloc (Nat.le_refl _) _
   have hr4:w4.heap[wr.heap.size]?=some (.cells #[.slice od k kd,.slice orr p.rules.length kr] 25 (0,0)):=by rw[hw4];exact World.alloc_heap_new _ _
   have B4:Below w.heap.size w w4:=HI.out.b.trans (b4.mono HI.out.b.size)
   rw[hsv] at HI HO
   have HI4:=hid (HI.out.low b4 (heap_lt HI.out.gr))
   have HO4:Hid (GrO w4 (w.heap.size+3) sv Ms 0 fun i x=>(i,x) ∈ (edgesG p).take 0):=hid ((HO.out.below b4).iff (Nat.le_refl _) (fun i x _=>by simp))
   have HLow:Hid (∀ b,(b ∈ Ms∨sv.ownBlock=some b)→b < w4.heap.size):=hid (fun b hb=>by
    rcases hb with hb | hb
    ·have:=(HO.out.lt b hb).2;omega
    ·have:=(HO.out.own.lt b hb).2;omega)
   have H3:Hid (w.heap.size+3≤w4.heap.size):=hid (by have:=heap_lt HI4.out.gr;omega)
   have HSq:=hid (ghang_nest 7 (w.heap.size+3) wr.heap.size p _ w4 (by decide) H3.out hr4 (by have:=(HC.out.below B4).more B4.size;rwa [Hnn.out] at this) HH.out)
   have HFs:=hid (edges_fst HH.out)
   have Hsv:=hid hsv
   clear HI HO HGi hw4 hs4 b4 hr4 hsv x0 x1 lx
   gi_wp2_with fail
   refine range_nest rfl (by omega) (gf:=76) (lb:=#[.pointer (some ⟨wr.heap.size,0,none⟩)]) rfl trivial (enters_of Tryz.func76 (by kernel_rfl) rfl)
    HSq.out H3.out (Below.refl _ _) (fun _=>rfl)
    (fun j W'=>GrO W' (w.heap.size+3) sv Ms j (fun i x=>(i,x) ∈ (edgesG p).take j)∧GgI w #[.slice od k kd,.slice orr p.rules.length kr] sv (.slice none 0 0) W')
    (fun _ _ _=>False) ?hI (fun _ _ _ _ h _ _=>h) ⟨HO4.out,HI4.out⟩
    (fun j x a' W'=>(GrO W' (w.heap.size+3) sv Ms j (fun i x=>(i,x) ∈ (edgesG p).take j)∧GgI w #[.slice od k kd,.slice orr p.rules.length kr] sv (.slice none 0 0) W')∧a'={ tmps:=#[.agg #[.slice od k kd,.slice orr p.rules.length kr],.pointer (some ⟨w.heap.size,0,none⟩),.pointer (some ⟨w.heap.size+1,0,none⟩),.pointer (some ⟨w.heap.size+1+1,0,none⟩),.int .i64 (x.1:Int),.int .i64 (x.2:Int),undef,.pointer (some ⟨w.heap.size,0,none⟩),.slice od k kd,.int .i64 (k:Int),.int .i64 (k:Int),.bool false,u12,u13,u14,u15,u16,u17,u18,.agg #[.slice od k kd,.slice orr p.rules.length kr],.func (.func 76) #[] #[.pointer (some ⟨wr.heap.size,0,none⟩)],.int .i64 (x.1:Int),.int .i64 (x.2:Int),undef,undef,undef,undef,undef,undef,undef,undef,undef,undef,undef,undef,undef,undef,undef,undef,undef,undef,undef,undef,undef,undef,undef],defers:=[] })
    ?hM ?assign ?body ?done ?stop
   case hI=>
    rintro j A B ⟨h1,h2⟩ hb hk
    exact⟨h1.same fun b _ _ hb'=>hb.block b (HLow.out b hb'),h2.low hb H3.out⟩
   case hM=>
    rintro j x a' A B ⟨⟨h1,h2⟩,h3⟩ hb hk
    exact⟨⟨h1.same fun b _ _ hb'=>hb.block b (HLow.out b hb'),h2.low hb H3.out⟩,h3⟩
   case stop=>exact fun _ _ _ _ _ h=>h.elim
   case assign=>
    rintro lp j x A hx hA
    have HAA:=hid hA
    clear hA
    simp only[encE]
    gi_wp2
    exact⟨KeepsFrom.refl _ _,KC.refl _,Below.refl _ _,HAA.out,trivial⟩
   case body=>
    rintro lp j x a' A hx ⟨⟨h1,h2⟩,rfl⟩
    have hxm:=List.mem_of_getElem? hx
    have hf1:x.1 < k:=by have:=HFs.out x hxm;rwa [Hnn.out] at this
    have hf2:x.2 < k:=by have:=edgesG_lt x hxm;rwa [Hnn.out] at this
    obtain⟨b,hb⟩:∃ b,Ms[x.1]?=some b:=⟨_,List.getElem?_eq_getElem (by rw[HMs.out];exact hf1)⟩
    obtain⟨g,cap,hv,hcl,hgl,_⟩:=h1.at_ hb
    rw[HMs.out] at hv
    subst hv
    obtain⟨hbb,m,ms,hs,hm,hF⟩:=h1.set _ _ hb
    have hmap:∃ es cl,A.heap[b]?=some (.map es cl):=by
     obtain⟨es,cl,h1,_⟩:=hs
     exact⟨es,cl,h1⟩
    obtain⟨es,cl,hes⟩:=hmap
    have z0:A.cell? ⟨w.heap.size+1+1,0,none⟩=some (.slice (some ⟨g,0,none⟩) k cap):=row_cells h2.gr 0
    have zl:=heap_lt h2.gr
    have hj:j < 1000000:=by have:=(List.getElem?_eq_some_iff.1 hx).1;have:=HE.out;omega
    have HAd:=hid (addG_c b m x.2 ms A hs (by omega) (by unfold maxLen;omega))
    have hblt:b < w4.heap.size:=HLow.out b (.inl (List.mem_of_getElem? hb))
    have HStep:Hid (∀ w5,SetG w5 b (m+1) (ms++[x.2])→A.grownBy w5 (some b)→KeepsFrom w4.heap.size A w5∧KC A w5∧Below (w.heap.size+3) A w5∧GrO w5 (w.heap.size+3) (.slice (some ⟨g,0,none⟩) k cap) Ms (j+1) (fun i x=>(i,x) ∈ (edgesG p).take (j+1))∧GgI w #[.slice od k kd,.slice orr p.rules.length kr] (.slice (some ⟨g,0,none⟩) k cap) (.slice none 0 0) w5):=hid (fun w5 s5 g5=>by
     have bl:Below (w.heap.size+3) A w5:=belowG g5 (fun r e=>by have:=Option.some.inj e;omega) (by omega)
     refine⟨grownFrom g5 hblt,grownKC g5 hes,bl,h1.add hb hm hF s5 g5 fun i y=>?_,h2.low bl (Nat.le_refl _)⟩
     rw[List.take_add_one,hx,List.mem_append]
     simp[Prod.ext_iff])
    have hx0:(0:Int)≤(x.1:Int):=by omega
    have hx1:(x.1:Int) < (k:Int):=by omega
    clear h1 h2 hs hF hes hx
    gi_wp2_with fail
    refine⟨trivial,(callsIn_wide.2 HAd.out).mono ?_⟩
    rintro e5 w5 ⟨rfl,s5,g5⟩
    have HS5:=hid (HStep.out w5 s5 g5)
    clear s5 g5 HAd HStep
    gi_wp2
    exact⟨HS5.out.1,HS5.out.2.1,HS5.out.2.2.1,HS5.out.2.2.2⟩
   case done=>
    rintro D A hD ⟨h1,h2⟩ hK
    rw[List.take_of_length_le (Nat.le_refl _)] at h1
    have HLo0:Hid (LoI w #[.slice od k kd,.slice orr p.rules.length kr] sv (.slice none 0 0) (.slice none 0 0) Ms [] A.heap.size D (edgesG p).length (edgesG p) A):=hid ⟨h2,h1,GrO.nil _ _ _ _,hK⟩
    have HN2:Hid (w.heap.size+3≤A.heap.size):=hid (heap_lt h2.gr)
    have HDl:Hid (w.heap.size+3≤D∧D < A.heap.size):=hid ⟨by have:=H3.out;omega,heap_lt hK⟩
    have HLow2:Hid (∀ b,(b ∈ Ms∨sv.ownBlock=some b)→b < A.heap.size):=hid (fun b hb=>by
     rcases hb with hb | hb
     ·exact (h1.lt b hb).2
     ·exact (h1.own.lt b hb).2)
    have x0:A.cell? ⟨w.heap.size,0,none⟩=some (.slice od k kd):=row_cells h2.pr 0
    have lx:=heap_lt h2.pr
    obtain⟨N2,hN2⟩:∃ N2,A.heap.size=N2:=⟨_,rfl⟩
    rw[hN2] at HLo0 HN2 HDl HLow2
    have HN2':=hid hN2
    clear h1 h2 hK
    gi_wp2_with fail
    gi_loopw [33] (fun iv wr=>∃ (q:Nat) (v2:Value) (Ms2:List Nat),q≤k∧iv=.int .i64 (q:Int)∧Ms2.length=q∧Hid (LoI w #[.slice od k kd,.slice orr p.rules.length kr] sv v2 v2 Ms Ms2 N2 D (edgesG p).length (edgesG p) wr)∧Hid (N2≤wr.heap.size)) (fun iv _=>k - (intOf iv).toNat)
    case atStart=>exact⟨0,_,[],Nat.zero_le _,rfl,rfl,HLo0,hid (by rw[HN2'.out];exact Nat.le_refl _)⟩
    case round=>
     obtain⟨q,v2,Ms2,hq,rfl,hM2,HL,HNr⟩:=hrel
     by_cases hlt2:q < k
     ·have hlt2':(q:Int) < (k:Int):=by omega
      have HM2:=hid hM2
      have HMs':=HMs
      have HRc:=hid (reach_c (edgesG p) k q sv v2 Ms wr.drew (by obtain⟨o,c,h⟩:=own_shape HL.out.far.own;exact⟨o,_,c,h⟩) ((HL.out.near.below (Below.refl _ wr).drew).gr HMs.out hn HE.out (fun i x _ hx=>by have:=edgesG_lt _ hx;rwa [Hnn.out] at this)) hlt2)
      have HSz1:Hid (Ms2.length+1≤maxLen):=hid (by unfold maxLen;omega)
      have HSz2:Hid ((Ms2.length+1) * 8≤140737488355328):=hid (by omega)
      clear hM2
      gi_wp2_with fail
      refine wpIn_wide.2 (wp_region_any (by kernel_rfl) ?_)
      (try (change wpAny _ _ _ _ _ _ _ (World.drew _)))
      refine wpAny_say slotsO _ _ (FDo w #[.slice od k kd,.slice orr p.rules.length kr] sv v2 Ms Ms2 N2 D (edgesG p).length (edgesG p) wr) (by kernel_rfl) (by kernel_rfl) (by kernel_rfl) (by kernel_rfl) (by kernel_rfl) ⟨?R0,?R1,?R2,?R3,?R4,?R5,?R6,?R7,?R8,trivial⟩ FD.start ?Rfin
      case R0=>
       intro l' val A' w' K hl hn' hd hF hfar hdep hK
       have e1:A'.tmps[3]?.getD undef=.pointer (some ⟨w.heap.size+1+1,0,none⟩):=hfar 3 (by decide)
       have ea:(⟨w.heap.size+1+1,0,none⟩:Addr).add 1=⟨w.heap.size+1+1,1,none⟩:=addKG _ _
       unfold Oper.wp
       simp[execOp,e1,ea,go_sem,Result.andThen]
       exact hK _ _ (hF.read (by rw[hl];decide) (fun q hq h=>by simp only[depsO,List.mem_cons,List.not_mem_nil,or_false] at hq;rcases hq with rfl | rfl | rfl | rfl | rfl | rfl | rfl | rfl <;> simp at h <;> exact hd _ (by kernel_rfl)) (fun p hp=>by cases hp;rfl) (by decide) (by decide) (by decide) (by decide))
      case R1=>
       intro l' val A' w' K hl hn' hd hF hfar hdep hK
       have e1:A'.tmps[36]?.getD undef=.pointer (some ⟨w.heap.size+1+1,1,none⟩):=(hdep 0 36 rfl (by kernel_rfl)).trans (hF.rd 0 _ (hd 0 (by kernel_rfl)) rfl)
       have c0:w'.cell? ⟨w.heap.size+1+1,1,none⟩=some v2:=row_cells (HL.out.below (hF.old (hF.off (by decide:(6,1) ∈ depsO) hn'))).gi.gr 1
       unfold Oper.wp
       simp[execOp,e1,c0,go_sem,Result.andThen]
       exact hK _ _ (hF.read (by rw[hl];decide) (fun q hq h=>by simp only[depsO,List.mem_cons,List.not_mem_nil,or_false] at hq;rcases hq with rfl | rfl | rfl | rfl | rfl | rfl | rfl | rfl <;> simp at h <;> exact hd _ (by kernel_rfl)) (fun p hp=>by cases hp;rfl) (by decide) (by decide) (by decide) (by decide))
      case R2=>
       intro l' val A' w' K hl hn' hd hF hfar hdep hK
       have e1:A'.tmps[3]?.getD undef=.pointer (some ⟨w.heap.size+1+1,0,none⟩):=hfar 3 (by decide)
       have hg:=(HL.out.below (hF.old (hF.off (by decide:(6,5) ∈ depsO) (hF.off (by decide:(5,4) ∈ depsO) (hF.off (by decide:(4,2) ∈ depsO) hn'))))).gi.gr
       have c0:w'.cell? ⟨w.heap.size+1+1,0,none⟩=some sv:=row_cells hg 0
       have c1:w'.cell? ⟨w.heap.size+1+1,1,none⟩=some v2:=row_cells hg 1
       have hlg:=heap_lt hg
       unfold Oper.wp
       simp[execOp,e1,c0,c1,hlg,go_sem,Result.andThen]
       exact hK _ _ (hF.read (by rw[hl];decide) (fun q hq h=>by simp only[depsO,List.mem_cons,List.not_mem_nil,or_false] at hq;rcases hq with rfl | rfl | rfl | rfl | rfl | rfl | rfl | rfl <;> simp at h <;> exact hd _ (by kernel_rfl)) (fun p hp=>by cases hp;rfl) (by decide) (by decide) (by decide) (by decide))
      case R3=>
       intro l' val A' w' K hl hn' hd hF hfar hdep hK
       have e1:A'.tmps[6]?.getD undef=.int .i64 (q:Int):=hfar 6 (by decide)
       have eq:(Ms2.length:Int)=(q:Int):=by rw[HM2.out]
       unfold Oper.wp
       simp[execOp,e1,go_sem,Result.andThen]
       exact hK _ _ (hF.read (by rw[hl];decide) (fun q hq h=>by simp only[depsO,List.mem_cons,List.not_mem_nil,or_false] at hq;rcases hq with rfl | rfl | rfl | rfl | rfl | rfl | rfl | rfl <;> simp at h <;> exact hd _ (by kernel_rfl)) (fun p hp=>by cases hp;rw[eq]) (by decide) (by decide) (by decide) (by decide))
      case R4=>
       intro l' val A' w' K hl hn' hd hF hfar hdep hK
       have e1:A'.tmps[38]?.getD undef=.agg #[sv,v2]:=(hdep 2 38 rfl (by kernel_rfl)).trans (hF.rd 2 _ (hd 2 (by kernel_rfl)) rfl)
       have e2:A'.tmps[39]?.getD undef=.int .i64 (Ms2.length:Int):=(hdep 3 39 rfl (by kernel_rfl)).trans (hF.rd 3 _ (hd 3 (by kernel_rfl)) rfl)
       have hw0:=hF.s0 hn'
       rw[HM2.out] at e2
       subst hw0
       unfold Oper.wp
       simp[execOp,e1,e2,go_sem,Result.andThen]
       refine HRc.out.mono ?_
       rintro e3 w3 ⟨M,m,ms,rfl,hs,hMw,hm,hms,hR,hb⟩
       exact hK _ _ (hF.called (by rw[hl];decide) hn' (fun q hq h=>by simp only[depsO,List.mem_cons,List.not_mem_nil,or_false] at hq;rcases hq with rfl | rfl | rfl | rfl | rfl | rfl | rfl | rfl <;> simp at h <;> exact hd _ (by kernel_rfl)) (fun p hp=>by cases hp;trivial) (by decide) (by decide) (by decide) (by decide) (by decide) (by decide) ⟨M,rfl,m,ms,hs,hMw,hm,by rw[HM2.out];exact hR,(Below.refl _ wr).drew.trans hb⟩)
      case R5=>
       intro l' val A' w' K hl hn' hd hF hfar hdep hK
       obtain⟨M,hv,m,ms,hs,hMw,hm,hR,hb⟩:=hF.s1 (hd 4 (by kernel_rfl)) hn'
       have e1:A'.tmps[40]?.getD undef=.map (some M):=(hdep 4 40 rfl (by kernel_rfl)).trans hv
       have bA:Below w'.heap.size w' (w'.alloc (.cells #[.map (some M)] 66)):=(Below.refl _ _).alloc (Nat.le_refl _) _
       unfold Oper.wp
       simp[execOp,e1,go_sem,Result.andThen]
       exact hK _ _ (hF.made (by rw[hl];decide) hn' (fun q hq h=>by simp only[depsO,List.mem_cons,List.not_mem_nil,or_false] at hq;rcases hq with rfl | rfl | rfl | rfl | rfl | rfl | rfl | rfl <;> simp at h <;> exact hd _ (by kernel_rfl)) (fun p hp=>by cases hp;trivial) (by decide) (by decide) (by decide) (by decide) (by decide) (by decide) ⟨M,_,rfl,World.alloc_heap_new w' _,m,ms,hs.below bA hs.lt,hMw,hm,hR,hb.trans (bA.mono hb.size)⟩)
      case R6=>
       intro l' val A' w' K hl hn' hd hF hfar hdep hK
       have e1:A'.tmps[37]?.getD undef=v2:=(hdep 1 37 rfl (by kernel_rfl)).trans (hF.rd 1 _ (hd 1 (by kernel_rfl)) rfl)
       obtain⟨M,b,hvb,hrb,m,ms,hs,hMw,hm,hR,hb⟩:=hF.s2 (hd 5 (by kernel_rfl)) hn'
       have e2:A'.tmps[41]?.getD undef=.slice (some ⟨b,0,none⟩) 1 1:=(hdep 5 41 rfl (by kernel_rfl)).trans hvb
       have hL':=HL.out.below hb
       refine wp_append_own w' (.tmp 37) (.tmp 41) 60 rfl N2 66 i1 _ 1 8 Tryz.underlying60 hi1 hy0 hy1 hy2 rfl (by decide) v2 Ms2.length (mapsL Ms2) (by simpa[Act.eval] using e1) hL'.far.own ⟨b,0,none⟩ 1 1 [.map (some M)] (by simpa[Act.eval] using e2) rfl (World.news_of_block hrb) (fun u hu=>by simp at hu;subst hu;rfl) HSz1.out HSz2.out (Nat.le_trans HNr.out hb.size) ?_
       intro v' w3 hown' hg _
       obtain⟨o3,c3,hv3⟩:=own_shape hown'
       exact hK _ _ (hF.appended (by rw[hl];decide) hn' (fun q hq h=>by simp only[depsO,List.mem_cons,List.not_mem_nil,or_false] at hq;rcases hq with rfl | rfl | rfl | rfl | rfl | rfl | rfl | rfl <;> simp at h <;> exact hd _ (by kernel_rfl)) (fun p hp=>by cases hp;trivial) (by decide) (by decide) (by decide) (by decide) (by decide) (by decide) ⟨M,o3,c3,hv3,hL'.push HN2.out HDl.out.2 HLow2.out (Nat.le_trans HNr.out hb.size) (Nat.le_trans HNr.out hMw) (fun b hb' e=>by have:=(HL.out.far.lt b hb').2;omega) hs hm hR hg hown'⟩)
      case R7=>
       intro l' val A' w' K hl hn' hd hF hfar hdep hK
       have e1:A'.tmps[3]?.getD undef=.pointer (some ⟨w.heap.size+1+1,0,none⟩):=hfar 3 (by decide)
       have ea:(⟨w.heap.size+1+1,0,none⟩:Addr).add 1=⟨w.heap.size+1+1,1,none⟩:=addKG _ _
       unfold Oper.wp
       simp[execOp,e1,ea,go_sem,Result.andThen]
       exact hK _ _ (hF.read (by rw[hl];decide) (fun q hq h=>by simp only[depsO,List.mem_cons,List.not_mem_nil,or_false] at hq;rcases hq with rfl | rfl | rfl | rfl | rfl | rfl | rfl | rfl <;> simp at h <;> exact hd _ (by kernel_rfl)) (fun p hp=>by cases hp;rfl) (by decide) (by decide) (by decide) (by decide))
      case R8=>
       intro l' val A' w' K hl hn' hd hF hfar hdep hK
       have e7:A'.tmps[43]?.getD undef=.pointer (some ⟨w.heap.size+1+1,1,none⟩):=(hdep 7 43 rfl (by kernel_rfl)).trans (hF.rd 7 _ (hd 7 (by kernel_rfl)) rfl)
       obtain⟨M,o3,c3,hv3,hL3⟩:=hF.s3 (hd 6 (by kernel_rfl)) hn'
       have e6:A'.tmps[42]?.getD undef=.slice o3 (Ms2.length+1) c3:=(hdep 6 42 rfl (by kernel_rfl)).trans hv3
       have cc:w'.cell? ⟨w.heap.size+1+1,1,none⟩=some v2:=row_cells hL3.gi.gr 1
       have cf:=frz_row hL3.gi.gr 1
       have hlA:=heap_lt hL3.gi.gr
       rw[hv3] at hL3
       have hP:=hL3.put HN2.out HDl.out.1
       unfold Oper.wp
       simp[execOp,e7,e6,cc,cf,hlA,go_sem,Result.andThen]
       exact hK undef _ (hF.stored (by rw[hl];decide) hn' (fun q hq h=>by simp only[depsO,List.mem_cons,List.not_mem_nil,or_false] at hq;rcases hq with rfl | rfl | rfl | rfl | rfl | rfl | rfl | rfl <;> simp at h <;> exact hd _ (by kernel_rfl)) (fun p hp=>by cases hp;trivial) (by decide) (by decide) (by decide) (by decide) (by decide) (by decide) ⟨_,M,o3,c3,rfl,hP⟩)
      case Rfin=>
       intro l' val w5 hall5 hF
       obtain⟨v5,M,o5,c5,rfl,hL5⟩:=hF.s4 (hall5 8 (by decide))
       simp only[slotsO,putsA,Nat.zero_add,Nat.reduceAdd]
       generalize val 0=u0
       generalize val 1=u1'
       generalize val 2=u2
       generalize val 3=u3
       generalize val 4=u4
       generalize val 5=u5
       generalize val 6=u6
       generalize val 7=u7
       generalize val 8=u8
       have HL5:=hid hL5
       have HN5:Hid (N2≤w5.heap.size):=hid (by have:=hL5.far.lt M (by simp);omega)
       clear hF hall5 hL5 val
       go_simp
       gi_wp2
       exact⟨⟨q+1,_,Ms2++[M],hlt2,by go_num,by rw[List.length_append,HM2.out];rfl,HL5,HN5⟩,by simp[intOf];omega⟩
     ·have hlt2':¬ (q:Int) < (k:Int):=by omega
      have hqk:Ms2.length=k:=by omega
      have hqe:q=k:=by omega
      subst hqe
      obtain⟨o2,c2,hv2⟩:=own_shape HL.out.far.own
      obtain⟨o1,c1,hv1⟩:=own_shape HL.out.near.own
      rw[hqk] at hv2
      rw[HMs.out] at hv1
      have HV2:=hid hv2
      have HV1:=hid hv1
      have z0:wr.cell? ⟨w.heap.size+1+1,0,none⟩=some (.slice o1 q c1):=by rw[← hv1];exact row_cells HL.out.gi.gr 0
      have z1:wr.cell? ⟨w.heap.size+1+1,1,none⟩=some (.slice o2 q c2):=by rw[← hv2];exact row_cells HL.out.gi.gr 1
      have zl:=heap_lt HL.out.gi.gr
      have y0:wr.cell? ⟨w.heap.size+1,0,none⟩=some (.slice none 0 0):=row_cells HL.out.gi.rs 0
      have y1:wr.cell? ⟨w.heap.size+1,1,none⟩=some (.slice none 0 0):=row_cells HL.out.gi.rs 1
      have f0:=frz_row HL.out.gi.rs 0
      have f1:=frz_row HL.out.gi.rs 1
      have yl:=heap_lt HL.out.gi.rs
      have HQK:=hid hqk
      clear hv1 hv2 hM2
      gi_wp2_with fail
      have hD4:=hD
      obtain⟨W5,hW5⟩:∃ W5,(wr.setCell ⟨w.heap.size+1,0,none⟩ (.slice o1 q c1)).setCell ⟨w.heap.size+1,1,none⟩ (.slice o2 q c2)=W5:=⟨_,rfl⟩
      have hDn:D≠w.heap.size+1:=by have:=HDl.out.1;omega
      have keep:∀ i,i≠w.heap.size+1→W5.heap[i]?=wr.heap[i]?:=fun i hi=>by rw[← hW5];exact (Below.heap_setCell _ _ _ _ hi).trans (Below.heap_setCell _ _ _ _ hi)
      have hd5:W5.heap[D]?=some (.deferred (some [])):=(keep D hDn).trans HL.out.dd
      have hr5:W5.heap[w.heap.size+1]?=some (.cells #[.slice o1 q c1,.slice o2 q c2] 62 (0,0)):=by
       have h1:=rowSet (rowSet HL.out.gi.rs 0 (.slice o1 q c1)) 1 (.slice o2 q c2)
       rw[hW5] at h1
       simpa using h1
      have hr6:(W5.putObj D (.deferred none)).heap[w.heap.size+1]?=some (.cells #[.slice o1 q c1,.slice o2 q c2] 62 (0,0)):=(World.putObj_heap_other (show w.heap.size+1≠D by omega)).trans hr5
      have hkeep:∀ b,w.heap.size+3≤b→b≠D→(W5.putObj D (.deferred none)).heap[b]?=wr.heap[b]?:=fun b h1 h2=>(World.putObj_heap_other h2).trans (keep b (by omega))
      have hb5:Below w.heap.size w W5:=by
       rw[← hW5]
       exact (HL.out.gi.b.setCell (by show w.heap.size≤w.heap.size+1;omega) _).setCell (by show w.heap.size≤w.heap.size+1;omega) _
      have hn6:GrK w.heap.size (W5.putObj D (.deferred none)) (.slice o1 q c1) Ms q fun i x=>(i,x) ∈ edgesG p:=by
       rw[← HV1.out]
       exact (HL.out.near.same fun b h1 _ h2=>hkeep b h1 (by have:=HLow.out b h2;omega)).grK (by omega) HMs.out hn HE.out (fun i x _ hx=>by have:=edgesG_lt _ hx;rwa [Hnn.out] at this)
      have hf6:GrK w.heap.size (W5.putObj D (.deferred none)) (.slice o2 q c2) Ms2 q (Rch (edgesG p)):=by
       rw[← HV2.out]
       exact (HL.out.far.same fun b h1 _ _=>hkeep b (by have:=HN2.out;omega) (by have:=HDl.out.2;omega)).grK (by have:=HN2.out;omega) HQK.out hn (Nat.le_refl _) (fun i x hi hx=>rch_lt (fun y hy=>by have:=edgesG_lt y hy;rwa [Hnn.out] at this) hi hx)
      have hb6:Below w.heap.size w (W5.putObj D (.deferred none)):=hb5.grown (grownBy_putObj' _ D _) hb5.size (fun j e=>by cases e;have:=HDl.out.1;omega)
      rw[hW5]
      refine⟨by simp,.inl ⟨_,_,rfl,run_takeDeferred hd5,?_⟩⟩
      refine⟨_,results_cell1 rfl _ _ _ (.agg #[.slice o1 q c1,.slice o2 q c2]) rfl (load_graph hr6),?_⟩
      exact⟨_,_,rfl,⟨Ms,hn6⟩,⟨Ms2,hf6⟩,hb6⟩
end Go.Proofs.YtakpgcmfjlbcgaaGreatDoor
