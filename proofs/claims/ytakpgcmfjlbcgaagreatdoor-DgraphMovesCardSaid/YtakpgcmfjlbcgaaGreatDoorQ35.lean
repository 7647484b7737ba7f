/- Zy7@0123, Zwk@0123, Zor@0123, Zck@0123, Gd@0123 -/
import Derived.Test.YtakpgcmfjlbcgaaGreatDoorQ34
import Derived.Test.YtakpgcmfjlbcgaaGreatDoorQ32
import Derived.Test.YtakpgcmfjlbcgaaGreatDoorQ33
set_option linter.unusedSimpArgs false
set_option linter.unusedVariables false
namespace Go.Proofs.YtakpgcmfjlbcgaaGreatDoor
open Lib(hid)
open Go.RowKit
theorem LeftOk.put {S B:Nat} {W W':World} {v:Value} {l:List Pt} (h:LeftOk S W v l) (hp:Put B W W'):LeftOk S W' v l:=by
 obtain⟨hS,xs,h1,h2⟩:=h
 refine⟨Nat.le_trans hS (by rw[put_sz hp];omega),xs,⟨h1.1,h1.2.imp id fun ⟨g,cap,cur,e1,e2,e3,e4⟩=>⟨g,cap,cur,e1,e2,put_block hp e3 (.inl rfl),e4⟩⟩,h2.mono fun x cs hx=>hx.cells (fun p c hc=>?_) (Nat.le_refl _)⟩
 obtain⟨k1,k2⟩:=hidO_cell hc
 exact cell_hidO (put_cell hp k2) k1
theorem mapI_put {P:Program} {B M n c:Nat} {kT eT:TypeId} {f:Bd} {W W':World} (h:MapI P W kT eT M n f c) (hp:Put B W W') (hM:M < B):MapI P W' kT eT M n f c:=by
 obtain⟨D,⟨es,clock,h2,h3⟩,h4⟩:=h
 exact⟨D,⟨es,clock,put_block hp h2 (.inr hM),h3⟩,h4⟩
theorem SG.put {S Bp Bb M B:Nat} {v0:Value} {l0:List Pt} {x:SX} {W W':World} (h:SG S Bp Bb M v0 l0 x W) (hp:Put B W W') (hM:M < B):SG S Bp Bb M v0 l0 x W':=by
 refine⟨⟨put_block hp h.bx.p (.inl rfl),put_block hp h.bx.b (.inl rfl)⟩,?_,h.left.put hp,h.sub,h.few,fun i p hi=>?_⟩
 ·obtain⟨n,c,h1,h2⟩:=h.m
  exact⟨n,c,h1,mapI_put h2 hp hM⟩
 ·obtain⟨h1,h2,h3⟩:=h.box i p hi
  exact⟨put_block hp h1 (.inl rfl),h2.cells (fun p c hc=>put_cell hp hc) (Nat.le_refl _),h3⟩
theorem SG.below {S Bp Bb M:Nat} {v0:Value} {l0:List Pt} {x:SX} {W W':World} (h:SG S Bp Bb M v0 l0 x W) (hb:Below W.heap.size W W'):SG S Bp Bb M v0 l0 x W':=
 ⟨h.bx.below hb,h.m.below hb,h.left.below hb,h.sub,h.few,fun i p hi=>by
  obtain⟨h1,h2,h3⟩:=h.box i p hi
  exact⟨(hb.block _ (heap_lt h1)).trans h1,h2.cells (fun q c hc=>(World.cell?_of_block (hb.block _ (World.block_lt_of_cell? _ _ hc))).trans hc) (Nat.le_refl _),h3⟩⟩
theorem fr_keeps {S M B:Nat} {xv:Value} {W W':World} {ls:List Pt} (hf:Fr M xv W W') (hM:M < B) (hl:LeftOk S W xv ls):KeepsFrom B W W':=by
 refine⟨hf.size,fun k o hk ho hc=>(hf.block k (heap_lt ho) (by omega) (fun e=>?_)).trans ho⟩
 obtain⟨_,xs,h1,_⟩:=hl
 rcases h1.2 with ⟨rfl,_⟩ | ⟨g,cap,cur,rfl,_,hg,_⟩
 ·cases e
 ·obtain rfl:g=k:=by simpa[Value.ownBlock] using e
  rw[hg] at ho
  cases ho
  cases hc
structure ASt (r:Ru) (S n0 Bp M nb base:Nat) (v0:Value) (w:World) (rc:List Value) (x:SX) (W:World):Prop where
 g:SG S Bp (Bp+1) M v0 (partsZ r) x W
 own:∀ g,x.v.ownBlock=some g→n0≤g
 ch:∃ i p,x.ch=some (i,p)
 l:∃ l,seqZ l.length (zs0 r)=(l,x.st)∧WkI nb M base l W
 fx:FxI n0 w rc W
 sz:base≤W.heap.size
structure BSt (r:Ru) (S n0 Bp M nb base:Nat) (v0:Value) (w:World) (rc:List Value) (x:SX) (W:World):Prop where
 g:SG S Bp (Bp+1) M v0 (partsZ r) x W
 own:∀ g,x.v.ownBlock=some g→n0≤g
 l:∃ l,seqZ l.length (zs0 r)=(l,x.nxt)∧WkI nb M base l W
 fx:FxI n0 w rc W
 sz:base≤W.heap.size
structure ZSt (r:Ru) (n0 M nb base:Nat) (w:World) (rc:List Value) (W:World):Prop where
 l:WkI nb M base (walkZ r).1 W
 m:mapOk W M (walkZ r).2
 fx:FxI n0 w rc W
section
variable {r:Ru} {S n0 Bp M nb base B:Nat} {v0:Value} {w:World} {rc:List Value} {x:SX} {W W':World}
theorem ASt.put (h:ASt r S n0 Bp M nb base v0 w rc x W) (hp:Put B W W') (hM:M < B) (hn:n0≤B):ASt r S n0 Bp M nb base v0 w rc x W':=by
 obtain⟨l,h1,h2⟩:=h.l
 exact⟨h.g.put hp hM,h.own,h.ch,⟨l,h1,h2.put hp⟩,h.fx.put hp hn,by rw[put_sz hp];exact h.sz⟩
theorem ASt.below (h:ASt r S n0 Bp M nb base v0 w rc x W) (hb:Below W.heap.size W W'):ASt r S n0 Bp M nb base v0 w rc x W':=by
 obtain⟨l,h1,h2⟩:=h.l
 exact⟨h.g.below hb,h.own,h.ch,⟨l,h1,h2.below hb⟩,h.fx.below hb,Nat.le_trans h.sz hb.size⟩
theorem BSt.put (h:BSt r S n0 Bp M nb base v0 w rc x W) (hp:Put B W W') (hM:M < B) (hn:n0≤B):BSt r S n0 Bp M nb base v0 w rc x W':=by
 obtain⟨l,h1,h2⟩:=h.l
 exact⟨h.g.put hp hM,h.own,⟨l,h1,h2.put hp⟩,h.fx.put hp hn,by rw[put_sz hp];exact h.sz⟩
theorem BSt.below (h:BSt r S n0 Bp M nb base v0 w rc x W) (hb:Below W.heap.size W W'):BSt r S n0 Bp M nb base v0 w rc x W':=by
 obtain⟨l,h1,h2⟩:=h.l
 exact⟨h.g.below hb,h.own,⟨l,h1,h2.below hb⟩,h.fx.below hb,Nat.le_trans h.sz hb.size⟩
theorem ZSt.put (h:ZSt r n0 M nb base w rc W) (hp:Put B W W') (hM:M < B) (hn:n0≤B):ZSt r n0 M nb base w rc W':=by
 obtain⟨n,c,h1,h2⟩:=h.m
 exact⟨h.l.put hp,⟨n,c,h1,mapI_put h2 hp hM⟩,h.fx.put hp hn⟩
theorem BSt.nextA {x':SX} (h:BSt r S n0 Bp M nb base v0 w rc x W) (ht:ST S Bp (Bp+1) M v0 (partsZ r) x W x' W') (hM:n0≤M) (hw:n0≤W.heap.size):ASt r S n0 Bp M nb base v0 w rc x' W':=by
 obtain⟨l,h1,h2⟩:=h.l
 obtain⟨n,c,_,hm⟩:=h.g.m
 refine⟨ht.g,fun g hg=>?_,ht.ch,⟨l,by rw[ht.st];exact h1,h2.fr ht.fr hm h.g.left⟩,h.fx.fr ht.fr hm h.g.left hM h.own,Nat.le_trans h.sz ht.fr.size⟩
 rcases ht.new g hg with e | e
 ·exact h.own g e
 ·omega
theorem SG.done_le (h:SG S Bp (Bp+1) M v0 (partsZ r) x W):x.nxt.done≤r.body.length:=by
 have h1:=h.few
 have h2:(partsZ r).length=r.body.length:=by unfold partsZ;rw[List.length_mapIdx]
 unfold SX.nxt
 cases hc:x.ch with
 | none=>simp only;omega
 | some q=>
  obtain⟨i,p⟩:=q
  obtain⟨_,_,_,h3⟩:=h.box i p hc
  have h4:=(List.getElem?_eq_some_iff.1 h3).1
  show x.st.done+1≤r.body.length
  omega
theorem BSt.over (h:BSt r S n0 Bp M nb base v0 w rc x W) (he:SE M x W W') (hM:n0≤M):ZSt r n0 M nb base w rc W':=by
 obtain⟨l,h1,h2⟩:=h.l
 obtain⟨n,c,_,hm⟩:=h.g.m
 have hl:l.length≤r.body.length:=by
  have h3:=seq_done _ _ _ _ h1
  have h4:=h.g.done_le
  have h5:(zs0 r).done=0:=rfl
  omega
 have hz:=walk_over h1 he.no hl
 refine⟨by rw[hz];exact h2.fr he.fr hm h.g.left,by rw[hz];exact he.m,h.fx.fr he.fr hm h.g.left hM h.own⟩
end
theorem KeepW.keeps {S nb B:Nat} {W W':World} (h:KeepW S nb W W') {cs:Array Value} {T:TypeId} {fr:Nat × Nat} (hb:W.heap[nb]?=some (.cells cs T fr)):KeepsFrom B W W':=
 ⟨h.size,fun k o _ ho hc=>h.k k o ho (fun e=>by subst e;rw[hb] at ho;cases ho;cases hc) (.inr fun cs fr e=>by subst e;cases hc)⟩
theorem FxI.keepW {S nb n0:Nat} {w W W':World} {rc:List Value} (h:FxI n0 w rc W) (hk:KeepW S nb W W') (hn:n0+3≤nb) (hS:nb < S):FxI n0 w rc W':=by
 have e:∀ i o,i < n0+3→W.heap[i]?=some o→W'.heap[i]?=some o:=fun i o hi ho=>hk.k i o ho (by omega) (.inl (by omega))
 have hl0:=heap_lt h.er
 refine⟨⟨hk.os.trans h.b.os,hk.tape.trans h.b.tape,hk.output.trans h.b.output,Nat.le_trans h.b.size hk.size,fun i hi=>?_⟩,e _ _ (by omega) h.rule,e _ _ (by omega) h.wk,e _ _ (by omega) h.er⟩
 have h1:W.heap[i]?=some W.heap[i]:=Array.getElem?_eq_getElem (by omega)
 exact (e i _ (by omega) h1).trans (h1.symm.trans (h.b.block i hi))
theorem ASt.took {r:Ru} {S n0 Bp M nb base:Nat} {v0:Value} {w:World} {rc:List Value} {x:SX} {W W':World} (h:ASt r S n0 Bp M nb base v0 w rc x W) {i:Nat} {p:Pt} (hx:x.ch=some (i,p)) {l:List (Pt × Bd)} (hl:seqZ l.length (zs0 r)=(l,x.st)) (hk:KeepW S nb W W')
  {cs:Array Value} (hb:W.heap[nb]?=some (.cells cs 93 (0,0))) (hn:∀ c ∈ cs.toList,∀ s,c≠.string s) (hn0:n0+3≤nb) (hS:nb < S) (hr:WkI nb M base (l++[(p,x.st.B)]) W'):BSt r S n0 Bp M nb base v0 w rc x W':=by
 obtain⟨_,_,h3,h4⟩:=h.g.box i p hx
 have e:x.nxt=x.st.step i p:=by unfold SX.nxt;rw[hx]
 refine⟨h.g.keepW hk hb hn,h.own,⟨l++[(p,x.st.B)],?_,hr⟩,h.fx.keepW hk hn0 hS,Nat.le_trans h.sz hk.size⟩
 rw[e,List.length_append,List.length_singleton]
 exact seqZ_snoc _ _ _ _ _ _ hl rfl (goZ_some h3 h4)
theorem ASt.few {r:Ru} {S n0 Bp M nb base:Nat} {v0:Value} {w:World} {rc:List Value} {x:SX} {W:World} (h:ASt r S n0 Bp M nb base v0 w rc x W) {l:List (Pt × Bd)} (hl:seqZ l.length (zs0 r)=(l,x.st)):l.length≤(partsZ r).length:=by
 have h3:=seq_done _ _ _ _ hl
 have h4:=h.g.few
 have h5:(zs0 r).done=0:=rfl
 omega
theorem BSt.start {r:Ru} {S n0 Bp M nb base:Nat} {v0:Value} {w:World} {rc:List Value} {W:World} (hp:FewP' (partsZ r)) (h1:SBoxes Bp (Bp+1) M v0 W) (h2:MapI Tryz.prog W 9 3 M 0 (fun _=>0) 0) (h3:LeftOk S W v0 (partsZ r)) (h4:∀ g,v0.ownBlock=some g→n0≤g)
  (h5:W.heap[nb]?=some (.cells #[.slice none 0 0,.map (some M),.bool false] 93 (0,0))) (h6:FxI n0 w rc W) (h7:base≤W.heap.size):BSt r S n0 Bp M nb base v0 w rc (sx0 (partsZ r) v0 (fun _=>0)) W:=
 ⟨⟨h1,⟨0,0,by have:=hp.w;show 0+wtZ (partsZ r)≤1000000;omega,h2⟩,h3,fun p hp=>hp,by show 0+(partsZ r).length=_;omega,fun i p h=>by cases h⟩,h4,⟨[],rfl,⟨.slice none 0 0,h5,World.ownsRow_nil _ _ _ _⟩⟩,h6,h7⟩
theorem WkI.mk' {nb M base:Nat} {l:List (Pt × Bd)} {p:Pt} {B:Bd} {W:World} {v5:Value} {bn:Bool} (h:W.heap[nb]?=some (.cells #[v5,.map (some M),.bool bn] 93 (0,0))) (hb:((l.any fun x=>inventsZ x.2 x.1) || inventsZ B p)=bn)
  (ho:W.ownsRow base 3 1 v5 (l.length+1) ((l.map fun x=>Value.int .i64 (x.1.place:Int))++[.int .i64 (p.place:Int)])):WkI nb M base (l++[(p,B)]) W:=by
 refine⟨v5,?_,?_⟩
 ·rw[List.any_append,List.any_cons,List.any_nil,Bool.or_false,hb]
  exact h
 ·rw[List.length_append,List.map_append]
  exact ho
def markL (ds:List Nat):List Deferred:=ds.map fun D=>{ target:=.collected D,args:=#[] }
structure MksW (B:Nat) (ds:List Nat) (W:World):Prop where
 nd:ds.Nodup
 at_:∀ D ∈ ds,B≤D∧W.heap[D]?=some (.deferred (some []))
theorem leave_marks {F:Fence} {n:Nat} {P:Program} {fn:Func} {tmps:Array Value} {R:Ending→World→Prop} {B:Nat} {S:World→Prop} (hS:Firm B S) :
  ∀ (ds:List Nat) (W:World),MksW B ds W→S W→(∀ W',S W'→LeavesIn F n P fn tmps R [] .returning W')→LeavesInM F n P fn tmps R (markL ds) .returning W
 | [],W,_,hs,h=>h W hs
 | D::ds,W,hm,hs,h=>by
  have hd:=hm.at_ D (List.mem_cons_self ..)
  have hnd:=List.nodup_cons.1 hm.nd
  refine⟨by simp,.inl ⟨D,_,rfl,run_takeDeferred hd.2,leave_marks hS ds _ ⟨hnd.2,fun E hE=>?_⟩ (hS _ _ ⟨D,_,_,hd.1,hd.2,rfl,rfl,rfl⟩ hs) h⟩⟩
  have hE':=hm.at_ E (List.mem_cons_of_mem _ hE)
  exact⟨hE'.1,(World.putObj_heap_other (by rintro rfl;exact hnd.1 hE)).trans hE'.2⟩
structure FinI (n0:Nat) (w:World) (c0 c1 c2 c3:Value) (W:World):Prop where
 b:Below n0 w W
 wk:W.heap[n0+1]?=some (.cells #[c0,c1,c2] 93 (0,0))
 er:W.heap[n0+1+1]?=some (.cells #[c3] 95 (0,0))
theorem FinI.put {n0 B:Nat} {w W W':World} {c0 c1 c2 c3:Value} (h:FinI n0 w c0 c1 c2 c3 W) (hp:Put B W W') (hB:n0≤B):FinI n0 w c0 c1 c2 c3 W':=
 ⟨put_bel hp h.b hB,put_block hp h.wk (.inl rfl),put_block hp h.er (.inl rfl)⟩
theorem FinI.of {n0:Nat} {w W:World} {rc:List Value} (h:FxI n0 w rc W) (c0 c1 c2 c3:Value):FinI n0 w c0 c1 c2 c3 ((((W.setCell ⟨n0+1,0,none⟩ c0).setCell ⟨n0+1,1,none⟩ c1).setCell ⟨n0+1,2,none⟩ c2).setCell ⟨n0+1+1,0,none⟩ c3):=by
 obtain⟨h1,h2,h3⟩:=setW c0 c1 c2 c3 h.b (b:=n0+1) (b2:=n0+1+1) (by omega) (by omega) h.wk h.er (by omega)
 exact⟨h3,h1,h2⟩
theorem setW_oth {W:World} {b b2 i:Nat} {c0 c1 c2 c3:Value} (h1:i≠b) (h2:i≠b2):((((W.setCell ⟨b,0,none⟩ c0).setCell ⟨b,1,none⟩ c1).setCell ⟨b,2,none⟩ c2).setCell ⟨b2,0,none⟩ c3).heap[i]?=W.heap[i]?:=
 (set_oth h2).trans ((set_oth h1).trans ((set_oth h1).trans (set_oth h1)))
theorem order_sl {r:Ru} {W:World} {base:Nat} {v:Value} (h:W.ownsRow base 3 1 v (walkZ r).1.length ((walkZ r).1.map fun x=>Value.int .i64 (x.1.place:Int))) (hb:r.body.length≤1000000):SlOf W W.heap.size 1 IntC (orderZ r) v:=by
 have h1:(orderZ r).length=(walkZ r).1.length:=by unfold orderZ;rw[List.length_map]
 refine sl_row (l:=orderZ r) (f:=fun k=>Value.int .i64 k) (by rw[h1];unfold orderZ;rw[List.map_map];exact h) fun k hk=>⟨rfl,?_⟩
 rw[orderZ_eq,List.mem_map] at hk
 obtain⟨j,hj,rfl⟩:=hk
 have:=ord_lt hj
 unfold I64
 omega
theorem come_no {r:Ru} {k:Nat} (hk:k < r.body.length) (h:memI (orderZ r) (k:Int)=false):safeZ r=false:=by
 have:comeZ r=false:=by
  unfold comeZ
  rw[List.all_eq_false]
  refine⟨k,List.mem_range.2 hk,fun hd=>?_⟩
  simp only[decide_eq_true_eq] at hd
  unfold memI at h
  rw[List.any_eq_false] at h
  exact h _ hd (by simp)
 unfold safeZ
 rw[this,Bool.false_and]
theorem come_yes {r:Ru} (h:∀ k:Nat,k < r.body.length→memI (orderZ r) (k:Int)=true):comeZ r=true:=by
 unfold comeZ
 rw[List.all_eq_true]
 intro k hk
 have:=h k (List.mem_range.1 hk)
 unfold memI at this
 rw[List.any_eq_true] at this
 obtain⟨x,hx,he⟩:=this
 have:(k:Int)=x:=by simpa using he
 rw[this]
 simpa using hx
theorem bound_no {r:Ru} {s:ByteArray} (hs:s ∈ occ (subTs r.head.l)) (h:hasZ (boundZ r) s=false):safeZ r=false:=by
 unfold safeZ
 have:(occ (subTs r.head.l)).all (hasZ (boundZ r))=false:=List.all_eq_false.2 ⟨s,hs,by rw[h];decide⟩
 rw[this,Bool.and_false]
theorem safe_yes {r:Ru} (h:comeZ r=true) (h2:∀ s ∈ occ (subTs r.head.l),hasZ (boundZ r) s=true):safeZ r=true:=by
 unfold safeZ
 rw[h,Bool.true_and]
 exact List.all_eq_true.2 h2
theorem mapI_same {P:Program} {M n c:Nat} {kT eT:TypeId} {f:Bd} {W W':World} (h:MapI P W kT eT M n f c) (he:W'.heap[M]?=W.heap[M]?):MapI P W' kT eT M n f c:=by
 obtain⟨D,⟨es,clock,h2,h3⟩,h4⟩:=h
 exact⟨D,⟨es,clock,he.trans h2,h3⟩,h4⟩
theorem own_same {W W':World} {base e z n:Nat} {v:Value} {xs:List Value} (h:W.ownsRow base e z v n xs) (hk:∀ (g:Nat) (cs:Array Value),W.heap[g]?=some (.cells cs e (0,0))→W'.heap[g]?=some (.cells cs e (0,0))):W'.ownsRow base e z v n xs:=by
 refine⟨h.1,?_⟩
 rcases h.2 with h2 | ⟨g,cap,cur,e1,e2,e3,e4⟩
 ·exact .inl h2
 ·exact .inr ⟨g,cap,cur,e1,e2,hk g cur e3,e4⟩
structure GdI (r:Ru) (n0 base M n c:Nat) (w:World) (v:Value) (W:World):Prop where
 f:FinI n0 w v (.map (some M)) (.bool (invZ r)) .nilIface W
 o:W.ownsRow base 3 1 v (walkZ r).1.length ((walkZ r).1.map fun x=>Value.int .i64 (x.1.place:Int))
 m:MapI Tryz.prog W 9 3 M n (boundZ r) c
theorem GdI.put {r:Ru} {n0 base M n c B:Nat} {w W W':World} {v:Value} (h:GdI r n0 base M n c w v W) (hp:Put B W W') (hB:n0≤B) (hM:M < B):GdI r n0 base M n c w v W':=
 ⟨h.f.put hp hB,own_same h.o fun _ _ hg=>put_block hp hg (.inl rfl),mapI_put h.m hp hM⟩
theorem GdI.of {r:Ru} {n0 base M n c:Nat} {w W:World} {v:Value} {rc:List Value} (h:FxI n0 w rc W) (ho:W.ownsRow base 3 1 v (walkZ r).1.length ((walkZ r).1.map fun x=>Value.int .i64 (x.1.place:Int))) (hm:MapI Tryz.prog W 9 3 M n (boundZ r) c) (hM:n0+3≤M) :
  GdI r n0 base M n c w v ((((W.setCell ⟨n0+1,0,none⟩ v).setCell ⟨n0+1,1,none⟩ (.map (some M))).setCell ⟨n0+1,2,none⟩ (.bool (invZ r))).setCell ⟨n0+1+1,0,none⟩ .nilIface):=by
 have e1:∀ (g:Nat) (cs:Array Value),W.heap[g]?=some (.cells cs 3 (0,0))→g≠n0+1:=fun g cs hg e=>by
  have h1:=h.wk
  rw[e,h1] at hg
  injection hg with h2
  injection h2 with _ h3 _
  exact absurd h3 (by decide)
 have e2:∀ (g:Nat) (cs:Array Value),W.heap[g]?=some (.cells cs 3 (0,0))→g≠n0+1+1:=fun g cs hg e=>by
  have h1:W.heap[n0+1+1]?=_:=h.er
  rw[e,h1] at hg
  injection hg with h2
  injection h2 with _ h3 _
  exact absurd h3 (by decide)
 exact⟨FinI.of h _ _ _ _,own_same ho fun g cs hg=>(setW_oth (e1 g cs hg) (e2 g cs hg)).trans hg,mapI_same hm (setW_oth (by omega) (by omega))⟩
end Go.Proofs.YtakpgcmfjlbcgaaGreatDoor
namespace Go.Proofs.YtakpgcmfjlbcgaaGreatDoor
open Lib(hid)
open Go.RowKit Go.Shelf Go.Maps Go.WideMaps
attribute [local go_sem] Oper.semAt_some
inductive WkR (n0:Nat) (w:World) (a:Addr) (r:Ru):Ending→World→Prop
 | tree {w':World}:rightR r=false→Below n0 w w'→WkR n0 w a r (.returned (.tuple #[.agg #[.slice none 0 0,.map none,.bool false],errV a])) w'
 | ready {w':World} (k:Int):rightR r=true→safeZ r=false→Below n0 w w'→WkR n0 w a r (.returned (.tuple #[.agg #[.slice none 0 0,.map none,.bool false],.iface 130 (.agg #[.int .i64 k])])) w'
 | bound {w':World} (s:ByteArray):rightR r=true→safeZ r=false→Below n0 w w'→WkR n0 w a r (.returned (.tuple #[.agg #[.slice none 0 0,.map none,.bool false],.iface 136 (.agg #[.string s])])) w'
 | good {w':World} {v:Value} {M n c:Nat}:rightR r=true→safeZ r=true→SlOf w' w'.heap.size 1 IntC (orderZ r) v→MapI Tryz.prog w' 9 3 M n (boundZ r) c→n0≤M→Below n0 w w'→WkR n0 w a r (.returned (.tuple #[.agg #[v,.map (some M),.bool (invZ r)],.nilIface])) w'
theorem loadVar_walk {W:World} {b:Nat} {c0 c1 c2:Value} (h:W.heap[b]?=some (.cells #[c0,c1,c2] 93 (0,0))):(loadVar 93 ⟨b,0,none⟩).run Tryz.prog W=.ok (.agg #[c0,c1,c2]) W:=
 run_loadVar_row W b 93 93 _ (0,0) _ h Tryz.underlying93 rfl (by kernel_rfl)
def slotsS:List (Option Tmp):=[some 15,some 16,some 17,some 18,some 19]
def factsS (r:Ru) (rc:List Value) (n0 nb M:Nat):List (Value→World→Prop):=
 [fun v _=>v=.agg rc.toArray,fun v W=>∃ S,nb < S∧LeftOk S W v (partsZ r)∧(∀ g,v.ownBlock=some g→n0≤g),fun v _=>v=.pointer (some ⟨nb,1,none⟩),fun v _=>v=.map (some M),
  fun v W=>∃ S Bp v0,nb < S∧LeftOk S W v0 (partsZ r)∧(∀ g,v0.ownBlock=some g→n0≤g)∧SBoxes Bp (Bp+1) M v0 W∧v=.func (.func 95) #[] #[.pointer (some ⟨Bp,0,none⟩),.pointer (some ⟨Bp+1,0,none⟩)]]
theorem factsS_mono (r:Ru) (rc:List Value) (n0 nb M:Nat):∀ p ∈ factsS r rc n0 nb M,∀ v w w',p v w→Below w.heap.size w w'→p v w':=by
 intro p hp v w w' h hb
 unfold factsS at hp
 simp only[List.mem_cons,List.not_mem_nil,or_false] at hp
 rcases hp with rfl | rfl | rfl | rfl | rfl
 ·exact h
 ·obtain⟨S,h1,h2,h3⟩:=h;exact⟨S,h1,h2.below hb,h3⟩
 ·exact h
 ·exact h
 ·obtain⟨S,Bp,v0,h1,h2,h3,h4,h5⟩:=h;exact⟨S,Bp,v0,h1,h2.below hb,h3,h4.below hb,h5⟩
set_option maxRecDepth 100000 in
set_option maxHeartbeats 16000000 in
theorem walkThrough_in (r:Ru) (cs:List Value) (t a u:Addr) (n0:Nat) (w:World) (hn0:w.heap.size=n0) (hc:RuC w n0 r cs) (hf:FewR r) (hp:FewP' (partsZ r)) (E:ZEnv n0 a u w) (T:TErr t w) :
  CallsIn Fence.wide 8 Tryz.prog 50 #[.agg cs.toArray] w (WkR n0 w a r):=by
 obtain⟨o0,k0,o1,k1,rfl,_,hh,hbd⟩:=hc.look
 have hmm:=@run_makeMap Tryz.prog
 have HC:=hid hc
 have HF:=hid hf
 have HP:=hid hp
 have HE:=hid E
 have HT:=hid T
 have HH:=hid hh
 have Hn0:=hid hn0
 clear hc hf hp E T hh hbd
 refine callsIn_of_wp_marks Tryz.func50 rfl trivial ?_ rfl
 simp only[Tryz.ntmps50,List.size_toArray,List.length_cons,List.length_nil,Nat.reduceAdd,Nat.reduceSub,Array.replicate_succ,Array.replicate_zero,List.push_toArray,List.append_toArray,List.nil_append,List.cons_append]
 gi_wp2_with fail
 obtain⟨W3,hW3⟩:∃ W3,(((w.alloc (.cells #[.string r.head.rel,.slice o0 r.head.l.length k0,.slice o1 r.body.length k1,.int .i64 r.line] 47)).alloc (.cells #[.slice none 0 0,.map none,.bool false] 93)).alloc (.cells #[.nilIface] 95))=W3:=⟨_,rfl⟩
 have hb3:Below w.heap.size w W3:=by rw[← hW3];exact (((Below.refl _ _).alloc (Nat.le_refl _) _).alloc (by simp) _).alloc (by simp;omega) _
 have F3:FxI n0 w [.string r.head.rel,.slice o0 r.head.l.length k0,.slice o1 r.body.length k1,.int .i64 r.line] W3:=by
  rw[← hW3,← hn0]
  refine⟨(((Below.refl _ _).alloc (Nat.le_refl _) _).alloc (by simp) _).alloc (by simp;omega) _,?_,?_,?_⟩
  ·exact (Below.heap_alloc _ _ _ (by simp;omega)).trans ((Below.heap_alloc _ _ _ (by simp)).trans (World.alloc_heap_new w _))
  ·have h1:=World.alloc_heap_new (w.alloc (.cells #[.string r.head.rel,.slice o0 r.head.l.length k0,.slice o1 r.body.length k1,.int .i64 r.line] 47)) (.cells #[.slice none 0 0,.map none,.bool false] 93)
   rw[World.size_alloc] at h1
   exact (Below.heap_alloc _ _ _ (by simp)).trans h1
  ·have h1:=World.alloc_heap_new ((w.alloc (.cells #[.string r.head.rel,.slice o0 r.head.l.length k0,.slice o1 r.body.length k1,.int .i64 r.line] 47)).alloc (.cells #[.slice none 0 0,.map none,.bool false] 93)) (.cells #[.nilIface] 95)
   rw[World.size_alloc,World.size_alloc] at h1
   exact h1
 have F3:=hid F3
 have H1:=hid (rightRule_c r t W3 _ ((HC.out.below (by rw[← hn0];exact hb3)).more (by rw[← hn0];exact F3.out.b.size)) (HT.out.below hb3))
 have HB3:=hid hb3
 have e0:w.heap.size=n0:=hn0
 rw[hW3]
 try rw[e0]
 clear hW3 hb3
 refine⟨trivial,(callsIn_wide.2 H1.out).mono ?_⟩
 rintro e w1 ⟨rfl,b1⟩
 have F1:=hid (F3.out.below b1)
 have E1:=hid (HE.out.below F1.out.b)
 have HBw:=hid (HB3.out.trans (b1.mono HB3.out.size))
 obtain⟨x0,x1,x2,x3⟩:=row4 F1.out.rule
 have l0:=heap_lt F1.out.rule
 clear b1 H1 F3 HB3
 cases hr:rightR r with
 | false=>
  have Hr:=hid hr
  have g0:=E1.out.tr
  have gl:0 < w1.heap.size:=Nat.lt_of_lt_of_le E1.out.big.1 (by rw[← Hn0.out];exact F1.out.b.size)
  have lk:=heap_lt F1.out.wk
  have le:=heap_lt F1.out.er
  clear hr
  unfold errV at g0
  obtain⟨⟨y0,y1,y2⟩,y3,y4,y5⟩:=row3 F1.out.wk
  have q0:w1.cell? ⟨n0+1+1,0,none⟩=some .nilIface:=row_cells F1.out.er 0
  have q1:w1.frozen? ⟨n0+1+1,0,none⟩=false:=frz_row F1.out.er 0
  have hgn:0 < n0:=E1.out.big.1
  have hn1:¬ (n0=0 - 1):=by omega
  have hn2:¬ (0 - 1=n0):=by omega
  have hn3:¬ (0=n0+1):=by omega
  simp only[Nat.reduceSub] at hn1 hn2
  clear hgn
  gi_wp2_with fail
  refine wpIn_wide.2 ?_
  go_region
  have hx:=setW (.slice none 0 0) (.map none) (.bool false) (.iface 250 (.pointer (some a))) (F1.out.b.drew) (by omega) (by omega) (show w1.drew.heap[n0+1]?=_ from F1.out.wk) (show w1.drew.heap[n0+1+1]?=_ from F1.out.er) (by omega)
  have Hx:=hid hx
  clear hx y0 y1 y2 y3 y4 y5 q0 q1
  gi_wp2
  refine⟨_,results_cell2 rfl _ _ (n0+1) (n0+1+1) _ _ rfl (loadVar_walk Hx.out.1) rfl (loadVar_err (row_cells Hx.out.2.1 0)),?_⟩
  exact .tree Hr.out Hx.out.2.2
 | true=>
 have Hr:=hid hr
 clear hr
 gi_wp2_with fail
 obtain⟨M,hM⟩:∃ M,w1.heap.size=M:=⟨_,rfl⟩
 obtain⟨W5,hW5⟩:∃ W,((w1.alloc (.map #[] 0)).alloc (.cells #[.slice none 0 0,.map (some w1.heap.size),.bool false] 93))=W:=⟨_,rfl⟩
 have hb5:Below w1.heap.size w1 W5:=by rw[← hW5];exact ((Below.refl _ _).alloc (Nat.le_refl _) _).alloc (by simp) _
 have F5:=hid (F1.out.below hb5)
 have HBw:=hid (HBw.out.trans (hb5.mono HBw.out.size))
 have hm5:MapI Tryz.prog W5 9 3 M 0 (fun _=>0) 0:=by
  have:=(mapI_made Tryz.prog w1 9 3).alloc (.cells #[.slice none 0 0,.map (some w1.heap.size),.bool false] 93)
  rw[hW5,hM] at this
  exact this
 have hr5:W5.heap[M+1]?=some (.cells #[.slice none 0 0,.map (some M),.bool false] 93 (0,0)):=by
  have h1:=World.alloc_heap_new (w1.alloc (.map #[] 0)) (.cells #[.slice none 0 0,.map (some w1.heap.size),.bool false] 93)
  rw[World.size_alloc,hW5,hM] at h1
  exact h1
 have hs5:W5.heap.size=M+2:=by rw[← hW5,← hM];simp
 rw[hW5,hM]
 have HM5:=hid hm5
 have HR5:=hid hr5
 have HS5:=hid hs5
 have HnM:Hid (n0+3≤M):=hid (by rw[← hM];have:=heap_lt F1.out.er;omega)
 clear hb5 hm5 hr5 hs5 hW5 hM x0 x1 x2 x3 l0
 obtain⟨x0,x1,x2,x3⟩:=row4 F5.out.rule
 refine wpIn_wide.2 ?_
 refine wp_region_any (by kernel_rfl) ?_
 (try (change wpAny _ _ _ _ _ _ _ (World.drew _)))
 refine wpAny_grow slotsS _ _ (factsS r [.string r.head.rel,.slice o0 r.head.l.length k0,.slice o1 r.body.length k1,.int .i64 r.line] n0 (M+1) M) (by kernel_rfl) (by kernel_rfl) (by kernel_rfl) (by kernel_rfl) (by kernel_rfl) (factsS_mono _ _ _ _ _) ⟨?s0,?s1,?s2,?s3,?s4,trivial⟩ ?fin
 case s0=>
  intro A' w' K hb hfar hd hK
  have e1:A'.tmps[1]?.getD undef=.pointer (some ⟨n0,0,none⟩):=hfar 1 (by decide)
  obtain⟨z0,z1,z2,z3⟩:=row4 ((hb.block _ (heap_lt F5.out.rule)).trans F5.out.rule)
  unfold Oper.wp
  simp[execOp,e1,z0,z1,z2,z3,go_sem,Result.andThen]
  exact hK _ _ (Below.refl _ _) (factG_mk rfl rfl)
 case s1=>
  intro A' w' K hb hfar hd hK
  have e15:A'.tmps[15]?.getD undef=.agg ([.string r.head.rel,.slice o0 r.head.l.length k0,.slice o1 r.body.length k1,.int .i64 r.line]:List Value).toArray:=hd 0 15 rfl (by kernel_rfl) _ rfl
  have hbw:Below w.heap.size w w':=HBw.out.trans (((Below.refl _ W5).drew.trans hb).mono HBw.out.size)
  have hP:=partsOf_c r _ w' ((HC.out.below (by rw[← Hn0.out];exact hbw)).more (by rw[← Hn0.out];exact hbw.size)) HF.out
  unfold Oper.wp
  simp[execOp,e15,go_sem,Result.andThen]
  refine hP.mono ?_
  rintro e3 w3 ⟨v,xs,rfl,ho,hl,b3⟩
  refine hK _ _ b3 (factG_mk rfl ⟨w3.heap.size,?_,⟨Nat.le_refl _,xs,own_base ho (Nat.zero_le _),hl⟩,fun g hg=>?_⟩)
  ·have h1:=hb.size
   have h2:=b3.size
   have h3:=HS5.out
   have h4:W5.drew.heap.size=W5.heap.size:=rfl
   omega
  ·have h1:=(ho.lt g hg).1
   have h2:=hb.size
   have h3:=HS5.out
   have h4:W5.drew.heap.size=W5.heap.size:=rfl
   have h5:=HnM.out
   omega
 case s2=>
  intro A' w' K hb hfar hd hK
  have e4:A'.tmps[4]?.getD undef=.pointer (some ⟨M+1,0,none⟩):=hfar 4 (by decide)
  unfold Oper.wp
  simp[execOp,e4,go_sem,Result.andThen]
  exact hK _ _ (Below.refl _ _) (factG_mk rfl rfl)
 case s3=>
  intro A' w' K hb hfar hd hK
  have e17:A'.tmps[17]?.getD undef=.pointer (some ⟨M+1,1,none⟩):=hd 2 17 rfl (by kernel_rfl) _ rfl
  have z1:=(row3 ((hb.block _ (heap_lt HR5.out)).trans HR5.out)).1.2.1
  unfold Oper.wp
  simp[execOp,e17,z1,go_sem,Result.andThen]
  exact hK _ _ (Below.refl _ _) (factG_mk rfl rfl)
 case s4=>
  intro A' w' K hb hfar hd hK
  obtain⟨v0,e16⟩:∃ v,A'.tmps[16]?.getD undef=v:=⟨_,rfl⟩
  obtain⟨S,hS1,hS2,hS3⟩:∃ S,M+1 < S∧LeftOk S w' (A'.tmps[16]?.getD undef) (partsZ r)∧(∀ g,(A'.tmps[16]?.getD undef).ownBlock=some g→n0≤g):=hd 1 16 rfl (by kernel_rfl) _ rfl
  have e18:A'.tmps[18]?.getD undef=.map (some M):=hd 3 18 rfl (by kernel_rfl) _ rfl
  rw[e16] at hS2 hS3
  obtain⟨o,c,rfl⟩:∃ o c,v0=.slice o (partsZ r).length c:=by obtain⟨_,xs,h1,_⟩:=hS2;exact own_shape h1
  have hst:=callsIn_wide.1 (steps_in 8 o (partsZ r).length c M w')
  unfold Oper.wp
  simp[execOp,e16,e18,go_sem,Result.andThen]
  refine hst.mono ?_
  rintro e3 w3 ⟨rfl,rfl⟩
  have hb3:Below w'.heap.size w' ((w'.alloc (.cells #[.slice o (partsZ r).length c] 123)).alloc (.cells #[.map (some M)] 91)):=((Below.refl _ _).alloc (Nat.le_refl _) _).alloc (by simp) _
  refine hK _ _ hb3 (factG_mk rfl ⟨S,w'.heap.size,_,hS1,hS2.below hb3,hS3,⟨?_,?_⟩,rfl⟩)
  ·exact (Below.heap_alloc _ _ _ (by simp)).trans (World.alloc_heap_new w' _)
  ·have h1:=World.alloc_heap_new (w'.alloc (.cells #[.slice o (partsZ r).length c] 123)) (.cells #[.map (some M)] 91)
   rwa [World.size_alloc] at h1
 case fin=>
  intro val w6 hF hb
  obtain⟨S,Bp,v0,hS1,hS2,hS3,hS4,hS5⟩:∃ S Bp v0,M+1 < S∧LeftOk S w6 v0 (partsZ r)∧(∀ g,v0.ownBlock=some g→n0≤g)∧SBoxes Bp (Bp+1) M v0 w6∧val 4=.func (.func 95) #[] #[.pointer (some ⟨Bp,0,none⟩),.pointer (some ⟨Bp+1,0,none⟩)]:=hF 4 19 rfl _ rfl
  have hb6:Below W5.heap.size W5 w6:=(Below.refl _ W5).drew.trans hb
  have F6:=hid (F5.out.below hb6)
  have HR6:=hid ((hb6.block _ (heap_lt HR5.out)).trans HR5.out)
  have HM6:=hid (HM5.out.below hb6 HM5.out.lt)
  have HS6:Hid (M+2≤w6.heap.size):=hid (by rw[← HS5.out];exact hb6.size)
  have HS1:=hid hS1
  have HS2:=hid hS2
  have HS3:=hid hS3
  have HS4:=hid hS4
  have HBw:=hid (HBw.out.trans (hb6.mono HBw.out.size))
  simp only[slotsS,putsA,Nat.zero_add,Nat.reduceAdd]
  rw[hS5]
  generalize val 0=v15
  generalize val 1=v16
  generalize val 2=v17
  generalize val 3=v18
  clear hF hb hb6 hS1 hS2 hS3 hS4 hS5 val x0 x1 x2 x3
  go_simp
  gi_wp2_with fail
  have hsh:∃ o c,v0=.slice o (partsZ r).length c:=by obtain⟨_,xs,h1,_⟩:=HS2.out;exact own_shape h1
  obtain⟨i0,hi,hz0,hz1,hz2⟩:=info_parts info_int
  have HI0:=hid (BSt.start (S:=S) (n0:=n0) (Bp:=Bp) (nb:=M+1) (base:=w6.heap.size) HP.out HS4.out HM6.out HS2.out HS3.out HR6.out F6.out (Nat.le_refl _))
  have HnS:Hid (n0+3≤M+1∧M+1 < S∧n0≤M∧M < w6.heap.size∧n0≤w6.heap.size∧S≤w6.heap.size):=hid (by
   have h1:=HnM.out
   have h2:=HS6.out
   have h3:=HS1.out
   have h4:=HS2.out.1
   omega)
  refine range_moves2 rfl (by omega) (gf:=95) (bd:=#[]) (lb:=#[.pointer (some ⟨Bp,0,none⟩),.pointer (some ⟨Bp+1,0,none⟩)]) rfl trivial (enters_of Tryz.func95 (by kernel_rfl) rfl)
   (steps_moves 7 (by omega) S Bp (Bp+1) M v0 (partsZ r) (fun _=>0) HP.out) (fun _=>rfl)
   (fun x W=>ASt r S n0 Bp M (M+1) w6.heap.size v0 w [.string r.head.rel,.slice o0 r.head.l.length k0,.slice o1 r.body.length k1,.int .i64 r.line] x W)
   (fun x W=>BSt r S n0 Bp M (M+1) w6.heap.size v0 w [.string r.head.rel,.slice o0 r.head.l.length k0,.slice o1 r.body.length k1,.int .i64 r.line] x W)
   (fun _ _=>False)
   (fun W=>ZSt r n0 M (M+1) w6.heap.size w [.string r.head.rel,.slice o0 r.head.l.length k0,.slice o1 r.body.length k1,.int .i64 r.line] W)
   (fun x a' W=>ASt r S n0 Bp M (M+1) w6.heap.size v0 w [.string r.head.rel,.slice o0 r.head.l.length k0,.slice o1 r.body.length k1,.int .i64 r.line] x W∧∃ (zb:Nat) (t6 t7 t8 t9 t10 t11 t12 t13 t14 t15 t16 t17 t18 t19 t20 t21 t22 t23 t24 t25 t26 t27 t28 t29 t30 t31 t32 t33 t34 t35 t36 t37 t38 t39 t40 t41 t42 t43 t44 t45 t46 t47 t48 t49 t50 t51 t52 t53 t54 t55 t56 t57 t58 t59 t60 t61 t62 t63 t64 t65 t66 t67:Value),W.heap[zb]?=some (.cells x.cs.toArray 126 (0,0))∧a'={ tmps:=#[.agg ([.string r.head.rel,.slice o0 r.head.l.length k0,.slice o1 r.body.length k1,.int .i64 r.line]:List Value).toArray,.pointer (some ⟨n0,0,none⟩),.pointer (some ⟨n0+1,0,none⟩),.pointer (some ⟨n0+1+1,0,none⟩),.pointer (some ⟨M+1,0,none⟩),.pointer (some ⟨zb,0,none⟩),t6,t7,t8,t9,t10,t11,t12,t13,t14,t15,t16,t17,t18,t19,t20,t21,t22,t23,t24,t25,t26,t27,t28,t29,t30,t31,t32,t33,t34,t35,t36,t37,t38,t39,t40,t41,t42,t43,t44,t45,t46,t47,t48,t49,t50,t51,t52,t53,t54,t55,t56,t57,t58,t59,t60,t61,t62,t63,t64,t65,t66,t67],defers:=[] })
   ?fB ?fX ?fZ ?fM ?h0 ?hB ?assign ?body ?done ?stop
  case fB=>
   rintro x W W' hp h
   exact h.put hp HnS.out.2.2.2.1 HnS.out.2.2.2.2.1
  case fX=>
   rintro c W W' hp h
   exact h.elim
  case fZ=>
   rintro W W' hp h
   exact h.put hp HnS.out.2.2.2.1 HnS.out.2.2.2.2.1
  case fM=>
   rintro x a' W W' hp ⟨h,zb,t6,t7,t8,t9,t10,t11,t12,t13,t14,t15,t16,t17,t18,t19,t20,t21,t22,t23,t24,t25,t26,t27,t28,t29,t30,t31,t32,t33,t34,t35,t36,t37,t38,t39,t40,t41,t42,t43,t44,t45,t46,t47,t48,t49,t50,t51,t52,t53,t54,t55,t56,t57,t58,t59,t60,t61,t62,t63,t64,t65,t66,t67,h1,h2⟩
   exact⟨h.put hp HnS.out.2.2.2.1 HnS.out.2.2.2.2.1,zb,t6,t7,t8,t9,t10,t11,t12,t13,t14,t15,t16,t17,t18,t19,t20,t21,t22,t23,t24,t25,t26,t27,t28,t29,t30,t31,t32,t33,t34,t35,t36,t37,t38,t39,t40,t41,t42,t43,t44,t45,t46,t47,t48,t49,t50,t51,t52,t53,t54,t55,t56,t57,t58,t59,t60,t61,t62,t63,t64,t65,t66,t67,put_block hp h1 (.inl rfl),h2⟩
  case h0=>
   intro o o'
   exact HI0.out.below (((Below.refl _ _).alloc (Nat.le_refl _) _).alloc (by simp) _)
  case hB=>
   rintro x W1 h
   refine⟨h.g,?_,?_⟩
   ·rintro x' W2 ht
    have hw:n0≤W1.heap.size:=by rw[← Hn0.out];exact h.fx.b.size
    exact⟨fr_keeps ht.fr HnS.out.2.2.2.1 h.g.left,h.nextA ht HnS.out.2.2.1 hw⟩
   ·rintro W2 he
    exact⟨fr_keeps he.fr HnS.out.2.2.2.1 h.g.left,h.over he HnS.out.2.2.1⟩
  case assign=>
   rintro lp x W h
   obtain⟨i,p,hch⟩:=h.ch
   obtain⟨q0,q1,q2,q3,q4,q5,q6,q7,q8,q9,q10,q11,q12,q13,q14,q15,e17,_⟩:=(h.g.box i p hch).2.1.look
   obtain⟨cs,hcs⟩:∃ cs,x.cs=cs:=⟨_,rfl⟩
   rw[hcs] at e17
   have Hcs:=hid hcs
   rw[hcs]
   subst e17
   have hb:=fun o=>(Below.refl W.heap.size W).alloc (Nat.le_refl _) o
   have HK:=hid (fun o=>KeepsFrom.of_grownBy (B:=w6.heap.size) (row:=none) ⟨(hb o).os,(hb o).tape,(hb o).output,(hb o).size,fun k hk _=>(hb o).block k hk⟩ (fun j e=>by cases e))
   have H:=hid (fun o=>h.below (hb o))
   have HR:=hid (fun o=>World.alloc_heap_new W o)
   clear h hb hch hcs
   gi_wp2
   refine⟨HK.out _,H.out _,W.heap.size,_,_,_,_,_,_,_,_,_,_,_,_,_,_,_,_,_,_,_,_,_,_,_,_,_,_,_,_,_,_,_,_,_,_,_,_,_,_,_,_,_,_,_,_,_,_,_,_,_,_,_,_,_,_,_,_,_,_,_,_,_,_,?_,by trivial⟩
   exact HR.out _
  case stop=>
   rintro D c W hD h hd
   exact h.elim
  case body=>
   rintro lp x a' W ⟨hA,zb,t6,t7,t8,t9,t10,t11,t12,t13,t14,t15,t16,t17,t18,t19,t20,t21,t22,t23,t24,t25,t26,t27,t28,t29,t30,t31,t32,t33,t34,t35,t36,t37,t38,t39,t40,t41,t42,t43,t44,t45,t46,t47,t48,t49,t50,t51,t52,t53,t54,t55,t56,t57,t58,t59,t60,t61,t62,t63,t64,t65,t66,t67,hz,rfl⟩
   obtain⟨i,p,hch⟩:=hA.ch
   obtain⟨l,hl,hwk⟩:=hA.l
   obtain⟨v,hv,ho⟩:=hwk.row
   obtain⟨ov,cv,rfl⟩:=own_shape ho
   have hpt:=(hA.g.box i p hch).2.1
   obtain⟨n5,c5,_,hmp⟩:=hA.g.m
   have hll:=hA.few hl
   have hp2:=HP.out.n
   have hS1:l.length+1≤maxLen:=by unfold maxLen;omega
   have hS2:(l.length+1) * 8≤140737488355328:=by omega
   obtain⟨X,hX⟩:∃ X:Obj,.cells #[.int .i64 (p.place:Int)] 3=X:=⟨_,rfl⟩
   have hbX:Below W.heap.size W (W.alloc X):=(Below.refl _ _).alloc (Nat.le_refl _) _
   have hsp:Spread (W.alloc X) 1 (.slice (some ⟨W.heap.size,0,none⟩) 1 1) 1 [.int .i64 (p.place:Int)]:=.inr ⟨⟨W.heap.size,0,none⟩,1,rfl,rfl,fun j u hj=>by rw[← hX];exact World.news_of_block (World.alloc_heap_new W _) j u (by simpa using hj),by simp[Value.oneCell']⟩
   have hbase:w6.heap.size≤(W.alloc X).heap.size:=Nat.le_trans hA.sz hbX.size
   have hl17:x.cs.length=17:=hpt.len
   have hzn:zb≠M+1:=fun e=>by
    rw[e,hv] at hz
    injection hz with h1
    injection h1 with _ h2 _
    exact absurd h2 (by decide)
   have hpl:W.cell? ⟨zb,0,none⟩=some (.int .i64 (p.place:Int)):=by
    obtain⟨q0,q1,q2,q3,q4,q5,q6,q7,q8,q9,q10,q11,q12,q13,q14,q15,e17,_⟩:=hpt.look
    have:=row_cells hz 0
    rw[e17] at this
    exact this
   obtain⟨bn,hbn⟩:∃ b,(l.any fun x=>inventsZ x.2 x.1)=b:=⟨_,rfl⟩
   rw[hbn] at hv
   obtain⟨⟨y0,y1,y2⟩,f0,f1,f2⟩:=row3 hv
   have lv:=heap_lt hv
   have lz:=heap_lt hz
   have HA:=hid hA
   have HO:=hid ho
   have HOX:=hid (own_below ho hbX)
   have HX:=hid hbX
   have Hz:=hid hz
   have Hv:=hid hv
   have Hl:=hid hl
   have Hch:=hid hch
   have Hbn:=hid hbn
   have Hpt:=hid hpt
   have Hmp:=hid hmp
   have Hsp:=hid hsp
   have HS12:=hid (And.intro hS1 hS2)
   have Hbase:=hid hbase
   subst hX
   clear hA hz hv hl hwk ho hpt hmp hch hbX hsp hS1 hS2 hbase hbn hll hp2
   cases bn with
   | true=>
    gi_wp2_with (gi_at_builtin;refine wpListIn_append_any _ rfl (.tmp 22) (.tmp 25) 39 rfl w6.heap.size 3 i0 _ 1 8 Tryz.underlying39 hi hz0 hz1 hz2 rfl (by decide) (.slice ov l.length cv) l.length _ (by simp[Act.eval,Act.put]) HOX.out (.slice (some ⟨W.heap.size,0,none⟩) 1 1) 1 _ (by simp[Act.eval,Act.put]) Hsp.out HS12.out.1 HS12.out.2 Hbase.out ?_;intro v5 W5 hown5 hg5 _;obtain⟨o5,c5',rfl⟩:=own_shape hown5;have hv5:=(hg5.block _ (Nat.lt_of_lt_of_le lv HX.out.size) (fun e=>row_obj HO.out Hv.out (by decide) e.symm)).trans ((HX.out.block _ lv).trans Hv.out);have hz5:=(hg5.block _ (Nat.lt_of_lt_of_le lz HX.out.size) (fun e=>row_obj HO.out Hz.out (by decide) e.symm)).trans ((HX.out.block _ lz).trans Hz.out);obtain⟨⟨y0',y1',y2'⟩,f0',f1',f2'⟩:=row3 hv5;have lv5:=heap_lt hv5;have lz5:=heap_lt hz5;have HOwn5:=hid hown5;have HG5:=hid hg5;have Hv5:=hid hv5;have Hz5:=hid hz5;clear hown5 hg5 hv5 hz5)
    refine⟨trivial,?_⟩
    gi_wp2
    have hk8:KeepW S (M+1) W ((W5.setCell ⟨M+1,0,none⟩ (.slice o5 (l.length+1) c5')).setCell ⟨M+1,2,none⟩ (.bool true)):=(((KeepW.below HX.out).trans (KeepW.row HOX.out HnS.out.2.2.2.2.2 HG5.out)).trans .set).trans .set
    have hnb:∀ c ∈ (#[.slice ov l.length cv,.map (some M),.bool true]:Array Value).toList,∀ s,c≠.string s:=by
     intro c hc s e
     subst e
     simp at hc
    have hr8:=rowSet (rowSet Hv5.out 0 (.slice o5 (l.length+1) c5')) 2 (.bool true)
    have ho8:=own_set (own_set HOwn5.out (b:=M+1) (k:=0) (u:=.slice o5 (l.length+1) c5') (row_obj HOwn5.out Hv5.out (by decide))) (b:=M+1) (k:=2) (u:=.bool true) (row_obj HOwn5.out Hv5.out (by decide))
    exact⟨hk8.keeps Hv.out,HA.out.took Hch.out Hl.out hk8 Hv.out hnb HnS.out.1 HnS.out.2.1 (WkI.mk' (bn:=true) (by simpa using hr8) (by rw[Hbn.out,Bool.true_or]) ho8)⟩
   | false=>
    gi_wp2_with (first | (gi_at_builtin;refine wpListIn_append_any _ rfl (.tmp 22) (.tmp 25) 39 rfl w6.heap.size 3 i0 _ 1 8 Tryz.underlying39 hi hz0 hz1 hz2 rfl (by decide) (.slice ov l.length cv) l.length _ (by simp[Act.eval,Act.put]) HOX.out (.slice (some ⟨W.heap.size,0,none⟩) 1 1) 1 _ (by simp[Act.eval,Act.put]) Hsp.out HS12.out.1 HS12.out.2 Hbase.out ?_;intro v5 W5 hown5 hg5 _;obtain⟨o5,c5',rfl⟩:=own_shape hown5;have hv5:=(hg5.block _ (Nat.lt_of_lt_of_le lv HX.out.size) (fun e=>row_obj HO.out Hv.out (by decide) e.symm)).trans ((HX.out.block _ lv).trans Hv.out);have hz5:=(hg5.block _ (Nat.lt_of_lt_of_le lz HX.out.size) (fun e=>row_obj HO.out Hz.out (by decide) e.symm)).trans ((HX.out.block _ lz).trans Hz.out);obtain⟨⟨y0',y1',y2'⟩,f0',f1',f2'⟩:=row3 hv5;have lv5:=heap_lt hv5;have lz5:=heap_lt hz5;have HOwn5:=hid hown5;have HG5:=hid hg5;have Hv5:=hid hv5;have Hz5:=hid hz5;clear hown5 hg5 hv5 hz5) | (refine wpListIn_load17 (by first | (simp[Region.wanted];done) | (simp[Region.wanted,yielded];done) | kernel_rfl) (.tmp 5) rfl ⟨zb,0,none⟩ (by simp[Act.eval,Act.put]) hl17 (row_at ((set_oth hzn).trans Hz5.out)) ?_))
    have hk5:KeepW S (M+1) W (W5.setCell ⟨M+1,0,none⟩ (.slice o5 (l.length+1) c5')):=((KeepW.below HX.out).trans (KeepW.row HOX.out HnS.out.2.2.2.2.2 HG5.out)).trans .set
    have hnb:∀ c ∈ (#[.slice ov l.length cv,.map (some M),.bool false]:Array Value).toList,∀ s,c≠.string s:=by
     intro c hc s e
     subst e
     simp at hc
    have hg6:=HA.out.g.keepW hk5 Hv.out hnb
    obtain⟨n6,c6,_,hm6⟩:=hg6.m
    have hp6:PtC (W5.setCell ⟨M+1,0,none⟩ (.slice o5 (l.length+1) c5')) S p x.cs:=(hg6.box i p Hch.out).2.1
    have hiv:=invents_c p x.cs M n6 c6 x.st.B _ (hp6.cells (fun _ _ h=>h) hg6.left.1) hm6
    refine⟨trivial,(CallsIn.inRound lp (callsIn_wide.2 hiv)).mono ?_⟩
    rintro e7 W7 ⟨rfl,b7⟩
    have hv6:(W5.setCell ⟨M+1,0,none⟩ (.slice o5 (l.length+1) c5')).heap[M+1]?=some (.cells #[.slice o5 (l.length+1) c5',.map (some M),.bool false] 93 (0,0)):=by simpa using rowSet Hv5.out 0 (.slice o5 (l.length+1) c5')
    have hv7:=(b7.block _ (heap_lt hv6)).trans hv6
    have HK7:=hid (hk5.trans (.below b7))
    have hown7:=own_below (own_set HOwn5.out (b:=M+1) (k:=0) (u:=.slice o5 (l.length+1) c5') (row_obj HOwn5.out Hv5.out (by decide))) b7
    obtain⟨⟨z0',z1',z2'⟩,g0',g1',g2'⟩:=row3 hv7
    have lv7:=heap_lt hv7
    have Hv7:=hid hv7
    have HOwn7:=hid hown7
    have Hnb:=hid hnb
    clear hk5 hg6 hm6 hp6 hiv b7 hv6 hv7 hown7 hnb
    gi_wp2
    have hk8:KeepW S (M+1) W (W7.setCell ⟨M+1,2,none⟩ (.bool (inventsZ x.st.B p))):=HK7.out.trans .set
    have hr8:=rowSet Hv7.out 2 (.bool (inventsZ x.st.B p))
    have ho8:=own_set HOwn7.out (b:=M+1) (k:=2) (u:=.bool (inventsZ x.st.B p)) (row_obj HOwn7.out Hv7.out (by decide))
    exact⟨hk8.keeps Hv.out,HA.out.took Hch.out Hl.out hk8 Hv.out Hnb.out HnS.out.1 HnS.out.2.1 (WkI.mk' (bn:=inventsZ x.st.B p) (by simpa using hr8) (by rw[Hbn.out,Bool.false_or]) ho8)⟩
  case done=>
   rintro D W hD h hd
   obtain⟨v,hv,ho⟩:=h.l.row
   obtain⟨ov,cv,rfl⟩:=own_shape ho
   obtain⟨⟨y0,y1,y2⟩,_,_,_⟩:=row3 hv
   obtain⟨x0,x1,x2,x3⟩:=row4 h.fx.rule
   obtain⟨⟨p0,p1,p2⟩,p3,p4,p5⟩:=row3 h.fx.wk
   have q0:W.cell? ⟨n0+1+1,0,none⟩=some .nilIface:=row_cells h.fx.er 0
   have q1:W.frozen? ⟨n0+1+1,0,none⟩=false:=frz_row h.fx.er 0
   have lv:=heap_lt hv
   have lr:=heap_lt h.fx.rule
   have lk:=heap_lt h.fx.wk
   have le:n0+1+1 < W.heap.size:=heap_lt h.fx.er
   have HBl:Hid (r.body.length≤2000):=hid (by have:=HP.out.n;unfold partsZ at this;rw[List.length_mapIdx] at this;exact this)
   have hbl:=HBl.out
   have hsl:=order_sl ho (by omega)
   have hlen:(orderZ r).length=(walkZ r).1.length:=by unfold orderZ;rw[List.length_map]
   have HSl:=hid hsl
   have HZ:=hid h
   have HO:=hid ho
   have Hv:=hid hv
   obtain⟨dd,hdd⟩:∃ dd:List Deferred,[{ target:=.collected D,args:=#[] }]=dd:=⟨_,rfl⟩
   have Hdd:=hid hdd
   have HMk:Hid (MksW w6.heap.size [D] W):=hid ⟨(by simp),fun E hE=>by rw[List.mem_singleton.1 hE];exact⟨hD,hd⟩⟩
   rw[hdd]
   clear h hv ho hd hsl hdd
   gi_wp2_with fail
   refine wpIn_loop (fun a wr=>∃ (k:Nat) (u6 u41 u42 u43 u44 u45 u46 u47 u52:Value),k≤r.body.length∧wr=W∧Hid (∀ j:Nat,j < k→memI (orderZ r) (j:Int)=true)∧a={ tmps:=#[.agg ([.string r.head.rel,.slice o0 r.head.l.length k0,.slice o1 r.body.length k1,.int .i64 r.line]:List Value).toArray,.pointer (some ⟨n0,0,none⟩),.pointer (some ⟨n0+1,0,none⟩),.pointer (some ⟨n0+1+1,0,none⟩),.pointer (some ⟨M+1,0,none⟩),undef,u6,undef,.agg ([.string r.head.rel,.slice o0 r.head.l.length k0,.slice o1 r.body.length k1,.int .i64 r.line]:List Value).toArray,.bool true,.bool false,undef,undef,.map (some M),.agg #[.slice none 0 0,.map (some M),.bool false],v15,v16,v17,v18,.func (.func 95) #[] #[.pointer (some ⟨Bp,0,none⟩),.pointer (some ⟨Bp+1,0,none⟩)],undef,undef,undef,undef,undef,undef,undef,undef,undef,undef,undef,undef,undef,undef,undef,undef,undef,.pointer (some ⟨n0,2,none⟩),.slice o1 r.body.length k1,.int .i64 r.body.length,.int .i64 k,u41,u42,u43,u44,u45,u46,u47,undef,undef,undef,undef,u52,undef,undef,undef,undef,undef,undef,undef,undef,undef,undef,undef,undef,undef,undef,undef],defers:=dd }) (fun a _=>r.body.length - (intOf (a.tmps.getD 40 undef)).toNat) ?start ?round
   case start=>exact⟨0,_,_,_,_,_,_,_,_,_,Nat.zero_le _,rfl,hid (fun j h=>absurd h (Nat.not_lt_zero _)),rfl⟩
   case round=>
    rintro a wr ⟨k,u6,u41,u42,u43,u44,u45,u46,u47,u52,hk,rfl,Hin,rfl⟩
    by_cases hlt:k < r.body.length
    ·have hlt':(k:Int) < (r.body.length:Int):=by omega
     have wk1:IntKind.i64.wrap ((k:Int)+1)=(k:Int)+1:=by rw[IntKind.wrap_i64];omega
     have HCo:=hid (containsI_c (orderZ r) (k:Int) _ wr HSl.out)
     gi_wp2_with fail
     refine⟨trivial,(callsIn_wide.2 HCo.out).mono ?_⟩
     rintro e8 w8 ⟨rfl,rfl⟩
     cases hm:memI (orderZ r) (k:Int) with
     | true=>
      have Hin2:Hid (∀ j:Nat,j < k+1→memI (orderZ r) (j:Int)=true):=hid (fun j hj=>by
       by_cases e:j=k
       ·rw[e];exact hm
       ·exact Hin.out j (by omega))
      clear hm
      gi_wp2
      refine⟨⟨k+1,_,_,_,_,_,_,_,_,_,hlt,by first | trivial | rfl,Hin2,by go_num⟩,?_⟩
      simp[intOf]
      omega
     | false=>
      have HN:=hid (come_no hlt hm)
      have HF:=hid (FinI.of HZ.out.fx (.slice none 0 0) (.map none) (.bool false) (.iface 130 (.agg #[.int .i64 k])))
      clear hm
      gi_wp2
      rw[← Hdd.out]
      refine leave_marks (B:=w6.heap.size) (S:=FinI n0 w (.slice none 0 0) (.map none) (.bool false) (.iface 130 (.agg #[.int .i64 k]))) (fun W W' hp h=>h.put hp HnS.out.2.2.2.2.1) [D] _ ⟨(by simp),fun E hE=>⟨(HMk.out.at_ E hE).1,(setW_oth (by have:=(HMk.out.at_ E hE).1;have:=HnS.out;omega) (by have:=(HMk.out.at_ E hE).1;have:=HnS.out;omega)).trans (HMk.out.at_ E hE).2⟩⟩ HF.out ?_
      intro W' h
      exact⟨_,results_cell2 rfl _ _ (n0+1) (n0+1+1) _ _ rfl (loadVar_walk h.wk) rfl (loadVar_err (row_cells h.er 0)),.ready (k:Int) Hr.out HN.out h.b⟩
    ·have hlt':¬ (k:Int) < (r.body.length:Int):=by omega
     have hke:k=r.body.length:=by omega
     subst hke
     have HCome:=hid (come_yes Hin.out)
     gi_wp2_with fail
     refine⟨trivial,(zeach_in 7 _ _ _ _).mono ?_⟩
     rintro e9 W9 ⟨rfl,hW9⟩
     have hb9:Below wr.heap.size wr W9:=by rw[hW9];exact (Below.refl _ _).alloc (Nat.le_refl _) _
     have hbx9:W9.heap[wr.heap.size]?=some (.cells #[.slice o0 r.head.l.length k0] 42 (0,0)):=by rw[hW9];exact World.alloc_heap_new wr _
     have hs9:W9.heap.size=wr.heap.size+1:=by rw[hW9];simp
     have hB9:W9.cell? ⟨wr.heap.size,0,none⟩=some (.slice o0 r.head.l.length k0):=row_cells hbx9 0
     have hw9:Below w.heap.size w W9:=by
      have h1:Below w.heap.size w wr:=by rw[Hn0.out];exact HZ.out.fx.b
      exact h1.trans (hb9.mono h1.size)
     have hh9:TmS W9 n0 r.head.l (.slice o0 r.head.l.length k0):=by
      obtain⟨vv,e,_,h⟩:=HH.out
      cases e
      exact h.below (by rw[← Hn0.out];exact hw9)
     have safe9:Safe (fun _ _=>False) W9 W9:=fun p c hp=>⟨hp,World.block_lt_of_cell? _ _ hp,id⟩
     obtain⟨nB,cB,_,hmB⟩:=HZ.out.m
     have hm9:=hmB.below hb9 hmB.lt
     have F9:=hid (HZ.out.fx.below hb9)
     have Hv9:=hid ((hb9.block _ (heap_lt Hv.out)).trans Hv.out)
     have HO9:=hid (own_below HO.out hb9)
     have HM9:=hid hm9
     have HMk9:Hid (MksW w6.heap.size [D] W9):=hid ⟨HMk.out.nd,fun E hE=>⟨(HMk.out.at_ E hE).1,(hb9.block _ (heap_lt (HMk.out.at_ E hE).2)).trans (HMk.out.at_ E hE).2⟩⟩
     have hGd:∀ s ∈ occ (subTs r.head.l),s.size≤281474976710656:=(HF.out.p _ (List.mem_cons_self ..)).s
     have HGd:=hid hGd
     have hs9l:wr.heap.size+1≤W9.heap.size:=by omega
     clear hW9 hmB hm9 hbx9 y0 y1 y2 x0 x1 x2 x3 p0 p1 p2 p3 p4 p5 q0 q1 lv lr lk le
     gi_wp2_with fail
     refine wpIn_rangeFunc_ownH rfl (by omega) (gf:=109) (lb:=#[.pointer (some ⟨wr.heap.size,0,none⟩)]) rfl trivial (enters_of Tryz.func109 (by kernel_rfl) rfl)
      (zeach_stops 7 wr.heap.size n0 r.head.l (.slice o0 r.head.l.length k0) W9 W9 (fun _ _=>False) (fun _ _ _ _ _ h=>h) safe9 (fun _ h=>h.elim) hB9 hh9 (G:=fun s=>s.size≤281474976710656) hGd) (fun h k=>h.trans k) ?hKb (Below.refl _ _) (fun _=>rfl)
      (fun pre W=>(∀ x ∈ pre,hasZ (boundZ r) x.s=true)∧Below W9.heap.size W9 W)
      (fun cd pre W=>(cd=.ret∧∃ x ∈ pre,hasZ (boundZ r) x.s=false∧FinI n0 w (.slice none 0 0) (.map none) (.bool false) (.iface 136 (.agg #[.string x.s])) W)∧MksW w6.heap.size [D] W) ?hI ?hIx ⟨by simp,Below.refl _ _⟩
      (fun x a' W=>a'={ tmps:=#[.agg ([.string r.head.rel,.slice o0 r.head.l.length k0,.slice o1 r.body.length k1,.int .i64 r.line]:List Value).toArray,.pointer (some ⟨n0,0,none⟩),.pointer (some ⟨n0+1,0,none⟩),.pointer (some ⟨n0+1+1,0,none⟩),.pointer (some ⟨M+1,0,none⟩),undef,u6,.string x.s,.agg ([.string r.head.rel,.slice o0 r.head.l.length k0,.slice o1 r.body.length k1,.int .i64 r.line]:List Value).toArray,.bool true,.bool false,undef,undef,.map (some M),.agg #[.slice none 0 0,.map (some M),.bool false],v15,v16,v17,v18,.func (.func 95) #[] #[.pointer (some ⟨Bp,0,none⟩),.pointer (some ⟨Bp+1,0,none⟩)],undef,undef,undef,undef,undef,undef,undef,undef,undef,undef,undef,undef,undef,undef,undef,undef,undef,.pointer (some ⟨n0,2,none⟩),.slice o1 r.body.length k1,.int .i64 r.body.length,.int .i64 r.body.length,.bool false,u42,u43,u44,u45,u46,u47,undef,undef,undef,undef,u52,.pointer (some ⟨n0,0,none⟩),.pointer (some ⟨n0,1,none⟩),.slice o0 r.head.l.length k0,.func (.func 109) #[] #[.pointer (some ⟨wr.heap.size,0,none⟩)],.string x.s,undef,undef,undef,undef,undef,undef,undef,undef,undef,undef],defers:=[] })
      ?hAx ?assign ?body2 ?done2 ?stop2
     case hKb=>
      intro W l o o' hl ho hc _
      exact⟨by simp,fun i x hi hx _=>(World.putObj_heap_other (by rintro rfl;rw[ho] at hi;cases hi;rw[hc] at hx;cases hx)).trans hi,fun _ h=>h.elim,fun _ _ h=>h.elim⟩
     case hI=>
      rintro pre A B1 row ⟨h1,h2⟩ hg hr
      exact⟨h1,ownFrom_below (β:=Unit) (Nat.le_refl _) (Nat.le_refl _) () A B1 row h2 hg hr⟩
     case hIx=>
      rintro cd pre A B1 row ⟨⟨h0,x,h1,h2,h3⟩,h4⟩ hg hr
      have hk:∀ i,i < W9.heap.size→i < A.heap.size→B1.heap[i]?=A.heap[i]?:=fun i hi hA=>hg.block i hA (fun e=>by have h:=(hr _ e.symm).1;change W9.heap.size≤i at h;omega)
      have hl3:=heap_lt F9.out.er
      refine⟨⟨h0,x,h1,h2,⟨⟨hg.os.trans h3.b.os,hg.tape.trans h3.b.tape,hg.output.trans h3.b.output,Nat.le_trans h3.b.size hg.size,fun i hi=>(hk i (by omega) (by have:=heap_lt h3.wk;omega)).trans (h3.b.block i hi)⟩,(hk _ (by omega) (heap_lt h3.wk)).trans h3.wk,(hk _ (by omega) (heap_lt h3.er)).trans h3.er⟩⟩,h4.nd,fun E hE=>⟨(h4.at_ E hE).1,(hk E (heap_lt (HMk9.out.at_ E hE).2) (heap_lt (h4.at_ E hE).2)).trans (h4.at_ E hE).2⟩⟩
     case hAx=>exact fun x a' _ A B row h _ _=>h
     case assign=>
      rintro lp pre ⟨s,gd'⟩ W K hI hK
      have HK:=hid (hK _ W (KeepsFrom.refl _ _) (KO.refl _ _) hI rfl)
      clear hK hI
      simp only[Ns.enc]
      gi_wp2
      exact HK.out
     case body2=>
      rintro lp pre ⟨s,gd'⟩ a' W hlp hrec ⟨h1,h2⟩ rfl hlen2
      have hsz:s.size≤maxLen:=Nat.le_trans gd' (by decide)
      have hvW:=(h2.block _ (heap_lt Hv9.out)).trans Hv9.out
      have hfW:=F9.out.below h2
      have HC:=hid (has_c s hsz M nB cB (boundZ r) W (HM9.out.below h2 HM9.out.lt))
      obtain⟨⟨y0,y1,y2⟩,_,_,_⟩:=row3 hvW
      obtain⟨⟨p0,p1,p2⟩,p3,p4,p5⟩:=row3 hfW.wk
      have q0:W.cell? ⟨n0+1+1,0,none⟩=some .nilIface:=row_cells hfW.er 0
      have q1:W.frozen? ⟨n0+1+1,0,none⟩=false:=frz_row hfW.er 0
      have lv:=heap_lt hvW
      have lk:=heap_lt hfW.wk
      have le:n0+1+1 < W.heap.size:=heap_lt hfW.er
      have H1:=hid h1
      have H2:=hid h2
      have HFW:=hid hfW
      clear h1 h2 hvW hfW
      gi_wp2_with fail
      refine⟨trivial,(CallsIn.inRound lp (callsIn_wide.2 HC.out)).mono ?_⟩
      rintro e8 w8 ⟨rfl,rfl⟩
      cases hh:hasZ (boundZ r) s with
      | true=>
       have Hh:=hid hh
       clear hh
       gi_wp2
       refine⟨KeepsFrom.refl _ _,KO.refl _ _,fun x hx=>?_,H2.out⟩
       rcases List.mem_append.1 hx with hx | hx
       ·exact H1.out x hx
       ·rw[List.mem_singleton.1 hx]
        exact Hh.out
      | false=>
       have Hh:=hid hh
       clear hh
       gi_wp2
       have kf:=((((KeepsOthers.setCell w8 ⟨n0+1,0,none⟩ (.slice none 0 0)).trans (KeepsOthers.setCell _ ⟨n0+1,1,none⟩ (.map none))).trans (KeepsOthers.setCell _ ⟨n0+1,2,none⟩ (.bool false))).trans (KeepsOthers.setCell _ ⟨n0+1+1,0,none⟩ (.iface 136 (.agg #[.string s])))).from W9.heap.size
       refine⟨⟨kf.size,kf.same⟩,⟨rfl,⟨s,gd'⟩,List.mem_append_right _ (List.mem_cons_self ..),Hh.out,FinI.of HFW.out _ _ _ _⟩,HMk9.out.nd,fun E hE=>⟨(HMk9.out.at_ E hE).1,?_⟩⟩
       have hE1:=(HMk9.out.at_ E hE).1
       have hn:=HnS.out
       exact (setW_oth (by omega) (by omega)).trans ((H2.out.block _ (heap_lt (HMk9.out.at_ E hE).2)).trans (HMk9.out.at_ E hE).2)
     case done2=>
      rintro D2 ys W hD2 hys ⟨h1,h2⟩ hK
      have hvW:=(h2.block _ (heap_lt Hv9.out)).trans Hv9.out
      have hfW:=F9.out.below h2
      have HSafe:Hid (safeZ r=true):=hid (safe_yes HCome.out fun s hs=>by
       rw[← hys] at hs
       obtain⟨y,hy,rfl⟩:=List.mem_map.1 hs
       exact h1 y hy)
      obtain⟨⟨y0,y1,y2⟩,_,_,_⟩:=row3 hvW
      obtain⟨⟨p0,p1,p2⟩,p3,p4,p5⟩:=row3 hfW.wk
      have q0:W.cell? ⟨n0+1+1,0,none⟩=some .nilIface:=row_cells hfW.er 0
      have q1:W.frozen? ⟨n0+1+1,0,none⟩=false:=frz_row hfW.er 0
      have lv:=heap_lt hvW
      have lk:=heap_lt hfW.wk
      have le:n0+1+1 < W.heap.size:=heap_lt hfW.er
      have HG:=hid (GdI.of (v:=.slice ov (walkZ r).1.length cv) hfW (own_below HO9.out h2) (show MapI Tryz.prog W 9 3 M nB (boundZ r) cB from HM9.out.below h2 HM9.out.lt) HnM.out)
      have HMk2:Hid (MksW w6.heap.size [D2,D] W):=hid ⟨by
       refine List.nodup_cons.2 ⟨fun hm=>?_,HMk9.out.nd⟩
       have:=heap_lt (HMk9.out.at_ D2 hm).2
       omega,fun E hE=>by
       rcases List.mem_cons.1 hE with rfl | hE
       ·exact⟨by have:=(HMk9.out.at_ D (List.mem_cons_self ..)).1;have:=heap_lt (HMk9.out.at_ D (List.mem_cons_self ..)).2;omega,hK⟩
       ·exact⟨(HMk9.out.at_ E hE).1,(h2.block _ (heap_lt (HMk9.out.at_ E hE).2)).trans (HMk9.out.at_ E hE).2⟩⟩
      have hinv:((walkZ r).1.any fun x=>inventsZ x.2 x.1)=invZ r:=rfl
      rw[hinv] at y2
      clear h1 h2 hvW hfW hK hinv
      gi_wp2
      rw[← Hdd.out]
      refine leave_marks (B:=w6.heap.size) (S:=GdI r n0 w6.heap.size M nB cB w (.slice ov (walkZ r).1.length cv)) (fun W W' hp h=>h.put hp HnS.out.2.2.2.2.1 HnS.out.2.2.2.1) [D2,D] _ ⟨HMk2.out.nd,fun E hE=>⟨(HMk2.out.at_ E hE).1,(setW_oth (by have:=(HMk2.out.at_ E hE).1;have:=HnS.out;omega) (by have:=(HMk2.out.at_ E hE).1;have:=HnS.out;omega)).trans (HMk2.out.at_ E hE).2⟩⟩ HG.out ?_
      intro W' h
      exact⟨_,results_cell2 rfl _ _ (n0+1) (n0+1+1) _ _ rfl (loadVar_walk h.f.wk) rfl (loadVar_err (row_cells h.f.er 0)),.good Hr.out HSafe.out (order_sl h.o (by have:=HBl.out;omega)) h.m HnS.out.2.2.1 h.f.b⟩
     case stop2=>
      rintro D2 cd pre W hD2 ⟨r1,hr1⟩ ⟨⟨rfl,x,hx,hx2,hfi⟩,hmk⟩ hK
      have HU:Hid (safeZ r=false):=hid (bound_no (s:=x.s) (by rw[← hr1];exact List.mem_append_left _ (List.mem_map.2 ⟨x,hx,rfl⟩)) hx2)
      have HMk2:Hid (MksW w6.heap.size [D2,D] W):=hid ⟨by
       refine List.nodup_cons.2 ⟨fun hm=>?_,HMk9.out.nd⟩
       have:=heap_lt (HMk9.out.at_ D2 hm).2
       omega,fun E hE=>by
       rcases List.mem_cons.1 hE with rfl | hE
       ·exact⟨by have:=(HMk9.out.at_ D (List.mem_cons_self ..)).1;have:=heap_lt (HMk9.out.at_ D (List.mem_cons_self ..)).2;omega,hK⟩
       ·exact hmk.at_ E hE⟩
      have HFi:=hid hfi
      clear hfi hmk hK hx hx2 hr1
      gi_wp2
      rw[← Hdd.out]
      refine leave_marks (B:=w6.heap.size) (S:=FinI n0 w (.slice none 0 0) (.map none) (.bool false) (.iface 136 (.agg #[.string x.s]))) (fun W W' hp h=>h.put hp HnS.out.2.2.2.2.1) [D2,D] _ HMk2.out HFi.out ?_
      intro W' h
      exact⟨_,results_cell2 rfl _ _ (n0+1) (n0+1+1) _ _ rfl (loadVar_walk h.wk) rfl (loadVar_err (row_cells h.er 0)),.bound x.s Hr.out HU.out h.b⟩
end Go.Proofs.YtakpgcmfjlbcgaaGreatDoor
namespace Go.Proofs.YtakpgcmfjlbcgaaGreatDoor
open Lib(hid)
open Go.RowKit Go.Shelf
attribute [local go_sem] Oper.semAt_some
structure EnvZ (t a u:Addr) (w:World):Prop where
 tr:TErr t w
 z:ZEnv w.heap.size a u w
theorem EnvZ.below {t a u:Addr} {w w':World} (h:EnvZ t a u w) (hb:Below w.heap.size w w'):EnvZ t a u w':=⟨h.tr.below hb,(h.z.below hb).more hb.size⟩
theorem ordE_tree {r:Ru} (h:rightR r=false):ordE r=30:=by unfold ordE;rw[if_neg (by rw[h];decide)]
theorem ordE_un {r:Ru} (h:rightR r=true) (h2:safeZ r=false):ordE r=60:=by unfold ordE;rw[if_pos h,if_neg (by rw[h2];decide)]
theorem ordE_ok {r:Ru} (h:rightR r=true) (h2:safeZ r=true):ordE r=0:=by unfold ordE;rw[if_pos h,if_pos h2]
inductive InvR (n0:Nat) (w:World) (r:Ru):Ending→World→Prop
 | bad {w':World}:ordE r≠0→Below n0 w w'→InvR n0 w r (.returned (.tuple #[.bool false,.int .i64 (ordE r)])) w'
 | good {w':World}:ordE r=0→Below n0 w w'→InvR n0 w r (.returned (.tuple #[.bool (invZ r),.int .i64 0])) w'
set_option maxRecDepth 100000 in
set_option maxHeartbeats 8000000 in
theorem invents6_c (r:Ru) (cs:List Value) (t a u:Addr) (w:World) (hc:RuC w w.heap.size r cs) (hf:FewR r) (hp:FewP' (partsZ r)) (E:EnvZ t a u w) :
  Calls Tryz.prog 57 #[.agg cs.toArray] w (InvR w.heap.size w r):=by
 obtain⟨o0,k0,o1,k1,rfl,_⟩:=hc.look
 obtain⟨W1,hW1⟩:∃ W,w.alloc (.cells #[.string r.head.rel,.slice o0 r.head.l.length k0,.slice o1 r.body.length k1,.int .i64 r.line] 47)=W:=⟨_,rfl⟩
 have b1:Below w.heap.size w W1:=by rw[← hW1];exact (Below.refl _ _).alloc (Nat.le_refl _) _
 have HK:=hid (callsIn_wide.1 (walkThrough_in r _ t a u W1.heap.size W1 rfl ((hc.below b1).more b1.size) hf hp (E.below b1).z (E.below b1).tr))
 have HE:=hid (E.below b1)
 have B1:=hid b1
 have HW1:=hid hW1
 clear hc hf hp E b1 hW1
 go_enter Tryz.func57,Tryz.ntmps57
 go_wp2_with fail
 rw[HW1.out]
 refine HK.out.mono ?_
 clear HK
 intro e2 w2 hT
 cases hT with
  | tree h1 h2=>
   have hbA:Below w2.heap.size w2 (w2.alloc (.cells #[.slice none 0 0,.map none,.bool false] 93)):=(Below.refl _ _).alloc (Nat.le_refl _) _
   have HN:=hid (numT_c _ a u _ ((HE.out.below h2).below hbA).z)
   have B2:=hid ((B1.out.trans (h2.mono B1.out.size)).trans (hbA.mono (Nat.le_trans B1.out.size h2.size)))
   have HO:=hid (ordE_tree h1)
   clear hbA
   clear h1 h2
   unfold errV at *
   go_wp2_with fail
   refine HN.out.mono ?_
   rintro e3 w3 ⟨rfl,b3⟩
   have B3:=hid (B2.out.trans (b3.mono B2.out.size))
   clear b3
   go_wp2
   go_ret2
   have hfin:InvR w.heap.size w r (.returned (.tuple #[.bool false,.int .i64 (ordE r)])) w3:=.bad (by rw[HO.out];decide) B3.out
   rw[HO.out] at hfin
   exact hfin
  | ready k h1 h0 h2=>
   have hbA:Below w2.heap.size w2 (w2.alloc (.cells #[.slice none 0 0,.map none,.bool false] 93)):=(Below.refl _ _).alloc (Nat.le_refl _) _
   have HN:=hid (numR_c k _ a u _ ((HE.out.below h2).below hbA).z (Nat.le_refl _))
   have B2:=hid ((B1.out.trans (h2.mono B1.out.size)).trans (hbA.mono (Nat.le_trans B1.out.size h2.size)))
   have HO:=hid (ordE_un h1 h0)
   clear hbA
   clear h1 h2 h0
   go_wp2_with fail
   refine HN.out.mono ?_
   rintro e3 w3 ⟨rfl,b3⟩
   have B3:=hid (B2.out.trans (b3.mono B2.out.size))
   clear b3
   go_wp2
   go_ret2
   have hfin:InvR w.heap.size w r (.returned (.tuple #[.bool false,.int .i64 (ordE r)])) w3:=.bad (by rw[HO.out];decide) B3.out
   rw[HO.out] at hfin
   exact hfin
  | bound s h1 h0 h2=>
   have hbA:Below w2.heap.size w2 (w2.alloc (.cells #[.slice none 0 0,.map none,.bool false] 93)):=(Below.refl _ _).alloc (Nat.le_refl _) _
   have HN:=hid (numB_c s _ a u _ ((HE.out.below h2).below hbA).z (Nat.le_refl _))
   have B2:=hid ((B1.out.trans (h2.mono B1.out.size)).trans (hbA.mono (Nat.le_trans B1.out.size h2.size)))
   have HO:=hid (ordE_un h1 h0)
   clear hbA
   clear h1 h2 h0
   go_wp2_with fail
   refine HN.out.mono ?_
   rintro e3 w3 ⟨rfl,b3⟩
   have B3:=hid (B2.out.trans (b3.mono B2.out.size))
   clear b3
   go_wp2
   go_ret2
   have hfin:InvR w.heap.size w r (.returned (.tuple #[.bool false,.int .i64 (ordE r)])) w3:=.bad (by rw[HO.out];decide) B3.out
   rw[HO.out] at hfin
   exact hfin
  | @good _ v M n c h1 h0 hs hm hM h2=>
   obtain⟨ov,cv,rfl,_,_,_⟩:=SlOf.open hs
   have B2:=hid (B1.out.trans (h2.mono B1.out.size))
   have HO:=hid (ordE_ok h1 h0)
   have HS:=hid hs
   have hb3:Below w2.heap.size w2 (w2.alloc (.cells #[.slice ov (orderZ r).length cv,.map (some M),.bool (invZ r)] 93)):=(Below.refl _ _).alloc (Nat.le_refl _) _
   have HB3:=hid hb3
   clear h1 h2 h0 hs hm hM hb3
   go_wp2
   go_ret2
   exact .good HO.out (B2.out.trans (HB3.out.mono B2.out.size))
end Go.Proofs.YtakpgcmfjlbcgaaGreatDoor
namespace Go.Proofs.YtakpgcmfjlbcgaaGreatDoor
open Lib(hid)
open Go.RowKit
inductive DsC (C:Int→Int→Prop) (rs:List Ru):Int→Int→Prop
 | typ {ln e:Int}:C ln e→e≠0→DsC C rs ln e
 | bad {ln:Int} {k:Nat} {r:Ru}:C ln 0→rs[k]?=some r→(∀ (j:Nat) (r':Ru),j < k→rs[j]?=some r'→ordE r'=0)→ordE r≠0→DsC C rs r.line (ordE r)
 | ok {ln:Int}:C ln 0→(∀ (j:Nat) (r':Ru),rs[j]?=some r'→ordE r'=0)→DsC C rs 0 0
structure EnvC (e a b c d x y:Addr) (w:World):Prop where
 ey:EnvY e a b c d w
 zz:ZEnv w.heap.size x y w
theorem EnvC.below {e a b c d x y:Addr} {w w':World} (h:EnvC e a b c d x y w) (hb:Below w.heap.size w w'):EnvC e a b c d x y w':=⟨h.ey.below hb,(h.zz.below hb).more hb.size⟩
theorem EnvC.ez {e a b c d x y:Addr} {w:World} (h:EnvC e a b c d x y w):EnvZ e x y w:=⟨h.ey.tr,h.zz⟩
def BadV (a u:Addr) (q:Int) (v:Value):Prop:=(∃ t x,v=.iface t x)∧∀ W,ZEnv W.heap.size a u W→Calls Tryz.prog 51 #[v] W fun e W'=>e=.returned (.int .i64 q)∧Below W.heap.size W W'
theorem wkR_two {n0:Nat} {w:World} {a u:Addr} {r:Ru} {e:Ending} {w':World} (h:WkR n0 w a r e w'):Below n0 w w' ∧
  ((ordE r≠0∧∃ v,e=.returned (.tuple #[.agg #[.slice none 0 0,.map none,.bool false],v])∧BadV a u (ordE r) v)∨(ordE r=0∧∃ o n c M,e=.returned (.tuple #[.agg #[.slice o n c,.map (some M),.bool (invZ r)],.nilIface]))):=by
 cases h with
 | tree h1 h2=>exact⟨h2,.inl ⟨by rw[ordE_tree h1];decide,_,rfl,⟨_,_,rfl⟩,fun W E=>by rw[ordE_tree h1];exact numT_c _ a u W E⟩⟩
 | ready k h1 h0 h2=>exact⟨h2,.inl ⟨by rw[ordE_un h1 h0];decide,_,rfl,⟨_,_,rfl⟩,fun W E=>by rw[ordE_un h1 h0];exact numR_c k _ a u W E (Nat.le_refl _)⟩⟩
 | bound s h1 h0 h2=>exact⟨h2,.inl ⟨by rw[ordE_un h1 h0];decide,_,rfl,⟨_,_,rfl⟩,fun W E=>by rw[ordE_un h1 h0];exact numB_c s _ a u W E (Nat.le_refl _)⟩⟩
 | good h1 h0 hs hm hM h2=>
  obtain⟨o,c,rfl,_⟩:=SlOf.open hs
  exact⟨h2,.inr ⟨ordE_ok h1 h0,_,_,_,_,rfl⟩⟩
set_option maxRecDepth 100000 in
set_option maxHeartbeats 16000000 in
theorem check6_c (p:Pg) (cs:List Value) (e a b c d x y:Addr) (w:World) (hp:PgC w w.heap.size p cs) (hf:FewP p) (hz:∀ r ∈ p.rules,FewR r∧FewP' (partsZ r)) (E:EnvC e a b c d x y w) :
  Calls Tryz.prog 32 #[.agg cs.toArray] w fun e w'=>∃ ln k,e=.returned (.tuple #[.int .i64 ln,.int .i64 k])∧DsC (ChA p) p.rules ln k∧Below w.heap.size w w':=by
 have HP:=hid hp
 obtain⟨p1,q1,r1,s1,rfl,H1,H2⟩:=hp.look
 obtain⟨o2,k2,e2,hc2,hm2,S2⟩:=SlOf.open H2
 cases e2
 have hb0:∀ C:Obj,Below w.heap.size w (w.alloc C):=fun C=>(Below.refl _ _).alloc (Nat.le_refl _) _
 have HB0:=hid hb0
 have HCk:=hid (fun C:Obj=>check_c p _ e a b c d (w.alloc C) ((hp.below (hb0 C)).more (hb0 C).size) hf (E.below (hb0 C)).ey)
 have HE:=hid E
 have HF:=hid hz
 clear H1 H2 hp E hb0 hf hz
 go_enter Tryz.func32,Tryz.ntmps32
 go_wp2_with fail
 refine (HCk.out _).mono ?_
 rintro e1 w1 ⟨ln1,k1,rfl,hA1,b1⟩
 have R1:=hid ((b1.block w.heap.size (by simp)).trans (World.alloc_heap_new w _))
 have B1:=hid ((HB0.out _).trans (b1.mono (by simp)))
 have HA1:=hid hA1
 clear b1 HCk hA1
 obtain⟨x0,x1⟩:w1.cell? ⟨w.heap.size,0,none⟩=some (.slice p1 p.decls.length q1)∧w1.cell? ⟨w.heap.size,1,none⟩=some (.slice r1 p.rules.length s1):=⟨row_cells R1.out 0,row_cells R1.out 1⟩
 have hz1:w.heap.size < w1.heap.size:=heap_lt R1.out
 by_cases hk0:k1=0
 case neg=>
  have hne:(k1 != 0)=true:=by simpa using hk0
  have Hk0:=hid hk0
  clear hk0
  go_wp2
  go_ret2
  exact⟨_,_,rfl,.typ HA1.out Hk0.out,B1.out⟩
 subst hk0
 go_wp2
 go_loopw [22] (fun i wr=>∃ k:Nat,k≤p.rules.length∧i=.int .i64 k∧(∀ (j:Nat) (r':Ru),j < k→p.rules[j]?=some r'→ordE r'=0)∧Below w1.heap.size w1 wr) (fun i _=>p.rules.length - (intOf i).toNat)
 case atStart=>exact⟨0,Nat.zero_le _,rfl,fun j r' h=>absurd h (Nat.not_lt_zero _),Below.refl _ _⟩
 case round=>
  obtain⟨k,hk,rfl,hg,hB⟩:=hrel
  have HBw:=hid (B1.out.trans (hB.mono B1.out.size))
  have HB:=hid hB
  have Hg:=hid hg
  clear hg
  by_cases hlt:k < p.rules.length
  ·have hlt':(k:Int) < (p.rules.length:Int):=by omega
   have hk0:(0:Int)≤(k:Int):=by omega
   obtain⟨xe,ht⟩:∃ xe,p.rules[k]?=some xe:=⟨p.rules[k],List.getElem?_eq_getElem hlt⟩
   obtain⟨ad,a3,b3,a4,b4,rfl,ha,Hc,c0,c1,c2,c3⟩:=ru_at S2 HBw.out ht
   have hal:(ad.add (k * 4)).block < wr.heap.size:=by rw[addBlock];have:=HBw.out.size;omega
   have Ht:=hid ht
   obtain⟨hfr,hfp⟩:=HF.out xe (List.mem_of_getElem? ht)
   obtain⟨W3,hW3⟩:∃ W,wr.alloc (.cells #[.string xe.head.rel,.slice a3 xe.head.l.length b3,.slice a4 xe.body.length b4,.int .i64 xe.line] 47)=W:=⟨_,rfl⟩
   have b3':Below wr.heap.size wr W3:=by rw[← hW3];exact (Below.refl _ _).alloc (Nat.le_refl _) _
   have r3:W3.heap[wr.heap.size]?=some (.cells #[.string xe.head.rel,.slice a3 xe.head.l.length b3,.slice a4 xe.body.length b4,.int .i64 xe.line] 47 (0,0)):=by rw[← hW3];exact World.alloc_heap_new wr _
   obtain⟨qr,hqr⟩:∃ q,wr.heap.size=q:=⟨_,rfl⟩
   have B3:=hid (HBw.out.trans (b3'.mono HBw.out.size))
   have HK:=hid (callsIn_wide.1 (walkThrough_in xe _ e x y W3.heap.size W3 rfl ((Hc.out.below b3').more b3'.size) hfr hfp (HE.out.below B3.out).zz (HE.out.below B3.out).ey.tr))
   have B13:=hid (HB.out.trans (b3'.mono HB.out.size))
   have R3:=hid r3
   have HW3:=hid hW3
   clear ht hfr hfp b3' hW3
   rw[hqr] at R3 r3
   obtain⟨y0,y1,y2,y3⟩:=row4 r3
   have hl3:=heap_lt r3
   clear r3
   go_wp2_with fail
   try rw[HW3.out]
   try rw[hqr]
   refine HK.out.mono ?_
   intro e4 w4 hT
   obtain⟨b4',hT⟩:=wkR_two (u:=y) hT
   have B4:=hid (B3.out.trans (b4'.mono B3.out.size))
   have B14:=hid (B13.out.trans (b4'.mono B13.out.size))
   have R4:=hid ((b4'.block _ hl3).trans R3.out)
   clear b4' HK y0 y1 y2 y3
   obtain⟨y0,y1,y2,y3⟩:=row4 R4.out
   have hl4:=heap_lt R4.out
   rcases hT with ⟨h0,v,rfl,⟨tv,xv,rfl⟩,hN⟩ | ⟨h0,o,n,cc,M,rfl⟩
   ·have HN:=hid (fun (W:World) (hb:Below w.heap.size w W)=>hN W (HE.out.below hb).zz)
    have H0:=hid h0
    obtain⟨qe,hqe⟩:∃ q,ordE xe=q:=⟨_,rfl⟩
    have Hqe:=hid hqe
    rw[hqe] at HN
    clear h0 hN hqe
    go_wp2_with fail
    obtain⟨W5,hW5⟩:∃ W,w4.alloc (.cells #[.slice none 0 0,.map none,.bool false] 93)=W:=⟨_,rfl⟩
    have b5:Below w4.heap.size w4 W5:=by rw[← hW5];exact (Below.refl _ _).alloc (Nat.le_refl _) _
    have B5:=hid (B4.out.trans (b5.mono B4.out.size))
    have B15:=hid (B14.out.trans (b5.mono B14.out.size))
    have R5:=hid ((b5.block _ hl4).trans R4.out)
    try rw[hW5]
    clear b5 hW5 y0 y1 y2 y3
    obtain⟨y0,y1,y2,y3⟩:=row4 R5.out
    have hl5:=heap_lt R5.out
    have hS0:W5.drew.cell? ⟨qr,3,none⟩=some (.int .i64 xe.line)∧Below w.heap.size w W5.drew:=⟨y3,below_drewN B5.out⟩
    have HKp:Hid (∀ W:World,Below W5.drew.heap.size W5.drew W→W.cell? ⟨qr,3,none⟩=some (.int .i64 xe.line)∧Below w.heap.size w W):=hid fun W hW=>⟨(hW.cell (p:=⟨qr,3,none⟩) hl5).trans y3,(below_drewN B5.out).trans (hW.mono B5.out.size)⟩
    have HN5:=hid (HN.out W5.drew (below_drewN B5.out))
    go_region_held3 (fun W=>W.cell? ⟨qr,3,none⟩=some (.int .i64 xe.line)∧Below w.heap.size w W) (first | exact hk1 | exact hS0)
     ((go_at_call 51;refine HN5.out.mono ?_;rintro e6 w6 ⟨rfl,b6⟩;have hk1:=HKp.out _ b6))
    obtain⟨z3,hbz⟩:=hk1
    have HBz:=hid hbz
    clear hbz
    go_wp2
    go_ret2
    refine⟨_,_,rfl,?_,HBz.out⟩
    rw[← Hqe.out]
    exact .bad HA1.out Ht.out Hg.out H0.out
   ·have H0:=hid h0
    clear h0
    have Hg2:Hid (∀ (j:Nat) (r':Ru),j < k+1→p.rules[j]?=some r'→ordE r'=0):=hid fun j r' hj hr'=>by
     rcases Nat.lt_or_ge j k with h | h
     ·exact Hg.out j r' h hr'
     ·obtain rfl:j=k:=by omega
      rw[Ht.out] at hr'
      cases hr'
      exact H0.out
    have B6:Hid (∀ X,Below w1.heap.size w1 (w4.alloc X)):=hid fun X=>B14.out.trans (((Below.refl _ _).alloc (Nat.le_refl _) X).mono B14.out.size)
    go_wp2
    go_roundw
    case rel=>exact⟨k+1,hlt,by go_num,Hg2.out,B6.out _⟩
    case measure=>simp[intOf];omega
  ·have hlt':¬ (k:Int) < (p.rules.length:Int):=by omega
   have Hall:Hid (∀ (j:Nat) (r':Ru),p.rules[j]?=some r'→ordE r'=0):=hid fun j r' hr=>Hg.out j r' (by have:=(List.getElem?_eq_some_iff.1 hr).1;omega) hr
   go_wp2
   go_ret2
   exact⟨_,_,rfl,.ok HA1.out Hall.out,HBw.out⟩
end Go.Proofs.YtakpgcmfjlbcgaaGreatDoor
namespace Go.Proofs.YtakpgcmfjlbcgaaGreatDoor
open Lib(hid)
def StratG (E:Ed) (ds:List De) (r:Ru):Prop:=∃ x ∈ atomsG ds r.body,x.1≠1∧Mut E (headG ds r) x.2
def RecG (E:Ed) (ds:List De) (r:Ru):Prop:=∃ x ∈ atomsG ds r.body,x.1=1∧Mut E (headG ds r) x.2
open Classical in
noncomputable def recB' (E:Ed) (ds:List De) (r:Ru):Bool:=decide (RecG E ds r)
theorem recG_iff {E:Ed} {ds:List De} {r:Ru}:recB' E ds r=true ↔ RecG E ds r:=by unfold recB';exact @decide_eq_true_iff _ (Classical.propDecidable _)
open Classical in
noncomputable def layE (E:Ed) (ds:List De) (r:Ru):Int:=if StratG E ds r then 70 else if RecG E ds r∧invZ r=true then 71 else 0
theorem layE_strat {E:Ed} {ds:List De} {r:Ru} (h:StratG E ds r):layE E ds r=70:=by unfold layE;rw[if_pos h]
theorem layE_inv {E:Ed} {ds:List De} {r:Ru} (h:¬ StratG E ds r) (h1:RecG E ds r) (h2:invZ r=true):layE E ds r=71:=by unfold layE;rw[if_neg h,if_pos ⟨h1,h2⟩]
theorem layE_plain {E:Ed} {ds:List De} {r:Ru} (h:¬ StratG E ds r) (h1:¬ RecG E ds r):layE E ds r=0:=by unfold layE;rw[if_neg h,if_neg fun h=>h1 h.1]
theorem layE_calm {E:Ed} {ds:List De} {r:Ru} (h:¬ StratG E ds r) (h2:invZ r=false):layE E ds r=0:=by unfold layE;rw[if_neg h,if_neg fun h=>by rw[h2] at h;cases h.2]
inductive GrA (C:Int→Int→Prop) (p:Pg):List (List Nat)→Int→Int→Prop
 | chk {ln e:Int}:DsC C p.rules ln e→e≠0→GrA C p [] ln e
 | lay {ln:Int} {k:Nat} {r:Ru}:DsC C p.rules ln 0→p.rules[k]?=some r→(∀ (j:Nat) (r':Ru),j < k→p.rules[j]?=some r'→layE (edgesG p) p.decls r'=0)→layE (edgesG p) p.decls r≠0→GrA C p [] r.line (layE (edgesG p) p.decls r)
 | ok {ln:Int} {L:List (List Nat)}:DsC C p.rules ln 0→(∀ (j:Nat) (r':Ru),p.rules[j]?=some r'→layE (edgesG p) p.decls r'=0)→GrpR (edgesG p) p.decls.length [] L→GrA C p L 0 0
structure Fine (p:Pg):Prop where
 right:rightP p=true
 twice:NoTw p.decls p.decls.length
 ty:∀ r ∈ p.rules,∃ l,TyA p.decls r l 0
 safe:∀ r ∈ p.rules,ordE r=0
theorem fine_of {p:Pg} {ln:Int} (h:DsC (ChA p) p.rules ln 0):Fine p:=by
 generalize hz:(0:Int)=z at h
 cases h with
 | typ _ h=>exact absurd hz.symm h
 | bad _ _ _ h=>exact absurd hz.symm h
 | ok h1 h2=>
  generalize hz:(0:Int)=z at h1
  cases h1 with
  | tree=>exact absurd hz (by decide)
  | twice=>exact absurd hz (by decide)
  | rule _ _ _ _ _ h=>exact absurd hz.symm h
  | ok k1 k2 k3=>
   exact⟨k1,k2,k3,fun r hr=>by
    obtain⟨j,hj⟩:=List.mem_iff_getElem?.1 hr
    exact h2 j r hj⟩
theorem tyA_head {ds:List De} {r:Ru} {l:List Int} (h:TyA ds r l 0):∃ k,findY r.head.rel ds=some k:=by
 have key:chkA ds (atomsR r)=0:=by
  generalize hz:(0:Int)=z at h
  cases h with
  | tree=>exact absurd hz (by decide)
  | atom _ h1=>
   unfold atE at hz
   split at hz
   ·assumption
   ·exact absurd hz (by decide)
   ·exact absurd hz (by decide)
  | none=>exact absurd hz (by decide)
  | some _ h1=>exact h1
 unfold atomsR chkA at key
 split at key
 ·rename_i hb
  unfold badA at hb
  cases hf:findY r.head.rel ds with
  | none=>rw[hf] at hb;simp at hb
  | some k=>exact⟨k,rfl⟩
 ·rename_i hb;exact absurd key hb
theorem Fine.head {p:Pg} (h:Fine p) {r:Ru} (hr:r ∈ p.rules):findY r.head.rel p.decls=some (headG p.decls r)∧headG p.decls r < p.decls.length:=by
 obtain⟨l,hl⟩:=h.ty r hr
 obtain⟨k,hk⟩:=tyA_head hl
 have e:headG p.decls r=k:=by unfold headG;rw[hk];rfl
 rw[e]
 exact⟨hk,findY_lt hk⟩
end Go.Proofs.YtakpgcmfjlbcgaaGreatDoor
