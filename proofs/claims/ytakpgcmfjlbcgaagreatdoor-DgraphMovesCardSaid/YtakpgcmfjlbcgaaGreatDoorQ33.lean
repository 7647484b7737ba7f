/- Zy5@0123, Zy6@0123 -/
import Derived.Test.YtakpgcmfjlbcgaaGreatDoorQ31
set_option linter.unusedSimpArgs false
set_option linter.unusedVariables false
namespace Go.Proofs.YtakpgcmfjlbcgaaGreatDoor
open Go.RowKit
def KeepS (B:Nat) (w w':World):Prop:=∀ p c,w.cell? p=some c→p.block < B→(∃ (q:Addr) (s:ByteArray),q.block=p.block∧w.cell? q=some (.string s))→w'.cell? p=some c
theorem TmC.cellsS {w w':World} {B:Nat} {t:Tm} {cs:List Value} (h:TmC w B t cs) (hk:KeepS B w w'):TmC w' B t cs:=by
 induction h with
 | nil op s n h1 h2 h3=>exact .nil op s n h1 h2 h3
 | row op s n l a cap cs h1 h2 h3 h4 h5 h6 h7 h8 ih=>
  refine .row op s n l a cap cs h1 h2 h3 h4 h5 h6 ih fun i x hx=>⟨(h8 i x hx).1,fun j c hc=>?_⟩
  have hne:l≠[]:=fun e=>by rw[e] at hx;simp at hx
  obtain⟨v,e,_⟩:=(h7 i x hx).parts
  exact hk _ _ ((h8 i x hx).2 j c hc) (by rw[addBlock];exact h6 hne) ⟨a.add (i * 4+1),x.s,by rw[addBlock,addBlock],(h8 i x hx).2 1 _ (by rw[e];rfl)⟩
theorem SlOf.cellsS {α:Type} {w w':World} {B z:Nat} {R R':α→List Value→Prop} {l:List α} {v:Value} (h:SlOf w B z R l v) (hk:KeepS B w w') (hs:∀ x cs,R x cs→∃ (j:Nat) (s:ByteArray),cs[j]?=some (.string s)) (hR:∀ x ∈ l,∀ cs,R x cs→R' x cs):SlOf w' B z R' l v:=by
 rcases h with h | ⟨a,cap,h1,h2,h3,h4,h5⟩
 ·exact .inl h
 ·refine .inr ⟨a,cap,h1,h2,h3,h4,fun i x hx=>?_⟩
  obtain⟨cs,c1,c2,c3⟩:=h5 i x hx
  have hne:l≠[]:=fun e=>by rw[e] at hx;simp at hx
  obtain⟨k,s,hk0⟩:=hs x cs c2
  exact⟨cs,c1,hR x (List.mem_of_getElem? hx) cs c2,fun j c hj=>hk _ _ (c3 j c hj) (by rw[addBlock];exact h4 hne) ⟨a.add (i * z+k),s,by rw[addBlock,addBlock],c3 k _ hk0⟩⟩
theorem LtC.cellsS {w w':World} {B:Nat} {t:Lt} {cs:List Value} (h:LtC w B t cs) (hk:KeepS B w w'):LtC w' B t cs:=by
 obtain⟨ca,cx,cy,h1,h2,⟨v,g1,g2,g3⟩,h4,h5⟩:=h
 exact⟨ca,cx,cy,h1,h2,⟨v,g1,g2,g3.cellsS hk (fun x cs hx=>by obtain⟨v,e,_⟩:=hx.parts;exact⟨1,_,by rw[e];rfl⟩) fun _ _ _ h=>h.cellsS hk⟩,h4.cellsS hk,h5.cellsS hk⟩
theorem PtC.cellsS {w w':World} {B:Nat} {t:Pt} {cs:List Value} (h:PtC w B t cs) (hk:KeepS B w w'):PtC w' B t cs:=by
 obtain⟨cl,vx,vy,va,vr,vo,h0,h1,h2,h3,h4,h5,h6⟩:=h
 have st:∀ {l:List ByteArray} {v:Value},SlOf w B 1 StrC l v→SlOf w' B 1 StrC l v:=fun h=>h.cellsS hk (fun x cs hx=>⟨0,x,by rw[hx.1];rfl⟩) fun _ _ _ h=>h
 exact⟨cl,vx,vy,va,vr,vo,h0,h1.cellsS hk,st h2,st h3,st h4,st h5,st h6⟩
structure KeepW (S nb:Nat) (W W':World):Prop where
 os:W'.os=W.os
 tape:W'.tape=W.tape
 output:W'.output=W.output
 size:W.heap.size≤W'.heap.size
 k:∀ (b:Nat) (o:Obj),W.heap[b]?=some o→b≠nb→(b < S∨∀ cs fr,o≠.cells cs 3 fr)→W'.heap[b]?=some o
theorem KeepW.refl (S nb:Nat) (W:World):KeepW S nb W W:=⟨rfl,rfl,rfl,Nat.le_refl _,fun _ _ h _ _=>h⟩
theorem KeepW.trans {S nb:Nat} {a b c:World} (h:KeepW S nb a b) (k:KeepW S nb b c):KeepW S nb a c:=⟨k.os.trans h.os,k.tape.trans h.tape,k.output.trans h.output,Nat.le_trans h.size k.size,fun i o hi hn ho=>k.k i o (h.k i o hi hn ho) hn ho⟩
theorem KeepW.below {S nb:Nat} {W W':World} (h:Below W.heap.size W W'):KeepW S nb W W':=⟨h.os,h.tape,h.output,h.size,fun b _ hb _ _=>(h.block b (heap_lt hb)).trans hb⟩
theorem KeepW.box {S nb:Nat} {W W':World} (h:W.grownBy W' (some nb)):KeepW S nb W W':=⟨h.os,h.tape,h.output,h.size,fun b _ hb hn _=>(h.block b (heap_lt hb) (fun e=>hn (Option.some.inj e))).trans hb⟩
theorem KeepW.row {S nb base n:Nat} {v:Value} {xs:List Value} {W W':World} (ho:W.ownsRow base 3 1 v n xs) (hS:S≤base) (h:W.grownBy W' v.ownBlock):KeepW S nb W W':=⟨h.os,h.tape,h.output,h.size,fun b o hb _ hk=>(h.block b (heap_lt hb) (fun e=>by
 rcases ho.2 with ⟨rfl,_⟩ | ⟨g,cap,cur,rfl,hg,hr,_⟩
 ·cases e
 ·obtain rfl:b=g:=by simpa[Value.ownBlock] using e
  rw[hr] at hb
  cases hb
  rcases hk with hk | hk
  ·omega
  ·exact hk _ _ rfl)).trans hb⟩
theorem KeepW.set {S nb:Nat} {W:World} {i:Nat} {u:Value}:KeepW S nb W (W.setCell ⟨nb,i,none⟩ u):=.box (grown_set nb i u)
theorem cell_obj {w:World} {p:Addr} {c:Value} (h:w.cell? p=some c):∃ (cs:Array Value) (T:TypeId) (fr:Nat × Nat),w.heap[p.block]?=some (.cells cs T fr)∧cs[p.off]?=some c:=by
 unfold World.cell? at h
 split at h
 ·rename_i cs T fr e
  split at h
  ·cases h
  ·exact⟨cs,T,fr,e,h⟩
 ·cases h
theorem KeepW.s {S nb:Nat} {W W':World} (h:KeepW S nb W W') {cs:Array Value} {T:TypeId} {fr:Nat × Nat} (hb:W.heap[nb]?=some (.cells cs T fr)) (hn:∀ c ∈ cs.toList,∀ s,c≠.string s):KeepS S W W':=by
 intro p c hc hp ⟨q,s,hq,hs⟩
 have hne:p.block≠nb:=fun e=>by
  obtain⟨cs',T',fr',h1,h2⟩:=cell_obj hs
  rw[hq,e,hb] at h1
  cases h1
  exact hn _ (by rw[Array.mem_toList_iff];exact Array.mem_of_getElem? h2) s rfl
 obtain⟨cs',T',fr',h1,h2⟩:=cell_obj hc
 exact (World.cell?_of_block ((h.k _ _ h1 hne (.inl hp)).trans h1.symm)).trans hc
theorem LeftOk.keepW {S nb:Nat} {W W':World} {v:Value} {l:List Pt} (h:LeftOk S W v l) (hk:KeepW S nb W W') {cs:Array Value} {T:TypeId} {fr:Nat × Nat} (hb:W.heap[nb]?=some (.cells cs T fr)) (hT:T≠126) (hn:∀ c ∈ cs.toList,∀ s,c≠.string s):LeftOk S W' v l:=by
 obtain⟨hS,xs,h1,h2⟩:=h
 refine⟨Nat.le_trans hS hk.size,xs,⟨h1.1,h1.2.imp id fun ⟨g,cap,cur,e1,e2,e3,e4⟩=>⟨g,cap,cur,e1,e2,hk.k _ _ e3 (fun e=>by subst e;rw[hb] at e3;cases e3;exact hT rfl) (.inr fun cs fr e=>by cases e),e4⟩⟩,h2.mono fun x cs hx=>hx.cellsS ?_⟩
 intro p c hc hp ⟨q,s,hq,hs⟩
 obtain⟨k1,k2⟩:=hidO_cell hc
 exact cell_hidO (hk.s hb hn p c k2 hp ⟨q,s,hq,(hidO_cell hs).2⟩) k1
theorem SG.keepW {S Bp Bb M:Nat} {v0:Value} {l0:List Pt} {x:SX} {nb:Nat} {W W':World} (h:SG S Bp Bb M v0 l0 x W) (hk:KeepW S nb W W') {cs:Array Value} (hb:W.heap[nb]?=some (.cells cs 93 (0,0))) (hn:∀ c ∈ cs.toList,∀ s,c≠.string s):SG S Bp Bb M v0 l0 x W':=by
 have hc:∀ {b:Nat} {cs':Array Value} {T:TypeId},T≠3→T≠93→W.heap[b]?=some (.cells cs' T (0,0))→W'.heap[b]?=some (.cells cs' T (0,0)):=fun {b cs' T} h1 h2 h3=>
  hk.k _ _ h3 (fun e=>by subst e;rw[hb] at h3;cases h3;exact h2 rfl) (.inr fun cs fr e=>by cases e;exact h1 rfl)
 refine⟨⟨hc (by decide) (by decide) h.bx.p,hc (by decide) (by decide) h.bx.b⟩,?_,h.left.keepW hk hb (by decide) hn,h.sub,h.few,fun i p hi=>?_⟩
 ·obtain⟨n,c,h1,D,⟨es,clock,h2,h3⟩,h4⟩:=h.m
  exact⟨n,c,h1,D,⟨es,clock,hk.k _ _ h2 (fun e=>by subst e;rw[hb] at h2;cases h2) (.inr fun cs fr e=>by cases e),h3⟩,h4⟩
 ·obtain⟨h1,h2,h3⟩:=h.box i p hi
  exact⟨hc (by decide) (by decide) h1,h2.cellsS (hk.s hb hn),h3⟩
theorem steps_in (n:Nat) (o:Option Addr) (k c M:Nat) (w:World) :
  CallsIn Fence.wide n Tryz.prog 69 #[.slice o k c,.map (some M)] w fun e w'=>e=.returned (.func (.func 95) #[] #[.pointer (some ⟨w.heap.size,0,none⟩),.pointer (some ⟨w.heap.size+1,0,none⟩)])∧w'=(w.alloc (.cells #[.slice o k c] 123)).alloc (.cells #[.map (some M)] 91):=by
 refine callsIn_of_wp Tryz.func69 rfl trivial ?_ rfl
 simp only[Tryz.ntmps69,List.size_toArray,List.length_cons,List.length_nil,Nat.reduceAdd,Nat.reduceSub,Array.replicate_succ,Array.replicate_zero,List.push_toArray,List.append_toArray,List.nil_append,List.cons_append]
 gi_wp2
 go_ret
 exact⟨rfl,rfl⟩
structure WkI (nb M base:Nat) (l:List (Pt × Bd)) (W:World):Prop where
 row:∃ v,W.heap[nb]?=some (.cells #[v,.map (some M),.bool (l.any fun x=>inventsZ x.2 x.1)] 93 (0,0))∧W.ownsRow base 3 1 v l.length (l.map fun x=>.int .i64 (x.1.place:Int))
theorem WkI.step {nb M base:Nat} {l:List (Pt × Bd)} {W W':World} (h:WkI nb M base l W) (hk:∀ (b:Nat) (cs:Array Value) (T:TypeId),W.heap[b]?=some (.cells cs T (0,0))→T=3∨T=93→W'.heap[b]?=some (.cells cs T (0,0))):WkI nb M base l W':=by
 obtain⟨v,h1,h2⟩:=h.row
 exact⟨v,hk _ _ _ h1 (.inr rfl),h2.1,h2.2.imp id fun ⟨g,cap,cur,e1,e2,e3,e4⟩=>⟨g,cap,cur,e1,e2,hk _ _ _ e3 (.inl rfl),e4⟩⟩
theorem WkI.below {nb M base:Nat} {l:List (Pt × Bd)} {W W':World} (h:WkI nb M base l W) (hb:Below W.heap.size W W'):WkI nb M base l W':=
 h.step fun _ _ _ hc _=>(hb.block _ (heap_lt hc)).trans hc
theorem WkI.put {nb M base B:Nat} {l:List (Pt × Bd)} {W W':World} (h:WkI nb M base l W) (hp:Put B W W'):WkI nb M base l W':=
 h.step fun _ _ _ hc _=>put_block hp hc (.inl rfl)
theorem fr_block {S M n c:Nat} {xv:Value} {W W':World} {s:Bd} {ls:List Pt} (hf:Fr M xv W W') (hm:MapI Tryz.prog W 9 3 M n s c) (hl:LeftOk S W xv ls) {b:Nat} {cs:Array Value} {T:TypeId} (hc:W.heap[b]?=some (.cells cs T (0,0))) (hT:T≠126):W'.heap[b]?=some (.cells cs T (0,0)):=by
 obtain⟨_,xs,h1,_⟩:=hl
 exact (hf.block b (heap_lt hc) (mapI_obj hm hc) (row_obj h1 hc hT)).trans hc
theorem WkI.fr {S nb M base n c:Nat} {l:List (Pt × Bd)} {xv:Value} {W W':World} {s:Bd} {ls:List Pt} (h:WkI nb M base l W) (hf:Fr M xv W W') (hm:MapI Tryz.prog W 9 3 M n s c) (hl:LeftOk S W xv ls):WkI nb M base l W':=
 h.step fun _ _ _ hc hT=>fr_block hf hm hl hc (by rcases hT with rfl | rfl <;> decide)
structure FxI (n0:Nat) (w:World) (rc:List Value) (W:World):Prop where
 b:Below n0 w W
 rule:W.heap[n0]?=some (.cells rc.toArray 47 (0,0))
 wk:W.heap[n0+1]?=some (.cells #[.slice none 0 0,.map none,.bool false] 93 (0,0))
 er:W.heap[n0+2]?=some (.cells #[.nilIface] 95 (0,0))
theorem FxI.below {n0:Nat} {w W W':World} {rc:List Value} (h:FxI n0 w rc W) (hb:Below W.heap.size W W'):FxI n0 w rc W':=
 ⟨h.b.trans (hb.mono (by have:=heap_lt h.rule;omega)),(hb.block _ (heap_lt h.rule)).trans h.rule,(hb.block _ (heap_lt h.wk)).trans h.wk,(hb.block _ (heap_lt h.er)).trans h.er⟩
theorem FxI.put {n0 B:Nat} {w W W':World} {rc:List Value} (h:FxI n0 w rc W) (hp:Put B W W') (hB:n0≤B):FxI n0 w rc W':=
 ⟨put_bel hp h.b hB,put_block hp h.rule (.inl rfl),put_block hp h.wk (.inl rfl),put_block hp h.er (.inl rfl)⟩
theorem FxI.fr {S n0 M n c:Nat} {w W W':World} {rc:List Value} {xv:Value} {s:Bd} {ls:List Pt} (h:FxI n0 w rc W) (hf:Fr M xv W W') (hm:MapI Tryz.prog W 9 3 M n s c) (hl:LeftOk S W xv ls) (hM:n0≤M) (ho:∀ g,xv.ownBlock=some g→n0≤g):FxI n0 w rc W':=by
 refine⟨⟨hf.os.trans h.b.os,hf.tape.trans h.b.tape,hf.output.trans h.b.output,Nat.le_trans h.b.size hf.size,fun i hi=>?_⟩,fr_block hf hm hl h.rule (by decide),fr_block hf hm hl h.wk (by decide),fr_block hf hm hl h.er (by decide)⟩
 have hl0:=heap_lt h.rule
 exact (hf.block i (by omega) (by omega) (fun e=>by have:=ho _ e;omega)).trans (h.b.block i hi)
theorem FxI.grown {n0:Nat} {w W W':World} {rc:List Value} {k:Option Nat} (h:FxI n0 w rc W) (hg:W.grownBy W' k) (hk:∀ i,k=some i→n0+3≤i):FxI n0 w rc W':=by
 have hl0:=heap_lt h.er
 have e:∀ i,i < n0+3→W'.heap[i]?=W.heap[i]?:=fun i hi=>hg.block i (by omega) (fun e=>by have:=hk i e.symm;omega)
 exact⟨⟨hg.os.trans h.b.os,hg.tape.trans h.b.tape,hg.output.trans h.b.output,Nat.le_trans h.b.size hg.size,fun i hi=>(e i (by omega)).trans (h.b.block i hi)⟩,(e _ (by omega)).trans h.rule,(e _ (by omega)).trans h.wk,(e _ (by omega)).trans h.er⟩
theorem row3 {W:World} {b:Nat} {T:TypeId} {c0 c1 c2:Value} (h:W.heap[b]?=some (.cells #[c0,c1,c2] T (0,0))) :
  (W.cell? ⟨b,0,none⟩=some c0∧W.cell? ⟨b,1,none⟩=some c1∧W.cell? ⟨b,2,none⟩=some c2)∧W.frozen? ⟨b,0,none⟩=false∧W.frozen? ⟨b,1,none⟩=false∧W.frozen? ⟨b,2,none⟩=false:=
 ⟨⟨row_cells h 0,row_cells h 1,row_cells h 2⟩,frz_row h 0,frz_row h 1,frz_row h 2⟩
theorem set_oth {W:World} {b k:Nat} {i:Nat} {v:Value} (hne:k≠b):(W.setCell ⟨b,i,none⟩ v).heap[k]?=W.heap[k]?:=Below.heap_setCell W ⟨b,i,none⟩ v k hne
theorem setW {w W:World} {n b b2:Nat} {T1 T2:TypeId} {z0 z1 z2 z3:Value} (c0 c1 c2 c3:Value) (hb:Below n w W) (h1:n≤b) (h2:n≤b2) (h:W.heap[b]?=some (.cells #[z0,z1,z2] T1 (0,0))) (k:W.heap[b2]?=some (.cells #[z3] T2 (0,0))) (hne:b≠b2) :
  ((((W.setCell ⟨b,0,none⟩ c0).setCell ⟨b,1,none⟩ c1).setCell ⟨b,2,none⟩ c2).setCell ⟨b2,0,none⟩ c3).heap[b]?=some (.cells #[c0,c1,c2] T1 (0,0)) ∧
  ((((W.setCell ⟨b,0,none⟩ c0).setCell ⟨b,1,none⟩ c1).setCell ⟨b,2,none⟩ c2).setCell ⟨b2,0,none⟩ c3).heap[b2]?=some (.cells #[c3] T2 (0,0)) ∧
  Below n w ((((W.setCell ⟨b,0,none⟩ c0).setCell ⟨b,1,none⟩ c1).setCell ⟨b,2,none⟩ c2).setCell ⟨b2,0,none⟩ c3):=by
 have e1:=rowSet (rowSet (rowSet h 0 c0) 1 c1) 2 c2
 have e2:(((W.setCell ⟨b,0,none⟩ c0).setCell ⟨b,1,none⟩ c1).setCell ⟨b,2,none⟩ c2).heap[b2]?=some (.cells #[z3] T2 (0,0)):=(set_oth (Ne.symm hne)).trans ((set_oth (Ne.symm hne)).trans ((set_oth (Ne.symm hne)).trans k))
 exact⟨(set_oth hne).trans (by simpa using e1),by simpa using rowSet e2 0 c3,(((hb.setCell (p:=⟨b,0,none⟩) h1 _).setCell (p:=⟨b,1,none⟩) h1 _).setCell (p:=⟨b,2,none⟩) h1 _).setCell (p:=⟨b2,0,none⟩) h2 _⟩
theorem walk_over {r:Ru} {l:List (Pt × Bd)} {t:ZS} (h:seqZ l.length (zs0 r)=(l,t)) (hn:nextZ t=none) (hl:l.length≤r.body.length):walkZ r=(l,t):=by
 obtain⟨j,hj⟩:=Nat.exists_eq_add_of_le hl
 unfold walkZ
 rw[hj]
 exact seqZ_stop _ j _ _ _ h (goZ_none hn)
theorem seq_done:∀ (k:Nat) (s t:ZS) (l:List (Pt × Bd)),seqZ k s=(l,t)→t.done=s.done+l.length
 | 0,s,t,l,h=>by cases h;rfl
 | k+1,s,t,l,h=>by
  rw[seqZ] at h
  cases hs:goZ s with
  | none=>rw[hs] at h;cases h;rfl
  | some q=>
   obtain⟨q,v⟩:=q
   rw[hs] at h
   simp only at h
   cases h
   have h1:=seq_done k v _ _ rfl
   have h2:v.done=s.done+1:=by
    unfold goZ at hs
    cases hn:nextZ s with
    | none=>rw[hn] at hs;cases hs
    | some i=>
     rw[hn] at hs
     simp only[Option.bind_some] at hs
     cases hp:s.left[i]? with
     | none=>rw[hp] at hs;cases hs
     | some p=>rw[hp] at hs;cases hs;rfl
   rw[List.length_cons]
   omega
end Go.Proofs.YtakpgcmfjlbcgaaGreatDoor
