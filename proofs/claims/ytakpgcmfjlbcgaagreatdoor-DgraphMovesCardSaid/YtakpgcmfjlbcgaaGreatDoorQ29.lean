/- Zt@0123 -/
import Derived.Test.YtakpgcmfjlbcgaaGreatDoorQ28
set_option linter.unusedSimpArgs false
set_option linter.unusedVariables false
namespace Go.Proofs.YtakpgcmfjlbcgaaGreatDoor
open Lib(hid)
open Go.RowKit
theorem info_pt:(Tryz.prog.info? 126).map (fun i=>(i.zero,i.size,i.bytes))=some (some (.agg #[.int .i64 0,.int .i64 0,.string ⟨#[]⟩,.slice none 0 0,.int .i64 0,.string ⟨#[]⟩,.int .i64 0,.slice none 0 0,.int .i64 0,.string ⟨#[]⟩,.int .i64 0,.slice none 0 0,.slice none 0 0,.slice none 0 0,.slice none 0 0,.slice none 0 0,.slice none 0 0]),17,288):=by kernel_rfl
theorem info_pt2:∃ i z,Tryz.prog.info? 126=some i∧i.zero=some z∧i.size=17∧i.bytes=288∧z.cells.size=17:=by
 obtain⟨i0,hi,hz0,hz1,hz2⟩:=info_parts info_pt
 refine⟨i0,_,hi,hz0,hz1,hz2,?_⟩
 simp[Value.cells]
theorem ptSize:(Tryz.prog.info? 126).map (·.size)=some 17:=by kernel_rfl
theorem load_pt {w:World} {b:Nat} {c0 c1 c2 c3 c4 c5 c6 c7 c8 c9 c10 c11 c12 c13 c14 c15 c16:Value} (h:w.heap[b]?=some (.cells #[c0,c1,c2,c3,c4,c5,c6,c7,c8,c9,c10,c11,c12,c13,c14,c15,c16] 126 (0,0))) :
  (loadVar 126 ⟨b,0,none⟩).run Tryz.prog w=.ok (.agg #[c0,c1,c2,c3,c4,c5,c6,c7,c8,c9,c10,c11,c12,c13,c14,c15,c16]) w:=
 run_loadVar_row w b 126 126 _ (0,0) _ h Tryz.underlying126 rfl ptSize
theorem loadAt_pt {w:World} {b:Nat} {c0 c1 c2 c3 c4 c5 c6 c7 c8 c9 c10 c11 c12 c13 c14 c15 c16:Value} (h:w.heap[b]?=some (.cells #[c0,c1,c2,c3,c4,c5,c6,c7,c8,c9,c10,c11,c12,c13,c14,c15,c16] 126 (0,0))) :
  (Instr.loadAt 126 (.pointer (some ⟨b,0,none⟩))).run Tryz.prog w=.ok (.agg #[c0,c1,c2,c3,c4,c5,c6,c7,c8,c9,c10,c11,c12,c13,c14,c15,c16]) w:=by
 have h1:=load_pt h
 unfold Instr.loadAt
 rw[Sem.run_bind]
 have h2:(Instr.sureAddr (.pointer (some ⟨b,0,none⟩))).run Tryz.prog w=Result.ok ⟨b,0,none⟩ w:=by simp[Instr.sureAddr,go_sem]
 rw[h2,Result.andThen_ok,h1]
theorem wpList_load_pt {ops:Array Oper} {rest:List Oper} {o:Oper} {a:Act} {Q:Exit→Act→World→Prop} {w:World} (hg:o.guard=none) (x:Operand) (ho:o.op=Op.load 126 x) (b:Nat) (hx:a.eval x=.pointer (some ⟨b,0,none⟩)) {c0 c1 c2 c3 c4 c5 c6 c7 c8 c9 c10 c11 c12 c13 c14 c15 c16:Value} (h:w.heap[b]?=some (.cells #[c0,c1,c2,c3,c4,c5,c6,c7,c8,c9,c10,c11,c12,c13,c14,c15,c16] 126 (0,0)))
  (hK:wpList Tryz.prog ops Q rest (a.put o.dst (.agg #[c0,c1,c2,c3,c4,c5,c6,c7,c8,c9,c10,c11,c12,c13,c14,c15,c16])) w):wpList Tryz.prog ops Q (o::rest) a w:=by
 refine wpList_plain hg fun K hk=>?_
 have h1:=loadAt_pt h
 unfold Oper.wp
 simp only[execOp,ho,hx,h1,Sem.run_bind,Sem.run_pure,Result.andThen_ok,Result.andThen]
 exact hk _ _ hK
theorem occ_sub {a b:List Tm} (h:a.Sublist b):(occ (subTs a)).Sublist (occ (subTs b)):=by
 induction h with
 | slnil=>exact List.Sublist.refl _
 | cons x h ih=>
  rw[subTs,occ_app]
  exact ih.trans (List.sublist_append_right _ _)
 | cons_cons x h ih=>
  rw[subTs,subTs,occ_app,occ_app]
  exact List.Sublist.append (List.Sublist.refl _) ih
theorem FewT.sub {a b:List Tm} (h:FewT b) (hs:a.Sublist b):FewT a:=
 ⟨fun s hs'=>h.s s ((occ_sub hs).subset hs'),Nat.le_trans (occ_sub hs).length_le h.n⟩
theorem few_lit {r:Ru} (h:FewR r) {l:Lt} (hl:l ∈ r.body):FewT [l.x]∧FewT [l.y]∧FewT l.a.l∧FewT (l.a.l.filter rckT):=by
 have key:∀ p ∈ placesL [l],FewT p:=fun p hp=>h.p p (by
  obtain⟨a,b,e⟩:=List.append_of_mem hl
  unfold placesZ
  rw[e,show a++l::b=a++([l]++b) from rfl,placesL_app,placesL_app]
  exact List.mem_cons_of_mem _ (List.mem_append_right _ (List.mem_append_left _ hp)))
 have hA:FewT [l.x]∧FewT [l.y]∧FewT l.a.l:=by
  by_cases ha:aggO l.op=true
  ·have h1:=key [l.x] (by unfold placesL;rw[if_pos ha];simp)
   have h2:=key (l.y::l.a.l) (by unfold placesL;rw[if_pos ha];simp)
   exact⟨h1,h2.sub (List.Sublist.cons_cons _ (List.nil_sublist _)),h2.sub (List.sublist_cons_self _ _)⟩
  ·have h2:=key ((l.y::l.a.l)++[l.x]) (by unfold placesL;rw[if_neg ha];simp)
   exact⟨h2.sub (List.sublist_append_right _ _),h2.sub ((List.Sublist.cons_cons _ (List.nil_sublist _)).trans (List.sublist_append_left _ _)),h2.sub ((List.sublist_cons_self _ _).trans (List.sublist_append_left _ _))⟩
 exact⟨hA.1,hA.2.1,hA.2.2,hA.2.2.sub List.filter_sublist⟩
abbrev OwnF (nB:Nat) (l:List ByteArray) (v:Value) (W:World):Prop:=W.ownsRow nB 9 1 v l.length (l.map Value.string)
theorem drewZ {B:Nat} {w w':World} (h:Below B w.drew w'):Below B w w':=((Below.refl B w).drew).trans h
theorem tm_row1 {W:World} {B:Nat} {t:Tm} {c0 c1 c2 c3:Value} {T:TypeId} (h:W.heap[B]?=some (.cells #[c0,c1,c2,c3] T (0,0))) (hc:TmC W W.heap.size t [c0,c1,c2,c3]):TmS W W.heap.size [t] (.slice (some ⟨B,0,none⟩) 1 1):=
 sl_cells (l:=[t]) (R:=TmC W W.heap.size) [[c0,c1,c2,c3]] h rfl (fun cs h=>by rw[List.mem_singleton.1 h];rfl) (fun i x cs hx hc'=>by
  match i,hx,hc' with
  | 0,hx,hc'=>cases hx;cases hc';exact hc) (by show 1≤maxLen;decide)
def partFacts (k:Nat) (t:Lt) (bl nB:Nat) (lc xc yc:List Value) (av:Value):List (Value→World→Prop):=
 [fun v _=>v=.int .i64 (k:Int),fun v _=>v=.agg lc.toArray,fun v _=>v=.pointer (some ⟨bl,3,none⟩),fun v _=>v=.agg xc.toArray,
  fun v W=>∃ b,v=.slice (some ⟨b,0,none⟩) 1 1∧W.heap[b]?=some (.cells xc.toArray 51 (0,0)),fun v W=>OwnF nB (vz [t.x]) v W,
  fun v _=>v=.pointer (some ⟨bl,7,none⟩),fun v _=>v=.agg yc.toArray,fun v W=>∃ b,v=.slice (some ⟨b,0,none⟩) 1 1∧W.heap[b]?=some (.cells yc.toArray 51 (0,0)),fun v W=>OwnF nB (vz [t.y]) v W,
  fun v _=>v=.pointer (some ⟨bl,1,none⟩),fun v _=>v=.pointer (some ⟨bl,2,none⟩),fun v _=>v=av,fun v W=>OwnF nB (vz t.a.l) v W,
  fun v W=>∃ v1 v2 v3,v=.agg (.int .i64 (k:Int)::(lc++[v1,v2,v3,.slice none 0 0,.slice none 0 0])).toArray∧OwnF nB (vz [t.x]) v1 W∧OwnF nB (vz [t.y]) v2 W∧OwnF nB (vz t.a.l) v3 W,
  fun v W=>∃ b,v=.pointer (some ⟨b,0,none⟩)∧nB≤b∧W.heap[b]?=some (.cells #[.int .i64 0,.int .i64 0,.string ⟨#[]⟩,.slice none 0 0,.int .i64 0,.string ⟨#[]⟩,.int .i64 0,.slice none 0 0,.int .i64 0,.string ⟨#[]⟩,.int .i64 0,.slice none 0 0,.slice none 0 0,.slice none 0 0,.slice none 0 0,.slice none 0 0,.slice none 0 0] 126 (0,0))]
theorem partFacts_mono (k:Nat) (t:Lt) (bl nB:Nat) (lc xc yc:List Value) (av:Value):∀ p ∈ partFacts k t bl nB lc xc yc av,∀ v w w',p v w→Below w.heap.size w w'→p v w':=by
 intro p hp v w w' h hb
 have row:∀ {b:Nat} {o:Obj},w.heap[b]?=some o→w'.heap[b]?=some o:=fun hr=>(hb.block _ (heap_lt hr)).trans hr
 unfold partFacts at hp
 simp only[List.mem_cons,List.not_mem_nil,or_false] at hp
 rcases hp with rfl | rfl | rfl | rfl | rfl | rfl | rfl | rfl | rfl | rfl | rfl | rfl | rfl | rfl | rfl | rfl
 ·exact h
 ·exact h
 ·exact h
 ·exact h
 ·obtain⟨b,h1,h2⟩:=h;exact⟨b,h1,row h2⟩
 ·exact own_below h hb
 ·exact h
 ·exact h
 ·obtain⟨b,h1,h2⟩:=h;exact⟨b,h1,row h2⟩
 ·exact own_below h hb
 ·exact h
 ·exact h
 ·exact h
 ·exact own_below h hb
 ·obtain⟨v1,v2,v3,h1,h2,h3,h4⟩:=h;exact⟨v1,v2,v3,h1,own_below h2 hb,own_below h3 hb,own_below h4 hb⟩
 ·obtain⟨b,h1,h2,h3⟩:=h;exact⟨b,h1,h2,row h3⟩
theorem frz_row {w:World} {b:Nat} {cs:Array Value} {T:TypeId} (h:w.heap[b]?=some (.cells cs T (0,0))) (i:Nat):w.frozen? ⟨b,i,none⟩=false:=by
 unfold World.frozen?
 rw[h]
 simp
theorem own_ne {w:World} {base n z b:Nat} {e T:TypeId} {v:Value} {xs:List Value} {cs:Array Value} (h:w.ownsRow base e z v n xs) (hb:w.heap[b]?=some (.cells cs T (0,0))) (hT:T≠e):v.ownBlock≠some b:=by
 intro hv
 rcases h.2 with ⟨rfl,_⟩ | ⟨g,cap,cur,rfl,_,hg,_⟩
 ·cases hv
 ·obtain rfl:g=b:=by simpa[Value.ownBlock] using hv
  rw[hg] at hb
  cases hb
  exact hT rfl
theorem grown_set {w:World} (b k:Nat) (u:Value):w.grownBy (w.setCell ⟨b,k,none⟩ u) (some b):=
 ⟨rfl,rfl,rfl,by simp[World.setCell],fun i _ hr=>Below.heap_setCell w ⟨b,k,none⟩ u i (fun e=>hr (by rw[e]))⟩
theorem set17 {w:World} {b:Nat} {T:TypeId} {z0 z1 z2 z3 z4 z5 z6 z7 z8 z9 z10 z11 z12 z13 z14 z15 z16 c0 c1 c2 c3 c4 c5 c6 c7 c8 c9 c10 c11 c12 c13 c14 c15 c16:Value} (h:w.heap[b]?=some (.cells #[z0,z1,z2,z3,z4,z5,z6,z7,z8,z9,z10,z11,z12,z13,z14,z15,z16] T (0,0))) :
  (((((((((((((((((w.setCell ⟨b,0,none⟩ c0).setCell ⟨b,1,none⟩ c1).setCell ⟨b,2,none⟩ c2).setCell ⟨b,3,none⟩ c3).setCell ⟨b,4,none⟩ c4).setCell ⟨b,5,none⟩ c5).setCell ⟨b,6,none⟩ c6).setCell ⟨b,7,none⟩ c7).setCell ⟨b,8,none⟩ c8).setCell ⟨b,9,none⟩ c9).setCell ⟨b,10,none⟩ c10).setCell ⟨b,11,none⟩ c11).setCell ⟨b,12,none⟩ c12).setCell ⟨b,13,none⟩ c13).setCell ⟨b,14,none⟩ c14).setCell ⟨b,15,none⟩ c15).setCell ⟨b,16,none⟩ c16).heap[b]?=some (.cells #[c0,c1,c2,c3,c4,c5,c6,c7,c8,c9,c10,c11,c12,c13,c14,c15,c16] T (0,0))∧w.grownBy (((((((((((((((((w.setCell ⟨b,0,none⟩ c0).setCell ⟨b,1,none⟩ c1).setCell ⟨b,2,none⟩ c2).setCell ⟨b,3,none⟩ c3).setCell ⟨b,4,none⟩ c4).setCell ⟨b,5,none⟩ c5).setCell ⟨b,6,none⟩ c6).setCell ⟨b,7,none⟩ c7).setCell ⟨b,8,none⟩ c8).setCell ⟨b,9,none⟩ c9).setCell ⟨b,10,none⟩ c10).setCell ⟨b,11,none⟩ c11).setCell ⟨b,12,none⟩ c12).setCell ⟨b,13,none⟩ c13).setCell ⟨b,14,none⟩ c14).setCell ⟨b,15,none⟩ c15).setCell ⟨b,16,none⟩ c16) (some b):=by
 refine⟨by simpa using (rowSet (rowSet (rowSet (rowSet (rowSet (rowSet (rowSet (rowSet (rowSet (rowSet (rowSet (rowSet (rowSet (rowSet (rowSet (rowSet (rowSet h 0 c0) 1 c1) 2 c2) 3 c3) 4 c4) 5 c5) 6 c6) 7 c7) 8 c8) 9 c9) 10 c10) 11 c11) 12 c12) 13 c13) 14 c14) 15 c15) 16 c16),?_⟩
 exact (grown_set b 0 c0).trans ((grown_set b 1 c1).trans ((grown_set b 2 c2).trans ((grown_set b 3 c3).trans ((grown_set b 4 c4).trans ((grown_set b 5 c5).trans ((grown_set b 6 c6).trans ((grown_set b 7 c7).trans ((grown_set b 8 c8).trans ((grown_set b 9 c9).trans ((grown_set b 10 c10).trans ((grown_set b 11 c11).trans ((grown_set b 12 c12).trans ((grown_set b 13 c13).trans ((grown_set b 14 c14).trans ((grown_set b 15 c15).trans ((grown_set b 16 c16)))))))))))))))))
theorem hta_len {r:Ru} (h:FewR r) {l:Lt} (hl:l ∈ r.body):l.a.l.length≤1000000:=h.b.2 l hl
theorem hid_below {v:Value} {W W':World} (h:Below W.heap.size W W'):∀ p c,(hidO v W).cell? p=some c→(hidO v W').cell? p=some c:=fun p c hc=>by
 obtain⟨h1,h2⟩:=hidO_cell hc
 exact cell_hidO ((World.cell?_of_block (h.block _ (World.block_lt_of_cell? _ _ h2))).trans h2) h1
theorem hid_step {v v':Value} {W W':World} (h:W.grownBy W' v.ownBlock) (hb:v'.ownBlock=v.ownBlock∨v'.ownBlock=some W.heap.size):∀ p c,(hidO v W).cell? p=some c→(hidO v' W').cell? p=some c:=fun p c hc=>by
 obtain⟨h1,h2⟩:=hidO_cell hc
 have hlt:=World.block_lt_of_cell? _ _ h2
 refine cell_hidO ((World.cell?_of_block (h.block _ hlt (fun e=>h1 e.symm))).trans h2) ?_
 rcases hb with hb | hb <;> rw[hb]
 ·exact h1
 ·intro e;have:=Option.some.inj e;omega
theorem outF_eq (r:Ru) (l:List Tm):outerZ r l=outF (fun s=>(standZ r s:Int)) l:=by
 unfold outerZ outF
 refine List.filter_congr fun s _=>?_
 show decide (1 < standZ r s.data.toList)=decide (1 < (standZ r s.data.toList:Int))
 exact decide_eq_decide.2 (by omega)
set_option maxRecDepth 100000 in
set_option maxHeartbeats 16000000 in
theorem partsOf_c (r:Ru) (cs:List Value) (w:World) (hc:RuC w w.heap.size r cs) (hf:FewR r) :
  Calls Tryz.prog 70 #[.agg cs.toArray] w fun e w'=>∃ v xs,e=.returned v∧w'.ownsRow w.heap.size 126 17 v (partsZ r).length xs∧Laid 17 (PtC (hidO v w') w'.heap.size) (partsZ r) xs∧Below w.heap.size w w':=by
 obtain⟨o0,k0,o1,k1,rfl,_,hh,hbd⟩:=hc.look
 obtain⟨o2,k2,e2,hc2,hm2,S2⟩:=SlOf.open hbd
 cases e2
 obtain⟨i0,zP,hi,hz0,hz1,hz2,hzc⟩:=info_pt2
 have HSt:=hid (fun x:Obj=>standings_c r _ (w.alloc x) ((hc.below ((Below.refl _ _).alloc (Nat.le_refl _) x)).more (by simp)) hf)
 have HB0:=hid (fun x:Obj=>(Below.refl w.heap.size w).alloc (Nat.le_refl _) x)
 have HF:=hid hf
 have R0:=hid (World.alloc_heap_new w (.cells #[.string r.head.rel,.slice o0 r.head.l.length k0,.slice o1 r.body.length k1,.int .i64 r.line] 47))
 clear hc hh hbd hf
 go_enter Tryz.func70,Tryz.ntmps70
 go_wp2_with fail
 refine (HSt.out _).mono ?_
 rintro e1 w1 ⟨M,nM,cM,rfl,hMb,hM,b1⟩
 have R1:=hid ((b1.block w.heap.size (by simp)).trans R0.out)
 have B1:=hid ((HB0.out _).trans (b1.mono (by simp)))
 have hz1':=B1.out.size
 obtain⟨x0,x1,x2,x3⟩:=row4 R1.out
 have hlt1:=heap_lt R1.out
 have HM:=hid hM
 clear b1 hM HSt
 go_wp2_with fail
 go_loopw [4,13] (fun lv i wr=>∃ (k:Nat) (acc:List Pt) (xs:List Value),k≤r.body.length∧i=.int .i64 k∧(r.body.take k).mapIdx (ptZ r)=acc∧wr.ownsRow w1.heap.size 126 17 lv acc.length xs∧Laid 17 (PtC (hidO lv wr) wr.heap.size) acc xs∧Below w1.heap.size w1 wr) (fun _ i _=>r.body.length - (intOf i).toNat)
 case atStart=>exact⟨0,[],[],Nat.zero_le _,rfl,rfl,World.ownsRow_nil _ _ _ _,Laid.nil,Below.refl _ _⟩
 case round=>
  obtain⟨k,acc,xs,hk,rfl,hacc,hO,hL,hB⟩:=hrel
  have Hacl:Hid (acc.length=k):=hid (by rw[← hacc,List.length_mapIdx,List.length_take];omega)
  have Hacc:=hid hacc
  have HO:=hid hO
  have HL:=hid hL
  have HB:=hid hB
  have hsz:=hB.size
  have Hbw:Hid (Below w.heap.size w wr):=hid (B1.out.trans (hB.mono hz1'))
  obtain⟨ov,cv,rfl⟩:=own_shape hO
  clear hacc hO hL hB
  by_cases hlt:k < r.body.length
  ·have hlt':(k:Int) < (r.body.length:Int):=by omega
   have hk0:(0:Int)≤(k:Int):=by omega
   obtain⟨t,ht⟩:∃ t,r.body[k]?=some t:=⟨r.body[k],List.getElem?_eq_getElem hlt⟩
   obtain⟨a,p0,q0,p1,q1,p2,q2,rfl,ha,Hc,hcells⟩:=lt_at0 S2 Hbw.out ht
   obtain⟨z0,z1,z2,z3,z4,z5,ze,_,hta,htx,hty⟩:=Hc.out.look
   cases ze
   have hta':TmS w w.heap.size t.a.l (.slice p0 t.a.l.length q0):=by obtain⟨v,e,_,h⟩:=hta;cases e;exact h
   obtain⟨c0,c1,c2,c3,c4,c5,c6,c7,c8,c9,c10⟩:=hcells.n11
   have hal:(a.add (k * 11)).block < wr.heap.size:=by rw[addBlock];have:=Hbw.out.size;omega
   have Hst:=hid (parts_take ht)
   have Hfl:=hid (few_lit HF.out (List.mem_of_getElem? ht))
   have Hta:=hid hta'
   have Hmem:=hid (List.mem_of_getElem? ht)
   have Htx:=hid htx
   have Hty:=hid hty
   obtain⟨V,hV⟩:∃ V,wr.alloc (.cells #[.int .i64 t.op,.string t.a.rel,.slice p0 t.a.l.length q0,.int .i64 t.x.op,.string t.x.s,.int .i64 t.x.n,.slice p1 t.x.l.length q1,.int .i64 t.y.op,.string t.y.s,.int .i64 t.y.n,.slice p2 t.y.l.length q2] 53)=V:=⟨_,rfl⟩
   have hVb:Below wr.heap.size wr V:=by rw[← hV];exact (Below.refl _ _).alloc (Nat.le_refl _) _
   have hVs:V.heap.size=wr.heap.size+1:=by rw[← hV];simp
   have RV:Hid (V.heap[wr.heap.size]?=some (.cells #[.int .i64 t.op,.string t.a.rel,.slice p0 t.a.l.length q0,.int .i64 t.x.op,.string t.x.s,.int .i64 t.x.n,.slice p1 t.x.l.length q1,.int .i64 t.y.op,.string t.y.s,.int .i64 t.y.n,.slice p2 t.y.l.length q2] 53 (0,0))):=hid (by rw[← hV];exact World.alloc_heap_new wr _)
   have HVb:=hid hVb
   clear ht hta hta' htx hty hcells hVb
   go_wp2_with fail
   have HVs:=hid hVs
   refine wp_region_any (by kernel_rfl) ?_
   (try (change wpAny _ _ _ _ _ _ _ (World.drew _)))
   refine wpAny_last 16 [14,14,3,4,5,14,7,8,9,14,11,12,13,14,16,16] [some 18,some 19,some 20,some 21,some 22,some 23,some 24,some 25,some 26,some 27,some 28,some 29,some 30,some 31,some 32,some 7,none] _ _ (partFacts k t wr.heap.size V.heap.size [.int .i64 t.op,.string t.a.rel,.slice p0 t.a.l.length q0,.int .i64 t.x.op,.string t.x.s,.int .i64 t.x.n,.slice p1 t.x.l.length q1,.int .i64 t.y.op,.string t.y.s,.int .i64 t.y.n,.slice p2 t.y.l.length q2] [.int .i64 t.x.op,.string t.x.s,.int .i64 t.x.n,.slice p1 t.x.l.length q1] [.int .i64 t.y.op,.string t.y.s,.int .i64 t.y.n,.slice p2 t.y.l.length q2] (.slice p0 t.a.l.length q0)) (by kernel_rfl) (by kernel_rfl) (by kernel_rfl) (by kernel_rfl)
    (fun val W=>∃ b v1 v2 v3,val 15=.pointer (some ⟨b,0,none⟩)∧V.heap.size≤b∧W.heap[b]?=some (.cells #[.int .i64 k,.int .i64 t.op,.string t.a.rel,.slice p0 t.a.l.length q0,.int .i64 t.x.op,.string t.x.s,.int .i64 t.x.n,.slice p1 t.x.l.length q1,.int .i64 t.y.op,.string t.y.s,.int .i64 t.y.n,.slice p2 t.y.l.length q2,v1,v2,v3,.slice none 0 0,.slice none 0 0] 126 (0,0))∧OwnF V.heap.size (vz [t.x]) v1 W∧OwnF V.heap.size (vz [t.y]) v2 W∧OwnF V.heap.size (vz t.a.l) v3 W∧Below V.heap.size V W)
    (by kernel_rfl) (by kernel_rfl) (by kernel_rfl) (partFacts_mono _ _ _ _ _ _ _ _) ⟨?s0,?s1,?s2,?s3,?s4,?s5,?s6,?s7,?s8,?s9,?s10,?s11,?s12,?s13,?s14,?s15,trivial⟩ ?last ?fin
   case s0=>
    intro A w' K hb hfar hd hK
    have e5:A.tmps[5]?.getD undef=.int .i64 (k:Int):=hfar 5 (by decide)
    unfold Oper.wp
    simp[execOp,e5,go_sem,Result.andThen]
    exact hK _ _ (Below.refl _ _) (factG_mk rfl rfl)
   case s1=>
    intro A w' K hb hfar hd hK
    have e6:A.tmps[6]?.getD undef=.pointer (some ⟨wr.heap.size,0,none⟩):=hfar 6 (by decide)
    have q:=(hb.block _ (by have:=HVs.out;simp;omega)).trans RV.out
    obtain⟨d0,d1,d2,d3,d4,d5,d6,d7,d8,d9,d10⟩:=row11 q
    unfold Oper.wp
    simp[execOp,e6,d0,d1,d2,d3,d4,d5,d6,d7,d8,d9,d10,go_sem,Result.andThen]
    exact hK _ _ (Below.refl _ _) (factG_mk rfl rfl)
   case s2=>
    intro A w' K hb hfar hd hK
    have e6:A.tmps[6]?.getD undef=.pointer (some ⟨wr.heap.size,0,none⟩):=hfar 6 (by decide)
    unfold Oper.wp
    simp[execOp,e6,go_sem,Result.andThen]
    exact hK _ _ (Below.refl _ _) (factG_mk rfl rfl)
   case s3=>
    intro A w' K hb hfar hd hK
    have e1:A.tmps[20]?.getD undef=.pointer (some ⟨wr.heap.size,3,none⟩):=hd 2 20 rfl (by kernel_rfl) _ rfl
    have q:=(hb.block _ (by have:=HVs.out;simp;omega)).trans RV.out
    obtain⟨d0,d1,d2,d3,d4,d5,d6,d7,d8,d9,d10⟩:=row11 q
    unfold Oper.wp
    simp[execOp,e1,d3,d4,d5,d6,go_sem,Result.andThen]
    exact hK _ _ (Below.refl _ _) (factG_mk rfl rfl)
   case s4=>
    intro A w' K hb hfar hd hK
    have e1:A.tmps[21]?.getD undef=.agg #[.int .i64 t.x.op,.string t.x.s,.int .i64 t.x.n,.slice p1 t.x.l.length q1]:=hd 3 21 rfl (by kernel_rfl) _ rfl
    unfold Oper.wp
    simp[execOp,e1,go_sem,Result.andThen]
    exact hK _ _ ((Below.refl _ _).alloc (Nat.le_refl _) _) (factG_mk rfl ⟨_,rfl,World.alloc_heap_new w' _⟩)
   case s5=>
    intro A w' K hb hfar hd hK
    obtain⟨b,e1,hr⟩:∃ b,A.tmps[22]?.getD undef=.slice (some ⟨b,0,none⟩) 1 1∧w'.heap[b]?=some (.cells #[.int .i64 t.x.op,.string t.x.s,.int .i64 t.x.n,.slice p1 t.x.l.length q1] 51 (0,0)):=hd 4 22 rfl (by kernel_rfl) _ rfl
    have hbw:Below w.heap.size w w':=Hbw.out.trans ((HVb.out.trans ((drewZ hb).mono (by have:=HVs.out;show wr.heap.size≤V.heap.size;omega))).mono Hbw.out.size)
    have hT:=vzO_c [t.x] _ w' (tm_row1 hr ((Htx.out.under hbw).more hbw.size)) Hfl.out.1
    unfold Oper.wp
    simp[execOp,e1,go_sem,Result.andThen]
    refine hT.mono ?_
    rintro e3 w3 ⟨v,rfl,h1,b3⟩
    exact hK _ _ b3 (factG_mk rfl (own_base h1 hb.size))
   case s6=>
    intro A w' K hb hfar hd hK
    have e6:A.tmps[6]?.getD undef=.pointer (some ⟨wr.heap.size,0,none⟩):=hfar 6 (by decide)
    unfold Oper.wp
    simp[execOp,e6,go_sem,Result.andThen]
    exact hK _ _ (Below.refl _ _) (factG_mk rfl rfl)
   case s7=>
    intro A w' K hb hfar hd hK
    have e1:A.tmps[24]?.getD undef=.pointer (some ⟨wr.heap.size,7,none⟩):=hd 6 24 rfl (by kernel_rfl) _ rfl
    have q:=(hb.block _ (by have:=HVs.out;simp;omega)).trans RV.out
    obtain⟨d0,d1,d2,d3,d4,d5,d6,d7,d8,d9,d10⟩:=row11 q
    unfold Oper.wp
    simp[execOp,e1,d7,d8,d9,d10,go_sem,Result.andThen]
    exact hK _ _ (Below.refl _ _) (factG_mk rfl rfl)
   case s8=>
    intro A w' K hb hfar hd hK
    have e1:A.tmps[25]?.getD undef=.agg #[.int .i64 t.y.op,.string t.y.s,.int .i64 t.y.n,.slice p2 t.y.l.length q2]:=hd 7 25 rfl (by kernel_rfl) _ rfl
    unfold Oper.wp
    simp[execOp,e1,go_sem,Result.andThen]
    exact hK _ _ ((Below.refl _ _).alloc (Nat.le_refl _) _) (factG_mk rfl ⟨_,rfl,World.alloc_heap_new w' _⟩)
   case s9=>
    intro A w' K hb hfar hd hK
    obtain⟨b,e1,hr⟩:∃ b,A.tmps[26]?.getD undef=.slice (some ⟨b,0,none⟩) 1 1∧w'.heap[b]?=some (.cells #[.int .i64 t.y.op,.string t.y.s,.int .i64 t.y.n,.slice p2 t.y.l.length q2] 51 (0,0)):=hd 8 26 rfl (by kernel_rfl) _ rfl
    have hbw:Below w.heap.size w w':=Hbw.out.trans ((HVb.out.trans ((drewZ hb).mono (by have:=HVs.out;show wr.heap.size≤V.heap.size;omega))).mono Hbw.out.size)
    have hT:=vzO_c [t.y] _ w' (tm_row1 hr ((Hty.out.under hbw).more hbw.size)) Hfl.out.2.1
    unfold Oper.wp
    simp[execOp,e1,go_sem,Result.andThen]
    refine hT.mono ?_
    rintro e3 w3 ⟨v,rfl,h1,b3⟩
    exact hK _ _ b3 (factG_mk rfl (own_base h1 hb.size))
   case s10=>
    intro A w' K hb hfar hd hK
    have e6:A.tmps[6]?.getD undef=.pointer (some ⟨wr.heap.size,0,none⟩):=hfar 6 (by decide)
    unfold Oper.wp
    simp[execOp,e6,go_sem,Result.andThen]
    exact hK _ _ (Below.refl _ _) (factG_mk rfl rfl)
   case s11=>
    intro A w' K hb hfar hd hK
    have e1:A.tmps[28]?.getD undef=.pointer (some ⟨wr.heap.size,1,none⟩):=hd 10 28 rfl (by kernel_rfl) _ rfl
    unfold Oper.wp
    simp[execOp,e1,go_sem,Result.andThen]
    exact hK _ _ (Below.refl _ _) (factG_mk rfl rfl)
   case s12=>
    intro A w' K hb hfar hd hK
    have e1:A.tmps[29]?.getD undef=.pointer (some ⟨wr.heap.size,2,none⟩):=hd 11 29 rfl (by kernel_rfl) _ rfl
    have q:=(hb.block _ (by have:=HVs.out;simp;omega)).trans RV.out
    obtain⟨d0,d1,d2,d3,d4,d5,d6,d7,d8,d9,d10⟩:=row11 q
    unfold Oper.wp
    simp[execOp,e1,d2,go_sem,Result.andThen]
    exact hK _ _ (Below.refl _ _) (factG_mk rfl rfl)
   case s13=>
    intro A w' K hb hfar hd hK
    have e1:A.tmps[30]?.getD undef=.slice p0 t.a.l.length q0:=hd 12 30 rfl (by kernel_rfl) _ rfl
    have hbw:Below w.heap.size w w':=Hbw.out.trans ((HVb.out.trans ((drewZ hb).mono (by have:=HVs.out;show wr.heap.size≤V.heap.size;omega))).mono Hbw.out.size)
    have hT:=vzO_c t.a.l _ w' ((Hta.out.below hbw).more hbw.size) Hfl.out.2.2.1
    unfold Oper.wp
    simp[execOp,e1,go_sem,Result.andThen]
    refine hT.mono ?_
    rintro e3 w3 ⟨v,rfl,h1,b3⟩
    exact hK _ _ b3 (factG_mk rfl (own_base h1 hb.size))
   case s14=>
    intro A w' K hb hfar hd hK
    have e1:A.tmps[18]?.getD undef=.int .i64 (k:Int):=hd 0 18 rfl (by kernel_rfl) _ rfl
    have e2:A.tmps[19]?.getD undef=.agg #[.int .i64 t.op,.string t.a.rel,.slice p0 t.a.l.length q0,.int .i64 t.x.op,.string t.x.s,.int .i64 t.x.n,.slice p1 t.x.l.length q1,.int .i64 t.y.op,.string t.y.s,.int .i64 t.y.n,.slice p2 t.y.l.length q2]:=hd 1 19 rfl (by kernel_rfl) _ rfl
    have f3:OwnF V.heap.size (vz [t.x]) (A.tmps[23]?.getD undef) w':=hd 5 23 rfl (by kernel_rfl) _ rfl
    have f4:OwnF V.heap.size (vz [t.y]) (A.tmps[27]?.getD undef) w':=hd 9 27 rfl (by kernel_rfl) _ rfl
    have f5:OwnF V.heap.size (vz t.a.l) (A.tmps[31]?.getD undef) w':=hd 13 31 rfl (by kernel_rfl) _ rfl
    obtain⟨a3,b3,e3⟩:=own_shape f3
    obtain⟨a4,b4,e4⟩:=own_shape f4
    obtain⟨a5,b5,e5⟩:=own_shape f5
    rw[e3] at f3
    rw[e4] at f4
    rw[e5] at f5
    have F3:=hid f3
    have F4:=hid f4
    have F5:=hid f5
    clear f3 f4 f5
    unfold Oper.wp
    simp[execOp,e1,e2,e3,e4,e5,go_sem,Result.andThen]
    exact hK _ _ (Below.refl _ _) (factG_mk rfl ⟨_,_,_,rfl,F3.out,F4.out,F5.out⟩)
   case s15=>
    intro A w' K hb hfar hd hK
    unfold Oper.wp
    simp[execOp,go_sem,Result.andThen]
    exact hK _ _ ((Below.refl _ _).alloc (Nat.le_refl _) _) (factG_mk rfl ⟨_,rfl,hb.size,World.alloc_heap_new w' _⟩)
   case last=>
    rintro o ho
    cases ho
    intro A w' val K hb hfar hd hF hK
    obtain⟨⟨b,e1,hbB,hrow⟩,e15⟩:(∃ b,A.tmps[7]?.getD undef=.pointer (some ⟨b,0,none⟩)∧V.heap.size≤b∧w'.heap[b]?=some (.cells #[.int .i64 0,.int .i64 0,.string ⟨#[]⟩,.slice none 0 0,.int .i64 0,.string ⟨#[]⟩,.int .i64 0,.slice none 0 0,.int .i64 0,.string ⟨#[]⟩,.int .i64 0,.slice none 0 0,.slice none 0 0,.slice none 0 0,.slice none 0 0,.slice none 0 0,.slice none 0 0] 126 (0,0)))∧A.tmps[7]?.getD undef=val 15:=⟨(hd 15 7 rfl (by kernel_rfl)).1 _ rfl,(hd 15 7 rfl (by kernel_rfl)).2⟩
    obtain⟨v1,v2,v3,e2,h1,h2,h3⟩:∃ v1 v2 v3,A.tmps[32]?.getD undef=.agg #[.int .i64 k,.int .i64 t.op,.string t.a.rel,.slice p0 t.a.l.length q0,.int .i64 t.x.op,.string t.x.s,.int .i64 t.x.n,.slice p1 t.x.l.length q1,.int .i64 t.y.op,.string t.y.s,.int .i64 t.y.n,.slice p2 t.y.l.length q2,v1,v2,v3,.slice none 0 0,.slice none 0 0]∧OwnF V.heap.size (vz [t.x]) v1 w'∧OwnF V.heap.size (vz [t.y]) v2 w'∧OwnF V.heap.size (vz t.a.l) v3 w':=(hd 14 32 rfl (by kernel_rfl)).1 _ rfl
    have hbl:=heap_lt hrow
    have n1:=own_ne h1 hrow (by decide)
    have n2:=own_ne h2 hrow (by decide)
    have n3:=own_ne h3 hrow (by decide)
    obtain⟨a3,b3,rfl⟩:=own_shape h1
    obtain⟨a4,b4,rfl⟩:=own_shape h2
    obtain⟨a5,b5,rfl⟩:=own_shape h3
    obtain⟨g0,g1,g2,g3,g4,g5,g6,g7,g8,g9,g10,g11,g12,g13,g14,g15,g16⟩:=row17 hrow
    have fz:∀ i,w'.frozen? ⟨b,i,none⟩=false:=fun i=>frz_row hrow i
    rw[e1] at e15
    unfold Oper.wp
    simp[execOp,e1,e2,g0,g1,g2,g3,g4,g5,g6,g7,g8,g9,g10,g11,g12,g13,g14,g15,g16,fz,go_sem,Result.andThen]
    have S17:=set17 (c0:=.int .i64 k) (c1:=.int .i64 t.op) (c2:=.string t.a.rel) (c3:=.slice p0 t.a.l.length q0) (c4:=.int .i64 t.x.op) (c5:=.string t.x.s) (c6:=.int .i64 t.x.n) (c7:=.slice p1 t.x.l.length q1) (c8:=.int .i64 t.y.op) (c9:=.string t.y.s) (c10:=.int .i64 t.y.n) (c11:=.slice p2 t.y.l.length q2) (c12:=.slice a3 (vz [t.x]).length b3) (c13:=.slice a4 (vz [t.y]).length b4) (c14:=.slice a5 (vz t.a.l).length b5) (c15:=.slice none 0 0) (c16:=.slice none 0 0) hrow
    exact hK undef _ ⟨b,_,_,_,(updV_other val undef (by decide)).trans e15.symm,hbB,S17.1,h1.kept S17.2 (.inr n1),h2.kept S17.2 (.inr n2),h3.kept S17.2 (.inr n3),(drewZ hb).grown S17.2 (by have:=hb.size;exact this) (fun q hq=>by have:=Option.some.inj hq;have:=hbB;show V.heap.size≤q;omega)⟩
   case fin=>
    rintro val w5 ⟨b,v1,v2,v3,h15,hb5,hrow,h1,h2,h3,hB5⟩
    simp only[putsA,Nat.zero_add,Nat.reduceAdd,h15]
    obtain⟨u0,hu0⟩:∃ v,val 0=v:=⟨_,rfl⟩
    obtain⟨u1,hu1⟩:∃ v,val 1=v:=⟨_,rfl⟩
    obtain⟨u2,hu2⟩:∃ v,val 2=v:=⟨_,rfl⟩
    obtain⟨u3,hu3⟩:∃ v,val 3=v:=⟨_,rfl⟩
    obtain⟨u4,hu4⟩:∃ v,val 4=v:=⟨_,rfl⟩
    obtain⟨u5,hu5⟩:∃ v,val 5=v:=⟨_,rfl⟩
    obtain⟨u6,hu6⟩:∃ v,val 6=v:=⟨_,rfl⟩
    obtain⟨u7,hu7⟩:∃ v,val 7=v:=⟨_,rfl⟩
    obtain⟨u8,hu8⟩:∃ v,val 8=v:=⟨_,rfl⟩
    obtain⟨u9,hu9⟩:∃ v,val 9=v:=⟨_,rfl⟩
    obtain⟨u10,hu10⟩:∃ v,val 10=v:=⟨_,rfl⟩
    obtain⟨u11,hu11⟩:∃ v,val 11=v:=⟨_,rfl⟩
    obtain⟨u12,hu12⟩:∃ v,val 12=v:=⟨_,rfl⟩
    obtain⟨u13,hu13⟩:∃ v,val 13=v:=⟨_,rfl⟩
    obtain⟨u14,hu14⟩:∃ v,val 14=v:=⟨_,rfl⟩
    rw[hu0,hu1,hu2,hu3,hu4,hu5,hu6,hu7,hu8,hu9,hu10,hu11,hu12,hu13,hu14]
    clear hu0 hu1 hu2 hu3 hu4 hu5 hu6 hu7 hu8 hu9 hu10 hu11 hu12 hu13 hu14 h15
    obtain⟨a3,b3,rfl⟩:=own_shape h1
    obtain⟨a4,b4,rfl⟩:=own_shape h2
    obtain⟨a5,b5,rfl⟩:=own_shape h3
    have R5:Hid (w5.heap[wr.heap.size]?=some (.cells #[.int .i64 t.op,.string t.a.rel,.slice p0 t.a.l.length q0,.int .i64 t.x.op,.string t.x.s,.int .i64 t.x.n,.slice p1 t.x.l.length q1,.int .i64 t.y.op,.string t.y.s,.int .i64 t.y.n,.slice p2 t.y.l.length q2] 53 (0,0))):=hid ((hB5.block _ (by have:=HVs.out;omega)).trans RV.out)
    have Q5:=hid hrow
    have O1:=hid h1
    have O2:=hid h2
    have O3:=hid h3
    have B5:Hid (Below wr.heap.size wr w5):=hid (HVb.out.trans (hB5.mono (by have:=HVs.out;omega)))
    have hVw5:=hB5.size
    have Bw5:=hid (Hbw.out.trans (B5.out.mono Hbw.out.size))
    have HRk:=hid (rckOf_c t.a.l _ w5 ((Hta.out.below Bw5.out).more Bw5.out.size) (hta_len HF.out Hmem.out))
    obtain⟨d0,d1,d2,d3,d4,d5,d6,d7,d8,d9,d10⟩:=row11 R5.out
    have hl5:=heap_lt R5.out
    clear hrow h1 h2 h3 hB5
    go_simp
    go_wp2_with fail
    refine HRk.out.mono ?_
    rintro e6 w6 ⟨u,rfl,hT6,b6⟩
    have HV6:=hid (vzO_c (t.a.l.filter rckT) u w6 hT6 Hfl.out.2.2.2)
    obtain⟨ou,ku,rfl,_⟩:=SlOf.uni hT6
    have B6:=hid (B5.out.trans (b6.mono B5.out.size))
    have Q6:=hid ((b6.block _ (heap_lt Q5.out)).trans Q5.out)
    have R6:=hid ((b6.block _ hl5).trans R5.out)
    have O1:=hid (own_below O1.out b6)
    have O2:=hid (own_below O2.out b6)
    have O3:=hid (own_below O3.out b6)
    have hs6:=b6.size
    clear b6 HRk d0 d1 d2 d3 d4 d5 d6 d7 d8 d9 d10 hT6
    go_wp2_with fail
    refine HV6.out.mono ?_
    rintro e7 w7 ⟨v4,rfl,hO4,b7⟩
    have B7:=hid (B6.out.trans (b7.mono B6.out.size))
    have Q7:=hid ((b7.block _ (heap_lt Q6.out)).trans Q6.out)
    have R7:=hid ((b7.block _ (heap_lt R6.out)).trans R6.out)
    have O1:=hid (own_below O1.out b7)
    have O2:=hid (own_below O2.out b7)
    have O3:=hid (own_below O3.out b7)
    have hO4':OwnF V.heap.size (vz (t.a.l.filter rckT)) v4 w7:=own_base hO4 (by omega)
    obtain⟨a6,b6,rfl⟩:=own_shape hO4
    have O4:=hid hO4'
    have hs7:=b7.size
    have hlq:=heap_lt Q7.out
    obtain⟨g0,g1,g2,g3,g4,g5,g6,g7,g8,g9,g10,g11,g12,g13,g14,g15,g16⟩:=row17 Q7.out
    have fz:=frz_row Q7.out 15
    have S8:Hid ((w7.setCell ⟨b,15,none⟩ (.slice a6 (vz (t.a.l.filter rckT)).length b6)).heap[b]?=some (.cells #[.int .i64 k,.int .i64 t.op,.string t.a.rel,.slice p0 t.a.l.length q0,.int .i64 t.x.op,.string t.x.s,.int .i64 t.x.n,.slice p1 t.x.l.length q1,.int .i64 t.y.op,.string t.y.s,.int .i64 t.y.n,.slice p2 t.y.l.length q2,.slice a3 (vz [t.x]).length b3,.slice a4 (vz [t.y]).length b4,.slice a5 (vz t.a.l).length b5,.slice a6 (vz (t.a.l.filter rckT)).length b6,.slice none 0 0] 126 (0,0))):=hid (rowSet Q7.out 15 _)
    have ne1:=own_ne O1.out Q7.out (by decide)
    have ne2:=own_ne O2.out Q7.out (by decide)
    have ne3:=own_ne O3.out Q7.out (by decide)
    have ne4:=own_ne O4.out Q7.out (by decide)
    have P1:=hid (own_set (u:=.slice a6 (vz (t.a.l.filter rckT)).length b6) (k:=15) O1.out ne1)
    have P2:=hid (own_set (u:=.slice a6 (vz (t.a.l.filter rckT)).length b6) (k:=15) O2.out ne2)
    have P3:=hid (own_set (u:=.slice a6 (vz (t.a.l.filter rckT)).length b6) (k:=15) O3.out ne3)
    have P4:=hid (own_set (u:=.slice a6 (vz (t.a.l.filter rckT)).length b6) (k:=15) O4.out ne4)
    have BS:Hid (Below wr.heap.size wr (w7.setCell ⟨b,15,none⟩ (.slice a6 (vz (t.a.l.filter rckT)).length b6))):=hid (B7.out.grown (grown_set b 15 _) B7.out.size (fun q hq=>by have:=Option.some.inj hq;have:=HVs.out;omega))
    have RS:Hid ((w7.setCell ⟨b,15,none⟩ (.slice a6 (vz (t.a.l.filter rckT)).length b6)).heap[wr.heap.size]?=some (.cells #[.int .i64 t.op,.string t.a.rel,.slice p0 t.a.l.length q0,.int .i64 t.x.op,.string t.x.s,.int .i64 t.x.n,.slice p1 t.x.l.length q1,.int .i64 t.y.op,.string t.y.s,.int .i64 t.y.n,.slice p2 t.y.l.length q2] 53 (0,0))):=hid ((Below.heap_setCell w7 ⟨b,15,none⟩ _ wr.heap.size (by show wr.heap.size≠b;have:=HVs.out;omega)).trans R7.out)
    obtain⟨W8,hW8⟩:∃ W8,w7.setCell ⟨b,15,none⟩ (.slice a6 (vz (t.a.l.filter rckT)).length b6)=W8:=⟨_,rfl⟩
    have hs8:W8.heap.size=w7.heap.size:=by rw[← hW8];simp[World.setCell]
    rw[hW8] at S8 P1 P2 P3 P4 BS RS
    obtain⟨d0,d1,d2,d3,d4,d5,d6,d7,d8,d9,d10⟩:=row11 RS.out
    have hl8:=heap_lt RS.out
    have HAG:=hid (fun (W:World)=>isAgg_v t (.string t.a.rel) (.slice p0 t.a.l.length q0) (.int .i64 t.x.op) (.string t.x.s) (.int .i64 t.x.n) (.slice p1 t.x.l.length q1) (.int .i64 t.y.op) (.string t.y.s) (.int .i64 t.y.n) (.slice p2 t.y.l.length q2) W)
    clear b7 hO4 hO4' HV6 ne1 ne2 ne3 ne4 O1 O2 O3 O4
    go_wp2_with fail
    refine (HAG.out _).mono ?_
    rintro e9 w9 ⟨rfl,b9⟩
    have B9:=hid (BS.out.trans (b9.mono BS.out.size))
    have VW9:Hid (V.heap.size≤w9.heap.size):=hid (by have:=b9.size;omega)
    have Q9:=hid ((b9.block _ (heap_lt S8.out)).trans S8.out)
    have R9:=hid ((b9.block _ hl8).trans RS.out)
    have P1:=hid (own_below P1.out b9)
    have P2:=hid (own_below P2.out b9)
    have P3:=hid (own_below P3.out b9)
    have P4:=hid (own_below P4.out b9)
    clear b9 d0 d1 d2 d3 d4 d5 d6 d7 d8 d9 d10 g0 g1 g2 g3 g4 g5 g6 g7 g8 g9 g10 g11 g12 g13 g14 g15 g16 fz HAG
    cases hag:aggO t.op with
    | false=>
     have HOW:=hid (own_below HO.out B9.out)
     have hpt:ptZ r k t=⟨k,t,vz [t.x],vz [t.y],vz t.a.l,vz (t.a.l.filter rckT),[]⟩:=by unfold ptZ;rw[hag];rfl
     have hu:(Value.slice ov acc.length cv).ownBlock=none∨∃ g,(Value.slice ov acc.length cv).ownBlock=some g∧g < V.heap.size:=by
      cases hq:(Value.slice ov acc.length cv).ownBlock with
      | none=>exact .inl rfl
      | some g=>exact .inr ⟨g,rfl,by have:=(HO.out.lt g hq).2;have:=HVs.out;omega⟩
     have hPt:PtC (hidO (.slice ov acc.length cv) w9) w9.heap.size (ptZ r k t) [.int .i64 (k:Int),.int .i64 t.op,.string t.a.rel,.slice p0 t.a.l.length q0,.int .i64 t.x.op,.string t.x.s,.int .i64 t.x.n,.slice p1 t.x.l.length q1,.int .i64 t.y.op,.string t.y.s,.int .i64 t.y.n,.slice p2 t.y.l.length q2,.slice a3 (vz [t.x]).length b3,.slice a4 (vz [t.y]).length b4,.slice a5 (vz t.a.l).length b5,.slice a6 (vz (t.a.l.filter rckT)).length b6,.slice none 0 0]:=by
      rw[hpt]
      refine⟨[.int .i64 t.op,.string t.a.rel,.slice p0 t.a.l.length q0,.int .i64 t.x.op,.string t.x.s,.int .i64 t.x.n,.slice p1 t.x.l.length q1,.int .i64 t.y.op,.string t.y.s,.int .i64 t.y.n,.slice p2 t.y.l.length q2],_,_,_,_,_,rfl,(Hc.out.cells (fun p c hc=>cell_hidO ((World.cell?_of_block ((Hbw.out.trans (B9.out.mono Hbw.out.size)).block _ (World.block_lt_of_cell? _ _ hc))).trans hc) (fun e=>?_))).more (Nat.le_trans Hbw.out.size B9.out.size),own_hid P1.out hu (vz_max Hfl.out.1),own_hid P2.out hu (vz_max Hfl.out.2.1),own_hid P3.out hu (vz_max Hfl.out.2.2.1),own_hid P4.out hu (vz_max Hfl.out.2.2.2),.inl ⟨rfl,rfl⟩⟩
      have h1:=(HO.out.lt _ e).1
      have h2:=World.block_lt_of_cell? _ _ hc
      omega
     have HL3:=hid ((HL.out.mono (L':=PtC (hidO (.slice ov acc.length cv) w9) w9.heap.size) (fun x cs hx=>hx.cells (hid_below B9.out) B9.out.size)).snoc rfl hPt)
     have HS1:Hid (acc.length+1≤maxLen):=hid (by have:=Hacl.out;have:=HF.out.b.1;unfold maxLen;omega)
     have HS2:Hid ((acc.length+1) * 288≤140737488355328):=hid (by have:=Hacl.out;have:=HF.out.b.1;omega)
     have HSp:Hid (Spread (w9.alloc (.cells #[.int .i64 (k:Int),.int .i64 t.op,.string t.a.rel,.slice p0 t.a.l.length q0,.int .i64 t.x.op,.string t.x.s,.int .i64 t.x.n,.slice p1 t.x.l.length q1,.int .i64 t.y.op,.string t.y.s,.int .i64 t.y.n,.slice p2 t.y.l.length q2,.slice a3 (vz [t.x]).length b3,.slice a4 (vz [t.y]).length b4,.slice a5 (vz t.a.l).length b5,.slice a6 (vz (t.a.l.filter rckT)).length b6,.slice none 0 0] 126)) 17 (.slice (some ⟨w9.heap.size,0,none⟩) 1 1) 1 [.int .i64 (k:Int),.int .i64 t.op,.string t.a.rel,.slice p0 t.a.l.length q0,.int .i64 t.x.op,.string t.x.s,.int .i64 t.x.n,.slice p1 t.x.l.length q1,.int .i64 t.y.op,.string t.y.s,.int .i64 t.y.n,.slice p2 t.y.l.length q2,.slice a3 (vz [t.x]).length b3,.slice a4 (vz [t.y]).length b4,.slice a5 (vz t.a.l).length b5,.slice a6 (vz (t.a.l.filter rckT)).length b6,.slice none 0 0]):=hid (.inr ⟨_,_,rfl,rfl,World.news_of_block (World.alloc_heap_new _ _),by simp[Value.oneCell']⟩)
     have HBW:=hid (B9.out.alloc B9.out.size (.cells #[.int .i64 (k:Int),.int .i64 t.op,.string t.a.rel,.slice p0 t.a.l.length q0,.int .i64 t.x.op,.string t.x.s,.int .i64 t.x.n,.slice p1 t.x.l.length q1,.int .i64 t.y.op,.string t.y.s,.int .i64 t.y.n,.slice p2 t.y.l.length q2,.slice a3 (vz [t.x]).length b3,.slice a4 (vz [t.y]).length b4,.slice a5 (vz t.a.l).length b5,.slice a6 (vz (t.a.l.filter rckT)).length b6,.slice none 0 0] 126))
     have hszW:=B9.out.size
     have hlq:=heap_lt Q9.out
     clear hPt hu hpt hag
     go_wp2_with (first | (at_builtin;refine wpList_append_any _ rfl (.tmp 45) (.tmp 47) 123 rfl w1.heap.size 126 i0 zP 17 288 Tryz.underlying123 hi hz0 hz1 hz2 hzc (by decide) (.slice ov acc.length cv) acc.length _ (by simp[Act.eval,Act.put]) (HOW.out.alloc _) (.slice (some ⟨w9.heap.size,0,none⟩) 1 1) 1 _ (by simp[Act.eval,Act.put]) HSp.out HS1.out HS2.out (by simp;omega) ?_;intro vE wE hownE hgE hobE;have HOE:=hid hownE;have HGE:=hid hgE;have HBE:=hid hobE;clear hownE hgE hobE) | (refine wpList_load_pt rfl (.tmp 7) rfl b (by simp[Act.eval,Act.put]) Q9.out ?_))
     go_roundw
     case rel=>
      have hwa:w1.heap.size≤(w9.alloc (.cells #[.int .i64 (k:Int),.int .i64 t.op,.string t.a.rel,.slice p0 t.a.l.length q0,.int .i64 t.x.op,.string t.x.s,.int .i64 t.x.n,.slice p1 t.x.l.length q1,.int .i64 t.y.op,.string t.y.s,.int .i64 t.y.n,.slice p2 t.y.l.length q2,.slice a3 (vz [t.x]).length b3,.slice a4 (vz [t.y]).length b4,.slice a5 (vz t.a.l).length b5,.slice a6 (vz (t.a.l.filter rckT)).length b6,.slice none 0 0] 126)).heap.size:=by simp;omega
      refine⟨k+1,acc++[ptZ r k t],xs++[.int .i64 (k:Int),.int .i64 t.op,.string t.a.rel,.slice p0 t.a.l.length q0,.int .i64 t.x.op,.string t.x.s,.int .i64 t.x.n,.slice p1 t.x.l.length q1,.int .i64 t.y.op,.string t.y.s,.int .i64 t.y.n,.slice p2 t.y.l.length q2,.slice a3 (vz [t.x]).length b3,.slice a4 (vz [t.y]).length b4,.slice a5 (vz t.a.l).length b5,.slice a6 (vz (t.a.l.filter rckT)).length b6,.slice none 0 0],hlt,by go_num,by rw[Hst.out,Hacc.out],?_,?_,(HB.out.trans (HBW.out.mono hsz)).grown HGE.out hwa (fun q hq=>(HO.out.lt q hq).1)⟩
      ·rw[List.length_append];exact HOE.out
      ·exact HL3.out.mono (fun x cs hx=>hx.cells (fun p c hc=>hid_step HGE.out HBE.out p c (hid_below ((Below.refl _ _).alloc (Nat.le_refl _) _) p c hc)) (by have:=HGE.out.size;simp at this;omega))
     case measure=>simp[intOf];omega
    | true=>
     have Bw9:=hid (Hbw.out.trans (B9.out.mono Hbw.out.size))
     have HM9:=hid (HM.out.below (HB.out.trans (B9.out.mono hsz)) HM.out.lt)
     have HOu:=hid (outerOf_c t [.int .i64 t.op,.string t.a.rel,.slice p0 t.a.l.length q0,.int .i64 t.x.op,.string t.x.s,.int .i64 t.x.n,.slice p1 t.x.l.length q1,.int .i64 t.y.op,.string t.y.s,.int .i64 t.y.n,.slice p2 t.y.l.length q2] M nM cM (fun s=>(standZ r s:Int)) w9 ((Hc.out.below Bw9.out).more Bw9.out.size) HM9.out Hfl.out.2.2.1)
     obtain⟨d0,d1,d2,d3,d4,d5,d6,d7,d8,d9,d10⟩:=row11 R9.out
     have hl9:=heap_lt R9.out
     go_wp2_with fail
     refine HOu.out.mono ?_
     rintro e10 w10 ⟨v5,rfl,hO5,b10⟩
     have B10:=hid (B9.out.trans (b10.mono B9.out.size))
     have Q10:=hid ((b10.block _ (heap_lt Q9.out)).trans Q9.out)
     have P1:=hid (own_below P1.out b10)
     have P2:=hid (own_below P2.out b10)
     have P3:=hid (own_below P3.out b10)
     have P4:=hid (own_below P4.out b10)
     have hO5':OwnF V.heap.size (outF (fun s=>(standZ r s:Int)) t.a.l) v5 w10:=own_base hO5 VW9.out
     obtain⟨a7,b7,rfl⟩:=own_shape hO5
     have P5:=hid hO5'
     have hlq:=heap_lt Q10.out
     obtain⟨g0,g1,g2,g3,g4,g5,g6,g7,g8,g9,g10,g11,g12,g13,g14,g15,g16⟩:=row17 Q10.out
     have fz:=frz_row Q10.out 16
     obtain⟨vo,hvo⟩:∃ vo,(.slice a7 (outF (fun s=>(standZ r s:Int)) t.a.l).length b7:Value)=vo:=⟨_,rfl⟩
     have S11:Hid ((w10.setCell ⟨b,16,none⟩ (.slice a7 (outF (fun s=>(standZ r s:Int)) t.a.l).length b7)).heap[b]?=some (.cells #[.int .i64 (k:Int),.int .i64 t.op,.string t.a.rel,.slice p0 t.a.l.length q0,.int .i64 t.x.op,.string t.x.s,.int .i64 t.x.n,.slice p1 t.x.l.length q1,.int .i64 t.y.op,.string t.y.s,.int .i64 t.y.n,.slice p2 t.y.l.length q2,.slice a3 (vz [t.x]).length b3,.slice a4 (vz [t.y]).length b4,.slice a5 (vz t.a.l).length b5,.slice a6 (vz (t.a.l.filter rckT)).length b6,.slice a7 (outF (fun s=>(standZ r s:Int)) t.a.l).length b7] 126 (0,0))):=hid (rowSet Q10.out 16 _)
     have P1:=hid (own_set (u:=.slice a7 (outF (fun s=>(standZ r s:Int)) t.a.l).length b7) (k:=16) P1.out (own_ne P1.out Q10.out (by decide)))
     have P2:=hid (own_set (u:=.slice a7 (outF (fun s=>(standZ r s:Int)) t.a.l).length b7) (k:=16) P2.out (own_ne P2.out Q10.out (by decide)))
     have P3:=hid (own_set (u:=.slice a7 (outF (fun s=>(standZ r s:Int)) t.a.l).length b7) (k:=16) P3.out (own_ne P3.out Q10.out (by decide)))
     have P4:=hid (own_set (u:=.slice a7 (outF (fun s=>(standZ r s:Int)) t.a.l).length b7) (k:=16) P4.out (own_ne P4.out Q10.out (by decide)))
     have P5:=hid (own_set (u:=.slice a7 (outF (fun s=>(standZ r s:Int)) t.a.l).length b7) (k:=16) P5.out (own_ne P5.out Q10.out (by decide)))
     have B11:Hid (Below wr.heap.size wr (w10.setCell ⟨b,16,none⟩ (.slice a7 (outF (fun s=>(standZ r s:Int)) t.a.l).length b7))):=hid (B10.out.grown (grown_set b 16 _) B10.out.size (fun q hq=>by have:=Option.some.inj hq;have:=HVs.out;omega))
     obtain⟨W11,hW11⟩:∃ W11,w10.setCell ⟨b,16,none⟩ (.slice a7 (outF (fun s=>(standZ r s:Int)) t.a.l).length b7)=W11:=⟨_,rfl⟩
     rw[hW11] at S11 P1 P2 P3 P4 P5 B11
     clear b10 hO5 hO5' HOu d0 d1 d2 d3 d4 d5 d6 d7 d8 d9 d10 hvo
     have HOW:=hid (own_below HO.out B11.out)
     have hpt:ptZ r k t=⟨k,t,vz [t.x],vz [t.y],vz t.a.l,vz (t.a.l.filter rckT),outF (fun s=>(standZ r s:Int)) t.a.l⟩:=by unfold ptZ;rw[hag];simp only[if_true];rw[outF_eq]
     have hu:(Value.slice ov acc.length cv).ownBlock=none∨∃ g,(Value.slice ov acc.length cv).ownBlock=some g∧g < V.heap.size:=by
      cases hq:(Value.slice ov acc.length cv).ownBlock with
      | none=>exact .inl rfl
      | some g=>exact .inr ⟨g,rfl,by have:=(HO.out.lt g hq).2;have:=HVs.out;omega⟩
     have hPt:PtC (hidO (.slice ov acc.length cv) W11) W11.heap.size (ptZ r k t) [.int .i64 (k:Int),.int .i64 t.op,.string t.a.rel,.slice p0 t.a.l.length q0,.int .i64 t.x.op,.string t.x.s,.int .i64 t.x.n,.slice p1 t.x.l.length q1,.int .i64 t.y.op,.string t.y.s,.int .i64 t.y.n,.slice p2 t.y.l.length q2,.slice a3 (vz [t.x]).length b3,.slice a4 (vz [t.y]).length b4,.slice a5 (vz t.a.l).length b5,.slice a6 (vz (t.a.l.filter rckT)).length b6,.slice a7 (outF (fun s=>(standZ r s:Int)) t.a.l).length b7]:=by
      rw[hpt]
      refine⟨[.int .i64 t.op,.string t.a.rel,.slice p0 t.a.l.length q0,.int .i64 t.x.op,.string t.x.s,.int .i64 t.x.n,.slice p1 t.x.l.length q1,.int .i64 t.y.op,.string t.y.s,.int .i64 t.y.n,.slice p2 t.y.l.length q2],_,_,_,_,_,rfl,(Hc.out.cells (fun p c hc=>cell_hidO ((World.cell?_of_block ((Hbw.out.trans (B11.out.mono Hbw.out.size)).block _ (World.block_lt_of_cell? _ _ hc))).trans hc) (fun e=>?_))).more (Nat.le_trans Hbw.out.size B11.out.size),own_hid P1.out hu (vz_max Hfl.out.1),own_hid P2.out hu (vz_max Hfl.out.2.1),own_hid P3.out hu (vz_max Hfl.out.2.2.1),own_hid P4.out hu (vz_max Hfl.out.2.2.2),own_hid P5.out hu (fun s hs=>vz_max Hfl.out.2.2.1 s (List.mem_filter.1 hs).1)⟩
      have h1:=(HO.out.lt _ e).1
      have h2:=World.block_lt_of_cell? _ _ hc
      omega
     have HL3:=hid ((HL.out.mono (L':=PtC (hidO (.slice ov acc.length cv) W11) W11.heap.size) (fun x cs hx=>hx.cells (hid_below B11.out) B11.out.size)).snoc rfl hPt)
     have HS1:Hid (acc.length+1≤maxLen):=hid (by have:=Hacl.out;have:=HF.out.b.1;unfold maxLen;omega)
     have HS2:Hid ((acc.length+1) * 288≤140737488355328):=hid (by have:=Hacl.out;have:=HF.out.b.1;omega)
     have HSp:Hid (Spread (W11.alloc (.cells #[.int .i64 (k:Int),.int .i64 t.op,.string t.a.rel,.slice p0 t.a.l.length q0,.int .i64 t.x.op,.string t.x.s,.int .i64 t.x.n,.slice p1 t.x.l.length q1,.int .i64 t.y.op,.string t.y.s,.int .i64 t.y.n,.slice p2 t.y.l.length q2,.slice a3 (vz [t.x]).length b3,.slice a4 (vz [t.y]).length b4,.slice a5 (vz t.a.l).length b5,.slice a6 (vz (t.a.l.filter rckT)).length b6,.slice a7 (outF (fun s=>(standZ r s:Int)) t.a.l).length b7] 126)) 17 (.slice (some ⟨W11.heap.size,0,none⟩) 1 1) 1 [.int .i64 (k:Int),.int .i64 t.op,.string t.a.rel,.slice p0 t.a.l.length q0,.int .i64 t.x.op,.string t.x.s,.int .i64 t.x.n,.slice p1 t.x.l.length q1,.int .i64 t.y.op,.string t.y.s,.int .i64 t.y.n,.slice p2 t.y.l.length q2,.slice a3 (vz [t.x]).length b3,.slice a4 (vz [t.y]).length b4,.slice a5 (vz t.a.l).length b5,.slice a6 (vz (t.a.l.filter rckT)).length b6,.slice a7 (outF (fun s=>(standZ r s:Int)) t.a.l).length b7]):=hid (.inr ⟨_,_,rfl,rfl,World.news_of_block (World.alloc_heap_new _ _),by simp[Value.oneCell']⟩)
     have HBW:=hid (B11.out.alloc B11.out.size (.cells #[.int .i64 (k:Int),.int .i64 t.op,.string t.a.rel,.slice p0 t.a.l.length q0,.int .i64 t.x.op,.string t.x.s,.int .i64 t.x.n,.slice p1 t.x.l.length q1,.int .i64 t.y.op,.string t.y.s,.int .i64 t.y.n,.slice p2 t.y.l.length q2,.slice a3 (vz [t.x]).length b3,.slice a4 (vz [t.y]).length b4,.slice a5 (vz t.a.l).length b5,.slice a6 (vz (t.a.l.filter rckT)).length b6,.slice a7 (outF (fun s=>(standZ r s:Int)) t.a.l).length b7] 126))
     have hszW:=B11.out.size
     have hlq:=heap_lt S11.out
     clear hPt hu hpt hag
     go_wp2_with (first | (at_builtin;refine wpList_append_any _ rfl (.tmp 45) (.tmp 47) 123 rfl w1.heap.size 126 i0 zP 17 288 Tryz.underlying123 hi hz0 hz1 hz2 hzc (by decide) (.slice ov acc.length cv) acc.length _ (by simp[Act.eval,Act.put]) (HOW.out.alloc _) (.slice (some ⟨W11.heap.size,0,none⟩) 1 1) 1 _ (by simp[Act.eval,Act.put]) HSp.out HS1.out HS2.out (by simp;omega) ?_;intro vE wE hownE hgE hobE;have HOE:=hid hownE;have HGE:=hid hgE;have HBE:=hid hobE;clear hownE hgE hobE) | (refine wpList_load_pt rfl (.tmp 7) rfl b (by simp[Act.eval,Act.put]) S11.out ?_))
     go_roundw
     case rel=>
      have hwa:w1.heap.size≤(W11.alloc (.cells #[.int .i64 (k:Int),.int .i64 t.op,.string t.a.rel,.slice p0 t.a.l.length q0,.int .i64 t.x.op,.string t.x.s,.int .i64 t.x.n,.slice p1 t.x.l.length q1,.int .i64 t.y.op,.string t.y.s,.int .i64 t.y.n,.slice p2 t.y.l.length q2,.slice a3 (vz [t.x]).length b3,.slice a4 (vz [t.y]).length b4,.slice a5 (vz t.a.l).length b5,.slice a6 (vz (t.a.l.filter rckT)).length b6,.slice a7 (outF (fun s=>(standZ r s:Int)) t.a.l).length b7] 126)).heap.size:=by simp;omega
      refine⟨k+1,acc++[ptZ r k t],xs++[.int .i64 (k:Int),.int .i64 t.op,.string t.a.rel,.slice p0 t.a.l.length q0,.int .i64 t.x.op,.string t.x.s,.int .i64 t.x.n,.slice p1 t.x.l.length q1,.int .i64 t.y.op,.string t.y.s,.int .i64 t.y.n,.slice p2 t.y.l.length q2,.slice a3 (vz [t.x]).length b3,.slice a4 (vz [t.y]).length b4,.slice a5 (vz t.a.l).length b5,.slice a6 (vz (t.a.l.filter rckT)).length b6,.slice a7 (outF (fun s=>(standZ r s:Int)) t.a.l).length b7],hlt,by go_num,by rw[Hst.out,Hacc.out],?_,?_,(HB.out.trans (HBW.out.mono hsz)).grown HGE.out hwa (fun q hq=>(HO.out.lt q hq).1)⟩
      ·rw[List.length_append];exact HOE.out
      ·exact HL3.out.mono (fun x cs hx=>hx.cells (fun p c hc=>hid_step HGE.out HBE.out p c (hid_below ((Below.refl _ _).alloc (Nat.le_refl _) _) p c hc)) (by have:=HGE.out.size;simp at this;omega))
     case measure=>simp[intOf];omega
  ·have hlt':¬ (k:Int) < (r.body.length:Int):=by omega
   obtain rfl:acc=partsZ r:=by
    have h:=Hacc.out
    rw[List.take_of_length_le (by omega)] at h
    exact h.symm
   have HO2:=hid (own_base HO.out hz1')
   go_wp2
   go_ret
   exact⟨_,rfl,xs,HO2.out,HL.out,Hbw.out⟩
end Go.Proofs.YtakpgcmfjlbcgaaGreatDoor
