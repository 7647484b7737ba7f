/- Zt@012, Zdl@012, Zcl@012, Zy0@012, Zy1@012, Zy2@012, Zy3@012 -/
import Derived.Deep.RegionLaw
import Derived.Lib.SliceRun
import Derived.Shelf.RegionOpenPlain
import Derived.Sort.LoopGhostIn
import Derived.Sort.WalkB12
import Derived.Test.YtfmldnbcjbflbaaGreatDoorQ22
import Derived.Test.YtfmldnbcjbflbaaGreatDoorQ29
set_option linter.unusedSimpArgs false
set_option linter.unusedVariables false
namespace Go.Proofs.YtfmldnbcjbflbaaGreatDoor
open Lib(hid)
open Go.RowKit
theorem info_pt:(Tryz.prog.info? 105).map (fun i=>(i.zero,i.size,i.bytes))=some (some (.agg #[.int .i64 0,.int .i64 0,.string ⟨#[]⟩,.slice none 0 0,.int .i64 0,.string ⟨#[]⟩,.int .i64 0,.slice none 0 0,.int .i64 0,.string ⟨#[]⟩,.int .i64 0,.slice none 0 0,.slice none 0 0,.slice none 0 0,.slice none 0 0,.slice none 0 0,.slice none 0 0]),17,288):=by kernel_rfl
theorem info_pt2:∃ i z,Tryz.prog.info? 105=some i∧i.zero=some z∧i.size=17∧i.bytes=288∧z.cells.size=17:=by
 obtain⟨i0,hi,hz0,hz1,hz2⟩:=info_parts info_pt
 refine⟨i0,_,hi,hz0,hz1,hz2,?_⟩
 simp[Value.cells]
theorem ptSize:(Tryz.prog.info? 105).map (·.size)=some 17:=by kernel_rfl
theorem load_pt {w:World} {b:Nat} {c0 c1 c2 c3 c4 c5 c6 c7 c8 c9 c10 c11 c12 c13 c14 c15 c16:Value} (h:w.heap[b]?=some (.cells #[c0,c1,c2,c3,c4,c5,c6,c7,c8,c9,c10,c11,c12,c13,c14,c15,c16] 105 (0,0))) :
  (loadVar 105 ⟨b,0,none⟩).run Tryz.prog w=.ok (.agg #[c0,c1,c2,c3,c4,c5,c6,c7,c8,c9,c10,c11,c12,c13,c14,c15,c16]) w:=
 run_loadVar_row w b 105 105 _ (0,0) _ h Tryz.underlying105 rfl ptSize
theorem loadAt_pt {w:World} {b:Nat} {c0 c1 c2 c3 c4 c5 c6 c7 c8 c9 c10 c11 c12 c13 c14 c15 c16:Value} (h:w.heap[b]?=some (.cells #[c0,c1,c2,c3,c4,c5,c6,c7,c8,c9,c10,c11,c12,c13,c14,c15,c16] 105 (0,0))) :
  (Instr.loadAt 105 (.pointer (some ⟨b,0,none⟩))).run Tryz.prog w=.ok (.agg #[c0,c1,c2,c3,c4,c5,c6,c7,c8,c9,c10,c11,c12,c13,c14,c15,c16]) w:=by
 have h1:=load_pt h
 unfold Instr.loadAt
 rw[Sem.run_bind]
 have h2:(Instr.sureAddr (.pointer (some ⟨b,0,none⟩))).run Tryz.prog w=Result.ok ⟨b,0,none⟩ w:=by simp[Instr.sureAddr,go_sem]
 rw[h2,Result.andThen_ok,h1]
theorem wpList_load_pt {ops:Array Oper} {rest:List Oper} {o:Oper} {a:Act} {Q:Exit→Act→World→Prop} {w:World} (hg:o.guard=none) (x:Operand) (ho:o.op=Op.load 105 x) (b:Nat) (hx:a.eval x=.pointer (some ⟨b,0,none⟩)) {c0 c1 c2 c3 c4 c5 c6 c7 c8 c9 c10 c11 c12 c13 c14 c15 c16:Value} (h:w.heap[b]?=some (.cells #[c0,c1,c2,c3,c4,c5,c6,c7,c8,c9,c10,c11,c12,c13,c14,c15,c16] 105 (0,0)))
  (hK:wpList Tryz.prog ops Q rest (a.put o.dst (.agg #[c0,c1,c2,c3,c4,c5,c6,c7,c8,c9,c10,c11,c12,c13,c14,c15,c16])) w):wpList Tryz.prog ops Q (o::rest) a w:=by
 refine wpList_plain hg fun K hk=>?_
 have h1:=loadAt_pt h
 unfold Oper.wp
 simp only[execOp,ho,hx,h1,Sem.run_bind,Sem.run_pure,Result.andThen_ok,Result.andThen]
 exact hk _ _ hK
theorem occ_sub {a b:List Tm} (h:a.Sublist b):(occ (subTs a)).Sublist (occ (subTs b)):=by
 induction h with
 | slnil=>exact List.Sublist.refl _
 | cons x h ih=>
  rw[subTs,occ_app]
  exact ih.trans (List.sublist_append_right _ _)
 | cons_cons x h ih=>
  rw[subTs,subTs,occ_app,occ_app]
  exact List.Sublist.append (List.Sublist.refl _) ih
theorem FewT.sub {a b:List Tm} (h:FewT b) (hs:a.Sublist b):FewT a:=
 ⟨fun s hs'=>h.s s ((occ_sub hs).subset hs'),Nat.le_trans (occ_sub hs).length_le h.n⟩
theorem few_lit {r:Ru} (h:FewR r) {l:Lt} (hl:l ∈ r.body):FewT [l.x]∧FewT [l.y]∧FewT l.a.l∧FewT (l.a.l.filter rckT):=by
 have key:∀ p ∈ placesL [l],FewT p:=fun p hp=>h.p p (by
  obtain⟨a,b,e⟩:=List.append_of_mem hl
  unfold placesZ
  rw[e,show a++l::b=a++([l]++b) from rfl,placesL_app,placesL_app]
  exact List.mem_cons_of_mem _ (List.mem_append_right _ (List.mem_append_left _ hp)))
 have hA:FewT [l.x]∧FewT [l.y]∧FewT l.a.l:=by
  by_cases ha:aggO l.op=true
  ·have h1:=key [l.x] (by unfold placesL;rw[if_pos ha];simp)
   have h2:=key (l.y::l.a.l) (by unfold placesL;rw[if_pos ha];simp)
   exact⟨h1,h2.sub (List.Sublist.cons_cons _ (List.nil_sublist _)),h2.sub (List.sublist_cons_self _ _)⟩
  ·have h2:=key ((l.y::l.a.l)++[l.x]) (by unfold placesL;rw[if_neg ha];simp)
   exact⟨h2.sub (List.sublist_append_right _ _),h2.sub ((List.Sublist.cons_cons _ (List.nil_sublist _)).trans (List.sublist_append_left _ _)),h2.sub ((List.sublist_cons_self _ _).trans (List.sublist_append_left _ _))⟩
 exact⟨hA.1,hA.2.1,hA.2.2,hA.2.2.sub List.filter_sublist⟩
abbrev OwnF (nB:Nat) (l:List ByteArray) (v:Value) (W:World):Prop:=W.ownsRow nB 9 1 v l.length (l.map Value.string)
theorem drewZ {B:Nat} {w w':World} (h:Below B w.drew w'):Below B w w':=((Below.refl B w).drew).trans h
theorem tm_row1 {W:World} {B:Nat} {t:Tm} {c0 c1 c2 c3:Value} {T:TypeId} (h:W.heap[B]?=some (.cells #[c0,c1,c2,c3] T (0,0))) (hc:TmC W W.heap.size t [c0,c1,c2,c3]):TmS W W.heap.size [t] (.slice (some ⟨B,0,none⟩) 1 1):=
 sl_cells (l:=[t]) (R:=TmC W W.heap.size) [[c0,c1,c2,c3]] h rfl (fun cs h=>by rw[List.mem_singleton.1 h];rfl) (fun i x cs hx hc'=>by
  match i,hx,hc' with
  | 0,hx,hc'=>cases hx;cases hc';exact hc) (by show 1≤maxLen;decide)
def partFacts (k:Nat) (t:Lt) (bl nB:Nat) (lc xc yc:List Value) (av:Value):List (Value→World→Prop):=
 [fun v _=>v=.int .i64 (k:Int),fun v _=>v=.agg lc.toArray,fun v _=>v=.pointer (some ⟨bl,3,none⟩),fun v _=>v=.agg xc.toArray,
  fun v W=>∃ b,v=.slice (some ⟨b,0,none⟩) 1 1∧W.heap[b]?=some (.cells xc.toArray 51 (0,0)),fun v W=>OwnF nB (vz [t.x]) v W,
  fun v _=>v=.pointer (some ⟨bl,7,none⟩),fun v _=>v=.agg yc.toArray,fun v W=>∃ b,v=.slice (some ⟨b,0,none⟩) 1 1∧W.heap[b]?=some (.cells yc.toArray 51 (0,0)),fun v W=>OwnF nB (vz [t.y]) v W,
  fun v _=>v=.pointer (some ⟨bl,1,none⟩),fun v _=>v=.pointer (some ⟨bl,2,none⟩),fun v _=>v=av,fun v W=>OwnF nB (vz t.a.l) v W,
  fun v W=>∃ v1 v2 v3,v=.agg (.int .i64 (k:Int)::(lc++[v1,v2,v3,.slice none 0 0,.slice none 0 0])).toArray∧OwnF nB (vz [t.x]) v1 W∧OwnF nB (vz [t.y]) v2 W∧OwnF nB (vz t.a.l) v3 W,
  fun v W=>∃ b,v=.pointer (some ⟨b,0,none⟩)∧nB≤b∧W.heap[b]?=some (.cells #[.int .i64 0,.int .i64 0,.string ⟨#[]⟩,.slice none 0 0,.int .i64 0,.string ⟨#[]⟩,.int .i64 0,.slice none 0 0,.int .i64 0,.string ⟨#[]⟩,.int .i64 0,.slice none 0 0,.slice none 0 0,.slice none 0 0,.slice none 0 0,.slice none 0 0,.slice none 0 0] 105 (0,0))]
theorem partFacts_mono (k:Nat) (t:Lt) (bl nB:Nat) (lc xc yc:List Value) (av:Value):∀ p ∈ partFacts k t bl nB lc xc yc av,∀ v w w',p v w→Below w.heap.size w w'→p v w':=by
 intro p hp v w w' h hb
 have row:∀ {b:Nat} {o:Obj},w.heap[b]?=some o→w'.heap[b]?=some o:=fun hr=>(hb.block _ (heap_lt hr)).trans hr
 unfold partFacts at hp
 simp only[List.mem_cons,List.not_mem_nil,or_false] at hp
 rcases hp with rfl | rfl | rfl | rfl | rfl | rfl | rfl | rfl | rfl | rfl | rfl | rfl | rfl | rfl | rfl | rfl
 ·exact h
 ·exact h
 ·exact h
 ·exact h
 ·obtain⟨b,h1,h2⟩:=h;exact⟨b,h1,row h2⟩
 ·exact own_below h hb
 ·exact h
 ·exact h
 ·obtain⟨b,h1,h2⟩:=h;exact⟨b,h1,row h2⟩
 ·exact own_below h hb
 ·exact h
 ·exact h
 ·exact h
 ·exact own_below h hb
 ·obtain⟨v1,v2,v3,h1,h2,h3,h4⟩:=h;exact⟨v1,v2,v3,h1,own_below h2 hb,own_below h3 hb,own_below h4 hb⟩
 ·obtain⟨b,h1,h2,h3⟩:=h;exact⟨b,h1,h2,row h3⟩
theorem frz_row {w:World} {b:Nat} {cs:Array Value} {T:TypeId} (h:w.heap[b]?=some (.cells cs T (0,0))) (i:Nat):w.frozen? ⟨b,i,none⟩=false:=by
 unfold World.frozen?
 rw[h]
 simp
theorem own_ne {w:World} {base n z b:Nat} {e T:TypeId} {v:Value} {xs:List Value} {cs:Array Value} (h:w.ownsRow base e z v n xs) (hb:w.heap[b]?=some (.cells cs T (0,0))) (hT:T≠e):v.ownBlock≠some b:=by
 intro hv
 rcases h.2 with ⟨rfl,_⟩ | ⟨g,cap,cur,rfl,_,hg,_⟩
 ·cases hv
 ·obtain rfl:g=b:=by simpa[Value.ownBlock] using hv
  rw[hg] at hb
  cases hb
  exact hT rfl
theorem grown_set {w:World} (b k:Nat) (u:Value):w.grownBy (w.setCell ⟨b,k,none⟩ u) (some b):=
 ⟨rfl,rfl,rfl,by simp[World.setCell],fun i _ hr=>Below.heap_setCell w ⟨b,k,none⟩ u i (fun e=>hr (by rw[e]))⟩
theorem set17 {w:World} {b:Nat} {T:TypeId} {z0 z1 z2 z3 z4 z5 z6 z7 z8 z9 z10 z11 z12 z13 z14 z15 z16 c0 c1 c2 c3 c4 c5 c6 c7 c8 c9 c10 c11 c12 c13 c14 c15 c16:Value} (h:w.heap[b]?=some (.cells #[z0,z1,z2,z3,z4,z5,z6,z7,z8,z9,z10,z11,z12,z13,z14,z15,z16] T (0,0))) :
  (((((((((((((((((w.setCell ⟨b,0,none⟩ c0).setCell ⟨b,1,none⟩ c1).setCell ⟨b,2,none⟩ c2).setCell ⟨b,3,none⟩ c3).setCell ⟨b,4,none⟩ c4).setCell ⟨b,5,none⟩ c5).setCell ⟨b,6,none⟩ c6).setCell ⟨b,7,none⟩ c7).setCell ⟨b,8,none⟩ c8).setCell ⟨b,9,none⟩ c9).setCell ⟨b,10,none⟩ c10).setCell ⟨b,11,none⟩ c11).setCell ⟨b,12,none⟩ c12).setCell ⟨b,13,none⟩ c13).setCell ⟨b,14,none⟩ c14).setCell ⟨b,15,none⟩ c15).setCell ⟨b,16,none⟩ c16).heap[b]?=some (.cells #[c0,c1,c2,c3,c4,c5,c6,c7,c8,c9,c10,c11,c12,c13,c14,c15,c16] T (0,0))∧w.grownBy (((((((((((((((((w.setCell ⟨b,0,none⟩ c0).setCell ⟨b,1,none⟩ c1).setCell ⟨b,2,none⟩ c2).setCell ⟨b,3,none⟩ c3).setCell ⟨b,4,none⟩ c4).setCell ⟨b,5,none⟩ c5).setCell ⟨b,6,none⟩ c6).setCell ⟨b,7,none⟩ c7).setCell ⟨b,8,none⟩ c8).setCell ⟨b,9,none⟩ c9).setCell ⟨b,10,none⟩ c10).setCell ⟨b,11,none⟩ c11).setCell ⟨b,12,none⟩ c12).setCell ⟨b,13,none⟩ c13).setCell ⟨b,14,none⟩ c14).setCell ⟨b,15,none⟩ c15).setCell ⟨b,16,none⟩ c16) (some b):=by
 refine⟨by simpa using (rowSet (rowSet (rowSet (rowSet (rowSet (rowSet (rowSet (rowSet (rowSet (rowSet (rowSet (rowSet (rowSet (rowSet (rowSet (rowSet (rowSet h 0 c0) 1 c1) 2 c2) 3 c3) 4 c4) 5 c5) 6 c6) 7 c7) 8 c8) 9 c9) 10 c10) 11 c11) 12 c12) 13 c13) 14 c14) 15 c15) 16 c16),?_⟩
 exact (grown_set b 0 c0).trans ((grown_set b 1 c1).trans ((grown_set b 2 c2).trans ((grown_set b 3 c3).trans ((grown_set b 4 c4).trans ((grown_set b 5 c5).trans ((grown_set b 6 c6).trans ((grown_set b 7 c7).trans ((grown_set b 8 c8).trans ((grown_set b 9 c9).trans ((grown_set b 10 c10).trans ((grown_set b 11 c11).trans ((grown_set b 12 c12).trans ((grown_set b 13 c13).trans ((grown_set b 14 c14).trans ((grown_set b 15 c15).trans ((grown_set b 16 c16)))))))))))))))))
theorem hta_len {r:Ru} (h:FewR r) {l:Lt} (hl:l ∈ r.body):l.a.l.length≤1000000:=h.b.2 l hl
theorem hid_below {v:Value} {W W':World} (h:Below W.heap.size W W'):∀ p c,(hidO v W).cell? p=some c→(hidO v W').cell? p=some c:=fun p c hc=>by
 obtain⟨h1,h2⟩:=hidO_cell hc
 exact cell_hidO ((World.cell?_of_block (h.block _ (World.block_lt_of_cell? _ _ h2))).trans h2) h1
theorem hid_step {v v':Value} {W W':World} (h:W.grownBy W' v.ownBlock) (hb:v'.ownBlock=v.ownBlock∨v'.ownBlock=some W.heap.size):∀ p c,(hidO v W).cell? p=some c→(hidO v' W').cell? p=some c:=fun p c hc=>by
 obtain⟨h1,h2⟩:=hidO_cell hc
 have hlt:=World.block_lt_of_cell? _ _ h2
 refine cell_hidO ((World.cell?_of_block (h.block _ hlt (fun e=>h1 e.symm))).trans h2) ?_
 rcases hb with hb | hb <;> rw[hb]
 ·exact h1
 ·intro e;have:=Option.some.inj e;omega
theorem outF_eq (r:Ru) (l:List Tm):outerZ r l=outF (fun s=>(standZ r s:Int)) l:=by
 unfold outerZ outF
 refine List.filter_congr fun s _=>?_
 show decide (1 < standZ r s.data.toList)=decide (1 < (standZ r s.data.toList:Int))
 exact decide_eq_decide.2 (by omega)
set_option maxRecDepth 100000 in
set_option maxHeartbeats 16000000 in
theorem partsOf_c (r:Ru) (cs:List Value) (w:World) (hc:RuC w w.heap.size r cs) (hf:FewR r) :
  Calls Tryz.prog 69 #[.agg cs.toArray] w fun e w'=>∃ v xs,e=.returned v∧w'.ownsRow w.heap.size 105 17 v (partsZ r).length xs∧Laid 17 (PtC (hidO v w') w'.heap.size) (partsZ r) xs∧Below w.heap.size w w':=by
 obtain⟨o0,k0,o1,k1,rfl,_,hh,hbd⟩:=hc.look
 obtain⟨o2,k2,e2,hc2,hm2,S2⟩:=SlOf.open hbd
 cases e2
 obtain⟨i0,zP,hi,hz0,hz1,hz2,hzc⟩:=info_pt2
 have HSt:=hid (fun x:Obj=>standings_c r _ (w.alloc x) ((hc.below ((Below.refl _ _).alloc (Nat.le_refl _) x)).more (by simp)) hf)
 have HB0:=hid (fun x:Obj=>(Below.refl w.heap.size w).alloc (Nat.le_refl _) x)
 have HF:=hid hf
 have R0:=hid (World.alloc_heap_new w (.cells #[.string r.head.rel,.slice o0 r.head.l.length k0,.slice o1 r.body.length k1,.int .i64 r.line] 37))
 clear hc hh hbd hf
 go_enter Tryz.func69,Tryz.ntmps69
 go_wp2_with fail
 refine (HSt.out _).mono ?_
 rintro e1 w1 ⟨M,nM,cM,rfl,hMb,hM,b1⟩
 have R1:=hid ((b1.block w.heap.size (by simp)).trans R0.out)
 have B1:=hid ((HB0.out _).trans (b1.mono (by simp)))
 have hz1':=B1.out.size
 obtain⟨x0,x1,x2,x3⟩:=row4 R1.out
 have hlt1:=heap_lt R1.out
 have HM:=hid hM
 clear b1 hM HSt
 go_wp2_with fail
 go_loopw [4,13] (fun lv i wr=>∃ (k:Nat) (acc:List Pt) (xs:List Value),k≤r.body.length∧i=.int .i64 k∧(r.body.take k).mapIdx (ptZ r)=acc∧wr.ownsRow w1.heap.size 105 17 lv acc.length xs∧Laid 17 (PtC (hidO lv wr) wr.heap.size) acc xs∧Below w1.heap.size w1 wr) (fun _ i _=>r.body.length - (intOf i).toNat)
 case atStart=>exact⟨0,[],[],Nat.zero_le _,rfl,rfl,World.ownsRow_nil _ _ _ _,Laid.nil,Below.refl _ _⟩
 case round=>
  obtain⟨k,acc,xs,hk,rfl,hacc,hO,hL,hB⟩:=hrel
  have Hacl:Hid (acc.length=k):=hid (by rw[← hacc,List.length_mapIdx,List.length_take];omega)
  have Hacc:=hid hacc
  have HO:=hid hO
  have HL:=hid hL
  have HB:=hid hB
  have hsz:=hB.size
  have Hbw:Hid (Below w.heap.size w wr):=hid (B1.out.trans (hB.mono hz1'))
  obtain⟨ov,cv,rfl⟩:=own_shape hO
  clear hacc hO hL hB
  by_cases hlt:k < r.body.length
  ·have hlt':(k:Int) < (r.body.length:Int):=by omega
   have hk0:(0:Int)≤(k:Int):=by omega
   obtain⟨t,ht⟩:∃ t,r.body[k]?=some t:=⟨r.body[k],List.getElem?_eq_getElem hlt⟩
   obtain⟨a,p0,q0,p1,q1,p2,q2,rfl,ha,Hc,hcells⟩:=lt_at0 S2 Hbw.out ht
   obtain⟨z0,z1,z2,z3,z4,z5,ze,_,hta,htx,hty⟩:=Hc.out.look
   cases ze
   have hta':TmS w w.heap.size t.a.l (.slice p0 t.a.l.length q0):=by obtain⟨v,e,_,h⟩:=hta;cases e;exact h
   obtain⟨c0,c1,c2,c3,c4,c5,c6,c7,c8,c9,c10⟩:=hcells.n11
   have hal:(a.add (k * 11)).block < wr.heap.size:=by rw[addBlock];have:=Hbw.out.size;omega
   have Hst:=hid (parts_take ht)
   have Hfl:=hid (few_lit HF.out (List.mem_of_getElem? ht))
   have Hta:=hid hta'
   have Hmem:=hid (List.mem_of_getElem? ht)
   have Htx:=hid htx
   have Hty:=hid hty
   obtain⟨V,hV⟩:∃ V,wr.alloc (.cells #[.int .i64 t.op,.string t.a.rel,.slice p0 t.a.l.length q0,.int .i64 t.x.op,.string t.x.s,.int .i64 t.x.n,.slice p1 t.x.l.length q1,.int .i64 t.y.op,.string t.y.s,.int .i64 t.y.n,.slice p2 t.y.l.length q2] 56)=V:=⟨_,rfl⟩
   have hVb:Below wr.heap.size wr V:=by rw[← hV];exact (Below.refl _ _).alloc (Nat.le_refl _) _
   have hVs:V.heap.size=wr.heap.size+1:=by rw[← hV];simp
   have RV:Hid (V.heap[wr.heap.size]?=some (.cells #[.int .i64 t.op,.string t.a.rel,.slice p0 t.a.l.length q0,.int .i64 t.x.op,.string t.x.s,.int .i64 t.x.n,.slice p1 t.x.l.length q1,.int .i64 t.y.op,.string t.y.s,.int .i64 t.y.n,.slice p2 t.y.l.length q2] 56 (0,0))):=hid (by rw[← hV];exact World.alloc_heap_new wr _)
   have HVb:=hid hVb
   clear ht hta hta' htx hty hcells hVb
   go_wp2_with fail
   have HVs:=hid hVs
   refine wp_region_any (by kernel_rfl) ?_
   (try (change wpAny _ _ _ _ _ _ _ (World.drew _)))
   refine wpAny_last 16 [14,14,3,4,5,14,7,8,9,14,11,12,13,14,16,16] [some 18,some 19,some 20,some 21,some 22,some 23,some 24,some 25,some 26,some 27,some 28,some 29,some 30,some 31,some 32,some 7,none] _ _ (partFacts k t wr.heap.size V.heap.size [.int .i64 t.op,.string t.a.rel,.slice p0 t.a.l.length q0,.int .i64 t.x.op,.string t.x.s,.int .i64 t.x.n,.slice p1 t.x.l.length q1,.int .i64 t.y.op,.string t.y.s,.int .i64 t.y.n,.slice p2 t.y.l.length q2] [.int .i64 t.x.op,.string t.x.s,.int .i64 t.x.n,.slice p1 t.x.l.length q1] [.int .i64 t.y.op,.string t.y.s,.int .i64 t.y.n,.slice p2 t.y.l.length q2] (.slice p0 t.a.l.length q0)) (by kernel_rfl) (by kernel_rfl) (by kernel_rfl) (by kernel_rfl)
    (fun val W=>∃ b v1 v2 v3,val 15=.pointer (some ⟨b,0,none⟩)∧V.heap.size≤b∧W.heap[b]?=some (.cells #[.int .i64 k,.int .i64 t.op,.string t.a.rel,.slice p0 t.a.l.length q0,.int .i64 t.x.op,.string t.x.s,.int .i64 t.x.n,.slice p1 t.x.l.length q1,.int .i64 t.y.op,.string t.y.s,.int .i64 t.y.n,.slice p2 t.y.l.length q2,v1,v2,v3,.slice none 0 0,.slice none 0 0] 105 (0,0))∧OwnF V.heap.size (vz [t.x]) v1 W∧OwnF V.heap.size (vz [t.y]) v2 W∧OwnF V.heap.size (vz t.a.l) v3 W∧Below V.heap.size V W)
    (by kernel_rfl) (by kernel_rfl) (by kernel_rfl) (partFacts_mono _ _ _ _ _ _ _ _) ⟨?s0,?s1,?s2,?s3,?s4,?s5,?s6,?s7,?s8,?s9,?s10,?s11,?s12,?s13,?s14,?s15,trivial⟩ ?last ?fin
   case s0=>
    intro A w' K hb hfar hd hK
    have e5:A.tmps[5]?.getD undef=.int .i64 (k:Int):=hfar 5 (by decide)
    unfold Oper.wp
    simp[execOp,e5,go_sem,Result.andThen]
    exact hK _ _ (Below.refl _ _) (factG_mk rfl rfl)
   case s1=>
    intro A w' K hb hfar hd hK
    have e6:A.tmps[6]?.getD undef=.pointer (some ⟨wr.heap.size,0,none⟩):=hfar 6 (by decide)
    have q:=(hb.block _ (by have:=HVs.out;simp;omega)).trans RV.out
    obtain⟨d0,d1,d2,d3,d4,d5,d6,d7,d8,d9,d10⟩:=row11 q
    unfold Oper.wp
    simp[execOp,e6,d0,d1,d2,d3,d4,d5,d6,d7,d8,d9,d10,go_sem,Result.andThen]
    exact hK _ _ (Below.refl _ _) (factG_mk rfl rfl)
   case s2=>
    intro A w' K hb hfar hd hK
    have e6:A.tmps[6]?.getD undef=.pointer (some ⟨wr.heap.size,0,none⟩):=hfar 6 (by decide)
    unfold Oper.wp
    simp[execOp,e6,go_sem,Result.andThen]
    exact hK _ _ (Below.refl _ _) (factG_mk rfl rfl)
   case s3=>
    intro A w' K hb hfar hd hK
    have e1:A.tmps[20]?.getD undef=.pointer (some ⟨wr.heap.size,3,none⟩):=hd 2 20 rfl (by kernel_rfl) _ rfl
    have q:=(hb.block _ (by have:=HVs.out;simp;omega)).trans RV.out
    obtain⟨d0,d1,d2,d3,d4,d5,d6,d7,d8,d9,d10⟩:=row11 q
    unfold Oper.wp
    simp[execOp,e1,d3,d4,d5,d6,go_sem,Result.andThen]
    exact hK _ _ (Below.refl _ _) (factG_mk rfl rfl)
   case s4=>
    intro A w' K hb hfar hd hK
    have e1:A.tmps[21]?.getD undef=.agg #[.int .i64 t.x.op,.string t.x.s,.int .i64 t.x.n,.slice p1 t.x.l.length q1]:=hd 3 21 rfl (by kernel_rfl) _ rfl
    unfold Oper.wp
    simp[execOp,e1,go_sem,Result.andThen]
    exact hK _ _ ((Below.refl _ _).alloc (Nat.le_refl _) _) (factG_mk rfl ⟨_,rfl,World.alloc_heap_new w' _⟩)
   case s5=>
    intro A w' K hb hfar hd hK
    obtain⟨b,e1,hr⟩:∃ b,A.tmps[22]?.getD undef=.slice (some ⟨b,0,none⟩) 1 1∧w'.heap[b]?=some (.cells #[.int .i64 t.x.op,.string t.x.s,.int .i64 t.x.n,.slice p1 t.x.l.length q1] 51 (0,0)):=hd 4 22 rfl (by kernel_rfl) _ rfl
    have hbw:Below w.heap.size w w':=Hbw.out.trans ((HVb.out.trans ((drewZ hb).mono (by have:=HVs.out;show wr.heap.size≤V.heap.size;omega))).mono Hbw.out.size)
    have hT:=vzO_c [t.x] _ w' (tm_row1 hr ((Htx.out.under hbw).more hbw.size)) Hfl.out.1
    unfold Oper.wp
    simp[execOp,e1,go_sem,Result.andThen]
    refine hT.mono ?_
    rintro e3 w3 ⟨v,rfl,h1,b3⟩
    exact hK _ _ b3 (factG_mk rfl (own_base h1 hb.size))
   case s6=>
    intro A w' K hb hfar hd hK
    have e6:A.tmps[6]?.getD undef=.pointer (some ⟨wr.heap.size,0,none⟩):=hfar 6 (by decide)
    unfold Oper.wp
    simp[execOp,e6,go_sem,Result.andThen]
    exact hK _ _ (Below.refl _ _) (factG_mk rfl rfl)
   case s7=>
    intro A w' K hb hfar hd hK
    have e1:A.tmps[24]?.getD undef=.pointer (some ⟨wr.heap.size,7,none⟩):=hd 6 24 rfl (by kernel_rfl) _ rfl
    have q:=(hb.block _ (by have:=HVs.out;simp;omega)).trans RV.out
    obtain⟨d0,d1,d2,d3,d4,d5,d6,d7,d8,d9,d10⟩:=row11 q
    unfold Oper.wp
    simp[execOp,e1,d7,d8,d9,d10,go_sem,Result.andThen]
    exact hK _ _ (Below.refl _ _) (factG_mk rfl rfl)
   case s8=>
    intro A w' K hb hfar hd hK
    have e1:A.tmps[25]?.getD undef=.agg #[.int .i64 t.y.op,.string t.y.s,.int .i64 t.y.n,.slice p2 t.y.l.length q2]:=hd 7 25 rfl (by kernel_rfl) _ rfl
    unfold Oper.wp
    simp[execOp,e1,go_sem,Result.andThen]
    exact hK _ _ ((Below.refl _ _).alloc (Nat.le_refl _) _) (factG_mk rfl ⟨_,rfl,World.alloc_heap_new w' _⟩)
   case s9=>
    intro A w' K hb hfar hd hK
    obtain⟨b,e1,hr⟩:∃ b,A.tmps[26]?.getD undef=.slice (some ⟨b,0,none⟩) 1 1∧w'.heap[b]?=some (.cells #[.int .i64 t.y.op,.string t.y.s,.int .i64 t.y.n,.slice p2 t.y.l.length q2] 51 (0,0)):=hd 8 26 rfl (by kernel_rfl) _ rfl
    have hbw:Below w.heap.size w w':=Hbw.out.trans ((HVb.out.trans ((drewZ hb).mono (by have:=HVs.out;show wr.heap.size≤V.heap.size;omega))).mono Hbw.out.size)
    have hT:=vzO_c [t.y] _ w' (tm_row1 hr ((Hty.out.under hbw).more hbw.size)) Hfl.out.2.1
    unfold Oper.wp
    simp[execOp,e1,go_sem,Result.andThen]
    refine hT.mono ?_
    rintro e3 w3 ⟨v,rfl,h1,b3⟩
    exact hK _ _ b3 (factG_mk rfl (own_base h1 hb.size))
   case s10=>
    intro A w' K hb hfar hd hK
    have e6:A.tmps[6]?.getD undef=.pointer (some ⟨wr.heap.size,0,none⟩):=hfar 6 (by decide)
    unfold Oper.wp
    simp[execOp,e6,go_sem,Result.andThen]
    exact hK _ _ (Below.refl _ _) (factG_mk rfl rfl)
   case s11=>
    intro A w' K hb hfar hd hK
    have e1:A.tmps[28]?.getD undef=.pointer (some ⟨wr.heap.size,1,none⟩):=hd 10 28 rfl (by kernel_rfl) _ rfl
    unfold Oper.wp
    simp[execOp,e1,go_sem,Result.andThen]
    exact hK _ _ (Below.refl _ _) (factG_mk rfl rfl)
   case s12=>
    intro A w' K hb hfar hd hK
    have e1:A.tmps[29]?.getD undef=.pointer (some ⟨wr.heap.size,2,none⟩):=hd 11 29 rfl (by kernel_rfl) _ rfl
    have q:=(hb.block _ (by have:=HVs.out;simp;omega)).trans RV.out
    obtain⟨d0,d1,d2,d3,d4,d5,d6,d7,d8,d9,d10⟩:=row11 q
    unfold Oper.wp
    simp[execOp,e1,d2,go_sem,Result.andThen]
    exact hK _ _ (Below.refl _ _) (factG_mk rfl rfl)
   case s13=>
    intro A w' K hb hfar hd hK
    have e1:A.tmps[30]?.getD undef=.slice p0 t.a.l.length q0:=hd 12 30 rfl (by kernel_rfl) _ rfl
    have hbw:Below w.heap.size w w':=Hbw.out.trans ((HVb.out.trans ((drewZ hb).mono (by have:=HVs.out;show wr.heap.size≤V.heap.size;omega))).mono Hbw.out.size)
    have hT:=vzO_c t.a.l _ w' ((Hta.out.below hbw).more hbw.size) Hfl.out.2.2.1
    unfold Oper.wp
    simp[execOp,e1,go_sem,Result.andThen]
    refine hT.mono ?_
    rintro e3 w3 ⟨v,rfl,h1,b3⟩
    exact hK _ _ b3 (factG_mk rfl (own_base h1 hb.size))
   case s14=>
    intro A w' K hb hfar hd hK
    have e1:A.tmps[18]?.getD undef=.int .i64 (k:Int):=hd 0 18 rfl (by kernel_rfl) _ rfl
    have e2:A.tmps[19]?.getD undef=.agg #[.int .i64 t.op,.string t.a.rel,.slice p0 t.a.l.length q0,.int .i64 t.x.op,.string t.x.s,.int .i64 t.x.n,.slice p1 t.x.l.length q1,.int .i64 t.y.op,.string t.y.s,.int .i64 t.y.n,.slice p2 t.y.l.length q2]:=hd 1 19 rfl (by kernel_rfl) _ rfl
    have f3:OwnF V.heap.size (vz [t.x]) (A.tmps[23]?.getD undef) w':=hd 5 23 rfl (by kernel_rfl) _ rfl
    have f4:OwnF V.heap.size (vz [t.y]) (A.tmps[27]?.getD undef) w':=hd 9 27 rfl (by kernel_rfl) _ rfl
    have f5:OwnF V.heap.size (vz t.a.l) (A.tmps[31]?.getD undef) w':=hd 13 31 rfl (by kernel_rfl) _ rfl
    obtain⟨a3,b3,e3⟩:=own_shape f3
    obtain⟨a4,b4,e4⟩:=own_shape f4
    obtain⟨a5,b5,e5⟩:=own_shape f5
    rw[e3] at f3
    rw[e4] at f4
    rw[e5] at f5
    have F3:=hid f3
    have F4:=hid f4
    have F5:=hid f5
    clear f3 f4 f5
    unfold Oper.wp
    simp[execOp,e1,e2,e3,e4,e5,go_sem,Result.andThen]
    exact hK _ _ (Below.refl _ _) (factG_mk rfl ⟨_,_,_,rfl,F3.out,F4.out,F5.out⟩)
   case s15=>
    intro A w' K hb hfar hd hK
    unfold Oper.wp
    simp[execOp,go_sem,Result.andThen]
    exact hK _ _ ((Below.refl _ _).alloc (Nat.le_refl _) _) (factG_mk rfl ⟨_,rfl,hb.size,World.alloc_heap_new w' _⟩)
   case last=>
    rintro o ho
    cases ho
    intro A w' val K hb hfar hd hF hK
    obtain⟨⟨b,e1,hbB,hrow⟩,e15⟩:(∃ b,A.tmps[7]?.getD undef=.pointer (some ⟨b,0,none⟩)∧V.heap.size≤b∧w'.heap[b]?=some (.cells #[.int .i64 0,.int .i64 0,.string ⟨#[]⟩,.slice none 0 0,.int .i64 0,.string ⟨#[]⟩,.int .i64 0,.slice none 0 0,.int .i64 0,.string ⟨#[]⟩,.int .i64 0,.slice none 0 0,.slice none 0 0,.slice none 0 0,.slice none 0 0,.slice none 0 0,.slice none 0 0] 105 (0,0)))∧A.tmps[7]?.getD undef=val 15:=⟨(hd 15 7 rfl (by kernel_rfl)).1 _ rfl,(hd 15 7 rfl (by kernel_rfl)).2⟩
    obtain⟨v1,v2,v3,e2,h1,h2,h3⟩:∃ v1 v2 v3,A.tmps[32]?.getD undef=.agg #[.int .i64 k,.int .i64 t.op,.string t.a.rel,.slice p0 t.a.l.length q0,.int .i64 t.x.op,.string t.x.s,.int .i64 t.x.n,.slice p1 t.x.l.length q1,.int .i64 t.y.op,.string t.y.s,.int .i64 t.y.n,.slice p2 t.y.l.length q2,v1,v2,v3,.slice none 0 0,.slice none 0 0]∧OwnF V.heap.size (vz [t.x]) v1 w'∧OwnF V.heap.size (vz [t.y]) v2 w'∧OwnF V.heap.size (vz t.a.l) v3 w':=(hd 14 32 rfl (by kernel_rfl)).1 _ rfl
    have hbl:=heap_lt hrow
    have n1:=own_ne h1 hrow (by decide)
    have n2:=own_ne h2 hrow (by decide)
    have n3:=own_ne h3 hrow (by decide)
    obtain⟨a3,b3,rfl⟩:=own_shape h1
    obtain⟨a4,b4,rfl⟩:=own_shape h2
    obtain⟨a5,b5,rfl⟩:=own_shape h3
    obtain⟨g0,g1,g2,g3,g4,g5,g6,g7,g8,g9,g10,g11,g12,g13,g14,g15,g16⟩:=row17 hrow
    have fz:∀ i,w'.frozen? ⟨b,i,none⟩=false:=fun i=>frz_row hrow i
    rw[e1] at e15
    unfold Oper.wp
    simp[execOp,e1,e2,g0,g1,g2,g3,g4,g5,g6,g7,g8,g9,g10,g11,g12,g13,g14,g15,g16,fz,go_sem,Result.andThen]
    have S17:=set17 (c0:=.int .i64 k) (c1:=.int .i64 t.op) (c2:=.string t.a.rel) (c3:=.slice p0 t.a.l.length q0) (c4:=.int .i64 t.x.op) (c5:=.string t.x.s) (c6:=.int .i64 t.x.n) (c7:=.slice p1 t.x.l.length q1) (c8:=.int .i64 t.y.op) (c9:=.string t.y.s) (c10:=.int .i64 t.y.n) (c11:=.slice p2 t.y.l.length q2) (c12:=.slice a3 (vz [t.x]).length b3) (c13:=.slice a4 (vz [t.y]).length b4) (c14:=.slice a5 (vz t.a.l).length b5) (c15:=.slice none 0 0) (c16:=.slice none 0 0) hrow
    exact hK undef _ ⟨b,_,_,_,(updV_other val undef (by decide)).trans e15.symm,hbB,S17.1,h1.kept S17.2 (.inr n1),h2.kept S17.2 (.inr n2),h3.kept S17.2 (.inr n3),(drewZ hb).grown S17.2 (by have:=hb.size;exact this) (fun q hq=>by have:=Option.some.inj hq;have:=hbB;show V.heap.size≤q;omega)⟩
   case fin=>
    rintro val w5 ⟨b,v1,v2,v3,h15,hb5,hrow,h1,h2,h3,hB5⟩
    simp only[putsA,Nat.zero_add,Nat.reduceAdd,h15]
    obtain⟨u0,hu0⟩:∃ v,val 0=v:=⟨_,rfl⟩
    obtain⟨u1,hu1⟩:∃ v,val 1=v:=⟨_,rfl⟩
    obtain⟨u2,hu2⟩:∃ v,val 2=v:=⟨_,rfl⟩
    obtain⟨u3,hu3⟩:∃ v,val 3=v:=⟨_,rfl⟩
    obtain⟨u4,hu4⟩:∃ v,val 4=v:=⟨_,rfl⟩
    obtain⟨u5,hu5⟩:∃ v,val 5=v:=⟨_,rfl⟩
    obtain⟨u6,hu6⟩:∃ v,val 6=v:=⟨_,rfl⟩
    obtain⟨u7,hu7⟩:∃ v,val 7=v:=⟨_,rfl⟩
    obtain⟨u8,hu8⟩:∃ v,val 8=v:=⟨_,rfl⟩
    obtain⟨u9,hu9⟩:∃ v,val 9=v:=⟨_,rfl⟩
    obtain⟨u10,hu10⟩:∃ v,val 10=v:=⟨_,rfl⟩
    obtain⟨u11,hu11⟩:∃ v,val 11=v:=⟨_,rfl⟩
    obtain⟨u12,hu12⟩:∃ v,val 12=v:=⟨_,rfl⟩
    obtain⟨u13,hu13⟩:∃ v,val 13=v:=⟨_,rfl⟩
    obtain⟨u14,hu14⟩:∃ v,val 14=v:=⟨_,rfl⟩
    rw[hu0,hu1,hu2,hu3,hu4,hu5,hu6,hu7,hu8,hu9,hu10,hu11,hu12,hu13,hu14]
    clear hu0 hu1 hu2 hu3 hu4 hu5 hu6 hu7 hu8 hu9 hu10 hu11 hu12 hu13 hu14 h15
    obtain⟨a3,b3,rfl⟩:=own_shape h1
    obtain⟨a4,b4,rfl⟩:=own_shape h2
    obtain⟨a5,b5,rfl⟩:=own_shape h3
    have R5:Hid (w5.heap[wr.heap.size]?=some (.cells #[.int .i64 t.op,.string t.a.rel,.slice p0 t.a.l.length q0,.int .i64 t.x.op,.string t.x.s,.int .i64 t.x.n,.slice p1 t.x.l.length q1,.int .i64 t.y.op,.string t.y.s,.int .i64 t.y.n,.slice p2 t.y.l.length q2] 56 (0,0))):=hid ((hB5.block _ (by have:=HVs.out;omega)).trans RV.out)
    have Q5:=hid hrow
    have O1:=hid h1
    have O2:=hid h2
    have O3:=hid h3
    have B5:Hid (Below wr.heap.size wr w5):=hid (HVb.out.trans (hB5.mono (by have:=HVs.out;omega)))
    have hVw5:=hB5.size
    have Bw5:=hid (Hbw.out.trans (B5.out.mono Hbw.out.size))
    have HRk:=hid (rckOf_c t.a.l _ w5 ((Hta.out.below Bw5.out).more Bw5.out.size) (hta_len HF.out Hmem.out))
    obtain⟨d0,d1,d2,d3,d4,d5,d6,d7,d8,d9,d10⟩:=row11 R5.out
    have hl5:=heap_lt R5.out
    clear hrow h1 h2 h3 hB5
    go_simp
    go_wp2_with fail
    refine HRk.out.mono ?_
    rintro e6 w6 ⟨u,rfl,hT6,b6⟩
    have HV6:=hid (vzO_c (t.a.l.filter rckT) u w6 hT6 Hfl.out.2.2.2)
    obtain⟨ou,ku,rfl,_⟩:=SlOf.uni hT6
    have B6:=hid (B5.out.trans (b6.mono B5.out.size))
    have Q6:=hid ((b6.block _ (heap_lt Q5.out)).trans Q5.out)
    have R6:=hid ((b6.block _ hl5).trans R5.out)
    have O1:=hid (own_below O1.out b6)
    have O2:=hid (own_below O2.out b6)
    have O3:=hid (own_below O3.out b6)
    have hs6:=b6.size
    clear b6 HRk d0 d1 d2 d3 d4 d5 d6 d7 d8 d9 d10 hT6
    go_wp2_with fail
    refine HV6.out.mono ?_
    rintro e7 w7 ⟨v4,rfl,hO4,b7⟩
    have B7:=hid (B6.out.trans (b7.mono B6.out.size))
    have Q7:=hid ((b7.block _ (heap_lt Q6.out)).trans Q6.out)
    have R7:=hid ((b7.block _ (heap_lt R6.out)).trans R6.out)
    have O1:=hid (own_below O1.out b7)
    have O2:=hid (own_below O2.out b7)
    have O3:=hid (own_below O3.out b7)
    have hO4':OwnF V.heap.size (vz (t.a.l.filter rckT)) v4 w7:=own_base hO4 (by omega)
    obtain⟨a6,b6,rfl⟩:=own_shape hO4
    have O4:=hid hO4'
    have hs7:=b7.size
    have hlq:=heap_lt Q7.out
    obtain⟨g0,g1,g2,g3,g4,g5,g6,g7,g8,g9,g10,g11,g12,g13,g14,g15,g16⟩:=row17 Q7.out
    have fz:=frz_row Q7.out 15
    have S8:Hid ((w7.setCell ⟨b,15,none⟩ (.slice a6 (vz (t.a.l.filter rckT)).length b6)).heap[b]?=some (.cells #[.int .i64 k,.int .i64 t.op,.string t.a.rel,.slice p0 t.a.l.length q0,.int .i64 t.x.op,.string t.x.s,.int .i64 t.x.n,.slice p1 t.x.l.length q1,.int .i64 t.y.op,.string t.y.s,.int .i64 t.y.n,.slice p2 t.y.l.length q2,.slice a3 (vz [t.x]).length b3,.slice a4 (vz [t.y]).length b4,.slice a5 (vz t.a.l).length b5,.slice a6 (vz (t.a.l.filter rckT)).length b6,.slice none 0 0] 105 (0,0))):=hid (rowSet Q7.out 15 _)
    have ne1:=own_ne O1.out Q7.out (by decide)
    have ne2:=own_ne O2.out Q7.out (by decide)
    have ne3:=own_ne O3.out Q7.out (by decide)
    have ne4:=own_ne O4.out Q7.out (by decide)
    have P1:=hid (own_set (u:=.slice a6 (vz (t.a.l.filter rckT)).length b6) (k:=15) O1.out ne1)
    have P2:=hid (own_set (u:=.slice a6 (vz (t.a.l.filter rckT)).length b6) (k:=15) O2.out ne2)
    have P3:=hid (own_set (u:=.slice a6 (vz (t.a.l.filter rckT)).length b6) (k:=15) O3.out ne3)
    have P4:=hid (own_set (u:=.slice a6 (vz (t.a.l.filter rckT)).length b6) (k:=15) O4.out ne4)
    have BS:Hid (Below wr.heap.size wr (w7.setCell ⟨b,15,none⟩ (.slice a6 (vz (t.a.l.filter rckT)).length b6))):=hid (B7.out.grown (grown_set b 15 _) B7.out.size (fun q hq=>by have:=Option.some.inj hq;have:=HVs.out;omega))
    have RS:Hid ((w7.setCell ⟨b,15,none⟩ (.slice a6 (vz (t.a.l.filter rckT)).length b6)).heap[wr.heap.size]?=some (.cells #[.int .i64 t.op,.string t.a.rel,.slice p0 t.a.l.length q0,.int .i64 t.x.op,.string t.x.s,.int .i64 t.x.n,.slice p1 t.x.l.length q1,.int .i64 t.y.op,.string t.y.s,.int .i64 t.y.n,.slice p2 t.y.l.length q2] 56 (0,0))):=hid ((Below.heap_setCell w7 ⟨b,15,none⟩ _ wr.heap.size (by show wr.heap.size≠b;have:=HVs.out;omega)).trans R7.out)
    obtain⟨W8,hW8⟩:∃ W8,w7.setCell ⟨b,15,none⟩ (.slice a6 (vz (t.a.l.filter rckT)).length b6)=W8:=⟨_,rfl⟩
    have hs8:W8.heap.size=w7.heap.size:=by rw[← hW8];simp[World.setCell]
    rw[hW8] at S8 P1 P2 P3 P4 BS RS
    obtain⟨d0,d1,d2,d3,d4,d5,d6,d7,d8,d9,d10⟩:=row11 RS.out
    have hl8:=heap_lt RS.out
    have HAG:=hid (fun (W:World)=>isAgg_v t (.string t.a.rel) (.slice p0 t.a.l.length q0) (.int .i64 t.x.op) (.string t.x.s) (.int .i64 t.x.n) (.slice p1 t.x.l.length q1) (.int .i64 t.y.op) (.string t.y.s) (.int .i64 t.y.n) (.slice p2 t.y.l.length q2) W)
    clear b7 hO4 hO4' HV6 ne1 ne2 ne3 ne4 O1 O2 O3 O4
    go_wp2_with fail
    refine (HAG.out _).mono ?_
    rintro e9 w9 ⟨rfl,b9⟩
    have B9:=hid (BS.out.trans (b9.mono BS.out.size))
    have VW9:Hid (V.heap.size≤w9.heap.size):=hid (by have:=b9.size;omega)
    have Q9:=hid ((b9.block _ (heap_lt S8.out)).trans S8.out)
    have R9:=hid ((b9.block _ hl8).trans RS.out)
    have P1:=hid (own_below P1.out b9)
    have P2:=hid (own_below P2.out b9)
    have P3:=hid (own_below P3.out b9)
    have P4:=hid (own_below P4.out b9)
    clear b9 d0 d1 d2 d3 d4 d5 d6 d7 d8 d9 d10 g0 g1 g2 g3 g4 g5 g6 g7 g8 g9 g10 g11 g12 g13 g14 g15 g16 fz HAG
    cases hag:aggO t.op with
    | false=>
     have HOW:=hid (own_below HO.out B9.out)
     have hpt:ptZ r k t=⟨k,t,vz [t.x],vz [t.y],vz t.a.l,vz (t.a.l.filter rckT),[]⟩:=by unfold ptZ;rw[hag];rfl
     have hu:(Value.slice ov acc.length cv).ownBlock=none∨∃ g,(Value.slice ov acc.length cv).ownBlock=some g∧g < V.heap.size:=by
      cases hq:(Value.slice ov acc.length cv).ownBlock with
      | none=>exact .inl rfl
      | some g=>exact .inr ⟨g,rfl,by have:=(HO.out.lt g hq).2;have:=HVs.out;omega⟩
     have hPt:PtC (hidO (.slice ov acc.length cv) w9) w9.heap.size (ptZ r k t) [.int .i64 (k:Int),.int .i64 t.op,.string t.a.rel,.slice p0 t.a.l.length q0,.int .i64 t.x.op,.string t.x.s,.int .i64 t.x.n,.slice p1 t.x.l.length q1,.int .i64 t.y.op,.string t.y.s,.int .i64 t.y.n,.slice p2 t.y.l.length q2,.slice a3 (vz [t.x]).length b3,.slice a4 (vz [t.y]).length b4,.slice a5 (vz t.a.l).length b5,.slice a6 (vz (t.a.l.filter rckT)).length b6,.slice none 0 0]:=by
      rw[hpt]
      refine⟨[.int .i64 t.op,.string t.a.rel,.slice p0 t.a.l.length q0,.int .i64 t.x.op,.string t.x.s,.int .i64 t.x.n,.slice p1 t.x.l.length q1,.int .i64 t.y.op,.string t.y.s,.int .i64 t.y.n,.slice p2 t.y.l.length q2],_,_,_,_,_,rfl,(Hc.out.cells (fun p c hc=>cell_hidO ((World.cell?_of_block ((Hbw.out.trans (B9.out.mono Hbw.out.size)).block _ (World.block_lt_of_cell? _ _ hc))).trans hc) (fun e=>?_))).more (Nat.le_trans Hbw.out.size B9.out.size),own_hid P1.out hu (vz_max Hfl.out.1),own_hid P2.out hu (vz_max Hfl.out.2.1),own_hid P3.out hu (vz_max Hfl.out.2.2.1),own_hid P4.out hu (vz_max Hfl.out.2.2.2),.inl ⟨rfl,rfl⟩⟩
      have h1:=(HO.out.lt _ e).1
      have h2:=World.block_lt_of_cell? _ _ hc
      omega
     have HL3:=hid ((HL.out.mono (L':=PtC (hidO (.slice ov acc.length cv) w9) w9.heap.size) (fun x cs hx=>hx.cells (hid_below B9.out) B9.out.size)).snoc rfl hPt)
     have HS1:Hid (acc.length+1≤maxLen):=hid (by have:=Hacl.out;have:=HF.out.b.1;unfold maxLen;omega)
     have HS2:Hid ((acc.length+1) * 288≤140737488355328):=hid (by have:=Hacl.out;have:=HF.out.b.1;omega)
     have HSp:Hid (Spread (w9.alloc (.cells #[.int .i64 (k:Int),.int .i64 t.op,.string t.a.rel,.slice p0 t.a.l.length q0,.int .i64 t.x.op,.string t.x.s,.int .i64 t.x.n,.slice p1 t.x.l.length q1,.int .i64 t.y.op,.string t.y.s,.int .i64 t.y.n,.slice p2 t.y.l.length q2,.slice a3 (vz [t.x]).length b3,.slice a4 (vz [t.y]).length b4,.slice a5 (vz t.a.l).length b5,.slice a6 (vz (t.a.l.filter rckT)).length b6,.slice none 0 0] 105)) 17 (.slice (some ⟨w9.heap.size,0,none⟩) 1 1) 1 [.int .i64 (k:Int),.int .i64 t.op,.string t.a.rel,.slice p0 t.a.l.length q0,.int .i64 t.x.op,.string t.x.s,.int .i64 t.x.n,.slice p1 t.x.l.length q1,.int .i64 t.y.op,.string t.y.s,.int .i64 t.y.n,.slice p2 t.y.l.length q2,.slice a3 (vz [t.x]).length b3,.slice a4 (vz [t.y]).length b4,.slice a5 (vz t.a.l).length b5,.slice a6 (vz (t.a.l.filter rckT)).length b6,.slice none 0 0]):=hid (.inr ⟨_,_,rfl,rfl,World.news_of_block (World.alloc_heap_new _ _),by simp[Value.oneCell']⟩)
     have HBW:=hid (B9.out.alloc B9.out.size (.cells #[.int .i64 (k:Int),.int .i64 t.op,.string t.a.rel,.slice p0 t.a.l.length q0,.int .i64 t.x.op,.string t.x.s,.int .i64 t.x.n,.slice p1 t.x.l.length q1,.int .i64 t.y.op,.string t.y.s,.int .i64 t.y.n,.slice p2 t.y.l.length q2,.slice a3 (vz [t.x]).length b3,.slice a4 (vz [t.y]).length b4,.slice a5 (vz t.a.l).length b5,.slice a6 (vz (t.a.l.filter rckT)).length b6,.slice none 0 0] 105))
     have hszW:=B9.out.size
     have hlq:=heap_lt Q9.out
     clear hPt hu hpt hag
     go_wp2_with (first | (at_builtin;refine wpList_append_any _ rfl (.tmp 45) (.tmp 47) 102 rfl w1.heap.size 105 i0 zP 17 288 Tryz.underlying102 hi hz0 hz1 hz2 hzc (by decide) (.slice ov acc.length cv) acc.length _ (by simp[Act.eval,Act.put]) (HOW.out.alloc _) (.slice (some ⟨w9.heap.size,0,none⟩) 1 1) 1 _ (by simp[Act.eval,Act.put]) HSp.out HS1.out HS2.out (by simp;omega) ?_;intro vE wE hownE hgE hobE;have HOE:=hid hownE;have HGE:=hid hgE;have HBE:=hid hobE;clear hownE hgE hobE) | (refine wpList_load_pt rfl (.tmp 7) rfl b (by simp[Act.eval,Act.put]) Q9.out ?_))
     go_roundw
     case rel=>
      have hwa:w1.heap.size≤(w9.alloc (.cells #[.int .i64 (k:Int),.int .i64 t.op,.string t.a.rel,.slice p0 t.a.l.length q0,.int .i64 t.x.op,.string t.x.s,.int .i64 t.x.n,.slice p1 t.x.l.length q1,.int .i64 t.y.op,.string t.y.s,.int .i64 t.y.n,.slice p2 t.y.l.length q2,.slice a3 (vz [t.x]).length b3,.slice a4 (vz [t.y]).length b4,.slice a5 (vz t.a.l).length b5,.slice a6 (vz (t.a.l.filter rckT)).length b6,.slice none 0 0] 105)).heap.size:=by simp;omega
      refine⟨k+1,acc++[ptZ r k t],xs++[.int .i64 (k:Int),.int .i64 t.op,.string t.a.rel,.slice p0 t.a.l.length q0,.int .i64 t.x.op,.string t.x.s,.int .i64 t.x.n,.slice p1 t.x.l.length q1,.int .i64 t.y.op,.string t.y.s,.int .i64 t.y.n,.slice p2 t.y.l.length q2,.slice a3 (vz [t.x]).length b3,.slice a4 (vz [t.y]).length b4,.slice a5 (vz t.a.l).length b5,.slice a6 (vz (t.a.l.filter rckT)).length b6,.slice none 0 0],hlt,by go_num,by rw[Hst.out,Hacc.out],?_,?_,(HB.out.trans (HBW.out.mono hsz)).grown HGE.out hwa (fun q hq=>(HO.out.lt q hq).1)⟩
      ·rw[List.length_append];exact HOE.out
      ·exact HL3.out.mono (fun x cs hx=>hx.cells (fun p c hc=>hid_step HGE.out HBE.out p c (hid_below ((Below.refl _ _).alloc (Nat.le_refl _) _) p c hc)) (by have:=HGE.out.size;simp at this;omega))
     case measure=>simp[intOf];omega
    | true=>
     have Bw9:=hid (Hbw.out.trans (B9.out.mono Hbw.out.size))
     have HM9:=hid (HM.out.below (HB.out.trans (B9.out.mono hsz)) HM.out.lt)
     have HOu:=hid (outerOf_c t [.int .i64 t.op,.string t.a.rel,.slice p0 t.a.l.length q0,.int .i64 t.x.op,.string t.x.s,.int .i64 t.x.n,.slice p1 t.x.l.length q1,.int .i64 t.y.op,.string t.y.s,.int .i64 t.y.n,.slice p2 t.y.l.length q2] M nM cM (fun s=>(standZ r s:Int)) w9 ((Hc.out.below Bw9.out).more Bw9.out.size) HM9.out Hfl.out.2.2.1)
     obtain⟨d0,d1,d2,d3,d4,d5,d6,d7,d8,d9,d10⟩:=row11 R9.out
     have hl9:=heap_lt R9.out
     go_wp2_with fail
     refine HOu.out.mono ?_
     rintro e10 w10 ⟨v5,rfl,hO5,b10⟩
     have B10:=hid (B9.out.trans (b10.mono B9.out.size))
     have Q10:=hid ((b10.block _ (heap_lt Q9.out)).trans Q9.out)
     have P1:=hid (own_below P1.out b10)
     have P2:=hid (own_below P2.out b10)
     have P3:=hid (own_below P3.out b10)
     have P4:=hid (own_below P4.out b10)
     have hO5':OwnF V.heap.size (outF (fun s=>(standZ r s:Int)) t.a.l) v5 w10:=own_base hO5 VW9.out
     obtain⟨a7,b7,rfl⟩:=own_shape hO5
     have P5:=hid hO5'
     have hlq:=heap_lt Q10.out
     obtain⟨g0,g1,g2,g3,g4,g5,g6,g7,g8,g9,g10,g11,g12,g13,g14,g15,g16⟩:=row17 Q10.out
     have fz:=frz_row Q10.out 16
     obtain⟨vo,hvo⟩:∃ vo,(.slice a7 (outF (fun s=>(standZ r s:Int)) t.a.l).length b7:Value)=vo:=⟨_,rfl⟩
     have S11:Hid ((w10.setCell ⟨b,16,none⟩ (.slice a7 (outF (fun s=>(standZ r s:Int)) t.a.l).length b7)).heap[b]?=some (.cells #[.int .i64 (k:Int),.int .i64 t.op,.string t.a.rel,.slice p0 t.a.l.length q0,.int .i64 t.x.op,.string t.x.s,.int .i64 t.x.n,.slice p1 t.x.l.length q1,.int .i64 t.y.op,.string t.y.s,.int .i64 t.y.n,.slice p2 t.y.l.length q2,.slice a3 (vz [t.x]).length b3,.slice a4 (vz [t.y]).length b4,.slice a5 (vz t.a.l).length b5,.slice a6 (vz (t.a.l.filter rckT)).length b6,.slice a7 (outF (fun s=>(standZ r s:Int)) t.a.l).length b7] 105 (0,0))):=hid (rowSet Q10.out 16 _)
     have P1:=hid (own_set (u:=.slice a7 (outF (fun s=>(standZ r s:Int)) t.a.l).length b7) (k:=16) P1.out (own_ne P1.out Q10.out (by decide)))
     have P2:=hid (own_set (u:=.slice a7 (outF (fun s=>(standZ r s:Int)) t.a.l).length b7) (k:=16) P2.out (own_ne P2.out Q10.out (by decide)))
     have P3:=hid (own_set (u:=.slice a7 (outF (fun s=>(standZ r s:Int)) t.a.l).length b7) (k:=16) P3.out (own_ne P3.out Q10.out (by decide)))
     have P4:=hid (own_set (u:=.slice a7 (outF (fun s=>(standZ r s:Int)) t.a.l).length b7) (k:=16) P4.out (own_ne P4.out Q10.out (by decide)))
     have P5:=hid (own_set (u:=.slice a7 (outF (fun s=>(standZ r s:Int)) t.a.l).length b7) (k:=16) P5.out (own_ne P5.out Q10.out (by decide)))
     have B11:Hid (Below wr.heap.size wr (w10.setCell ⟨b,16,none⟩ (.slice a7 (outF (fun s=>(standZ r s:Int)) t.a.l).length b7))):=hid (B10.out.grown (grown_set b 16 _) B10.out.size (fun q hq=>by have:=Option.some.inj hq;have:=HVs.out;omega))
     obtain⟨W11,hW11⟩:∃ W11,w10.setCell ⟨b,16,none⟩ (.slice a7 (outF (fun s=>(standZ r s:Int)) t.a.l).length b7)=W11:=⟨_,rfl⟩
     rw[hW11] at S11 P1 P2 P3 P4 P5 B11
     clear b10 hO5 hO5' HOu d0 d1 d2 d3 d4 d5 d6 d7 d8 d9 d10 hvo
     have HOW:=hid (own_below HO.out B11.out)
     have hpt:ptZ r k t=⟨k,t,vz [t.x],vz [t.y],vz t.a.l,vz (t.a.l.filter rckT),outF (fun s=>(standZ r s:Int)) t.a.l⟩:=by unfold ptZ;rw[hag];simp only[if_true];rw[outF_eq]
     have hu:(Value.slice ov acc.length cv).ownBlock=none∨∃ g,(Value.slice ov acc.length cv).ownBlock=some g∧g < V.heap.size:=by
      cases hq:(Value.slice ov acc.length cv).ownBlock with
      | none=>exact .inl rfl
      | some g=>exact .inr ⟨g,rfl,by have:=(HO.out.lt g hq).2;have:=HVs.out;omega⟩
     have hPt:PtC (hidO (.slice ov acc.length cv) W11) W11.heap.size (ptZ r k t) [.int .i64 (k:Int),.int .i64 t.op,.string t.a.rel,.slice p0 t.a.l.length q0,.int .i64 t.x.op,.string t.x.s,.int .i64 t.x.n,.slice p1 t.x.l.length q1,.int .i64 t.y.op,.string t.y.s,.int .i64 t.y.n,.slice p2 t.y.l.length q2,.slice a3 (vz [t.x]).length b3,.slice a4 (vz [t.y]).length b4,.slice a5 (vz t.a.l).length b5,.slice a6 (vz (t.a.l.filter rckT)).length b6,.slice a7 (outF (fun s=>(standZ r s:Int)) t.a.l).length b7]:=by
      rw[hpt]
      refine⟨[.int .i64 t.op,.string t.a.rel,.slice p0 t.a.l.length q0,.int .i64 t.x.op,.string t.x.s,.int .i64 t.x.n,.slice p1 t.x.l.length q1,.int .i64 t.y.op,.string t.y.s,.int .i64 t.y.n,.slice p2 t.y.l.length q2],_,_,_,_,_,rfl,(Hc.out.cells (fun p c hc=>cell_hidO ((World.cell?_of_block ((Hbw.out.trans (B11.out.mono Hbw.out.size)).block _ (World.block_lt_of_cell? _ _ hc))).trans hc) (fun e=>?_))).more (Nat.le_trans Hbw.out.size B11.out.size),own_hid P1.out hu (vz_max Hfl.out.1),own_hid P2.out hu (vz_max Hfl.out.2.1),own_hid P3.out hu (vz_max Hfl.out.2.2.1),own_hid P4.out hu (vz_max Hfl.out.2.2.2),own_hid P5.out hu (fun s hs=>vz_max Hfl.out.2.2.1 s (List.mem_filter.1 hs).1)⟩
      have h1:=(HO.out.lt _ e).1
      have h2:=World.block_lt_of_cell? _ _ hc
      omega
     have HL3:=hid ((HL.out.mono (L':=PtC (hidO (.slice ov acc.length cv) W11) W11.heap.size) (fun x cs hx=>hx.cells (hid_below B11.out) B11.out.size)).snoc rfl hPt)
     have HS1:Hid (acc.length+1≤maxLen):=hid (by have:=Hacl.out;have:=HF.out.b.1;unfold maxLen;omega)
     have HS2:Hid ((acc.length+1) * 288≤140737488355328):=hid (by have:=Hacl.out;have:=HF.out.b.1;omega)
     have HSp:Hid (Spread (W11.alloc (.cells #[.int .i64 (k:Int),.int .i64 t.op,.string t.a.rel,.slice p0 t.a.l.length q0,.int .i64 t.x.op,.string t.x.s,.int .i64 t.x.n,.slice p1 t.x.l.length q1,.int .i64 t.y.op,.string t.y.s,.int .i64 t.y.n,.slice p2 t.y.l.length q2,.slice a3 (vz [t.x]).length b3,.slice a4 (vz [t.y]).length b4,.slice a5 (vz t.a.l).length b5,.slice a6 (vz (t.a.l.filter rckT)).length b6,.slice a7 (outF (fun s=>(standZ r s:Int)) t.a.l).length b7] 105)) 17 (.slice (some ⟨W11.heap.size,0,none⟩) 1 1) 1 [.int .i64 (k:Int),.int .i64 t.op,.string t.a.rel,.slice p0 t.a.l.length q0,.int .i64 t.x.op,.string t.x.s,.int .i64 t.x.n,.slice p1 t.x.l.length q1,.int .i64 t.y.op,.string t.y.s,.int .i64 t.y.n,.slice p2 t.y.l.length q2,.slice a3 (vz [t.x]).length b3,.slice a4 (vz [t.y]).length b4,.slice a5 (vz t.a.l).length b5,.slice a6 (vz (t.a.l.filter rckT)).length b6,.slice a7 (outF (fun s=>(standZ r s:Int)) t.a.l).length b7]):=hid (.inr ⟨_,_,rfl,rfl,World.news_of_block (World.alloc_heap_new _ _),by simp[Value.oneCell']⟩)
     have HBW:=hid (B11.out.alloc B11.out.size (.cells #[.int .i64 (k:Int),.int .i64 t.op,.string t.a.rel,.slice p0 t.a.l.length q0,.int .i64 t.x.op,.string t.x.s,.int .i64 t.x.n,.slice p1 t.x.l.length q1,.int .i64 t.y.op,.string t.y.s,.int .i64 t.y.n,.slice p2 t.y.l.length q2,.slice a3 (vz [t.x]).length b3,.slice a4 (vz [t.y]).length b4,.slice a5 (vz t.a.l).length b5,.slice a6 (vz (t.a.l.filter rckT)).length b6,.slice a7 (outF (fun s=>(standZ r s:Int)) t.a.l).length b7] 105))
     have hszW:=B11.out.size
     have hlq:=heap_lt S11.out
     clear hPt hu hpt hag
     go_wp2_with (first | (at_builtin;refine wpList_append_any _ rfl (.tmp 45) (.tmp 47) 102 rfl w1.heap.size 105 i0 zP 17 288 Tryz.underlying102 hi hz0 hz1 hz2 hzc (by decide) (.slice ov acc.length cv) acc.length _ (by simp[Act.eval,Act.put]) (HOW.out.alloc _) (.slice (some ⟨W11.heap.size,0,none⟩) 1 1) 1 _ (by simp[Act.eval,Act.put]) HSp.out HS1.out HS2.out (by simp;omega) ?_;intro vE wE hownE hgE hobE;have HOE:=hid hownE;have HGE:=hid hgE;have HBE:=hid hobE;clear hownE hgE hobE) | (refine wpList_load_pt rfl (.tmp 7) rfl b (by simp[Act.eval,Act.put]) S11.out ?_))
     go_roundw
     case rel=>
      have hwa:w1.heap.size≤(W11.alloc (.cells #[.int .i64 (k:Int),.int .i64 t.op,.string t.a.rel,.slice p0 t.a.l.length q0,.int .i64 t.x.op,.string t.x.s,.int .i64 t.x.n,.slice p1 t.x.l.length q1,.int .i64 t.y.op,.string t.y.s,.int .i64 t.y.n,.slice p2 t.y.l.length q2,.slice a3 (vz [t.x]).length b3,.slice a4 (vz [t.y]).length b4,.slice a5 (vz t.a.l).length b5,.slice a6 (vz (t.a.l.filter rckT)).length b6,.slice a7 (outF (fun s=>(standZ r s:Int)) t.a.l).length b7] 105)).heap.size:=by simp;omega
      refine⟨k+1,acc++[ptZ r k t],xs++[.int .i64 (k:Int),.int .i64 t.op,.string t.a.rel,.slice p0 t.a.l.length q0,.int .i64 t.x.op,.string t.x.s,.int .i64 t.x.n,.slice p1 t.x.l.length q1,.int .i64 t.y.op,.string t.y.s,.int .i64 t.y.n,.slice p2 t.y.l.length q2,.slice a3 (vz [t.x]).length b3,.slice a4 (vz [t.y]).length b4,.slice a5 (vz t.a.l).length b5,.slice a6 (vz (t.a.l.filter rckT)).length b6,.slice a7 (outF (fun s=>(standZ r s:Int)) t.a.l).length b7],hlt,by go_num,by rw[Hst.out,Hacc.out],?_,?_,(HB.out.trans (HBW.out.mono hsz)).grown HGE.out hwa (fun q hq=>(HO.out.lt q hq).1)⟩
      ·rw[List.length_append];exact HOE.out
      ·exact HL3.out.mono (fun x cs hx=>hx.cells (fun p c hc=>hid_step HGE.out HBE.out p c (hid_below ((Below.refl _ _).alloc (Nat.le_refl _) _) p c hc)) (by have:=HGE.out.size;simp at this;omega))
     case measure=>simp[intOf];omega
  ·have hlt':¬ (k:Int) < (r.body.length:Int):=by omega
   obtain rfl:acc=partsZ r:=by
    have h:=Hacc.out
    rw[List.take_of_length_le (by omega)] at h
    exact h.symm
   have HO2:=hid (own_base HO.out hz1')
   go_wp2
   go_ret
   exact⟨_,rfl,xs,HO2.out,HL.out,Hbw.out⟩
end Go.Proofs.YtfmldnbcjbflbaaGreatDoor
namespace Go.Proofs.YtfmldnbcjbflbaaGreatDoor
open Lib(hid)
open Go.RowKit
def setA (cs:Array Value):Nat→List Value→Array Value
 | _,[]=>cs
 | k,x::xs=>setA (cs.setIfInBounds k x) (k+1) xs
theorem setA_size:∀ (xs:List Value) (k:Nat) (cs:Array Value),(setA cs k xs).size=cs.size
 | [],_,_=>rfl
 | x::xs,k,cs=>by rw[setA,setA_size xs];simp
theorem setA_get:∀ (xs:List Value) (k:Nat) (cs:Array Value) (i:Nat),k+xs.length≤cs.size→(setA cs k xs)[i]?=if k≤i∧i < k+xs.length then xs[i - k]? else cs[i]?
 | [],k,cs,i,_=>by rw[setA,if_neg (by simp)]
 | x::xs,k,cs,i,h=>by
  rw[List.length_cons] at h
  rw[setA,setA_get xs (k+1) _ i (by simp;omega),List.length_cons]
  by_cases h1:k+1≤i∧i < k+1+xs.length
  ·rw[if_pos h1,if_pos (by omega),show i - k=(i - (k+1))+1 by omega,List.getElem?_cons_succ]
  ·rw[if_neg h1]
   by_cases h2:i=k
   ·subst h2
    rw[if_pos (by omega),Nat.sub_self,List.getElem?_cons_zero,Array.getElem?_setIfInBounds_self_of_lt (by omega)]
   ·rw[if_neg (by omega),Array.getElem?_setIfInBounds_ne (Ne.symm h2)]
theorem row_setCells {b:Nat} {T:TypeId} {fz:Nat × Nat}:∀ (xs:List Value) (k:Nat) (w:World) (cs:Array Value),w.heap[b]?=some (.cells cs T fz)→(w.setCells b k xs).heap[b]?=some (.cells (setA cs k xs) T fz)
 | [],_,_,_,h=>h
 | x::xs,k,w,cs,h=>by rw[World.setCells,setA];exact row_setCells xs (k+1) _ _ (rowSet h k x)
theorem grown_setCells (b:Nat):∀ (xs:List Value) (k:Nat) (w:World),w.grownBy (w.setCells b k xs) (some b)
 | [],_,w=>World.grownBy.refl _ _
 | x::xs,k,w=>by rw[World.setCells];exact (grown_set b k x).trans (grown_setCells b xs (k+1) _)
theorem own_delete {w:World} {base g n cap i:Nat} {T:TypeId} {xs zs:List Value} (h:w.ownsRow base T 17 (.slice (some ⟨g,0,none⟩) n cap) n xs) (hi:i < n) (hz:zs.length=17) :
  ((w.setCells g (i * 17) (xs.drop ((i+1) * 17))).setCells g ((n - 1) * 17) zs).ownsRow base T 17 (.slice (some ⟨g,0,none⟩) (n - 1) cap) (n - 1) (xs.take (i * 17)++xs.drop ((i+1) * 17)):=by
 obtain⟨hl,h2⟩:=h
 rcases h2 with ⟨h3,_⟩ | ⟨g',cap',cur,hv,hb,hg,hn,hc,hs,ht⟩
 ·cases h3
 ·cases hv
  have hd:(xs.drop ((i+1) * 17)).length=(n - 1 - i) * 17:=by rw[List.length_drop,hl,← Nat.sub_mul];congr 1;omega
  have hnm:(n - 1) * 17=i * 17+(n - 1 - i) * 17:=by rw[← Nat.add_mul];congr 1;omega
  have hnc:n * 17≤cap * 17:=Nat.mul_le_mul_right _ hn
  have hn1:(n - 1) * 17+17=n * 17:=by omega
  have hk:i * 17+(xs.drop ((i+1) * 17)).length≤cur.size:=by rw[hd,hs,← hnm];omega
  have hk2:(n - 1) * 17+zs.length≤(setA cur (i * 17) (xs.drop ((i+1) * 17))).size:=by rw[setA_size,hs,hz];omega
  refine⟨by rw[List.length_append,hd,List.length_take,hl,Nat.min_eq_left (Nat.mul_le_mul_right _ (by omega)),hnm],.inr ⟨g,cap,_,rfl,hb,row_setCells zs _ _ _ (row_setCells _ _ _ _ hg),by omega,hc,by rw[setA_size,setA_size,hs],?_⟩⟩
  refine List.ext_getElem? fun j=>?_
  have hxs:∀ j,j < n * 17→cur[j]?=xs[j]?:=fun j hj=>by rw[← ht,List.getElem?_take_of_lt hj,Array.getElem?_toList]
  by_cases hj:j < (n - 1) * 17
  ·rw[List.getElem?_take_of_lt hj,Array.getElem?_toList,setA_get _ _ _ _ hk2,if_neg (by omega),setA_get _ _ _ _ hk,hd]
   by_cases h1:j < i * 17
   ·rw[if_neg (by omega),hxs j (by omega),List.getElem?_append_left (by rw[List.length_take,hl];omega),List.getElem?_take_of_lt h1]
   ·rw[if_pos (by omega),List.getElem?_append_right (by rw[List.length_take];omega),List.length_take,hl,Nat.min_eq_left (Nat.mul_le_mul_right _ (by omega))]
  ·rw[List.getElem?_eq_none (by rw[List.length_take];omega),List.getElem?_eq_none (by rw[List.length_append,hd,List.length_take,hl];omega)]
theorem run_clear_one (w:World) (t e ty:TypeId) (z:Value) {P:Program} (ht:P.underlying t=some (.slice e)) (hv:∀ w,(zeroValue e).run P w=.ok z w) (zs:List Value) (hz:z.cells=zs.toArray) (h1:∀ v ∈ zs,v.oneCell'=true) (h0:zs≠[]) (b o c:Nat)
  (hc:∀ j,j < zs.length→(w.cell? ⟨b,o+j,none⟩).isSome=true) (hf:∀ j,j < zs.length→w.frozen? ⟨b,o+j,none⟩=false) :
  (Builtin.clear_ #[t] ty #[.slice (some ⟨b,o,none⟩) 1 c]).run P w=.ok (.tuple #[]) (w.setCells b o zs):=by
 have hzc:(Builtin.zeroCells z.cells 1).toList=zs:=by
  rw[hz]
  simp only[Builtin.zeroCells]
  apply List.ext_getElem
  ·simp
  ·intro i h1 h2
   simp[Nat.mod_eq_of_lt h2,List.getElem?_eq_getElem h2]
 have hst:=run_storeCells_cells (P:=P) b o zs 0 w (by simpa using hc) (by simpa using hf) h1
 simp only[Nat.add_zero] at hst
 simp[Builtin.clear_,run_underlying ht,hv,hzc,hst]
abbrev zPt:List Value:=[.int .i64 0,.int .i64 0,.string ⟨#[]⟩,.slice none 0 0,.int .i64 0,.string ⟨#[]⟩,.int .i64 0,.slice none 0 0,.int .i64 0,.string ⟨#[]⟩,.int .i64 0,.slice none 0 0,.slice none 0 0,.slice none 0 0,.slice none 0 0,.slice none 0 0,.slice none 0 0]
set_option maxRecDepth 1000000 in
set_option maxHeartbeats 8000000 in
theorem delete_c (base g n cap i:Nat) (xs:List Value) (w:World) (h:w.ownsRow base 105 17 (.slice (some ⟨g,0,none⟩) n cap) n xs) (hi:i < n) (h1:∀ u ∈ xs,u.oneCell'=true) :
  Calls Tryz.prog 108 #[.slice (some ⟨g,0,none⟩) n cap,.int .i64 i,.int .i64 (i+1:Nat)] w fun e w'=>e=.returned (.slice (some ⟨g,0,none⟩) (n - 1) cap) ∧
   w'.ownsRow base 105 17 (.slice (some ⟨g,0,none⟩) (n - 1) cap) (n - 1) (xs.take (i * 17)++xs.drop ((i+1) * 17))∧w.grownBy w' (some g):=by
 have HD:=hid (own_delete (zs:=zPt) h.drew hi rfl)
 obtain⟨hl,h2⟩:=h
 rcases h2 with ⟨h3,_⟩ | ⟨g',cap',cur,hv,hb,hg,hn,hcm,hs,ht⟩
 ·cases h3
 cases hv
 obtain⟨i0,zP,hi0,hz0,hz1,hz2,hzc⟩:=info_pt2
 have t22:=Tryz.underlying102
 have v23:=Tryz.zeroValue105
 have hcur:∀ j,j < cap * 17→(w.cell? ⟨g,j,none⟩).isSome=true:=fun j hj=>by
  rw[row_cells hg j,Array.getElem?_eq_getElem (by omega)];rfl
 have hfz:∀ j,w.frozen? ⟨g,j,none⟩=false:=fun j=>frz_row hg j
 have hnm:(n - 1) * 17+17=n * 17:=by omega
 have hnc:n * 17≤cap * 17:=Nat.mul_le_mul_right _ hn
 obtain⟨news,hnews⟩:∃ news,xs.drop ((i+1) * 17)=news:=⟨_,rfl⟩
 have hlen:news.length=(n - (i+1)) * 17:=by rw[← hnews,List.length_drop,hl,← Nat.sub_mul]
 have hget:∀ t u,news[t]?=some u→w.cell? ⟨g,(i+1) * 17+t,none⟩=some u:=fun t u hu=>by
  rw[← hnews,List.getElem?_drop] at hu
  have hlt:=(List.getElem?_eq_some_iff.1 hu).1
  rw[row_cells hg,← Array.getElem?_toList]
  rw[← ht,List.getElem?_take_of_lt (by omega)] at hu
  exact hu
 obtain⟨A,hA,hsrc⟩:∃ A:Addr,(if cap=i+1 then some (⟨g,0,none⟩:Addr) else some ⟨g,(i+1) * 17,none⟩)=some A∧Hid (∀ t u,news[t]?=some u→w.drew.cell? (A.add t)=some u):=by
  by_cases hc:cap=i+1
  ·refine⟨⟨g,0,none⟩,by simp[hc],fun t u hu=>?_⟩
   have h0:news.length=0:=by rw[hlen];have:n - (i+1)=0:=(by omega);rw[this]
   rw[List.length_eq_zero_iff.1 h0] at hu
   simp at hu
  ·refine⟨⟨g,(i+1) * 17,none⟩,by simp[hc],fun t u hu=>?_⟩
   have:=hget t u hu
   unfold Addr.add
   split
   ·rename_i h0;subst h0;simpa using this
   ·simpa using this
 have s1:Hid (news.length=(n - (i+1)) * 17):=hlen
 have s2:Hid (∀ u ∈ news,u.oneCell'=true):=fun u hu=>h1 u (by rw[← hnews] at hu;exact List.mem_of_mem_drop hu)
 have him:i * 17+(n - (i+1)) * 17=(n - 1) * 17:=by rw[← Nat.add_mul];congr 1;omega
 have s3:Hid (∀ t,t < news.length→(w.drew.cell? ⟨g,0+i * 17+t,none⟩).isSome=true∧w.drew.frozen? ⟨g,0+i * 17+t,none⟩=false):=fun t ht=>by
  rw[hlen] at ht
  exact⟨hcur _ (by omega),hfz _⟩
 obtain⟨W1,hW1⟩:∃ W1,W1=w.drew.setCells g (0+i * 17) news:=⟨_,rfl⟩
 have hrow1:=row_setCells news (0+i * 17) w.drew cur hg
 rw[← hW1] at hrow1
 have hone:n - (n - 1)=1:=by omega
 have hcl:∀ ty,(Builtin.clear_ #[102] ty #[.slice (some ⟨g,(n - 1) * 17,none⟩) (n - (n - 1)) (cap - (n - 1))]).run Tryz.prog W1=.ok (.tuple #[]) (W1.setCells g ((n - 1) * 17) zPt):=
  fun ty=>by rw[hone];exact run_clear_one W1 _ _ ty _ t22 v23 zPt (by simp[Value.cells]) (by simp[Value.oneCell']) (by simp) g ((n - 1) * 17) _ (fun j hj=>by
   have hj:j < 17:=hj
   rw[row_cells hrow1,Array.getElem?_eq_getElem (by rw[setA_size,hs];omega)];rfl) (fun j _=>frz_row hrow1 _)
 have hW:Hid (W1=w.drew.setCells g (0+i * 17) news):=hW1
 have HE:Hid ((W1.setCells g ((n - 1) * 17) zPt).ownsRow base 105 17 (.slice (some ⟨g,0,none⟩) (n - 1) cap) (n - 1) (xs.take (i * 17)++news)∧w.grownBy (W1.setCells g ((n - 1) * 17) zPt) (some g)):=by
  have hd:=HD.out
  rw[hnews] at hd
  rw[hW1,Nat.zero_add]
  exact⟨hd,(gB ((Below.refl _ w).drew) (some g)).trans ((grown_setCells g news _ _).trans (grown_setCells g zPt _ _))⟩
 have hic:i≤cap:=by omega
 have hjc:i+1≤cap:=by omega
 have hne:((i:Int) == ((i+1:Nat):Int))=false:=by simp;omega
 have hnn:i+(n - (i+1))=n - 1:=by omega
 have mixed:Tryz.prog.follows .mixedOrders=true:=by kernel_rfl
 have q0:(0:Int)≤(i:Int)+1:=by omega
 have q1:(i:Int)+1≤(n:Int):=by omega
 have q2:(0:Int)≤(i:Int):=by omega
 have q3:(i:Int)≤(cap:Int):=by omega
 have HX:Hid (i+(n - (i+1))=n - 1):=hid hnn
 have HE2:Hid ((W1.setCells g ((n - 1) * 17) zPt).ownsRow base 105 17 (.slice (some ⟨g,0,none⟩) (n - 1) cap) (n - 1) (xs.take (i * 17)++xs.drop ((i+1) * 17))∧w.grownBy (W1.setCells g ((n - 1) * 17) zPt) (some g)):=hid (by rw[hnews];exact HE.out)
 clear hnews HE
 clear hone hW1 hrow1 hget hlen hcur hfz ht hs hg h1 HD hnn him hnc hnm
 go_enter Tryz.func108,Tryz.ntmps108
 go_wp2_with fail
 go_region_law_o (refine step_append_room rfl (.tmp 22) (.tmp 25) 102 rfl 105 i0 17 t22 hi0 hz1 g 0 i cap (by simp[Act.eval,Act.put]) A (n - (i+1)) (cap - (i+1)) news (by simp[Act.eval,Act.put]) s1.out hsrc.out s2.out (by omega) s3.out ?_;rw[← hW.out,HX.out])
 go_wp2
 go_ret
 exact⟨rfl,HE2.out⟩
end Go.Proofs.YtfmldnbcjbflbaaGreatDoor
namespace Go.Proofs.YtfmldnbcjbflbaaGreatDoor
open Lib(hid)
open Go.RowKit
set_option maxRecDepth 100000 in
set_option maxHeartbeats 4000000 in
theorem clone_c (base n:Nat) (v:Value) (xs:List Value) (w:World) (h:w.ownsRow base 105 17 v n xs) (h1:∀ u ∈ xs,u.oneCell'=true) (hn:n≤1000000) :
  Calls Tryz.prog 104 #[v] w fun e w'=>∃ u,e=.returned u∧w'.ownsRow w.heap.size 105 17 u n xs∧Below w.heap.size w w':=by
 have HSp:=hid (Spread.own h h1)
 obtain⟨i0,zP,hi,hz0,hz1,hz2,hzc⟩:=info_pt2
 have t22:=Tryz.underlying102
 obtain⟨o,cap,rfl⟩:=own_shape h
 have heq:∀ W:World,(binOp .eql 102 (.slice o n cap) (.slice none 0 0)).run Tryz.prog W=.ok (.bool o.isNone) W:=fun W=>Lib.run_eql_slice_nil W _ _ o n cap 0 0 t22
 have h0:o=none→n=0∧xs=[]:=by
  rintro rfl
  rcases h.2 with ⟨_,h0⟩ | ⟨g,cap',cur,hv,_⟩
  ·exact⟨h0,List.eq_nil_of_length_eq_zero (by rw[h.1,h0])⟩
  ·cases hv
 clear h h1
 cases o with
 | none=>
  obtain⟨rfl,rfl⟩:=h0 rfl
  go_enter Tryz.func104,Tryz.ntmps104
  go_wp2
  go_ret
  exact⟨_,rfl,World.ownsRow_nil _ _ _ _,Below.refl _ _⟩
 | some a=>
  clear h0
  have HB:∀ x:Obj,Hid (Below w.heap.size w (w.alloc x)):=fun x=>hid ((Below.refl _ _).alloc (Nat.le_refl _) x)
  have HS2:Hid (∀ x:Obj,Spread (w.alloc x) 17 (.slice (some a) n cap) n xs):=hid fun x=>HSp.out.cells fun p c hc=>(((Below.refl _ w).alloc (Nat.le_refl _) x).cell (World.block_lt_of_cell? _ _ hc)).trans hc
  go_enter Tryz.func104,Tryz.ntmps104
  go_wp2_with (at_builtin;go_loud (refine wpList_append_any _ rfl (.tmp 5) (.tmp 6) 102 rfl w.heap.size 105 i0 zP 17 288 t22 hi hz0 hz1 hz2 hzc (by decide) (.slice (some ⟨w.heap.size,0,none⟩) 0 0) 0 [] (by simp[Act.eval,Act.put]) (own_built (z:=17) (n:=0) (cs:=[]) (World.alloc_heap_new w _) rfl (by decide) w.heap.size (Nat.le_refl _)) (.slice (some a) n cap) n xs (by simp[Act.eval,Act.put]) (HS2.out _) (by unfold maxLen;omega) (by omega) (by simp) ?_);intro v2 w2 hown2 hg2 _;have HO:=hid hown2;have HG:=hid hg2;obtain⟨o2,c2,rfl⟩:=own_shape hown2;clear hown2 hg2)
  go_ret
  have hO:=HO.out
  rw[Nat.zero_add,List.nil_append] at hO
  exact⟨_,rfl,hO,(HB _).out.grown HG.out (by simp) (fun q hq=>by simp[Value.ownBlock] at hq;omega)⟩
end Go.Proofs.YtfmldnbcjbflbaaGreatDoor
namespace Go.Proofs.YtfmldnbcjbflbaaGreatDoor
open Lib(hid)
open Go.RowKit
theorem Laid.erase {α:Type} {z:Nat} {L:α→List Value→Prop} {acc:List α} {xs:List Value} (h:Laid z L acc xs) {i:Nat} (hi:i < acc.length):Laid z L (acc.eraseIdx i) (xs.take (i * z)++xs.drop ((i+1) * z)):=by
 have hz:(i+1) * z≤xs.length:=by rw[h.1];exact Nat.mul_le_mul_right _ hi
 have hz0:i * z≤(i+1) * z:=Nat.mul_le_mul_right _ (by omega)
 refine⟨?_,fun j x hx=>?_⟩
 ·rw[List.length_append,List.length_take,List.length_drop,List.length_eraseIdx_of_lt hi,h.1,Nat.min_eq_left (by rw[← h.1];omega),Nat.sub_mul]
  have:acc.length * z=(acc.length - 1) * z+z:=by rw[← Nat.succ_mul];congr 1;omega
  rw[Nat.succ_mul]
  have h2:=h.1
  rw[Nat.succ_mul] at hz
  omega
 ·by_cases hj:j < i
  ·rw[List.getElem?_eraseIdx_of_lt hj] at hx
   obtain⟨cs,c1,c2,c3⟩:=h.2 j x hx
   refine⟨cs,c1,c2,fun q c hq=>?_⟩
   have hql:=(List.getElem?_eq_some_iff.1 hq).1
   have hjz:j * z+z≤i * z:=by rw[← Nat.succ_mul];exact Nat.mul_le_mul_right _ hj
   rw[List.getElem?_append_left (by rw[List.length_take];omega),List.getElem?_take_of_lt (by omega)]
   exact c3 q c hq
  ·rw[List.getElem?_eraseIdx_of_ge (by omega)] at hx
   obtain⟨cs,c1,c2,c3⟩:=h.2 (j+1) x hx
   refine⟨cs,c1,c2,fun q c hq=>?_⟩
   have hql:=(List.getElem?_eq_some_iff.1 hq).1
   have hij:i * z≤j * z:=Nat.mul_le_mul_right _ (by omega)
   have e:(i+1) * z+(j * z+q - i * z)=(j+1) * z+q:=by rw[Nat.succ_mul,Nat.succ_mul];omega
   rw[List.getElem?_append_right (by rw[List.length_take];omega),List.length_take,Nat.min_eq_left (by omega),List.getElem?_drop,e]
   exact c3 q c hq
def LeftOk (S:Nat) (W:World) (v:Value) (l:List Pt):Prop:=S≤W.heap.size∧∃ xs,W.ownsRow 0 105 17 v l.length xs∧Laid 17 (PtC (hidO v W) S) l xs
theorem LeftOk.below {S:Nat} {W W':World} {v:Value} {l:List Pt} (h:LeftOk S W v l) (hb:Below W.heap.size W W'):LeftOk S W' v l:=by
 obtain⟨hS,xs,h1,h2⟩:=h
 exact⟨Nat.le_trans hS hb.size,xs,own_below h1 hb,h2.mono fun x cs hx=>hx.cells (hid_below hb) (Nat.le_refl _)⟩
theorem LeftOk.map {S:Nat} {P:Program} {W W':World} {v:Value} {l:List Pt} {kT eT:TypeId} {M n:Nat} {f:List UInt8→Int} {c:Nat} (h:LeftOk S W v l) (hm:MapI P W kT eT M n f c) (hg:W.grownBy W' (some M)):LeftOk S W' v l:=by
 obtain⟨hS,xs,h1,h2⟩:=h
 have hne:v.ownBlock≠some M:=fun e=>by
  rcases h1.2 with ⟨rfl,_⟩ | ⟨g,cap,cur,rfl,_,hr,_⟩
  ·cases e
  ·obtain rfl:g=M:=by simpa[Value.ownBlock] using e
   obtain⟨D,⟨es,clock,h3,_⟩,_⟩:=hm
   rw[h3] at hr
   cases hr
 refine⟨Nat.le_trans hS hg.size,xs,h1.kept hg (.inr hne),h2.mono fun x cs hx=>hx.cells (fun p c hc=>?_) (Nat.le_refl _)⟩
 obtain⟨k1,k2⟩:=hidO_cell hc
 exact cell_hidO (mapI_cells hm hg k2) k1
theorem LeftOk.erase {S:Nat} {W W':World} (hS:S≤W.heap.size) {v v':Value} {l:List Pt} {i:Nat} (hi:i < l.length) {xs:List Value} (hl:Laid 17 (PtC (hidO v W) S) l xs) (hv:v'.ownBlock=v.ownBlock) (ho:W'.ownsRow 0 105 17 v' (l.length - 1) (xs.take (i * 17)++xs.drop ((i+1) * 17))) (hg:W.grownBy W' v.ownBlock):LeftOk S W' v' (l.eraseIdx i):=by
 refine⟨Nat.le_trans hS hg.size,_,by rw[List.length_eraseIdx_of_lt hi];exact ho,(hl.erase hi).mono fun x cs hx=>hx.cells (fun p c hc=>?_) (Nat.le_refl _)⟩
 exact hid_step hg (.inl hv) p c hc
theorem left_at {S:Nat} {W:World} {v:Value} {l:List Pt} (h:LeftOk S W v l) {i:Nat} {p:Pt} (hp:l[i]?=some p):∃ (a:Addr) (cap:Nat) (cs:List Value),v=.slice (some a) l.length cap∧a.block < W.heap.size∧PtC W S p cs∧CellsAt W a (i * 17) cs:=by
 obtain⟨_,xs,h1,h2⟩:=h
 have hs:=sl_own0 h1 h2
 rcases hs with ⟨rfl,rfl⟩ | ⟨a,cap,hv,_,_,hb,h5⟩
 ·simp at hp
 ·obtain⟨cs,c1,c2,c3⟩:=h5 i p hp
  exact⟨a,cap,cs,hv,hb (by rintro rfl;simp at hp),c2.cells (fun q c hc=>(hidO_cell hc).2) (Nat.le_refl _),c3⟩
structure Fr (M:Nat) (v:Value) (w w':World):Prop where
 os:w'.os=w.os
 tape:w'.tape=w.tape
 output:w'.output=w.output
 size:w.heap.size≤w'.heap.size
 block:∀ i,i < w.heap.size→i≠M→v.ownBlock≠some i→w'.heap[i]?=w.heap[i]?
theorem Fr.refl (M:Nat) (v:Value) (w:World):Fr M v w w:=⟨rfl,rfl,rfl,Nat.le_refl _,fun _ _ _ _=>rfl⟩
theorem Fr.below {M:Nat} {v:Value} {w w' w'':World} (h:Fr M v w w') (hb:Below w'.heap.size w' w''):Fr M v w w'':=
 ⟨hb.os.trans h.os,hb.tape.trans h.tape,hb.output.trans h.output,Nat.le_trans h.size hb.size,fun i hi h1 h2=>(hb.block i (Nat.lt_of_lt_of_le hi h.size)).trans (h.block i hi h1 h2)⟩
theorem Fr.map {M:Nat} {v:Value} {w w' w'':World} (h:Fr M v w w') (hg:w'.grownBy w'' (some M)):Fr M v w w'':=
 ⟨hg.os.trans h.os,hg.tape.trans h.tape,hg.output.trans h.output,Nat.le_trans h.size hg.size,fun i hi h1 h2=>(hg.block i (Nat.lt_of_lt_of_le hi h.size) (fun e=>h1 (Option.some.inj e))).trans (h.block i hi h1 h2)⟩
theorem Fr.row {M:Nat} {v:Value} {w w' w'':World} (h:Fr M v w w') (hg:w'.grownBy w'' v.ownBlock):Fr M v w w'':=
 ⟨hg.os.trans h.os,hg.tape.trans h.tape,hg.output.trans h.output,Nat.le_trans h.size hg.size,fun i hi h1 h2=>(hg.block i (Nat.lt_of_lt_of_le hi h.size) (fun e=>h2 e.symm)).trans (h.block i hi h1 h2)⟩
end Go.Proofs.YtfmldnbcjbflbaaGreatDoor
namespace Go.Proofs.YtfmldnbcjbflbaaGreatDoor
open Lib(hid)
open Go.RowKit
theorem loadAt17 {w:World} {a:Addr} {cs:List Value} (hl:cs.length=17) (h:∀ j c,cs[j]?=some c→w.cell? (a.add j)=some c) :
  (Instr.loadAt 105 (.pointer (some a))).run Tryz.prog w=.ok (.agg cs.toArray) w:=by
 have h1:(loadCells a 17).run Tryz.prog w=.ok cs.toArray w:=by
  have:=run_loadCells_list (P:=Tryz.prog) w a cs h
  rwa [hl] at this
 have hagg:=Tryz.isAgg105 w
 have hs:=Tryz.sizeOf105 w
 have h2:(Instr.sureAddr (.pointer (some a))).run Tryz.prog w=Result.ok a w:=by simp[Instr.sureAddr,go_sem]
 unfold Instr.loadAt
 rw[Sem.run_bind,h2,Result.andThen_ok]
 simp[loadVar,Sem.run_bind,hagg,hs,h1]
section
variable {F:Fence} {nF:Nat} {ops:Array Oper} {rest:List Oper} {o:Oper} {a:Act} {Q:Exit→Act→World→Prop} {w:World}
theorem wpListIn_load17 (hw:Region.wanted o (yielded ops a.tmps)=true) (x:Operand) (ho:o.op=Op.load 105 x) (ad:Addr) (hx:a.eval x=.pointer (some ad)) {cs:List Value} (hl:cs.length=17) (h:∀ j c,cs[j]?=some c→w.cell? (ad.add j)=some c)
  (hK:wpListIn F nF Tryz.prog ops Q rest (a.put o.dst (.agg cs.toArray)) w):wpListIn F nF Tryz.prog ops Q (o::rest) a w:=by
 refine wpListIn_step fun K hk=>?_
 rw[if_pos hw]
 have h1:=loadAt17 hl h
 unfold Oper.wpIn
 refine⟨by simp[Oper.about,ho],?_⟩
 rw[Oper.semAt_plain F _ _ (by rw[ho];intro c hc';cases hc')]
 simp only[execOp,ho,hx,h1,Sem.run_bind,Sem.run_pure,Result.andThen_ok,Result.andThen]
 exact hk _ _ hK
end
theorem row_at {w:World} {b:Nat} {cs:List Value} {T:TypeId} (h:w.heap[b]?=some (.cells cs.toArray T (0,0))):∀ j c,cs[j]?=some c→w.cell? ((⟨b,0,none⟩:Addr).add j)=some c:=World.news_of_block h
end Go.Proofs.YtfmldnbcjbflbaaGreatDoor
namespace Go.Proofs.YtfmldnbcjbflbaaGreatDoor
open Lib(hid)
open Go.RowKit
attribute [local go_sem] Oper.semAt_some
structure SX where
 st:ZS
 ch:Option (Nat × Pt)
 v:Value
 cs:List Value
 bx:Nat
def SX.nxt (x:SX):ZS:=match x.ch with
 | none=>x.st
 | some (i,p)=>x.st.step i p
def wtP (p:Pt):Nat:=p.x.length+p.y.length+p.a.length
def wtZ (l:List Pt):Nat:=(l.map wtP).sum
theorem wtZ_erase:∀ (l:List Pt) (i:Nat) (p:Pt),l[i]?=some p→wtZ (l.eraseIdx i)+wtP p=wtZ l
 | [],i,p,h=>by simp at h
 | q::l,0,p,h=>by
  simp only[List.getElem?_cons_zero,Option.some.injEq] at h
  subst h
  simp[wtZ]
  omega
 | q::l,i+1,p,h=>by
  have:=wtZ_erase l i p (by simpa using h)
  simp only[wtZ,List.eraseIdx_cons_succ,List.map_cons,List.sum_cons] at this ⊢
  omega
theorem binds_wt (p:Pt):(bindsZ p).length≤wtP p:=by
 unfold bindsZ wtP
 split
 ·omega
 ·simp only[List.length_append];omega
def mapOk (W:World) (M:Nat) (s:ZS):Prop:=∃ n c,n+wtZ s.left≤1000000∧MapI Tryz.prog W 9 3 M n s.B c
structure SBoxes (Bp Bb M:Nat) (v0:Value) (W:World):Prop where
 p:W.heap[Bp]?=some (.cells #[v0] 102 (0,0))
 b:W.heap[Bb]?=some (.cells #[.map (some M)] 70 (0,0))
structure SG (S Bp Bb M:Nat) (v0:Value) (l0:List Pt) (x:SX) (W:World):Prop where
 bx:SBoxes Bp Bb M v0 W
 m:mapOk W M x.st
 left:LeftOk S W x.v x.st.left
 sub:∀ p ∈ x.st.left,p ∈ l0
 few:x.st.done+x.st.left.length=l0.length
 box:∀ i p,x.ch=some (i,p)→W.heap[x.bx]?=some (.cells x.cs.toArray 105 (0,0))∧PtC W S p x.cs∧nextZ x.st=some i∧x.st.left[i]?=some p
structure ST (S Bp Bb M:Nat) (v0:Value) (l0:List Pt) (x:SX) (W:World) (x':SX) (W':World):Prop where
 st:x'.st=x.nxt
 ch:∃ i p,x'.ch=some (i,p)
 g:SG S Bp Bb M v0 l0 x' W'
 fr:Fr M x.v W W'
 new:∀ g,x'.v.ownBlock=some g→x.v.ownBlock=some g∨W.heap.size≤g
structure SE (M:Nat) (x:SX) (W W':World):Prop where
 no:nextZ x.nxt=none
 m:mapOk W' M x.nxt
 fr:Fr M x.v W W'
structure SH (S Bp Bb M:Nat) (v0:Value) (l0:List Pt) (x:SX) (W1:World) (lv:Value) (W:World):Prop where
 bx:SBoxes Bp Bb M v0 W
 m:mapOk W M x.nxt
 left:LeftOk S W lv x.nxt.left
 sub:∀ p ∈ x.nxt.left,p ∈ l0
 few:x.nxt.done+x.nxt.left.length=l0.length
 fr:Fr M x.v W1 W
 new:∀ g,lv.ownBlock=some g→x.v.ownBlock=some g∨W1.heap.size≤g
theorem mapOk.below {W W':World} {M:Nat} {s:ZS} (h:mapOk W M s) (hb:Below W.heap.size W W'):mapOk W' M s:=by
 obtain⟨n,c,h1,h2⟩:=h
 exact⟨n,c,h1,h2.below hb h2.lt⟩
theorem SBoxes.below {Bp Bb M:Nat} {v0:Value} {W W':World} (h:SBoxes Bp Bb M v0 W) (hb:Below W.heap.size W W'):SBoxes Bp Bb M v0 W':=
 ⟨(hb.block _ (heap_lt h.p)).trans h.p,(hb.block _ (heap_lt h.b)).trans h.b⟩
theorem SH.below {S Bp Bb M:Nat} {v0:Value} {l0:List Pt} {x:SX} {W1:World} {lv:Value} {W W':World} (h:SH S Bp Bb M v0 l0 x W1 lv W) (hb:Below W.heap.size W W'):SH S Bp Bb M v0 l0 x W1 lv W':=
 ⟨h.bx.below hb,h.m.below hb,h.left.below hb,h.sub,h.few,h.fr.below hb,h.new⟩
def candZ (B:Bd) (b:Bool) (p:Pt):Bool:=((p.lit.op == 1) == b) && readyZ B p
theorem pick_none {B:Bd} {b:Bool} {l:List Pt} (h:∀ (j:Nat) (p:Pt),l[j]?=some p→candZ B b p=false):pickZ B b l=none:=by
 unfold pickZ
 rw[List.findIdx?_eq_none_iff]
 intro p hp
 obtain⟨j,hj⟩:=List.mem_iff_getElem?.1 hp
 exact h j p hj
theorem pick_some {B:Bd} {b:Bool} {l:List Pt} {i:Nat} {p:Pt} (hi:l[i]?=some p) (hc:candZ B b p=true) (h:∀ (j:Nat) (p:Pt),j < i→l[j]?=some p→candZ B b p=false):pickZ B b l=some i:=by
 unfold pickZ
 rw[List.findIdx?_eq_some_iff_getElem]
 obtain⟨hlt,e⟩:=List.getElem?_eq_some_iff.1 hi
 refine⟨hlt,by rw[e];exact hc,fun j hj=>?_⟩
 have:=h j l[j] hj (List.getElem?_eq_getElem (by omega))
 unfold candZ at this
 rw[this]
 decide
theorem next_first {s:ZS} {i:Nat} (h:pickZ s.B false s.left=some i):nextZ s=some i:=by unfold nextZ;rw[h];rfl
theorem next_second {s:ZS} {i:Nat} (h0:pickZ s.B false s.left=none) (h:pickZ s.B true s.left=some i):nextZ s=some i:=by unfold nextZ;rw[h0,h];rfl
theorem next_none {s:ZS} (h0:pickZ s.B false s.left=none) (h:pickZ s.B true s.left=none):nextZ s=none:=by unfold nextZ;rw[h0,h];rfl
theorem SH.found {S Bp Bb M:Nat} {v0:Value} {l0:List Pt} {x:SX} {W1:World} {lv:Value} {W:World} (h:SH S Bp Bb M v0 l0 x W1 lv W) {i:Nat} {p:Pt} {cs:List Value} {bx:Nat} (hi:nextZ x.nxt=some i) (hp:x.nxt.left[i]?=some p) (hb:W.heap[bx]?=some (.cells cs.toArray 105 (0,0))) (hc:PtC W S p cs) :
  ST S Bp Bb M v0 l0 x W1 ⟨x.nxt,some (i,p),lv,cs,bx⟩ W:=
 ⟨rfl,⟨i,p,rfl⟩,⟨h.bx,h.m,h.left,h.sub,h.few,fun i' p' e=>by cases e;exact⟨hb,hc,hi,hp⟩⟩,h.fr,h.new⟩
theorem laid_one {α:Type} {z:Nat} {L:α→List Value→Prop} {acc:List α} {xs:List Value} (h:Laid z L acc xs) (hL:∀ x cs,L x cs→∀ u ∈ cs,u.oneCell'=true):∀ u ∈ xs,u.oneCell'=true:=by
 intro u hu
 obtain⟨q,hq⟩:=List.mem_iff_getElem?.1 hu
 have hlt:=(List.getElem?_eq_some_iff.1 hq).1
 rw[h.1] at hlt
 have hz:0 < z:=Nat.pos_of_ne_zero fun e=>by rw[e] at hlt;simp at hlt
 have hi:q / z < acc.length:=(Nat.div_lt_iff_lt_mul hz).2 hlt
 obtain⟨cs,c1,c2,c3⟩:=h.2 (q / z) _ (List.getElem?_eq_getElem hi)
 have hj:q % z < cs.length:=by rw[c1];exact Nat.mod_lt _ hz
 have h3:=c3 (q % z) _ (List.getElem?_eq_getElem hj)
 rw[Nat.mul_comm,Nat.div_add_mod,hq] at h3
 cases h3
 exact hL _ _ c2 _ (List.getElem_mem hj)
theorem clone_left {S:Nat} {W:World} {v:Value} {l:List Pt} (h:LeftOk S W v l) (hn:l.length≤1000000) :
  Calls Tryz.prog 104 #[v] W fun e w'=>∃ u,e=.returned u∧LeftOk S w' u l∧Below W.heap.size W w'∧∀ g,u.ownBlock=some g→W.heap.size≤g:=by
 obtain⟨hS,xs,h1,h2⟩:=h
 refine (clone_c 0 l.length v xs W h1 (laid_one h2 pt_one) hn).mono ?_
 rintro e w' ⟨u,rfl,h3,hb⟩
 refine⟨u,rfl,⟨Nat.le_trans hS hb.size,xs,own_base h3 (Nat.zero_le _),h2.mono fun x cs hx=>hx.cells (fun p c hc=>?_) (Nat.le_refl _)⟩,hb,fun g hg=>(h3.lt g hg).1⟩
 obtain⟨k1,k2⟩:=hidO_cell hc
 have hlt:=World.block_lt_of_cell? _ _ k2
 exact cell_hidO ((World.cell?_of_block (hb.block _ hlt)).trans k2) (fun e=>by have:=(h3.lt _ e).1;omega)
theorem scopeW {n:Nat} {P:Program} {c:Code} {Q:Exit→Act→World→Prop} {a:Act} {w:World} (h:c.wpIn Fence.wide n P (Exit.noGoto Q) a w):(Code.scope c).wpIn Fence.wide n P Q a w:=
 wpIn_wide.2 (wp_scope_straight (wpIn_wide.1 h))
def lenV:Value→Nat
 | .slice _ n _=>n
 | _=>0
structure FewP' (l:List Pt):Prop where
 n:l.length≤2000
 w:wtZ l≤1000000
def sx0 (l0:List Pt) (v0:Value) (B0:Bd):SX:=⟨⟨l0,B0,0⟩,none,v0,[],0⟩
end Go.Proofs.YtfmldnbcjbflbaaGreatDoor
namespace Go.Proofs.YtfmldnbcjbflbaaGreatDoor
open Lib(hid)
open Go.RowKit
theorem next_b {s:ZS} {b:Bool} {i:Nat} (h0:b=true→pickZ s.B false s.left=none) (h:pickZ s.B b s.left=some i):nextZ s=some i:=by
 cases b with
 | false=>exact next_first h
 | true=>exact next_second (h0 rfl) h
theorem mapI_obj {P:Program} {w:World} {kT eT:TypeId} {B n:Nat} {f:List UInt8→Int} {c:Nat} (h:MapI P w kT eT B n f c) {b:Nat} {cs:Array Value} {T:TypeId} {fr:Nat × Nat} (hb:w.heap[b]?=some (.cells cs T fr)):b≠B:=fun e=>by
 subst e
 obtain⟨D,⟨es,clock,h3,_⟩,_⟩:=h
 rw[h3] at hb
 cases hb
theorem row_obj {w:World} {base n z b:Nat} {e T:TypeId} {v:Value} {xs:List Value} {cs:Array Value} {fr:Nat × Nat} (h:w.ownsRow base e z v n xs) (hb:w.heap[b]?=some (.cells cs T fr)) (hT:T≠e):v.ownBlock≠some b:=by
 intro hv
 rcases h.2 with ⟨rfl,_⟩ | ⟨g,cap,cur,rfl,_,hg,_⟩
 ·cases hv
 ·obtain rfl:g=b:=by simpa[Value.ownBlock] using hv
  rw[hg] at hb
  cases hb
  exact hT rfl
theorem row_map {P:Program} {w:World} {kT eT:TypeId} {B n:Nat} {f:List UInt8→Int} {c:Nat} (h:MapI P w kT eT B n f c) {base n' z:Nat} {e:TypeId} {v:Value} {xs:List Value} (ho:w.ownsRow base e z v n' xs):some B≠v.ownBlock:=fun e=>by
 obtain⟨D,⟨es,clock,h3,_⟩,_⟩:=h
 rcases ho.2 with ⟨rfl,_⟩ | ⟨g,cap,cur,rfl,_,hg,_⟩
 ·cases e
 ·obtain rfl:B=g:=by simpa[Value.ownBlock] using e
  rw[h3] at hg
  cases hg
theorem SG.again {S Bp Bb M:Nat} {v0:Value} {l0:List Pt} {x:SX} {W5 wm w' w'':World} {i:Nat} {p:Pt} {v':Value} {xs:List Value} {n' c':Nat} (h:SG S Bp Bb M v0 l0 x W5) (hch:x.ch=some (i,p)) (hp:x.st.left[i]?=some p)
  (hb:Below W5.heap.size W5 wm) (hg:wm.grownBy w' (some M)) (hm:MapI Tryz.prog w' 9 3 M n' (addZ (x.st.done+1) x.st.B (bindsZ p)) c') (hn':n'+wtZ (x.st.left.eraseIdx i)≤1000000)
  (hS:S≤w'.heap.size) (hown:w'.ownsRow 0 105 17 x.v x.st.left.length xs) (hl:Laid 17 (PtC (hidO x.v w') S) x.st.left xs) (hv':v'.ownBlock=x.v.ownBlock)
  (ho:w''.ownsRow 0 105 17 v' (x.st.left.length - 1) (xs.take (i * 17)++xs.drop ((i+1) * 17))) (hg2:w'.grownBy w'' x.v.ownBlock):SH S Bp Bb M v0 l0 x W5 v' w'':=by
 have hi:=(List.getElem?_eq_some_iff.1 hp).1
 have hx:x.nxt=x.st.step i p:=by unfold SX.nxt;rw[hch]
 obtain⟨n0,c0,_,hm0⟩:=h.m
 have hk:∀ {b:Nat} {cs:Array Value} {T:TypeId},T≠105→W5.heap[b]?=some (.cells cs T (0,0))→w''.heap[b]?=some (.cells cs T (0,0)):=fun {b cs T} hT hbk=>by
  have h1:=(hb.block _ (heap_lt hbk)).trans hbk
  have h2:=(hg.block _ (heap_lt h1) (fun e=>mapI_obj hm0 hbk (Option.some.inj e))).trans h1
  exact (hg2.block _ (heap_lt h2) (fun e=>row_obj hown h2 hT e.symm)).trans h2
 refine⟨⟨hk (by decide) h.bx.p,hk (by decide) h.bx.b⟩,?_,?_,?_,?_,?_,?_⟩
 ·rw[hx]
  exact⟨n',c',hn',hm.kept hg2 (row_map hm hown)⟩
 ·rw[hx]
  exact LeftOk.erase hS hi hl hv' ho hg2
 ·rw[hx]
  exact fun q hq=>h.sub q (List.mem_of_mem_eraseIdx hq)
 ·rw[hx]
  have:=h.few
  show x.st.done+1+(x.st.left.eraseIdx i).length=l0.length
  rw[List.length_eraseIdx_of_lt hi]
  omega
 ·exact (((Fr.refl M x.v W5).below hb).map hg).row hg2
 ·intro g hg'
  rw[hv'] at hg'
  exact .inl hg'
theorem LeftOk.open {S:Nat} {W:World} {v:Value} {l:List Pt} (h:LeftOk S W v l) {i:Nat} {p:Pt} (hp:l[i]?=some p):∃ (g cap:Nat) (xs:List Value),v=.slice (some ⟨g,0,none⟩) l.length cap∧W.ownsRow 0 105 17 v l.length xs∧Laid 17 (PtC (hidO v W) S) l xs∧∀ u ∈ xs,u.oneCell'=true:=by
 obtain⟨_,xs,h1,h2⟩:=h
 have hi:=(List.getElem?_eq_some_iff.1 hp).1
 rcases h1.2 with ⟨rfl,h0⟩ | ⟨g,cap,cur,rfl,h3⟩
 ·omega
 ·exact⟨g,cap,xs,rfl,h1,h2,laid_one h2 pt_one⟩
def slotsQ:List (Option Tmp):=[some 41,some 42,some 43,some 44,some 45]
def factsQ (M d:Nat) (cs:List Value) (p:Pt):List (Value→World→Prop):=
 [fun v _=>v=.map (some M),fun v _=>v=.agg cs.toArray,fun v W=>SlOf W W.heap.size 1 StrC (bindsZ p) v,fun v _=>v=.int .i64 (d:Int),fun _ _=>True]
theorem factsQ_mono (M d:Nat) (cs:List Value) (p:Pt):∀ q ∈ factsQ M d cs p,∀ v w w',q v w→Below w.heap.size w w'→q v w':=by
 intro q hq v w w' h hb
 unfold factsQ at hq
 simp only[List.mem_cons,List.not_mem_nil,or_false] at hq
 rcases hq with rfl | rfl | rfl | rfl | rfl
 ·exact h
 ·exact h
 ·exact h.str hb hb.size
 ·exact h
 ·trivial
theorem wp_load17 {o:Oper} {a:Act} {w:World} {K:Act→World→Prop} {Q:Exit→Act→World→Prop} (x:Operand) (ho:o.op=Op.load 105 x) (ad:Addr) (hx:a.eval x=.pointer (some ad)) {cs:List Value} (hl:cs.length=17) (h:∀ j c,cs[j]?=some c→w.cell? (ad.add j)=some c)
  (hK:K (a.put o.dst (.agg cs.toArray)) w):o.wp Tryz.prog a w K Q:=by
 have h1:=loadAt17 hl h
 unfold Oper.wp
 simp only[execOp,ho,hx,h1,Sem.run_bind,Sem.run_pure,Result.andThen_ok,Result.andThen]
 exact hK
end Go.Proofs.YtfmldnbcjbflbaaGreatDoor
