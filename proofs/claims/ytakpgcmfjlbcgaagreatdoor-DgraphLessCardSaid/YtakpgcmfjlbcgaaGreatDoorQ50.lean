/- Gsh@0123 -/
import Derived.Test.YtakpgcmfjlbcgaaGreatDoorQ44
set_option linter.unusedSimpArgs false
set_option linter.unusedVariables false
namespace Go.Proofs.YtakpgcmfjlbcgaaGreatDoor
open Lib(hid)
open Go.RowKit
theorem SlOf.ints {w w':World} {l:List (List Int)} {v:Value} (h:SlOf w w.heap.size 1 (IntsC w w.heap.size) l v) (hb:Below w.heap.size w w'):SlOf w' w'.heap.size 1 (IntsC w' w'.heap.size) l v:=
 SlOf.more (SlOf.below h hb (R':=IntsC w' w'.heap.size) fun _ _ _ ⟨o,c,h1,h2⟩=>⟨o,c,h1,h2.int hb hb.size⟩) hb.size fun _ _ _ h=>h
def litC7 (op:Int) (q:ByteArray) (u:Value):List Value:=[.int .i64 op,.string q,u,.int .i64 0,.string ⟨#[]⟩,.int .i64 0,.slice none 0 0,.int .i64 0,.string ⟨#[]⟩,.int .i64 0,.slice none 0 0]
theorem litA_c {w:World} {u:Value} (h:AmC w w.heap.size ⟨eG,[vT xG]⟩ [.string eG,u]):LtC w w.heap.size lA7 (litC7 1 eG u):=⟨_,_,_,rfl,by unfold I64;decide,h,zT_c w,zT_c w⟩
theorem litN_c {w:World} {u:Value} (h:AmC w w.heap.size ⟨pG,[vT xG]⟩ [.string pG,u]):LtC w w.heap.size lN7 (litC7 2 pG u):=⟨_,_,_,rfl,by unfold I64;decide,h,zT_c w,zT_c w⟩
theorem at_am {w:World} {b:Nat} {q s:ByteArray} (h:OneAt w b s) (hs:s.size≤maxLen) (hq:q.size≤maxLen):AmC w w.heap.size ⟨q,[vT s]⟩ [.string q,.slice (some ⟨b,0,none⟩) 1 1]:=⟨_,rfl,hq,tm_row1 h (vT_c w s hs)⟩
theorem body1_c {w W:World} {u:Value} (h:LtC w w.heap.size lA7 (litC7 1 eG u)) (hW:w.alloc (.cells (litC7 1 eG u).toArray 53)=W):SlOf W W.heap.size 11 (LtC W W.heap.size) [lA7] (.slice (some ⟨w.heap.size,0,none⟩) 1 1):=by
 have hb:Below w.heap.size w W:=by rw[← hW];exact (Below.refl _ _).alloc (Nat.le_refl _) _
 have hr:W.heap[w.heap.size]?=some (.cells (litC7 1 eG u).toArray 53 (0,0)):=by rw[← hW];exact World.alloc_heap_new w _
 refine sl_cells (l:=[lA7]) [litC7 1 eG u] (by simpa using hr) rfl (by simp[litC7]) ?_ (by simp[maxLen])
 intro i x cs hx hc
 match i,hx,hc with
 | 0,hx,hc=>simp at hx hc;subst hx hc;exact (h.below hb).more hb.size
 | i+1,hx,_=>simp at hx
theorem body2_c {w W:World} {u v:Value} (h:LtC w w.heap.size lA7 (litC7 1 eG u)) (k:LtC w w.heap.size lN7 (litC7 2 pG v)) (hW:w.alloc (.cells (litC7 1 eG u++litC7 2 pG v).toArray 53)=W):SlOf W W.heap.size 11 (LtC W W.heap.size) [lA7,lN7] (.slice (some ⟨w.heap.size,0,none⟩) 2 2):=by
 have hb:Below w.heap.size w W:=by rw[← hW];exact (Below.refl _ _).alloc (Nat.le_refl _) _
 have hr:W.heap[w.heap.size]?=some (.cells (litC7 1 eG u++litC7 2 pG v).toArray 53 (0,0)):=by rw[← hW];exact World.alloc_heap_new w _
 refine sl_cells (l:=[lA7,lN7]) [litC7 1 eG u,litC7 2 pG v] (by simpa using hr) rfl (by simp[litC7]) ?_ (by simp[maxLen])
 intro i x cs hx hc
 match i,hx,hc with
 | 0,hx,hc=>simp at hx hc;subst hx hc;exact (h.below hb).more hb.size
 | 1,hx,hc=>simp at hx hc;subst hx hc;exact (k.below hb).more hb.size
 | i+2,hx,_=>simp at hx
theorem rules1_c {w W:World} {r:Ru} {a b c d:Value} (h:RuC w w.heap.size r [a,b,c,d]) (hW:w.alloc (.cells #[a,b,c,d] 47)=W):SlOf W W.heap.size 4 (RuC W W.heap.size) [r] (.slice (some ⟨w.heap.size,0,none⟩) 1 1):=by
 have hb:Below w.heap.size w W:=by rw[← hW];exact (Below.refl _ _).alloc (Nat.le_refl _) _
 have hr:W.heap[w.heap.size]?=some (.cells #[a,b,c,d] 47 (0,0)):=by rw[← hW];exact World.alloc_heap_new w _
 refine sl_cells (l:=[r]) [[a,b,c,d]] (by simpa using hr) rfl (by simp) ?_ (by simp[maxLen])
 intro i x cs hx hc
 match i,hx,hc with
 | 0,hx,hc=>simp at hx hc;subst hx hc;exact (h.below hb).more hb.size
 | i+1,hx,_=>simp at hx
theorem lil7a:Lil pA7:=lil_small (by decide +kernel)
theorem lil7b:Lil pB7:=lil_small (by decide +kernel)
theorem ints7 {w W:World} (hW:((w.alloc (.cells #[.int .i64 0] 3)).alloc (.cells #[.int .i64 1] 3)).alloc (.cells #[.slice (some ⟨w.heap.size,0,none⟩) 1 1,.slice (some ⟨w.heap.size+1,0,none⟩) 1 1] 39)=W):SlOf W W.heap.size 1 (IntsC W W.heap.size) [[0],[1]] (.slice (some ⟨w.heap.size+1+1,0,none⟩) 2 2):=by
 have r0:W.heap[w.heap.size]?=some (.cells #[.int .i64 0] 3 (0,0)):=by rw[← hW];exact row_more (row_more (World.alloc_heap_new w _) _) _
 have r1:W.heap[w.heap.size+1]?=some (.cells #[.int .i64 1] 3 (0,0)):=by
  rw[← hW]
  have:=World.alloc_heap_new (w.alloc (.cells #[.int .i64 0] 3)) (.cells #[.int .i64 1] 3)
  rw[World.size_alloc] at this
  exact row_more this _
 have r2:W.heap[w.heap.size+1+1]?=some (.cells #[.slice (some ⟨w.heap.size,0,none⟩) 1 1,.slice (some ⟨w.heap.size+1,0,none⟩) 1 1] 39 (0,0)):=by
  rw[← hW]
  have:=World.alloc_heap_new ((w.alloc (.cells #[.int .i64 0] 3)).alloc (.cells #[.int .i64 1] 3)) (.cells #[.slice (some ⟨w.heap.size,0,none⟩) 1 1,.slice (some ⟨w.heap.size+1,0,none⟩) 1 1] 39)
  rwa [World.size_alloc,World.size_alloc] at this
 have one:∀ (b:Nat) (n:Int),I64 n→W.heap[b]?=some (.cells #[.int .i64 n] 3 (0,0))→SlOf W W.heap.size 1 IntC [n] (.slice (some ⟨b,0,none⟩) 1 1):=fun b n hn h=>sl_cells (l:=[n]) [[.int .i64 n]] h rfl (by simp) (fun i x cs hx hc=>by
  match i,hx,hc with
  | 0,hx,hc=>simp at hx hc;subst hx hc;exact⟨rfl,hn⟩
  | i+1,hx,_=>simp at hx) (by simp[maxLen])
 refine sl_cells (l:=[[0],[1]]) [[.slice (some ⟨w.heap.size,0,none⟩) 1 1],[.slice (some ⟨w.heap.size+1,0,none⟩) 1 1]] (by simpa using r2) rfl (by simp) ?_ (by simp[maxLen])
 intro i x cs hx hc
 match i,hx,hc with
 | 0,hx,hc=>simp at hx hc;subst hx hc;exact⟨_,_,rfl,one _ 0 (by unfold I64;decide) r0⟩
 | 1,hx,hc=>simp at hx hc;subst hx hc;exact⟨_,_,rfl,one _ 1 (by unfold I64;decide) r1⟩
 | i+2,hx,_=>simp at hx
def slotsA7:List (Option Tmp):=[some 11,some 12,some 13,some 14,some 15,some 16,some 17,some 18,some 10,some 19,some 20,some 21,some 2,some 3,some 4]
def factsA7:List (Value→World→Prop):=
 [fun v w=>SlOf w w.heap.size 6 (DeC w w.heap.size) two7 v,
  fun v w=>∃ u,v=.agg #[.string pG,u]∧AmC w w.heap.size ⟨pG,[vT xG]⟩ [.string pG,u],
  fun v w=>∃ u,v=.agg (litC7 1 eG u).toArray∧LtC w w.heap.size lA7 (litC7 1 eG u),
  fun v w=>SlOf w w.heap.size 11 (LtC w w.heap.size) [lA7] v,
  fun v w=>∃ u b,v=.agg #[.string pG,u,b,.int .i64 0]∧RuC w w.heap.size rA7 [.string pG,u,b,.int .i64 0],
  fun v w=>SlOf w w.heap.size 4 (RuC w w.heap.size) [rA7] v,
  fun v w=>∃ a b,v=.agg #[a,b]∧PgC w w.heap.size pA7 [a,b],
  fun v w=>∃ g,v=.tuple #[g,.int .i64 0,.int .i64 0]∧SlOf w w.heap.size 1 (IntsC w w.heap.size) [[0],[1]] g,
  fun v w=>∃ g,v=.tuple #[g,.int .i64 0,.int .i64 0]∧SlOf w w.heap.size 1 (IntsC w w.heap.size) [[0],[1]] g,
  fun v w=>SlOf w w.heap.size 1 (IntsC w w.heap.size) [[0],[1]] v,
  fun v _=>v=.int .i64 0,
  fun v _=>v=.int .i64 0,
  fun v w=>SlOf w w.heap.size 1 (IntsC w w.heap.size) [[0],[1]] v,
  fun v _=>v=.int .i64 0,
  fun v _=>v=.int .i64 0]
theorem factsA7_mono:∀ p ∈ factsA7,∀ v w w',p v w→Below w.heap.size w w'→p v w':=by
 intro p hp v w w' h hb
 unfold factsA7 at hp
 simp only[List.mem_cons,List.not_mem_nil,or_false] at hp
 rcases hp with rfl | rfl | rfl | rfl | rfl | rfl | rfl | rfl | rfl | rfl | rfl | rfl | rfl | rfl | rfl
 ·exact SlOf.decl h hb hb.size
 ·obtain⟨u,h1,h2⟩:=h;exact⟨u,h1,(h2.below hb).more hb.size⟩
 ·obtain⟨u,h1,h2⟩:=h;exact⟨u,h1,(h2.below hb).more hb.size⟩
 ·exact SlOf.lit h hb hb.size
 ·obtain⟨u,b,h1,h2⟩:=h;exact⟨u,b,h1,(h2.below hb).more hb.size⟩
 ·exact SlOf.rule h hb hb.size
 ·obtain⟨a,b,h1,h2⟩:=h;exact⟨a,b,h1,(h2.below hb).more hb.size⟩
 ·obtain⟨g,h1,h2⟩:=h;exact⟨g,h1,h2.ints hb⟩
 ·obtain⟨g,h1,h2⟩:=h;exact⟨g,h1,h2.ints hb⟩
 ·exact h.ints hb
 ·exact h
 ·exact h
 ·exact h.ints hb
 ·exact h
 ·exact h
def slotsB7:List (Option Tmp):=[some 23,some 24,some 25,some 26,some 27,some 28,some 29,some 30,some 31,some 32,some 22,some 33,some 34,some 35,some 5,some 6,some 7]
def factsB7:List (Value→World→Prop):=
 [fun v w=>SlOf w w.heap.size 6 (DeC w w.heap.size) two7 v,
  fun v w=>∃ u,v=.agg #[.string pG,u]∧AmC w w.heap.size ⟨pG,[vT xG]⟩ [.string pG,u],
  fun v w=>∃ u,v=.agg (litC7 1 eG u).toArray∧LtC w w.heap.size lA7 (litC7 1 eG u),
  fun v w=>∃ u,v=.agg #[.string pG,u]∧AmC w w.heap.size ⟨pG,[vT xG]⟩ [.string pG,u],
  fun v w=>∃ u,v=.agg (litC7 2 pG u).toArray∧LtC w w.heap.size lN7 (litC7 2 pG u),
  fun v w=>SlOf w w.heap.size 11 (LtC w w.heap.size) [lA7,lN7] v,
  fun v w=>∃ u b,v=.agg #[.string pG,u,b,.int .i64 7]∧RuC w w.heap.size rB7 [.string pG,u,b,.int .i64 7],
  fun v w=>SlOf w w.heap.size 4 (RuC w w.heap.size) [rB7] v,
  fun v w=>∃ a b,v=.agg #[a,b]∧PgC w w.heap.size pB7 [a,b],
  fun v w=>∃ g,v=.tuple #[g,.int .i64 7,.int .i64 70]∧SlOf w w.heap.size 1 (IntsC w w.heap.size) [] g,
  fun v w=>∃ g,v=.tuple #[g,.int .i64 7,.int .i64 70]∧SlOf w w.heap.size 1 (IntsC w w.heap.size) [] g,
  fun v w=>SlOf w w.heap.size 1 (IntsC w w.heap.size) [] v,
  fun v _=>v=.int .i64 7,
  fun v _=>v=.int .i64 70,
  fun v w=>SlOf w w.heap.size 1 (IntsC w w.heap.size) [] v,
  fun v _=>v=.int .i64 7,
  fun v _=>v=.int .i64 70]
theorem factsB7_mono:∀ p ∈ factsB7,∀ v w w',p v w→Below w.heap.size w w'→p v w':=by
 intro p hp v w w' h hb
 unfold factsB7 at hp
 simp only[List.mem_cons,List.not_mem_nil,or_false] at hp
 rcases hp with rfl | rfl | rfl | rfl | rfl | rfl | rfl | rfl | rfl | rfl | rfl | rfl | rfl | rfl | rfl | rfl | rfl
 ·exact SlOf.decl h hb hb.size
 ·obtain⟨u,h1,h2⟩:=h;exact⟨u,h1,(h2.below hb).more hb.size⟩
 ·obtain⟨u,h1,h2⟩:=h;exact⟨u,h1,(h2.below hb).more hb.size⟩
 ·obtain⟨u,h1,h2⟩:=h;exact⟨u,h1,(h2.below hb).more hb.size⟩
 ·obtain⟨u,h1,h2⟩:=h;exact⟨u,h1,(h2.below hb).more hb.size⟩
 ·exact SlOf.lit h hb hb.size
 ·obtain⟨u,b,h1,h2⟩:=h;exact⟨u,b,h1,(h2.below hb).more hb.size⟩
 ·exact SlOf.rule h hb hb.size
 ·obtain⟨a,b,h1,h2⟩:=h;exact⟨a,b,h1,(h2.below hb).more hb.size⟩
 ·obtain⟨g,h1,h2⟩:=h;exact⟨g,h1,h2.ints hb⟩
 ·obtain⟨g,h1,h2⟩:=h;exact⟨g,h1,h2.ints hb⟩
 ·exact h.ints hb
 ·exact h
 ·exact h
 ·exact h.ints hb
 ·exact h
 ·exact h
set_option maxRecDepth 100000 in
set_option maxHeartbeats 16000000 in
theorem shown7_c (e1' e2' e3' e4' e5' x y:Addr) (w:World) (E:EnvC e1' e2' e3' e4' e5' x y w):Calls Tryz.prog 9 #[] w fun e w'=>e=.returned (.bool true)∧Below w.heap.size w w':=by
 have HE:=hid E
 clear E
 go_enter Tryz.func9,Tryz.ntmps9
 go_wp2_with fail
 refine (at7_c _ _ _).mono ?_
 rintro e1 w1 ⟨b,rfl,h1,b1⟩
 obtain⟨W2,hW2⟩:∃ W2,w1.alloc (.cells (litC7 1 eG (.slice (some ⟨b,0,none⟩) 1 1)).toArray 53)=W2:=⟨_,rfl⟩
 have rl:W2.heap[w1.heap.size]?=some (.cells (litC7 1 eG (.slice (some ⟨b,0,none⟩) 1 1)).toArray 53 (0,0)):=by rw[← hW2];exact World.alloc_heap_new w1 _
 have b2:Below w1.heap.size w1 W2:=by rw[← hW2];exact (Below.refl _ _).alloc (Nat.le_refl _) _
 have BX:Hid (Below w.heap.size w W2):=hid (b1.trans (b2.mono b1.size))
 have RL:=hid rl
 have H1:=hid (h1.below b2)
 have HW2:=hid hW2
 clear b1 h1 rl b2 hW2
 go_wp2_with fail
 have hW3:=HW2.out
 unfold litC7 eG at hW3
 rw[hW3]
 clear hW3 HW2
 refine wp_region_any (by kernel_rfl) ?_
 (try (change wpAny _ _ _ _ _ _ _ (World.drew _)))
 refine wpAny_grow slotsA7 _ _ factsA7 (by kernel_rfl) (by kernel_rfl) (by kernel_rfl) (by kernel_rfl) (by kernel_rfl) factsA7_mono ⟨?s0,?s1,?s2,?s3,?s4,?s5,?s6,?s7,?s8,?s9,?s10,?s11,?s12,?s13,?s14,trivial⟩ ?sfin
 case s0=>
  intro A w' K hb hfar hd hK
  unfold Oper.wp
  go_simp
  refine (two7_c w').mono ?_
  rintro e3 w3 ⟨v3,rfl,h3,b3⟩
  exact hK _ _ b3 (factG_mk rfl h3)
 case s1=>
  intro A w' K hb hfar hd hK
  unfold Oper.wp
  go_simp
  refine (at7_c _ _ w').mono ?_
  rintro e3 w3 ⟨b3',rfl,h3,b3⟩
  exact hK _ _ b3 (factG_mk rfl ⟨_,rfl,at_am h3 (by decide) (by decide)⟩)
 case s2=>
  intro A w' K hb hfar hd hK
  have e1:A.tmps[1]?.getD undef=.pointer (some ⟨w1.heap.size,0,none⟩):=hfar 1 (by decide)
  have hrow:w'.heap[w1.heap.size]?=some (.cells (litC7 1 eG (.slice (some ⟨b,0,none⟩) 1 1)).toArray 53 (0,0)):=(hb.block _ (heap_lt RL.out)).trans RL.out
  have hone:=H1.out.below (drewB hb)
  obtain⟨c0,c1,c2,c3,c4,c5,c6,c7,c8,c9,c10⟩:w'.cell? ⟨w1.heap.size,0,none⟩=some (.int .i64 1)∧w'.cell? ⟨w1.heap.size,1,none⟩=some (.string eG)∧w'.cell? ⟨w1.heap.size,2,none⟩=some (.slice (some ⟨b,0,none⟩) 1 1)∧w'.cell? ⟨w1.heap.size,3,none⟩=some (.int .i64 0)∧w'.cell? ⟨w1.heap.size,4,none⟩=some (.string ⟨#[]⟩)∧w'.cell? ⟨w1.heap.size,5,none⟩=some (.int .i64 0)∧w'.cell? ⟨w1.heap.size,6,none⟩=some (.slice none 0 0)∧w'.cell? ⟨w1.heap.size,7,none⟩=some (.int .i64 0)∧w'.cell? ⟨w1.heap.size,8,none⟩=some (.string ⟨#[]⟩)∧w'.cell? ⟨w1.heap.size,9,none⟩=some (.int .i64 0)∧w'.cell? ⟨w1.heap.size,10,none⟩=some (.slice none 0 0):=⟨row_cells hrow 0,row_cells hrow 1,row_cells hrow 2,row_cells hrow 3,row_cells hrow 4,row_cells hrow 5,row_cells hrow 6,row_cells hrow 7,row_cells hrow 8,row_cells hrow 9,row_cells hrow 10⟩
  clear hrow
  unfold Oper.wp
  simp[execOp,e1,c0,c1,c2,c3,c4,c5,c6,c7,c8,c9,c10,go_sem,Result.andThen]
  exact hK _ _ (Below.refl _ _) (factG_mk rfl ⟨_,rfl,litA_c (at_am hone (by decide) (by decide))⟩)
 case s3=>
  intro A w' K hb hfar hd hK
  obtain⟨u1,e1,h1⟩:∃ u,A.tmps[13]?.getD undef=.agg (litC7 1 eG u).toArray∧LtC w' w'.heap.size lA7 (litC7 1 eG u):=hd 2 13 rfl (by kernel_rfl) _ rfl
  have hs:=body1_c h1 rfl
  unfold litC7 at e1 hs
  unfold Oper.wp
  simp[execOp,e1,go_sem,Result.andThen]
  exact hK _ _ ((Below.refl _ _).alloc (Nat.le_refl _) _) (factG_mk rfl hs)
 case s4=>
  intro A w' K hb hfar hd hK
  obtain⟨u1,e1,h1⟩:∃ u,A.tmps[12]?.getD undef=.agg #[.string pG,u]∧AmC w' w'.heap.size ⟨pG,[vT xG]⟩ [.string pG,u]:=hd 1 12 rfl (by kernel_rfl) _ rfl
  obtain⟨B,e2,h2⟩:∃ B,A.tmps[14]?.getD undef=B∧SlOf w' w'.heap.size 11 (LtC w' w'.heap.size) [lA7] B:=⟨_,rfl,hd 3 14 rfl (by kernel_rfl) _ rfl⟩
  obtain⟨ob,cb,hBv,_⟩:=SlOf.uni h2
  subst hBv
  unfold Oper.wp
  simp[execOp,e1,e2,go_sem,Result.andThen]
  exact hK _ _ (Below.refl _ _) (factG_mk rfl ⟨_,_,rfl,_,_,rfl,by unfold I64;decide,h1,h2⟩)
 case s5=>
  intro A w' K hb hfar hd hK
  obtain⟨u1,B,e1,h1⟩:∃ u b,A.tmps[15]?.getD undef=.agg #[.string pG,u,b,.int .i64 0]∧RuC w' w'.heap.size rA7 [.string pG,u,b,.int .i64 0]:=hd 4 15 rfl (by kernel_rfl) _ rfl
  have hs:=rules1_c h1 rfl
  unfold Oper.wp
  simp[execOp,e1,go_sem,Result.andThen]
  exact hK _ _ ((Below.refl _ _).alloc (Nat.le_refl _) _) (factG_mk rfl hs)
 case s6=>
  intro A w' K hb hfar hd hK
  obtain⟨D,e1,h1⟩:∃ B,A.tmps[11]?.getD undef=B∧SlOf w' w'.heap.size 6 (DeC w' w'.heap.size) two7 B:=⟨_,rfl,hd 0 11 rfl (by kernel_rfl) _ rfl⟩
  obtain⟨R,e2,h2⟩:∃ B,A.tmps[16]?.getD undef=B∧SlOf w' w'.heap.size 4 (RuC w' w'.heap.size) [rA7] B:=⟨_,rfl,hd 5 16 rfl (by kernel_rfl) _ rfl⟩
  obtain⟨od,cd,hDv,_⟩:=SlOf.uni h1
  subst hDv
  obtain⟨orr,cr,hRv,_⟩:=SlOf.uni h2
  subst hRv
  unfold Oper.wp
  simp[execOp,e1,e2,go_sem,Result.andThen]
  exact hK _ _ (Below.refl _ _) (factG_mk rfl ⟨_,_,rfl,_,_,rfl,h1,h2⟩)
 case s7=>
  intro A w' K hb hfar hd hK
  obtain⟨D,R,e1,h1⟩:∃ a b,A.tmps[17]?.getD undef=.agg #[a,b]∧PgC w' w'.heap.size pA7 [a,b]:=hd 6 17 rfl (by kernel_rfl) _ rfl
  unfold Oper.wp
  simp[execOp,e1,go_sem,Result.andThen]
  refine (groups7_c pA7 [D,R] e1' e2' e3' e4' e5' x y w' h1 lil7a.few lil7a.rule (HE.out.below (BX.out.trans ((drewB hb).mono BX.out.size))) lil7a.n lil7a.e).mono ?_
  intro e3 w3 hR
  obtain⟨hA,b3⟩:=gsR_one lil7a.n hR
  obtain⟨h3,h4⟩:=hA
  obtain⟨rfl,rfl,rfl⟩:=groups7_a h3
  exact hK _ _ b3 (factG_mk rfl ⟨_,rfl,h4⟩)
 case s8=>
  intro A w' K hb hfar hd hK
  obtain⟨g,e1,h1⟩:∃ g,A.tmps[18]?.getD undef=.tuple #[g,.int .i64 0,.int .i64 0]∧SlOf w' w'.heap.size 1 (IntsC w' w'.heap.size) [[0],[1]] g:=hd 7 18 rfl (by kernel_rfl) _ rfl
  unfold Oper.wp
  simp[execOp,e1,go_sem,Result.andThen]
  exact hK _ _ (Below.refl _ _) (factG_mk rfl ⟨_,rfl,h1⟩)
 case s9=>
  intro A w' K hb hfar hd hK
  obtain⟨g,e1,h1⟩:∃ g,A.tmps[10]?.getD undef=.tuple #[g,.int .i64 0,.int .i64 0]∧SlOf w' w'.heap.size 1 (IntsC w' w'.heap.size) [[0],[1]] g:=hd 8 10 rfl (by kernel_rfl) _ rfl
  unfold Oper.wp
  simp[execOp,e1,go_sem,Result.andThen]
  exact hK _ _ (Below.refl _ _) (factG_mk rfl h1)
 case s10=>
  intro A w' K hb hfar hd hK
  obtain⟨g,e1,h1⟩:∃ g,A.tmps[10]?.getD undef=.tuple #[g,.int .i64 0,.int .i64 0]∧SlOf w' w'.heap.size 1 (IntsC w' w'.heap.size) [[0],[1]] g:=hd 8 10 rfl (by kernel_rfl) _ rfl
  unfold Oper.wp
  simp[execOp,e1,go_sem,Result.andThen]
  exact hK _ _ (Below.refl _ _) (factG_mk rfl rfl)
 case s11=>
  intro A w' K hb hfar hd hK
  obtain⟨g,e1,h1⟩:∃ g,A.tmps[10]?.getD undef=.tuple #[g,.int .i64 0,.int .i64 0]∧SlOf w' w'.heap.size 1 (IntsC w' w'.heap.size) [[0],[1]] g:=hd 8 10 rfl (by kernel_rfl) _ rfl
  unfold Oper.wp
  simp[execOp,e1,go_sem,Result.andThen]
  exact hK _ _ (Below.refl _ _) (factG_mk rfl rfl)
 case s12=>
  intro A w' K hb hfar hd hK
  obtain⟨g,e1,h1⟩:∃ B,A.tmps[19]?.getD undef=B∧SlOf w' w'.heap.size 1 (IntsC w' w'.heap.size) [[0],[1]] B:=⟨_,rfl,hd 9 19 rfl (by kernel_rfl) _ rfl⟩
  unfold Oper.wp
  simp[execOp,e1,go_sem,Result.andThen]
  exact hK _ _ (Below.refl _ _) (factG_mk rfl h1)
 case s13=>
  intro A w' K hb hfar hd hK
  have e1:A.tmps[20]?.getD undef=.int .i64 0:=hd 10 20 rfl (by kernel_rfl) _ rfl
  unfold Oper.wp
  simp[execOp,e1,go_sem,Result.andThen]
  exact hK _ _ (Below.refl _ _) (factG_mk rfl rfl)
 case s14=>
  intro A w' K hb hfar hd hK
  have e1:A.tmps[21]?.getD undef=.int .i64 0:=hd 11 21 rfl (by kernel_rfl) _ rfl
  unfold Oper.wp
  simp[execOp,e1,go_sem,Result.andThen]
  exact hK _ _ (Below.refl _ _) (factG_mk rfl rfl)
 case sfin=>
  intro val w5 hF hb5
  have f12:SlOf w5 w5.heap.size 1 (IntsC w5 w5.heap.size) [[0],[1]] (val 12):=hF 12 2 rfl _ rfl
  have f13:val 13=.int .i64 0:=hF 13 3 rfl _ rfl
  have f14:val 14=.int .i64 0:=hF 14 4 rfl _ rfl
  simp only[slotsA7,putsA,Nat.zero_add,Nat.reduceAdd,f13,f14]
  generalize val 0=v0
  generalize val 1=v1
  generalize val 2=v2
  generalize val 3=v3
  generalize val 4=v4
  generalize val 5=v5
  generalize val 6=v6
  generalize val 7=v7
  generalize val 8=v8
  generalize val 9=v9
  generalize val 10=v10
  generalize val 11=v11
  generalize hg:val 12=gv at f12
  have S5:=hid f12
  have B5:=hid (BX.out.trans ((drewB hb5).mono BX.out.size))
  have RL5:=hid ((hb5.block _ (heap_lt RL.out)).trans RL.out)
  have H15:=hid (H1.out.below (drewB hb5))
  clear hF hb5 f12 f13 f14 hg val RL H1 BX
  rename Hid (Below w.heap.size w w5)=>BX
  rename Hid (OneAt w5 b xG)=>H1
  rename Hid (w5.heap[w1.heap.size]?=_)=>RL
  go_simp
  go_wp2_with fail
  refine wp_region_any (by kernel_rfl) ?_
  (try (change wpAny _ _ _ _ _ _ _ (World.drew _)))
  refine wpAny_grow slotsB7 _ _ factsB7 (by kernel_rfl) (by kernel_rfl) (by kernel_rfl) (by kernel_rfl) (by kernel_rfl) factsB7_mono ⟨?t0,?t1,?t2,?t3,?t4,?t5,?t6,?t7,?t8,?t9,?t10,?t11,?t12,?t13,?t14,?t15,?t16,trivial⟩ ?tfin
  case t0=>
   intro A w' K hb hfar hd hK
   unfold Oper.wp
   go_simp
   refine (two7_c w').mono ?_
   rintro e3 w3 ⟨v3,rfl,h3,b3⟩
   exact hK _ _ b3 (factG_mk rfl h3)
  case t1=>
   intro A w' K hb hfar hd hK
   unfold Oper.wp
   go_simp
   refine (at7_c _ _ w').mono ?_
   rintro e3 w3 ⟨b3',rfl,h3,b3⟩
   exact hK _ _ b3 (factG_mk rfl ⟨_,rfl,at_am h3 (by decide) (by decide)⟩)
  case t2=>
   intro A w' K hb hfar hd hK
   have e1:A.tmps[1]?.getD undef=.pointer (some ⟨w1.heap.size,0,none⟩):=hfar 1 (by decide)
   have hrow:w'.heap[w1.heap.size]?=some (.cells (litC7 1 eG (.slice (some ⟨b,0,none⟩) 1 1)).toArray 53 (0,0)):=(hb.block _ (heap_lt RL.out)).trans RL.out
   have hone:=H1.out.below (drewB hb)
   obtain⟨c0,c1,c2,c3,c4,c5,c6,c7,c8,c9,c10⟩:w'.cell? ⟨w1.heap.size,0,none⟩=some (.int .i64 1)∧w'.cell? ⟨w1.heap.size,1,none⟩=some (.string eG)∧w'.cell? ⟨w1.heap.size,2,none⟩=some (.slice (some ⟨b,0,none⟩) 1 1)∧w'.cell? ⟨w1.heap.size,3,none⟩=some (.int .i64 0)∧w'.cell? ⟨w1.heap.size,4,none⟩=some (.string ⟨#[]⟩)∧w'.cell? ⟨w1.heap.size,5,none⟩=some (.int .i64 0)∧w'.cell? ⟨w1.heap.size,6,none⟩=some (.slice none 0 0)∧w'.cell? ⟨w1.heap.size,7,none⟩=some (.int .i64 0)∧w'.cell? ⟨w1.heap.size,8,none⟩=some (.string ⟨#[]⟩)∧w'.cell? ⟨w1.heap.size,9,none⟩=some (.int .i64 0)∧w'.cell? ⟨w1.heap.size,10,none⟩=some (.slice none 0 0):=⟨row_cells hrow 0,row_cells hrow 1,row_cells hrow 2,row_cells hrow 3,row_cells hrow 4,row_cells hrow 5,row_cells hrow 6,row_cells hrow 7,row_cells hrow 8,row_cells hrow 9,row_cells hrow 10⟩
   clear hrow
   unfold Oper.wp
   simp[execOp,e1,c0,c1,c2,c3,c4,c5,c6,c7,c8,c9,c10,go_sem,Result.andThen]
   exact hK _ _ (Below.refl _ _) (factG_mk rfl ⟨_,rfl,litA_c (at_am hone (by decide) (by decide))⟩)
  case t3=>
   intro A w' K hb hfar hd hK
   unfold Oper.wp
   go_simp
   refine (at7_c _ _ w').mono ?_
   rintro e3 w3 ⟨b3',rfl,h3,b3⟩
   exact hK _ _ b3 (factG_mk rfl ⟨_,rfl,at_am h3 (by decide) (by decide)⟩)
  case t4=>
   intro A w' K hb hfar hd hK
   obtain⟨u1,e1,h1⟩:∃ u,A.tmps[26]?.getD undef=.agg #[.string pG,u]∧AmC w' w'.heap.size ⟨pG,[vT xG]⟩ [.string pG,u]:=hd 3 26 rfl (by kernel_rfl) _ rfl
   unfold Oper.wp
   simp[execOp,e1,go_sem,Result.andThen]
   exact hK _ _ (Below.refl _ _) (factG_mk rfl ⟨_,rfl,litN_c h1⟩)
  case t5=>
   intro A w' K hb hfar hd hK
   obtain⟨u1,e1,h1⟩:∃ u,A.tmps[25]?.getD undef=.agg (litC7 1 eG u).toArray∧LtC w' w'.heap.size lA7 (litC7 1 eG u):=hd 2 25 rfl (by kernel_rfl) _ rfl
   obtain⟨u2,e2,h2⟩:∃ u,A.tmps[27]?.getD undef=.agg (litC7 2 pG u).toArray∧LtC w' w'.heap.size lN7 (litC7 2 pG u):=hd 4 27 rfl (by kernel_rfl) _ rfl
   have hs:=body2_c h1 h2 rfl
   unfold litC7 at e1 e2 hs
   unfold Oper.wp
   simp[execOp,e1,e2,go_sem,Result.andThen]
   exact hK _ _ ((Below.refl _ _).alloc (Nat.le_refl _) _) (factG_mk rfl hs)
  case t6=>
   intro A w' K hb hfar hd hK
   obtain⟨u1,e1,h1⟩:∃ u,A.tmps[24]?.getD undef=.agg #[.string pG,u]∧AmC w' w'.heap.size ⟨pG,[vT xG]⟩ [.string pG,u]:=hd 1 24 rfl (by kernel_rfl) _ rfl
   obtain⟨B,e2,h2⟩:∃ B,A.tmps[28]?.getD undef=B∧SlOf w' w'.heap.size 11 (LtC w' w'.heap.size) [lA7,lN7] B:=⟨_,rfl,hd 5 28 rfl (by kernel_rfl) _ rfl⟩
   obtain⟨ob,cb,hBv,_⟩:=SlOf.uni h2
   subst hBv
   unfold Oper.wp
   simp[execOp,e1,e2,go_sem,Result.andThen]
   exact hK _ _ (Below.refl _ _) (factG_mk rfl ⟨_,_,rfl,_,_,rfl,by unfold I64;decide,h1,h2⟩)
  case t7=>
   intro A w' K hb hfar hd hK
   obtain⟨u1,B,e1,h1⟩:∃ u b,A.tmps[29]?.getD undef=.agg #[.string pG,u,b,.int .i64 7]∧RuC w' w'.heap.size rB7 [.string pG,u,b,.int .i64 7]:=hd 6 29 rfl (by kernel_rfl) _ rfl
   have hs:=rules1_c h1 rfl
   unfold Oper.wp
   simp[execOp,e1,go_sem,Result.andThen]
   exact hK _ _ ((Below.refl _ _).alloc (Nat.le_refl _) _) (factG_mk rfl hs)
  case t8=>
   intro A w' K hb hfar hd hK
   obtain⟨D,e1,h1⟩:∃ B,A.tmps[23]?.getD undef=B∧SlOf w' w'.heap.size 6 (DeC w' w'.heap.size) two7 B:=⟨_,rfl,hd 0 23 rfl (by kernel_rfl) _ rfl⟩
   obtain⟨R,e2,h2⟩:∃ B,A.tmps[30]?.getD undef=B∧SlOf w' w'.heap.size 4 (RuC w' w'.heap.size) [rB7] B:=⟨_,rfl,hd 7 30 rfl (by kernel_rfl) _ rfl⟩
   obtain⟨od,cd,hDv,_⟩:=SlOf.uni h1
   subst hDv
   obtain⟨orr,cr,hRv,_⟩:=SlOf.uni h2
   subst hRv
   unfold Oper.wp
   simp[execOp,e1,e2,go_sem,Result.andThen]
   exact hK _ _ (Below.refl _ _) (factG_mk rfl ⟨_,_,rfl,_,_,rfl,h1,h2⟩)
  case t9=>
   intro A w' K hb hfar hd hK
   obtain⟨D,R,e1,h1⟩:∃ a b,A.tmps[31]?.getD undef=.agg #[a,b]∧PgC w' w'.heap.size pB7 [a,b]:=hd 8 31 rfl (by kernel_rfl) _ rfl
   unfold Oper.wp
   simp[execOp,e1,go_sem,Result.andThen]
   refine (groups7_c pB7 [D,R] e1' e2' e3' e4' e5' x y w' h1 lil7b.few lil7b.rule (HE.out.below (BX.out.trans ((drewB hb).mono BX.out.size))) lil7b.n lil7b.e).mono ?_
   intro e3 w3 hR
   obtain⟨hA,b3⟩:=gsR_one lil7b.n hR
   obtain⟨h3,h4⟩:=hA
   obtain⟨rfl,rfl,rfl⟩:=groups7_b h3
   exact hK _ _ b3 (factG_mk rfl ⟨_,rfl,h4⟩)
  case t10=>
   intro A w' K hb hfar hd hK
   obtain⟨g,e1,h1⟩:∃ g,A.tmps[32]?.getD undef=.tuple #[g,.int .i64 7,.int .i64 70]∧SlOf w' w'.heap.size 1 (IntsC w' w'.heap.size) [] g:=hd 9 32 rfl (by kernel_rfl) _ rfl
   unfold Oper.wp
   simp[execOp,e1,go_sem,Result.andThen]
   exact hK _ _ (Below.refl _ _) (factG_mk rfl ⟨_,rfl,h1⟩)
  case t11=>
   intro A w' K hb hfar hd hK
   obtain⟨g,e1,h1⟩:∃ g,A.tmps[22]?.getD undef=.tuple #[g,.int .i64 7,.int .i64 70]∧SlOf w' w'.heap.size 1 (IntsC w' w'.heap.size) [] g:=hd 10 22 rfl (by kernel_rfl) _ rfl
   unfold Oper.wp
   simp[execOp,e1,go_sem,Result.andThen]
   exact hK _ _ (Below.refl _ _) (factG_mk rfl h1)
  case t12=>
   intro A w' K hb hfar hd hK
   obtain⟨g,e1,h1⟩:∃ g,A.tmps[22]?.getD undef=.tuple #[g,.int .i64 7,.int .i64 70]∧SlOf w' w'.heap.size 1 (IntsC w' w'.heap.size) [] g:=hd 10 22 rfl (by kernel_rfl) _ rfl
   unfold Oper.wp
   simp[execOp,e1,go_sem,Result.andThen]
   exact hK _ _ (Below.refl _ _) (factG_mk rfl rfl)
  case t13=>
   intro A w' K hb hfar hd hK
   obtain⟨g,e1,h1⟩:∃ g,A.tmps[22]?.getD undef=.tuple #[g,.int .i64 7,.int .i64 70]∧SlOf w' w'.heap.size 1 (IntsC w' w'.heap.size) [] g:=hd 10 22 rfl (by kernel_rfl) _ rfl
   unfold Oper.wp
   simp[execOp,e1,go_sem,Result.andThen]
   exact hK _ _ (Below.refl _ _) (factG_mk rfl rfl)
  case t14=>
   intro A w' K hb hfar hd hK
   obtain⟨g,e1,h1⟩:∃ B,A.tmps[33]?.getD undef=B∧SlOf w' w'.heap.size 1 (IntsC w' w'.heap.size) [] B:=⟨_,rfl,hd 11 33 rfl (by kernel_rfl) _ rfl⟩
   unfold Oper.wp
   simp[execOp,e1,go_sem,Result.andThen]
   exact hK _ _ (Below.refl _ _) (factG_mk rfl h1)
  case t15=>
   intro A w' K hb hfar hd hK
   have e1:A.tmps[34]?.getD undef=.int .i64 7:=hd 12 34 rfl (by kernel_rfl) _ rfl
   unfold Oper.wp
   simp[execOp,e1,go_sem,Result.andThen]
   exact hK _ _ (Below.refl _ _) (factG_mk rfl rfl)
  case t16=>
   intro A w' K hb hfar hd hK
   have e1:A.tmps[35]?.getD undef=.int .i64 70:=hd 13 35 rfl (by kernel_rfl) _ rfl
   unfold Oper.wp
   simp[execOp,e1,go_sem,Result.andThen]
   exact hK _ _ (Below.refl _ _) (factG_mk rfl rfl)
  case tfin=>
   intro val w6 hF hb6
   have f15:val 15=.int .i64 7:=hF 15 6 rfl _ rfl
   have f16:val 16=.int .i64 70:=hF 16 7 rfl _ rfl
   simp only[slotsB7,putsA,Nat.zero_add,Nat.reduceAdd,f15,f16]
   generalize val 0=u0
   generalize val 1=u1
   generalize val 2=u2
   generalize val 3=u3
   generalize val 4=u4
   generalize val 5=u5
   generalize val 6=u6
   generalize val 7=u7
   generalize val 8=u8
   generalize val 9=u9
   generalize val 10=u10
   generalize val 11=u11
   generalize val 12=u12
   generalize val 13=u13
   generalize val 14=u14
   have B6:=hid (BX.out.trans ((drewB hb6).mono BX.out.size))
   have S6:=hid (S5.out.ints (drewB hb6))
   clear hF hb6 f15 f16 val
   obtain⟨W7,hW7⟩:∃ W,((w6.alloc (.cells #[.int .i64 0] 3)).alloc (.cells #[.int .i64 1] 3)).alloc (.cells #[.slice (some ⟨w6.heap.size,0,none⟩) 1 1,.slice (some ⟨w6.heap.size+1,0,none⟩) 1 1] 39)=W:=⟨_,rfl⟩
   have s7:=ints7 hW7
   have b7:Below w6.heap.size w6 W7:=by rw[← hW7];exact (((Below.refl _ _).alloc (Nat.le_refl _) _).alloc (by simp) _).alloc (by simp;omega) _
   have HS7:=hid (same7_c _ _ _ _ W7 (S6.out.ints b7) s7 (by decide))
   have B7:=hid (B6.out.trans (b7.mono B6.out.size))
   have HW7:=hid hW7
   clear hW7 s7 b7
   go_simp
   go_wp2_with fail
   rw[HW7.out]
   refine HS7.out.mono ?_
   rintro e8 w8 ⟨rfl,b8⟩
   have B8:=hid (B7.out.trans (b8.mono B7.out.size))
   clear b8
   go_wp2
   go_ret
   exact⟨rfl,B8.out⟩
end Go.Proofs.YtakpgcmfjlbcgaaGreatDoor
