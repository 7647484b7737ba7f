/- Zfw@012, Zlw@012, Zsh@012 -/
import Derived.Test.YtfmldnbcjbflbaaGreatDoorQ38
set_option linter.unusedSimpArgs false
set_option linter.unusedVariables false
namespace Go.Proofs.YtfmldnbcjbflbaaGreatDoor
open Lib(hid)
open Go.RowKit
theorem occ_lenZ (l:List Tm):(occ l).length≤l.length:=by
 unfold occ
 rw[List.length_map]
 exact List.length_filter_le _ _
theorem vz_len2 (l:List Tm):(vz l).length≤(subTs l).length:=Nat.le_trans (vz_len l) (occ_lenZ _)
theorem subTs_cons (t:Tm) (l:List Tm):subTs (t::l)=subT t++subTs l:=by rw[subTs]
theorem places_sum:∀ (b:List Lt),((placesL b).flatMap vz).length≤(b.flatMap litTs).length
 | []=>Nat.zero_le _
 | l::b=>by
  have ih:=places_sum b
  unfold placesL
  rw[List.flatMap_append,List.length_append,List.flatMap_cons,List.length_append]
  have h:((if aggO l.op=true then [[l.x],l.y::l.a.l] else [(l.y::l.a.l)++[l.x]]).flatMap vz).length≤(litTs l).length:=by
   have e:(litTs l).length=(subT l.x).length+(subT l.y).length+(subTs l.a.l).length:=by
    unfold litTs
    rw[List.length_append,subTs_cons,subTs_cons,subTs]
    simp only[List.length_append,List.length_nil]
    omega
   rw[e]
   split
   ·have h1:=vz_len2 [l.x]
    have h2:=vz_len2 (l.y::l.a.l)
    rw[subTs_cons,subTs,List.length_append] at h1
    rw[subTs_cons,List.length_append] at h2
    simp only[List.flatMap_cons,List.flatMap_nil,List.length_append,List.length_nil] at h1 ⊢
    omega
   ·have h1:=vz_len2 ((l.y::l.a.l)++[l.x])
    rw[subTs_app,subTs_cons,subTs_cons,subTs] at h1
    simp only[List.flatMap_cons,List.flatMap_nil,List.length_append,List.length_nil] at h1 ⊢
    omega
  omega
theorem place_len:∀ (b:List Lt) {p:List Tm},p ∈ placesL b→(subTs p).length≤(b.flatMap litTs).length
 | l::b,p,hp=>by
  have ih:=place_len b (p:=p)
  have e:(litTs l).length=(subT l.x).length+(subT l.y).length+(subTs l.a.l).length:=by
   unfold litTs
   rw[List.length_append,subTs_cons,subTs_cons,subTs]
   simp only[List.length_append,List.length_nil]
   omega
  unfold placesL at hp
  rw[List.flatMap_cons,List.length_append]
  rcases List.mem_append.1 hp with h | h
  ·have:(subTs p).length≤(litTs l).length:=by
    rw[e]
    split at h
    ·simp only[List.mem_cons,List.not_mem_nil,or_false] at h
     rcases h with rfl | rfl
     ·rw[subTs_cons,subTs];simp only[List.length_append,List.length_nil];omega
     ·rw[subTs_cons,List.length_append];omega
    ·simp only[List.mem_cons,List.not_mem_nil,or_false] at h
     subst h
     rw[subTs_app,subTs_cons,subTs_cons,subTs]
     simp only[List.length_append,List.length_nil]
     omega
   omega
  ·have:=ih h;omega
theorem places_terms {r:Ru} {p:List Tm} (hp:p ∈ placesZ r):∀ t ∈ p,t ∈ termsR r:=by
 intro t ht
 unfold placesZ at hp
 rcases List.mem_cons.1 hp with rfl | hp
 ·exact List.mem_append_left _ (sub_mem ht)
 ·have key:∀ b:List Lt,p ∈ placesL b→∃ l ∈ b,t=l.x∨t=l.y∨t ∈ l.a.l:=by
   intro b
   induction b with
   | nil=>intro h;cases h
   | cons l b ih=>
    intro h
    unfold placesL at h
    rcases List.mem_append.1 h with h | h
    ·refine⟨l,List.mem_cons_self ..,?_⟩
     split at h
     ·simp only[List.mem_cons,List.not_mem_nil,or_false] at h
      rcases h with rfl | rfl
      ·simp at ht;exact .inl ht
      ·rcases List.mem_cons.1 ht with h | h
       ·exact .inr (.inl h)
       ·exact .inr (.inr h)
     ·simp only[List.mem_cons,List.not_mem_nil,or_false] at h
      subst h
      simp only[List.cons_append,List.mem_cons,List.mem_append,List.not_mem_nil,or_false] at ht
      rcases ht with h | h | h
      ·exact .inr (.inl h)
      ·exact .inr (.inr h)
      ·exact .inl h
    ·obtain⟨m,hm,h⟩:=ih h
     exact⟨m,List.mem_cons_of_mem _ hm,h⟩
  obtain⟨l,hl,h⟩:=key _ hp
  rcases h with rfl | rfl | h
  ·exact (terms_xy hl).1
  ·exact (terms_xy hl).2
  ·exact lit_terms hl (List.mem_append_right _ (sub_mem h))
theorem terms_in {r:Ru} {p:List Tm} (hp:∀ t ∈ p,t ∈ termsR r):∀ u ∈ subTs p,u ∈ termsR r:=by
 intro u hu
 obtain⟨t,ht,h⟩:=mem_subTs.1 hu
 have key:∀ (n:Nat) (t:Tm),SizeOf.sizeOf t≤n→t ∈ termsR r→∀ u ∈ subT t,u ∈ termsR r:=by
  intro n
  induction n with
  | zero=>
   intro t hs
   have:0 < SizeOf.sizeOf t:=by obtain⟨o,s,n,l⟩:=t;simp only[Tm.mk.sizeOf_spec];omega
   omega
  | succ n ih=>
   intro t hs ht u hu
   rcases mem_subT.1 hu with rfl | hu
   ·exact ht
   ·obtain⟨c,hc,h⟩:=mem_subTs.1 hu
    exact ih c (by have:=size_part hc;omega) (terms_child ht hc) u h
 exact key _ t (Nat.le_refl _) (hp t ht) u h
theorem few_small {r:Ru} (hn:(termsR r).length≤2000) (hs:∀ t ∈ termsR r,t.s.size≤1000):FewR r:=by
 have sum:((placesZ r).flatMap vz).length≤(termsR r).length:=by
  unfold placesZ
  rw[List.flatMap_cons,List.length_append]
  have h1:=vz_len2 r.head.l
  have h2:=places_sum r.body
  unfold termsR
  rw[List.length_append]
  omega
 have hb:=body_len r
 refine⟨fun p hp=>⟨fun s hs'=>?_,?_⟩,by omega,by omega,fun l hl=>?_⟩
 ·obtain⟨t,ht,_,rfl⟩:=occ_mem.1 hs'
  exact Nat.le_trans (hs t (terms_in (places_terms hp) t ht)) (by decide)
 ·have h1:(subTs p).length≤(termsR r).length:=by
   unfold placesZ at hp
   unfold termsR
   rw[List.length_append]
   rcases List.mem_cons.1 hp with rfl | hp
   ·omega
   ·have:=place_len r.body hp;omega
  have:=occ_lenZ (subTs p)
  omega
 ·have h1:l.a.l.length≤(litTs l).length:=by
   unfold litTs
   rw[List.length_append]
   have:∀ m:List Tm,m.length≤(subTs m).length:=by
    intro m
    induction m with
    | nil=>exact Nat.zero_le _
    | cons t m ih=>rw[subTs_cons,List.length_append,subT_eq];simp only[List.length_cons];omega
   have:=this l.a.l
   omega
  have h2:(litTs l).length≤(termsR r).length:=by
   unfold termsR
   rw[List.length_append]
   obtain⟨a,b,e⟩:=List.append_of_mem hl
   rw[e,List.flatMap_append,List.flatMap_cons]
   simp only[List.length_append]
   omega
  omega
theorem wt_sum:∀ (b:List Lt) (F:Nat→Lt→Pt),(∀ i l,wtP (F i l)≤(litTs l).length)→wtZ (b.mapIdx F)≤(b.flatMap litTs).length
 | [],_,_=>by simp[wtZ]
 | l::b,F,h=>by
  have ih:=wt_sum b (fun i=>F (i+1)) (fun i l=>h (i+1) l)
  have h0:=h 0 l
  rw[List.mapIdx_cons,List.flatMap_cons,List.length_append]
  unfold wtZ at *
  rw[List.map_cons,List.sum_cons]
  omega
theorem wt_lit (r:Ru) (k:Nat) (l:Lt):wtP (ptZ r k l)≤(litTs l).length:=by
 have h1:=vz_len2 [l.x]
 have h2:=vz_len2 [l.y]
 have h3:=vz_len2 l.a.l
 unfold wtP ptZ litTs
 rw[List.length_append,subTs_cons l.x [l.y],List.length_append]
 rw[subTs_cons l.x [],List.length_append,subTs] at h1
 simp only[List.length_nil,Nat.add_zero] at h1
 simp only
 omega
theorem fewP_small {r:Ru} (hn:(termsR r).length≤2000):FewP' (partsZ r):=by
 have hb:=body_len r
 refine⟨by unfold partsZ;rw[List.length_mapIdx];omega,?_⟩
 have h1:=wt_sum r.body (ptZ r) (fun i l=>wt_lit r i l)
 unfold termsR at hn
 rw[List.length_append] at hn
 unfold partsZ
 omega
set_option maxRecDepth 100000 in
theorem v6_c (s:ByteArray) (w:World):Calls Tryz.prog 36 #[.string s] w fun e w'=>e=.returned (.agg #[.int .i64 1,.string s,.int .i64 0,.slice none 0 0])∧Below w.heap.size w w':=by
 have hr:=World.alloc_heap_new w (.cells #[.int .i64 1,.string s,.int .i64 0,.slice none 0 0] 51)
 have h0:=row_cells hr 0
 have h1:=row_cells hr 1
 have h2:=row_cells hr 2
 have h3:=row_cells hr 3
 simp at h0 h1 h2 h3
 clear hr
 have hb:Below w.heap.size w (w.alloc (.cells #[.int .i64 1,.string s,.int .i64 0,.slice none 0 0] 51)):=(Below.refl _ _).alloc (Nat.le_refl _) _
 go_enter Tryz.func36,Tryz.ntmps36
 go_wp2
 refine bodyPost_ret (v:=.agg #[.int .i64 1,.string s,.int .i64 0,.slice none 0 0]) (by simp[results,Tryz.results36,go_sem,h0,h1,h2,h3]) rfl ?_
 exact⟨rfl,hb⟩
def OneAt (w:World) (b:Nat) (s:ByteArray):Prop:=w.heap[b]?=some (.cells #[.int .i64 1,.string s,.int .i64 0,.slice none 0 0] 51 (0,0))
theorem OneAt.below {w w':World} {b:Nat} {s:ByteArray} (h:OneAt w b s) (hb:Below w.heap.size w w'):OneAt w' b s:=(hb.block b (heap_lt h)).trans h
set_option maxRecDepth 100000 in
theorem at6_c (q s:ByteArray) (w:World):Calls Tryz.prog 37 #[.string q,.string s] w fun e w'=>∃ b,e=.returned (.agg #[.string q,.slice (some ⟨b,0,none⟩) 1 1])∧OneAt w' b s∧Below w.heap.size w w':=by
 obtain⟨W1,hW1⟩:∃ W,w.alloc (.cells #[.string ⟨#[]⟩,.slice none 0 0] 34)=W:=⟨_,rfl⟩
 have b1:Below w.heap.size w W1:=by rw[← hW1];exact (Below.refl _ _).alloc (Nat.le_refl _) _
 have r1:W1.heap[w.heap.size]?=some (.cells #[.string ⟨#[]⟩,.slice none 0 0] 34 (0,0)):=by rw[← hW1];exact World.alloc_heap_new w _
 have B1:=hid b1
 have R1:=hid r1
 clear b1 r1
 go_enter Tryz.func37,Tryz.ntmps37
 go_wp2_with fail
 try rw[hW1]
 refine (v6_c s _).mono ?_
 rintro e2 w2 ⟨rfl,b2⟩
 have hr2:=(b2.block _ (heap_lt R1.out)).trans R1.out
 have B2:=hid (B1.out.trans (b2.mono B1.out.size))
 obtain⟨b,hb⟩:∃ b,w2.heap.size=b:=⟨_,rfl⟩
 obtain⟨W3,hW3⟩:∃ W,w2.alloc (.cells #[.int .i64 1,.string s,.int .i64 0,.slice none 0 0] 51)=W:=⟨_,rfl⟩
 have b3:Below w2.heap.size w2 W3:=by rw[← hW3];exact (Below.refl _ _).alloc (Nat.le_refl _) _
 have r3:OneAt W3 b s:=by unfold OneAt;rw[← hW3,← hb];exact World.alloc_heap_new w2 _
 have hr3:=(b3.block _ (heap_lt hr2)).trans hr2
 have n3:b≠w.heap.size:=fun e=>by have:=heap_lt hr2;omega
 have y0:=row_cells hr3 0
 have y1:=row_cells hr3 1
 have f0:=frz_row hr3 0
 have f1:=frz_row hr3 1
 have l3:=heap_lt hr3
 have B3:=hid (B2.out.trans (b3.mono B2.out.size))
 have R3:=hid r3
 have HR3:=hid hr3
 have e4:=rowSet (rowSet hr3 0 (.string q)) 1 (.slice (some ⟨b,0,none⟩) 1 1)
 have z0:=row_cells e4 0
 have z1:=row_cells e4 1
 simp at y0 y1 z0 z1
 have Z0:=hid z0
 have Z1:=hid z1
 clear b2 hr2 b3 r3 hr3 e4 z0 z1
 go_wp2
 have g0:=Z0.out
 have g1:=Z1.out
 refine bodyPost_ret (v:=.agg #[.string q,.slice (some ⟨b,0,none⟩) 1 1]) (by simp[results,Tryz.results37,go_sem,g0,g1]) rfl ?_
 refine⟨b,rfl,?_,(B3.out.setCell (p:=⟨w.heap.size,0,none⟩) (Nat.le_refl _) _).setCell (p:=⟨w.heap.size,1,none⟩) (Nat.le_refl _) _⟩
 exact (set_oth n3).trans ((set_oth n3).trans R3.out)
def qS:ByteArray:=⟨#[113]⟩
def oneT:Tm:=.mk 2 ⟨#[]⟩ 1 []
def thrT:Tm:=.mk 2 ⟨#[]⟩ 3 []
def sumT:Tm:=.mk 5 ⟨#[]⟩ 0 [vT xS,oneT]
def r1R:Ru:=⟨⟨pS,[vT xS]⟩,[⟨3,⟨⟨#[]⟩,[]⟩,vT yS,sumT⟩,⟨1,⟨qS,[vT xS]⟩,zT,zT⟩,⟨5,⟨⟨#[]⟩,[]⟩,vT yS,thrT⟩],0⟩
def r2R:Ru:=⟨⟨pS,[vT xS]⟩,[⟨2,⟨qS,[vT xS]⟩,zT,zT⟩],0⟩
theorem r1_ord:ordE r1R=0:=by decide +kernel
theorem r1_order:orderZ r1R=[1,0,2]:=by decide +kernel
theorem r2_ord:ordE r2R=60:=by decide +kernel
theorem r1_len:(termsR r1R).length≤2000∧∀ t ∈ termsR r1R,t.s.size≤1000:=by decide +kernel
theorem r2_len:(termsR r2R).length≤2000∧∀ t ∈ termsR r2R,t.s.size≤1000:=by decide +kernel
def SumAt (w:World) (b:Nat):Prop:=w.heap[b]?=some (.cells #[.int .i64 1,.string xS,.int .i64 0,.slice none 0 0,.int .i64 2,.string ⟨#[]⟩,.int .i64 1,.slice none 0 0] 51 (0,0))
def sumCells (b:Nat):List Value:=[.int .i64 5,.string ⟨#[]⟩,.int .i64 0,.slice (some ⟨b,0,none⟩) 2 2]
def lit1 (b:Nat):List Value:=[.int .i64 3,.string ⟨#[]⟩,.slice none 0 0,.int .i64 1,.string yS,.int .i64 0,.slice none 0 0,.int .i64 5,.string ⟨#[]⟩,.int .i64 0,.slice (some ⟨b,0,none⟩) 2 2]
def lit2 (op:Int) (a:Nat):List Value:=[.int .i64 op,.string qS,.slice (some ⟨a,0,none⟩) 1 1,.int .i64 0,.string ⟨#[]⟩,.int .i64 0,.slice none 0 0,.int .i64 0,.string ⟨#[]⟩,.int .i64 0,.slice none 0 0]
def lit3:List Value:=[.int .i64 5,.string ⟨#[]⟩,.slice none 0 0,.int .i64 1,.string yS,.int .i64 0,.slice none 0 0,.int .i64 2,.string ⟨#[]⟩,.int .i64 3,.slice none 0 0]
theorem int_c (w:World) (n:Int) (hn:I64 n):TmC w w.heap.size (.mk 2 ⟨#[]⟩ n []) [.int .i64 2,.string ⟨#[]⟩,.int .i64 n,.slice none 0 0]:=.nil 2 ⟨#[]⟩ n (by unfold I64;omega) (by decide) hn
theorem one_am {w:World} {b:Nat} {q s:ByteArray} (h:OneAt w b s) (hs:s.size≤maxLen) (hq:q.size≤maxLen):AmC w w.heap.size ⟨q,[vT s]⟩ [.string q,.slice (some ⟨b,0,none⟩) 1 1]:=⟨_,rfl,hq,tm_row1 h (vT_c w s hs)⟩
theorem none_am (w:World):AmC w w.heap.size ⟨⟨#[]⟩,[]⟩ [.string ⟨#[]⟩,.slice none 0 0]:=⟨_,rfl,by decide,.inl ⟨rfl,rfl⟩⟩
theorem sum_c {w:World} {b:Nat} (h:SumAt w b):TmC w w.heap.size sumT (sumCells b):=by
 refine TmC.of (by unfold I64;omega) (by decide) (by unfold I64;omega) ?_
 refine sl_cells (l:=[vT xS,oneT]) [[.int .i64 1,.string xS,.int .i64 0,.slice none 0 0],[.int .i64 2,.string ⟨#[]⟩,.int .i64 1,.slice none 0 0]] h rfl (by simp) ?_ (by simp[maxLen])
 intro i x cs hx hc
 match i,hx,hc with
 | 0,hx,hc=>simp at hx hc;subst hx hc;exact vT_c w xS (by decide)
 | 1,hx,hc=>simp at hx hc;subst hx hc;exact int_c w 1 (by unfold I64;omega)
 | i+2,hx,_=>simp at hx
theorem r1_c {w:World} {bh B a b:Nat} (h1:OneAt w bh xS) (h2:w.heap[B]?=some (.cells (lit1 b++lit2 1 a++lit3).toArray 56 (0,0))) (h3:OneAt w a xS) (h4:SumAt w b) :
  RuC w w.heap.size r1R [.string pS,.slice (some ⟨bh,0,none⟩) 1 1,.slice (some ⟨B,0,none⟩) 3 3,.int .i64 0]:=by
 refine⟨_,_,rfl,by unfold I64;decide,one_am h1 (by decide) (by decide),?_⟩
 refine sl_cells (l:=r1R.body) [lit1 b,lit2 1 a,lit3] (by simpa using h2) rfl (by simp[lit1,lit2,lit3]) ?_ (by simp[maxLen,r1R])
 intro i x cs hx hc
 match i,hx,hc with
 | 0,hx,hc=>
  simp only[r1R,List.getElem?_cons_zero,Option.some.injEq] at hx hc
  subst hx hc
  exact⟨_,_,_,rfl,by unfold I64;decide,none_am w,vT_c w yS (by decide),sum_c h4⟩
 | 1,hx,hc=>
  simp only[r1R,List.getElem?_cons_succ,List.getElem?_cons_zero,Option.some.injEq] at hx hc
  subst hx hc
  exact⟨_,_,_,rfl,by unfold I64;decide,one_am h3 (by decide) (by decide),zT_c w,zT_c w⟩
 | 2,hx,hc=>
  simp only[r1R,List.getElem?_cons_succ,List.getElem?_cons_zero,Option.some.injEq] at hx hc
  subst hx hc
  exact⟨_,_,_,rfl,by unfold I64;decide,none_am w,vT_c w yS (by decide),int_c w 3 (by unfold I64;omega)⟩
 | i+3,hx,_=>simp[r1R] at hx
theorem r2_c {w:World} {bh B a:Nat} (h1:OneAt w bh xS) (h2:w.heap[B]?=some (.cells (lit2 2 a).toArray 56 (0,0))) (h3:OneAt w a xS) :
  RuC w w.heap.size r2R [.string pS,.slice (some ⟨bh,0,none⟩) 1 1,.slice (some ⟨B,0,none⟩) 1 1,.int .i64 0]:=by
 refine⟨_,_,rfl,by unfold I64;decide,one_am h1 (by decide) (by decide),?_⟩
 refine sl_cells (l:=r2R.body) [lit2 2 a] (by simpa using h2) rfl (by simp[lit2]) ?_ (by simp[maxLen,r2R])
 intro i x cs hx hc
 match i,hx,hc with
 | 0,hx,hc=>
  simp only[r2R,List.getElem?_cons_zero,Option.some.injEq] at hx hc
  subst hx hc
  exact⟨_,_,_,rfl,by unfold I64;decide,one_am h3 (by decide) (by decide),zT_c w,zT_c w⟩
 | i+1,hx,_=>simp[r2R] at hx
def slots6:List (Option Tmp):=[some 11,some 12,some 13,some 14,some 15,some 16,some 17,some 18,some 19,some 2]
def facts6 (b:Nat):List (Value→World→Prop):=
 [fun v _=>v=.agg (vCells yS).toArray,fun v _=>v=.agg (sumCells b).toArray,fun v _=>v=.agg (lit1 b).toArray,
  fun v w=>∃ a,v=.agg #[.string qS,.slice (some ⟨a,0,none⟩) 1 1]∧OneAt w a xS,fun v w=>∃ a,v=.agg (lit2 1 a).toArray∧OneAt w a xS,
  fun v _=>v=.agg (vCells yS).toArray,fun v _=>v=.agg #[.int .i64 2,.string ⟨#[]⟩,.int .i64 3,.slice none 0 0],fun v _=>v=.agg lit3.toArray,
  fun v w=>∃ B a,v=.slice (some ⟨B,0,none⟩) 3 3∧w.heap[B]?=some (.cells (lit1 b++lit2 1 a++lit3).toArray 56 (0,0))∧OneAt w a xS,
  fun v w=>∃ B a,v=.slice (some ⟨B,0,none⟩) 3 3∧w.heap[B]?=some (.cells (lit1 b++lit2 1 a++lit3).toArray 56 (0,0))∧OneAt w a xS]
theorem facts6_mono (b:Nat):∀ p ∈ facts6 b,∀ v w w',p v w→Below w.heap.size w w'→p v w':=by
 intro p hp v w w' h hb
 unfold facts6 at hp
 simp only[List.mem_cons,List.not_mem_nil,or_false] at hp
 rcases hp with rfl | rfl | rfl | rfl | rfl | rfl | rfl | rfl | rfl | rfl
 ·exact h
 ·exact h
 ·exact h
 ·obtain⟨a,h1,h2⟩:=h;exact⟨a,h1,h2.below hb⟩
 ·obtain⟨a,h1,h2⟩:=h;exact⟨a,h1,h2.below hb⟩
 ·exact h
 ·exact h
 ·exact h
 ·obtain⟨B,a,h1,h2,h3⟩:=h;exact⟨B,a,h1,(hb.block B (heap_lt h2)).trans h2,h3.below hb⟩
 ·obtain⟨B,a,h1,h2,h3⟩:=h;exact⟨B,a,h1,(hb.block B (heap_lt h2)).trans h2,h3.below hb⟩
set_option maxRecDepth 100000 in
set_option maxHeartbeats 8000000 in
theorem shown6_c (t a u:Addr) (w:World) (E:EnvZ t a u w):Calls Tryz.prog 11 #[] w fun e w'=>e=.returned (.bool true)∧Below w.heap.size w w':=by
 have HE:=hid E
 clear E
 go_enter Tryz.func11,Tryz.ntmps11
 go_wp2_with fail
 refine (v6_c _ _).mono ?_
 rintro e1 w1 ⟨rfl,b1⟩
 have B1:=hid b1
 clear b1
 go_wp2_with fail
 obtain⟨b,hb⟩:∃ b,w1.heap.size=b:=⟨_,rfl⟩
 obtain⟨W3,hW3⟩:∃ W3,(w1.alloc (.cells #[.int .i64 1,.string ⟨#[120]⟩,.int .i64 0,.slice none 0 0,.int .i64 2,.string ⟨#[]⟩,.int .i64 1,.slice none 0 0] 51)).alloc (.cells #[.int .i64 5,.string ⟨#[]⟩,.int .i64 0,.slice (some ⟨w1.heap.size,0,none⟩) 2 2] 51)=W3:=⟨_,rfl⟩
 have r3:SumAt W3 b:=by unfold SumAt;rw[← hW3,← hb];exact (Below.heap_alloc _ _ _ (by simp)).trans (World.alloc_heap_new w1 _)
 have q3:W3.heap[b+1]?=some (.cells (sumCells b).toArray 51 (0,0)):=by
  have h1:=World.alloc_heap_new (w1.alloc (.cells #[.int .i64 1,.string ⟨#[120]⟩,.int .i64 0,.slice none 0 0,.int .i64 2,.string ⟨#[]⟩,.int .i64 1,.slice none 0 0] 51)) (.cells #[.int .i64 5,.string ⟨#[]⟩,.int .i64 0,.slice (some ⟨w1.heap.size,0,none⟩) 2 2] 51)
  rw[World.size_alloc,hW3,hb] at h1
  exact h1
 have b3:Below w.heap.size w W3:=by
  rw[← hW3]
  exact (B1.out.alloc B1.out.size _).alloc (by have:=B1.out.size;simp;omega) _
 try rw[hW3]
 try rw[hb]
 have R3:=hid r3
 have Q3:=hid q3
 have B3:=hid b3
 clear r3 q3 b3 hW3 hb
 refine wp_region_any (by kernel_rfl) ?_
 (try (change wpAny _ _ _ _ _ _ _ (World.drew _)))
 refine wpAny_grow slots6 _ _ (facts6 b) (by kernel_rfl) (by kernel_rfl) (by kernel_rfl) (by kernel_rfl) (by kernel_rfl) (facts6_mono b) ⟨?s0,?s1,?s2,?s3,?s4,?s5,?s6,?s7,?s8,?s9,trivial⟩ ?fin
 case s0=>
  intro A w' K hb hfar hd hK
  unfold Oper.wp
  go_simp
  refine (v6_c _ w').mono ?_
  rintro e3 w3 ⟨rfl,b3⟩
  exact hK _ _ b3 (factG_mk rfl rfl)
 case s1=>
  intro A w' K hb hfar hd hK
  have e1:A.tmps[1]?.getD undef=.pointer (some ⟨b+1,0,none⟩):=hfar 1 (by decide)
  obtain⟨c0,c1,c2,c3⟩:=row4 (show w'.heap[b+1]?=some (.cells #[.int .i64 5,.string ⟨#[]⟩,.int .i64 0,.slice (some ⟨b,0,none⟩) 2 2] 51 (0,0)) from (hb.block _ (heap_lt Q3.out)).trans Q3.out)
  unfold Oper.wp
  simp[execOp,e1,c0,c1,c2,c3,go_sem,Result.andThen]
  exact hK _ _ (Below.refl _ _) (factG_mk rfl rfl)
 case s2=>
  intro A w' K hb hfar hd hK
  have e1:A.tmps[11]?.getD undef=.agg (vCells yS).toArray:=hd 0 11 rfl (by kernel_rfl) _ rfl
  have e2:A.tmps[12]?.getD undef=.agg (sumCells b).toArray:=hd 1 12 rfl (by kernel_rfl) _ rfl
  unfold vCells at e1
  unfold sumCells at e2
  unfold Oper.wp
  simp[execOp,e1,e2,go_sem,Result.andThen]
  exact hK _ _ (Below.refl _ _) (factG_mk rfl rfl)
 case s3=>
  intro A w' K hb hfar hd hK
  unfold Oper.wp
  go_simp
  refine (at6_c _ _ w').mono ?_
  rintro e3 w3 ⟨a1,rfl,h3,b3⟩
  exact hK _ _ b3 (factG_mk rfl ⟨a1,rfl,h3⟩)
 case s4=>
  intro A w' K hb hfar hd hK
  obtain⟨a1,e1,h1⟩:∃ a,A.tmps[14]?.getD undef=.agg #[.string qS,.slice (some ⟨a,0,none⟩) 1 1]∧OneAt w' a xS:=hd 3 14 rfl (by kernel_rfl) _ rfl
  unfold Oper.wp
  simp[execOp,e1,go_sem,Result.andThen]
  exact hK _ _ (Below.refl _ _) (factG_mk rfl ⟨a1,rfl,h1⟩)
 case s5=>
  intro A w' K hb hfar hd hK
  unfold Oper.wp
  go_simp
  refine (v6_c _ w').mono ?_
  rintro e3 w3 ⟨rfl,b3⟩
  exact hK _ _ b3 (factG_mk rfl rfl)
 case s6=>
  intro A w' K hb hfar hd hK
  unfold Oper.wp
  simp[execOp,go_sem,Result.andThen]
  exact hK _ _ (Below.refl _ _) (factG_mk rfl rfl)
 case s7=>
  intro A w' K hb hfar hd hK
  have e1:A.tmps[16]?.getD undef=.agg (vCells yS).toArray:=hd 5 16 rfl (by kernel_rfl) _ rfl
  have e2:A.tmps[17]?.getD undef=.agg #[.int .i64 2,.string ⟨#[]⟩,.int .i64 3,.slice none 0 0]:=hd 6 17 rfl (by kernel_rfl) _ rfl
  unfold vCells at e1
  unfold Oper.wp
  simp[execOp,e1,e2,go_sem,Result.andThen]
  exact hK _ _ (Below.refl _ _) (factG_mk rfl rfl)
 case s8=>
  intro A w' K hb hfar hd hK
  have e1:A.tmps[13]?.getD undef=.agg (lit1 b).toArray:=hd 2 13 rfl (by kernel_rfl) _ rfl
  obtain⟨a1,e2,h1⟩:∃ a,A.tmps[15]?.getD undef=.agg (lit2 1 a).toArray∧OneAt w' a xS:=hd 4 15 rfl (by kernel_rfl) _ rfl
  have e3:A.tmps[18]?.getD undef=.agg lit3.toArray:=hd 7 18 rfl (by kernel_rfl) _ rfl
  unfold lit1 at e1
  unfold lit2 at e2
  unfold lit3 at e3
  unfold Oper.wp
  simp[execOp,e1,e2,e3,go_sem,Result.andThen]
  exact hK _ _ ((Below.refl _ _).alloc (Nat.le_refl _) _) (factG_mk rfl ⟨_,a1,rfl,World.alloc_heap_new w' _,h1.below ((Below.refl _ _).alloc (Nat.le_refl _) _)⟩)
 case s9=>
  intro A w' K hb hfar hd hK
  obtain⟨B,a1,e1,h1,h2⟩:∃ B a,A.tmps[19]?.getD undef=.slice (some ⟨B,0,none⟩) 3 3∧w'.heap[B]?=some (.cells (lit1 b++lit2 1 a++lit3).toArray 56 (0,0))∧OneAt w' a xS:=hd 8 19 rfl (by kernel_rfl) _ rfl
  unfold Oper.wp
  simp[execOp,e1,go_sem,Result.andThen]
  exact hK _ _ (Below.refl _ _) (factG_mk rfl ⟨B,a1,rfl,h1,h2⟩)
 case fin=>
  intro val w5 hF hb5
  obtain⟨B,a1,f9,h1,h2⟩:∃ B a,val 9=.slice (some ⟨B,0,none⟩) 3 3∧w5.heap[B]?=some (.cells (lit1 b++lit2 1 a++lit3).toArray 56 (0,0))∧OneAt w5 a xS:=hF 9 2 rfl _ rfl
  have r5:SumAt w5 b:=(hb5.block _ (heap_lt R3.out)).trans R3.out
  have B5:=hid (B3.out.trans ((drewB hb5).mono B3.out.size))
  simp only[slots6,putsA,Nat.zero_add,Nat.reduceAdd,f9]
  generalize val 0=v0
  generalize val 1=v1
  generalize val 2=v2
  generalize val 3=v3
  generalize val 4=v4
  generalize val 5=v5
  generalize val 6=v6
  generalize val 7=v7
  generalize val 8=v8
  have H1:=hid h1
  have H2:=hid h2
  have R5:=hid r5
  clear hF hb5 f9 h1 h2 r5 val
  go_simp
  go_wp2_with fail
  refine (at6_c _ _ w5).mono ?_
  rintro e6 w6 ⟨bh,rfl,h6,b6⟩
  have B6:=hid (B5.out.trans (b6.mono B5.out.size))
  have HO:=hid (order_c r1R _ t a u w6 (r1_c h6 ((b6.block _ (heap_lt H1.out)).trans H1.out) (H2.out.below b6) ((b6.block _ (heap_lt R5.out)).trans R5.out)) (few_small r1_len.1 r1_len.2) (fewP_small r1_len.1) (HE.out.below B6.out))
  clear b6 h6
  go_wp2_with fail
  refine HO.out.mono ?_
  intro e7 w7 hT
  cases hT with
  | bad h0 _=>exact absurd r1_ord h0
  | @good _ lv _ hs b7=>
   rw[r1_order] at hs
   obtain⟨ol,cl,rfl,_,_,_⟩:=SlOf.open hs
   have B7:=hid (B6.out.trans (b7.mono B6.out.size))
   have HS7:=hid hs
   clear hs b7
   go_wp2_with fail
   refine (at6_c _ _ w7).mono ?_
   rintro e8 w8 ⟨bh8,rfl,h8,b8⟩
   have B8:=hid (B7.out.trans (b8.mono B7.out.size))
   have HS8:=hid (SlOf.int HS7.out b8 b8.size)
   have H8:=hid h8
   clear b8 h8
   go_wp2_with fail
   refine (at6_c _ _ w8).mono ?_
   rintro e9 w9 ⟨a9,rfl,h9,b9⟩
   obtain⟨W10,hW10⟩:∃ W,w9.alloc (.cells #[.int .i64 2,.string ⟨#[113]⟩,.slice (some ⟨a9,0,none⟩) 1 1,.int .i64 0,.string ⟨#[]⟩,.int .i64 0,.slice none 0 0,.int .i64 0,.string ⟨#[]⟩,.int .i64 0,.slice none 0 0] 56)=W:=⟨_,rfl⟩
   have b10:Below w9.heap.size w9 W10:=by rw[← hW10];exact (Below.refl _ _).alloc (Nat.le_refl _) _
   have r10:W10.heap[w9.heap.size]?=some (.cells (lit2 2 a9).toArray 56 (0,0)):=by rw[← hW10];exact World.alloc_heap_new w9 _
   have B9:=hid (B8.out.trans (b9.mono B8.out.size))
   have B10:=hid (B9.out.trans (b10.mono B9.out.size))
   have HS10:=hid (SlOf.int (SlOf.int HS8.out b9 b9.size) b10 b10.size)
   have HO2:=hid (order_c r2R _ t a u W10 (r2_c ((H8.out.below b9).below b10) r10 (h9.below b10)) (few_small r2_len.1 r2_len.2) (fewP_small r2_len.1) (HE.out.below B10.out))
   have HW10:=hid hW10
   clear b9 h9 b10 r10 hW10
   go_wp2_with fail
   rw[HW10.out]
   refine HO2.out.mono ?_
   intro e11 w11 hT2
   cases hT2 with
   | good h0 _ _=>rw[r2_ord] at h0;cases h0
   | bad _ b11=>
    rw[r2_ord]
    have h11:=SlOf.int HS10.out b11 b11.size
    have b12:Below w11.heap.size w11 (w11.alloc (.cells #[.int .i64 1,.int .i64 0,.int .i64 2] 3)):=(Below.refl _ _).alloc (Nat.le_refl _) _
    have h12:SlOf (w11.alloc (.cells #[.int .i64 1,.int .i64 0,.int .i64 2] 3)) (w11.alloc (.cells #[.int .i64 1,.int .i64 0,.int .i64 2] 3)).heap.size 1 IntC [1,0,2] (.slice (some ⟨w11.heap.size,0,none⟩) 3 3):=by
     refine sl_cells (l:=[(1:Int),0,2]) [[.int .i64 1],[.int .i64 0],[.int .i64 2]] (World.alloc_heap_new w11 _) rfl (by simp) ?_ (by simp[maxLen])
     intro i x cs hx hc
     match i,hx,hc with
     | 0,hx,hc=>simp at hx hc;subst hx hc;exact⟨rfl,by unfold I64;omega⟩
     | 1,hx,hc=>simp at hx hc;subst hx hc;exact⟨rfl,by unfold I64;omega⟩
     | 2,hx,hc=>simp at hx hc;subst hx hc;exact⟨rfl,by unfold I64;omega⟩
     | i+3,hx,_=>simp at hx
    have HSm:=hid (sameInts_c [1,0,2] [1,0,2] _ _ _ (SlOf.int h11 b12 b12.size) h12)
    have B11:=hid (B10.out.trans (b11.mono B10.out.size))
    have B12:=hid (B11.out.trans (b12.mono B11.out.size))
    clear b11 b12 h11 h12
    go_wp2_with fail
    refine HSm.out.mono ?_
    rintro e13 w13 ⟨rfl,b13⟩
    have B13:=hid (B12.out.trans (b13.mono B12.out.size))
    clear b13
    go_wp2
    go_ret
    exact⟨rfl,B13.out⟩
end Go.Proofs.YtfmldnbcjbflbaaGreatDoor
