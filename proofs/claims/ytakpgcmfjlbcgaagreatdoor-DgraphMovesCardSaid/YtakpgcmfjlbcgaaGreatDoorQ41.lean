/- Zfw@0123, Zlw@0123, Gly@0123, Yrt2@0123, Yrt3@0123, Cframe@0123 -/
import Derived.Deep.DeepHandedRow
import Derived.Deep.DeepWitnessRowRef
import Derived.LaidHandle
import Derived.LaidMore
import Derived.OpenShut
import Derived.ProofKit
import Derived.Stop.LaidErr
import Derived.Stop.LaidTwo
import Derived.Test.YtakpgcmfjlbcgaaGreatDoorCards
import Derived.Test.YtakpgcmfjlbcgaaGreatDoorTie
import Derived.Test.YtakpgcmfjlbcgaaGreatDoorQ40
import Derived.Test.YtakpgcmfjlbcgaaGreatDoorQ38
set_option linter.unusedSimpArgs false
set_option linter.unusedVariables false
namespace Go.Proofs.YtakpgcmfjlbcgaaGreatDoor
open Lib(hid)
open Go.RowKit
theorem occ_lenZ (l:List Tm):(occ l).length≤l.length:=by
 unfold occ
 rw[List.length_map]
 exact List.length_filter_le _ _
theorem vz_len2 (l:List Tm):(vz l).length≤(subTs l).length:=Nat.le_trans (vz_len l) (occ_lenZ _)
theorem subTs_cons (t:Tm) (l:List Tm):subTs (t::l)=subT t++subTs l:=by rw[subTs]
theorem places_sum:∀ (b:List Lt),((placesL b).flatMap vz).length≤(b.flatMap litTs).length
 | []=>Nat.zero_le _
 | l::b=>by
  have ih:=places_sum b
  unfold placesL
  rw[List.flatMap_append,List.length_append,List.flatMap_cons,List.length_append]
  have h:((if aggO l.op=true then [[l.x],l.y::l.a.l] else [(l.y::l.a.l)++[l.x]]).flatMap vz).length≤(litTs l).length:=by
   have e:(litTs l).length=(subT l.x).length+(subT l.y).length+(subTs l.a.l).length:=by
    unfold litTs
    rw[List.length_append,subTs_cons,subTs_cons,subTs]
    simp only[List.length_append,List.length_nil]
    omega
   rw[e]
   split
   ·have h1:=vz_len2 [l.x]
    have h2:=vz_len2 (l.y::l.a.l)
    rw[subTs_cons,subTs,List.length_append] at h1
    rw[subTs_cons,List.length_append] at h2
    simp only[List.flatMap_cons,List.flatMap_nil,List.length_append,List.length_nil] at h1 ⊢
    omega
   ·have h1:=vz_len2 ((l.y::l.a.l)++[l.x])
    rw[subTs_app,subTs_cons,subTs_cons,subTs] at h1
    simp only[List.flatMap_cons,List.flatMap_nil,List.length_append,List.length_nil] at h1 ⊢
    omega
  omega
theorem place_len:∀ (b:List Lt) {p:List Tm},p ∈ placesL b→(subTs p).length≤(b.flatMap litTs).length
 | l::b,p,hp=>by
  have ih:=place_len b (p:=p)
  have e:(litTs l).length=(subT l.x).length+(subT l.y).length+(subTs l.a.l).length:=by
   unfold litTs
   rw[List.length_append,subTs_cons,subTs_cons,subTs]
   simp only[List.length_append,List.length_nil]
   omega
  unfold placesL at hp
  rw[List.flatMap_cons,List.length_append]
  rcases List.mem_append.1 hp with h | h
  ·have:(subTs p).length≤(litTs l).length:=by
    rw[e]
    split at h
    ·simp only[List.mem_cons,List.not_mem_nil,or_false] at h
     rcases h with rfl | rfl
     ·rw[subTs_cons,subTs];simp only[List.length_append,List.length_nil];omega
     ·rw[subTs_cons,List.length_append];omega
    ·simp only[List.mem_cons,List.not_mem_nil,or_false] at h
     subst h
     rw[subTs_app,subTs_cons,subTs_cons,subTs]
     simp only[List.length_append,List.length_nil]
     omega
   omega
  ·have:=ih h;omega
theorem places_terms {r:Ru} {p:List Tm} (hp:p ∈ placesZ r):∀ t ∈ p,t ∈ termsR r:=by
 intro t ht
 unfold placesZ at hp
 rcases List.mem_cons.1 hp with rfl | hp
 ·exact List.mem_append_left _ (sub_mem ht)
 ·have key:∀ b:List Lt,p ∈ placesL b→∃ l ∈ b,t=l.x∨t=l.y∨t ∈ l.a.l:=by
   intro b
   induction b with
   | nil=>intro h;cases h
   | cons l b ih=>
    intro h
    unfold placesL at h
    rcases List.mem_append.1 h with h | h
    ·refine⟨l,List.mem_cons_self ..,?_⟩
     split at h
     ·simp only[List.mem_cons,List.not_mem_nil,or_false] at h
      rcases h with rfl | rfl
      ·simp at ht;exact .inl ht
      ·rcases List.mem_cons.1 ht with h | h
       ·exact .inr (.inl h)
       ·exact .inr (.inr h)
     ·simp only[List.mem_cons,List.not_mem_nil,or_false] at h
      subst h
      simp only[List.cons_append,List.mem_cons,List.mem_append,List.not_mem_nil,or_false] at ht
      rcases ht with h | h | h
      ·exact .inr (.inl h)
      ·exact .inr (.inr h)
      ·exact .inl h
    ·obtain⟨m,hm,h⟩:=ih h
     exact⟨m,List.mem_cons_of_mem _ hm,h⟩
  obtain⟨l,hl,h⟩:=key _ hp
  rcases h with rfl | rfl | h
  ·exact (terms_xy hl).1
  ·exact (terms_xy hl).2
  ·exact lit_terms hl (List.mem_append_right _ (sub_mem h))
theorem terms_in {r:Ru} {p:List Tm} (hp:∀ t ∈ p,t ∈ termsR r):∀ u ∈ subTs p,u ∈ termsR r:=by
 intro u hu
 obtain⟨t,ht,h⟩:=mem_subTs.1 hu
 have key:∀ (n:Nat) (t:Tm),SizeOf.sizeOf t≤n→t ∈ termsR r→∀ u ∈ subT t,u ∈ termsR r:=by
  intro n
  induction n with
  | zero=>
   intro t hs
   have:0 < SizeOf.sizeOf t:=by obtain⟨o,s,n,l⟩:=t;simp only[Tm.mk.sizeOf_spec];omega
   omega
  | succ n ih=>
   intro t hs ht u hu
   rcases mem_subT.1 hu with rfl | hu
   ·exact ht
   ·obtain⟨c,hc,h⟩:=mem_subTs.1 hu
    exact ih c (by have:=size_part hc;omega) (terms_child ht hc) u h
 exact key _ t (Nat.le_refl _) (hp t ht) u h
theorem few_small {r:Ru} (hn:(termsR r).length≤2000) (hs:∀ t ∈ termsR r,t.s.size≤1000):FewR r:=by
 have sum:((placesZ r).flatMap vz).length≤(termsR r).length:=by
  unfold placesZ
  rw[List.flatMap_cons,List.length_append]
  have h1:=vz_len2 r.head.l
  have h2:=places_sum r.body
  unfold termsR
  rw[List.length_append]
  omega
 have hb:=body_len r
 refine⟨fun p hp=>⟨fun s hs'=>?_,?_⟩,by omega,by omega,fun l hl=>?_⟩
 ·obtain⟨t,ht,_,rfl⟩:=occ_mem.1 hs'
  exact Nat.le_trans (hs t (terms_in (places_terms hp) t ht)) (by decide)
 ·have h1:(subTs p).length≤(termsR r).length:=by
   unfold placesZ at hp
   unfold termsR
   rw[List.length_append]
   rcases List.mem_cons.1 hp with rfl | hp
   ·omega
   ·have:=place_len r.body hp;omega
  have:=occ_lenZ (subTs p)
  omega
 ·have h1:l.a.l.length≤(litTs l).length:=by
   unfold litTs
   rw[List.length_append]
   have:∀ m:List Tm,m.length≤(subTs m).length:=by
    intro m
    induction m with
    | nil=>exact Nat.zero_le _
    | cons t m ih=>rw[subTs_cons,List.length_append,subT_eq];simp only[List.length_cons];omega
   have:=this l.a.l
   omega
  have h2:(litTs l).length≤(termsR r).length:=by
   unfold termsR
   rw[List.length_append]
   obtain⟨a,b,e⟩:=List.append_of_mem hl
   rw[e,List.flatMap_append,List.flatMap_cons]
   simp only[List.length_append]
   omega
  omega
end Go.Proofs.YtakpgcmfjlbcgaaGreatDoor
namespace Go.Proofs.YtakpgcmfjlbcgaaGreatDoor
open Lib(hid)
open Go.RowKit
theorem wt_sum:∀ (b:List Lt) (F:Nat→Lt→Pt),(∀ i l,wtP (F i l)≤(litTs l).length)→wtZ (b.mapIdx F)≤(b.flatMap litTs).length
 | [],_,_=>by simp[wtZ]
 | l::b,F,h=>by
  have ih:=wt_sum b (fun i=>F (i+1)) (fun i l=>h (i+1) l)
  have h0:=h 0 l
  rw[List.mapIdx_cons,List.flatMap_cons,List.length_append]
  unfold wtZ at *
  rw[List.map_cons,List.sum_cons]
  omega
theorem wt_lit (r:Ru) (k:Nat) (l:Lt):wtP (ptZ r k l)≤(litTs l).length:=by
 have h1:=vz_len2 [l.x]
 have h2:=vz_len2 [l.y]
 have h3:=vz_len2 l.a.l
 unfold wtP ptZ litTs
 rw[List.length_append,subTs_cons l.x [l.y],List.length_append]
 rw[subTs_cons l.x [],List.length_append,subTs] at h1
 simp only[List.length_nil,Nat.add_zero] at h1
 simp only
 omega
theorem fewP_small {r:Ru} (hn:(termsR r).length≤2000):FewP' (partsZ r):=by
 have hb:=body_len r
 refine⟨by unfold partsZ;rw[List.length_mapIdx];omega,?_⟩
 have h1:=wt_sum r.body (ptZ r) (fun i l=>wt_lit r i l)
 unfold termsR at hn
 rw[List.length_append] at hn
 unfold partsZ
 omega
def OneAt (w:World) (b:Nat) (s:ByteArray):Prop:=w.heap[b]?=some (.cells #[.int .i64 1,.string s,.int .i64 0,.slice none 0 0] 51 (0,0))
theorem OneAt.below {w w':World} {b:Nat} {s:ByteArray} (h:OneAt w b s) (hb:Below w.heap.size w w'):OneAt w' b s:=(hb.block b (heap_lt h)).trans h
end Go.Proofs.YtakpgcmfjlbcgaaGreatDoor
namespace Go.Proofs.YtakpgcmfjlbcgaaGreatDoor
open Lib(hid)
open Go.RowKit Go.Shelf
attribute [local go_sem] Oper.semAt_some
theorem loadVar_no {W:World} {b:Nat} {v:Value} (h:W.cell? ⟨b,0,none⟩=some v):(loadVar 28 ⟨b,0,none⟩).run Tryz.prog W=.ok v W:=by
 have ha:∀ w:World,(isAgg 28).run Tryz.prog w=.ok false w:=fun w=>by kernel_rfl
 have hl:b < W.heap.size:=World.block_lt_of_cell? _ _ h
 unfold loadVar
 go_simp
set_option maxRecDepth 100000 in
set_option maxHeartbeats 8000000 in
theorem layers_in (t a u:Addr) (E:Ed) (ds:List De) (dv nv v:Value) (bs:List Nat) (r:Ru) (cs:List Value) (w:World) (ho:∃ o l c,nv=.slice o l c) (hG:GrN w v bs ds.length (Rch E)) (hD:SlOf w w.heap.size 6 (DeC w w.heap.size) ds dv) (hc:RuC w w.heap.size r cs) (hh:findY r.head.rel ds=some (headG ds r)) (hf:FewR r) (hq:FewP' (partsZ r)) (hs:ordE r=0) (EZ:EnvZ t a u w) :
  CallsIn Fence.wide 8 Tryz.prog 37 #[.agg #[nv,v],dv,.agg cs.toArray] w fun e w'=>e=.returned (.int .i64 (layE E ds r))∧Below w.heap.size w w':=by
 obtain⟨o0,k0,o1,k1,rfl,_⟩:=hc.look
 obtain⟨od,cd,rfl,_⟩:=SlOf.uni hD
 obtain⟨o6,c6,rfl,_⟩:=SlOf.uni hG.sl
 have Ho:=hid ho
 obtain⟨o5,l5,c5,rfl⟩:=ho
 obtain⟨n0,hn0⟩:∃ n,w.heap.size=n:=⟨_,rfl⟩
 obtain⟨W1,hW1⟩:∃ W1,((w.alloc (.cells #[.slice o5 l5 c5,.slice o6 bs.length c6] 62)).alloc (.cells #[.string r.head.rel,.slice o0 r.head.l.length k0,.slice o1 r.body.length k1,.int .i64 r.line] 47)).alloc (.cells #[.int .i64 0] 28)=W1:=⟨_,rfl⟩
 have b1:Below w.heap.size w W1:=by rw[← hW1];exact (((Below.refl _ _).alloc (Nat.le_refl _) _).alloc (by simp) _).alloc (by simp;omega) _
 have s1:W1.heap.size=n0+3:=by rw[← hW1,← hn0];simp
 have r6:W1.heap[n0+2]?=some (.cells #[.int .i64 0] 28 (0,0)):=by
  have h1:=World.alloc_heap_new ((w.alloc (.cells #[.slice o5 l5 c5,.slice o6 bs.length c6] 62)).alloc (.cells #[.string r.head.rel,.slice o0 r.head.l.length k0,.slice o1 r.body.length k1,.int .i64 r.line] 47)) (.cells #[.int .i64 0] 28)
  rw[World.size_alloc,World.size_alloc,hn0,hW1] at h1
  exact h1
 have rg0:W1.heap[n0]?=some (.cells #[.slice o5 l5 c5,.slice o6 bs.length c6] 62 (0,0)):=by
  rw[← hW1,← hn0]
  exact (Below.heap_alloc _ _ _ (by simp;omega)).trans ((Below.heap_alloc _ _ _ (by simp)).trans (World.alloc_heap_new w _))
 have rr0:W1.heap[n0+1]?=some (.cells #[.string r.head.rel,.slice o0 r.head.l.length k0,.slice o1 r.body.length k1,.int .i64 r.line] 47 (0,0)):=by
  have h1:=World.alloc_heap_new (w.alloc (.cells #[.slice o5 l5 c5,.slice o6 bs.length c6] 62)) (.cells #[.string r.head.rel,.slice o0 r.head.l.length k0,.slice o1 r.body.length k1,.int .i64 r.line] 47)
  rw[World.size_alloc,hn0] at h1
  rw[← hW1]
  exact (Below.heap_alloc _ _ _ (by simp;omega)).trans h1
 have HG0:=hid rg0
 have HR0:=hid rr0
 clear rg0 rr0
 have HGi:=hid (gmut_in 7 [.slice o5 l5 c5,.slice o6 bs.length c6] od ds.length cd r _ W1 ⟨_,_,rfl⟩ ((hc.below b1).more b1.size))
 have HW1:=hid hW1
 have Hb1:=hid b1
 have Hr6:=hid r6
 have Hs1:=hid s1
 have Hn0:=hid hn0
 have HG:=hid hG
 have HD:=hid hD
 have HC:=hid hc
 have Hh:=hid hh
 have HEZ:=hid EZ
 have HFr:=hid hf
 have HFp:=hid hq
 have HSa:=hid hs
 clear hG hD hc hh b1 r6 s1 hW1 EZ hf hq hs
 refine callsIn_of_wp_marks Tryz.func37 rfl trivial ?_ rfl
 simp only[Tryz.ntmps37,List.size_toArray,List.length_cons,List.length_nil,Nat.reduceAdd,Nat.reduceSub,Array.replicate_succ,Array.replicate_zero,List.push_toArray,List.append_toArray,List.nil_append,List.cons_append]
 gi_wp2_with fail
 try rw[HW1.out]
 refine⟨trivial,HGi.out.mono ?_⟩
 rintro e w4 ⟨rfl,hw4⟩
 have s1:=Hs1.out
 rw[s1]
 have b4:Below W1.heap.size W1 w4:=by rw[hw4];exact (((Below.refl _ _).alloc (Nat.le_refl _) _).alloc (by simp) _).alloc (by simp;omega) _
 have s4:w4.heap.size=n0+6:=by rw[hw4];simp[s1]
 have rg4:w4.heap[n0+3]?=some (.cells #[.slice o5 l5 c5,.slice o6 bs.length c6] 62 (0,0)):=by
  rw[hw4,← s1]
  exact (Below.heap_alloc _ _ _ (by simp;omega)).trans ((Below.heap_alloc _ _ _ (by simp)).trans (World.alloc_heap_new W1 _))
 have rd4:w4.heap[n0+3+1]?=some (.cells #[.slice od ds.length cd] 22 (0,0)):=by
  have h1:=World.alloc_heap_new (W1.alloc (.cells #[.slice o5 l5 c5,.slice o6 bs.length c6] 62)) (.cells #[.slice od ds.length cd] 22)
  rw[World.size_alloc,s1] at h1
  rw[hw4]
  exact (Below.heap_alloc _ _ _ (by simp;omega)).trans h1
 have rr4:w4.heap[n0+3+2]?=some (.cells #[.string r.head.rel,.slice o0 r.head.l.length k0,.slice o1 r.body.length k1,.int .i64 r.line] 47 (0,0)):=by
  have h1:=World.alloc_heap_new ((W1.alloc (.cells #[.slice o5 l5 c5,.slice o6 bs.length c6] 62)).alloc (.cells #[.slice od ds.length cd] 22)) (.cells #[.string r.head.rel,.slice o0 r.head.l.length k0,.slice o1 r.body.length k1,.int .i64 r.line] 47)
  rw[World.size_alloc,World.size_alloc,s1] at h1
  rw[hw4]
  exact h1
 have B4:Below w.heap.size w w4:=Hb1.out.trans (b4.mono Hb1.out.size)
 have r64:w4.heap[n0+2]?=some (.cells #[.int .i64 0] 28 (0,0)):=(b4.block _ (by omega)).trans Hr6.out
 have HSq:=hid (gmut_nest E 7 (n0+3+1) (n0+3+2) (n0+3) ds _ _ _ bs r _ w4 (by decide) rd4 rr4 rg4 Ho.out (HG.out.below B4) (SlOf.decl HD.out B4 B4.size) ((HC.out.below B4).more B4.size) Hh.out)
 have HG4:=hid ((b4.block _ (by omega)).trans HG0.out)
 have HR4:=hid ((b4.block _ (by omega)).trans HR0.out)
 have HB4:=hid B4
 have R64:=hid r64
 have Hs4:=hid s4
 clear hw4 b4 s4 rg4 rd4 rr4 B4 r64 s1
 gi_wp2_with fail
 refine range_nest rfl (by omega) (gf:=79) (lb:=#[.pointer (some ⟨n0+3+1,0,none⟩),.pointer (some ⟨n0+3+2,0,none⟩),.pointer (some ⟨n0+3,0,none⟩)]) rfl trivial (enters_of Tryz.func79 (by kernel_rfl) rfl)
  HSq.out (Nat.le_refl _) (Below.refl _ _) (fun _=>rfl)
  (fun k W'=>(∀ x ∈ (mutL E ds r).take k,x=1)∧KC w4 W'∧Below w4.heap.size w4 W')
  (fun _ c W'=>c=.ret∧(∃ x ∈ mutL E ds r,x≠1)∧W'.heap[n0+2]?=some (.cells #[.int .i64 70] 28 (0,0))∧Below w.heap.size w W') ?hI ?hIx ⟨by simp,KC.refl _,Below.refl _ _⟩
  (fun k x a' W'=>((∀ x ∈ (mutL E ds r).take k,x=1)∧KC w4 W'∧Below w4.heap.size w4 W')∧a'={ tmps:=#[.agg #[.slice o5 l5 c5,.slice o6 bs.length c6],.slice od ds.length cd,.agg #[.string r.head.rel,.slice o0 r.head.l.length k0,.slice o1 r.body.length k1,.int .i64 r.line],.pointer (some ⟨n0,0,none⟩),undef,.pointer (some ⟨n0+1,0,none⟩),.pointer (some ⟨n0+1+1,0,none⟩),.int .i64 x,undef,undef,.agg #[.slice o5 l5 c5,.slice o6 bs.length c6],.slice od ds.length cd,.agg #[.string r.head.rel,.slice o0 r.head.l.length k0,.slice o1 r.body.length k1,.int .i64 r.line],.func (.func 79) #[] #[.pointer (some ⟨n0+3+1,0,none⟩),.pointer (some ⟨n0+3+2,0,none⟩),.pointer (some ⟨n0+3,0,none⟩)],.int .i64 x,undef,undef,undef,undef,undef,undef,undef,undef,undef,undef,undef,undef,undef],defers:=[] })
  ?hM ?assign ?body ?done ?stop
 case hI=>
  rintro k A B ⟨h1,h2,h3⟩ hb hk
  exact⟨h1,h2.trans hk,h3.trans hb⟩
 case hIx=>
  rintro k c A B ⟨h1,h2,h3,h4⟩ hb hk
  exact⟨h1,h2,hk.same _ _ h3 rfl,h4.trans (hb.mono HB4.out.size)⟩
 case hM=>
  rintro k x a' A B ⟨⟨h1,h2,h3⟩,h4⟩ hb hk
  exact⟨⟨h1,h2.trans hk,h3.trans hb⟩,h4⟩
 case assign=>
  rintro lp k x A hx hA
  have HAA:=hid hA
  clear hA
  simp only[encM]
  gi_wp2
  exact⟨KeepsFrom.refl _ _,KC.refl _,Below.refl _ _,HAA.out,trivial⟩
 case body=>
  rintro lp k x a' A hx ⟨⟨h1,h2,h3⟩,rfl⟩
  have r6:A.heap[n0+2]?=some (.cells #[.int .i64 0] 28 (0,0)):=h2.same _ _ R64.out rfl
  have y6:A.cell? ⟨n0+2,0,none⟩=some (.int .i64 0):=row_cells r6 0
  have l6:=heap_lt r6
  have f6:=frz_row r6 0
  have e6:=rowSet r6 0 (.int .i64 70)
  simp at e6
  have H1:=hid h1
  have H2:=hid h2
  have H3:=hid h3
  have E6:=hid e6
  have BA:=hid (HB4.out.trans (h3.mono HB4.out.size))
  clear h1 h2 h3 r6 e6
  by_cases he:x=1
  ·subst he
   have Hst:Hid (∀ y ∈ (mutL E ds r).take (k+1),y=1):=hid fun y hy=>by
    rw[List.take_add_one,hx] at hy
    rcases List.mem_append.1 hy with hy | hy
    ·exact H1.out y hy
    ·simpa using hy
   clear hx
   gi_wp2
   exact⟨KeepsFrom.refl _ _,KC.refl _,Below.refl _ _,Hst.out,H2.out,H3.out⟩
  ·have he':(x != 1)=true:=by simpa using he
   have Hm:Hid (∃ y ∈ mutL E ds r,y≠1):=hid ⟨x,List.mem_of_getElem? hx,he⟩
   clear hx
   gi_wp2
   exact⟨(KeepsOthers.setCell _ _ _).from _,rfl,Hm.out,E6.out,BA.out.setCell (p:=⟨n0+2,0,none⟩) (by have:=Hn0.out;show w.heap.size≤n0+2;omega) _⟩
 case done=>
  rintro D A hD ⟨h1,h2,h3⟩ hK
  rw[List.take_of_length_le (Nat.le_refl _)] at h1
  have hns:¬ StratG E ds r:=fun ⟨x,k1,k2,k3⟩=>k2 (h1 x.1 (mutL_iff.2 ⟨x,k1,rfl,k3⟩))
  have BA:Below w.heap.size w A:=HB4.out.trans (h3.mono HB4.out.size)
  have fin:∀ (Wx:World) (z:Int) (tmps:Array Value),Below w.heap.size w Wx→Wx.heap[n0+2]?=some (.cells #[.int .i64 0] 28 (0,0))→Wx.heap[D]?=some (.deferred (some []))→layE E ds r=z→tmps.getD 6 undef=.pointer (some ⟨n0+2,0,none⟩) →
    LeavesInM Fence.wide 8 Tryz.prog Tryz.f37 tmps (fun e w'=>e=.returned (.int .i64 (layE E ds r))∧Below w.heap.size w w') [{ target:=.collected D,args:=#[] }] .returning (Wx.setCell ⟨n0+2,0,none⟩ (.int .i64 z)):=by
   intro Wx z tmps hb hr6 hd hz ht
   have e6:=rowSet hr6 0 (.int .i64 z)
   simp at e6
   have hDn:D≠n0+2:=by have:=Hs4.out;omega
   have E6:=(World.putObj_heap_other (r:=D) (o:=.deferred none) (show n0+2≠D by omega)).trans e6
   have hd':(Wx.setCell ⟨n0+2,0,none⟩ (.int .i64 z)).heap[D]?=some (.deferred (some [])):=(Below.heap_setCell _ _ _ _ hDn).trans hd
   rw[hz]
   refine⟨by simp,.inl ⟨_,_,rfl,run_takeDeferred hd',?_⟩⟩
   refine⟨_,results_cell1 rfl _ _ _ (.int .i64 z) ht (loadVar_no (row_cells E6 0)),rfl,?_⟩
   have hb2:=hb.setCell (p:=⟨n0+2,0,none⟩) (by have:=Hn0.out;show w.heap.size≤n0+2;omega) (.int .i64 z)
   exact hb2.grown (grownBy_putObj' _ D _) hb2.size (fun j e=>by cases e;have:=HB4.out.size;omega)
  have q0:=h2.same _ _ HG4.out rfl
  have q1:=h2.same _ _ HR4.out rfl
  have q6:=h2.same _ _ R64.out rfl
  have x0:A.cell? ⟨n0,0,none⟩=some (.slice o5 l5 c5):=row_cells q0 0
  have x1:A.cell? ⟨n0,1,none⟩=some (.slice o6 bs.length c6):=row_cells q0 1
  obtain⟨y0,y1,y2,y3⟩:=row4 q1
  have l0:=heap_lt q0
  have l1:=heap_lt q1
  have Q1:=hid q1
  have Q6:=hid q6
  have HRec:=hid (isRec_in E ds _ _ _ bs r _ A Ho.out (HG.out.below BA) (SlOf.decl HD.out BA BA.size) ((HC.out.below BA).more BA.size) Hh.out)
  have Hns:=hid hns
  have HBA:=hid BA
  have HK:=hid hK
  have HF:=hid fin
  clear h1 h2 h3 q0 q1 q6 hns BA hK fin
  gi_wp2_with fail
  refine⟨trivial,(callsIn_wide.2 (callsIn_wide.1 HRec.out)).mono ?_⟩
  rintro e w5 ⟨rfl,b5⟩
  have B5:=hid (HBA.out.trans (b5.mono HBA.out.size))
  have Q65:=hid ((b5.block _ (heap_lt Q6.out)).trans Q6.out)
  have K5:=hid ((b5.block _ (heap_lt HK.out)).trans HK.out)
  have q15:=(b5.block _ l1).trans Q1.out
  obtain⟨y0,y1,y2,y3⟩:=row4 q15
  have l15:=heap_lt q15
  have y6:w5.cell? ⟨n0+2,0,none⟩=some (.int .i64 0):=row_cells Q65.out 0
  have l6:=heap_lt Q65.out
  have f6:=frz_row Q65.out 0
  clear b5 q15 HRec x0 x1
  cases hrec:recB' E ds r with
  | false=>
   have Hz:Hid (layE E ds r=0):=hid (layE_plain Hns.out fun h=>by rw[recG_iff.2 h] at hrec;cases hrec)
   clear hrec
   gi_wp2
   exact HF.out w5 0 _ B5.out Q65.out K5.out Hz.out rfl
  | true=>
   have Hrc:=hid (recG_iff.1 hrec)
   have HI:=hid (invents6_c r _ t a u w5 ((HC.out.below B5.out).more B5.out.size) HFr.out HFp.out (HEZ.out.below B5.out))
   clear hrec
   gi_wp2_with fail
   refine⟨trivial,(callsIn_wide.2 HI.out).mono ?_⟩
   intro e6 w6 hR
   cases hR with
   | bad h0 _=>exact absurd HSa.out h0
   | good _ b6=>
    have B6:=hid (B5.out.trans (b6.mono B5.out.size))
    have Q66:=hid ((b6.block _ (heap_lt Q65.out)).trans Q65.out)
    have K6:=hid ((b6.block _ (heap_lt K5.out)).trans K5.out)
    have z6:w6.cell? ⟨n0+2,0,none⟩=some (.int .i64 0):=row_cells Q66.out 0
    have m6:=heap_lt Q66.out
    have g6:=frz_row Q66.out 0
    clear b6 y0 y1 y2 y3 y6 l6 f6
    cases hi:invZ r with
    | false=>
     have Hz:Hid (layE E ds r=0):=hid (layE_calm Hns.out hi)
     clear hi
     gi_wp2
     exact HF.out w6 0 _ B6.out Q66.out K6.out Hz.out rfl
    | true=>
     have Hz:Hid (layE E ds r=71):=hid (layE_inv Hns.out Hrc.out hi)
     clear hi
     gi_wp2
     exact HF.out w6 71 _ B6.out Q66.out K6.out Hz.out rfl
 case stop=>
  rintro D k c A hD ⟨rfl,h2,h3,h4⟩ hK
  have hr:layE E ds r=70:=by
   obtain⟨y,hy,hne⟩:=h2
   obtain⟨x,k1,k2,k3⟩:=mutL_iff.1 hy
   exact layE_strat ⟨x,k1,by rw[k2];exact hne,k3⟩
  have E6:=hid ((World.putObj_heap_other (r:=D) (o:=.deferred none) (show n0+2≠D by have:=Hs4.out;omega)).trans h3)
  have BA:=hid h4
  have HK:=hid hK
  have Hr:=hid hr
  clear h2 h3 h4 hK hr
  gi_wp2
  rw[Hr.out]
  refine⟨by simp,.inl ⟨_,_,rfl,run_takeDeferred HK.out,?_⟩⟩
  refine⟨_,results_cell1 rfl _ _ _ (.int .i64 70) rfl (loadVar_no (row_cells E6.out 0)),rfl,?_⟩
  exact BA.out.grown (grownBy_putObj' _ D _) BA.out.size (fun j e=>by cases e;have:=HB4.out.size;omega)
end Go.Proofs.YtakpgcmfjlbcgaaGreatDoor
namespace Go.Proofs.YtakpgcmfjlbcgaaGreatDoor
open Lib(hid)
open Go.RowKit
theorem takes_all {α:Type} {l:List α} {k:Nat} {x:α} {P:α→Prop} (h:l[k]?=some x) (h1:∀ y ∈ l.take k,P y) (h2:P x):∀ y ∈ l.take (k+1),P y:=fun y hy=>by
 rw[List.take_add_one,h] at hy
 rcases List.mem_append.1 hy with hy | hy
 ·exact h1 y hy
 ·rw[show y=x by simpa using hy];exact h2
end Go.Proofs.YtakpgcmfjlbcgaaGreatDoor
namespace Go.Proofs.YtakpgcmfjlbcgaaGreatDoor
open Lib(hid)
open Go.RowKit
def AllF (vs:List ByteArray) (L:List (Tm × Int)) (ts:List Int):Prop:=∀ x ∈ L,Full (knP vs ts) x.1 x.2
theorem AllF.step {vs:List ByteArray} {L:List (Tm × Int)} {j:Nat} {x:Tm × Int} {ts:List Int} (h:L[j]?=some x) (h1:AllF vs (L.take j) ts) (h2:Full (knP vs ts) x.1 x.2):AllF vs (L.take (j+1)) ts:=takes_all h h1 h2
end Go.Proofs.YtakpgcmfjlbcgaaGreatDoor
namespace Go.Proofs.YtakpgcmfjlbcgaaGreatDoor
open Lib(hid)
open Go.ChangeShapes Go.WideShapes Go.ChangeAt Go.RowKit
theorem laid_skip {P:Program} {x y:String × DataW Unit} {r:List (String × DataW Unit)} {w:World} (h:laidMet P (x::y::r) w):laidMet P (x::r) w:=by
 obtain⟨ps,hv,hnd,hrows⟩:=h
 obtain⟨n,d⟩:=x
 obtain⟨m,e⟩:=y
 obtain⟨g,t,cs,fuel,p,q,h1,h2,h3,h4,hq,rfl⟩:=hv
 obtain⟨g',t',cs',fuel',p',q',_,_,_,_,hq',rfl⟩:=hq
 have hs:List.Sublist (MemPlace.row ⟨g,0,none⟩ cs.size++p++q') (MemPlace.row ⟨g,0,none⟩ cs.size++p++(MemPlace.row ⟨g',0,none⟩ cs'.size++p'++q')):=(List.sublist_append_right _ _).append_left _
 exact⟨_,⟨g,t,cs,fuel,p,q',h1,h2,h3,h4,hq',rfl⟩,hnd.sublist hs,fun b off hm=>hrows b off (hs.subset hm)⟩
theorem own:ownKnob Tryz.prog.godebug=none:=by kernel_rfl
theorem laidOut:laidOutB Tryz.prog=true:=by kernel_rfl
theorem cellsE:Tryz.prog.cellsOf 275=1:=by kernel_rfl
theorem cellsS:Tryz.prog.cellsOf 9=1:=by kernel_rfl
theorem star : "*" ++ "errors.errorString" = "*errors.errorString" := by decide
theorem rowE (u : TypeId) (h : Tryz.prog.typeName? 3 u = some "*errors.errorString") : u = 250 :=
 typeName_ptr_named (nm := "errors.errorString") (by rw [star]; kernel_rfl) (by kernel_rfl) (by decide) u (by rw [star]; exact h)
theorem gTree : Tryz.prog.globalNamed "sorites/dtree.errTree" = some 2 := by kernel_rfl
theorem gTreeType:(Tryz.prog.globals[2]?).map (·.type)=some 95:=by kernel_rfl
theorem gTw : Tryz.prog.globalNamed "sorites/dtype.errTwice" = some 3 := by kernel_rfl
theorem gTwT:(Tryz.prog.globals[3]?).map (·.type)=some 95:=by kernel_rfl
theorem gNo : Tryz.prog.globalNamed "sorites/dtype.errNoRel" = some 4 := by kernel_rfl
theorem gNoT:(Tryz.prog.globals[4]?).map (·.type)=some 95:=by kernel_rfl
theorem gAr : Tryz.prog.globalNamed "sorites/dtype.errArity" = some 5 := by kernel_rfl
theorem gArT:(Tryz.prog.globals[5]?).map (·.type)=some 95:=by kernel_rfl
theorem gTy : Tryz.prog.globalNamed "sorites/dtype.errType" = some 6 := by kernel_rfl
theorem gTyT:(Tryz.prog.globals[6]?).map (·.type)=some 95:=by kernel_rfl
theorem gZt : Tryz.prog.globalNamed "sorites/dsafe.errTree" = some 0 := by kernel_rfl
theorem gZtT:(Tryz.prog.globals[0]?).map (·.type)=some 95:=by kernel_rfl
theorem gZu : Tryz.prog.globalNamed "sorites/dsafe.errUnsafe" = some 1 := by kernel_rfl
theorem gZuT:(Tryz.prog.globals[1]?).map (·.type)=some 95:=by kernel_rfl
abbrev laidAll : List (String × DataW Unit) := [("sorites/dtree.errTree", Rows.laid_sorites_dtree_errTree), ("sorites/dtype.errTwice", Rows.laid_sorites_dtype_errTwice), ("sorites/dtype.errNoRel", Rows.laid_sorites_dtype_errNoRel), ("sorites/dtype.errArity", Rows.laid_sorites_dtype_errArity), ("sorites/dtype.errType", Rows.laid_sorites_dtype_errType), ("sorites/dsafe.errTree", Rows.laid_sorites_dsafe_errTree), ("sorites/dsafe.errUnsafe", Rows.laid_sorites_dsafe_errUnsafe)]
theorem var_lt {W:World} {n:String} {g:Nat} {cs:Array Value} (h:W.var? Tryz.prog n=some cs) (hg:Tryz.prog.globalNamed n=some g):g < W.heap.size:=by
 unfold World.var? at h
 simp only[hg,Option.bind_some] at h
 rcases Nat.lt_or_ge g W.heap.size with h' | h'
 ·exact h'
 ·simp[Array.getElem?_eq_none h'] at h
theorem same_ptr {W:World} {n:String} {a b:Addr} (h:W.var? Tryz.prog n=some #[.iface 250 (.pointer (some a))]) (k:W.var? Tryz.prog n=some #[.iface 250 (.pointer (some b))]):a=b:=by
 rw[h] at k
 simpa using k
theorem env_of_laid {W:World} (h:laidMetH Tryz.prog laidAll W):∃ e a b c d x y,EnvC e a b c d x y W:=by
 rw[MakeChecks.laidMetH_plain _ _ _ (by kernel_rfl)] at h
 have two := fun {n0 n1 : String} {text0 text1 : List UInt8} {r : List (String × DataW Unit)} {g0 g1 : Nat} (h : laidMet Tryz.prog ((n0, .iface "*errors.errorString" (.ptr (.agg [.lit (.string text0)]))) :: (n1, .iface "*errors.errorString" (.ptr (.agg [.lit (.string text1)]))) :: r) W) (hg0 : Tryz.prog.globalNamed n0 = some g0) (ht0 : (Tryz.prog.globals[g0]?).map (·.type) = some 95) (hg1 : Tryz.prog.globalNamed n1 = some g1) (ht1 : (Tryz.prog.globals[g1]?).map (·.type) = some 95) =>
  laid_sentinels2 h hg0 ht0 hg1 ht1 Tryz.underlying95 rowE Tryz.underlying250 Tryz.underlying275 rfl rfl Tryz.underlying9 cellsE cellsS
 obtain⟨e,se,hve,_⟩:=laid_sentinel h gTree gTreeType Tryz.underlying95 rowE Tryz.underlying250 Tryz.underlying275 rfl rfl Tryz.underlying9 cellsE cellsS
 have t1:=h.tail
 obtain⟨b,c,_,_,cb,cc,tb,tc,hvb,hvc,_,_,_,_,_,_,hbc,rb,rc⟩:=two t1 gTw gTwT gNo gNoT
 obtain⟨b2,d,_,_,_,cd,_,td,hvb2,hvd,_,_,_,_,_,_,hbd,_,rd⟩:=two (laid_skip t1) gTw gTwT gAr gArT
 obtain⟨b3,a,_,_,_,ca,_,ta,hvb3,hva,_,_,_,_,_,_,hba,_,ra⟩:=two (laid_skip (laid_skip t1)) gTw gTwT gTy gTyT
 obtain⟨c2,d2,_,_,_,_,_,_,hvc2,hvd2,_,_,_,_,_,_,hcd,_,_⟩:=two t1.tail gNo gNoT gAr gArT
 obtain⟨c3,a2,_,_,_,_,_,_,hvc3,hva2,_,_,_,_,_,_,hca,_,_⟩:=two (laid_skip t1.tail) gNo gNoT gTy gTyT
 obtain⟨d3,a3,_,_,_,_,_,_,hvd3,hva3,_,_,_,_,_,_,hda,_,_⟩:=two t1.tail.tail gAr gArT gTy gTyT
 obtain⟨x,y,_,_,cx,cy,tx,ty,hvx,hvy,_,_,_,_,_,_,hxy,rx,ry⟩:=two t1.tail.tail.tail.tail gZt gZtT gZu gZuT
 obtain rfl:=same_ptr hvb hvb2
 obtain rfl:=same_ptr hvb hvb3
 obtain rfl:=same_ptr hvc hvc2
 obtain rfl:=same_ptr hvc hvc3
 obtain rfl:=same_ptr hvd hvd2
 obtain rfl:=same_ptr hvd hvd3
 obtain rfl:=same_ptr hva hva2
 obtain rfl:=same_ptr hva hva3
 exact⟨e,a,b,c,d,x,y,⟨⟨by simpa using World.var?_cell gTree hve 0,var_lt hve gTree⟩,⟨by simpa[errV] using World.var?_cell gTy hva 0,by simpa[errV] using World.var?_cell gTw hvb 0,by simpa[errV] using World.var?_cell gNo hvc 0,by simpa[errV] using World.var?_cell gAr hvd 0,var_lt hva gTy,var_lt hvb gTw,var_lt hvc gNo,var_lt hvd gAr⟩,
  ⟨Ne.symm hba,Ne.symm hca,Ne.symm hda,Ne.symm hbc,Ne.symm hbd,Ne.symm hcd,⟨ca,ta,ra⟩,⟨cb,tb,rb⟩,⟨cc,tc,rc⟩,⟨cd,td,rd⟩⟩⟩,
  ⟨by simpa[errV] using World.var?_cell gZt hvx 0,by simpa[errV] using World.var?_cell gZu hvy 0,hxy,⟨cx,tx,rx⟩,⟨cy,ty,ry⟩,var_lt hvx gZt,var_lt hvy gZu,heap_lt rx,heap_lt ry⟩⟩
theorem int64_bounds {n:Int} (h:(Lit.int .i64 n).wf=true):-9223372036854775808≤n∧n≤9223372036854775807:=by
 simp only[Lit.wf,Bool.and_eq_true,decide_eq_true_eq] at h
 exact h
theorem door_met (os:Os) (args:Array Value):laidMetH Tryz.prog laidAll ((World.doorLaid Tryz.prog 142 os).forCall (fun _ _=>0) ⟨#[],args,[]⟩).memory:=by
 rw[MakeChecks.laidMetH_plain _ _ _ (by kernel_rfl)]
 exact laidMet_of_run' 8 (by kernel_rfl) (by kernel_rfl)
theorem below_trodAll {H:Type} {enc:TypeId × Value→H} {W W':World} (hb:Below W.heap.size W W') :
  ∀ {ts:List TypeId} {vs:List Value} {ds:List (DataW H)} {ps:List MemPlace},(∀ t ∈ ts,Tryz.prog.readableRec t=true∧t < Tryz.prog.types.size) →
   DataW.TrodAll enc Tryz.prog W 0 (fun _=>true) true ts vs ds ps→(∀ x ∈ ps,x.block < W.heap.size)→DataW.TrodAll enc Tryz.prog W' 0 (fun b=>decide (b < W.heap.size)) true ts vs ds ps
 | [],_,_,_,_,h,_=>by
  obtain⟨rfl,rfl,rfl⟩:=trodAll_nil h
  exact trodAll_mk0
 | t::ts,_,_,_,hr,h,hlt=>by
  obtain⟨v,vs',d,ds',p,q,rfl,rfl,rfl,h1,h2⟩:=trodAll_cons h
  exact trodAll_cons_mk (Below.trod laidOut (hr t (by simp)).1 (hr t (by simp)).2 h1 hb (fun x hx=>hlt x (by simp[hx])))
   (below_trodAll hb (fun t' ht'=>hr t' (by simp[ht'])) h2 (fun x hx=>hlt x (by simp[hx])))
theorem law_post {H:Type} {enc:TypeId × Value→H} {f:Func} {s:ChangeSpec} {W W':World} {args:Array Value} {ds gs:List (DataW H)} {before:List MemPlace}
  (hW:DataW.Whole enc Tryz.prog f.params.toList s.vars false W args.toList ds gs before) (hv:s.vars=[]) (hrt:f.resultTypes=#[4])
  (hfn:s.fn H ds={ results:=[.lit (.bool true)],args:=ds }) (hr:∀ t ∈ f.params.toList,Tryz.prog.readableRec t=true∧t < Tryz.prog.types.size) (hb:Below W.heap.size W W') :
  s.post enc Tryz.prog f false true false false W args (.bool true) W':=by
 have hlt:∀ x ∈ before,x.block < W.heap.size:=fun x hx=>by simpa using hW.lt x hx
 have hW0:=hW
 obtain⟨p,q,hA,hV,rfl,_,_⟩:=hW0
 rw[hv] at hV
 obtain⟨rfl,rfl⟩:=trodVars_none hV
 have e1:s.fn H (ds++[])={ results:=[.lit (.bool true)],args:=ds }:=by rw[List.append_nil];exact hfn
 refine⟨ds,[],p++[],[],p,[],hW,?_,?_,?_,World.keptBut_mono (fun _ h=>h.elim) (hb.frame (fun _=>False)),fun h=>by cases h⟩
 ·rw[e1,hrt]
  exact trodAll_mk1 (shut_bool Tryz.underlying4 true)
 ·rw[e1]
  exact below_trodAll hb hr hA (fun x hx=>hlt x (by simp[hx]))
 ·rw[e1,hv]
  rfl
end Go.Proofs.YtakpgcmfjlbcgaaGreatDoor
