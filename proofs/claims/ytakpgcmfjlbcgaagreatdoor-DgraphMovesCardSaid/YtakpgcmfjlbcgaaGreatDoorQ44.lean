/- Gsz@0123, Gse@0123 -/
import Derived.Test.YtakpgcmfjlbcgaaGreatDoorQ43
set_option linter.unusedSimpArgs false
set_option linter.unusedVariables false
namespace Go.Proofs.YtakpgcmfjlbcgaaGreatDoor
open Go.RowKit
theorem edges_len (ds:List De):∀ (rs:List Ru) (n:Nat),(∀ r ∈ rs,r.body.length≤n)→(edgesG ⟨ds,rs⟩).length≤n * rs.length
 | [],_,_=>by simp[edgesG]
 | r::rs,n,h=>by
  have ih:=edges_len ds rs n fun r hr=>h r (List.mem_cons_of_mem _ hr)
  have h1:=atomsG_len ds r.body
  have h2:=h r (List.mem_cons_self ..)
  have e:edgesG ⟨ds,r::rs⟩=edgeG ds r++edgesG ⟨ds,rs⟩:=rfl
  rw[e,List.length_append,List.length_cons,Nat.mul_add,Nat.mul_one]
  unfold edgeG
  rw[List.length_map]
  omega
structure Lil (p:Pg):Prop where
 few:FewP p
 rule:∀ r ∈ p.rules,FewR r∧FewP' (partsZ r)
 n:p.decls.length≤1000
 e:(edgesG p).length≤1000000
theorem small_lens {p:Pg} (h:smallP p=true):p.decls.length≤100∧p.rules.length≤300:=by
 unfold smallP at h
 simp only[Bool.and_eq_true,decide_eq_true_eq] at h
 exact⟨h.1.2,h.2⟩
theorem lil_some {p:Pg} (h:smallP p=true) {l:List Ru} (hl:l.length≤p.rules.length) (hm:∀ r ∈ l,r ∈ p.rules):Lil ⟨p.decls,l⟩:=by
 have h1:=small_lens h
 have h2:=small_terms h
 refine⟨fun r hr=>⟨Nat.le_trans (small_terms h r (hm r hr)).1 (by decide),fun t ht=>Nat.le_trans ((small_terms h r (hm r hr)).2 t ht) (by decide)⟩,fun r hr=>?_,by show p.decls.length≤1000;omega,?_⟩
 ·have:=h2 r (hm r hr)
  exact⟨few_small this.1 fun t ht=>Nat.le_trans (this.2 t ht) (by decide),fewP_small this.1⟩
 ·have:=edges_len p.decls l 2000 fun r hr=>Nat.le_trans (body_len r) (h2 r (hm r hr)).1
  omega
theorem lil_small {p:Pg} (h:smallP p=true):Lil p:=lil_some (p:=p) (l:=p.rules) h (Nat.le_refl _) fun _ h=>h
open Go.RowKit Go.Maps
def nI (l:List Nat):List Int:=l.map fun k:Nat=>(k:Int)
theorem add_none7 (g o j:Nat):(⟨g,o,none⟩:Addr).add j=⟨g,o+j,none⟩:=by
 unfold Addr.add
 split
 ·rename_i h;rw[h,Nat.add_zero]
 ·rfl
theorem gpI_see {w wr:World} {G:Array Value} {M g n:Nat} {D:List Nat} {Ls:List (List Nat)} {gv:Value} (h:GpI w G M g n D Ls [] gv wr) (hn:∀ x ∈ Ls.flatten,x < 1000000):SlOf wr wr.heap.size 1 (IntsC wr wr.heap.size) (Ls.map nI) gv:=by
 obtain⟨c0,hg0,_⟩:=h.gb
 have hL:=own_cellG h.list
 have ho:=h.own
 rcases ho.2 with ⟨rfl,h0⟩ | ⟨b,cap,cur,hv,hb,hg,hnc,hc,hcur,ht⟩
 ·exact .inl ⟨rfl,by rw[List.eq_nil_of_length_eq_zero h0];rfl⟩
 ·refine .inr ⟨⟨b,0,none⟩,cap,by rw[List.length_map];exact hv,by rw[List.length_map];exact hnc,hc,fun _=>heap_lt hg,fun i x hx=>?_⟩
  rw[List.getElem?_map] at hx
  obtain⟨K,hK,rfl⟩:=Option.map_eq_some_iff.1 hx
  obtain⟨o,h1,h2,h3⟩:=hdrs_at g Ls 0 i K hK
  have hlen:K.length≤maxLen:=by
   have:K.length≤(Ls.flatten++[]).length:=by
    rw[List.append_nil]
    exact (List.sublist_flatten_of_mem (List.mem_of_getElem? hK)).length_le
   exact Nat.le_trans this (Nat.le_trans hL.1 hL.2.1)
  have hl:(nI K).length=K.length:=List.length_map ..
  refine⟨[.slice (some ⟨g,o,none⟩) K.length K.length],rfl,⟨some ⟨g,o,none⟩,K.length,by rw[hl],.inr ⟨⟨g,o,none⟩,K.length,by rw[hl],by rw[hl];exact Nat.le_refl _,hlen,fun _=>heap_lt hg0,fun j y hy=>?_⟩⟩,fun j c hj=>?_⟩
  ·unfold nI at hy
   rw[List.getElem?_map] at hy
   obtain⟨z,hz,rfl⟩:=Option.map_eq_some_iff.1 hy
   have hf:=h3 j z hz
   have hzn:=hn z (List.mem_of_getElem? hf)
   refine⟨[.int .i64 (z:Int)],rfl,⟨rfl,by unfold I64;omega⟩,fun q c hq=>?_⟩
   cases q with
   | zero=>
    have e:Value.int .i64 (z:Int)=c:=by simpa using hq
    subst e
    have:=hL.2.2.2 (o+j) (.int .i64 (z:Int)) (by
     unfold intsG
     rw[List.append_nil,List.getElem?_map]
     rw[Nat.sub_zero] at hf
     rw[hf]
     rfl)
    rw[add_none7]
    simpa using this
   | succ q=>simp at hq
  ·have hh:=ho.cells (g:=b) (by rw[hv];rfl) i _ h1
   cases j with
   | zero=>
    have e:=(show Value.slice (some ⟨g,o,none⟩) K.length K.length=c by simpa using hj)
    subst e
    simpa using hh
   | succ j=>simp at hj
inductive GsA (p:Pg) (w':World):Ending→Prop
 | mk {ln k:Int} {L:List (List Nat)} {gv:Value}:GrA (ChA p) p L ln k→SlOf w' w'.heap.size 1 (IntsC w' w'.heap.size) (L.map nI) gv→GsA p w' (.returned (.tuple #[gv,.int .i64 ln,.int .i64 k]))
theorem gsR_one {n0:Nat} {w w':World} {p:Pg} {e:Ending} (hn:p.decls.length≤1000) (h:GsR n0 w p e w'):GsA p w' e∧Below n0 w w':=by
 cases h with
 | bad h1 h2 hb=>exact⟨.mk (.chk h1 h2) (.inl ⟨rfl,rfl⟩),hb⟩
 | @lay _ i r _ h1 h2 h3 h4 hb=>
  refine⟨.mk (.lay h1 h2 (fun j r' hj hr'=>h3 r' ?_) h4) (.inl ⟨rfl,rfl⟩),hb⟩
  exact List.mem_of_getElem? (i:=j) (by rw[List.getElem?_take,if_pos hj];exact hr')
 | good h1 h2 h3 h4 _ hb=>
  refine⟨.mk (.ok h1 (fun j r' hr'=>h2 r' (List.mem_of_getElem? hr')) h3) (gpI_see h4 fun x hx=>?_),hb⟩
  have:=((grpR_flat edgesG_lt h3 (Whole.nil _ _)).2.1 x).1 (by simpa using hx)
  omega
end Go.Proofs.YtakpgcmfjlbcgaaGreatDoor
