/- Gm2@13, Gl@13, Gon0@13 -/
import Derived.Test.YtakpgcmfjlbcgaaGreatDoorQ45
set_option linter.unusedSimpArgs false
set_option linter.unusedVariables false
namespace Go.Proofs.YtakpgcmfjlbcgaaGreatDoor
theorem len_nodup:∀ {l m:List Nat},l.Nodup→(∀ x ∈ l,x ∈ m)→l.length≤m.length
 | [],_,_,_=>Nat.zero_le _
 | x::l,m,hn,hs=>by
  have hx:=hs x (List.mem_cons_self ..)
  have hn':=List.nodup_cons.1 hn
  have:=len_nodup (m:=m.erase x) hn'.2 (fun y hy=>(List.mem_erase_of_ne (by rintro rfl;exact hn'.1 hy)).2 (hs y (List.mem_cons_of_mem _ hy)))
  rw[List.length_erase_of_mem hx] at this
  have:=List.length_pos_of_mem hx
  simp only[List.length_cons]
  omega
theorem inG_cons (g:List Nat) (L:List (List Nat)) (a:Nat):inG (g::L) a=if a ∈ g then 0 else inG L a+1:=by
 unfold inG
 rw[List.findIdx_cons]
 by_cases h:a ∈ g
 ·rw[if_pos h,List.contains_iff_mem.2 h];rfl
 ·have:g.contains a=false:=by
   cases hh:g.contains a with
   | false=>rfl
   | true=>exact absurd (List.contains_iff_mem.1 hh) h
  rw[if_neg h,this];rfl
theorem grpR_place {E:Ed} {n:Nat} (hE:∀ x ∈ E,x.2 < n) {D:List Nat} {L:List (List Nat)} (h:GrpR E n D L) (hw:Whole E n D) {a b:Nat} (ha:a < n) (hD:a ∉ D):(Rch E a b→b ∈ D∨inG L b≤inG L a)∧(b < n→b ∉ D→(Mut E a b ↔ inG L a=inG L b)):=by
 induction h with
 | @stop D h1=>exact absurd (pickG_all hE h1 a ha) hD
 | @more D c L h1 h2 ih=>
  obtain⟨hc,hnx⟩:=pickG_spec h1
  rw[inG_cons,inG_cons]
  by_cases hg:a ∈ grpG E n c
  ·rw[if_pos hg]
   have hca:=(grp_mem.1 hg).2
   refine⟨fun hr=>?_,fun hb hbD=>?_⟩
   ·rcases hnx.2 b (hca.1.trans hr) with h | h
    ·exact .inl h
    ·exact .inr (by rw[if_pos (grp_mem.2 ⟨rch_lt hE ha hr,h⟩)];exact Nat.le_refl _)
   ·constructor
    ·intro hm
     rw[if_pos (grp_mem.2 ⟨hb,hca.trans hm⟩)]
    ·intro e
     by_cases hbg:b ∈ grpG E n c
     ·exact hca.symm.trans (grp_mem.1 hbg).2
     ·rw[if_neg hbg] at e;cases e
  ·rw[if_neg hg]
   have hD':a ∉ D++grpG E n c:=fun hm=>(List.mem_append.1 hm).elim hD hg
   obtain⟨i1,i2⟩:=ih (hw.more h1) hD'
   refine⟨fun hr=>?_,fun hb hbD=>?_⟩
   ·by_cases hbg:b ∈ grpG E n c
    ·exact .inr (by rw[if_pos hbg];exact Nat.zero_le _)
    ·rw[if_neg hbg]
     rcases i1 hr with h | h
     ·rcases List.mem_append.1 h with h | h
      ·exact .inl h
      ·exact absurd h hbg
     ·exact .inr (Nat.succ_le_succ h)
   ·by_cases hbg:b ∈ grpG E n c
    ·rw[if_pos hbg]
     constructor
     ·intro hm
      exact absurd (grp_mem.2 ⟨ha,(grp_mem.1 hbg).2.trans hm.symm⟩) hg
     ·intro e;cases e
    ·rw[if_neg hbg]
     have:=i2 hb (fun hm=>(List.mem_append.1 hm).elim hbD hbg)
     rw[this]
     omega
theorem gra_no {p:Pg} {L:List (List Nat)} {ln e:Int} (h:GrA (ChA p) p L ln e) (he:e≠0):L=[]:=by
 cases h with
 | chk=>rfl
 | lay=>rfl
 | ok=>exact absurd rfl he
open Go.RowKit
theorem few_groups:∀ {L:List (List Nat)},(∀ g ∈ L,g≠[])→L.length≤L.flatten.length
 | [],_=>Nat.le_refl _
 | g::L,h=>by
  have ih:=few_groups (L:=L) fun g hg=>h g (List.mem_cons_of_mem _ hg)
  have:=List.length_pos_iff.2 (h g (List.mem_cons_self ..))
  rw[List.flatten_cons,List.length_append,List.length_cons]
  omega
theorem oncG_of {E:Ed} {n:Nat} {L:List (List Nat)} (hE:∀ x ∈ E,x.2 < n) (h:GrpR E n [] L):OncG E n L:=by
 obtain⟨h1,h2,h3⟩:=grpR_flat hE h (Whole.nil _ _)
 rw[List.nil_append] at h1 h2
 have hlen:L.flatten.length=n:=by
  have a:=len_nodup (m:=List.range n) h1 fun x hx=>List.mem_range.2 ((h2 x).1 hx)
  have b:=len_nodup (l:=List.range n) (m:=L.flatten) List.nodup_range fun x hx=>(h2 x).2 (List.mem_range.1 hx)
  rw[List.length_range] at a b
  omega
 refine⟨h1,h2,hlen,fun g hg=>(h3 g hg).1,fun g hg=>?_,?_,fun a b ha _ hr=>?_,fun a b ha hb=>?_⟩
 ·rw[← hlen];exact (List.sublist_flatten_of_mem hg).length_le
 ·rw[← hlen];exact few_groups fun g hg=>(h3 g hg).2
 ·exact ((grpR_place hE h (Whole.nil _ _) ha (by simp)).1 hr).elim (fun h=>by simp at h) id
 ·exact (grpR_place hE h (Whole.nil _ _) ha (by simp)).2 hb (by simp)
end Go.Proofs.YtakpgcmfjlbcgaaGreatDoor
