/- Gm2@123, Gl@123, Gon0@123 -/
import Derived.Test.YtakpgcmfjlbcgaaGreatDoorQ44
set_option linter.unusedSimpArgs false
set_option linter.unusedVariables false
namespace Go.Proofs.YtakpgcmfjlbcgaaGreatDoor
def inG (L:List (List Nat)) (a:Nat):Nat:=L.findIdx fun g=>g.contains a
theorem gra_ok {p:Pg} {L:List (List Nat)} {ln:Int} (h:GrA (ChA p) p L ln 0):Fine p∧(∀ r ∈ p.rules,layE (edgesG p) p.decls r=0)∧GrpR (edgesG p) p.decls.length [] L:=by
 generalize hz:(0:Int)=z at h
 cases h with
 | chk _ h=>exact absurd hz.symm h
 | lay _ _ _ h=>exact absurd hz.symm h
 | ok h1 h2 h3=>
  exact⟨fine_of h1,fun r hr=>by
   obtain⟨j,hj⟩:=List.mem_iff_getElem?.1 hr
   exact h2 j r hj,h3⟩
open Go.RowKit
structure OncG (E:Ed) (n:Nat) (L:List (List Nat)):Prop where
 nd:L.flatten.Nodup
 mem:∀ a,a ∈ L.flatten ↔ a < n
 len:L.flatten.length=n
 rise:∀ g ∈ L,g.Pairwise (· < ·)
 small:∀ g ∈ L,g.length≤n
 few:L.length≤n
 hang:∀ a b,a < n→b < n→Rch E a b→inG L b≤inG L a
 same:∀ a b,a < n→b < n→(Mut E a b ↔ inG L a=inG L b)
theorem OncG.place {E:Ed} {n:Nat} {L:List (List Nat)} (h:OncG E n L) {a:Nat} (ha:a < n):∃ g,L[inG L a]?=some g∧a ∈ g∧∀ j g',j < inG L a→L[j]?=some g'→a ∉ g':=by
 obtain⟨g,hg,hag⟩:=List.mem_flatten.1 ((h.mem a).2 ha)
 have hlt:inG L a < L.length:=List.findIdx_lt_length_of_exists ⟨g,hg,List.contains_iff_mem.2 hag⟩
 refine⟨L[inG L a],List.getElem?_eq_getElem hlt,?_,fun j g' hj hg' hm=>?_⟩
 ·have:=@List.findIdx_getElem _ (fun g:List Nat=>g.contains a) L hlt
  exact List.contains_iff_mem.1 this
 ·have hjl:=(List.getElem?_eq_some_iff.1 hg').1
  have h1:=List.not_of_lt_findIdx (p:=fun g:List Nat=>g.contains a) (xs:=L) hj
  have e:=(List.getElem?_eq_some_iff.1 hg').2
  rw[e] at h1
  rw[List.contains_iff_mem.2 hm] at h1
  exact absurd h1 (by decide)
end Go.Proofs.YtakpgcmfjlbcgaaGreatDoor
