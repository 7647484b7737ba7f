/- Rm21@01 -/
import Derived.Test.YtdgbajnhhhjbcaaGreatDoorQ50
import Derived.Test.YtdgbajnhhhjbcaaGreatDoorQ47
set_option linter.unusedSimpArgs false
set_option linter.unusedVariables false
namespace Go.Proofs.YtdgbajnhhhjbcaaGreatDoor
open Go.RowKit
theorem names_nodup {ds:List De} (h:∀ (i j:Nat) (x y:De),i < j→ds[i]?=some x→ds[j]?=some y→(x.rel.toList == y.rel.toList)=false):(namesD ds).Nodup:=by
 unfold namesD List.Nodup
 rw[List.pairwise_map,List.pairwise_iff_getElem]
 intro i j hi hj hij e
 have:=h i j ds[i] ds[j] hij (List.getElem?_eq_getElem hi) (List.getElem?_eq_getElem hj)
 have e2:(ds[i]).rel=(ds[j]).rel:=by
  apply ByteArray.ext
  exact Array.toList_inj.1 e
 rw[e2] at this
 simp at this
end Go.Proofs.YtdgbajnhhhjbcaaGreatDoor
