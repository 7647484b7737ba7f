/- Rows behind a call. -/
import Derived.Test.YthhepmddcncjoaaGreatDoorKFR
set_option linter.unusedSimpArgs false
set_option linter.unusedVariables false
namespace Go.Proofs.YthhepmddcncjoaaGreatDoor
open Go.RowKit

theorem RwsC.belowF {w w' : World} {B : Nat} {l : List Rw} {cs : List Value} (h : RwsC w B l cs) (hb : Below B w w') : RwsC w' B l cs := by
  obtain ⟨u, e, h⟩ := h
  exact ⟨u, e, SlOf.below h hb fun _ _ _ h => RwC.below h hb⟩
theorem RwsC.moreF {w : World} {B B' : Nat} {l : List Rw} {cs : List Value} (h : RwsC w B l cs) (hB : B ≤ B') : RwsC w B' l cs := by
  obtain ⟨u, e, h⟩ := h
  exact ⟨u, e, SlOf.more h hB fun _ _ _ h => RwC.more h hB⟩
theorem rows_pastF {w w' : World} {l : List (List Rw)} {v : Value} (h : SlOf w w.heap.size 1 (RwsC w w.heap.size) l v) (hb : Below w.heap.size w w') : SlOf w' w'.heap.size 1 (RwsC w' w'.heap.size) l v :=
  SlOf.more (SlOf.below h hb fun _ _ _ h => RwsC.belowF h hb) hb.size fun _ _ _ h => RwsC.moreF h hb.size
end Go.Proofs.YthhepmddcncjoaaGreatDoor
