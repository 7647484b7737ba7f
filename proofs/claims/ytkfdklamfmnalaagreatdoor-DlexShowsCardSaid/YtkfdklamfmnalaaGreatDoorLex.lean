/- Which tokens a program's text has, as plain functions of lists of bytes. -/
import Derived.Test.YtkfdklamfmnalaaGreatDoorLexA
import Derived.Test.YtkfdklamfmnalaaGreatDoorSignBack
import Derived.Test.YtkfdklamfmnalaaGreatDoorNum
namespace Go.Proofs.YtkfdklamfmnalaaGreatDoor
open Go.RowKit

def meanL (k : Nat) (b : List UInt8) : Option (List UInt8) :=
  if k = 3 then unqL b
  else if (if k = 1 then decide (b = [95]) || nameB b else if k = 2 then (numL b).isSome else if k = 5 then wordB b else longB b || shortB (b.getD 0 0)) = true then some b else none
def tokL (l : List UInt8) : Option (Nat × List UInt8 × Nat) := (meanL (shapeL l).1 (l.take (shapeL l).2)).map fun s => ((shapeL l).1, s, (shapeL l).2)

structure Tk where
  kind : Nat
  s : List UInt8
  line : Nat

def lexF : Nat → Nat → List UInt8 → List Tk × Option Nat
  | 0, _, _ => ([], none)
  | f + 1, n, l =>
    if l.drop (gap false l) = [] then ([], none) else
      match tokL (l.drop (gap false l)) with
      | none => ([], some (n + lines (l.take (gap false l))))
      | some (k, s, z) => (⟨k, s, n + lines (l.take (gap false l))⟩ :: (lexF f (n + lines (l.take (gap false l))) ((l.drop (gap false l)).drop z)).1,
          (lexF f (n + lines (l.take (gap false l))) ((l.drop (gap false l)).drop z)).2)
def lexL (l : List UInt8) : List Tk × Option Nat := lexF (l.length + 1) 1 l
def lexR (l : List UInt8) : List Tk × Nat × Nat :=
  if 65536 < l.length then ([], 0, 21) else if 20000 < (lexL l).1.length then ([], ((lexL l).1.getD 20000 ⟨0, [], 0⟩).line, 21) else
    match (lexL l).2 with
    | some n => ([], n, 20)
    | none => ((lexL l).1, 0, 0)

theorem tok_pos {l : List UInt8} (hl : l ≠ []) {k : Nat} {s : List UInt8} {z : Nat} (h : tokL l = some (k, s, z)) : 1 ≤ z ∧ z ≤ l.length ∧ 1 ≤ k ∧ k ≤ 5 := by
  have hp := shape_pos hl
  unfold tokL at h
  rw [Option.map_eq_some_iff] at h
  obtain ⟨a, _, h⟩ := h
  simp only [Prod.mk.injEq] at h
  obtain ⟨rfl, _, rfl⟩ := h
  exact hp
end Go.Proofs.YtkfdklamfmnalaaGreatDoor
