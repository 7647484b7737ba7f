/- Which bytes stand ahead of a program's text: blanks and comments, and what can be a token: plain functions of lists of bytes. Which tokens a program's text has, as plain functions of lists of bytes. -/
import Derived.Test.YthjfkngfgomkbaaGreatDoorName
import Derived.Test.YthjfkngfgomkbaaGreatDoorSignBack
import Derived.Test.YthjfkngfgomkbaaGreatDoorNum
namespace Go.Proofs.YthjfkngfgomkbaaGreatDoor
open Go.RowKit

def blankB (c : UInt8) : Bool := decide (c = 9 ∨ c = 10 ∨ c = 32)
def partB (c : UInt8) : Bool := letB (c.toNat : Int) || digB (c.toNat : Int)
def smallB (c : UInt8) : Bool := decide (97 ≤ c.toNat ∧ c.toNat ≤ 122)

/-- How many bytes of blanks and comments stand ahead; true: within a comment. -/
def gap : Bool → List UInt8 → Nat
  | _, [] => 0
  | true, c :: l => if c = 10 then 1 + gap false l else 1 + gap true l
  | false, c :: l => if blankB c = true then 1 + gap false l else if c = 47 ∧ l.head? = some 47 then 1 + gap true l else 0
/-- How many bytes stand ahead of a line's end. -/
def comN : List UInt8 → Nat
  | [] => 0
  | c :: l => if c = 10 then 0 else 1 + comN l
def lines (l : List UInt8) : Nat := l.count 10
def runN (p : UInt8 → Bool) : List UInt8 → Nat
  | [] => 0
  | c :: l => if p c = true then 1 + runN p l else 0
/-- Up to the first quote that no \ takes its sense from, and with it. -/
def symN : Bool → List UInt8 → Nat
  | _, [] => 0
  | true, _ :: l => 1 + symN false l
  | false, c :: l => if c = 92 then 1 + symN true l else if c = 34 then 1 else 1 + symN false l

def longB (l : List UInt8) : Bool := decide (l = [58, 45] ∨ l = [33, 61] ∨ l = [60, 61] ∨ l = [62, 61])
def shortL : List UInt8 := [40, 41, 123, 125, 44, 46, 58, 33, 61, 60, 62, 43, 45, 42]
def shortB (c : UInt8) : Bool := decide (c ∈ shortL)
def signN (l : List UInt8) : Nat := if longB (l.take 2) = true then 2 else 1
def wordB (l : List UInt8) : Bool := decide (l = [46, 100, 101, 99, 108] ∨ l = [46, 105, 110, 112, 117, 116] ∨ l = [46, 111, 117, 116, 112, 117, 116])

def shapeL : List UInt8 → Nat × Nat
  | [] => (4, 1)
  | c :: t => if digB (c.toNat : Int) = true then (2, runN partB (c :: t)) else if partB c = true then (1, runN partB (c :: t)) else if c = 34 then (3, 1 + symN false t)
    else if c = 46 ∧ 0 < runN smallB t then (5, 1 + runN smallB t) else (4, signN (c :: t))
theorem shapeL_cons (c : UInt8) (t : List UInt8) : shapeL (c :: t) = if digB (c.toNat : Int) = true then (2, runN partB (c :: t)) else if partB c = true then (1, runN partB (c :: t)) else if c = 34 then (3, 1 + symN false t)
    else if c = 46 ∧ 0 < runN smallB t then (5, 1 + runN smallB t) else (4, signN (c :: t)) := rfl
theorem gap_len : ∀ (m : Bool) (l : List UInt8), gap m l ≤ l.length
  | m, [] => by cases m <;> simp [gap]
  | true, c :: l => by
    have h1 := gap_len false l
    have h2 := gap_len true l
    unfold gap
    split <;> simp <;> omega
  | false, c :: l => by
    have h1 := gap_len false l
    have h2 := gap_len true l
    unfold gap
    split
    · simp; omega
    · split <;> simp; omega
theorem gap_com : ∀ l : List UInt8, gap true l = comN l + gap false (l.drop (comN l))
  | [] => by simp [gap, comN]
  | c :: l => by
    by_cases h : c = 10
    · subst h
      simp [gap, comN, blankB]
    · have ih := gap_com l
      simp only [gap, comN, if_neg h]
      rw [ih, show (1 + comN l) = comN l + 1 by omega, List.drop_succ_cons]
      omega
theorem comN_len : ∀ l : List UInt8, comN l ≤ l.length
  | [] => by simp [comN]
  | c :: l => by
    have := comN_len l
    unfold comN
    split <;> simp; omega
theorem runN_len (p : UInt8 → Bool) : ∀ l : List UInt8, runN p l ≤ l.length
  | [] => by simp [runN]
  | c :: l => by
    have := runN_len p l
    unfold runN
    split <;> simp; omega
theorem symN_len : ∀ (m : Bool) (l : List UInt8), symN m l ≤ l.length
  | m, [] => by cases m <;> simp [symN]
  | true, c :: l => by
    have := symN_len false l
    simp [symN]; omega
  | false, c :: l => by
    have h1 := symN_len false l
    have h2 := symN_len true l
    unfold symN
    split
    · simp; omega
    · split <;> simp; omega
theorem shape_pos {l : List UInt8} (hl : l ≠ []) : 1 ≤ (shapeL l).2 ∧ (shapeL l).2 ≤ l.length ∧ 1 ≤ (shapeL l).1 ∧ (shapeL l).1 ≤ 5 := by
  cases l with
  | nil => exact absurd rfl hl
  | cons c t =>
    have hr := runN_len partB (c :: t)
    have hs := runN_len smallB t
    have hy := symN_len false t
    have hp : partB c = true → 1 ≤ runN partB (c :: t) := fun h => by unfold runN; rw [if_pos h]; omega
    rw [shapeL_cons]
    by_cases h1 : digB (c.toNat : Int) = true
    · rw [if_pos h1]
      exact ⟨hp (by unfold partB; rw [h1]; simp), hr, by simp, by simp⟩
    rw [if_neg h1]
    by_cases h2 : partB c = true
    · rw [if_pos h2]
      exact ⟨hp h2, hr, by simp, by simp⟩
    rw [if_neg h2]
    by_cases h3 : c = 34
    · rw [if_pos h3]
      refine ⟨?_, ?_, by simp, by simp⟩ <;> simp <;> omega
    rw [if_neg h3]
    by_cases h4 : c = 46 ∧ 0 < runN smallB t
    · rw [if_pos h4]
      refine ⟨?_, ?_, by simp, by simp⟩ <;> simp <;> omega
    rw [if_neg h4]
    unfold signN
    by_cases h5 : longB ((c :: t).take 2) = true
    · rw [if_pos h5]
      refine ⟨by simp, ?_, by simp, by simp⟩
      have : t ≠ [] := by
        rintro rfl
        simp [longB] at h5
      cases t with
      | nil => exact absurd rfl this
      | cons => simp
    · rw [if_neg h5]
      refine ⟨by simp, by simp, by simp, by simp⟩
end Go.Proofs.YthjfkngfgomkbaaGreatDoor
namespace Go.Proofs.YthjfkngfgomkbaaGreatDoor
open Go.RowKit

def meanL (k : Nat) (b : List UInt8) : Option (List UInt8) :=
  if k = 3 then unqL b
  else if (if k = 1 then decide (b = [95]) || nameB b else if k = 2 then (numL b).isSome else if k = 5 then wordB b else longB b || shortB (b.getD 0 0)) = true then some b else none
def tokL (l : List UInt8) : Option (Nat × List UInt8 × Nat) := (meanL (shapeL l).1 (l.take (shapeL l).2)).map fun s => ((shapeL l).1, s, (shapeL l).2)

structure Tk where
  kind : Nat
  s : List UInt8
  line : Nat

def lexF : Nat → Nat → List UInt8 → List Tk × Option Nat
  | 0, _, _ => ([], none)
  | f + 1, n, l =>
    if l.drop (gap false l) = [] then ([], none) else
      match tokL (l.drop (gap false l)) with
      | none => ([], some (n + lines (l.take (gap false l))))
      | some (k, s, z) => (⟨k, s, n + lines (l.take (gap false l))⟩ :: (lexF f (n + lines (l.take (gap false l))) ((l.drop (gap false l)).drop z)).1,
          (lexF f (n + lines (l.take (gap false l))) ((l.drop (gap false l)).drop z)).2)
def lexL (l : List UInt8) : List Tk × Option Nat := lexF (l.length + 1) 1 l
def lexR (l : List UInt8) : List Tk × Nat × Nat :=
  if 65536 < l.length then ([], 0, 21) else if 20000 < (lexL l).1.length then ([], ((lexL l).1.getD 20000 ⟨0, [], 0⟩).line, 21) else
    match (lexL l).2 with
    | some n => ([], n, 20)
    | none => ((lexL l).1, 0, 0)

theorem tok_pos {l : List UInt8} (hl : l ≠ []) {k : Nat} {s : List UInt8} {z : Nat} (h : tokL l = some (k, s, z)) : 1 ≤ z ∧ z ≤ l.length ∧ 1 ≤ k ∧ k ≤ 5 := by
  have hp := shape_pos hl
  unfold tokL at h
  rw [Option.map_eq_some_iff] at h
  obtain ⟨a, _, h⟩ := h
  simp only [Prod.mk.injEq] at h
  obtain ⟨rfl, _, rfl⟩ := h
  exact hp
end Go.Proofs.YthjfkngfgomkbaaGreatDoor
