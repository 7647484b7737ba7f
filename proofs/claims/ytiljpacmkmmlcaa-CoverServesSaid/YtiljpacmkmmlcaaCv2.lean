/- What an augmenting search keeps in memory: who is ahead, what was met; two blocks and nothing else. -/
import Derived.Test.YtiljpacmkmmlcaaSl
import Derived.Test.YtiljpacmkmmlcaaKa
set_option linter.unusedSimpArgs false
set_option linter.unusedVariables false
namespace Go.Proofs.Ytiljpacmkmmlcaa
open Go.RowKit

def bhI (B : Bh) (k : Nat) : Int := match B k with
  | none => -1
  | some i => (i : Int)
def bhCells (B : Bh) (n : Nat) : List Value := (List.range n).map fun k => .int .i64 (bhI B k)
def metCells (m : Nat → Bool) (n : Nat) : List Value := (List.range n).map fun k => .bool (m k)
theorem bhCells_at (B : Bh) {n k : Nat} (h : k < n) : (bhCells B n)[k]? = some (.int .i64 (bhI B k)) := by
  unfold bhCells
  rw [List.getElem?_map, List.getElem?_range h]; rfl
theorem metCells_at (m : Nat → Bool) {n k : Nat} (h : k < n) : (metCells m n)[k]? = some (.bool (m k)) := by
  unfold metCells
  rw [List.getElem?_map, List.getElem?_range h]; rfl
theorem bhCells_len (B : Bh) (n : Nat) : (bhCells B n).length = n := by unfold bhCells; simp
theorem metCells_len (m : Nat → Bool) (n : Nat) : (metCells m n).length = n := by unfold metCells; simp
theorem bhCells_set (B : Bh) {n k i : Nat} (h : k < n) : (bhCells B n).set k (.int .i64 (i : Int)) = bhCells (updB B k i) n := by
  apply List.ext_getElem?
  intro j
  by_cases hj : j < n
  · rw [bhCells_at _ hj]
    by_cases e : j = k
    · subst e
      rw [List.getElem?_set_self (by rw [bhCells_len]; exact hj)]
      unfold bhI; rw [updB_same]
    · rw [List.getElem?_set_ne (Ne.symm e), bhCells_at _ hj]
      unfold bhI; rw [updB_other _ _ e]
  · rw [List.getElem?_eq_none (by rw [List.length_set, bhCells_len]; omega), List.getElem?_eq_none (by rw [bhCells_len]; omega)]
theorem metCells_set (m : Nat → Bool) {n k : Nat} (h : k < n) : (metCells m n).set k (.bool true) = metCells (setB m k) n := by
  apply List.ext_getElem?
  intro j
  by_cases hj : j < n
  · rw [metCells_at _ hj]
    by_cases e : j = k
    · subst e
      rw [List.getElem?_set_self (by rw [metCells_len]; exact hj), setB_same]
    · rw [List.getElem?_set_ne (Ne.symm e), metCells_at _ hj, setB_other _ e]
  · rw [List.getElem?_eq_none (by rw [List.length_set, metCells_len]; omega), List.getElem?_eq_none (by rw [metCells_len]; omega)]
def unmet (m : Nat → Bool) (n : Nat) : Nat := ((List.range n).filter fun k => !m k).length
theorem unmet_mono {m m' : Nat → Bool} {n : Nat} (h : ∀ l, m l = true → m' l = true) : unmet m' n ≤ unmet m n := by
  unfold unmet
  refine nsub_len (nfilt_nodup List.nodup_range) fun x hx => ?_
  obtain ⟨h1, h2⟩ := List.mem_filter.1 hx
  refine List.mem_filter.2 ⟨h1, ?_⟩
  cases hm : m x with
  | false => rfl
  | true => rw [h x hm] at h2; cases h2
theorem unmet_set {m : Nat → Bool} {n k : Nat} (hk : k < n) (hm : m k = false) : unmet (setB m k) n + 1 ≤ unmet m n := by
  unfold unmet
  have h := nsub_len (l := k :: (List.range n).filter fun j => !setB m k j) (m := (List.range n).filter fun j => !m j) (List.nodup_cons.2 ⟨(fun h => by
    have := (List.mem_filter.1 h).2
    rw [setB_same] at this
    exact absurd this (by decide)), nfilt_nodup List.nodup_range⟩) fun x hx => by
    rcases List.mem_cons.1 hx with rfl | hx
    · exact List.mem_filter.2 ⟨List.mem_range.2 hk, by rw [hm]; rfl⟩
    · obtain ⟨h1, h2⟩ := List.mem_filter.1 hx
      refine List.mem_filter.2 ⟨h1, ?_⟩
      cases hmx : m x with
      | false => rfl
      | true => rw [setB_mono hmx] at h2; cases h2
  rw [List.length_cons] at h
  exact h
theorem unmet_le (m : Nat → Bool) (n : Nat) : unmet m n ≤ n := by
  have := List.length_filter_le (fun k => !m k) (List.range n)
  unfold unmet
  rw [List.length_range] at this
  exact this
/-- Nothing turned but two blocks. -/
structure Two (b1 b2 : Nat) (w w' : World) : Prop where
  os : w'.os = w.os
  tape : w'.tape = w.tape
  output : w'.output = w.output
  size : w'.heap.size = w.heap.size
  block : ∀ k, k ≠ b1 → k ≠ b2 → w'.heap[k]? = w.heap[k]?
theorem Two.refl (b1 b2 : Nat) (w : World) : Two b1 b2 w w := ⟨rfl, rfl, rfl, rfl, fun _ _ _ => rfl⟩
theorem Two.trans {b1 b2 : Nat} {a b c : World} (h : Two b1 b2 a b) (k : Two b1 b2 b c) : Two b1 b2 a c :=
  ⟨k.os.trans h.os, k.tape.trans h.tape, k.output.trans h.output, k.size.trans h.size, fun i h1 h2 => (k.block i h1 h2).trans (h.block i h1 h2)⟩
theorem Two.below {b1 b2 n0 : Nat} {w w' : World} (h : Two b1 b2 w w') (h1 : n0 ≤ b1) (h2 : n0 ≤ b2) : Below n0 w w' :=
  ⟨h.os, h.tape, h.output, Nat.le_of_eq h.size.symm, fun i hi => h.block i (by omega) (by omega)⟩
theorem Two.set1 {b1 b2 k : Nat} (w : World) (v : Value) : Two b1 b2 w (w.setCell ⟨b1, k, none⟩ v) :=
  ⟨rfl, rfl, rfl, by simp [World.setCell], fun i h1 _ => Below.heap_setCell w ⟨b1, k, none⟩ v i h1⟩
theorem Two.set2 {b1 b2 k : Nat} (w : World) (v : Value) : Two b1 b2 w (w.setCell ⟨b2, k, none⟩ v) :=
  ⟨rfl, rfl, rfl, by simp [World.setCell], fun i _ h2 => Below.heap_setCell w ⟨b2, k, none⟩ v i h2⟩
end Go.Proofs.Ytiljpacmkmmlcaa
