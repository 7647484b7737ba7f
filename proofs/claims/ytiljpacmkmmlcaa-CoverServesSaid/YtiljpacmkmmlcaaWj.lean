/- cover.pileUp: what stands between two tops, and while one searches. -/
import Derived.Test.YtiljpacmkmmlcaaWh
import Derived.Test.YtiljpacmkmmlcaaWi
import Derived.Test.YtiljpacmkmmlcaaOq
import Derived.Test.YtiljpacmkmmlcaaKb
import Derived.Deep.LoopGhost
set_option linter.unusedSimpArgs false
set_option linter.unusedVariables false
namespace Go.Proofs.Ytiljpacmkmmlcaa
open Go.RowKit Go.Shelf

theorem keepsK {B : Nat} {T : Nat → Prop} {W W' : World} (h : Kp T W W') (hT : ∀ b, T b → b < B) : KeepsFrom B W W' :=
  ⟨h.size, fun k o hB hk _ => (h.block k (heapLt hk) (fun ht => by have := hT k ht; omega)).trans hk⟩
theorem mu_below {P : Program} {w w' : World} {kT eT : TypeId} {B n : Nat} {f : Nat → Option Nat} (h : MapU P w kT eT B n f) (hb : Below w.heap.size w w') : MapU P w' kT eT B n f := h.below hb h.lt
theorem mu_put {P : Program} {w w' : World} {kT eT : TypeId} {B n N : Nat} {f : Nat → Option Nat} (h : MapU P w kT eT B n f) (hp : Put N w w') (hN : B < N) : MapU P w' kT eT B n f := by
  obtain ⟨l, o, o', q1, q2, q3, q4, rfl⟩ := hp
  exact h.same (World.putObj_heap_other (by omega))
/-- What the maps say behind the first j tops. -/
def PuS (ms : List Nat) (Ma Mb j : Nat) (W : World) : Prop :=
  ∃ (B bel : Bh) (K : Nat → Prop) (U : List Nat) (f g : Nat → Option Nat) (ca cb : Nat), KuS ms.length (RM ms) B K U j ∧ Inv B (fun _ => False) bel ∧ AB ms f B ∧ AB ms g bel ∧ MapU Try.prog W 54 54 Ma ca f ∧ MapU Try.prog W 54 54 Mb cb g ∧ ca ≤ 100 * j ∧ cb ≤ 100 * j
structure PuI (w : World) (sv : Value) (ms : List Nat) (n0 j : Nat) (W : World) : Prop where
  g : OnG w sv (n0 + 5) W
  b1 : W.heap[n0]? = some (.cells #[sv] 44 (0, 0))
  b2 : W.heap[n0 + 1]? = some (.cells #[.map none, .map none] 60 (0, 0))
  b3 : W.heap[n0 + 4]? = some (.cells #[.map (some (n0 + 2)), .map (some (n0 + 3))] 60 (0, 0))
  st : PuS ms (n0 + 2) (n0 + 3) j W
  le : j ≤ ms.length
section
variable {w : World} {sv : Value} {ms : List Nat} {n0 j : Nat} {W W' : World}
theorem PuS.below {Ma Mb : Nat} (h : PuS ms Ma Mb j W) (hb : Below W.heap.size W W') : PuS ms Ma Mb j W' := by
  obtain ⟨B, bel, K, U, f, g, ca, cb, h1, h2, h3, h4, h5, h6, h7⟩ := h
  exact ⟨B, bel, K, U, f, g, ca, cb, h1, h2, h3, h4, mu_below h5 hb, mu_below h6 hb, h7⟩
theorem PuI.below (h : PuI w sv ms n0 j W) (hb : Below W.heap.size W W') : PuI w sv ms n0 j W' :=
  ⟨h.g.below hb, (hb.block _ (heapLt h.b1)).trans h.b1, (hb.block _ (heapLt h.b2)).trans h.b2, (hb.block _ (heapLt h.b3)).trans h.b3, h.st.below hb, h.le⟩
theorem PuI.put {N : Nat} (h : PuI w sv ms n0 j W) (hp : Put N W W') (hN : n0 + 6 ≤ N) (hw : w.heap.size ≤ n0) : PuI w sv ms n0 j W' := by
  obtain ⟨B, bel, K, U, f, g, ca, cb, h1, h2, h3, h4, h5, h6, h7⟩ := h.st
  exact ⟨h.g.put hp (by omega), put_block hp h.b1 (.inl rfl), put_block hp h.b2 (.inl rfl), put_block hp h.b3 (.inl rfl), ⟨B, bel, K, U, f, g, ca, cb, h1, h2, h3, h4, mu_put h5 hp (by omega), mu_put h6 hp (by omega), h7⟩, h.le⟩
/-- Behind a way back. -/
theorem PuI.moved (h : PuI w sv ms n0 j W) {j' : Nat} (hk : Kp (fun b => b = n0 + 2 ∨ b = n0 + 3) W W') (hs : PuS ms (n0 + 2) (n0 + 3) j' W') (hj : j' ≤ ms.length) (hw : w.heap.size ≤ n0) : PuI w sv ms n0 j' W' := by
  have k1 : ∀ i o, W.heap[i]? = some o → i ≠ n0 + 2 → i ≠ n0 + 3 → W'.heap[i]? = some o := fun i o hi h2 h3 => (hk.block i (heapLt hi) (by omega)).trans hi
  have hb := h.g.b
  exact ⟨⟨⟨hk.os.trans hb.os, hk.tape.trans hb.tape, hk.output.trans hb.output, Nat.le_trans hb.size hk.size, fun i hi => (hk.block i (Nat.lt_of_lt_of_le hi hb.size) (by omega)).trans (hb.block i hi)⟩, k1 _ _ h.g.one (by omega) (by omega)⟩, k1 _ _ h.b1 (by omega) (by omega), k1 _ _ h.b2 (by omega) (by omega), k1 _ _ h.b3 (by omega) (by omega), hs, hj⟩
end
/-- While one searches from top j on: k rounds are left at most. -/
def BfI (ms : List Nat) (B : Bh) (j Mk : Nat) (W0 : World) (lv : Value) (k : Nat) (W : World) : Prop :=
  ∃ (A : List Nat) (par : Nat → Nat) (d c : Nat) (h : Nat → Option Nat), k = ms.length - d ∧ AskI ms.length (RM ms) B j A par d ∧ OwnQ W W0.heap.size 54 lv (mvL ((A.drop d).map (VL ms))) ∧ MapU Try.prog W 54 54 Mk c h ∧ c ≤ 60 * (d + 1) ∧ (∀ i, i < ms.length → h (VL ms i) = if i ∈ A then some (VL ms (par i)) else none) ∧ Below W0.heap.size W0 W
theorem ms_range (ms : List Nat) : ms = (List.range ms.length).map (VL ms) := by
  apply List.ext_getElem?
  intro i
  rw [List.getElem?_map]
  by_cases hi : i < ms.length
  · rw [VL_at hi, List.getElem?_range hi]; rfl
  · rw [List.getElem?_eq_none (by omega), List.getElem?_eq_none (by rw [List.length_range]; omega)]; rfl
theorem news_more {ms A : List Nat} {m : Nat} {h : Nat → Option Nat} {par : Nat → Nat} (hh : ∀ i, i < ms.length → h (VL ms i) = if i ∈ A then some (VL ms (par i)) else none) : newsL ms (VL ms m) h = (moreA ms A m).map (VL ms) := by
  have e : newsL ms (VL ms m) h = newsL ((List.range ms.length).map (VL ms)) (VL ms m) h := congrArg (fun l => newsL l (VL ms m) h) (ms_range ms)
  rw [e]
  unfold newsL moreA
  rw [List.filter_map]
  congr 1
  apply List.filter_congr
  intro k hk
  have hk := List.mem_range.1 hk
  show (belowN (VL ms k) (VL ms m) && (h (VL ms k)).isNone) = _
  rw [hh k hk]
  by_cases hA : k ∈ A
  · rw [if_pos hA]; simp [hA]
  · rw [if_neg hA]; simp [hA]; rfl
theorem asked_more {ms A : List Nat} {m : Nat} {h : Nat → Option Nat} {par : Nat → Nat} (hn : ms.Nodup) (hh : ∀ i, i < ms.length → h (VL ms i) = if i ∈ A then some (VL ms (par i)) else none) :
    ∀ i, i < ms.length → askF h ((moreA ms A m).map (VL ms)) (VL ms m) (VL ms i) = if i ∈ A ++ moreA ms A m then some (VL ms (parU par (moreA ms A m) m i)) else none := by
  intro i hi
  have hmem : VL ms i ∈ (moreA ms A m).map (VL ms) ↔ i ∈ moreA ms A m := by
    constructor
    · intro h
      obtain ⟨k, hk, e⟩ := List.mem_map.1 h
      rw [← VL_inj hn (more_mem.1 hk).1 hi e]
      exact hk
    · exact fun h => List.mem_map.2 ⟨i, h, rfl⟩
  unfold askF parU
  by_cases h1 : i ∈ moreA ms A m
  · rw [if_pos (hmem.2 h1), if_pos (List.mem_append_right _ h1), if_pos h1]
  · rw [if_neg (fun h => h1 (hmem.1 h)), hh i hi, if_neg h1]
    by_cases h2 : i ∈ A
    · rw [if_pos h2, if_pos (List.mem_append_left _ h2)]
    · rw [if_neg h2, if_neg (fun h => (List.mem_append.1 h).elim h2 h1)]
end Go.Proofs.Ytiljpacmkmmlcaa
