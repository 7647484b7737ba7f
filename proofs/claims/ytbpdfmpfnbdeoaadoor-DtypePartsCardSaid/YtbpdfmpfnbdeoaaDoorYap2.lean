/- dtype.varsOf's region 8 as a whole. -/
import Derived.Test.YtbpdfmpfnbdeoaaDoorYap
namespace Go.Proofs.YtbpdfmpfnbdeoaaDoor
open Go.RowKit

def AllAt (S : Nat → Oper → Prop) : Nat → List Oper → Prop
  | _, [] => True
  | k, o :: os => S k o ∧ AllAt S (k + 1) os
theorem AllAt.at {S : Nat → Oper → Prop} : ∀ {os : List Oper} {k i : Nat} {o : Oper}, AllAt S k os → os[i]? = some o → S (k + i) o
  | [], _, _, _, _, h => by simp at h
  | x :: os, k, 0, o, h, hi => by
    have : x = o := by simpa using hi
    subst this
    exact h.1
  | x :: os, k, i + 1, o, h, hi => by
    have := AllAt.at (i := i) h.2 (by simpa using hi)
    rwa [Nat.add_assoc, Nat.add_comm 1 i] at this
theorem d8_ne : ∀ i < 7, ∀ j < 7, j ≠ i → D8 j ≠ D8 i ∨ D8 i = none := by decide
theorem actsL_t {D : Nat → Option Tmp} {l : Array Bool} {val : Nat → Value} {i : Nat} {is : List Nat} {a : Act} (h : l.getD i false = true) : actsL D l val (i :: is) a = actsL D l val is (a.put (D i) (val i)) := by
  show actsL D l val is (if l.getD i false = true then a.put (D i) (val i) else a) = _
  rw [if_pos h]
theorem actsL_nil {D : Nat → Option Tmp} {l : Array Bool} {val : Nat → Value} {a : Act} : actsL D l val [] a = a := rfl
theorem acts8_all {l : Array Bool} {val : Nat → Value} (a : Act) (h : ∀ i, i < 7 → l.getD i false = true) : actsL D8 l val (List.range 7) a = (((((((a.put (some 23) (val 0)).put (some 24) (val 1)).put (some 25) (val 2)).put (some 26) (val 3)).put (some 27) (val 4)).put (some 28) (val 5)).put none (val 6)) := by
  rw [show List.range 7 = [0, 1, 2, 3, 4, 5, 6] by decide]
  refine (actsL_t (h 0 (by decide))).trans ?_
  refine (actsL_t (h 1 (by decide))).trans ?_
  refine (actsL_t (h 2 (by decide))).trans ?_
  refine (actsL_t (h 3 (by decide))).trans ?_
  refine (actsL_t (h 4 (by decide))).trans ?_
  refine (actsL_t (h 5 (by decide))).trans ?_
  refine (actsL_t (h 6 (by decide))).trans ?_
  simp only [show D8 0 = some 23 from rfl, show D8 1 = some 24 from rfl, show D8 2 = some 25 from rfl, show D8 3 = some 26 from rfl, show D8 4 = some 27 from rfl, show D8 5 = some 28 from rfl, show D8 6 = none from rfl]
  exact actsL_nil
theorem flow8 {P : Program} {ops : Array Oper} {Q : Exit → Act → World → Prop} (C : Cv) (ok : CvOk C) (h7 : ops.size = 7) (hdst : ops.toList.map (·.dst) = slots8)
    (hac : (ops.toList.zipIdx.all fun q => q.1.after.all fun e => decide (e.on < q.2)) = true) (hg : (ops.toList.all fun o => o.guard.isNone) = true) (hst : AllAt (St8 P Q C) 0 ops.toList)
    (fin : ∀ (val : Nat → Value) (w : World), w.os = C.W0.os → w.tape = C.W0.tape → w.output = C.W0.output → C.W0.heap.size ≤ w.heap.size → (∀ i, i < C.W0.heap.size → some i ≠ C.lv.ownBlock → i ≠ C.L → w.heap[i]? = C.W0.heap[i]?) →
      w.ownsRow C.nb 9 1 (val 5) (C.k + 1) (C.xs ++ [.string C.s]) → ((val 5).ownBlock = C.lv.ownBlock ∨ ∃ g, (val 5).ownBlock = some g ∧ C.W0.heap.size ≤ g) → Boxed w C.L 34 (val 5) →
      Q .normal (((((((C.a0.put (some 23) (val 0)).put (some 24) (val 1)).put (some 25) (val 2)).put (some 26) (val 3)).put (some 27) (val 4)).put (some 28) (val 5)).put none (val 6)) w) : wpAny P .any ops Q ops.size (Array.replicate ops.size false) C.a0 C.W0 := by
  have hat : ∀ (i : Nat) (o : Oper), ops[i]? = some o → ops.toList[i]? = some o := fun i o h => (Array.getElem?_toList ..).trans h
  have hD : ∀ (i : Nat) (o : Oper), ops[i]? = some o → o.dst = D8 i := by
    intro i o h
    unfold D8
    rw [← hdst, List.getElem?_map, hat i o h]
    rfl
  refine wpAny_flow D8 hD (fun i j hi hj => d8_ne i (by omega) j (by omega)) ?_ ?_ C.a0 (Fv C) ?_ ?_ C.W0 (fun _ => undef) ?_
  · intro i o h e he _
    have hm : (o, i) ∈ ops.toList.zipIdx := List.mem_zipIdx_iff_getElem?.2 (hat i o h)
    have := List.all_eq_true.1 hac _ hm
    have := Array.all_eq_true_iff_forall_mem.1 this e he
    simpa using this
  · intro i o h
    have := List.all_eq_true.1 hg o (List.mem_of_getElem? (hat i o h))
    simpa using this
  · intro l val w i o hF hl ho hf hd A K hA hK
    have := hst.at (hat i o ho)
    rw [Nat.zero_add] at this
    exact this l val w ok hF (by omega) hf hd A K (by rw [hA, h7]) hK
  · intro l val w hF hall
    have hall' : ∀ i, i < 7 → l.getD i false = true := fun i hi => hall i (by omega)
    rw [h7, acts8_all _ hall']
    obtain ⟨h1, h2⟩ := hF.own5 (hall' 5 (by decide))
    exact fin val w hF.os hF.tape hF.output hF.size hF.block h1 h2 (hF.box6 (hall' 6 (by decide)))
  · have hn : ∀ i, (Array.replicate ops.size false).getD i false = false := by
      intro i
      simp [Array.getD_eq_getD_getElem?, Array.getElem?_replicate]
      split <;> simp
    have ab : ∀ {p : Prop} {i : Nat}, (Array.replicate ops.size false).getD i false = true → p := fun {p i} h => by rw [hn] at h; cases h
    exact ⟨rfl, rfl, rfl, Nat.le_refl _, fun _ _ _ _ => rfl, ab, ab, ab, ab, fun h => ab h, ab, ab, ab, ab, ab, fun _ => ok.own, ab, fun _ => ok.hL, ab⟩
theorem flow8' {P : Program} {ops : Array Oper} {Q : Exit → Act → World → Prop} {a0 : Act} {W0 : World} (L Bx nb : Nat) (lv : Value) (k : Nat) (xs : List Value) (s : ByteArray) (ok : CvOk ⟨W0, a0, L, Bx, nb, lv, k, xs, s⟩) (h7 : ops.size = 7) (hdst : ops.toList.map (·.dst) = slots8)
    (hac : (ops.toList.zipIdx.all fun q => q.1.after.all fun e => decide (e.on < q.2)) = true) (hg : (ops.toList.all fun o => o.guard.isNone) = true) (hst : AllAt (St8 P Q ⟨W0, a0, L, Bx, nb, lv, k, xs, s⟩) 0 ops.toList)
    (fin : ∀ (a : Act) (w : World) (v : Value), w.os = W0.os → w.tape = W0.tape → w.output = W0.output → W0.heap.size ≤ w.heap.size → (∀ i, i < W0.heap.size → some i ≠ lv.ownBlock → i ≠ L → w.heap[i]? = W0.heap[i]?) →
      w.ownsRow nb 9 1 v (k + 1) (xs ++ [.string s]) → (v.ownBlock = lv.ownBlock ∨ ∃ g, v.ownBlock = some g ∧ W0.heap.size ≤ g) → Boxed w L 34 v → Q .normal a w) : wpAny P .any ops Q ops.size (Array.replicate ops.size false) a0 W0 :=
  flow8 ⟨W0, a0, L, Bx, nb, lv, k, xs, s⟩ ok h7 hdst hac hg hst fun val w h1 h2 h3 h4 h5 h6 h8 h9 => fin _ w (val 5) h1 h2 h3 h4 h5 h6 h8 h9
end Go.Proofs.YtbpdfmpfnbdeoaaDoor
