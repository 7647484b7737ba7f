/- A region that draws its order: each operation once, under a word on what has run. -/
import Derived.Test.YtphmiifochjemaaFlow
import Derived.Test.YtphmiifochjemaaRng
namespace Go.Proofs.Ytphmiifochjemaa
open Go.RowKit

/-- What is asked of one operation. -/
def FStep (P : Program) (Q : Exit → Act → World → Prop) (slots : List (Option Tmp)) (a0 : Act) (F : Array Bool → (Nat → Value) → World → Prop) (n i : Nat) (o : Oper) : Prop :=
  ∀ (l : Array Bool) (val : Nat → Value) (A : Act) (w : World) (K : Act → World → Prop), l.size = n → l.getD i false = false → (∀ j, depG o j = true → l.getD j false = true) → F l val w →
    (∀ s, (some s) ∉ slots → A.tmps[s]?.getD undef = a0.tmps[s]?.getD undef) → (∀ j s, slots[j]? = some (some s) → depG o j = true → A.tmps[s]?.getD undef = val j) →
    (∀ v w', F (l.setIfInBounds i true) (updV val i v) w' → K (A.put o.dst v) w') → o.wp P A w K Q
theorem wpAny_say {P : Program} {ops : Array Oper} {Q : Exit → Act → World → Prop} (slots : List (Option Tmp)) (a0 : Act) (w0 : World) (F : Array Bool → (Nat → Value) → World → Prop) (hdst : ops.toList.map (·.dst) = slots) (hok : slotsOk slots = true)
    (hac : (ops.toList.zipIdx.all fun q => q.1.after.all fun e => !Region.binds .any e || decide (e.on < q.2)) = true) (hg : (ops.toList.all fun o => o.guard.isNone) = true)
    (hsz : (slots.all fun d => match d with | none => true | some s => decide (s < a0.tmps.size)) = true)
    (hst : AllG (FStep P Q slots a0 F ops.size) 0 ops.toList) (start : F (Array.replicate ops.size false) (fun _ => undef) w0)
    (fin : ∀ (l : Array Bool) (val : Nat → Value) (w : World), (∀ i, i < ops.size → l.getD i false = true) → F l val w → Q .normal (putsA slots val 0 a0) w) : wpAny P .any ops Q ops.size (Array.replicate ops.size false) a0 w0 := by
  have hat : ∀ (i : Nat) (o : Oper), ops[i]? = some o → ops.toList[i]? = some o := fun i o h => (Array.getElem?_toList ..).trans h
  have hlen : slots.length = ops.size := by rw [← hdst]; simp
  have hD : ∀ (i : Nat) (o : Oper), ops[i]? = some o → o.dst = slotG slots i := by
    intro i o h
    unfold slotG
    rw [← hdst, List.getElem?_map, hat i o h]
    rfl
  have hS : ∀ (i : Nat), i < ops.size → slots[i]? = some (slotG slots i) := by
    intro i hi
    unfold slotG
    rw [List.getElem?_eq_getElem (by omega)]
    rfl
  have hne : ∀ i j, i < ops.size → j < ops.size → j ≠ i → slotG slots j ≠ slotG slots i ∨ slotG slots i = none := by
    intro i j hi hj hji
    unfold slotsOk at hok
    have h1 := List.all_eq_true.1 hok i (List.mem_range.2 (by omega))
    have h2 := List.all_eq_true.1 h1 j (List.mem_range.2 (by omega))
    simp only [Bool.or_eq_true, decide_eq_true_eq, beq_iff_eq, Option.isNone_iff_eq_none] at h2
    rcases h2 with (h2 | h2) | h2
    · exact absurd h2 hji
    · exact .inl h2
    · exact .inr h2
  have hlt : ∀ (j : Nat) (s : Tmp), slots[j]? = some (some s) → s < a0.tmps.size := fun j s h => by
    have := List.all_eq_true.1 hsz _ (List.mem_of_getElem? h)
    simpa using this
  refine wpAny_flow (slotG slots) hD hne ?_ ?_ a0 F ?_ ?_ w0 (fun _ => undef) start
  · intro i o h e he hbn
    have hm : (o, i) ∈ ops.toList.zipIdx := List.mem_zipIdx_iff_getElem?.2 (hat i o h)
    have := List.all_eq_true.1 hac _ hm
    have := Array.all_eq_true_iff_forall_mem.1 this e he
    rw [hbn] at this
    simpa using this
  · intro i o h
    have := List.all_eq_true.1 hg o (List.mem_of_getElem? (hat i o h))
    simpa using this
  · rintro l val w i o hF hl ho hf hd A K hA hK
    have hs := hst.at (hat i o ho)
    rw [Nat.zero_add] at hs
    have ev : ∀ (B : Act) (s : Tmp), B.tmps[s]?.getD undef = B.eval (.tmp s) := fun B s => by rw [← Array.getD_eq_getD_getElem?]; rfl
    refine hs l val A w K hl hf (fun j h => depG_of h hd) hF ?_ ?_ hK
    · intro s hs
      rw [ev, ev, hA]
      refine actsL_far _ _ fun j hj e => hs ?_
      rw [← e]
      exact List.mem_of_getElem? (hS j (List.mem_range.1 hj))
    · intro j s hj hdep
      have hjl := depG_of hdep hd
      have hjs : j < ops.size := by rw [← hlen]; exact (List.getElem?_eq_some_iff.1 hj).1
      have hsl : slotG slots j = some s := by unfold slotG; rw [hj]; rfl
      rw [ev, hA, actsL_eval hjl hsl _ _ (List.mem_range.2 hjs) List.nodup_range (fun k hk hkj e => ?_) (hlt j s hj)]
      rcases hne j k hjs (List.mem_range.1 hk) hkj with h | h
      · exact h (e.trans hsl.symm)
      · rw [hsl] at h; cases h
  · rintro l val w hF hall
    have h1 : ∀ i, i < slots.length → slots[i]? = some (slotG slots (0 + i)) := fun i hi => by rw [Nat.zero_add]; exact hS i (by omega)
    have h2 : ∀ i, i < slots.length → l.getD (0 + i) false = true := fun i hi => by rw [Nat.zero_add]; exact hall i (by omega)
    have e : (List.range slots.length).map (0 + ·) = List.range ops.size := by rw [hlen]; simp
    have := puts_all (D := slotG slots) (l := l) (val := val) slots 0 a0 h1 h2
    rw [e] at this
    rw [this]
    exact fin l val w hall hF
def factK (Cs : List (Value → Prop)) (j : Nat) (v : Value) : Prop := ∀ p, Cs[j]? = some p → p v
/-- What has run holds what it should; a box made in the region (operation ia), written by another one (is), holds b0 first and b1 then. -/
structure SayB (w0 : World) (Cs : List (Value → Prop)) (ia is : Nat) (T : TypeId) (b0 b1 : Array Value) (l : Array Bool) (val : Nat → Value) (w : World) : Prop where
  b : Below w0.heap.size w0 w
  c : l.getD is false = true → l.getD ia false = true
  f : ∀ j, l.getD j false = true → factK Cs j (val j)
  box : l.getD ia false = true → ∃ z, val ia = .pointer (some ⟨z, 0, none⟩) ∧ w0.heap.size ≤ z ∧ w.heap[z]? = some (.cells (if l.getD is false = true then b1 else b0) T (0, 0))
section
variable {w0 w w' : World} {Cs : List (Value → Prop)} {ia is : Nat} {T : TypeId} {b0 b1 : Array Value} {l : Array Bool} {val : Nat → Value} {i : Nat} {v : Value}
theorem SayB.start {n : Nat} : SayB w0 Cs ia is T b0 b1 (Array.replicate n false) val w0 := by
  have rep : ∀ j, (Array.replicate n false).getD j false = false := by
    intro j
    simp [Array.getD_eq_getD_getElem?, Array.getElem?_replicate]
    split <;> simp
  exact ⟨Below.refl _ _, fun h => (by rw [rep] at h; cases h), fun j h => (by rw [rep] at h; cases h), fun h => (by rw [rep] at h; cases h)⟩
theorem SayB.grow (h : SayB w0 Cs ia is T b0 b1 l val w) (hia : i ≠ ia) (his : i ≠ is) (hC : factK Cs i v) (hb : Below w.heap.size w w') : SayB w0 Cs ia is T b0 b1 (l.setIfInBounds i true) (updV val i v) w' := by
  refine ⟨h.b.trans (hb.mono h.b.size), fun hh => (by rw [getD_set (Ne.symm his)] at hh; rw [getD_set (Ne.symm hia)]; exact h.c hh), fun j hj => ?_, fun hl => ?_⟩
  · by_cases e : j = i
    · subst e; rw [updV_same]; exact hC
    · rw [getD_set e] at hj; rw [updV_other _ _ e]; exact h.f j hj
  · rw [getD_set (Ne.symm hia)] at hl
    obtain ⟨z, h1, h2, h3⟩ := h.box hl
    refine ⟨z, by rw [updV_other _ _ (Ne.symm hia)]; exact h1, h2, ?_⟩
    rw [getD_set (Ne.symm his)]
    exact (hb.block _ (Array.getElem?_eq_some_iff.1 h3).1).trans h3
theorem SayB.read (h : SayB w0 Cs ia is T b0 b1 l val w) (hia : i ≠ ia) (his : i ≠ is) (hC : factK Cs i v) : SayB w0 Cs ia is T b0 b1 (l.setIfInBounds i true) (updV val i v) w := h.grow hia his hC (Below.refl _ _)
theorem SayB.made (h : SayB w0 Cs ia is T b0 b1 l val w) (hne : ia ≠ is) (hn : l.getD ia false = false) (hlt : ia < l.size) (hC : factK Cs ia (.pointer (some ⟨w.heap.size, 0, none⟩))) : SayB w0 Cs ia is T b0 b1 (l.setIfInBounds ia true) (updV val ia (.pointer (some ⟨w.heap.size, 0, none⟩))) (w.alloc (.cells b0 T)) := by
  have hs : l.getD is false = false := by
    cases hh : l.getD is false with
    | false => rfl
    | true => rw [h.c hh] at hn; cases hn
  refine ⟨h.b.alloc h.b.size _, fun _ => getD_same hlt, fun j hj => ?_, fun _ => ?_⟩
  · by_cases e : j = ia
    · subst e; rw [updV_same]; exact hC
    · rw [getD_set e] at hj; rw [updV_other _ _ e]; exact h.f j hj
  · exact ⟨w.heap.size, updV_same _ _ _, h.b.size, by rw [getD_set (Ne.symm hne), if_neg (by rw [hs]; simp)]; exact World.alloc_heap_new w _⟩
theorem SayB.wrote (h : SayB w0 Cs ia is T b0 b1 l val w) (hne : ia ≠ is) (hia : l.getD ia false = true) (hlt : is < l.size) (hC : factK Cs is v) (hw : ∀ z, val ia = .pointer (some ⟨z, 0, none⟩) → w0.heap.size ≤ z → w.grownBy w' (some z) ∧ w'.heap[z]? = some (.cells b1 T (0, 0))) : SayB w0 Cs ia is T b0 b1 (l.setIfInBounds is true) (updV val is v) w' := by
  obtain ⟨z, h1, h2, _⟩ := h.box hia
  obtain ⟨hg, hr⟩ := hw z h1 h2
  refine ⟨h.b.grown hg h.b.size (fun k hk => by cases hk; exact h2), fun _ => (by rw [getD_set hne]; exact hia), fun j hj => ?_, fun _ => ⟨z, by rw [updV_other _ _ hne]; exact h1, h2, by rw [getD_same hlt, if_pos rfl]; exact hr⟩⟩
  by_cases e : j = is
  · subst e; rw [updV_same]; exact hC
  · rw [getD_set e] at hj; rw [updV_other _ _ e]; exact h.f j hj
end
end Go.Proofs.Ytphmiifochjemaa
