/- A drawn region that makes memory alone, some operations under a guard: each operation once, whatever the order. -/
import Derived.Test.YtiljpacmkmmlcaaFlow
set_option linter.unusedSimpArgs false
set_option linter.unusedVariables false
namespace Go.Proofs.Ytiljpacmkmmlcaa
open Go.RowKit

section
variable {P : Program} {ops : Array Oper} {Q : Exit → Act → World → Prop} {md : Region.Mode}
/-- .. with the frame as it has come about. -/
theorem wpAny_flowG (D : Nat → Option Tmp) (hD : ∀ (i : Nat) (o : Oper), ops[i]? = some o → o.dst = D i) (hne : ∀ i j, i < ops.size → j < ops.size → j ≠ i → D j ≠ D i ∨ D i = none)
    (hac : ∀ (i : Nat) (o : Oper), ops[i]? = some o → ∀ e ∈ o.after, Region.binds md e = true → e.on < i) (a0 : Act) (F : Array Bool → (Nat → Value) → World → Prop)
    (step : ∀ l val w i o, F l val w → l.size = ops.size → ops[i]? = some o → l.getD i false = false → (∀ e ∈ o.after, Region.binds md e = true → l.getD e.on false = true) →
      ∀ (A : Act) (K : Act → World → Prop), A = actsL D l val (List.range ops.size) a0 → (∀ v w', F (l.setIfInBounds i true) (updV val i v) w' → K (A.put o.dst v) w') → if Region.wanted o (yielded ops A.tmps) = true then o.wp P A w K Q else K (A.put o.dst undef) w)
    (fin : ∀ l val w, F l val w → (∀ i, i < ops.size → l.getD i false = true) → Q .normal (actsL D l val (List.range ops.size) a0) w)
    (w : World) (val : Nat → Value) (start : F (Array.replicate ops.size false) val w) : wpAny P md ops Q ops.size (Array.replicate ops.size false) a0 w := by
  refine wpAny_inv (fun l a w => ∃ val, a = actsL D l val (List.range ops.size) a0 ∧ F l val w) hac ?_ ?_ _ _ _ _ ⟨val, ?_, start⟩ (by simp) ?_
  · rintro l a w i o ⟨val, rfl, hF⟩ hs ho hf hd
    have hi : i < ops.size := (Array.getElem?_eq_some_iff.1 ho).1
    have hf' : l.getD i false = false := by
      have hx : l[i]? = some l[i] := Array.getElem?_eq_getElem (by omega)
      simp only [Array.getD_eq_getD_getElem?, hx, Option.getD_some] at hf ⊢
      exact hf
    refine wpOp_step ho fun K' hK' => ?_
    refine step l val w i o hF hs ho hf' hd _ K' rfl fun v w' hF' => hK' _ _ ⟨updV val i v, ?_, hF'⟩
    rw [hD i o ho]
    exact actsL_set hf' (by omega) _ _ List.nodup_range (List.mem_range.2 hi) fun j hj hji => hne i j hi (List.mem_range.1 hj) hji
  · rintro l a w ⟨val, rfl, hF⟩ hall
    exact fin l val w hF hall
  · have : ∀ is : List Nat, ∀ a, actsL D (Array.replicate ops.size false) val is a = a := by
      intro is
      induction is with
      | nil => intro a; rfl
      | cons i is ih =>
        intro a
        unfold actsL
        rw [if_neg (by simp [Array.getD_eq_getD_getElem?, Array.getElem?_replicate]; split <;> simp), ih]
    rw [this]
  · unfold cntF
    exact Nat.le_trans List.count_le_length (by simp)
end
/-- What is asked of one operation that may stand under a guard. -/
def GStepG (P : Program) (ops : Array Oper) (Q : Exit → Act → World → Prop) (slots : List (Option Tmp)) (Rs : List (Value → World → Prop)) (a0 : Act) (w0 : World) (i : Nat) (o : Oper) : Prop :=
  ∀ (A : Act) (w : World) (K : Act → World → Prop), Below w0.heap.size w0 w → (∀ s, (some s) ∉ slots → A.tmps[s]?.getD undef = a0.tmps[s]?.getD undef) →
    (∀ j s, slots[j]? = some (some s) → depG o j = true → factG Rs j (A.tmps[s]?.getD undef) w) → (∀ v w', Below w.heap.size w w' → factG Rs i v w' → K (A.put o.dst v) w') →
    if Region.wanted o (yielded ops A.tmps) = true then o.wp P A w K Q else K (A.put o.dst undef) w
theorem gs_plain {P : Program} {ops : Array Oper} {Q : Exit → Act → World → Prop} {slots : List (Option Tmp)} {Rs : List (Value → World → Prop)} {a0 : Act} {w0 : World} {i : Nat} {o : Oper} (hg : o.guard = none) (h : GStep P Q slots Rs a0 w0 i o) : GStepG P ops Q slots Rs a0 w0 i o := by
  intro A w K hb hfar hd hK
  rw [if_pos (by simp [Region.wanted, hg])]
  exact h A w K hb hfar hd hK
/-- Under a guard that is met or not, as c says. -/
theorem gs_guard {P : Program} {ops : Array Oper} {Q : Exit → Act → World → Prop} {slots : List (Option Tmp)} {Rs : List (Value → World → Prop)} {a0 : Act} {w0 : World} {i : Nat} {o : Oper} (g s : Nat) (b c : Bool) (hg : o.guard = some (g, b)) (hs : (ops[g]?).bind (·.dst) = some s) (hs2 : slots[g]? = some (some s)) (hdp : depG o g = true)
    (hf : ∀ v w, factG Rs g v w → v = .bool c) (h : c = b → GStep P Q slots Rs a0 w0 i o) (hn : c ≠ b → ∀ v w, factG Rs i v w) : GStepG P ops Q slots Rs a0 w0 i o := by
  intro A w K hb hfar hd hK
  have e1 := hf _ _ (hd g s hs2 hdp)
  have e2 : A.tmps[s]? = some (.bool c) := by
    cases hx : A.tmps[s]? with
    | none => rw [hx] at e1; cases e1
    | some v => rw [hx] at e1; exact congrArg some e1
  have hy : yielded ops A.tmps g = some c := by
    unfold yielded
    rw [hs]
    show (match A.tmps[s]? with | some (.bool b) => some b | _ => none) = some c
    rw [e2]
  by_cases hcb : c = b
  · rw [if_pos (by unfold Region.wanted; rw [hg]; show (yielded ops A.tmps g == some b) = true; rw [hy, hcb]; simp)]
    exact h hcb A w K hb hfar hd hK
  · rw [if_neg (by unfold Region.wanted; rw [hg]; show ¬ (yielded ops A.tmps g == some b) = true; rw [hy]; simpa using hcb)]
    exact hK _ _ (Below.refl _ _) (hn hcb _ _)
theorem wpAny_growG {P : Program} {ops : Array Oper} {Q : Exit → Act → World → Prop} (slots : List (Option Tmp)) (a0 : Act) (w0 : World) (Rs : List (Value → World → Prop)) (hdst : ops.toList.map (·.dst) = slots) (hok : slotsOk slots = true)
    (hac : (ops.toList.zipIdx.all fun q => q.1.after.all fun e => !Region.binds .any e || decide (e.on < q.2)) = true)
    (hsz : (slots.all fun d => match d with | none => true | some s => decide (s < a0.tmps.size)) = true)
    (mono : ∀ p ∈ Rs, ∀ v w w', p v w → Below w.heap.size w w' → p v w') (hst : AllG (GStepG P ops Q slots Rs a0 w0) 0 ops.toList)
    (fin : ∀ (val : Nat → Value) (w : World), (∀ j s, slots[j]? = some (some s) → factG Rs j (val j) w) → Below w0.heap.size w0 w → Q .normal (putsA slots val 0 a0) w) : wpAny P .any ops Q ops.size (Array.replicate ops.size false) a0 w0 := by
  have hat : ∀ (i : Nat) (o : Oper), ops[i]? = some o → ops.toList[i]? = some o := fun i o h => (Array.getElem?_toList ..).trans h
  have hlen : slots.length = ops.size := by rw [← hdst]; simp
  have hD : ∀ (i : Nat) (o : Oper), ops[i]? = some o → o.dst = slotG slots i := by
    intro i o h
    unfold slotG
    rw [← hdst, List.getElem?_map, hat i o h]
    rfl
  have hS : ∀ (i : Nat), i < ops.size → slots[i]? = some (slotG slots i) := by
    intro i hi
    unfold slotG
    rw [List.getElem?_eq_getElem (by omega)]
    rfl
  have hne : ∀ i j, i < ops.size → j < ops.size → j ≠ i → slotG slots j ≠ slotG slots i ∨ slotG slots i = none := by
    intro i j hi hj hji
    unfold slotsOk at hok
    have h1 := List.all_eq_true.1 hok i (List.mem_range.2 (by omega))
    have h2 := List.all_eq_true.1 h1 j (List.mem_range.2 (by omega))
    simp only [Bool.or_eq_true, decide_eq_true_eq, beq_iff_eq, Option.isNone_iff_eq_none] at h2
    rcases h2 with (h2 | h2) | h2
    · exact absurd h2 hji
    · exact .inl h2
    · exact .inr h2
  have hlt : ∀ (j : Nat) (s : Tmp), slots[j]? = some (some s) → s < a0.tmps.size := fun j s h => by
    have := List.all_eq_true.1 hsz _ (List.mem_of_getElem? h)
    simpa using this
  refine wpAny_flowG (slotG slots) hD hne ?_ a0 (fun l val w => Below w0.heap.size w0 w ∧ ∀ j s, slots[j]? = some (some s) → l.getD j false = true → factG Rs j (val j) w) ?_ ?_ w0 (fun _ => undef) ⟨Below.refl _ _, ?_⟩
  · intro i o h e he hbn
    have hm : (o, i) ∈ ops.toList.zipIdx := List.mem_zipIdx_iff_getElem?.2 (hat i o h)
    have := List.all_eq_true.1 hac _ hm
    have := Array.all_eq_true_iff_forall_mem.1 this e he
    rw [hbn] at this
    simpa using this
  · rintro l val w i o ⟨hb, hF⟩ hl ho hf hd A K hA hK
    have hs := hst.at (hat i o ho)
    rw [Nat.zero_add] at hs
    have hi : i < ops.size := (Array.getElem?_eq_some_iff.1 ho).1
    have ev : ∀ (B : Act) (s : Tmp), B.tmps[s]?.getD undef = B.eval (.tmp s) := fun B s => by rw [← Array.getD_eq_getD_getElem?]; rfl
    refine hs A w K hb ?_ ?_ ?_
    · intro s hs
      rw [ev, ev, hA]
      refine actsL_far _ _ fun j hj e => hs ?_
      rw [← e]
      exact List.mem_of_getElem? (hS j (List.mem_range.1 hj))
    · intro j s hj hdep
      have hjl := depG_of hdep hd
      have hjs : j < ops.size := by rw [← hlen]; exact (List.getElem?_eq_some_iff.1 hj).1
      have hsl : slotG slots j = some s := by unfold slotG; rw [hj]; rfl
      rw [ev, hA, actsL_eval hjl hsl _ _ (List.mem_range.2 hjs) List.nodup_range (fun k hk hkj e => ?_) (hlt j s hj)]
      · exact hF j s hj hjl
      · rcases hne j k hjs (List.mem_range.1 hk) hkj with h | h
        · exact h (e.trans hsl.symm)
        · rw [hsl] at h; cases h
    · intro v w' hb' hR
      refine hK v w' ⟨hb.trans (hb'.mono hb.size), fun j s hj hjl => ?_⟩
      by_cases e : j = i
      · subst e; rw [updV_same]; exact hR
      · rw [getD_set e] at hjl
        rw [updV_other _ _ e]
        exact fun p hp => mono p (List.mem_of_getElem? hp) _ _ _ (hF j s hj hjl p hp) hb'
  · rintro l val w ⟨hb, hF⟩ hall
    have h1 : ∀ i, i < slots.length → slots[i]? = some (slotG slots (0 + i)) := fun i hi => by rw [Nat.zero_add]; exact hS i (by omega)
    have h2 : ∀ i, i < slots.length → l.getD (0 + i) false = true := fun i hi => by rw [Nat.zero_add]; exact hall i (by omega)
    have e : (List.range slots.length).map (0 + ·) = List.range ops.size := by rw [hlen]; simp
    have := puts_all (D := slotG slots) (l := l) (val := val) slots 0 a0 h1 h2
    rw [e] at this
    rw [this]
    exact fin val w (fun j s hj => hF j s hj (hall j (by rw [← hlen]; exact (List.getElem?_eq_some_iff.1 hj).1))) hb
  · intro j s hj h
    exfalso
    have : (Array.replicate ops.size false).getD j false = false := by
      simp [Array.getD_eq_getD_getElem?, Array.getElem?_replicate]
      split <;> simp
    rw [this] at h
    cases h
end Go.Proofs.Ytiljpacmkmmlcaa
