/- Turning a new slice of one or two bytes into a text. A region that draws its order and writes memory: one step for each operation, whatever the order. A region that draws its order and makes memory alone: each operation once, whatever the order. Lists of bytes cut at a byte: what strings.Split, Cut, Count and Index make of them. No program here. rel.Sort, and where its rows' heads lie. errors.Is at the one sentinel of package text: with the sentinel itself it answers true, with nil false; for every world. text.IsName and soritesref01.IsName answer the same for every text: both what nameB says of its bytes. soritesref01.Letter, Digit. soritesref01.IsName answers what nameB says of a text. soritesref08.Sort, Add, Has, Union, Minus. -/
import Derived.Test.YthhepmddcncjoaaGreatDoorChecked
import Derived.WalkKit
import Derived.WalkLawsBesides
import Derived.Laws.BytesString
import Derived.RegionTactic
import Derived.OwnWalk
import Derived.Below
import Derived.Lib.Split
import Derived.Lib.Walk
import Derived.Lib.IndexMore
import Derived.Lib.Strings
import Derived.Test.YthhepmddcncjoaaGreatDoorKPsp
import Derived.LaidEql
import Derived.RowKitTokens
import Derived.Laws.RangeAny
import Derived.Lib.Hide
import Derived.Test.YthhepmddcncjoaaGreatDoorKPri
set_option linter.unusedSimpArgs false
set_option linter.unusedVariables false
namespace Go.Proofs.YthhepmddcncjoaaGreatDoor
open Go.RowKit

theorem conv1 (W : World) (n : Int) : (convert 77 9 (.slice (some ⟨W.heap.size, 0, none⟩) 1 1)).run Tryz.prog (W.alloc (.cells #[.int .u8 n] 5)) = .ok (.string ⟨#[UInt8.ofNat n.toNat]⟩) (W.alloc (.cells #[.int .u8 n] 5)) := by
  rw [run_convert_bytes_string _ 77 9 5 _ _ _ Tryz.underlying77 Tryz.underlying5 Tryz.underlying9]
  rw [run_bytesToString _ _ 1 1 [n] (by go_simp)]
  rfl
theorem conv2 (W : World) (n m : Int) : (convert 77 9 (.slice (some ⟨W.heap.size, 0, none⟩) 2 2)).run Tryz.prog (W.alloc (.cells #[.int .u8 n, .int .u8 m] 5)) = .ok (.string ⟨#[UInt8.ofNat n.toNat, UInt8.ofNat m.toNat]⟩) (W.alloc (.cells #[.int .u8 n, .int .u8 m] 5)) := by
  rw [run_convert_bytes_string _ 77 9 5 _ _ _ Tryz.underlying77 Tryz.underlying5 Tryz.underlying9]
  rw [run_bytesToString _ _ 2 2 [n, m] (by go_simp)]
  rfl
end Go.Proofs.YthhepmddcncjoaaGreatDoor
namespace Go.Proofs.YthhepmddcncjoaaGreatDoor
open Go.RowKit

theorem putA_comm (a : Act) {d d' : Option Tmp} (v v' : Value) (h : d ≠ d' ∨ d = none) : (a.put d v).put d' v' = (a.put d' v').put d v := by
  cases d with
  | none => rfl
  | some s =>
    cases d' with
    | none => rfl
    | some t =>
      have hne : s ≠ t := by
        intro e
        rcases h with h | h
        · exact h (by rw [e])
        · cases h
      simp only [Act.put, Array.setIfInBounds_comm _ _ hne]
/-- The frame when some operations have run: their slots hold what val says. -/
def actsL (D : Nat → Option Tmp) (l : Array Bool) (val : Nat → Value) : List Nat → Act → Act
  | [], a => a
  | i :: is, a => actsL D l val is (if l.getD i false = true then a.put (D i) (val i) else a)
def updV (val : Nat → Value) (i : Nat) (v : Value) : Nat → Value := fun j => if j = i then v else val j
theorem updV_same (val : Nat → Value) (i : Nat) (v : Value) : updV val i v i = v := if_pos rfl
theorem updV_other (val : Nat → Value) {i j : Nat} (v : Value) (h : j ≠ i) : updV val i v j = val j := if_neg h
theorem actsL_put {D : Nat → Option Tmp} {l : Array Bool} {val : Nat → Value} : ∀ (is : List Nat) (a : Act) (d : Option Tmp) (v : Value), (∀ i ∈ is, D i ≠ d ∨ d = none) → actsL D l val is (a.put d v) = (actsL D l val is a).put d v
  | [], _, _, _, _ => rfl
  | i :: is, a, d, v, h => by
    have ih := fun b => actsL_put (D := D) (l := l) (val := val) is b d v (fun j hj => h j (List.mem_cons_of_mem _ hj))
    unfold actsL
    by_cases hi : l.getD i false = true
    · rw [if_pos hi, if_pos hi, ← ih]
      have hc : (a.put d v).put (D i) (val i) = (a.put (D i) (val i)).put d v := by
        rcases h i (List.mem_cons_self ..) with hh | rfl
        · exact putA_comm a v (val i) (.inl (Ne.symm hh))
        · rfl
      rw [hc]
    · rw [if_neg hi, if_neg hi]
      exact ih a
theorem getD_set {l : Array Bool} {i j : Nat} (h : j ≠ i) : (l.setIfInBounds i true).getD j false = l.getD j false := by
  simp only [Array.getD_eq_getD_getElem?, Array.getElem?_setIfInBounds_ne (Ne.symm h)]
theorem getD_same {l : Array Bool} {i : Nat} (h : i < l.size) : (l.setIfInBounds i true).getD i false = true := by
  simp [Array.getD_eq_getD_getElem?, Array.getElem?_setIfInBounds_self_of_lt h]
theorem actsL_off {D : Nat → Option Tmp} {l : Array Bool} {val : Nat → Value} {i : Nat} {v : Value} : ∀ (is : List Nat) (a : Act), i ∉ is → actsL D (l.setIfInBounds i true) (updV val i v) is a = actsL D l val is a
  | [], _, _ => rfl
  | j :: is, a, h => by
    have hj : j ≠ i := fun e => h (by rw [e]; exact List.mem_cons_self ..)
    unfold actsL
    rw [getD_set hj, updV_other val v hj]
    exact actsL_off is _ (fun hh => h (List.mem_cons_of_mem _ hh))
theorem actsL_set {D : Nat → Option Tmp} {l : Array Bool} {val : Nat → Value} {i : Nat} {v : Value} (hl : l.getD i false = false) (hs : i < l.size) : ∀ (is : List Nat) (a : Act), is.Nodup → i ∈ is → (∀ j ∈ is, j ≠ i → D j ≠ D i ∨ D i = none) →
    (actsL D l val is a).put (D i) v = actsL D (l.setIfInBounds i true) (updV val i v) is a
  | [], _, _, h, _ => by cases h
  | j :: is, a, hn, h, hd => by
    by_cases hj : j = i
    · subst hj
      have hni : j ∉ is := (List.nodup_cons.1 hn).1
      unfold actsL
      rw [if_neg (by rw [hl]; simp), if_pos (getD_same hs), updV_same, actsL_off is _ hni]
      exact (actsL_put is a (D j) v fun k hk => hd k (List.mem_cons_of_mem _ hk) (fun e => hni (e ▸ hk))).symm
    · have hi : i ∈ is := (List.mem_cons.1 h).resolve_left fun e => hj e.symm
      unfold actsL
      rw [getD_set hj, updV_other val v hj]
      exact actsL_set hl hs is _ (List.nodup_cons.1 hn).2 hi fun k hk => hd k (List.mem_cons_of_mem _ hk)
theorem put_eval_same {a : Act} {s : Tmp} {v : Value} (h : s < a.tmps.size) : (a.put (some s) v).eval (.tmp s) = v := by
  simp [Act.put, Act.eval, Array.getD_eq_getD_getElem?, Array.getElem?_setIfInBounds_self_of_lt h]
theorem put_eval_other {a : Act} {d : Option Tmp} {s : Tmp} {v : Value} (h : d ≠ some s) : (a.put d v).eval (.tmp s) = a.eval (.tmp s) := by
  cases d with
  | none => rfl
  | some t =>
    have : t ≠ s := fun e => h (by rw [e])
    simp [Act.put, Act.eval, Array.getD_eq_getD_getElem?, Array.getElem?_setIfInBounds_ne this]
theorem putA_size (a : Act) (d : Option Tmp) (v : Value) : (a.put d v).tmps.size = a.tmps.size := by cases d <;> simp [Act.put]
theorem actsL_size {D : Nat → Option Tmp} {l : Array Bool} {val : Nat → Value} : ∀ (is : List Nat) (a : Act), (actsL D l val is a).tmps.size = a.tmps.size
  | [], _ => rfl
  | i :: is, a => by
    unfold actsL
    rw [actsL_size is]
    split
    · exact putA_size _ _ _
    · rfl
theorem actsL_far {D : Nat → Option Tmp} {l : Array Bool} {val : Nat → Value} {s : Tmp} : ∀ (is : List Nat) (a : Act), (∀ i ∈ is, D i ≠ some s) → (actsL D l val is a).eval (.tmp s) = a.eval (.tmp s)
  | [], _, _ => rfl
  | i :: is, a, h => by
    unfold actsL
    rw [actsL_far is _ fun j hj => h j (List.mem_cons_of_mem _ hj)]
    split
    · exact put_eval_other (h i (List.mem_cons_self ..))
    · rfl
theorem actsL_eval {D : Nat → Option Tmp} {l : Array Bool} {val : Nat → Value} {i : Nat} {s : Tmp} (hl : l.getD i false = true) (hD : D i = some s) : ∀ (is : List Nat) (a : Act), i ∈ is → is.Nodup → (∀ j ∈ is, j ≠ i → D j ≠ some s) → s < a.tmps.size → (actsL D l val is a).eval (.tmp s) = val i
  | [], _, h, _, _, _ => by cases h
  | j :: is, a, h, hn, hd, hs => by
    by_cases hj : j = i
    · subst hj
      have hni : j ∉ is := (List.nodup_cons.1 hn).1
      unfold actsL
      rw [if_pos hl, hD, actsL_far is _ fun k hk => hd k (List.mem_cons_of_mem _ hk) (fun e => hni (e ▸ hk))]
      exact put_eval_same hs
    · have hi : i ∈ is := (List.mem_cons.1 h).resolve_left fun e => hj e.symm
      unfold actsL
      refine actsL_eval hl hD is _ hi (List.nodup_cons.1 hn).2 (fun k hk => hd k (List.mem_cons_of_mem _ hk)) ?_
      split
      · rw [putA_size]; exact hs
      · exact hs

def cntF (l : Array Bool) : Nat := l.toList.count false
theorem cntF_set {l : Array Bool} {i : Nat} (hi : i < l.size) (hf : l.getD i true = false) : cntF (l.setIfInBounds i true) + 1 = cntF l := by
  unfold cntF
  have e : l.toList[i]? = some false := by
    have h2 : l[i]? = some l[i] := Array.getElem?_eq_getElem hi
    have : l[i] = false := by simpa [Array.getD_eq_getD_getElem?, h2] using hf
    rw [Array.getElem?_toList, h2, this]
  rw [Array.toList_setIfInBounds]
  have hi' : i < l.toList.length := by simpa using hi
  have e' : l.toList[i] = false := (List.getElem?_eq_some_iff.1 e).2
  have hpos : 0 < l.toList.count false := List.count_pos_iff.2 (e' ▸ List.getElem_mem hi')
  rw [List.count_set hi', e']
  have h1 : (if (false == false) = true then 1 else 0 : Nat) = 1 := rfl
  have h2 : (if (true == false) = true then 1 else 0 : Nat) = 0 := rfl
  rw [h1, h2]
  omega
theorem cntF_zero {l : Array Bool} (h : cntF l = 0) (i : Nat) : l.getD i true = true := by
  unfold cntF at h
  rw [List.count_eq_zero] at h
  rw [Array.getD_eq_getD_getElem?]
  cases hi : l[i]? with
  | none => rfl
  | some b =>
    cases b
    · exact absurd (List.mem_of_getElem? ((Array.getElem?_toList ..).trans hi)) h
    · rfl

section
variable {P : Program} {ops : Array Oper} {Q : Exit → Act → World → Prop} {md : Region.Mode}
theorem ready_mem {l : Array Bool} {i : Nat} (h : i ∈ Region.ready md ops l) : ∃ o, ops[i]? = some o ∧ l.getD i true = false ∧ ∀ e ∈ o.after, Region.binds md e = true → l.getD e.on false = true := by
  unfold Region.ready at h
  rw [List.mem_filter, List.mem_range, Bool.and_eq_true] at h
  obtain ⟨h1, h2, h3⟩ := h
  have ho : ops[i]? = some ops[i] := Array.getElem?_eq_getElem h1
  refine ⟨ops[i], ho, by simpa using h2, fun e he hb => ?_⟩
  rw [ho] at h3
  simp only [Option.map_some, Option.getD_some] at h3
  rw [Array.all_eq_true_iff_forall_mem] at h3
  have := h3 e he
  rw [hb] at this
  simpa using this
theorem ready_of {l : Array Bool} {i : Nat} {o : Oper} (ho : ops[i]? = some o) (hl : l.getD i true = false) (h : ∀ e ∈ o.after, Region.binds md e = true → l.getD e.on false = true) : i ∈ Region.ready md ops l := by
  unfold Region.ready
  rw [List.mem_filter, List.mem_range, Bool.and_eq_true]
  refine ⟨(Array.getElem?_eq_some_iff.1 ho).1, by rw [hl]; rfl, ?_⟩
  rw [ho]
  simp only [Option.map_some, Option.getD_some]
  rw [Array.all_eq_true_iff_forall_mem]
  intro e he
  cases hb : Region.binds md e
  · rfl
  · rw [h e he hb]; rfl
/-- What stands whatever has run. -/
theorem wpAny_inv (J : Array Bool → Act → World → Prop) (hac : ∀ (i : Nat) (o : Oper), ops[i]? = some o → ∀ e ∈ o.after, Region.binds md e = true → e.on < i)
    (h1 : ∀ l a w i o, J l a w → l.size = ops.size → ops[i]? = some o → l.getD i true = false → (∀ e ∈ o.after, Region.binds md e = true → l.getD e.on false = true) → wpOp P ops Q i (J (l.setIfInBounds i true)) a w)
    (h2 : ∀ l a w, J l a w → (∀ i, i < ops.size → l.getD i false = true) → Q .normal a w) : ∀ (fuel : Nat) (l : Array Bool) (a : Act) (w : World), J l a w → l.size = ops.size → cntF l ≤ fuel → wpAny P md ops Q fuel l a w := by
  have key : ∀ (l : Array Bool), l.size = ops.size → Region.ready md ops l = [] → ∀ i, i < ops.size → l.getD i false = true := by
    intro l hs hr i
    induction i using Nat.strongRecOn with
    | _ i ih =>
      intro hi
      have hi' : i < l.size := by omega
      have hx : l[i]? = some l[i] := Array.getElem?_eq_getElem hi'
      cases hb : l[i] with
      | true => simp [Array.getD_eq_getD_getElem?, hx, hb]
      | false =>
        have hm := ready_of (md := md) (l := l) (ops := ops) (Array.getElem?_eq_getElem hi) (by simp [Array.getD_eq_getD_getElem?, hx, hb]) (fun e he hbn => ih e.on (hac i _ (Array.getElem?_eq_getElem hi) e he hbn) (Nat.lt_trans (hac i _ (Array.getElem?_eq_getElem hi) e he hbn) hi))
        rw [hr] at hm
        cases hm
  intro fuel
  induction fuel with
  | zero =>
    intro l a w hJ hs hc
    have hr : Region.ready md ops l = [] := by
      cases hh : Region.ready md ops l with
      | nil => rfl
      | cons x xs =>
        obtain ⟨o, _, hf, _⟩ := ready_mem (md := md) (ops := ops) (l := l) (i := x) (by rw [hh]; exact List.mem_cons_self ..)
        rw [cntF_zero (by omega) x] at hf
        cases hf
    exact ⟨hr, h2 l a w hJ (key l hs hr)⟩
  | succ fuel ih =>
    intro l a w hJ hs hc
    refine ⟨fun hr => h2 l a w hJ (key l hs hr), fun i hi => ?_⟩
    obtain ⟨o, ho, hf, hd⟩ := ready_mem hi
    have hlt : i < l.size := by rw [hs]; exact (Array.getElem?_eq_some_iff.1 ho).1
    refine wpOp_mono (fun a' w' hJ' => ih _ a' w' hJ' (by simp [hs]) ?_) (h1 l a w i o hJ hs ho hf hd)
    have := cntF_set hlt hf
    omega
/-- .. with the frame as it has come about. -/
theorem wpAny_flow (D : Nat → Option Tmp) (hD : ∀ (i : Nat) (o : Oper), ops[i]? = some o → o.dst = D i) (hne : ∀ i j, i < ops.size → j < ops.size → j ≠ i → D j ≠ D i ∨ D i = none)
    (hac : ∀ (i : Nat) (o : Oper), ops[i]? = some o → ∀ e ∈ o.after, Region.binds md e = true → e.on < i) (hg : ∀ (i : Nat) (o : Oper), ops[i]? = some o → o.guard = none) (a0 : Act) (F : Array Bool → (Nat → Value) → World → Prop)
    (step : ∀ l val w i o, F l val w → l.size = ops.size → ops[i]? = some o → l.getD i false = false → (∀ e ∈ o.after, Region.binds md e = true → l.getD e.on false = true) →
      ∀ (A : Act) (K : Act → World → Prop), A = actsL D l val (List.range ops.size) a0 → (∀ v w', F (l.setIfInBounds i true) (updV val i v) w' → K (A.put o.dst v) w') → o.wp P A w K Q)
    (fin : ∀ l val w, F l val w → (∀ i, i < ops.size → l.getD i false = true) → Q .normal (actsL D l val (List.range ops.size) a0) w)
    (w : World) (val : Nat → Value) (start : F (Array.replicate ops.size false) val w) : wpAny P md ops Q ops.size (Array.replicate ops.size false) a0 w := by
  refine wpAny_inv (fun l a w => ∃ val, a = actsL D l val (List.range ops.size) a0 ∧ F l val w) hac ?_ ?_ _ _ _ _ ⟨val, ?_, start⟩ (by simp) ?_
  · rintro l a w i o ⟨val, rfl, hF⟩ hs ho hf hd
    have hi : i < ops.size := (Array.getElem?_eq_some_iff.1 ho).1
    have hf' : l.getD i false = false := by
      have hx : l[i]? = some l[i] := Array.getElem?_eq_getElem (by omega)
      simp only [Array.getD_eq_getD_getElem?, hx, Option.getD_some] at hf ⊢
      exact hf
    refine wpOp_step ho fun K' hK' => ?_
    rw [if_pos (by simp [Region.wanted, hg i o ho])]
    refine step l val w i o hF hs ho hf' hd _ K' rfl fun v w' hF' => hK' _ _ ⟨updV val i v, ?_, hF'⟩
    rw [hD i o ho]
    exact actsL_set hf' (by omega) _ _ List.nodup_range (List.mem_range.2 hi) fun j hj hji => hne i j hi (List.mem_range.1 hj) hji
  · rintro l a w ⟨val, rfl, hF⟩ hall
    exact fin l val w hF hall
  · have : ∀ is : List Nat, ∀ a, actsL D (Array.replicate ops.size false) val is a = a := by
      intro is
      induction is with
      | nil => intro a; rfl
      | cons i is ih =>
        intro a
        unfold actsL
        rw [if_neg (by simp [Array.getD_eq_getD_getElem?, Array.getElem?_replicate]; split <;> simp), ih]
    rw [this]
  · unfold cntF
    exact Nat.le_trans List.count_le_length (by simp)
end
end Go.Proofs.YthhepmddcncjoaaGreatDoor
namespace Go.Proofs.YthhepmddcncjoaaGreatDoor
open Go.RowKit

def AllG (S : Nat → Oper → Prop) : Nat → List Oper → Prop
  | _, [] => True
  | k, o :: os => S k o ∧ AllG S (k + 1) os
theorem AllG.at {S : Nat → Oper → Prop} : ∀ {os : List Oper} {k i : Nat} {o : Oper}, AllG S k os → os[i]? = some o → S (k + i) o
  | [], _, _, _, _, h => by simp at h
  | x :: os, k, 0, o, h, hi => by
    have : x = o := by simpa using hi
    subst this
    exact h.1
  | x :: os, k, i + 1, o, h, hi => by
    have := AllG.at (i := i) h.2 (by simpa using hi)
    rwa [Nat.add_assoc, Nat.add_comm 1 i] at this
def depG (o : Oper) (j : Nat) : Bool := o.after.any fun e => e.on == j && Region.binds .any e
theorem depG_of {o : Oper} {j : Nat} (h : depG o j = true) {l : Array Bool} (hd : ∀ e ∈ o.after, Region.binds .any e = true → l.getD e.on false = true) : l.getD j false = true := by
  unfold depG at h
  rw [← Array.any_toList, List.any_eq_true] at h
  obtain ⟨e, he, h2⟩ := h
  have he := Array.mem_toList_iff.1 he
  rw [Bool.and_eq_true] at h2
  have e1 : e.on = j := by simpa using h2.1
  rw [← e1]
  exact hd e he h2.2
def slotG (slots : List (Option Tmp)) (i : Nat) : Option Tmp := (slots[i]?).join
def putsA : List (Option Tmp) → (Nat → Value) → Nat → Act → Act
  | [], _, _, a => a
  | d :: ds, val, k, a => putsA ds val (k + 1) (a.put d (val k))
def factG (Rs : List (Value → World → Prop)) (j : Nat) (v : Value) (w : World) : Prop := ∀ p, Rs[j]? = some p → p v w
/-- What is asked of one operation. -/
def GStep (P : Program) (Q : Exit → Act → World → Prop) (slots : List (Option Tmp)) (Rs : List (Value → World → Prop)) (a0 : Act) (w0 : World) (i : Nat) (o : Oper) : Prop :=
  ∀ (A : Act) (w : World) (K : Act → World → Prop), Below w0.heap.size w0 w → (∀ s, (some s) ∉ slots → A.tmps[s]?.getD undef = a0.tmps[s]?.getD undef) →
    (∀ j s, slots[j]? = some (some s) → depG o j = true → factG Rs j (A.tmps[s]?.getD undef) w) → (∀ v w', Below w.heap.size w w' → factG Rs i v w' → K (A.put o.dst v) w') → o.wp P A w K Q
def slotsOk (slots : List (Option Tmp)) : Bool := (List.range slots.length).all fun i => (List.range slots.length).all fun j => (j == i) || decide (slotG slots j ≠ slotG slots i) || (slotG slots i).isNone
theorem puts_all {D : Nat → Option Tmp} {l : Array Bool} {val : Nat → Value} : ∀ (slots : List (Option Tmp)) (k : Nat) (a : Act), (∀ i, i < slots.length → slots[i]? = some (D (k + i))) → (∀ i, i < slots.length → l.getD (k + i) false = true) →
    actsL D l val ((List.range slots.length).map (k + ·)) a = putsA slots val k a
  | [], _, _, _, _ => rfl
  | d :: ds, k, a, h1, h2 => by
    rw [List.length_cons, List.range_succ_eq_map, List.map_cons, List.map_map]
    have e0 : D (k + 0) = d := by have := h1 0 (by simp); simpa using this.symm
    have l0 := h2 0 (by simp)
    show actsL D l val (((List.range ds.length).map ((k + ·) ∘ Nat.succ))) (if l.getD (k + 0) false = true then a.put (D (k + 0)) (val (k + 0)) else a) = _
    rw [if_pos l0, e0, Nat.add_zero]
    have e : (List.range ds.length).map ((k + ·) ∘ Nat.succ) = (List.range ds.length).map ((k + 1) + ·) := by
      refine List.map_congr_left fun x _ => ?_
      show k + (x + 1) = k + 1 + x
      omega
    rw [e]
    exact puts_all ds (k + 1) _ (fun i hi => by have := h1 (i + 1) (by simpa using hi); rw [Nat.add_assoc, Nat.add_comm 1 i]; simpa using this) (fun i hi => by have := h2 (i + 1) (by simpa using hi); rw [Nat.add_assoc, Nat.add_comm 1 i]; exact this)
theorem wpAny_grow {P : Program} {ops : Array Oper} {Q : Exit → Act → World → Prop} (slots : List (Option Tmp)) (a0 : Act) (w0 : World) (Rs : List (Value → World → Prop)) (hdst : ops.toList.map (·.dst) = slots) (hok : slotsOk slots = true)
    (hac : (ops.toList.zipIdx.all fun q => q.1.after.all fun e => !Region.binds .any e || decide (e.on < q.2)) = true) (hg : (ops.toList.all fun o => o.guard.isNone) = true)
    (hsz : (slots.all fun d => match d with | none => true | some s => decide (s < a0.tmps.size)) = true)
    (mono : ∀ p ∈ Rs, ∀ v w w', p v w → Below w.heap.size w w' → p v w') (hst : AllG (GStep P Q slots Rs a0 w0) 0 ops.toList)
    (fin : ∀ (val : Nat → Value) (w : World), (∀ j s, slots[j]? = some (some s) → factG Rs j (val j) w) → Below w0.heap.size w0 w → Q .normal (putsA slots val 0 a0) w) : wpAny P .any ops Q ops.size (Array.replicate ops.size false) a0 w0 := by
  have hat : ∀ (i : Nat) (o : Oper), ops[i]? = some o → ops.toList[i]? = some o := fun i o h => (Array.getElem?_toList ..).trans h
  have hlen : slots.length = ops.size := by rw [← hdst]; simp
  have hD : ∀ (i : Nat) (o : Oper), ops[i]? = some o → o.dst = slotG slots i := by
    intro i o h
    unfold slotG
    rw [← hdst, List.getElem?_map, hat i o h]
    rfl
  have hS : ∀ (i : Nat), i < ops.size → slots[i]? = some (slotG slots i) := by
    intro i hi
    unfold slotG
    rw [List.getElem?_eq_getElem (by omega)]
    rfl
  have hne : ∀ i j, i < ops.size → j < ops.size → j ≠ i → slotG slots j ≠ slotG slots i ∨ slotG slots i = none := by
    intro i j hi hj hji
    unfold slotsOk at hok
    have h1 := List.all_eq_true.1 hok i (List.mem_range.2 (by omega))
    have h2 := List.all_eq_true.1 h1 j (List.mem_range.2 (by omega))
    simp only [Bool.or_eq_true, decide_eq_true_eq, beq_iff_eq, Option.isNone_iff_eq_none] at h2
    rcases h2 with (h2 | h2) | h2
    · exact absurd h2 hji
    · exact .inl h2
    · exact .inr h2
  have hlt : ∀ (j : Nat) (s : Tmp), slots[j]? = some (some s) → s < a0.tmps.size := fun j s h => by
    have := List.all_eq_true.1 hsz _ (List.mem_of_getElem? h)
    simpa using this
  refine wpAny_flow (slotG slots) hD hne ?_ ?_ a0 (fun l val w => Below w0.heap.size w0 w ∧ ∀ j s, slots[j]? = some (some s) → l.getD j false = true → factG Rs j (val j) w) ?_ ?_ w0 (fun _ => undef) ⟨Below.refl _ _, ?_⟩
  · intro i o h e he hbn
    have hm : (o, i) ∈ ops.toList.zipIdx := List.mem_zipIdx_iff_getElem?.2 (hat i o h)
    have := List.all_eq_true.1 hac _ hm
    have := Array.all_eq_true_iff_forall_mem.1 this e he
    rw [hbn] at this
    simpa using this
  · intro i o h
    have := List.all_eq_true.1 hg o (List.mem_of_getElem? (hat i o h))
    simpa using this
  · rintro l val w i o ⟨hb, hF⟩ hl ho hf hd A K hA hK
    have hs := hst.at (hat i o ho)
    rw [Nat.zero_add] at hs
    have hi : i < ops.size := (Array.getElem?_eq_some_iff.1 ho).1
    have ev : ∀ (B : Act) (s : Tmp), B.tmps[s]?.getD undef = B.eval (.tmp s) := fun B s => by rw [← Array.getD_eq_getD_getElem?]; rfl
    refine hs A w K hb ?_ ?_ ?_
    · intro s hs
      rw [ev, ev, hA]
      refine actsL_far _ _ fun j hj e => hs ?_
      rw [← e]
      exact List.mem_of_getElem? (hS j (List.mem_range.1 hj))
    · intro j s hj hdep
      have hjl := depG_of hdep hd
      have hjs : j < ops.size := by rw [← hlen]; exact (List.getElem?_eq_some_iff.1 hj).1
      have hsl : slotG slots j = some s := by unfold slotG; rw [hj]; rfl
      rw [ev, hA, actsL_eval hjl hsl _ _ (List.mem_range.2 hjs) List.nodup_range (fun k hk hkj e => ?_) (hlt j s hj)]
      · exact hF j s hj hjl
      · rcases hne j k hjs (List.mem_range.1 hk) hkj with h | h
        · exact h (e.trans hsl.symm)
        · rw [hsl] at h; cases h
    · intro v w' hb' hR
      refine hK v w' ⟨hb.trans (hb'.mono hb.size), fun j s hj hjl => ?_⟩
      by_cases e : j = i
      · subst e; rw [updV_same]; exact hR
      · rw [getD_set e] at hjl
        rw [updV_other _ _ e]
        exact fun p hp => mono p (List.mem_of_getElem? hp) _ _ _ (hF j s hj hjl p hp) hb'
  · rintro l val w ⟨hb, hF⟩ hall
    have h1 : ∀ i, i < slots.length → slots[i]? = some (slotG slots (0 + i)) := fun i hi => by rw [Nat.zero_add]; exact hS i (by omega)
    have h2 : ∀ i, i < slots.length → l.getD (0 + i) false = true := fun i hi => by rw [Nat.zero_add]; exact hall i (by omega)
    have e : (List.range slots.length).map (0 + ·) = List.range ops.size := by rw [hlen]; simp
    have := puts_all (D := slotG slots) (l := l) (val := val) slots 0 a0 h1 h2
    rw [e] at this
    rw [this]
    exact fin val w (fun j s hj => hF j s hj (hall j (by rw [← hlen]; exact (List.getElem?_eq_some_iff.1 hj).1))) hb
  · intro j s hj h
    exfalso
    have : (Array.replicate ops.size false).getD j false = false := by
      simp [Array.getD_eq_getD_getElem?, Array.getElem?_replicate]
      split <;> simp
    rw [this] at h
    cases h
theorem factG_mk {Rs : List (Value → World → Prop)} {i : Nat} {p : Value → World → Prop} {v : Value} {w : World} (h : Rs[i]? = some p) (hp : p v w) : factG Rs i v w := fun q hq => by
  rw [h] at hq
  cases hq
  exact hp
end Go.Proofs.YthhepmddcncjoaaGreatDoor
namespace Go.Proofs.YthhepmddcncjoaaGreatDoor

/-- A list, cut at each such byte. -/
def cutB (b : UInt8) : List UInt8 → List (List UInt8)
  | [] => [[]]
  | c :: l => if c = b then [] :: cutB b l else match cutB b l with
    | [] => [[c]]
    | x :: r => (c :: x) :: r
theorem cutB_ne (b : UInt8) (l : List UInt8) : cutB b l ≠ [] := by
  cases l with
  | nil => simp [cutB]
  | cons c l => unfold cutB; split; · simp
                split <;> simp
theorem cutB_cons (b c : UInt8) (l : List UInt8) (h : c ≠ b) : ∃ x r, cutB b l = x :: r ∧ cutB b (c :: l) = (c :: x) :: r := by
  cases hl : cutB b l with
  | nil => exact absurd hl (cutB_ne b l)
  | cons x r => exact ⟨x, r, rfl, by rw [cutB, if_neg h, hl]⟩
/-- Nothing to be cut. -/
theorem cutB_none {b : UInt8} : ∀ {l : List UInt8}, (∀ c ∈ l, c ≠ b) → cutB b l = [l]
  | [], _ => rfl
  | c :: l, h => by
    have ih := cutB_none (l := l) fun x hx => h x (List.mem_cons_of_mem _ hx)
    rw [cutB, if_neg (h c (List.mem_cons_self ..)), ih]
/-- A piece ahead of the first such byte. -/
theorem cutB_first {b : UInt8} : ∀ {l : List UInt8} (m : List UInt8), (∀ c ∈ l, c ≠ b) → cutB b (l ++ b :: m) = l :: cutB b m
  | [], m, _ => by rw [List.nil_append, cutB, if_pos rfl]
  | c :: l, m, h => by
    have ih := cutB_first (l := l) m fun x hx => h x (List.mem_cons_of_mem _ hx)
    rw [List.cons_append, cutB, if_neg (h c (List.mem_cons_self ..)), ih]
theorem cutB_mem {b : UInt8} : ∀ {l x : List UInt8}, x ∈ cutB b l → ∀ c ∈ x, c ≠ b ∧ c ∈ l
  | [], x, hx, c, hc => by
    simp only [cutB, List.mem_cons, List.not_mem_nil, or_false] at hx
    rw [hx] at hc; cases hc
  | d :: l, x, hx, c, hc => by
    by_cases h : d = b
    · rw [cutB, if_pos h] at hx
      rcases List.mem_cons.1 hx with rfl | hx
      · cases hc
      · exact ⟨(cutB_mem hx c hc).1, List.mem_cons_of_mem _ (cutB_mem hx c hc).2⟩
    · obtain ⟨y, r, h1, h2⟩ := cutB_cons b d l h
      rw [h2] at hx
      rcases List.mem_cons.1 hx with rfl | hx
      · rcases List.mem_cons.1 hc with rfl | hc
        · exact ⟨h, List.mem_cons_self ..⟩
        · have := cutB_mem (b := b) (l := l) (x := y) (by rw [h1]; exact List.mem_cons_self ..) c hc
          exact ⟨this.1, List.mem_cons_of_mem _ this.2⟩
      · have := cutB_mem (b := b) (l := l) (x := x) (by rw [h1]; exact List.mem_cons_of_mem _ hx) c hc
        exact ⟨this.1, List.mem_cons_of_mem _ this.2⟩
/-- As many pieces as such bytes, and one more. -/
theorem cutB_len (b : UInt8) : ∀ l : List UInt8, (cutB b l).length = l.count b + 1
  | [] => rfl
  | c :: l => by
    by_cases h : c = b
    · rw [cutB, if_pos h, List.length_cons, cutB_len b l, h, List.count_cons_self]
    · obtain ⟨x, r, h1, h2⟩ := cutB_cons b c l h
      have := cutB_len b l
      rw [h1, List.length_cons] at this
      rw [h2, List.length_cons, this, List.count_cons_of_ne h]
/-- The pieces make the list. -/
theorem cutB_size (b : UInt8) : ∀ (l x : List UInt8), x ∈ cutB b l → x.length ≤ l.length
  | [], x, hx => by simp only [cutB, List.mem_cons, List.not_mem_nil, or_false] at hx; rw [hx]; exact Nat.le_refl _
  | c :: l, x, hx => by
    by_cases h : c = b
    · rw [cutB, if_pos h] at hx
      rcases List.mem_cons.1 hx with rfl | hx
      · exact Nat.zero_le _
      · have := cutB_size b l x hx; rw [List.length_cons]; omega
    · obtain ⟨y, r, h1, h2⟩ := cutB_cons b c l h
      rw [h2] at hx
      rcases List.mem_cons.1 hx with rfl | hx
      · have := cutB_size b l y (by rw [h1]; exact List.mem_cons_self ..)
        rw [List.length_cons, List.length_cons]; omega
      · have := cutB_size b l x (by rw [h1]; exact List.mem_cons_of_mem _ hx)
        rw [List.length_cons]; omega
/-- The first such byte, or none. -/
theorem cut_at (b : UInt8) : ∀ l : List UInt8, (∀ c ∈ l, c ≠ b) ∨ ∃ p q, l = p ++ b :: q ∧ ∀ c ∈ p, c ≠ b
  | [] => .inl fun _ h => by cases h
  | c :: l => by
    by_cases h : c = b
    · exact .inr ⟨[], l, by rw [h]; rfl, fun _ h => by cases h⟩
    · rcases cut_at b l with hl | ⟨p, q, rfl, hp⟩
      · refine .inl fun x hx => ?_
        rcases List.mem_cons.1 hx with rfl | hx
        · exact h
        · exact hl x hx
      · refine .inr ⟨c :: p, q, rfl, fun x hx => ?_⟩
        rcases List.mem_cons.1 hx with rfl | hx
        · exact h
        · exact hp x hx
/-- Two lists, the first of which ends with such a byte. -/
theorem cutB_app (b : UInt8) : ∀ (l m : List UInt8), cutB b (l ++ b :: m) = cutB b l ++ cutB b m
  | [], m => by
    show cutB b (b :: m) = [] :: cutB b m
    rw [cutB, if_pos rfl]
  | c :: l, m => by
    by_cases h : c = b
    · rw [List.cons_append, cutB, if_pos h, cutB_app b l m, cutB, if_pos h]; rfl
    · obtain ⟨x, r, h1, h2⟩ := cutB_cons b c l h
      rw [List.cons_append, cutB, if_neg h, cutB_app b l m, h1, h2]
      rfl
/-- What a list of one byte is at the front of. -/
theorem pre_one (b c : UInt8) (l : List UInt8) : ([b] : List UInt8).isPrefixOf (c :: l) = (b == c) := by simp [List.isPrefixOf]
theorem index_none {b : UInt8} : ∀ {l : List UInt8}, (∀ c ∈ l, c ≠ b) → Lib.index l [b] = -1
  | [], _ => rfl
  | c :: l, h => by
    have ih := index_none (l := l) fun x hx => h x (List.mem_cons_of_mem _ hx)
    have hc : (b == c) = false := by simpa using (h c (List.mem_cons_self ..)).symm
    rw [Lib.index, pre_one, hc, ih]; rfl
theorem index_first {b : UInt8} : ∀ {l : List UInt8} (m : List UInt8), (∀ c ∈ l, c ≠ b) → Lib.index (l ++ b :: m) [b] = l.length
  | [], m, _ => by rw [List.nil_append, Lib.index, pre_one]; simp
  | c :: l, m, h => by
    have ih := index_first (l := l) m fun x hx => h x (List.mem_cons_of_mem _ hx)
    have hc : (b == c) = false := by simpa using (h c (List.mem_cons_self ..)).symm
    rw [List.cons_append, Lib.index, pre_one, hc, ih]
    have : ((l.length : Int) == -1) = false := by rw [beq_eq_false_iff_ne]; omega
    simp [this]
theorem lcut_none {b : UInt8} {l : List UInt8} (h : ∀ c ∈ l, c ≠ b) : Lib.cut l [b] = (l, [], false) := by
  unfold Lib.cut
  rw [index_none h]; rfl
theorem lcut_first {b : UInt8} {l : List UInt8} (m : List UInt8) (h : ∀ c ∈ l, c ≠ b) : Lib.cut (l ++ b :: m) [b] = (l, m, true) := by
  unfold Lib.cut
  rw [index_first m h, if_pos (by omega)]
  simp
theorem splitB_cut (b : UInt8) : ∀ (n : Nat) (s : ByteArray), s.data.toList.count b = n → (Lib.splitB ⟨#[b]⟩ 0 n s).map (fun x => x.data.toList) = cutB b s.data.toList
  | 0, s, h => by
    have hn : ∀ c ∈ s.data.toList, c ≠ b := fun c hc e => by
      have := List.count_pos_iff.2 (e ▸ hc : b ∈ s.data.toList)
      omega
    rw [Lib.splitB_zero, cutB_none hn]; rfl
  | n + 1, s, h => by
    rcases cut_at b s.data.toList with hn | ⟨p, q, hpq, hp⟩
    · exfalso
      have : s.data.toList.count b = 0 := List.count_eq_zero.2 fun hm => hn b hm rfl
      omega
    · have hi : Lib.indexB s ⟨#[b]⟩ = (p.length : Int) := by
        show Lib.index s.data.toList [b] = _
        rw [hpq, index_first q hp]
      have hsz : s.size = p.length + (q.length + 1) := by
        have : s.data.toList.length = s.size := by simp
        rw [hpq] at this
        simp only [List.length_append, List.length_cons] at this
        omega
      have hne : (Lib.indexB s ⟨#[b]⟩ == -1) = false := by rw [hi, beq_eq_false_iff_ne]; omega
      rw [Lib.splitB, hne]
      have h1 : (s.extract 0 ((Lib.indexB s ⟨#[b]⟩).toNat + 0)).data.toList = p := by
        rw [hi, Lib.extract_data, hpq]; simp
      have h2 : (s.extract ((Lib.indexB s ⟨#[b]⟩).toNat + (⟨#[b]⟩ : ByteArray).size) s.size).data.toList = q := by
        rw [hi, Lib.extract_data, hpq, hsz]
        have : (⟨#[b]⟩ : ByteArray).size = 1 := rfl
        rw [this]
        simp only [Int.toNat_natCast]
        rw [show p ++ b :: q = (p ++ [b]) ++ q by simp, List.drop_append_of_le_length (by simp), List.drop_of_length_le (by simp), List.nil_append]
        exact List.take_of_length_le (by omega)
      have hc : q.count b = n := by
        rw [hpq, List.count_append, List.count_cons_self, List.count_eq_zero.2 fun hm => hp b hm rfl] at h
        omega
      have ih := splitB_cut b n _ (by rw [h2]; exact hc)
      simp only [Bool.false_eq_true, if_false, List.map_cons]
      rw [h1, ih, h2, hpq, cutB_first q hp]
end Go.Proofs.YthhepmddcncjoaaGreatDoor
namespace Go.Proofs.YthhepmddcncjoaaGreatDoor
open Go.RowKit

theorem see_full {g : Nat} {W : World} {B : Nat} {r : Rw} {u : Value} (h : SlOf (hide g W) B 3 VlC r u) : SlOf W B 3 VlC r u :=
  sl_cellsTo h (fun p c hc => (hide_cell.1 hc).2) (Nat.le_refl _)
/-- Rows whose heads lie in a block of their own, from n0 on. -/
def SortG (n0 : Nat) (rows : List Rw) (v : Value) (W : World) : Prop := ∃ (g c : Nat) (tl : List Value) (D : List Hd), v = .slice (some ⟨g, 0, none⟩) D.length c ∧ n0 ≤ g ∧ c ≤ maxLen ∧ D.length ≤ c ∧ D.map Prod.fst = rows ∧ W.heap[g]? = some (.cells (D.map Prod.snd ++ tl).toArray 39 (0, 0)) ∧ ∀ x ∈ D, SlOf W W.heap.size 3 VlC x.1 x.2
set_option maxRecDepth 100000 in
set_option maxHeartbeats 4000000 in
theorem psortG_c (l : List Rw) (v : Value) (w : World) (hv : RwsS w w.heap.size l v) (hn : l.length ≤ 1000000) (hf : ∀ r ∈ l, FitW r) (hcl : ∀ r ∈ l, cleanR r = true) :
    Calls Tryz.prog 29 #[v] w fun e w' => ∃ r, e = .returned r ∧ SortG w.heap.size (sortL rwC l) r w' ∧ Below w.heap.size w w' := by
  have HC := Lib.hid (copyRows_c l v w hv hn hf)
  have HL := Lib.hid hcl
  have HN := Lib.hid hn
  obtain ⟨o1, c1, rfl, _⟩ := SlOf.uni hv
  clear hv hf hcl hn
  go_enter Tryz.func29, Tryz.ntmps29
  go_wp2_with fail
  refine HC.out.mono ?_
  rintro e w1 ⟨hs, g, c, rfl, hm, hg, hO⟩
  have hlen : hs.length = l.length := by rw [← hm, List.length_map]
  obtain ⟨tl, hS, hnc, hcm⟩ := hO.srw hlen
  have HS := Lib.hid (sortStable_c hs l.length c tl w1 w1 g hlen HN.out hS)
  have HO := Lib.hid hO.b
  have HM := Lib.hid hm
  have HG := Lib.hid hg
  clear hO hm hg hS HC hlen
  go_wp2_with fail
  refine HS.out.mono ?_
  rintro e w2 ⟨rfl, D, hp, hu, hS2⟩
  have HK := Lib.hid (compact_c D l.length c tl w1 w2 g (by rw [hp.length_eq, ← List.length_map (f := Prod.fst), HM.out]) hnc HN.out hcm hS2)
  have HE : Hid ((compL hdC D).map Prod.fst = sortL rwC l) := Lib.hid (by
    rw [comp_map']
    refine comp_sort rwC_tot (P := fun r => cleanR r = true) rwC_zero HL.out ?_ ?_
    · have := hp.map Prod.fst
      rwa [HM.out] at this
    · exact List.pairwise_map.2 hu)
  have HLe : Hid ((compL hdC D).length ≤ c) := Lib.hid (by
    have h1 := comp_le D
    have h2 : D.length = l.length := by rw [hp.length_eq, ← List.length_map (f := Prod.fst), HM.out]
    omega)
  clear hp hu hS2 HS
  go_wp2_with fail
  refine HK.out.mono ?_
  rintro e w3 ⟨rfl, tl', hS3⟩
  have HR : Hid (SortG w.heap.size (sortL rwC l) (.slice (some ⟨g, 0, none⟩) (compL hdC D).length c) w3) := Lib.hid ⟨g, c, tl', compL hdC D, rfl, HG.out, by unfold maxLen; omega, HLe.out, HE.out, hS3.row, fun x hx => see_full (hS3.see x hx)⟩
  have HB : Hid (Below w.heap.size w w3) := Lib.hid (HO.out.grown hS3.b HO.out.size (fun k hk => by cases hk; exact HG.out))
  clear hS3 HK
  go_wp2
  go_ret
  exact ⟨_, rfl, HR.out, HB.out⟩
end Go.Proofs.YthhepmddcncjoaaGreatDoor
namespace Go.Proofs.YthhepmddcncjoaaGreatDoor
open Go.RowKit Go.Extern Go.Extern.Rtype

theorem isTypeOf (v : Value) (w : World) : (Extern.ReflectliteType.typeOf #[.iface 256 v]).run Tryz.prog w = .ok (.iface 153 (.agg #[.pointer (some ⟨9, 256, none⟩)])) w := by kernel_rfl
theorem isComparable (w : World) : ((Extern.ReflectliteType.method fun t => do noPackHeld "Comparable" t; pure (.bool (← typeInfo t).comparable)) #[.agg #[.pointer (some ⟨9, 256, none⟩)]]).run Tryz.prog w = .ok (.bool true) w := by kernel_rfl
theorem isCalled (w : World) : (callFunc 221 #[.agg #[.pointer (some ⟨9, 256, none⟩)]]).run Tryz.prog w = .ok (Next.value (.bool true)) w := by
  have h91 := @run_callFunc_extern Tryz.prog 221 _ (Extern.ReflectliteType.method fun t => do noPackHeld "Comparable" t; pure (.bool (← typeInfo t).comparable)) Tryz.func221 (by kernel_rfl) (by kernel_rfl) (by kernel_rfl) (by kernel_rfl)
  rw [h91, isComparable]
  rfl
theorem isMethodComparable (v : Value) (w : World) : (Go.method 387 153 v "Comparable").run Tryz.prog w = .ok (221, v) w := by kernel_rfl
theorem isComp : (Tryz.prog.info? 256).map (·.comparable) = some true := by kernel_rfl
theorem isSize : (Tryz.prog.info? 275).map (·.size) = some 1 := by kernel_rfl

/-- errors.Is(nil, x). -/
theorem is_nil (b : Addr) (w : World) :
    Calls Tryz.prog 46 #[.nilIface, .iface 256 (.pointer (some b))] w fun e w' => e = .returned (.bool false) ∧ w = w' := by
  have hn := run_eql_iface_nil_left (P := Tryz.prog) w 256 (.pointer (some b)) Tryz.underlying63
  go_enter Tryz.func46, Tryz.ntmps46
  go_wp2
  go_ret
  exact ⟨rfl, rfl⟩

set_option maxRecDepth 100000 in
/-- errors.Is(x, x). -/
theorem is_same (a : Addr) (w : World) :
    Calls Tryz.prog 46 #[.iface 256 (.pointer (some a)), .iface 256 (.pointer (some a))] w fun e w' => e = .returned (.bool true) ∧ w = w' := by
  obtain ⟨i, hi, hcmp⟩ := Option.map_eq_some_iff.1 isComp
  obtain ⟨j, hj, hjs⟩ := Option.map_eq_some_iff.1 isSize
  have h39 := @run_callFunc_extern Tryz.prog 74 _ Extern.ReflectliteType.typeOf Tryz.func74 (by kernel_rfl) (by kernel_rfl) (by kernel_rfl) (by kernel_rfl)
  have tT := isTypeOf
  have cT := isCalled
  have mR := isMethodComparable
  have heq := run_eql_iface_ptr_same (P := Tryz.prog) w a Tryz.underlying63 Tryz.underlying256 hi hcmp hj
  go_enter Tryz.func46, Tryz.ntmps46
  go_wp2
  refine wp_loop_rounds 1 ?_
  rw [rounds_succ]
  go_wp2
  go_ret
  exact ⟨rfl, rfl⟩
end Go.Proofs.YthhepmddcncjoaaGreatDoor
namespace Go.Proofs.YthhepmddcncjoaaGreatDoor
open Go.RowKit

theorem ret_bool {a b : Bool} (h : a = b) : Ending.returned (.bool a) = .returned (.bool b) := by rw [h]

def letB (r : Int) : Bool := decide ((97 ≤ r ∧ r ≤ 122) ∨ (65 ≤ r ∧ r ≤ 90) ∨ r = 95)
def digB (r : Int) : Bool := decide (48 ≤ r ∧ r ≤ 57)
def okAt (i : Nat) (c : UInt8) : Bool := letB (c.toNat : Int) || (decide (i ≠ 0) && digB (c.toNat : Int))
def okFrom : Nat → List UInt8 → Bool
  | _, [] => true
  | i, c :: l => okAt i c && okFrom (i + 1) l
def nameB (l : List UInt8) : Bool := decide (l ≠ [] ∧ l.length ≤ 40 ∧ l ≠ [95]) && okFrom 0 l

theorem isLetter_any (r : Int) (w : World) : Calls Tryz.prog 141 #[.int .i32 r] w fun e w' => e = .returned (.bool (letB r)) ∧ w = w' := by
  go_enter Tryz.func141, Tryz.ntmps141
  go_wp2
  all_goals go_ret
  all_goals exact ⟨ret_bool (by unfold letB; rw [Bool.eq_iff_iff]; simp; omega), rfl⟩
theorem isDigit_any (r : Int) (w : World) : Calls Tryz.prog 142 #[.int .i32 r] w fun e w' => e = .returned (.bool (digB r)) ∧ w = w' := by
  go_enter Tryz.func142, Tryz.ntmps142
  go_wp2
  all_goals go_ret
  all_goals exact ⟨ret_bool (by unfold digB; rw [Bool.eq_iff_iff]; simp; omega), rfl⟩
theorem drop_cons (s : ByteArray) (k : Nat) (h : k < s.size) : s.data.toList.drop k = s[k] :: s.data.toList.drop (k + 1) :=
  List.drop_eq_getElem_cons (by simpa using h)
theorem letB_high {r : Int} (h : 128 ≤ r) : letB r = false := by unfold letB; simp; omega
theorem digB_high {r : Int} (h : 128 ≤ r) : digB r = false := by unfold digB; simp; omega
theorem okFrom_cons (s : ByteArray) (k : Nat) (h : k < s.size) : okFrom k (s.data.toList.drop k) = (okAt k s[k] && okFrom (k + 1) (s.data.toList.drop (k + 1))) := by
  rw [drop_cons s k h]; rfl

set_option maxHeartbeats 400000 in
theorem isName_any (s : ByteArray) (w : World) (hs : s.size ≤ maxLen) :
    Calls Tryz.prog 106 #[.string s] w fun e w' => e = .returned (.bool (nameB s.data.toList)) ∧ Below w.heap.size w w' := by
  unfold maxLen at hs
  have hl : s.toList = s.data.toList := Lib.toList_data s
  have hlen : s.data.toList.length = s.size := by simp
  by_cases h0 : s.toList = []
  · have hf : nameB s.data.toList = false := by unfold nameB; rw [← hl, h0]; simp
    have Hf := Lib.hid hf
    clear hf hl
    go_enter Tryz.func106, Tryz.ntmps106
    go_wp2
    go_ret
    exact ⟨ret_bool Hf.out.symm, Below.refl _ _⟩
  by_cases h1 : s.toList = [95]
  · have hf : nameB s.data.toList = false := by unfold nameB; rw [← hl, h1]; simp
    have Hf := Lib.hid hf
    clear hf hl
    have e1 : (s.toList == [95]) = true := by simp [h1]
    have e0 : s.toList.isEmpty = false := by simp [h0]
    clear h1 h0
    go_enter Tryz.func106, Tryz.ntmps106
    go_wp2
    go_ret
    exact ⟨ret_bool Hf.out.symm, Below.refl _ _⟩
  have e1 : (s.toList == [95]) = false := by simp [h1]
  have e0 : s.toList.isEmpty = false := by simp [h0]
  by_cases h2 : 40 < s.size
  · have hf : nameB s.data.toList = false := by unfold nameB; simp; intro _ h; omega
    have Hf := Lib.hid hf
    clear hf hl h0 h1 hlen
    go_enter Tryz.func106, Tryz.ntmps106
    go_wp2
    go_ret
    exact ⟨ret_bool Hf.out.symm, Below.refl _ _⟩
  have hn : nameB s.data.toList = okFrom 0 s.data.toList := by
    rw [hl] at h0 h1
    unfold nameB
    rw [hlen]
    simp [h0, h1]
    omega
  have Hn := Lib.hid hn
  clear hn hl h0 h1 hlen
  have h2' : decide (40 < (s.size : Int)) = false := by simp; omega
  go_enter Tryz.func106, Tryz.ntmps106
  go_wp2
  go_loopw [] (fun wr => ∃ pos : Nat, pos ≤ s.size ∧ wr = w.iter s pos ∧ okFrom pos (s.data.toList.drop pos) = okFrom 0 s.data.toList) (fun wr => s.size - wr.iterPos w.heap.size)
  case atStart => exact ⟨0, Nat.zero_le _, rfl, by simp⟩
  case round =>
    obtain ⟨pos, hp, rfl, hok⟩ := hrel
    have Hok := Lib.hid hok
    clear hok
    by_cases hlt : pos < s.size
    · have hc := okFrom_cons s pos hlt
      have Hc := Lib.hid hc
      clear hc
      have hin : pos + 1 ≤ s.size := hlt
      by_cases ha : (s[pos]'hlt).toNat < 128
      · have hnx := fun ty => run_next_ascii (P := Tryz.prog) w s pos ty hlt ha
        by_cases hL : letB ((s[pos]'hlt).toNat : Int) = true
        · have HO := Lib.hid (show okAt pos (s[pos]'hlt) = true by simp [okAt, hL])
          go_wp2_with (first | (go_at_call 141; refine (isLetter_any _ _).mono ?_; rintro e w' ⟨rfl, rfl⟩) | (go_at_call 142; refine (isDigit_any _ _).mono ?_; rintro e w' ⟨rfl, rfl⟩))
          go_roundw
          case rel => exact ⟨pos + 1, hin, rfl, by rw [← Hok.out, Hc.out, HO.out]; rfl⟩
          case measure => simp; omega
        have hL' : letB ((s[pos]'hlt).toNat : Int) = false := by simpa using hL
        clear hL
        by_cases h0 : pos = 0
        · subst h0
          have HO := Lib.hid (show okAt 0 (s[0]'hlt) = false by simp [okAt, hL'])
          go_wp2_with (first | (go_at_call 141; refine (isLetter_any _ _).mono ?_; rintro e w' ⟨rfl, rfl⟩) | (go_at_call 142; refine (isDigit_any _ _).mono ?_; rintro e w' ⟨rfl, rfl⟩))
          go_ret
          exact ⟨ret_bool (by rw [Hn.out, ← Hok.out, Hc.out, HO.out]; rfl), (Below.refl _ _).alloc (Nat.le_refl _) _⟩
        have hz : ((pos : Int) == 0) = false := by simp; omega
        by_cases hD : digB ((s[pos]'hlt).toNat : Int) = true
        · have HO := Lib.hid (show okAt pos (s[pos]'hlt) = true by simp [okAt, hD, h0])
          go_wp2_with (first | (go_at_call 141; refine (isLetter_any _ _).mono ?_; rintro e w' ⟨rfl, rfl⟩) | (go_at_call 142; refine (isDigit_any _ _).mono ?_; rintro e w' ⟨rfl, rfl⟩))
          go_roundw
          case rel => exact ⟨pos + 1, hin, rfl, by rw [← Hok.out, Hc.out, HO.out]; rfl⟩
          case measure => simp; omega
        · have hD' : digB ((s[pos]'hlt).toNat : Int) = false := by simpa using hD
          clear hD
          have HO := Lib.hid (show okAt pos (s[pos]'hlt) = false by simp [okAt, hL', hD'])
          go_wp2_with (first | (go_at_call 141; refine (isLetter_any _ _).mono ?_; rintro e w' ⟨rfl, rfl⟩) | (go_at_call 142; refine (isDigit_any _ _).mono ?_; rintro e w' ⟨rfl, rfl⟩))
          go_ret
          exact ⟨ret_bool (by rw [Hn.out, ← Hok.out, Hc.out, HO.out]; rfl), (Below.refl _ _).alloc (Nat.le_refl _) _⟩
      · have hnx := fun ty => run_next_any (P := Tryz.prog) w s pos ty hlt
        have hh := (decode_high s pos hlt (by omega)).1
        have hL' : letB ((Utf8.decode s pos).1 : Int) = false := letB_high (by omega)
        have hD' : digB ((Utf8.decode s pos).1 : Int) = false := digB_high (by omega)
        have HO := Lib.hid (show okAt pos (s[pos]'hlt) = false by simp only [okAt, letB_high (r := ((s[pos]'hlt).toNat : Int)) (by omega), digB_high (r := ((s[pos]'hlt).toNat : Int)) (by omega)]; simp)
        by_cases h0 : pos = 0
        · subst h0
          go_wp2_with (first | (go_at_call 141; refine (isLetter_any _ _).mono ?_; rintro e w' ⟨rfl, rfl⟩) | (go_at_call 142; refine (isDigit_any _ _).mono ?_; rintro e w' ⟨rfl, rfl⟩))
          go_ret
          exact ⟨ret_bool (by rw [Hn.out, ← Hok.out, Hc.out, HO.out]; rfl), (Below.refl _ _).alloc (Nat.le_refl _) _⟩
        have hz : ((pos : Int) == 0) = false := by simp; omega
        go_wp2_with (first | (go_at_call 141; refine (isLetter_any _ _).mono ?_; rintro e w' ⟨rfl, rfl⟩) | (go_at_call 142; refine (isDigit_any _ _).mono ?_; rintro e w' ⟨rfl, rfl⟩))
        go_ret
        exact ⟨ret_bool (by rw [Hn.out, ← Hok.out, Hc.out, HO.out]; rfl), (Below.refl _ _).alloc (Nat.le_refl _) _⟩
    · have hnx := fun ty => run_next_end (P := Tryz.prog) w s pos ty hlt
      go_wp2
      go_ret
      obtain rfl : pos = s.size := by omega
      refine ⟨ret_bool ?_, (Below.refl _ _).alloc (Nat.le_refl _) _⟩
      rw [Hn.out, ← Hok.out, List.drop_of_length_le (by simp)]
      rfl

end Go.Proofs.YthhepmddcncjoaaGreatDoor
namespace Go.Proofs.YthhepmddcncjoaaGreatDoor
theorem letter_any (r : Int) (w : World) : Calls Tryz.prog 128 #[.int .u8 r] w fun e w' => e = .returned (.bool (letB r)) ∧ w = w' := by
  go_enter Tryz.func128, Tryz.ntmps128
  go_wp2
  all_goals go_ret
  all_goals exact ⟨ret_bool (by unfold letB; rw [Bool.eq_iff_iff]; simp; omega), rfl⟩
theorem digit_any (r : Int) (w : World) : Calls Tryz.prog 129 #[.int .u8 r] w fun e w' => e = .returned (.bool (digB r)) ∧ w = w' := by
  go_enter Tryz.func129, Tryz.ntmps129
  go_wp2
  all_goals go_ret
  all_goals exact ⟨ret_bool (by unfold digB; rw [Bool.eq_iff_iff]; simp; omega), rfl⟩
end Go.Proofs.YthhepmddcncjoaaGreatDoor
namespace Go.Proofs.YthhepmddcncjoaaGreatDoor
open Go.RowKit

set_option maxHeartbeats 400000 in
theorem refName_any (s : ByteArray) (w : World) (hs : s.size ≤ maxLen) :
    Calls Tryz.prog 95 #[.string s] w fun e w' => e = .returned (.bool (nameB s.data.toList)) ∧ w = w' := by
  unfold maxLen at hs
  have hl : s.toList = s.data.toList := Lib.toList_data s
  have hlen : s.data.toList.length = s.size := by simp
  by_cases h0 : s.size < 1
  · have hf : nameB s.data.toList = false := by
      have : s.data.toList = [] := List.eq_nil_of_length_eq_zero (by omega)
      unfold nameB; rw [this]; simp
    have Hf := Lib.hid hf
    clear hf hl hlen
    go_enter Tryz.func95, Tryz.ntmps95
    go_wp2
    go_ret
    exact ⟨ret_bool Hf.out.symm, rfl⟩
  by_cases h2 : 40 < s.size
  · have hf : nameB s.data.toList = false := by unfold nameB; simp; intro _ h; omega
    have Hf := Lib.hid hf
    clear hf hl hlen
    go_enter Tryz.func95, Tryz.ntmps95
    go_wp2
    go_ret
    exact ⟨ret_bool Hf.out.symm, rfl⟩
  by_cases h1 : s.toList = [95]
  · have hf : nameB s.data.toList = false := by unfold nameB; rw [← hl, h1]; simp
    have Hf := Lib.hid hf
    clear hf hl hlen
    have e1 : (s.toList == [95]) = true := by simp [h1]
    clear h1
    go_enter Tryz.func95, Tryz.ntmps95
    go_wp2
    go_ret
    exact ⟨ret_bool Hf.out.symm, rfl⟩
  have e1 : (s.toList == [95]) = false := by simp [h1]
  have hn : nameB s.data.toList = okFrom 0 s.data.toList := by
    have hne : s.data.toList ≠ [] := by intro h; rw [h] at hlen; simp at hlen; omega
    rw [hl] at h1
    unfold nameB
    rw [hlen]
    simp [h1, hne]
    omega
  have Hn := Lib.hid hn
  clear hn hl h1 hlen
  have d0 : decide ((s.size : Int) < 1) = false := by simp; omega
  have d1 : decide (40 < (s.size : Int)) = false := by simp; omega
  go_enter Tryz.func95, Tryz.ntmps95
  go_wp2
  go_loop [3] (fun i => ∃ pos : Nat, pos ≤ s.size ∧ i = .int .i64 pos ∧ okFrom pos (s.data.toList.drop pos) = okFrom 0 s.data.toList) (fun i => s.size - (intOf i).toNat)
  case atStart => exact ⟨0, Nat.zero_le _, rfl, by simp⟩
  case round =>
    obtain ⟨pos, hp, rfl, hok⟩ := hrel
    have Hok := Lib.hid hok
    clear hok
    by_cases hlt : pos < s.size
    · have hc := okFrom_cons s pos hlt
      have Hc := Lib.hid hc
      clear hc
      have hin : pos + 1 ≤ s.size := hlt
      by_cases hL : letB ((s[pos]'hlt).toNat : Int) = true
      · have HO := Lib.hid (show okAt pos (s[pos]'hlt) = true by simp [okAt, hL])
        go_wp2_with (first | (go_at_call 128; refine (letter_any _ _).mono ?_; rintro e w' ⟨rfl, rfl⟩) | (go_at_call 129; refine (digit_any _ _).mono ?_; rintro e w' ⟨rfl, rfl⟩))
        go_round
        case rel => exact ⟨pos + 1, hin, rfl, by rw [← Hok.out, Hc.out, HO.out]; rfl⟩
        case measure => simp [intOf]; omega
      have hL' : letB ((s[pos]'hlt).toNat : Int) = false := by simpa using hL
      clear hL
      by_cases h0 : pos = 0
      · subst h0
        have HO := Lib.hid (show okAt 0 (s[0]'hlt) = false by simp [okAt, hL'])
        go_wp2_with (first | (go_at_call 128; refine (letter_any _ _).mono ?_; rintro e w' ⟨rfl, rfl⟩) | (go_at_call 129; refine (digit_any _ _).mono ?_; rintro e w' ⟨rfl, rfl⟩))
        go_ret
        exact ⟨ret_bool (by rw [Hn.out, ← Hok.out, Hc.out, HO.out]; rfl), rfl⟩
      have hz : ((pos : Int) == 0) = false := by simp; omega
      by_cases hD : digB ((s[pos]'hlt).toNat : Int) = true
      · have HO := Lib.hid (show okAt pos (s[pos]'hlt) = true by simp [okAt, hD, h0])
        go_wp2_with (first | (go_at_call 128; refine (letter_any _ _).mono ?_; rintro e w' ⟨rfl, rfl⟩) | (go_at_call 129; refine (digit_any _ _).mono ?_; rintro e w' ⟨rfl, rfl⟩))
        go_round
        case rel => exact ⟨pos + 1, hin, rfl, by rw [← Hok.out, Hc.out, HO.out]; rfl⟩
        case measure => simp [intOf]; omega
      · have hD' : digB ((s[pos]'hlt).toNat : Int) = false := by simpa using hD
        clear hD
        have HO := Lib.hid (show okAt pos (s[pos]'hlt) = false by simp [okAt, hL', hD'])
        go_wp2_with (first | (go_at_call 128; refine (letter_any _ _).mono ?_; rintro e w' ⟨rfl, rfl⟩) | (go_at_call 129; refine (digit_any _ _).mono ?_; rintro e w' ⟨rfl, rfl⟩))
        go_ret
        exact ⟨ret_bool (by rw [Hn.out, ← Hok.out, Hc.out, HO.out]; rfl), rfl⟩
    · go_wp2
      go_ret
      obtain rfl : pos = s.size := by omega
      refine ⟨ret_bool ?_, rfl⟩
      rw [Hn.out, ← Hok.out, List.drop_of_length_le (by simp)]
      rfl
end Go.Proofs.YthhepmddcncjoaaGreatDoor
namespace Go.Proofs.YthhepmddcncjoaaGreatDoor
open Go.RowKit

theorem put_len1 (l : List Rw) (t : Rw) : (putL rwC l t).length ≤ l.length + 1 := by
  rw [put_len]
  split <;> omega
theorem fold_step {l : List Rw} {k : Nat} {x : Rw} (a : List Rw) (h : l[k]? = some x) : (l.take (k + 1)).foldl (putL rwC) a = putL rwC ((l.take k).foldl (putL rwC) a) x := by
  rw [take_snoc h, List.foldl_append]
  rfl
theorem minus_step {a b : List Rw} {k : Nat} {x : Rw} (h : a[k]? = some x) : minusL rwC (a.take (k + 1)) b = minusL rwC (a.take k) b ++ (if inL rwC b x = true then [] else [x]) := by
  unfold minusL
  rw [take_snoc h, List.filter_append, List.filter_cons, List.filter_nil]
  cases inL rwC b x <;> rfl

def OwnG (W : World) (v : Value) (l : List Rw) : Prop := ∃ base, Owned W base 39 1 (RwC W W.heap.size) v l
theorem OutR.own {w W : World} {v : Value} {l : List Rw} (h : OutR w W v l) : OwnG W v l := by
  obtain ⟨⟨css, h1, h2, h3⟩, hb⟩ := h
  refine ⟨_, css, h1, fun i x hx => ?_, h3⟩
  obtain ⟨cs, a, b, c⟩ := h2 i x hx
  exact ⟨cs, a, b, (c.below hb).more hb.size⟩
theorem OwnG.rows {W : World} {v : Value} {l : List Rw} (h : OwnG W v l) : RwsS W W.heap.size l v := by
  obtain ⟨base, h⟩ := h
  exact h.slOf fun _ _ hr => hr
theorem OwnG.nil (W : World) : OwnG W (.slice none 0 0) [] := ⟨0, Owned.nil _ _ _ _ _⟩
set_option maxRecDepth 100000 in
set_option maxHeartbeats 4000000 in
theorem rsort_c (l : List Rw) (v : Value) (w : World) (hl : l.length ≤ 1000000) (h1 : RwsS w w.heap.size l v) :
    Calls Tryz.prog 33 #[v] w fun e w' => ∃ r, e = .returned r ∧ OwnG w' r (sortL rwC l) ∧ Below w.heap.size w w' := by
  obtain ⟨o1, cap1, rfl, hc1, hm1, S1⟩ := SlOf.open h1
  have HL := Lib.hid hl
  clear h1 hl
  go_enter Tryz.func33, Tryz.ntmps33
  go_wp2
  go_loopw [3, 4] (fun ov i wr => ∃ (k : Nat) (L : List Rw), k ≤ l.length ∧ i = .int .i64 k ∧ OwnG wr ov L ∧ L = (l.take k).foldl (putL rwC) [] ∧ L.length ≤ k ∧ Below w.heap.size w wr) (fun _ i _ => l.length - (intOf i).toNat)
  case atStart => exact ⟨0, [], Nat.zero_le _, rfl, OwnG.nil _, rfl, Nat.le_refl _, Below.refl _ _⟩
  case round =>
    obtain ⟨k, L, hk, rfl, hS, hL, hLn, hB⟩ := hrel
    have HS := Lib.hid hS
    have HLE := Lib.hid hL
    clear hS hL
    by_cases hlt : k < l.length
    · have hlt' : (k : Int) < (l.length : Int) := by omega
      obtain ⟨x, hx⟩ : ∃ x, l[k]? = some x := ⟨l[k], List.getElem?_eq_getElem hlt⟩
      obtain ⟨a, p3, q3, rfl, ha, Hx, c0, _⟩ := rw_at S1 hB hx
      have hBs := hB.size
      have hal : (a.add k).block < wr.heap.size := by rw [addBlock]; omega
      have HP := Lib.hid (rput_c L x _ _ wr (by have := HL.out; omega) HS.out.rows Hx.out)
      have HL2 := Lib.hid (fold_step [] hx)
      clear hx
      go_wp2_with fail
      refine HP.out.mono ?_
      rintro e w1 ⟨r, rfl, hO1⟩
      have b1 := hO1.2
      have hS1 := hO1.own
      have HS1 := Lib.hid hS1
      clear hO1
      have hB3 := hB.trans (b1.mono hBs)
      clear hS1
      go_wp2
      go_roundw
      case rel => exact ⟨k + 1, putL rwC L x, hlt, by go_num, HS1.out, by rw [HL2.out, HLE.out], by have := put_len1 L x; omega, hB3⟩
      case measure => simp [intOf]; omega
    · have hlt' : ¬ (k : Int) < (l.length : Int) := by omega
      have He : Hid (L = sortL rwC l) := Lib.hid (by rw [HLE.out, List.take_of_length_le (by omega)]; rfl)
      go_wp2
      go_ret
      exact ⟨_, rfl, by rw [← He.out]; exact HS.out, hB⟩

end Go.Proofs.YthhepmddcncjoaaGreatDoor
