/- A region that draws its order within a round of a loop over a function: as a plain one. A region that draws its order and writes memory: one step for each operation, whatever the order. A region that draws its order and makes memory alone: each operation once, whatever the order. errors.Is at the one sentinel of package text: with the sentinel itself it answers true, with nil false; for every world. A map from names to numbers that a call has made: what it holds, as a function; 0 is never stored. text.IsName and soritesref01.IsName answer the same for every text: both what nameB says of its bytes. Library functions that the program calls, by the contracts of the shelf, laid at this translation. Slices in memory, element by element; lists held against each other. -/
import Derived.WalkKit
import Derived.RangeFuncNested
import Derived.Deep.RegionHeld3
import Derived.OrdersIn
import Derived.RegionTactic
import Derived.OwnWalk
import Derived.Below
import Derived.Test.YtfcfehflocglpaaDoorChecked
import Derived.LaidEql
import Derived.RowKitTokens
import Derived.Maps.OwnSet
import Derived.Maps.OwnIn
import Derived.StringKeys
import Derived.WalkLawsBesides
import Derived.Laws.RangeAny
import Derived.Lib.Hide
import Derived.Lib.Strings
import Derived.Shelf.Strconv.Clone
import Derived.Shelf.LaysM
import Derived.Test.YtfcfehflocglpaaDoorProg
namespace Go.Proofs.YtfcfehflocglpaaDoor
open Go.RowKit

def noDefer (ops : Array Oper) : Bool := ops.toList.all fun o => match o.op with | .defer _ => false | _ => true
theorem noDefer_spec {ops : Array Oper} (h : noDefer ops = true) {i : Nat} {o : Oper} (ho : ops[i]? = some o) (c : Call) : o.op ≠ .defer c := by
  intro e
  unfold noDefer at h
  rw [List.all_eq_true] at h
  have hm : o ∈ ops.toList := by
    obtain ⟨hi, rfl⟩ := Array.getElem?_eq_some_iff.1 ho
    simp
  have := h o hm
  rw [e] at this
  cases this
theorem upon_round {l n : Nat} {P : Program} {o : Oper} {a : Act} {K K' : Act → World → Prop} {Q : Exit → Act → World → Prop} (hK : ∀ a w, K a w → K' a w) {r : Result Next} (h : o.upon P a K Q r) : o.uponIn (Fence.wide.inRound l) n P a K' Q r := by
  cases r with
  | ok x w' =>
    cases x with
    | value v => exact hK _ _ h
    | skip => exact hK _ _ h
    | defer d => exact hK _ _ h
    | enter f args =>
      refine ⟨(fun h => by cases h), CallsIn.inRound l (callsIn_wide.2 (Calls.mono h ?_))⟩
      intro e w'' he
      cases e with
      | returned v => exact hK _ _ he
      | panicked c => exact he
      | outgrown => exact he
    | row row args =>
      refine ⟨(fun h => by cases h), ?_⟩
      have h : Rows P row args w' fun v w'' => K (a.put o.dst v) w'' := h
      intro c cs _
      obtain ⟨v, w'', r, s⟩ := h c cs
      exact ⟨v, w'', hK _ _ r, stepsIn_wide.2 s⟩
    | _ => exact h.elim
  | halt x w' =>
    cases x with
    | panic v => exact h
    | _ => exact h.elim
theorem any_round {l n : Nat} {P : Program} {md : Region.Mode} {ops : Array Oper} {Q : Exit → Act → World → Prop} (hd : noDefer ops = true) (hQ : ¬ LetsOut Q) : ∀ (fuel : Nat) (listed : Array Bool) (a : Act) (w : World), wpAny P md ops Q fuel listed a w → wpAnyIn (Fence.wide.inRound l) n P md ops Q fuel listed a w
  | 0, _, _, _, h => h
  | fuel + 1, listed, a, w, h => by
    refine ⟨h.1, fun i hi => ?_⟩
    have hi := h.2 i hi
    unfold wpOp at hi
    unfold wpOpIn
    cases ho : ops[i]? with
    | none =>
      rw [ho] at hi
      exact any_round hd hQ fuel _ _ _ hi
    | some o =>
      rw [ho] at hi
      simp only at hi ⊢
      split
      · next hw =>
        rw [if_pos hw] at hi
        rcases hi with hi | ⟨_, hl⟩
        · refine ⟨fun _ _ => trivial, ?_⟩
          rw [Oper.semAt_eq _ _ _ (noDefer_spec hd ho)]
          exact upon_round (fun a w h => any_round hd hQ fuel _ a w h) hi
        · exact absurd hl hQ
      · next hw =>
        rw [if_neg hw] at hi
        exact ⟨fun _ _ => trivial, any_round hd hQ fuel _ _ _ hi⟩
theorem region_round {l n id : Nat} {P : Program} {ops : Array Oper} {Q : Exit → Act → World → Prop} {S : World → Prop} {a : Act} {w : World} (hm : P.follows .mixedOrders = true) (hd : noDefer ops = true) (hQ : ¬ LetsOut Q)
    (h : wpAnyH P .any ops Q S ops.size (Array.replicate ops.size false) a w.drew) : (Code.region id ops true).wpIn (Fence.wide.inRound l) n P Q a w :=
  wpIn_region_any hm (any_round hd hQ _ _ _ _ (wpAny_of_held _ _ _ _ h))
theorem any_region {l n id : Nat} {P : Program} {ops : Array Oper} {Q : Exit → Act → World → Prop} {a : Act} {w : World} (hm : P.follows .mixedOrders = true) (hd : noDefer ops = true) (hQ : ¬ LetsOut Q)
    (h : wpAny P .any ops Q ops.size (Array.replicate ops.size false) a w.drew) : (Code.region id ops true).wpIn (Fence.wide.inRound l) n P Q a w :=
  wpIn_region_any hm (any_round hd hQ _ _ _ _ h)
end Go.Proofs.YtfcfehflocglpaaDoor
namespace Go.Proofs.YtfcfehflocglpaaDoor
open Go.RowKit

theorem putA_comm (a : Act) {d d' : Option Tmp} (v v' : Value) (h : d ≠ d' ∨ d = none) : (a.put d v).put d' v' = (a.put d' v').put d v := by
  cases d with
  | none => rfl
  | some s =>
    cases d' with
    | none => rfl
    | some t =>
      have hne : s ≠ t := by
        intro e
        rcases h with h | h
        · exact h (by rw [e])
        · cases h
      simp only [Act.put, Array.setIfInBounds_comm _ _ hne]
/-- The frame when some operations have run: their slots hold what val says. -/
def actsL (D : Nat → Option Tmp) (l : Array Bool) (val : Nat → Value) : List Nat → Act → Act
  | [], a => a
  | i :: is, a => actsL D l val is (if l.getD i false = true then a.put (D i) (val i) else a)
def updV (val : Nat → Value) (i : Nat) (v : Value) : Nat → Value := fun j => if j = i then v else val j
theorem updV_same (val : Nat → Value) (i : Nat) (v : Value) : updV val i v i = v := if_pos rfl
theorem updV_other (val : Nat → Value) {i j : Nat} (v : Value) (h : j ≠ i) : updV val i v j = val j := if_neg h
theorem actsL_put {D : Nat → Option Tmp} {l : Array Bool} {val : Nat → Value} : ∀ (is : List Nat) (a : Act) (d : Option Tmp) (v : Value), (∀ i ∈ is, D i ≠ d ∨ d = none) → actsL D l val is (a.put d v) = (actsL D l val is a).put d v
  | [], _, _, _, _ => rfl
  | i :: is, a, d, v, h => by
    have ih := fun b => actsL_put (D := D) (l := l) (val := val) is b d v (fun j hj => h j (List.mem_cons_of_mem _ hj))
    unfold actsL
    by_cases hi : l.getD i false = true
    · rw [if_pos hi, if_pos hi, ← ih]
      have hc : (a.put d v).put (D i) (val i) = (a.put (D i) (val i)).put d v := by
        rcases h i (List.mem_cons_self ..) with hh | rfl
        · exact putA_comm a v (val i) (.inl (Ne.symm hh))
        · rfl
      rw [hc]
    · rw [if_neg hi, if_neg hi]
      exact ih a
theorem getD_set {l : Array Bool} {i j : Nat} (h : j ≠ i) : (l.setIfInBounds i true).getD j false = l.getD j false := by
  simp only [Array.getD_eq_getD_getElem?, Array.getElem?_setIfInBounds_ne (Ne.symm h)]
theorem getD_same {l : Array Bool} {i : Nat} (h : i < l.size) : (l.setIfInBounds i true).getD i false = true := by
  simp [Array.getD_eq_getD_getElem?, Array.getElem?_setIfInBounds_self_of_lt h]
theorem actsL_off {D : Nat → Option Tmp} {l : Array Bool} {val : Nat → Value} {i : Nat} {v : Value} : ∀ (is : List Nat) (a : Act), i ∉ is → actsL D (l.setIfInBounds i true) (updV val i v) is a = actsL D l val is a
  | [], _, _ => rfl
  | j :: is, a, h => by
    have hj : j ≠ i := fun e => h (by rw [e]; exact List.mem_cons_self ..)
    unfold actsL
    rw [getD_set hj, updV_other val v hj]
    exact actsL_off is _ (fun hh => h (List.mem_cons_of_mem _ hh))
theorem actsL_set {D : Nat → Option Tmp} {l : Array Bool} {val : Nat → Value} {i : Nat} {v : Value} (hl : l.getD i false = false) (hs : i < l.size) : ∀ (is : List Nat) (a : Act), is.Nodup → i ∈ is → (∀ j ∈ is, j ≠ i → D j ≠ D i ∨ D i = none) →
    (actsL D l val is a).put (D i) v = actsL D (l.setIfInBounds i true) (updV val i v) is a
  | [], _, _, h, _ => by cases h
  | j :: is, a, hn, h, hd => by
    by_cases hj : j = i
    · subst hj
      have hni : j ∉ is := (List.nodup_cons.1 hn).1
      unfold actsL
      rw [if_neg (by rw [hl]; simp), if_pos (getD_same hs), updV_same, actsL_off is _ hni]
      exact (actsL_put is a (D j) v fun k hk => hd k (List.mem_cons_of_mem _ hk) (fun e => hni (e ▸ hk))).symm
    · have hi : i ∈ is := (List.mem_cons.1 h).resolve_left fun e => hj e.symm
      unfold actsL
      rw [getD_set hj, updV_other val v hj]
      exact actsL_set hl hs is _ (List.nodup_cons.1 hn).2 hi fun k hk => hd k (List.mem_cons_of_mem _ hk)
theorem put_eval_same {a : Act} {s : Tmp} {v : Value} (h : s < a.tmps.size) : (a.put (some s) v).eval (.tmp s) = v := by
  simp [Act.put, Act.eval, Array.getD_eq_getD_getElem?, Array.getElem?_setIfInBounds_self_of_lt h]
theorem put_eval_other {a : Act} {d : Option Tmp} {s : Tmp} {v : Value} (h : d ≠ some s) : (a.put d v).eval (.tmp s) = a.eval (.tmp s) := by
  cases d with
  | none => rfl
  | some t =>
    have : t ≠ s := fun e => h (by rw [e])
    simp [Act.put, Act.eval, Array.getD_eq_getD_getElem?, Array.getElem?_setIfInBounds_ne this]
theorem putA_size (a : Act) (d : Option Tmp) (v : Value) : (a.put d v).tmps.size = a.tmps.size := by cases d <;> simp [Act.put]
theorem actsL_size {D : Nat → Option Tmp} {l : Array Bool} {val : Nat → Value} : ∀ (is : List Nat) (a : Act), (actsL D l val is a).tmps.size = a.tmps.size
  | [], _ => rfl
  | i :: is, a => by
    unfold actsL
    rw [actsL_size is]
    split
    · exact putA_size _ _ _
    · rfl
theorem actsL_far {D : Nat → Option Tmp} {l : Array Bool} {val : Nat → Value} {s : Tmp} : ∀ (is : List Nat) (a : Act), (∀ i ∈ is, D i ≠ some s) → (actsL D l val is a).eval (.tmp s) = a.eval (.tmp s)
  | [], _, _ => rfl
  | i :: is, a, h => by
    unfold actsL
    rw [actsL_far is _ fun j hj => h j (List.mem_cons_of_mem _ hj)]
    split
    · exact put_eval_other (h i (List.mem_cons_self ..))
    · rfl
theorem actsL_eval {D : Nat → Option Tmp} {l : Array Bool} {val : Nat → Value} {i : Nat} {s : Tmp} (hl : l.getD i false = true) (hD : D i = some s) : ∀ (is : List Nat) (a : Act), i ∈ is → is.Nodup → (∀ j ∈ is, j ≠ i → D j ≠ some s) → s < a.tmps.size → (actsL D l val is a).eval (.tmp s) = val i
  | [], _, h, _, _, _ => by cases h
  | j :: is, a, h, hn, hd, hs => by
    by_cases hj : j = i
    · subst hj
      have hni : j ∉ is := (List.nodup_cons.1 hn).1
      unfold actsL
      rw [if_pos hl, hD, actsL_far is _ fun k hk => hd k (List.mem_cons_of_mem _ hk) (fun e => hni (e ▸ hk))]
      exact put_eval_same hs
    · have hi : i ∈ is := (List.mem_cons.1 h).resolve_left fun e => hj e.symm
      unfold actsL
      refine actsL_eval hl hD is _ hi (List.nodup_cons.1 hn).2 (fun k hk => hd k (List.mem_cons_of_mem _ hk)) ?_
      split
      · rw [putA_size]; exact hs
      · exact hs

def cntF (l : Array Bool) : Nat := l.toList.count false
theorem cntF_set {l : Array Bool} {i : Nat} (hi : i < l.size) (hf : l.getD i true = false) : cntF (l.setIfInBounds i true) + 1 = cntF l := by
  unfold cntF
  have e : l.toList[i]? = some false := by
    have h2 : l[i]? = some l[i] := Array.getElem?_eq_getElem hi
    have : l[i] = false := by simpa [Array.getD_eq_getD_getElem?, h2] using hf
    rw [Array.getElem?_toList, h2, this]
  rw [Array.toList_setIfInBounds]
  have hi' : i < l.toList.length := by simpa using hi
  have e' : l.toList[i] = false := (List.getElem?_eq_some_iff.1 e).2
  have hpos : 0 < l.toList.count false := List.count_pos_iff.2 (e' ▸ List.getElem_mem hi')
  rw [List.count_set hi', e']
  have h1 : (if (false == false) = true then 1 else 0 : Nat) = 1 := rfl
  have h2 : (if (true == false) = true then 1 else 0 : Nat) = 0 := rfl
  rw [h1, h2]
  omega
theorem cntF_zero {l : Array Bool} (h : cntF l = 0) (i : Nat) : l.getD i true = true := by
  unfold cntF at h
  rw [List.count_eq_zero] at h
  rw [Array.getD_eq_getD_getElem?]
  cases hi : l[i]? with
  | none => rfl
  | some b =>
    cases b
    · exact absurd (List.mem_of_getElem? ((Array.getElem?_toList ..).trans hi)) h
    · rfl

section
variable {P : Program} {ops : Array Oper} {Q : Exit → Act → World → Prop} {md : Region.Mode}
theorem ready_mem {l : Array Bool} {i : Nat} (h : i ∈ Region.ready md ops l) : ∃ o, ops[i]? = some o ∧ l.getD i true = false ∧ ∀ e ∈ o.after, Region.binds md e = true → l.getD e.on false = true := by
  unfold Region.ready at h
  rw [List.mem_filter, List.mem_range, Bool.and_eq_true] at h
  obtain ⟨h1, h2, h3⟩ := h
  have ho : ops[i]? = some ops[i] := Array.getElem?_eq_getElem h1
  refine ⟨ops[i], ho, by simpa using h2, fun e he hb => ?_⟩
  rw [ho] at h3
  simp only [Option.map_some, Option.getD_some] at h3
  rw [Array.all_eq_true_iff_forall_mem] at h3
  have := h3 e he
  rw [hb] at this
  simpa using this
theorem ready_of {l : Array Bool} {i : Nat} {o : Oper} (ho : ops[i]? = some o) (hl : l.getD i true = false) (h : ∀ e ∈ o.after, Region.binds md e = true → l.getD e.on false = true) : i ∈ Region.ready md ops l := by
  unfold Region.ready
  rw [List.mem_filter, List.mem_range, Bool.and_eq_true]
  refine ⟨(Array.getElem?_eq_some_iff.1 ho).1, by rw [hl]; rfl, ?_⟩
  rw [ho]
  simp only [Option.map_some, Option.getD_some]
  rw [Array.all_eq_true_iff_forall_mem]
  intro e he
  cases hb : Region.binds md e
  · rfl
  · rw [h e he hb]; rfl
/-- What stands whatever has run. -/
theorem wpAny_inv (J : Array Bool → Act → World → Prop) (hac : ∀ (i : Nat) (o : Oper), ops[i]? = some o → ∀ e ∈ o.after, Region.binds md e = true → e.on < i)
    (h1 : ∀ l a w i o, J l a w → l.size = ops.size → ops[i]? = some o → l.getD i true = false → (∀ e ∈ o.after, Region.binds md e = true → l.getD e.on false = true) → wpOp P ops Q i (J (l.setIfInBounds i true)) a w)
    (h2 : ∀ l a w, J l a w → (∀ i, i < ops.size → l.getD i false = true) → Q .normal a w) : ∀ (fuel : Nat) (l : Array Bool) (a : Act) (w : World), J l a w → l.size = ops.size → cntF l ≤ fuel → wpAny P md ops Q fuel l a w := by
  have key : ∀ (l : Array Bool), l.size = ops.size → Region.ready md ops l = [] → ∀ i, i < ops.size → l.getD i false = true := by
    intro l hs hr i
    induction i using Nat.strongRecOn with
    | _ i ih =>
      intro hi
      have hi' : i < l.size := by omega
      have hx : l[i]? = some l[i] := Array.getElem?_eq_getElem hi'
      cases hb : l[i] with
      | true => simp [Array.getD_eq_getD_getElem?, hx, hb]
      | false =>
        have hm := ready_of (md := md) (l := l) (ops := ops) (Array.getElem?_eq_getElem hi) (by simp [Array.getD_eq_getD_getElem?, hx, hb]) (fun e he hbn => ih e.on (hac i _ (Array.getElem?_eq_getElem hi) e he hbn) (Nat.lt_trans (hac i _ (Array.getElem?_eq_getElem hi) e he hbn) hi))
        rw [hr] at hm
        cases hm
  intro fuel
  induction fuel with
  | zero =>
    intro l a w hJ hs hc
    have hr : Region.ready md ops l = [] := by
      cases hh : Region.ready md ops l with
      | nil => rfl
      | cons x xs =>
        obtain ⟨o, _, hf, _⟩ := ready_mem (md := md) (ops := ops) (l := l) (i := x) (by rw [hh]; exact List.mem_cons_self ..)
        rw [cntF_zero (by omega) x] at hf
        cases hf
    exact ⟨hr, h2 l a w hJ (key l hs hr)⟩
  | succ fuel ih =>
    intro l a w hJ hs hc
    refine ⟨fun hr => h2 l a w hJ (key l hs hr), fun i hi => ?_⟩
    obtain ⟨o, ho, hf, hd⟩ := ready_mem hi
    have hlt : i < l.size := by rw [hs]; exact (Array.getElem?_eq_some_iff.1 ho).1
    refine wpOp_mono (fun a' w' hJ' => ih _ a' w' hJ' (by simp [hs]) ?_) (h1 l a w i o hJ hs ho hf hd)
    have := cntF_set hlt hf
    omega
/-- .. with the frame as it has come about. -/
theorem wpAny_flow (D : Nat → Option Tmp) (hD : ∀ (i : Nat) (o : Oper), ops[i]? = some o → o.dst = D i) (hne : ∀ i j, i < ops.size → j < ops.size → j ≠ i → D j ≠ D i ∨ D i = none)
    (hac : ∀ (i : Nat) (o : Oper), ops[i]? = some o → ∀ e ∈ o.after, Region.binds md e = true → e.on < i) (hg : ∀ (i : Nat) (o : Oper), ops[i]? = some o → o.guard = none) (a0 : Act) (F : Array Bool → (Nat → Value) → World → Prop)
    (step : ∀ l val w i o, F l val w → l.size = ops.size → ops[i]? = some o → l.getD i false = false → (∀ e ∈ o.after, Region.binds md e = true → l.getD e.on false = true) →
      ∀ (A : Act) (K : Act → World → Prop), A = actsL D l val (List.range ops.size) a0 → (∀ v w', F (l.setIfInBounds i true) (updV val i v) w' → K (A.put o.dst v) w') → o.wp P A w K Q)
    (fin : ∀ l val w, F l val w → (∀ i, i < ops.size → l.getD i false = true) → Q .normal (actsL D l val (List.range ops.size) a0) w)
    (w : World) (val : Nat → Value) (start : F (Array.replicate ops.size false) val w) : wpAny P md ops Q ops.size (Array.replicate ops.size false) a0 w := by
  refine wpAny_inv (fun l a w => ∃ val, a = actsL D l val (List.range ops.size) a0 ∧ F l val w) hac ?_ ?_ _ _ _ _ ⟨val, ?_, start⟩ (by simp) ?_
  · rintro l a w i o ⟨val, rfl, hF⟩ hs ho hf hd
    have hi : i < ops.size := (Array.getElem?_eq_some_iff.1 ho).1
    have hf' : l.getD i false = false := by
      have hx : l[i]? = some l[i] := Array.getElem?_eq_getElem (by omega)
      simp only [Array.getD_eq_getD_getElem?, hx, Option.getD_some] at hf ⊢
      exact hf
    refine wpOp_step ho fun K' hK' => ?_
    rw [if_pos (by simp [Region.wanted, hg i o ho])]
    refine step l val w i o hF hs ho hf' hd _ K' rfl fun v w' hF' => hK' _ _ ⟨updV val i v, ?_, hF'⟩
    rw [hD i o ho]
    exact actsL_set hf' (by omega) _ _ List.nodup_range (List.mem_range.2 hi) fun j hj hji => hne i j hi (List.mem_range.1 hj) hji
  · rintro l a w ⟨val, rfl, hF⟩ hall
    exact fin l val w hF hall
  · have : ∀ is : List Nat, ∀ a, actsL D (Array.replicate ops.size false) val is a = a := by
      intro is
      induction is with
      | nil => intro a; rfl
      | cons i is ih =>
        intro a
        unfold actsL
        rw [if_neg (by simp [Array.getD_eq_getD_getElem?, Array.getElem?_replicate]; split <;> simp), ih]
    rw [this]
  · unfold cntF
    exact Nat.le_trans List.count_le_length (by simp)
end
end Go.Proofs.YtfcfehflocglpaaDoor
namespace Go.Proofs.YtfcfehflocglpaaDoor
open Go.RowKit

def AllG (S : Nat → Oper → Prop) : Nat → List Oper → Prop
  | _, [] => True
  | k, o :: os => S k o ∧ AllG S (k + 1) os
theorem AllG.at {S : Nat → Oper → Prop} : ∀ {os : List Oper} {k i : Nat} {o : Oper}, AllG S k os → os[i]? = some o → S (k + i) o
  | [], _, _, _, _, h => by simp at h
  | x :: os, k, 0, o, h, hi => by
    have : x = o := by simpa using hi
    subst this
    exact h.1
  | x :: os, k, i + 1, o, h, hi => by
    have := AllG.at (i := i) h.2 (by simpa using hi)
    rwa [Nat.add_assoc, Nat.add_comm 1 i] at this
def depG (o : Oper) (j : Nat) : Bool := o.after.any fun e => e.on == j && Region.binds .any e
theorem depG_of {o : Oper} {j : Nat} (h : depG o j = true) {l : Array Bool} (hd : ∀ e ∈ o.after, Region.binds .any e = true → l.getD e.on false = true) : l.getD j false = true := by
  unfold depG at h
  rw [← Array.any_toList, List.any_eq_true] at h
  obtain ⟨e, he, h2⟩ := h
  have he := Array.mem_toList_iff.1 he
  rw [Bool.and_eq_true] at h2
  have e1 : e.on = j := by simpa using h2.1
  rw [← e1]
  exact hd e he h2.2
def slotG (slots : List (Option Tmp)) (i : Nat) : Option Tmp := (slots[i]?).join
def putsA : List (Option Tmp) → (Nat → Value) → Nat → Act → Act
  | [], _, _, a => a
  | d :: ds, val, k, a => putsA ds val (k + 1) (a.put d (val k))
def factG (Rs : List (Value → World → Prop)) (j : Nat) (v : Value) (w : World) : Prop := ∀ p, Rs[j]? = some p → p v w
/-- What is asked of one operation. -/
def GStep (P : Program) (Q : Exit → Act → World → Prop) (slots : List (Option Tmp)) (Rs : List (Value → World → Prop)) (a0 : Act) (w0 : World) (i : Nat) (o : Oper) : Prop :=
  ∀ (A : Act) (w : World) (K : Act → World → Prop), Below w0.heap.size w0 w → (∀ s, (some s) ∉ slots → A.tmps[s]?.getD undef = a0.tmps[s]?.getD undef) →
    (∀ j s, slots[j]? = some (some s) → depG o j = true → factG Rs j (A.tmps[s]?.getD undef) w) → (∀ v w', Below w.heap.size w w' → factG Rs i v w' → K (A.put o.dst v) w') → o.wp P A w K Q
def slotsOk (slots : List (Option Tmp)) : Bool := (List.range slots.length).all fun i => (List.range slots.length).all fun j => (j == i) || decide (slotG slots j ≠ slotG slots i) || (slotG slots i).isNone
theorem puts_all {D : Nat → Option Tmp} {l : Array Bool} {val : Nat → Value} : ∀ (slots : List (Option Tmp)) (k : Nat) (a : Act), (∀ i, i < slots.length → slots[i]? = some (D (k + i))) → (∀ i, i < slots.length → l.getD (k + i) false = true) →
    actsL D l val ((List.range slots.length).map (k + ·)) a = putsA slots val k a
  | [], _, _, _, _ => rfl
  | d :: ds, k, a, h1, h2 => by
    rw [List.length_cons, List.range_succ_eq_map, List.map_cons, List.map_map]
    have e0 : D (k + 0) = d := by have := h1 0 (by simp); simpa using this.symm
    have l0 := h2 0 (by simp)
    show actsL D l val (((List.range ds.length).map ((k + ·) ∘ Nat.succ))) (if l.getD (k + 0) false = true then a.put (D (k + 0)) (val (k + 0)) else a) = _
    rw [if_pos l0, e0, Nat.add_zero]
    have e : (List.range ds.length).map ((k + ·) ∘ Nat.succ) = (List.range ds.length).map ((k + 1) + ·) := by
      refine List.map_congr_left fun x _ => ?_
      show k + (x + 1) = k + 1 + x
      omega
    rw [e]
    exact puts_all ds (k + 1) _ (fun i hi => by have := h1 (i + 1) (by simpa using hi); rw [Nat.add_assoc, Nat.add_comm 1 i]; simpa using this) (fun i hi => by have := h2 (i + 1) (by simpa using hi); rw [Nat.add_assoc, Nat.add_comm 1 i]; exact this)
theorem wpAny_grow {P : Program} {ops : Array Oper} {Q : Exit → Act → World → Prop} (slots : List (Option Tmp)) (a0 : Act) (w0 : World) (Rs : List (Value → World → Prop)) (hdst : ops.toList.map (·.dst) = slots) (hok : slotsOk slots = true)
    (hac : (ops.toList.zipIdx.all fun q => q.1.after.all fun e => !Region.binds .any e || decide (e.on < q.2)) = true) (hg : (ops.toList.all fun o => o.guard.isNone) = true)
    (hsz : (slots.all fun d => match d with | none => true | some s => decide (s < a0.tmps.size)) = true)
    (mono : ∀ p ∈ Rs, ∀ v w w', p v w → Below w.heap.size w w' → p v w') (hst : AllG (GStep P Q slots Rs a0 w0) 0 ops.toList)
    (fin : ∀ (val : Nat → Value) (w : World), (∀ j s, slots[j]? = some (some s) → factG Rs j (val j) w) → Below w0.heap.size w0 w → Q .normal (putsA slots val 0 a0) w) : wpAny P .any ops Q ops.size (Array.replicate ops.size false) a0 w0 := by
  have hat : ∀ (i : Nat) (o : Oper), ops[i]? = some o → ops.toList[i]? = some o := fun i o h => (Array.getElem?_toList ..).trans h
  have hlen : slots.length = ops.size := by rw [← hdst]; simp
  have hD : ∀ (i : Nat) (o : Oper), ops[i]? = some o → o.dst = slotG slots i := by
    intro i o h
    unfold slotG
    rw [← hdst, List.getElem?_map, hat i o h]
    rfl
  have hS : ∀ (i : Nat), i < ops.size → slots[i]? = some (slotG slots i) := by
    intro i hi
    unfold slotG
    rw [List.getElem?_eq_getElem (by omega)]
    rfl
  have hne : ∀ i j, i < ops.size → j < ops.size → j ≠ i → slotG slots j ≠ slotG slots i ∨ slotG slots i = none := by
    intro i j hi hj hji
    unfold slotsOk at hok
    have h1 := List.all_eq_true.1 hok i (List.mem_range.2 (by omega))
    have h2 := List.all_eq_true.1 h1 j (List.mem_range.2 (by omega))
    simp only [Bool.or_eq_true, decide_eq_true_eq, beq_iff_eq, Option.isNone_iff_eq_none] at h2
    rcases h2 with (h2 | h2) | h2
    · exact absurd h2 hji
    · exact .inl h2
    · exact .inr h2
  have hlt : ∀ (j : Nat) (s : Tmp), slots[j]? = some (some s) → s < a0.tmps.size := fun j s h => by
    have := List.all_eq_true.1 hsz _ (List.mem_of_getElem? h)
    simpa using this
  refine wpAny_flow (slotG slots) hD hne ?_ ?_ a0 (fun l val w => Below w0.heap.size w0 w ∧ ∀ j s, slots[j]? = some (some s) → l.getD j false = true → factG Rs j (val j) w) ?_ ?_ w0 (fun _ => undef) ⟨Below.refl _ _, ?_⟩
  · intro i o h e he hbn
    have hm : (o, i) ∈ ops.toList.zipIdx := List.mem_zipIdx_iff_getElem?.2 (hat i o h)
    have := List.all_eq_true.1 hac _ hm
    have := Array.all_eq_true_iff_forall_mem.1 this e he
    rw [hbn] at this
    simpa using this
  · intro i o h
    have := List.all_eq_true.1 hg o (List.mem_of_getElem? (hat i o h))
    simpa using this
  · rintro l val w i o ⟨hb, hF⟩ hl ho hf hd A K hA hK
    have hs := hst.at (hat i o ho)
    rw [Nat.zero_add] at hs
    have hi : i < ops.size := (Array.getElem?_eq_some_iff.1 ho).1
    have ev : ∀ (B : Act) (s : Tmp), B.tmps[s]?.getD undef = B.eval (.tmp s) := fun B s => by rw [← Array.getD_eq_getD_getElem?]; rfl
    refine hs A w K hb ?_ ?_ ?_
    · intro s hs
      rw [ev, ev, hA]
      refine actsL_far _ _ fun j hj e => hs ?_
      rw [← e]
      exact List.mem_of_getElem? (hS j (List.mem_range.1 hj))
    · intro j s hj hdep
      have hjl := depG_of hdep hd
      have hjs : j < ops.size := by rw [← hlen]; exact (List.getElem?_eq_some_iff.1 hj).1
      have hsl : slotG slots j = some s := by unfold slotG; rw [hj]; rfl
      rw [ev, hA, actsL_eval hjl hsl _ _ (List.mem_range.2 hjs) List.nodup_range (fun k hk hkj e => ?_) (hlt j s hj)]
      · exact hF j s hj hjl
      · rcases hne j k hjs (List.mem_range.1 hk) hkj with h | h
        · exact h (e.trans hsl.symm)
        · rw [hsl] at h; cases h
    · intro v w' hb' hR
      refine hK v w' ⟨hb.trans (hb'.mono hb.size), fun j s hj hjl => ?_⟩
      by_cases e : j = i
      · subst e; rw [updV_same]; exact hR
      · rw [getD_set e] at hjl
        rw [updV_other _ _ e]
        exact fun p hp => mono p (List.mem_of_getElem? hp) _ _ _ (hF j s hj hjl p hp) hb'
  · rintro l val w ⟨hb, hF⟩ hall
    have h1 : ∀ i, i < slots.length → slots[i]? = some (slotG slots (0 + i)) := fun i hi => by rw [Nat.zero_add]; exact hS i (by omega)
    have h2 : ∀ i, i < slots.length → l.getD (0 + i) false = true := fun i hi => by rw [Nat.zero_add]; exact hall i (by omega)
    have e : (List.range slots.length).map (0 + ·) = List.range ops.size := by rw [hlen]; simp
    have := puts_all (D := slotG slots) (l := l) (val := val) slots 0 a0 h1 h2
    rw [e] at this
    rw [this]
    exact fin val w (fun j s hj => hF j s hj (hall j (by rw [← hlen]; exact (List.getElem?_eq_some_iff.1 hj).1))) hb
  · intro j s hj h
    exfalso
    have : (Array.replicate ops.size false).getD j false = false := by
      simp [Array.getD_eq_getD_getElem?, Array.getElem?_replicate]
      split <;> simp
    rw [this] at h
    cases h
theorem factG_mk {Rs : List (Value → World → Prop)} {i : Nat} {p : Value → World → Prop} {v : Value} {w : World} (h : Rs[i]? = some p) (hp : p v w) : factG Rs i v w := fun q hq => by
  rw [h] at hq
  cases hq
  exact hp
end Go.Proofs.YtfcfehflocglpaaDoor
namespace Go.Proofs.YtfcfehflocglpaaDoor
open Go.RowKit Go.Extern Go.Extern.Rtype

theorem isTypeOf (v : Value) (w : World) : (Extern.ReflectliteType.typeOf #[.iface 193 v]).run Tryd.prog w = .ok (.iface 161 (.agg #[.pointer (some ⟨7, 193, none⟩)])) w := by kernel_rfl
theorem isComparable (w : World) : ((Extern.ReflectliteType.method fun t => do noPackHeld "Comparable" t; pure (.bool (← typeInfo t).comparable)) #[.agg #[.pointer (some ⟨7, 193, none⟩)]]).run Tryd.prog w = .ok (.bool true) w := by kernel_rfl
theorem isCalled (w : World) : (callFunc 165 #[.agg #[.pointer (some ⟨7, 193, none⟩)]]).run Tryd.prog w = .ok (Next.value (.bool true)) w := by
  have h91 := @run_callFunc_extern Tryd.prog 165 _ (Extern.ReflectliteType.method fun t => do noPackHeld "Comparable" t; pure (.bool (← typeInfo t).comparable)) Tryd.func165 (by kernel_rfl) (by kernel_rfl) (by kernel_rfl) (by kernel_rfl)
  rw [h91, isComparable]
  rfl
theorem isMethodComparable (v : Value) (w : World) : (Go.method 330 161 v "Comparable").run Tryd.prog w = .ok (165, v) w := by kernel_rfl
theorem isComp : (Tryd.prog.info? 193).map (·.comparable) = some true := by kernel_rfl
theorem isSize : (Tryd.prog.info? 218).map (·.size) = some 1 := by kernel_rfl

/-- errors.Is(nil, x). -/
theorem is_nil (b : Addr) (w : World) :
    Calls Tryd.prog 59 #[.nilIface, .iface 193 (.pointer (some b))] w fun e w' => e = .returned (.bool false) ∧ w = w' := by
  have hn := run_eql_iface_nil_left (P := Tryd.prog) w 193 (.pointer (some b)) Tryd.underlying80
  go_enter Tryd.func59, Tryd.ntmps59
  go_wp2
  go_ret
  exact ⟨rfl, rfl⟩

set_option maxRecDepth 100000 in
/-- errors.Is(x, x). -/
theorem is_same (a : Addr) (w : World) :
    Calls Tryd.prog 59 #[.iface 193 (.pointer (some a)), .iface 193 (.pointer (some a))] w fun e w' => e = .returned (.bool true) ∧ w = w' := by
  obtain ⟨i, hi, hcmp⟩ := Option.map_eq_some_iff.1 isComp
  obtain ⟨j, hj, hjs⟩ := Option.map_eq_some_iff.1 isSize
  have h39 := @run_callFunc_extern Tryd.prog 83 _ Extern.ReflectliteType.typeOf Tryd.func83 (by kernel_rfl) (by kernel_rfl) (by kernel_rfl) (by kernel_rfl)
  have tT := isTypeOf
  have cT := isCalled
  have mR := isMethodComparable
  have heq := run_eql_iface_ptr_same (P := Tryd.prog) w a Tryd.underlying80 Tryd.underlying193 hi hcmp hj
  go_enter Tryd.func59, Tryd.ntmps59
  go_wp2
  refine wp_loop_rounds 1 ?_
  rw [rounds_succ]
  go_wp2
  go_ret
  exact ⟨rfl, rfl⟩
end Go.Proofs.YtfcfehflocglpaaDoor
namespace Go.Proofs.YtfcfehflocglpaaDoor
open Go.RowKit Go.Maps Go.WideMaps

def MapI (P : Program) (w : World) (kT eT : TypeId) (B n : Nat) (f : List UInt8 → Int) (c : Nat) : Prop :=
  ∃ D : DataW Unit, w.ownsMap P kT (plainElem P eT) B n D ∧ Tidy D ∧ (∀ s, D.atKey (.string s) (.lit (.int .i64 0)) = .lit (.int .i64 (f s))) ∧ (∀ s, Maps.has D (.string s) = decide (f s ≠ 0)) ∧ Maps.size D = c
def updF (f : List UInt8 → Int) (s : List UInt8) (v : Int) : List UInt8 → Int := fun n => if n = s then v else f n
theorem updF_same (f : List UInt8 → Int) (s : List UInt8) (v : Int) : updF f s v s = v := if_pos rfl
theorem updF_other (f : List UInt8 → Int) {s n : List UInt8} (v : Int) (h : n ≠ s) : updF f s v n = f n := if_neg h
theorem mapI_made (P : Program) (w : World) (kT eT : TypeId) : MapI P (w.alloc (.map #[] 0)) kT eT w.heap.size 0 (fun _ => 0) 0 :=
  ⟨.map [], World.ownsMap_made w P kT _, tidy_empty, fun _ => rfl, fun _ => rfl, rfl⟩
theorem MapI.mono {P : Program} {w : World} {kT eT : TypeId} {B n n' : Nat} {f : List UInt8 → Int} {c : Nat} (h : MapI P w kT eT B n f c) (hn : n ≤ n') : MapI P w kT eT B n' f c := by
  obtain ⟨D, h1, h2⟩ := h
  exact ⟨D, h1.mono hn, h2⟩
theorem MapI.lt {P : Program} {w : World} {kT eT : TypeId} {B n : Nat} {f : List UInt8 → Int} {c : Nat} (h : MapI P w kT eT B n f c) : B < w.heap.size := by
  obtain ⟨D, h1, _⟩ := h
  exact h1.lt
theorem MapI.kept {P : Program} {w w' : World} {kT eT : TypeId} {B n : Nat} {f : List UInt8 → Int} {c : Nat} {row : Option Nat} (h : MapI P w kT eT B n f c) (hg : w.grownBy w' row) (hne : some B ≠ row) : MapI P w' kT eT B n f c := by
  obtain ⟨D, h1, h2⟩ := h
  exact ⟨D, h1.kept hg hne, h2⟩
theorem MapI.alloc {P : Program} {w : World} {kT eT : TypeId} {B n : Nat} {f : List UInt8 → Int} {c : Nat} (h : MapI P w kT eT B n f c) (o : Obj) : MapI P (w.alloc o) kT eT B n f c := h.kept (World.grownBy_alloc w o none) (by simp)
theorem MapI.drew {P : Program} {w : World} {kT eT : TypeId} {B n : Nat} {f : List UInt8 → Int} {c : Nat} (h : MapI P w kT eT B n f c) : MapI P w.drew kT eT B n f c := h
theorem MapI.below {P : Program} {w w' : World} {kT eT : TypeId} {B n N : Nat} {f : List UInt8 → Int} {c : Nat} (h : MapI P w kT eT B n f c) (hb : Below N w w') (hN : B < N) : MapI P w' kT eT B n f c := by
  obtain ⟨D, ⟨es, clock, h1, h2⟩, h3⟩ := h
  exact ⟨D, ⟨es, clock, (hb.block B hN).trans h1, h2⟩, h3⟩
theorem MapI.put {P : Program} {w' : World} {kT eT : TypeId} {B n : Nat} {f : List UInt8 → Int} {c : Nat} {D : DataW Unit} (h2 : Tidy D) (h3 : ∀ s, D.atKey (.string s) (.lit (.int .i64 0)) = .lit (.int .i64 (f s))) (h4 : ∀ s, Maps.has D (.string s) = decide (f s ≠ 0)) (h5 : Maps.size D = c) (s : List UInt8) {v : Int} (hv : v ≠ 0)
    (h1 : w'.ownsMap P kT (plainElem P eT) B n (D.put (.string s) (.lit (.int .i64 v)))) : MapI P w' kT eT B n (updF f s v) (if f s = 0 then c + 1 else c) := by
  have hk : WideAt.IsKeyLit (.string s) := trivial
  refine ⟨_, h1, h2.put hk _, fun n => ?_, fun n => ?_, ?_⟩
  · by_cases e : n = s
    · subst e; rw [atKey_put_same h2.isMap hk, updF_same]
    · rw [atKey_put_other (by intro h; cases h; exact e rfl), h3, updF_other _ _ e]
  · by_cases e : n = s
    · subst e; rw [has_put_same h2.isMap hk, updF_same]; simp [hv]
    · rw [has_put_other (by intro h; cases h; exact e rfl), h4, updF_other _ _ e]
  · rw [size_put h2, h4, h5]
    by_cases e : f s = 0
    · rw [if_pos e]; simp [e]
    · rw [if_neg e]; simp [e]

section
variable {P : Program} (w : World) {ops : Array Oper} {rest : List Oper} {o : Oper} {a : Act} {Q : Exit → Act → World → Prop}
theorem wpList_mapI_put (hg : o.guard = none) (m x u : Operand) (t : TypeId) (hop : o.op = Op.mapUpdate t m x u) (kT eT : TypeId) (ht : P.underlying t = some (.map kT eT)) (hkT : P.underlying kT = some .string) (heT : P.underlying eT = some (.int .i64))
    (B n : Nat) (f : List UInt8 → Int) (c : Nat) (hm : a.eval m = .map (some B)) (h : MapI P w kT eT B n f c) (hn : n < maxLen) (s : ByteArray) (v : Int) (hx : a.eval x = .string s) (hu : a.eval u = .int .i64 v) (hs : s.size ≤ maxLen) (hv : v ≠ 0) (hw : (Lit.int .i64 v).wf = true)
    (hK : ∀ w', MapI P w' kT eT B (n + 1) (updF f s.data.toList v) (if f s.data.toList = 0 then c + 1 else c) → w.grownBy w' (some B) → wpList P ops Q rest (a.put o.dst undef) w') : wpList P ops Q (o :: rest) a w := by
  obtain ⟨D, h1, h2, h3, h4, h5⟩ := h
  exact wpList_mapUpdate_own w hg m x u t hop kT eT (string_keyed hkT) ht _ B n D hm h1 hn _ _ _ hx hu (keyOf_string_mk hkT hs) _ [] (plainElem_int heT hw) fun w' hown hgrow => hK w' (MapI.put h2 h3 h4 h5 _ hv hown) hgrow
theorem wpList_mapI_get (hg : o.guard = none) (m x : Operand) (t : TypeId) (hop : o.op = Op.lookup t m x false) (kT eT : TypeId) (ht : P.underlying t = some (.map kT eT)) (hkT : P.underlying kT = some .string) (heT : P.underlying eT = some (.int .i64)) (hz : (zeroValue eT).run P w = .ok (.int .i64 0) w)
    (B n : Nat) (f : List UInt8 → Int) (c : Nat) (hm : a.eval m = .map (some B)) (h : MapI P w kT eT B n f c) (s : ByteArray) (hx : a.eval x = .string s) (hs : s.size ≤ maxLen)
    (hK : (Lit.int .i64 (f s.data.toList)).wf = true → wpList P ops Q rest (a.put o.dst (.int .i64 (f s.data.toList))) w) : wpList P ops Q (o :: rest) a w := by
  obtain ⟨D, h1, h2, h3, h4, h5⟩ := h
  refine wpList_lookup_own_int w hg m x t hop kT eT .i64 (string_keyed hkT) ht heT hz B n D hm h1 _ _ hx (keyOf_string_mk hkT hs) fun c hc hwf => ?_
  rw [h3] at hc
  have : f s.data.toList = c := by simpa using hc
  subst this
  exact hK hwf
theorem wpList_mapI_len (hg : o.guard = none) (m : Operand) (t : TypeId) (hop : o.op = Op.call { callee := Callee.builtin Builtin.len, args := #[m], argTypes := #[t] }) (kT eT : TypeId) (ht : P.underlying t = some (.map kT eT))
    (B n : Nat) (f : List UInt8 → Int) (c : Nat) (hm : a.eval m = .map (some B)) (h : MapI P w kT eT B n f c) (hK : wpList P ops Q rest (a.put o.dst (.int .i64 (c : Nat))) w) : wpList P ops Q (o :: rest) a w := by
  obtain ⟨D, h1, h2, h3, h4, rfl⟩ := h
  exact wpList_len_own w hg m t hop kT eT ht _ B n D hm h1 hK
variable {F : Fence} {nF : Nat}
theorem wpListIn_mapI_put (hg : o.guard = none) (m x u : Operand) (t : TypeId) (hop : o.op = Op.mapUpdate t m x u) (kT eT : TypeId) (ht : P.underlying t = some (.map kT eT)) (hkT : P.underlying kT = some .string) (heT : P.underlying eT = some (.int .i64))
    (B n : Nat) (f : List UInt8 → Int) (c : Nat) (hm : a.eval m = .map (some B)) (h : MapI P w kT eT B n f c) (hn : n < maxLen) (s : ByteArray) (v : Int) (hx : a.eval x = .string s) (hu : a.eval u = .int .i64 v) (hs : s.size ≤ maxLen) (hv : v ≠ 0) (hw : (Lit.int .i64 v).wf = true)
    (hK : ∀ w', MapI P w' kT eT B (n + 1) (updF f s.data.toList v) (if f s.data.toList = 0 then c + 1 else c) → w.grownBy w' (some B) → wpListIn F nF P ops Q rest (a.put o.dst undef) w') : wpListIn F nF P ops Q (o :: rest) a w := by
  obtain ⟨D, h1, h2, h3, h4, h5⟩ := h
  exact wpListIn_mapUpdate_own w hg m x u t hop kT eT (string_keyed hkT) ht _ B n D hm h1 hn _ _ _ hx hu (keyOf_string_mk hkT hs) _ [] (plainElem_int heT hw) fun w' hown hgrow => hK w' (MapI.put h2 h3 h4 h5 _ hv hown) hgrow
theorem wpListIn_mapI_get (hg : o.guard = none) (m x : Operand) (t : TypeId) (hop : o.op = Op.lookup t m x false) (kT eT : TypeId) (ht : P.underlying t = some (.map kT eT)) (hkT : P.underlying kT = some .string) (heT : P.underlying eT = some (.int .i64)) (hz : (zeroValue eT).run P w = .ok (.int .i64 0) w)
    (B n : Nat) (f : List UInt8 → Int) (c : Nat) (hm : a.eval m = .map (some B)) (h : MapI P w kT eT B n f c) (s : ByteArray) (hx : a.eval x = .string s) (hs : s.size ≤ maxLen)
    (hK : (Lit.int .i64 (f s.data.toList)).wf = true → wpListIn F nF P ops Q rest (a.put o.dst (.int .i64 (f s.data.toList))) w) : wpListIn F nF P ops Q (o :: rest) a w := by
  obtain ⟨D, h1, h2, h3, h4, h5⟩ := h
  refine wpListIn_lookup_own_int w hg m x t hop kT eT .i64 (string_keyed hkT) ht heT hz B n D hm h1 _ _ hx (keyOf_string_mk hkT hs) fun c hc hwf => ?_
  rw [h3] at hc
  have : f s.data.toList = c := by simpa using hc
  subst this
  exact hK hwf
end
end Go.Proofs.YtfcfehflocglpaaDoor
namespace Go.Proofs.YtfcfehflocglpaaDoor
open Go.RowKit

theorem ret_bool {a b : Bool} (h : a = b) : Ending.returned (.bool a) = .returned (.bool b) := by rw [h]

def letB (r : Int) : Bool := decide ((97 ≤ r ∧ r ≤ 122) ∨ (65 ≤ r ∧ r ≤ 90) ∨ r = 95)
def digB (r : Int) : Bool := decide (48 ≤ r ∧ r ≤ 57)
def okAt (i : Nat) (c : UInt8) : Bool := letB (c.toNat : Int) || (decide (i ≠ 0) && digB (c.toNat : Int))
def okFrom : Nat → List UInt8 → Bool
  | _, [] => true
  | i, c :: l => okAt i c && okFrom (i + 1) l
def nameB (l : List UInt8) : Bool := decide (l ≠ [] ∧ l.length ≤ 40 ∧ l ≠ [95]) && okFrom 0 l

theorem isLetter_any (r : Int) (w : World) : Calls Tryd.prog 135 #[.int .i32 r] w fun e w' => e = .returned (.bool (letB r)) ∧ w = w' := by
  go_enter Tryd.func135, Tryd.ntmps135
  go_wp2
  all_goals go_ret
  all_goals exact ⟨ret_bool (by unfold letB; rw [Bool.eq_iff_iff]; simp; omega), rfl⟩
theorem isDigit_any (r : Int) (w : World) : Calls Tryd.prog 136 #[.int .i32 r] w fun e w' => e = .returned (.bool (digB r)) ∧ w = w' := by
  go_enter Tryd.func136, Tryd.ntmps136
  go_wp2
  all_goals go_ret
  all_goals exact ⟨ret_bool (by unfold digB; rw [Bool.eq_iff_iff]; simp; omega), rfl⟩
theorem drop_cons (s : ByteArray) (k : Nat) (h : k < s.size) : s.data.toList.drop k = s[k] :: s.data.toList.drop (k + 1) :=
  List.drop_eq_getElem_cons (by simpa using h)
theorem letB_high {r : Int} (h : 128 ≤ r) : letB r = false := by unfold letB; simp; omega
theorem digB_high {r : Int} (h : 128 ≤ r) : digB r = false := by unfold digB; simp; omega
theorem okFrom_cons (s : ByteArray) (k : Nat) (h : k < s.size) : okFrom k (s.data.toList.drop k) = (okAt k s[k] && okFrom (k + 1) (s.data.toList.drop (k + 1))) := by
  rw [drop_cons s k h]; rfl

set_option maxHeartbeats 400000 in
theorem isName_any (s : ByteArray) (w : World) (hs : s.size ≤ maxLen) :
    Calls Tryd.prog 124 #[.string s] w fun e w' => e = .returned (.bool (nameB s.data.toList)) ∧ Below w.heap.size w w' := by
  unfold maxLen at hs
  have hl : s.toList = s.data.toList := Lib.toList_data s
  have hlen : s.data.toList.length = s.size := by simp
  by_cases h0 : s.toList = []
  · have hf : nameB s.data.toList = false := by unfold nameB; rw [← hl, h0]; simp
    have Hf := Lib.hid hf
    clear hf hl
    go_enter Tryd.func124, Tryd.ntmps124
    go_wp2
    go_ret
    exact ⟨ret_bool Hf.out.symm, Below.refl _ _⟩
  by_cases h1 : s.toList = [95]
  · have hf : nameB s.data.toList = false := by unfold nameB; rw [← hl, h1]; simp
    have Hf := Lib.hid hf
    clear hf hl
    have e1 : (s.toList == [95]) = true := by simp [h1]
    have e0 : s.toList.isEmpty = false := by simp [h0]
    clear h1 h0
    go_enter Tryd.func124, Tryd.ntmps124
    go_wp2
    go_ret
    exact ⟨ret_bool Hf.out.symm, Below.refl _ _⟩
  have e1 : (s.toList == [95]) = false := by simp [h1]
  have e0 : s.toList.isEmpty = false := by simp [h0]
  by_cases h2 : 40 < s.size
  · have hf : nameB s.data.toList = false := by unfold nameB; simp; intro _ h; omega
    have Hf := Lib.hid hf
    clear hf hl h0 h1 hlen
    go_enter Tryd.func124, Tryd.ntmps124
    go_wp2
    go_ret
    exact ⟨ret_bool Hf.out.symm, Below.refl _ _⟩
  have hn : nameB s.data.toList = okFrom 0 s.data.toList := by
    rw [hl] at h0 h1
    unfold nameB
    rw [hlen]
    simp [h0, h1]
    omega
  have Hn := Lib.hid hn
  clear hn hl h0 h1 hlen
  have h2' : decide (40 < (s.size : Int)) = false := by simp; omega
  go_enter Tryd.func124, Tryd.ntmps124
  go_wp2
  go_loopw [] (fun wr => ∃ pos : Nat, pos ≤ s.size ∧ wr = w.iter s pos ∧ okFrom pos (s.data.toList.drop pos) = okFrom 0 s.data.toList) (fun wr => s.size - wr.iterPos w.heap.size)
  case atStart => exact ⟨0, Nat.zero_le _, rfl, by simp⟩
  case round =>
    obtain ⟨pos, hp, rfl, hok⟩ := hrel
    have Hok := Lib.hid hok
    clear hok
    by_cases hlt : pos < s.size
    · have hc := okFrom_cons s pos hlt
      have Hc := Lib.hid hc
      clear hc
      have hin : pos + 1 ≤ s.size := hlt
      by_cases ha : (s[pos]'hlt).toNat < 128
      · have hnx := fun ty => run_next_ascii (P := Tryd.prog) w s pos ty hlt ha
        by_cases hL : letB ((s[pos]'hlt).toNat : Int) = true
        · have HO := Lib.hid (show okAt pos (s[pos]'hlt) = true by simp [okAt, hL])
          go_wp2_with (first | (go_at_call 135; refine (isLetter_any _ _).mono ?_; rintro e w' ⟨rfl, rfl⟩) | (go_at_call 136; refine (isDigit_any _ _).mono ?_; rintro e w' ⟨rfl, rfl⟩))
          go_roundw
          case rel => exact ⟨pos + 1, hin, rfl, by rw [← Hok.out, Hc.out, HO.out]; rfl⟩
          case measure => simp; omega
        have hL' : letB ((s[pos]'hlt).toNat : Int) = false := by simpa using hL
        clear hL
        by_cases h0 : pos = 0
        · subst h0
          have HO := Lib.hid (show okAt 0 (s[0]'hlt) = false by simp [okAt, hL'])
          go_wp2_with (first | (go_at_call 135; refine (isLetter_any _ _).mono ?_; rintro e w' ⟨rfl, rfl⟩) | (go_at_call 136; refine (isDigit_any _ _).mono ?_; rintro e w' ⟨rfl, rfl⟩))
          go_ret
          exact ⟨ret_bool (by rw [Hn.out, ← Hok.out, Hc.out, HO.out]; rfl), (Below.refl _ _).alloc (Nat.le_refl _) _⟩
        have hz : ((pos : Int) == 0) = false := by simp; omega
        by_cases hD : digB ((s[pos]'hlt).toNat : Int) = true
        · have HO := Lib.hid (show okAt pos (s[pos]'hlt) = true by simp [okAt, hD, h0])
          go_wp2_with (first | (go_at_call 135; refine (isLetter_any _ _).mono ?_; rintro e w' ⟨rfl, rfl⟩) | (go_at_call 136; refine (isDigit_any _ _).mono ?_; rintro e w' ⟨rfl, rfl⟩))
          go_roundw
          case rel => exact ⟨pos + 1, hin, rfl, by rw [← Hok.out, Hc.out, HO.out]; rfl⟩
          case measure => simp; omega
        · have hD' : digB ((s[pos]'hlt).toNat : Int) = false := by simpa using hD
          clear hD
          have HO := Lib.hid (show okAt pos (s[pos]'hlt) = false by simp [okAt, hL', hD'])
          go_wp2_with (first | (go_at_call 135; refine (isLetter_any _ _).mono ?_; rintro e w' ⟨rfl, rfl⟩) | (go_at_call 136; refine (isDigit_any _ _).mono ?_; rintro e w' ⟨rfl, rfl⟩))
          go_ret
          exact ⟨ret_bool (by rw [Hn.out, ← Hok.out, Hc.out, HO.out]; rfl), (Below.refl _ _).alloc (Nat.le_refl _) _⟩
      · have hnx := fun ty => run_next_any (P := Tryd.prog) w s pos ty hlt
        have hh := (decode_high s pos hlt (by omega)).1
        have hL' : letB ((Utf8.decode s pos).1 : Int) = false := letB_high (by omega)
        have hD' : digB ((Utf8.decode s pos).1 : Int) = false := digB_high (by omega)
        have HO := Lib.hid (show okAt pos (s[pos]'hlt) = false by simp only [okAt, letB_high (r := ((s[pos]'hlt).toNat : Int)) (by omega), digB_high (r := ((s[pos]'hlt).toNat : Int)) (by omega)]; simp)
        by_cases h0 : pos = 0
        · subst h0
          go_wp2_with (first | (go_at_call 135; refine (isLetter_any _ _).mono ?_; rintro e w' ⟨rfl, rfl⟩) | (go_at_call 136; refine (isDigit_any _ _).mono ?_; rintro e w' ⟨rfl, rfl⟩))
          go_ret
          exact ⟨ret_bool (by rw [Hn.out, ← Hok.out, Hc.out, HO.out]; rfl), (Below.refl _ _).alloc (Nat.le_refl _) _⟩
        have hz : ((pos : Int) == 0) = false := by simp; omega
        go_wp2_with (first | (go_at_call 135; refine (isLetter_any _ _).mono ?_; rintro e w' ⟨rfl, rfl⟩) | (go_at_call 136; refine (isDigit_any _ _).mono ?_; rintro e w' ⟨rfl, rfl⟩))
        go_ret
        exact ⟨ret_bool (by rw [Hn.out, ← Hok.out, Hc.out, HO.out]; rfl), (Below.refl _ _).alloc (Nat.le_refl _) _⟩
    · have hnx := fun ty => run_next_end (P := Tryd.prog) w s pos ty hlt
      go_wp2
      go_ret
      obtain rfl : pos = s.size := by omega
      refine ⟨ret_bool ?_, (Below.refl _ _).alloc (Nat.le_refl _) _⟩
      rw [Hn.out, ← Hok.out, List.drop_of_length_le (by simp)]
      rfl

end Go.Proofs.YtfcfehflocglpaaDoor
namespace Go.Proofs
open Go.Shelf
def Tryd.laysM316_ren : Go.Shelf.Ren := ⟨fun | 316 => 89 | n => n, fun | 0 => 0 | 3 => 3 | 4 => 4 | 5 => 5 | 9 => 9 | 37 => 174 | 127 => 175 | n => n, fun | n => n⟩
theorem Tryd.laysM316 : Go.Proofs.LaysM.n316 Tryd.prog Tryd.laysM316_ren := {
  mixed := by kernel_rfl
  f316 := Tryd.func89.trans (congrArg some (by kernel_rfl))
  t0 := Tryd.underlying0
  a0 := Tryd.isAgg0
  z0 := Tryd.sizeOf0
  v0 := Tryd.zeroValue0
  t3 := Tryd.underlying3
  a3 := Tryd.isAgg3
  z3 := Tryd.sizeOf3
  v3 := Tryd.zeroValue3
  t4 := Tryd.underlying4
  a4 := Tryd.isAgg4
  z4 := Tryd.sizeOf4
  v4 := Tryd.zeroValue4
  t9 := Tryd.underlying9
  a9 := Tryd.isAgg9
  z9 := Tryd.sizeOf9
  v9 := Tryd.zeroValue9
  t37 := Tryd.underlying174
  a37 := Tryd.isAgg174
  z37 := Tryd.sizeOf174
  v37 := Tryd.zeroValue174
  t127 := Tryd.underlying175
  a127 := Tryd.isAgg175
  z127 := Tryd.sizeOf175
  v127 := Tryd.zeroValue175
  t5 := Tryd.underlying5
  a5 := Tryd.isAgg5
  z5 := Tryd.sizeOf5
  v5 := Tryd.zeroValue5
  i0 := by kernel_rfl
  i3 := by kernel_rfl
  i4 := by kernel_rfl
  i5 := by kernel_rfl
  i9 := by kernel_rfl
  i37 := by kernel_rfl
  i127 := by kernel_rfl }
open Go.RowKit in
theorem Tryd.stringslite_Clone (s : ByteArray) (w : World) (hlim : s.size ≤ 281474976710656) :
    Calls Tryd.prog 89 #[.string s] w fun e w' => e = .returned (.string s) ∧ Below w.heap.size w w' := Any.stringslite_Clone Tryd.laysM316 s w hlim
end Go.Proofs
namespace Go.Proofs.YtfcfehflocglpaaDoor
open Go.RowKit

/-- From address a on, o cells further, lie the cells cs. -/
def CellsAt (w : World) (a : Addr) (o : Nat) (cs : List Value) : Prop := ∀ j c, cs[j]? = some c → w.cell? (a.add (o + j)) = some c
def I64 (n : Int) : Prop := -9223372036854775808 ≤ n ∧ n ≤ 9223372036854775807

/-- A slice below block B whose elements, of z cells each, hold what R says. -/
def SlOf {α : Type} (w : World) (B z : Nat) (R : α → List Value → Prop) (l : List α) (v : Value) : Prop :=
  (v = .slice none 0 0 ∧ l = []) ∨ ∃ (a : Addr) (cap : Nat), v = .slice (some a) l.length cap ∧ l.length ≤ cap ∧ cap ≤ maxLen ∧ (l ≠ [] → a.block < B) ∧
    ∀ (i : Nat) (x : α), l[i]? = some x → ∃ cs, cs.length = z ∧ R x cs ∧ CellsAt w a (i * z) cs

theorem addBlock (a : Addr) (n : Nat) : (a.add n).block = a.block := by unfold Addr.add; split <;> rfl
theorem addNext (a : Addr) (i j : Nat) (hj : 0 < j) : a.add (i + j) = ⟨(a.add i).block, (a.add i).off + j, none⟩ := by
  unfold Addr.add
  by_cases hi : i = 0
  · subst hi
    rw [Nat.zero_add, if_neg (by omega), if_pos rfl]
  · rw [if_neg (by omega), if_neg hi]
    simp [Nat.add_assoc]
theorem CellsAt.below {w w' : World} {B : Nat} {a : Addr} {o : Nat} {cs : List Value} (h : CellsAt w a o cs) (hB : a.block < B) (hb : Below B w w') : CellsAt w' a o cs :=
  fun j c hc => (hb.cell (by rw [addBlock]; exact hB)).trans (h j c hc)
theorem SlOf.below {α : Type} {w w' : World} {B z : Nat} {R R' : α → List Value → Prop} {l : List α} {v : Value} (h : SlOf w B z R l v) (hb : Below B w w') (hR : ∀ x ∈ l, ∀ cs, R x cs → R' x cs) : SlOf w' B z R' l v := by
  rcases h with h | ⟨a, cap, h1, h2, h3, h4, h5⟩
  · exact .inl h
  · refine .inr ⟨a, cap, h1, h2, h3, h4, fun i x hx => ?_⟩
    obtain ⟨cs, hl, hr, hc⟩ := h5 i x hx
    exact ⟨cs, hl, hR x (List.mem_of_getElem? hx) cs hr, hc.below (h4 (by rintro rfl; simp at hx)) hb⟩
theorem SlOf.more {α : Type} {w : World} {B B' z : Nat} {R R' : α → List Value → Prop} {l : List α} {v : Value} (h : SlOf w B z R l v) (hB : B ≤ B') (hR : ∀ x ∈ l, ∀ cs, R x cs → R' x cs) : SlOf w B' z R' l v := by
  rcases h with h | ⟨a, cap, h1, h2, h3, h4, h5⟩
  · exact .inl h
  · refine .inr ⟨a, cap, h1, h2, h3, fun h => Nat.lt_of_lt_of_le (h4 h) hB, fun i x hx => ?_⟩
    obtain ⟨cs, hl, hr, hc⟩ := h5 i x hx
    exact ⟨cs, hl, hR x (List.mem_of_getElem? hx) cs hr, hc⟩
def StrC (s : ByteArray) (cs : List Value) : Prop := cs = [.string s] ∧ s.size ≤ maxLen
def IntC (n : Int) (cs : List Value) : Prop := cs = [.int .i64 n] ∧ I64 n
/-- A slice, nil or not, in one form. -/
theorem SlOf.uni {α : Type} {w : World} {B z : Nat} {R : α → List Value → Prop} {l : List α} {v : Value} (h : SlOf w B z R l v) : ∃ (o : Option Addr) (cap : Nat), v = .slice o l.length cap ∧ l.length ≤ cap ∧ cap ≤ maxLen ∧
    ∀ (i : Nat) (x : α), l[i]? = some x → ∃ (a : Addr) (cs : List Value), o = some a ∧ a.block < B ∧ cs.length = z ∧ R x cs ∧ CellsAt w a (i * z) cs := by
  rcases h with ⟨rfl, rfl⟩ | ⟨a, cap, h1, h2, h3, h4, h5⟩
  · exact ⟨none, 0, rfl, Nat.le_refl _, Nat.zero_le _, fun i x hx => by simp at hx⟩
  · refine ⟨some a, cap, h1, h2, h3, fun i x hx => ?_⟩
    obtain ⟨cs, hl, hr, hc⟩ := h5 i x hx
    exact ⟨a, cs, rfl, h4 (by rintro rfl; simp at hx), hl, hr, hc⟩
/-- What the walk reads of four cells. -/
theorem CellsAt.four {w : World} {a : Addr} {o : Nat} {c0 c1 c2 c3 : Value} (h : CellsAt w a o [c0, c1, c2, c3]) : w.cell? (a.add o) = some c0 ∧ w.cell? ⟨(a.add o).block, (a.add o).off + 1, none⟩ = some c1 ∧ w.cell? ⟨(a.add o).block, (a.add o).off + 2, none⟩ = some c2 ∧ w.cell? ⟨(a.add o).block, (a.add o).off + 3, none⟩ = some c3 := by
  rw [← addNext a o 1 (by omega), ← addNext a o 2 (by omega), ← addNext a o 3 (by omega)]
  exact ⟨h 0 _ rfl, h 1 _ rfl, h 2 _ rfl, h 3 _ rfl⟩

/-- What lies in a slice's place, of whatever kind; for the rounds of a walk. -/
def SlIn {α : Type} (w : World) (B z : Nat) (R : α → List Value → Prop) (l : List α) (o : Option Addr) : Prop :=
  ∀ (i : Nat) (x : α), l[i]? = some x → ∃ (a : Addr) (cs : List Value), o = some a ∧ a.block < B ∧ cs.length = z ∧ R x cs ∧ CellsAt w a (i * z) cs
theorem SlOf.open {α : Type} {w : World} {B z : Nat} {R : α → List Value → Prop} {l : List α} {v : Value} (h : SlOf w B z R l v) : ∃ (o : Option Addr) (cap : Nat), v = .slice o l.length cap ∧ l.length ≤ cap ∧ cap ≤ 9223372036854775807 ∧ Hid (SlIn w B z R l o) := by
  obtain ⟨o, cap, h1, h2, h3, h4⟩ := SlOf.uni h
  exact ⟨o, cap, h1, h2, by unfold maxLen at h3; omega, Lib.hid h4⟩
theorem CellsAt.n1 {w : World} {a : Addr} {o : Nat} {c0 : Value} (h : CellsAt w a o [c0]) : w.cell? (a.add o) = some c0 := by
  exact h 0 _ rfl
theorem CellsAt.n2 {w : World} {a : Addr} {o : Nat} {c0 c1 : Value} (h : CellsAt w a o [c0, c1]) : w.cell? (a.add o) = some c0 ∧ w.cell? ⟨(a.add o).block, (a.add o).off + 1, none⟩ = some c1 := by
  rw [← addNext a o 1 (by omega)]
  exact ⟨h 0 _ rfl, h 1 _ rfl⟩
theorem SlOf.str {w w' : World} {B B' : Nat} {l : List ByteArray} {v : Value} (h : SlOf w B 1 StrC l v) (hb : Below B w w') (hB : B ≤ B') : SlOf w' B' 1 StrC l v := SlOf.more (SlOf.below h hb fun _ _ _ h => h) hB fun _ _ _ h => h
theorem SlOf.int {w w' : World} {B B' : Nat} {l : List Int} {v : Value} (h : SlOf w B 1 IntC l v) (hb : Below B w w') (hB : B ≤ B') : SlOf w' B' 1 IntC l v := SlOf.more (SlOf.below h hb fun _ _ _ h => h) hB fun _ _ _ h => h
theorem str_at {w wr : World} {l : List ByteArray} {o : Option Addr} {k : Nat} {t : ByteArray} (S : Hid (SlIn w w.heap.size 1 StrC l o)) (hB : Below w.heap.size w wr) (ht : l[k]? = some t) :
    ∃ a, o = some a ∧ a.block < w.heap.size ∧ t.size ≤ maxLen ∧ wr.cell? (a.add k) = some (.string t) := by
  obtain ⟨a, cs, rfl, ha, _, ⟨rfl, hz⟩, h2⟩ := S.out k t ht
  have := (h2.below ha hB).n1
  rw [Nat.mul_one] at this
  exact ⟨a, rfl, ha, hz, this⟩
theorem int_at {w wr : World} {l : List Int} {o : Option Addr} {k : Nat} {t : Int} (S : Hid (SlIn w w.heap.size 1 IntC l o)) (hB : Below w.heap.size w wr) (ht : l[k]? = some t) :
    ∃ a, o = some a ∧ a.block < w.heap.size ∧ I64 t ∧ wr.cell? (a.add k) = some (.int .i64 t) := by
  obtain ⟨a, cs, rfl, ha, _, ⟨rfl, hz⟩, h2⟩ := S.out k t ht
  have := (h2.below ha hB).n1
  rw [Nat.mul_one] at this
  exact ⟨a, rfl, ha, hz, this⟩
def allS {α : Type} (f : α → α → Bool) : List α → List α → Bool
  | [], [] => true
  | t :: ts, u :: us => f t u && allS f ts us
  | _, _ => false
theorem allS_len {α : Type} {f : α → α → Bool} : ∀ {l m : List α}, l.length ≠ m.length → allS f l m = false
  | [], [], h => absurd rfl h
  | [], _ :: _, _ => rfl
  | _ :: _, [], _ => rfl
  | t :: l, u :: m, h => by
    unfold allS
    rw [allS_len (l := l) (m := m) (by simpa using h), Bool.and_false]
theorem allS_drop {α : Type} {f : α → α → Bool} {l m : List α} {k : Nat} {t u : α} (ht : l[k]? = some t) (hu : m[k]? = some u) : allS f (l.drop k) (m.drop k) = (f t u && allS f (l.drop (k + 1)) (m.drop (k + 1))) := by
  have h1 : l.drop k = t :: l.drop (k + 1) := by rw [List.drop_eq_getElem_cons (List.getElem?_eq_some_iff.1 ht).1, (List.getElem?_eq_some_iff.1 ht).2]
  have h2 : m.drop k = u :: m.drop (k + 1) := by rw [List.drop_eq_getElem_cons (List.getElem?_eq_some_iff.1 hu).1, (List.getElem?_eq_some_iff.1 hu).2]
  rw [h1, h2]
  rfl
theorem allS_end {α : Type} {f : α → α → Bool} {l m : List α} {k : Nat} (hl : l.length ≤ k) (hm : m.length ≤ k) : allS f (l.drop k) (m.drop k) = true := by
  rw [List.drop_of_length_le hl, List.drop_of_length_le hm]; rfl

end Go.Proofs.YtfcfehflocglpaaDoor
