/- dsafe.numberOf: errors.Is through Unwrap. A region that draws its order: each operation once, under a word on what has run. A region that reads, builds an element, puts it behind a row of one's own and stores the row in a box: whatever the order. A region that reads, makes a row, puts a list and then an element of its own making behind it, and stores the row in a box: whatever the order. dsafe.visit: the names of all variables of a list of terms and within it, until the round says 'no more'; the rounds may write blocks that they own. dsafe.eachVar, varsOf: the names of a list of terms, each once. dsafe, plain: places, parts, which are ready, the walk. -/
import Derived.Test.YtfcfehflocglpaaDoorKYap
import Derived.Test.YtfcfehflocglpaaDoorKAny
import Derived.Test.YtfcfehflocglpaaDoorKSpr
import Derived.Test.YtfcfehflocglpaaDoorKYvis
import Derived.Test.YtfcfehflocglpaaDoorKYpl
import Derived.Test.YtfcfehflocglpaaDoorKYsh
namespace Go.Proofs.YtfcfehflocglpaaDoor
open Go.RowKit Go.Extern Go.Extern.Rtype Go.Extern.Stop Go.Stop

/-- dsafe's two sentinels. -/
structure ZEnv (n : Nat) (a b : Addr) (w : World) : Prop where
  tr : w.cell? ⟨5, 0, none⟩ = some (errV a)
  un : w.cell? ⟨6, 0, none⟩ = some (errV b)
  ne : a ≠ b
  ra : ∃ cs t, w.heap[a.block]? = some (.cells cs t (0, 0))
  rb : ∃ cs t, w.heap[b.block]? = some (.cells cs t (0, 0))
  big : 5 < n ∧ 6 < n ∧ a.block < n ∧ b.block < n
theorem ZEnv.below {n : Nat} {a b : Addr} {w w' : World} (h : ZEnv n a b w) (k : Below n w w') : ZEnv n a b w' := by
  have hb := h.big
  have e : ∀ g v, g < n → w.cell? ⟨g, 0, none⟩ = some v → w'.cell? ⟨g, 0, none⟩ = some v := fun g v hg h => (k.cell (by show g < n; exact hg)).trans h
  obtain ⟨ca, ta, ha⟩ := h.ra
  obtain ⟨cb, tb, hb'⟩ := h.rb
  exact ⟨e _ _ hb.1 h.tr, e _ _ hb.2.1 h.un, h.ne, ⟨ca, ta, (k.block _ hb.2.2.1).trans ha⟩, ⟨cb, tb, (k.block _ hb.2.2.2).trans hb'⟩, hb⟩
theorem ZEnv.more {n n' : Nat} {a b : Addr} {w : World} (h : ZEnv n a b w) (hn : n ≤ n') : ZEnv n' a b w :=
  ⟨h.tr, h.un, h.ne, h.ra, h.rb, ⟨Nat.lt_of_lt_of_le h.big.1 hn, Nat.lt_of_lt_of_le h.big.2.1 hn, Nat.lt_of_lt_of_le h.big.2.2.1 hn, Nat.lt_of_lt_of_le h.big.2.2.2 hn⟩⟩

theorem noIsR (v : Value) (xT : TypeId) (w : World) : (Instr.typeAssert (.iface 126 v) xT 163 true).run Tryd.prog w = .ok (.tuple #[.nilIface, .bool false]) w := run_typeAssert_lacksB Tryd.underlying163 (by kernel_rfl) (by kernel_rfl) v xT w
theorem hasUnwrapR (v : Value) (xT : TypeId) (w : World) : (Instr.typeAssert (.iface 126 v) xT 166 true).run Tryd.prog w = .ok (.tuple #[.iface 126 v, .bool true]) w := run_typeAssert_hasB Tryd.underlying166 (by kernel_rfl) v xT w
theorem methodUnwrapR (x : Value) (w : World) : (Go.method 330 126 (.agg #[x]) "Unwrap").run Tryd.prog w = .ok (159, .agg #[x]) w := by kernel_rfl
theorem unwrapR_c (x : Int) (b : Addr) (w : World) (hg : w.cell? ⟨6, 0, none⟩ = some (errV b)) (hl : 6 < w.heap.size) :
    Calls Tryd.prog 159 #[.agg #[.int .i64 x]] w fun e w' => e = .returned (errV b) ∧ Below w.heap.size w w' := by
  unfold errV at *
  go_enter Tryd.func159, Tryd.ntmps159
  go_wp2
  go_ret
  exact ⟨rfl, (Below.refl _ _).alloc (Nat.le_refl _) _⟩
set_option maxRecDepth 100000 in
set_option maxHeartbeats 8000000 in
/-- errors.Is of it and what it wraps. -/
theorem isR_yes (x : Int) (b : Addr) (w : World) (hg : w.cell? ⟨6, 0, none⟩ = some (errV b)) (hl : 6 < w.heap.size) :
    Calls Tryd.prog 59 #[.iface 126 (.agg #[.int .i64 x]), errV b] w fun e w' => e = .returned (.bool true) ∧ Below w.heap.size w w' := by
  obtain ⟨i, hi, hcmp⟩ := Option.map_eq_some_iff.1 isComp
  obtain ⟨j, hj, hjs⟩ := Option.map_eq_some_iff.1 isSize
  have h39 := @run_callFunc_extern Tryd.prog 83 _ Extern.ReflectliteType.typeOf Tryd.func83 (by kernel_rfl) (by kernel_rfl) (by kernel_rfl) (by kernel_rfl)
  have tT := isTypeOf
  have cT := isCalled
  have mR := isMethodComparable
  have nE := noIsR
  have uE := hasUnwrapR
  have mU := methodUnwrapR
  have HU := Lib.hid (fun (W : World) (hb : Below w.heap.size w W) => unwrapR_c x b W ((hb.cell hl).trans hg) (Nat.lt_of_lt_of_le hl hb.size))
  have n1 := run_eql_iface_types (P := Tryd.prog) 126 193 (.agg #[.int .i64 x]) (.pointer (some b)) Tryd.underlying80 (by decide)
  have heq := fun W => run_eql_iface_ptr_same (P := Tryd.prog) W b Tryd.underlying80 Tryd.underlying193 hi hcmp hj
  unfold errV at *
  clear hg hl
  go_enter Tryd.func59, Tryd.ntmps59
  go_wp2
  refine wp_loop_rounds 2 ?_
  rw [rounds_succ]
  go_wp2_with (go_at_call 159; refine (HU.out w (Below.refl _ _)).mono ?_; rintro e w' ⟨rfl, hb⟩; have HB := Lib.hid hb; clear hb)
  rw [rounds_succ]
  go_wp2
  go_ret
  exact ⟨rfl, HB.out⟩
set_option maxRecDepth 100000 in
set_option maxHeartbeats 8000000 in
/-- errors.Is of it and another one. -/
theorem isR_no (x : Int) (a b : Addr) (w : World) (hg : w.cell? ⟨6, 0, none⟩ = some (errV b)) (hl : 6 < w.heap.size) (hne : a ≠ b) {ca cb : Array Value} {ta tb : TypeId} (ha : w.heap[a.block]? = some (.cells ca ta (0, 0))) (hb : w.heap[b.block]? = some (.cells cb tb (0, 0))) :
    Calls Tryd.prog 59 #[.iface 126 (.agg #[.int .i64 x]), errV a] w fun e w' => e = .returned (.bool false) ∧ Below w.heap.size w w' := by
  obtain ⟨i, hi, hcmp⟩ := Option.map_eq_some_iff.1 isComp
  obtain ⟨j, hj, hjs⟩ := Option.map_eq_some_iff.1 isSize
  have h39 := @run_callFunc_extern Tryd.prog 83 _ Extern.ReflectliteType.typeOf Tryd.func83 (by kernel_rfl) (by kernel_rfl) (by kernel_rfl) (by kernel_rfl)
  have tT := isTypeOf
  have cT := isCalled
  have mR := isMethodComparable
  have nE := noIsR
  have uE := hasUnwrapR
  have nE2 := noIsE
  have uE2 := noUnwrapE
  have vE2 := noUnwrapsE
  have mU := methodUnwrapR
  have HU := Lib.hid (fun (W : World) (hb : Below w.heap.size w W) => unwrapR_c x b W ((hb.cell hl).trans hg) (Nat.lt_of_lt_of_le hl hb.size))
  have n1 := run_eql_iface_types (P := Tryd.prog) 126 193 (.agg #[.int .i64 x]) (.pointer (some a)) Tryd.underlying80 (by decide)
  have HQ := Lib.hid (fun (W : World) (hw : Below w.heap.size w W) => run_eql_iface_ptr_other (P := Tryd.prog) W Tryd.underlying80 Tryd.underlying193 hi hcmp hj (by rw [hjs]; decide) (Ne.symm hne) ((hw.block _ (heap_lt hb)).trans hb) ((hw.block _ (heap_lt ha)).trans ha))
  unfold errV at *
  clear hg hl ha hb
  go_enter Tryd.func59, Tryd.ntmps59
  go_wp2
  refine wp_loop_rounds 2 ?_
  rw [rounds_succ]
  go_wp2_with (go_at_call 159; refine (HU.out w (Below.refl _ _)).mono ?_; rintro e w' ⟨rfl, hb⟩; have HB := Lib.hid hb; have heq := HQ.out w' hb; clear hb)
  rw [rounds_succ]
  go_wp2
  go_ret
  exact ⟨rfl, HB.out⟩
set_option maxRecDepth 100000 in
set_option maxHeartbeats 8000000 in
theorem numR_c (x : Int) (n : Nat) (a b : Addr) (w : World) (E : ZEnv n a b w) (hn : n ≤ w.heap.size) :
    Calls Tryd.prog 54 #[.iface 126 (.agg #[.int .i64 x])] w fun e w' => e = .returned (.int .i64 60) ∧ Below w.heap.size w w' := by
  obtain ⟨ca, ta, ra⟩ := E.ra
  obtain ⟨cb, tb, rb⟩ := E.rb
  have hl : 6 < w.heap.size := Nat.lt_of_lt_of_le E.big.2.1 hn
  have HN := Lib.hid (isR_no x a b w E.un hl E.ne ra rb)
  have HY := Lib.hid (fun (W : World) (hb : Below w.heap.size w W) => isR_yes x b W ((hb.cell hl).trans E.un) (Nat.lt_of_lt_of_le hl hb.size))
  have HE2 := Lib.hid (fun (W : World) (hb : Below w.heap.size w W) => (hb.cell (p := ⟨6, 0, none⟩) hl).trans E.un)
  have h1 := E.tr
  have h2 := E.un
  have l1 : 5 < w.heap.size := Nat.lt_of_lt_of_le E.big.1 hn
  clear ra rb E
  go_enter Tryd.func54, Tryd.ntmps54
  unfold errV at *
  go_wp2_with fail
  refine (HN.out).mono ?_
  rintro e w1 ⟨rfl, hb1⟩
  have B1 := Lib.hid hb1
  have h3 := HE2.out w1 hb1
  clear hb1
  go_wp2_with fail
  refine (HY.out w1 B1.out).mono ?_
  rintro e w2 ⟨rfl, hb2⟩
  have B2 := Lib.hid (B1.out.trans (hb2.mono B1.out.size))
  clear hb2
  go_wp2
  go_ret
  exact ⟨rfl, B2.out⟩

theorem noIsB (v : Value) (xT : TypeId) (w : World) : (Instr.typeAssert (.iface 131 v) xT 163 true).run Tryd.prog w = .ok (.tuple #[.nilIface, .bool false]) w := run_typeAssert_lacksB Tryd.underlying163 (by kernel_rfl) (by kernel_rfl) v xT w
theorem hasUnwrapB (v : Value) (xT : TypeId) (w : World) : (Instr.typeAssert (.iface 131 v) xT 166 true).run Tryd.prog w = .ok (.tuple #[.iface 131 v, .bool true]) w := run_typeAssert_hasB Tryd.underlying166 (by kernel_rfl) v xT w
theorem methodUnwrapB (x : Value) (w : World) : (Go.method 330 131 (.agg #[x]) "Unwrap").run Tryd.prog w = .ok (161, .agg #[x]) w := by kernel_rfl
theorem unwrapB_c (x : ByteArray) (b : Addr) (w : World) (hg : w.cell? ⟨6, 0, none⟩ = some (errV b)) (hl : 6 < w.heap.size) :
    Calls Tryd.prog 161 #[.agg #[.string x]] w fun e w' => e = .returned (errV b) ∧ Below w.heap.size w w' := by
  unfold errV at *
  go_enter Tryd.func161, Tryd.ntmps161
  go_wp2
  go_ret
  exact ⟨rfl, (Below.refl _ _).alloc (Nat.le_refl _) _⟩
set_option maxRecDepth 100000 in
set_option maxHeartbeats 8000000 in
/-- errors.Is of it and what it wraps. -/
theorem isB_yes (x : ByteArray) (b : Addr) (w : World) (hg : w.cell? ⟨6, 0, none⟩ = some (errV b)) (hl : 6 < w.heap.size) :
    Calls Tryd.prog 59 #[.iface 131 (.agg #[.string x]), errV b] w fun e w' => e = .returned (.bool true) ∧ Below w.heap.size w w' := by
  obtain ⟨i, hi, hcmp⟩ := Option.map_eq_some_iff.1 isComp
  obtain ⟨j, hj, hjs⟩ := Option.map_eq_some_iff.1 isSize
  have h39 := @run_callFunc_extern Tryd.prog 83 _ Extern.ReflectliteType.typeOf Tryd.func83 (by kernel_rfl) (by kernel_rfl) (by kernel_rfl) (by kernel_rfl)
  have tT := isTypeOf
  have cT := isCalled
  have mR := isMethodComparable
  have nE := noIsB
  have uE := hasUnwrapB
  have mU := methodUnwrapB
  have HU := Lib.hid (fun (W : World) (hb : Below w.heap.size w W) => unwrapB_c x b W ((hb.cell hl).trans hg) (Nat.lt_of_lt_of_le hl hb.size))
  have n1 := run_eql_iface_types (P := Tryd.prog) 131 193 (.agg #[.string x]) (.pointer (some b)) Tryd.underlying80 (by decide)
  have heq := fun W => run_eql_iface_ptr_same (P := Tryd.prog) W b Tryd.underlying80 Tryd.underlying193 hi hcmp hj
  unfold errV at *
  clear hg hl
  go_enter Tryd.func59, Tryd.ntmps59
  go_wp2
  refine wp_loop_rounds 2 ?_
  rw [rounds_succ]
  go_wp2_with (go_at_call 161; refine (HU.out w (Below.refl _ _)).mono ?_; rintro e w' ⟨rfl, hb⟩; have HB := Lib.hid hb; clear hb)
  rw [rounds_succ]
  go_wp2
  go_ret
  exact ⟨rfl, HB.out⟩
set_option maxRecDepth 100000 in
set_option maxHeartbeats 8000000 in
/-- errors.Is of it and another one. -/
theorem isB_no (x : ByteArray) (a b : Addr) (w : World) (hg : w.cell? ⟨6, 0, none⟩ = some (errV b)) (hl : 6 < w.heap.size) (hne : a ≠ b) {ca cb : Array Value} {ta tb : TypeId} (ha : w.heap[a.block]? = some (.cells ca ta (0, 0))) (hb : w.heap[b.block]? = some (.cells cb tb (0, 0))) :
    Calls Tryd.prog 59 #[.iface 131 (.agg #[.string x]), errV a] w fun e w' => e = .returned (.bool false) ∧ Below w.heap.size w w' := by
  obtain ⟨i, hi, hcmp⟩ := Option.map_eq_some_iff.1 isComp
  obtain ⟨j, hj, hjs⟩ := Option.map_eq_some_iff.1 isSize
  have h39 := @run_callFunc_extern Tryd.prog 83 _ Extern.ReflectliteType.typeOf Tryd.func83 (by kernel_rfl) (by kernel_rfl) (by kernel_rfl) (by kernel_rfl)
  have tT := isTypeOf
  have cT := isCalled
  have mR := isMethodComparable
  have nE := noIsB
  have uE := hasUnwrapB
  have nE2 := noIsE
  have uE2 := noUnwrapE
  have vE2 := noUnwrapsE
  have mU := methodUnwrapB
  have HU := Lib.hid (fun (W : World) (hb : Below w.heap.size w W) => unwrapB_c x b W ((hb.cell hl).trans hg) (Nat.lt_of_lt_of_le hl hb.size))
  have n1 := run_eql_iface_types (P := Tryd.prog) 131 193 (.agg #[.string x]) (.pointer (some a)) Tryd.underlying80 (by decide)
  have HQ := Lib.hid (fun (W : World) (hw : Below w.heap.size w W) => run_eql_iface_ptr_other (P := Tryd.prog) W Tryd.underlying80 Tryd.underlying193 hi hcmp hj (by rw [hjs]; decide) (Ne.symm hne) ((hw.block _ (heap_lt hb)).trans hb) ((hw.block _ (heap_lt ha)).trans ha))
  unfold errV at *
  clear hg hl ha hb
  go_enter Tryd.func59, Tryd.ntmps59
  go_wp2
  refine wp_loop_rounds 2 ?_
  rw [rounds_succ]
  go_wp2_with (go_at_call 161; refine (HU.out w (Below.refl _ _)).mono ?_; rintro e w' ⟨rfl, hb⟩; have HB := Lib.hid hb; have heq := HQ.out w' hb; clear hb)
  rw [rounds_succ]
  go_wp2
  go_ret
  exact ⟨rfl, HB.out⟩
set_option maxRecDepth 100000 in
set_option maxHeartbeats 8000000 in
theorem numB_c (x : ByteArray) (n : Nat) (a b : Addr) (w : World) (E : ZEnv n a b w) (hn : n ≤ w.heap.size) :
    Calls Tryd.prog 54 #[.iface 131 (.agg #[.string x])] w fun e w' => e = .returned (.int .i64 60) ∧ Below w.heap.size w w' := by
  obtain ⟨ca, ta, ra⟩ := E.ra
  obtain ⟨cb, tb, rb⟩ := E.rb
  have hl : 6 < w.heap.size := Nat.lt_of_lt_of_le E.big.2.1 hn
  have HN := Lib.hid (isB_no x a b w E.un hl E.ne ra rb)
  have HY := Lib.hid (fun (W : World) (hb : Below w.heap.size w W) => isB_yes x b W ((hb.cell hl).trans E.un) (Nat.lt_of_lt_of_le hl hb.size))
  have HE2 := Lib.hid (fun (W : World) (hb : Below w.heap.size w W) => (hb.cell (p := ⟨6, 0, none⟩) hl).trans E.un)
  have h1 := E.tr
  have h2 := E.un
  have l1 : 5 < w.heap.size := Nat.lt_of_lt_of_le E.big.1 hn
  clear ra rb E
  go_enter Tryd.func54, Tryd.ntmps54
  unfold errV at *
  go_wp2_with fail
  refine (HN.out).mono ?_
  rintro e w1 ⟨rfl, hb1⟩
  have B1 := Lib.hid hb1
  have h3 := HE2.out w1 hb1
  clear hb1
  go_wp2_with fail
  refine (HY.out w1 B1.out).mono ?_
  rintro e w2 ⟨rfl, hb2⟩
  have B2 := Lib.hid (B1.out.trans (hb2.mono B1.out.size))
  clear hb2
  go_wp2
  go_ret
  exact ⟨rfl, B2.out⟩

set_option maxRecDepth 100000 in
set_option maxHeartbeats 8000000 in
theorem numT_c (n : Nat) (a b : Addr) (w : World) (E : ZEnv n a b w) :
    Calls Tryd.prog 54 #[errV a] w fun e w' => e = .returned (.int .i64 30) ∧ Below w.heap.size w w' := by
  have h1 := E.tr
  clear E
  unfold errV at *
  go_enter Tryd.func54, Tryd.ntmps54
  go_wp2_with fail
  refine (is_same a w).mono ?_
  rintro e w' ⟨rfl, rfl⟩
  go_wp2
  go_ret
  exact ⟨rfl, Below.refl _ _⟩
end Go.Proofs.YtfcfehflocglpaaDoor
namespace Go.Proofs.YtfcfehflocglpaaDoor
open Go.RowKit

/-- What is asked of one operation. -/
def FStep (P : Program) (Q : Exit → Act → World → Prop) (slots : List (Option Tmp)) (a0 : Act) (F : Array Bool → (Nat → Value) → World → Prop) (n i : Nat) (o : Oper) : Prop :=
  ∀ (l : Array Bool) (val : Nat → Value) (A : Act) (w : World) (K : Act → World → Prop), l.size = n → l.getD i false = false → (∀ j, depG o j = true → l.getD j false = true) → F l val w →
    (∀ s, (some s) ∉ slots → A.tmps[s]?.getD undef = a0.tmps[s]?.getD undef) → (∀ j s, slots[j]? = some (some s) → depG o j = true → A.tmps[s]?.getD undef = val j) →
    (∀ v w', F (l.setIfInBounds i true) (updV val i v) w' → K (A.put o.dst v) w') → o.wp P A w K Q
theorem wpAny_say {P : Program} {ops : Array Oper} {Q : Exit → Act → World → Prop} (slots : List (Option Tmp)) (a0 : Act) (w0 : World) (F : Array Bool → (Nat → Value) → World → Prop) (hdst : ops.toList.map (·.dst) = slots) (hok : slotsOk slots = true)
    (hac : (ops.toList.zipIdx.all fun q => q.1.after.all fun e => !Region.binds .any e || decide (e.on < q.2)) = true) (hg : (ops.toList.all fun o => o.guard.isNone) = true)
    (hsz : (slots.all fun d => match d with | none => true | some s => decide (s < a0.tmps.size)) = true)
    (hst : AllG (FStep P Q slots a0 F ops.size) 0 ops.toList) (start : F (Array.replicate ops.size false) (fun _ => undef) w0)
    (fin : ∀ (l : Array Bool) (val : Nat → Value) (w : World), (∀ i, i < ops.size → l.getD i false = true) → F l val w → Q .normal (putsA slots val 0 a0) w) : wpAny P .any ops Q ops.size (Array.replicate ops.size false) a0 w0 := by
  have hat : ∀ (i : Nat) (o : Oper), ops[i]? = some o → ops.toList[i]? = some o := fun i o h => (Array.getElem?_toList ..).trans h
  have hlen : slots.length = ops.size := by rw [← hdst]; simp
  have hD : ∀ (i : Nat) (o : Oper), ops[i]? = some o → o.dst = slotG slots i := by
    intro i o h
    unfold slotG
    rw [← hdst, List.getElem?_map, hat i o h]
    rfl
  have hS : ∀ (i : Nat), i < ops.size → slots[i]? = some (slotG slots i) := by
    intro i hi
    unfold slotG
    rw [List.getElem?_eq_getElem (by omega)]
    rfl
  have hne : ∀ i j, i < ops.size → j < ops.size → j ≠ i → slotG slots j ≠ slotG slots i ∨ slotG slots i = none := by
    intro i j hi hj hji
    unfold slotsOk at hok
    have h1 := List.all_eq_true.1 hok i (List.mem_range.2 (by omega))
    have h2 := List.all_eq_true.1 h1 j (List.mem_range.2 (by omega))
    simp only [Bool.or_eq_true, decide_eq_true_eq, beq_iff_eq, Option.isNone_iff_eq_none] at h2
    rcases h2 with (h2 | h2) | h2
    · exact absurd h2 hji
    · exact .inl h2
    · exact .inr h2
  have hlt : ∀ (j : Nat) (s : Tmp), slots[j]? = some (some s) → s < a0.tmps.size := fun j s h => by
    have := List.all_eq_true.1 hsz _ (List.mem_of_getElem? h)
    simpa using this
  refine wpAny_flow (slotG slots) hD hne ?_ ?_ a0 F ?_ ?_ w0 (fun _ => undef) start
  · intro i o h e he hbn
    have hm : (o, i) ∈ ops.toList.zipIdx := List.mem_zipIdx_iff_getElem?.2 (hat i o h)
    have := List.all_eq_true.1 hac _ hm
    have := Array.all_eq_true_iff_forall_mem.1 this e he
    rw [hbn] at this
    simpa using this
  · intro i o h
    have := List.all_eq_true.1 hg o (List.mem_of_getElem? (hat i o h))
    simpa using this
  · rintro l val w i o hF hl ho hf hd A K hA hK
    have hs := hst.at (hat i o ho)
    rw [Nat.zero_add] at hs
    have ev : ∀ (B : Act) (s : Tmp), B.tmps[s]?.getD undef = B.eval (.tmp s) := fun B s => by rw [← Array.getD_eq_getD_getElem?]; rfl
    refine hs l val A w K hl hf (fun j h => depG_of h hd) hF ?_ ?_ hK
    · intro s hs
      rw [ev, ev, hA]
      refine actsL_far _ _ fun j hj e => hs ?_
      rw [← e]
      exact List.mem_of_getElem? (hS j (List.mem_range.1 hj))
    · intro j s hj hdep
      have hjl := depG_of hdep hd
      have hjs : j < ops.size := by rw [← hlen]; exact (List.getElem?_eq_some_iff.1 hj).1
      have hsl : slotG slots j = some s := by unfold slotG; rw [hj]; rfl
      rw [ev, hA, actsL_eval hjl hsl _ _ (List.mem_range.2 hjs) List.nodup_range (fun k hk hkj e => ?_) (hlt j s hj)]
      rcases hne j k hjs (List.mem_range.1 hk) hkj with h | h
      · exact h (e.trans hsl.symm)
      · rw [hsl] at h; cases h
  · rintro l val w hF hall
    have h1 : ∀ i, i < slots.length → slots[i]? = some (slotG slots (0 + i)) := fun i hi => by rw [Nat.zero_add]; exact hS i (by omega)
    have h2 : ∀ i, i < slots.length → l.getD (0 + i) false = true := fun i hi => by rw [Nat.zero_add]; exact hall i (by omega)
    have e : (List.range slots.length).map (0 + ·) = List.range ops.size := by rw [hlen]; simp
    have := puts_all (D := slotG slots) (l := l) (val := val) slots 0 a0 h1 h2
    rw [e] at this
    rw [this]
    exact fin l val w hall hF
end Go.Proofs.YtfcfehflocglpaaDoor
namespace Go.Proofs.YtfcfehflocglpaaDoor
open Go.RowKit

theorem ntb {p : Bool} (h : p = false) (h' : p = true) {C : Prop} : C := by rw [h] at h'; cases h'
/-- What has run: i1 loads the row, i7 builds the element, i8 appends it, i10 stores the row. -/
structure FB (i1 i7 i8 i10 : Nat) (ps : List (Nat × Nat)) (R : List (Value → Prop)) (W0 : World) (E7 E8 : Value → World → Prop) (E10 : World → Prop) (l : Array Bool) (val : Nat → Value) (w : World) : Prop where
  rd : ∀ j p, l.getD j false = true → R[j]? = some p → p (val j)
  dp : ∀ q ∈ ps, l.getD q.1 false = true → l.getD q.2 false = true
  s0 : l.getD i7 false = false → Below W0.heap.size W0 w
  s7 : l.getD i7 false = true → l.getD i8 false = false → Below W0.heap.size W0 w ∧ E7 (val i7) w
  s8 : l.getD i8 false = true → l.getD i10 false = false → E8 (val i8) w
  s10 : l.getD i10 false = true → E10 w
section
variable {i1 i7 i8 i10 n : Nat} {ps : List (Nat × Nat)} {R : List (Value → Prop)} {W0 w w' : World} {E7 E8 : Value → World → Prop} {E10 : World → Prop} {l : Array Bool} {val : Nat → Value}
theorem FB.start : FB i1 i7 i8 i10 ps R W0 E7 E8 E10 (Array.replicate n false) val W0 := by
  have rep : ∀ j, (Array.replicate n false).getD j false = false := by
    intro j
    simp [Array.getD_eq_getD_getElem?, Array.getElem?_replicate]
    split <;> simp
  constructor
  · intro j p h; exact ntb (rep _) h
  · intro q _ h; exact ntb (rep _) h
  · intro _; exact Below.refl _ _
  · intro h; exact ntb (rep _) h
  · intro h; exact ntb (rep _) h
  · intro h; exact ntb (rep _) h
theorem FB.upd (h : FB i1 i7 i8 i10 ps R W0 E7 E8 E10 l val w) {i : Nat} {v : Value} (hl : i < l.size) (hn : l.getD i false = false) (hd : ∀ q ∈ ps, q.1 = i → l.getD q.2 false = true) (hv : ∀ p, R[i]? = some p → p v) :
    (∀ j p, (l.setIfInBounds i true).getD j false = true → R[j]? = some p → p (updV val i v j)) ∧ (∀ q ∈ ps, (l.setIfInBounds i true).getD q.1 false = true → (l.setIfInBounds i true).getD q.2 false = true) := by
  refine ⟨fun j p hj hp => ?_, fun q hq h1 => ?_⟩
  · by_cases e : j = i
    · subst e; rw [updV_same]; exact hv p hp
    · rw [updV_other _ _ e]; rw [getD_set e] at hj; exact h.rd j p hj hp
  · by_cases e2 : q.2 = i
    · rw [e2]; exact getD_same hl
    · rw [getD_set e2]
      by_cases e1 : q.1 = i
      · exact hd q hq e1
      · rw [getD_set e1] at h1; exact h.dp q hq h1
theorem FB.read (h : FB i1 i7 i8 i10 ps R W0 E7 E8 E10 l val w) {i : Nat} {v : Value} (hl : i < l.size) (hn : l.getD i false = false) (hd : ∀ q ∈ ps, q.1 = i → l.getD q.2 false = true) (hv : ∀ p, R[i]? = some p → p v) (h7 : i ≠ i7) (h8 : i ≠ i8) (h10 : i ≠ i10) :
    FB i1 i7 i8 i10 ps R W0 E7 E8 E10 (l.setIfInBounds i true) (updV val i v) w := by
  obtain ⟨a, b⟩ := h.upd hl hn hd hv
  refine ⟨a, b, ?_, ?_, ?_, ?_⟩
  · rw [getD_set (Ne.symm h7)]; exact h.s0
  · rw [getD_set (Ne.symm h7), getD_set (Ne.symm h8), updV_other _ _ (Ne.symm h7)]; exact h.s7
  · rw [getD_set (Ne.symm h8), getD_set (Ne.symm h10), updV_other _ _ (Ne.symm h8)]; exact h.s8
  · rw [getD_set (Ne.symm h10)]; exact h.s10
theorem FB.made (h : FB i1 i7 i8 i10 ps R W0 E7 E8 E10 l val w) {v : Value} (hl : i7 < l.size) (hn : l.getD i7 false = false) (hd : ∀ q ∈ ps, q.1 = i7 → l.getD q.2 false = true) (hv : ∀ p, R[i7]? = some p → p v) (h78 : i7 ≠ i8) (h710 : i7 ≠ i10) (p87 : (i8, i7) ∈ ps) (p108 : (i10, i8) ∈ ps)
    (hb : Below w.heap.size w w') (he : E7 v w') : FB i1 i7 i8 i10 ps R W0 E7 E8 E10 (l.setIfInBounds i7 true) (updV val i7 v) w' := by
  obtain ⟨a, b⟩ := h.upd hl hn hd hv
  have e8 : l.getD i8 false = false := by
    cases h8 : l.getD i8 false with
    | false => rfl
    | true => exact ntb hn (h.dp _ p87 h8)
  have e10 : l.getD i10 false = false := by
    cases h10 : l.getD i10 false with
    | false => rfl
    | true => exact ntb e8 (h.dp _ p108 h10)
  have h0 := h.s0 hn
  refine ⟨a, b, fun h => ?_, fun _ _ => ?_, fun h => ?_, fun h => ?_⟩
  · rw [getD_same hl] at h; cases h
  · rw [updV_same]; exact ⟨h0.trans (hb.mono h0.size), he⟩
  · rw [getD_set (Ne.symm h78)] at h; exact ntb e8 h
  · rw [getD_set (Ne.symm h710)] at h; exact ntb e10 h
theorem FB.appended (h : FB i1 i7 i8 i10 ps R W0 E7 E8 E10 l val w) {v : Value} (hl : i8 < l.size) (hn : l.getD i8 false = false) (hd : ∀ q ∈ ps, q.1 = i8 → l.getD q.2 false = true) (hv : ∀ p, R[i8]? = some p → p v) (h78 : i7 ≠ i8) (h810 : i8 ≠ i10) (p87 : (i8, i7) ∈ ps) (p108 : (i10, i8) ∈ ps)
    (he : E8 v w') : FB i1 i7 i8 i10 ps R W0 E7 E8 E10 (l.setIfInBounds i8 true) (updV val i8 v) w' := by
  obtain ⟨a, b⟩ := h.upd hl hn hd hv
  have e7 := hd _ p87 rfl
  have e10 : l.getD i10 false = false := by
    cases h10 : l.getD i10 false with
    | false => rfl
    | true => exact ntb hn (h.dp _ p108 h10)
  refine ⟨a, b, fun h => ?_, fun _ h => ?_, fun _ _ => ?_, fun h => ?_⟩
  · rw [getD_set h78] at h; exact ntb h e7
  · rw [getD_same hl] at h; cases h
  · rw [updV_same]; exact he
  · rw [getD_set (Ne.symm h810)] at h; exact ntb e10 h
theorem FB.stored (h : FB i1 i7 i8 i10 ps R W0 E7 E8 E10 l val w) {v : Value} (hl : i10 < l.size) (hn : l.getD i10 false = false) (hd : ∀ q ∈ ps, q.1 = i10 → l.getD q.2 false = true) (hv : ∀ p, R[i10]? = some p → p v) (h710 : i7 ≠ i10) (h810 : i8 ≠ i10) (p87 : (i8, i7) ∈ ps) (p108 : (i10, i8) ∈ ps)
    (he : E10 w') : FB i1 i7 i8 i10 ps R W0 E7 E8 E10 (l.setIfInBounds i10 true) (updV val i10 v) w' := by
  obtain ⟨a, b⟩ := h.upd hl hn hd hv
  have e8 := hd _ p108 rfl
  have e7 := h.dp _ p87 e8
  refine ⟨a, b, fun h => ?_, fun _ h => ?_, fun _ h => ?_, fun _ => he⟩
  · rw [getD_set h710] at h; exact ntb h e7
  · rw [getD_set h810] at h; exact ntb h e8
  · rw [getD_same hl] at h; cases h
end
end Go.Proofs.YtfcfehflocglpaaDoor
namespace Go.Proofs.YtfcfehflocglpaaDoor
open Go.RowKit

/-- What has run: i4 makes the row, i7 appends the list, i10 builds the element, i11 appends it, i13 stores the row. -/
structure FC (i4 i7 i10 i11 i13 : Nat) (ps : List (Nat × Nat)) (R : List (Value → Prop)) (W0 : World) (T : TypeId) (z m : Nat) (xs ys : List Value) (E13 : World → Prop) (l : Array Bool) (val : Nat → Value) (w : World) : Prop where
  rd : ∀ j p, l.getD j false = true → R[j]? = some p → p (val j)
  dp : ∀ q ∈ ps, l.getD q.1 false = true → l.getD q.2 false = true
  s13 : l.getD i13 false = false → Below W0.heap.size W0 w
  m4 : l.getD i4 false = true → l.getD i7 false = false → w.ownsRow W0.heap.size T z (val i4) 0 []
  m7 : l.getD i7 false = true → l.getD i11 false = false → w.ownsRow W0.heap.size T z (val i7) m xs
  b10 : l.getD i10 false = true → l.getD i11 false = false → ∃ b, val i10 = .slice (some ⟨b, 0, none⟩) 1 1 ∧ w.heap[b]? = some (.cells ys.toArray T (0, 0)) ∧ (l.getD i4 false = true → l.getD i7 false = false → (val i4).ownBlock ≠ some b)
  a11 : l.getD i11 false = true → l.getD i13 false = false → w.ownsRow W0.heap.size T z (val i11) (m + 1) (xs ++ ys)
  f13 : l.getD i13 false = true → E13 w
structure FCix (i4 i7 i10 i11 i13 : Nat) (ps : List (Nat × Nat)) : Prop where
  p74 : (i7, i4) ∈ ps
  p117 : (i11, i7) ∈ ps
  p1110 : (i11, i10) ∈ ps
  p1311 : (i13, i11) ∈ ps
  n47 : i4 ≠ i7
  n410 : i4 ≠ i10
  n411 : i4 ≠ i11
  n413 : i4 ≠ i13
  n710 : i7 ≠ i10
  n711 : i7 ≠ i11
  n713 : i7 ≠ i13
  n1011 : i10 ≠ i11
  n1013 : i10 ≠ i13
  n1113 : i11 ≠ i13
section
variable {i4 i7 i10 i11 i13 n : Nat} {ps : List (Nat × Nat)} {R : List (Value → Prop)} {W0 w w' : World} {T : TypeId} {z m : Nat} {xs ys : List Value} {E13 : World → Prop} {l : Array Bool} {val : Nat → Value}
theorem FC.start : FC i4 i7 i10 i11 i13 ps R W0 T z m xs ys E13 (Array.replicate n false) val W0 := by
  have rep : ∀ j, (Array.replicate n false).getD j false = false := by
    intro j
    simp [Array.getD_eq_getD_getElem?, Array.getElem?_replicate]
    split <;> simp
  constructor
  · intro j p h; exact ntb (rep _) h
  · intro q _ h; exact ntb (rep _) h
  · intro _; exact Below.refl _ _
  · intro h; exact ntb (rep _) h
  · intro h; exact ntb (rep _) h
  · intro h; exact ntb (rep _) h
  · intro h; exact ntb (rep _) h
  · intro h; exact ntb (rep _) h
theorem FC.upd (h : FC i4 i7 i10 i11 i13 ps R W0 T z m xs ys E13 l val w) {i : Nat} {v : Value} (hl : i < l.size) (hd : ∀ q ∈ ps, q.1 = i → l.getD q.2 false = true) (hv : ∀ p, R[i]? = some p → p v) :
    (∀ j p, (l.setIfInBounds i true).getD j false = true → R[j]? = some p → p (updV val i v j)) ∧ (∀ q ∈ ps, (l.setIfInBounds i true).getD q.1 false = true → (l.setIfInBounds i true).getD q.2 false = true) := by
  refine ⟨fun j p hj hp => ?_, fun q hq h1 => ?_⟩
  · by_cases e : j = i
    · subst e; rw [updV_same]; exact hv p hp
    · rw [updV_other _ _ e]; rw [getD_set e] at hj; exact h.rd j p hj hp
  · by_cases e2 : q.2 = i
    · rw [e2]; exact getD_same hl
    · rw [getD_set e2]
      by_cases e1 : q.1 = i
      · exact hd q hq e1
      · rw [getD_set e1] at h1; exact h.dp q hq h1
theorem FC.off (h : FC i4 i7 i10 i11 i13 ps R W0 T z m xs ys E13 l val w) {i j : Nat} (p : (j, i) ∈ ps) (hn : l.getD i false = false) : l.getD j false = false := by
  cases h8 : l.getD j false with
  | false => rfl
  | true => exact ntb hn (h.dp _ p h8)
theorem FC.read (h : FC i4 i7 i10 i11 i13 ps R W0 T z m xs ys E13 l val w) {i : Nat} {v : Value} (hl : i < l.size) (hd : ∀ q ∈ ps, q.1 = i → l.getD q.2 false = true) (hv : ∀ p, R[i]? = some p → p v) (h4 : i ≠ i4) (h7 : i ≠ i7) (h10 : i ≠ i10) (h11 : i ≠ i11) (h13 : i ≠ i13) :
    FC i4 i7 i10 i11 i13 ps R W0 T z m xs ys E13 (l.setIfInBounds i true) (updV val i v) w := by
  obtain ⟨a, b⟩ := h.upd hl hd hv
  refine ⟨a, b, ?_, ?_, ?_, ?_, ?_, ?_⟩
  · rw [getD_set (Ne.symm h13)]; exact h.s13
  · rw [getD_set (Ne.symm h4), getD_set (Ne.symm h7), updV_other _ _ (Ne.symm h4)]; exact h.m4
  · rw [getD_set (Ne.symm h7), getD_set (Ne.symm h11), updV_other _ _ (Ne.symm h7)]; exact h.m7
  · rw [getD_set (Ne.symm h10), getD_set (Ne.symm h11), getD_set (Ne.symm h4), getD_set (Ne.symm h7), updV_other _ _ (Ne.symm h10), updV_other _ _ (Ne.symm h4)]; exact h.b10
  · rw [getD_set (Ne.symm h11), getD_set (Ne.symm h13), updV_other _ _ (Ne.symm h11)]; exact h.a11
  · rw [getD_set (Ne.symm h13)]; exact h.f13
theorem FC.make (h : FC i4 i7 i10 i11 i13 ps R W0 T z m xs ys E13 l val w) (X : FCix i4 i7 i10 i11 i13 ps) {v : Value} (hl : i4 < l.size) (hn : l.getD i4 false = false) (hd : ∀ q ∈ ps, q.1 = i4 → l.getD q.2 false = true) (hv : ∀ p, R[i4]? = some p → p v)
    (ho : w'.ownsRow w.heap.size T z v 0 []) (hg : w.grownBy w' none) : FC i4 i7 i10 i11 i13 ps R W0 T z m xs ys E13 (l.setIfInBounds i4 true) (updV val i4 v) w' := by
  obtain ⟨a, b⟩ := h.upd hl hd hv
  have e7 := h.off X.p74 hn
  have e11 := h.off X.p117 e7
  have e13 := h.off X.p1311 e11
  have h0 := h.s13 e13
  have hb : Below w.heap.size w w' := ⟨hg.os, hg.tape, hg.output, hg.size, fun i hi => hg.block i hi (by simp)⟩
  refine ⟨a, b, fun _ => h0.trans (hb.mono h0.size), fun _ _ => ?_, fun h => ?_, fun h1 _ => ?_, fun h => ?_, fun h => ?_⟩
  · rw [updV_same]
    refine ⟨ho.1, ?_⟩
    rcases ho.2 with h1 | ⟨g, cap, cur, h1, h2, h3⟩
    · exact .inl h1
    · exact .inr ⟨g, cap, cur, h1, Nat.le_trans h0.size h2, h3⟩
  · rw [getD_set (Ne.symm X.n47)] at h; exact ntb e7 h
  · rw [getD_set (Ne.symm X.n410)] at h1
    obtain ⟨c, hc1, hc2, _⟩ := h.b10 h1 e11
    refine ⟨c, by rw [updV_other _ _ (Ne.symm X.n410)]; exact hc1, (hb.block c (Array.getElem?_eq_some_iff.1 hc2).1).trans hc2, fun _ _ => ?_⟩
    rw [updV_same]
    intro e
    have := (ho.lt c e).1
    have := (Array.getElem?_eq_some_iff.1 hc2).1
    omega
  · rw [getD_set (Ne.symm X.n411)] at h; exact ntb e11 h
  · rw [getD_set (Ne.symm X.n413)] at h; exact ntb e13 h
theorem FC.list (h : FC i4 i7 i10 i11 i13 ps R W0 T z m xs ys E13 l val w) (X : FCix i4 i7 i10 i11 i13 ps) {v : Value} (hl : i7 < l.size) (hn : l.getD i7 false = false) (hd : ∀ q ∈ ps, q.1 = i7 → l.getD q.2 false = true) (hv : ∀ p, R[i7]? = some p → p v)
    (ho : w'.ownsRow W0.heap.size T z v m xs) (hg : w.grownBy w' (val i4).ownBlock) : FC i4 i7 i10 i11 i13 ps R W0 T z m xs ys E13 (l.setIfInBounds i7 true) (updV val i7 v) w' := by
  obtain ⟨a, b⟩ := h.upd hl hd hv
  have e4 := hd _ X.p74 rfl
  have e11 := h.off X.p117 hn
  have e13 := h.off X.p1311 e11
  have h0 := h.s13 e13
  have h4 := h.m4 e4 hn
  refine ⟨a, b, fun _ => h0.grown hg h0.size (fun j hj => (h4.lt j hj).1), fun _ h => ?_, fun _ _ => ?_, fun h1 _ => ?_, fun h => ?_, fun h => ?_⟩
  · rw [getD_same hl] at h; cases h
  · rw [updV_same]; exact ho
  · rw [getD_set (Ne.symm X.n710)] at h1
    obtain ⟨c, hc1, hc2, hc3⟩ := h.b10 h1 e11
    refine ⟨c, by rw [updV_other _ _ (Ne.symm X.n710)]; exact hc1, (hg.block c (Array.getElem?_eq_some_iff.1 hc2).1 (fun e => hc3 e4 hn e.symm)).trans hc2, fun _ h => ?_⟩
    rw [getD_same hl] at h; cases h
  · rw [getD_set (Ne.symm X.n711)] at h; exact ntb e11 h
  · rw [getD_set (Ne.symm X.n713)] at h; exact ntb e13 h
theorem FC.built (h : FC i4 i7 i10 i11 i13 ps R W0 T z m xs ys E13 l val w) (X : FCix i4 i7 i10 i11 i13 ps) {v : Value} (hl : i10 < l.size) (hn : l.getD i10 false = false) (hd : ∀ q ∈ ps, q.1 = i10 → l.getD q.2 false = true) (hv : ∀ p, R[i10]? = some p → p v)
    (hb : Below w.heap.size w w') (he : ∃ b, v = .slice (some ⟨b, 0, none⟩) 1 1 ∧ w'.heap[b]? = some (.cells ys.toArray T (0, 0)) ∧ w.heap.size ≤ b) : FC i4 i7 i10 i11 i13 ps R W0 T z m xs ys E13 (l.setIfInBounds i10 true) (updV val i10 v) w' := by
  obtain ⟨a, b⟩ := h.upd hl hd hv
  have e11 := h.off X.p1110 hn
  have e13 := h.off X.p1311 e11
  have h0 := h.s13 e13
  obtain ⟨c, hc1, hc2, hc3⟩ := he
  refine ⟨a, b, fun _ => h0.trans (hb.mono h0.size), ?_, ?_, fun _ _ => ⟨c, ?_, hc2, ?_⟩, fun h => ?_, fun h => ?_⟩
  · rw [getD_set X.n410, getD_set X.n710, updV_other _ _ X.n410]
    exact fun h1 h2 => own_below (h.m4 h1 h2) hb
  · rw [getD_set X.n710, getD_set (Ne.symm X.n1011), updV_other _ _ X.n710]
    exact fun h1 h2 => own_below (h.m7 h1 h2) hb
  · rw [updV_same]; exact hc1
  · rw [getD_set X.n410, getD_set X.n710, updV_other _ _ X.n410]
    intro h1 h2 e
    have := ((h.m4 h1 h2).lt c e).2
    omega
  · rw [getD_set (Ne.symm X.n1011)] at h; exact ntb e11 h
  · rw [getD_set (Ne.symm X.n1013)] at h; exact ntb e13 h
theorem FC.last (h : FC i4 i7 i10 i11 i13 ps R W0 T z m xs ys E13 l val w) (X : FCix i4 i7 i10 i11 i13 ps) {v : Value} (hl : i11 < l.size) (hn : l.getD i11 false = false) (hd : ∀ q ∈ ps, q.1 = i11 → l.getD q.2 false = true) (hv : ∀ p, R[i11]? = some p → p v)
    (ho : w'.ownsRow W0.heap.size T z v (m + 1) (xs ++ ys)) (hg : w.grownBy w' (val i7).ownBlock) : FC i4 i7 i10 i11 i13 ps R W0 T z m xs ys E13 (l.setIfInBounds i11 true) (updV val i11 v) w' := by
  obtain ⟨a, b⟩ := h.upd hl hd hv
  have e7 := hd _ X.p117 rfl
  have e13 := h.off X.p1311 hn
  have h0 := h.s13 e13
  have h7 := h.m7 e7 hn
  refine ⟨a, b, fun _ => h0.grown hg h0.size (fun j hj => (h7.lt j hj).1), fun _ h => ?_, fun _ h => ?_, fun _ h => ?_, fun _ _ => ?_, fun h => ?_⟩
  · rw [getD_set X.n711] at h; exact ntb h e7
  · rw [getD_same hl] at h; cases h
  · rw [getD_same hl] at h; cases h
  · rw [updV_same]; exact ho
  · rw [getD_set (Ne.symm X.n1113)] at h; exact ntb e13 h
theorem FC.stored (h : FC i4 i7 i10 i11 i13 ps R W0 T z m xs ys E13 l val w) (X : FCix i4 i7 i10 i11 i13 ps) {v : Value} (hl : i13 < l.size) (hd : ∀ q ∈ ps, q.1 = i13 → l.getD q.2 false = true) (hv : ∀ p, R[i13]? = some p → p v)
    (he : E13 w') : FC i4 i7 i10 i11 i13 ps R W0 T z m xs ys E13 (l.setIfInBounds i13 true) (updV val i13 v) w' := by
  obtain ⟨a, b⟩ := h.upd hl hd hv
  have e11 := hd _ X.p1311 rfl
  have e7 := h.dp _ X.p117 e11
  refine ⟨a, b, fun h => ?_, fun _ h => ?_, fun _ h => ?_, fun _ h => ?_, fun _ h => ?_, fun _ => he⟩
  · rw [getD_same hl] at h; cases h
  · rw [getD_set X.n713] at h; exact ntb h e7
  · rw [getD_set X.n1113] at h; exact ntb h e11
  · rw [getD_set X.n1113] at h; exact ntb h e11
  · rw [getD_same hl] at h; cases h
end
end Go.Proofs.YtfcfehflocglpaaDoor
namespace Go.Proofs.YtfcfehflocglpaaDoor
open Go.RowKit Go.Shelf

attribute [local go_sem] Oper.semAt_some

/-- The names of variables, as they come. -/
def occ (ts : List Tm) : List ByteArray := (ts.filter (fun t => t.op == 1)).map Tm.s
theorem occ_app (a b : List Tm) : occ (a ++ b) = occ a ++ occ b := by simp [occ]
theorem occ_var {t : Tm} (h : t.op = 1) (l : List Tm) : occ (t :: l) = t.s :: occ l := by simp [occ, h]
theorem occ_non {t : Tm} (h : t.op ≠ 1) (l : List Tm) : occ (t :: l) = occ l := by simp [occ, h]
theorem occ_take {l : List Tm} {k : Nat} {t : Tm} (h : l[k]? = some t) : occ (subTs (l.take (k + 1))) = occ (subTs (l.take k)) ++ occ (t :: subTs t.l) := by rw [subTs_take h, occ_app]
theorem occ_pre (l : List Tm) (k : Nat) : occ (subTs (l.take k)) <+: occ (subTs l) := ⟨occ (subTs (l.drop k)), by rw [← occ_app, ← subTs_app, List.take_append_drop]⟩
/-- A name that has come. -/
structure Ns (G : ByteArray → Prop) where
  s : ByteArray
  good : G s
def Ns.enc {G : ByteArray → Prop} (x : Ns G) : Array Value := #[.string x.s]
section
variable {w0 : World} {n₀ : Nat} {G : ByteArray → Prop}
def ZPost (S : World → Nat → Prop) (J Jx : List (Ns G) → World → Prop) (l : List Tm) (pre : List (Ns G)) (W : World) (e : Ending) (W' : World) : Prop :=
  (e = .returned (.bool true) ∧ (∃ ys : List (Ns G), ys.map Ns.s = occ (subTs l) ∧ J (pre ++ ys) W') ∧ KO S W W') ∨ (e = .returned (.bool false) ∧ ∃ ys : List (Ns G), ys.map Ns.s <+: occ (subTs l) ∧ Jx (pre ++ ys) W')
def ZVisit (w0 : World) (n₀ lb N : Nat) (S : World → Nat → Prop) (J Jx : List (Ns G) → World → Prop) (l : List Tm) : Prop :=
  ∀ (n : Nat) (W : World) (v : Value) (pre : List (Ns G)), Safe S w0 W → (∀ i, S W i → i < W.heap.size) → SlSafe S w0 n₀ W l v → (∀ s ∈ occ (subTs l), G s) → J pre W → pre.length + (occ (subTs l)).length ≤ N →
    CallsIn Fence.wide n Tryd.prog 116 #[v, .func (.yield lb) #[] #[]] W (ZPost S J Jx l pre W)
set_option maxRecDepth 100000 in
set_option maxHeartbeats 8000000 in
theorem zvisit_list (lb N : Nat) (S : World → Nat → Prop) (J Jx : List (Ns G) → World → Prop)
    (hG : SGrow S) (hJg : ∀ pre W W', J pre W → Below W.heap.size W W' → J pre W')
    (hY : ∀ m pre (x : Ns G) W, J pre W → pre.length < N → YieldAt Fence.wide m Tryd.prog lb x.enc W fun e W' => (e = .returned (.bool true) ∧ J (pre ++ [x]) W' ∧ KO S W W') ∨ (e = .returned (.bool false) ∧ Jx (pre ++ [x]) W'))
    (l : List Tm) (IH : ∀ t ∈ l, ZVisit w0 n₀ lb N S J Jx t.l) : ZVisit w0 n₀ lb N S J Jx l := by
  intro n W v pre hT hw hS hGd hJ hN
  obtain ⟨o1, cap1, rfl, hc1, hm1, hS1⟩ := hS
  have S1 := Lib.hid hS1
  have HI := Lib.hid IH
  have HJ := Lib.hid hJg
  have HW := Lib.hid hw
  have HY := Lib.hid hY
  have HT := Lib.hid hT
  have K0 : Hid (KO S W W) := Lib.hid (KO.refl S W)
  have J0 := Lib.hid hJ
  clear IH hJg hY hS1 hT hw
  refine callsIn_of_wp Tryd.func116 rfl trivial ?_ rfl
  simp only [Tryd.ntmps116, List.size_toArray, List.length_cons, List.length_nil, Nat.reduceAdd, Nat.reduceSub, Array.replicate_succ, Array.replicate_zero, List.push_toArray, List.append_toArray, List.nil_append, List.cons_append]
  gi_wp2
  gi_loopw [9] (fun i wr => ∃ (k : Nat) (ys : List (Ns G)), k ≤ l.length ∧ i = .int .i64 k ∧ ys.map Ns.s = occ (subTs (l.take k)) ∧ J (pre ++ ys) wr ∧ KO S W wr) (fun i _ => l.length - (intOf i).toNat)
  case atStart => exact ⟨0, [], Nat.zero_le _, rfl, by simp [subTs, occ], by simpa using J0.out, K0.out⟩
  case round =>
    obtain ⟨k, ys, hk, rfl, hys, hJk, hkk⟩ := hrel
    have Hys := Lib.hid hys
    clear hys
    have hTr : Safe S w0 wr := HT.out.ko hkk
    have hwr := hkk.wf HW.out
    by_cases hlt : k < l.length
    · have hlt' : (k : Int) < (l.length : Int) := by omega
      have hk0 : (0 : Int) ≤ (k : Int) := by omega
      obtain ⟨u, hu⟩ : ∃ u, l[k]? = some u := ⟨l[k], List.getElem?_eq_getElem hlt⟩
      obtain ⟨a, p2, q2, rfl, hal, Hc, c0, c1, c2, c3⟩ := ne_at S1 hkk hu
      have Htk := Lib.hid (occ_take hu)
      have Hm := Lib.hid (List.mem_of_getElem? hu)
      have hlen : (pre ++ ys).length + (occ (u :: subTs u.l)).length ≤ N := by
        have h1 := congrArg List.length Hys.out
        have h2 := (occ_pre l (k + 1)).length_le
        rw [Htk.out] at h2
        simp only [List.length_map, List.length_append] at h1 h2 hN ⊢
        omega
      have Hlen := Lib.hid hlen
      obtain ⟨V, hV⟩ : ∃ V, wr.alloc (.cells #[.int .i64 u.op, .string u.s, .int .i64 u.n, .slice p2 u.l.length q2] 43) = V := ⟨_, rfl⟩
      have hbV : Below wr.heap.size wr V := by rw [← hV]; exact (Below.refl _ _).alloc (Nat.le_refl _) _
      have JV := HJ.out _ _ _ hJk hbV
      have KV := KO.of_below hG hwr hbV
      have hnS : ¬ S V wr.heap.size := fun hs => Nat.lt_irrefl _ (hwr _ (hG _ _ hwr hbV _ hs))
      have hsV : V.heap.size = wr.heap.size + 1 := by rw [← hV]; simp
      have hrow : V.heap[wr.heap.size]? = some (.cells #[.int .i64 u.op, .string u.s, .int .i64 u.n, .slice p2 u.l.length q2] 43 (0, 0)) := by rw [← hV]; exact World.alloc_heap_new wr _
      have d0 : V.cell? ⟨wr.heap.size, 0, none⟩ = some (.int .i64 u.op) := by unfold World.cell?; rw [hrow]; rfl
      have d1 : V.cell? ⟨wr.heap.size, 1, none⟩ = some (.string u.s) := by unfold World.cell?; rw [hrow]; rfl
      have d3 : V.cell? ⟨wr.heap.size, 3, none⟩ = some (.slice p2 u.l.length q2) := by unfold World.cell?; rw [hrow]; rfl
      have hsub : ∀ s ∈ occ (u :: subTs u.l), s ∈ occ (subTs l) := fun s h => (occ_pre l (k + 1)).subset (by rw [Htk.out]; exact List.mem_append_right _ h)
      have Hsub := Lib.hid hsub
      have KVr := Lib.hid (hkk.trans KV)
      have Hrow := Lib.hid hrow
      have HnS := Lib.hid hnS
      have HsV := Lib.hid hsV
      have HSu := Lib.hid (tmc_sl Hc.out)
      have pfx : occ (subTs (l.take k)) ++ occ (u :: subTs u.l) <+: occ (subTs l) := by rw [← Htk.out]; exact occ_pre l (k + 1)
      have Pfx := Lib.hid pfx
      have HJV := Lib.hid JV
      clear hu hkk KV hnS hrow hbV hTr hJk JV hlen hwr pfx hsub
      by_cases hop : u.op = 1
      · have hov := occ_var hop (subTs u.l)
        rw [hov] at Hsub Hlen Pfx Htk
        have hgu := hGd u.s (Hsub.out u.s (List.mem_cons_self ..))
        have Hgd := Lib.hid hGd
        obtain ⟨x, hx⟩ : ∃ x : Ns G, x = ⟨u.s, hgu⟩ := ⟨_, rfl⟩
        have hxe : x.enc = #[.string u.s] := by rw [hx]; rfl
        have hxt : x.s = u.s := by rw [hx]
        obtain ⟨fn, tmps, assign, body, hy, hR⟩ := HY.out (n - 1) (pre ++ ys) x V HJV.out (by have := Hlen.out; simp only [List.length_append, List.length_cons] at this ⊢; omega)
        rw [hxe] at hy
        have Hxt := Lib.hid hxt
        have hq1 : (u.op == 1) = true := by simp [hop]
        clear hx hxe hxt hov hgu hGd hop
        gi_wp2
        refine ⟨fun h => (by cases h), hR.mono ?_⟩
        rintro e W1 (⟨rfl, hJ2, hk2⟩ | ⟨rfl, hx2⟩)
        · have e3 : W1.cell? ⟨wr.heap.size, 3, none⟩ = some (.slice p2 u.l.length q2) := hk2.cell d3 HnS.out
          have hK2 := Lib.hid (KVr.out.trans hk2)
          have hTr2 : Safe S w0 W1 := HT.out.ko hK2.out
          have hlr : wr.heap.size < W1.heap.size := by have := hk2.size; have := HsV.out; omega
          have HC := Lib.hid (HI.out u Hm.out (n - 1) W1 _ (pre ++ ys ++ [x]) hTr2 (hK2.out.wf HW.out) (slSafe_of HSu.out hTr2) (fun t h => Hgd.out t (Hsub.out t (List.mem_cons_of_mem _ h))) hJ2 (by have := Hlen.out; simp only [List.length_append, List.length_cons, List.length_nil] at this ⊢; omega))
          clear hTr2 hJ2 hk2 c0 c1 c2 c3 d0 d1 d3
          gi_wp2_with fail
          refine ⟨trivial, fun h => (by cases h), HC.out.mono ?_⟩
          rintro e W2 (⟨rfl, ⟨zs, hz, hJ3⟩, hk3⟩ | ⟨rfl, zs, hz, hx3⟩)
          · have Hz := Lib.hid hz
            have HJ3 := Lib.hid hJ3
            have HK3 := Lib.hid (hK2.out.trans hk3)
            clear hz hJ3 hk3
            gi_wp2
            go_roundw
            case rel =>
              exact ⟨k + 1, ys ++ x :: zs, hlt, by go_num, by rw [List.map_append, List.map_cons, Hys.out, Hz.out, Hxt.out, Htk.out], by have := HJ3.out; simpa using this, HK3.out⟩
            case measure => simp [intOf]; omega
          · have Hz := Lib.hid hz
            have HX3 := Lib.hid hx3
            clear hz hx3
            gi_wp2
            go_ret
            refine .inr ⟨rfl, ys ++ x :: zs, ?_, by have := HX3.out; simpa using this⟩
            rw [List.map_append, List.map_cons, Hys.out, Hxt.out]
            obtain ⟨r, hr⟩ := Hz.out
            obtain ⟨r2, hr2⟩ := Pfx.out
            exact ⟨r ++ r2, by rw [← hr2, ← hr]; simp⟩
        · have HX2 := Lib.hid hx2
          clear hx2 c0 c1 c2 c3 d0 d1 d3
          gi_wp2
          refine ⟨trivial, ?_⟩
          gi_wp2
          go_ret
          refine .inr ⟨rfl, ys ++ [x], ?_, by have := HX2.out; simpa using this⟩
          rw [List.map_append, Hys.out, List.map_cons, List.map_nil, Hxt.out]
          obtain ⟨r2, hr2⟩ := Pfx.out
          exact ⟨occ (subTs u.l) ++ r2, by rw [← hr2]; simp⟩
      · have hov := occ_non hop (subTs u.l)
        rw [hov] at Hsub Hlen Pfx Htk
        have hq1 : (u.op == 1) = false := by simpa using hop
        have hTr2 : Safe S w0 V := HT.out.ko KVr.out
        have HC := Lib.hid (HI.out u Hm.out (n - 1) V _ (pre ++ ys) hTr2 (KVr.out.wf HW.out) (slSafe_of HSu.out hTr2) (fun t h => hGd t (Hsub.out t h)) HJV.out Hlen.out)
        have hlr : wr.heap.size < V.heap.size := by have := HsV.out; omega
        clear hTr2 hov hGd
        gi_wp2_with fail
        refine ⟨fun f h => (by cases h), ?_⟩
        gi_wp2_with fail
        refine ⟨trivial, fun h => (by cases h), HC.out.mono ?_⟩
        rintro e W2 (⟨rfl, ⟨zs, hz, hJ3⟩, hk3⟩ | ⟨rfl, zs, hz, hx3⟩)
        · have Hz := Lib.hid hz
          have HJ3 := Lib.hid hJ3
          have HK3 := Lib.hid (KVr.out.trans hk3)
          clear hz hJ3 hk3 c0 c1 c2 c3 d0 d1 d3
          gi_wp2
          go_roundw
          case rel =>
            exact ⟨k + 1, ys ++ zs, hlt, by go_num, by rw [List.map_append, Hys.out, Hz.out, Htk.out], by have := HJ3.out; simpa using this, HK3.out⟩
          case measure => simp [intOf]; omega
        · have Hz := Lib.hid hz
          have HX3 := Lib.hid hx3
          clear hz hx3 c0 c1 c2 c3 d0 d1 d3
          gi_wp2
          go_ret
          refine .inr ⟨rfl, ys ++ zs, ?_, by have := HX3.out; simpa using this⟩
          rw [List.map_append, Hys.out]
          obtain ⟨r, hr⟩ := Hz.out
          obtain ⟨r2, hr2⟩ := Pfx.out
          exact ⟨r ++ r2, by rw [← hr2, ← hr]; simp⟩
    · have hlt' : ¬ (k : Int) < (l.length : Int) := by omega
      gi_wp2
      go_ret
      refine .inl ⟨rfl, ⟨ys, ?_, hJk⟩, hkk⟩
      rw [Hys.out, List.take_of_length_le (by omega)]
end
end Go.Proofs.YtfcfehflocglpaaDoor
namespace Go.Proofs.YtfcfehflocglpaaDoor
open Go.RowKit Go.Shelf

attribute [local go_sem] Oper.semAt_some

section
variable {w0 : World} {n₀ : Nat} {G : ByteArray → Prop}
/-- .. of whatever list. -/
theorem zvisit_in (lb N : Nat) (S : World → Nat → Prop) (J Jx : List (Ns G) → World → Prop)
    (hG : SGrow S) (hJg : ∀ pre W W', J pre W → Below W.heap.size W W' → J pre W')
    (hY : ∀ m pre (x : Ns G) W, J pre W → pre.length < N → YieldAt Fence.wide m Tryd.prog lb x.enc W fun e W' => (e = .returned (.bool true) ∧ J (pre ++ [x]) W' ∧ KO S W W') ∨ (e = .returned (.bool false) ∧ Jx (pre ++ [x]) W'))
    (l : List Tm) : ZVisit w0 n₀ lb N S J Jx l := by
  have all : ∀ t : Tm, ZVisit w0 n₀ lb N S J Jx t.l := by
    intro t
    induction t using Tm.rec (motive_2 := fun ts => ∀ t ∈ ts, ZVisit w0 n₀ lb N S J Jx t.l) with
    | nil x hx => simp at hx
    | cons t ts ih ihs x hx =>
      rcases List.mem_cons.1 hx with rfl | hx
      · exact ih
      · exact ihs x hx
    | mk op s m ts ih => exact zvisit_list lb N S J Jx hG hJg hY ts ih
  exact zvisit_list lb N S J Jx hG hJg hY l fun t _ => all t
end
theorem zeach_in (n : Nat) (o : Option Addr) (k c : Nat) (w : World) :
    CallsIn Fence.wide n Tryd.prog 82 #[.slice o k c] w fun e w' => e = .returned (.func (.func 115) #[] #[.pointer (some ⟨w.heap.size, 0, none⟩)]) ∧ w' = w.alloc (.cells #[.slice o k c] 22) := by
  refine callsIn_of_wp Tryd.func82 rfl trivial ?_ rfl
  simp only [Tryd.ntmps82, List.size_toArray, List.length_cons, List.length_nil, Nat.reduceAdd, Nat.reduceSub, Array.replicate_succ, Array.replicate_zero, List.push_toArray, List.append_toArray, List.nil_append, List.cons_append]
  gi_wp2
  go_ret
  exact ⟨rfl, rfl⟩
set_option maxRecDepth 100000 in
set_option maxHeartbeats 4000000 in
/-- The box B holds the list: its names are gone through. -/
theorem zeach_stops {G : ByteArray → Prop} (n B n₀ : Nat) (l : List Tm) (v : Value) (w0 w : World) (S : World → Nat → Prop) (hG : SGrow S) (hs : Safe S w0 w) (hw : ∀ i, S w i → i < w.heap.size) (hB : w0.cell? ⟨B, 0, none⟩ = some v) (hc : TmS w0 n₀ l v) (hGd : ∀ s ∈ occ (subTs l), G s) :
    SeqStopsK Fence.wide n Tryd.prog 115 #[.pointer (some ⟨B, 0, none⟩)] (Ns.enc (G := G)) (KO S) (fun ys => ys.map Ns.s = occ (subTs l)) (fun pre => pre.map Ns.s <+: occ (subTs l)) (occ (subTs l)).length w := by
  intro lp J Jx W hW hJ _ hY h0
  have hKW := KO.of_below hG hw hW
  have hs1 := hs.ko hKW
  have hw1 := hKW.wf hw
  have hJg : ∀ pre W W', J pre W → Below W.heap.size W W' → J pre W' := fun pre W W' h hb => hJ pre W W' none h (grownBelow hb) (fun _ e => by cases e)
  have HC := Lib.hid (zvisit_in (w0 := w0) (n₀ := n₀) (G := G) lp (occ (subTs l)).length S J Jx hG hJg (fun m pre x W hj hl => yieldAny rfl m (hY pre x W hj hl)) l (n - 1) W v [] hs1 hw1 (slSafe_of hc hs1) hGd h0 (by simp))
  obtain ⟨o1, k1, rfl, _, _, _⟩ := SlOf.open hc
  have c0 : W.cell? ⟨B, 0, none⟩ = some (.slice o1 l.length k1) := (hs1 _ _ hB).1
  have hBl : B < W.heap.size := World.block_lt_of_cell? _ _ c0
  clear hKW hs1 hw1 hJg hB hc hY hJ h0 hs hw hW
  refine callsIn_of_wp Tryd.func115 rfl trivial ?_ rfl
  simp only [Tryd.ntmps115, List.size_toArray, List.length_cons, List.length_nil, Nat.reduceAdd, Nat.reduceSub, Array.replicate_succ, Array.replicate_zero, List.push_toArray, List.append_toArray, List.nil_append, List.cons_append]
  gi_wp2_with fail
  refine ⟨trivial, fun h => (by cases h), HC.out.mono ?_⟩
  rintro e W1 (⟨rfl, ⟨ys, hys, hJ1⟩, _⟩ | ⟨rfl, ys, hys, hx⟩)
  · have Hys := Lib.hid hys
    have HJ1 := Lib.hid hJ1
    clear hys hJ1 c0
    gi_wp2
    go_end0
    exact ⟨⟨_, rfl⟩, .inl ⟨ys, Hys.out, by simpa using HJ1.out⟩⟩
  · have Hys := Lib.hid hys
    have HX := Lib.hid hx
    clear hys hx c0
    gi_wp2
    go_end0
    exact ⟨⟨_, rfl⟩, .inr ⟨ys, Hys.out, by simpa using HX.out⟩⟩

/-! ### The names, each once -/
def cntN : List ByteArray → List UInt8 → Nat
  | [], _ => 0
  | t :: ts, s => cntN ts s + (if t.data.toList = s then 1 else 0)
theorem cntN_snoc (ts : List ByteArray) (t : ByteArray) (s : List UInt8) : cntN (ts ++ [t]) s = cntN ts s + (if t.data.toList = s then 1 else 0) := by
  induction ts with
  | nil => simp [cntN]
  | cons u ts ih => simp only [List.cons_append, cntN, ih]; omega
theorem cntN_le (ts : List ByteArray) (s : List UInt8) : cntN ts s ≤ ts.length := by
  induction ts with
  | nil => simp [cntN]
  | cons t ts ih => simp only [cntN, List.length_cons]; split <;> omega
theorem cntN_zero (ts : List ByteArray) (s : ByteArray) : cntN ts s.data.toList = 0 ↔ s ∉ ts := by
  induction ts with
  | nil => simp [cntN]
  | cons t ts ih =>
    simp only [cntN, List.mem_cons, not_or]
    by_cases h : t.data.toList = s.data.toList
    · rw [if_pos h]
      have : s = t := (bytes_ext h).symm
      simp [this]
    · rw [if_neg h, Nat.add_zero, ih]
      constructor
      · exact fun h1 => ⟨fun e => h (by rw [e]), h1⟩
      · exact fun h1 => h1.2
/-- A list's texts, each once. -/
def onceN (l : List ByteArray) : List ByteArray := withV [] l
theorem onceN_snoc (l : List ByteArray) (s : ByteArray) : onceN (l ++ [s]) = if cntN l s.data.toList = 0 then onceN l ++ [s] else onceN l := by
  unfold onceN
  rw [withV_snoc]
  have h : placeV (withV [] l) s < 0 ↔ cntN l s.data.toList = 0 := by
    rw [place_neg, cntN_zero, withV_mem]
    simp
  by_cases h1 : cntN l s.data.toList = 0
  · rw [if_pos h1, if_pos (h.2 h1)]
  · rw [if_neg h1, if_neg (fun e => h1 (h.1 e))]
theorem onceN_len (l : List ByteArray) : (onceN l).length ≤ l.length := by
  have := withV_len [] l
  simpa [onceN] using this
theorem onceN_mem (l : List ByteArray) (s : ByteArray) : s ∈ onceN l ↔ s ∈ l := by
  unfold onceN
  rw [withV_mem]
  simp
theorem varsV_once (ts : List Tm) : varsV ts = onceN (occ ts) := by
  refine rev_ind (P := fun ts => varsV ts = onceN (occ ts)) rfl (fun ts t ih => ?_) ts
  rw [varsV_snoc, stepV_mem, occ_app, ih]
  by_cases h : t.op = 1
  · rw [if_pos h, occ_var h, show occ [] = [] from rfl]
    unfold onceN
    rw [withV_snoc]
  · rw [if_neg h, occ_non h, show occ [] = [] from rfl, List.append_nil]
theorem occ_len (ts : List Tm) : (occ ts).length ≤ ts.length := by
  unfold occ
  rw [List.length_map]
  exact List.length_filter_le _ _
end Go.Proofs.YtfcfehflocglpaaDoor
namespace Go.Proofs.YtfcfehflocglpaaDoor
open Go.RowKit

/-- The variables of terms, each once. -/
def vz (l : List Tm) : List ByteArray := onceN (occ (subTs l))
def aggO (o : Int) : Bool := o == 7 || o == 8 || o == 9 || o == 10
def rckT (t : Tm) : Bool := t.op == 5 || t.op == 6 || t.op == 7
def placesL : List Lt → List (List Tm)
  | [] => []
  | l :: r => (if aggO l.op then [[l.x], l.y :: l.a.l] else [(l.y :: l.a.l) ++ [l.x]]) ++ placesL r
def placesZ (r : Ru) : List (List Tm) := r.head.l :: placesL r.body
def standZ (r : Ru) (s : List UInt8) : Nat := cntN ((placesZ r).flatMap vz) s
def outerZ (r : Ru) (l : List Tm) : List ByteArray := (vz l).filter fun s => decide (1 < standZ r s.data.toList)
structure Pt where
  place : Nat
  lit : Lt
  x : List ByteArray
  y : List ByteArray
  a : List ByteArray
  rk : List ByteArray
  ou : List ByteArray
def ptZ (r : Ru) (k : Nat) (l : Lt) : Pt := ⟨k, l, vz [l.x], vz [l.y], vz l.a.l, vz (l.a.l.filter rckT), if aggO l.op then outerZ r l.a.l else []⟩
def partsZ (r : Ru) : List Pt := r.body.mapIdx (ptZ r)
/-- How many parts had been gone through, when a variable was bound; 0: it is not. -/
abbrev Bd := List UInt8 → Int
def hasZ (B : Bd) (s : ByteArray) : Bool := decide (0 < B s.data.toList)
def allZ (B : Bd) (l : List ByteArray) : Bool := l.all (hasZ B)
def lacksZ (B : Bd) (t : Tm) : Bool := t.op == 1 && !hasZ B t.s
def plainZ (B : Bd) (p : Pt) : Bool := allZ B p.x && allZ B p.y && allZ B p.a
def eqZ (B : Bd) (p : Pt) : Bool := lacksZ B p.lit.x && allZ B p.y || lacksZ B p.lit.y && allZ B p.x
def inZ (p : Pt) : Bool := memB p.a p.lit.y.s
def readyZ (B : Bd) (p : Pt) : Bool :=
  if p.lit.op = 3 then eqZ B p || plainZ B p
  else if p.lit.op = 2 ∨ p.lit.op = 4 ∨ p.lit.op = 5 ∨ p.lit.op = 6 then plainZ B p
  else if p.lit.op = 8 ∨ p.lit.op = 9 ∨ p.lit.op = 10 then inZ p && (allZ B p.ou && allZ B p.rk)
  else if p.lit.op = 7 then allZ B p.ou && allZ B p.rk
  else if p.lit.op = 1 then allZ B p.rk
  else false
def inventsZ (B : Bd) (p : Pt) : Bool := if p.lit.op = 3 then lacksZ B p.lit.x && rckT p.lit.y || lacksZ B p.lit.y && rckT p.lit.x else aggO p.lit.op
def bindsZ (p : Pt) : List ByteArray := if aggO p.lit.op then p.x else p.x ++ (p.y ++ p.a)
def addZ (d : Int) : Bd → List ByteArray → Bd
  | B, [] => B
  | B, s :: l => addZ d (if hasZ B s then B else updF B s.data.toList d) l
structure ZS where
  left : List Pt
  B : Bd
  done : Nat
def pickZ (B : Bd) (b : Bool) (l : List Pt) : Option Nat := l.findIdx? fun p => ((p.lit.op == 1) == b) && readyZ B p
def nextZ (s : ZS) : Option Nat := (pickZ s.B false s.left).or (pickZ s.B true s.left)
def ZS.step (s : ZS) (i : Nat) (p : Pt) : ZS := ⟨s.left.eraseIdx i, addZ (s.done + 1) s.B (bindsZ p), s.done + 1⟩
def goZ (s : ZS) : Option (Pt × ZS) := (nextZ s).bind fun i => (s.left[i]?).map fun p => (p, s.step i p)
def seqZ : Nat → ZS → List (Pt × Bd) × ZS
  | 0, s => ([], s)
  | k + 1, s => match goZ s with
    | none => ([], s)
    | some (p, u) => ((p, s.B) :: (seqZ k u).1, (seqZ k u).2)
def zs0 (r : Ru) : ZS := ⟨partsZ r, fun _ => 0, 0⟩
def walkZ (r : Ru) : List (Pt × Bd) × ZS := seqZ r.body.length (zs0 r)
def orderZ (r : Ru) : List Int := (walkZ r).1.map fun x => (x.1.place : Int)
def invZ (r : Ru) : Bool := (walkZ r).1.any fun x => inventsZ x.2 x.1
def boundZ (r : Ru) : Bd := (walkZ r).2.B
def comeZ (r : Ru) : Bool := (List.range r.body.length).all fun k => decide ((k : Int) ∈ orderZ r)
def safeZ (r : Ru) : Bool := comeZ r && (occ (subTs r.head.l)).all (hasZ (boundZ r))
def ordE (r : Ru) : Int := if rightR r = true then (if safeZ r = true then 0 else 60) else 30

theorem goZ_none {s : ZS} (h : nextZ s = none) : goZ s = none := by unfold goZ; rw [h]; rfl
theorem goZ_some {s : ZS} {i : Nat} {p : Pt} (h : nextZ s = some i) (hp : s.left[i]? = some p) : goZ s = some (p, s.step i p) := by unfold goZ; rw [h]; simp [hp]
theorem seqZ_snoc : ∀ (k : Nat) (s t : ZS) (l : List (Pt × Bd)) (p : Pt) (u : ZS), seqZ k s = (l, t) → l.length = k → goZ t = some (p, u) → seqZ (k + 1) s = (l ++ [(p, t.B)], u)
  | 0, s, t, l, p, u, h, hl, hg => by
    cases h
    simp [seqZ, hg]
  | k + 1, s, t, l, p, u, h, hl, hg => by
    rw [seqZ] at h
    rw [seqZ]
    cases hs : goZ s with
    | none =>
      rw [hs] at h
      cases h
      cases hl
    | some q =>
      obtain ⟨q, v⟩ := q
      rw [hs] at h
      simp only at h
      cases h
      have := seqZ_snoc k v _ _ p u rfl (by simpa using hl) hg
      simp [this]
theorem seqZ_stop : ∀ (k j : Nat) (s t : ZS) (l : List (Pt × Bd)), seqZ k s = (l, t) → goZ t = none → seqZ (k + j) s = (l, t)
  | 0, 0, s, t, l, h, hg => h
  | 0, j + 1, s, t, l, h, hg => by
    cases h
    rw [Nat.zero_add, seqZ, hg]
  | k + 1, j, s, t, l, h, hg => by
    rw [show k + 1 + j = (k + j) + 1 by omega, seqZ]
    rw [seqZ] at h
    cases hs : goZ s with
    | none => rw [hs] at h; exact h
    | some q =>
      obtain ⟨q, v⟩ := q
      rw [hs] at h
      simp only at h
      cases h
      have := seqZ_stop k j v _ _ rfl hg
      simp [this]
theorem parts_take {r : Ru} {k : Nat} {l : Lt} (h : r.body[k]? = some l) : (r.body.take (k + 1)).mapIdx (ptZ r) = (r.body.take k).mapIdx (ptZ r) ++ [ptZ r k l] := by
  rw [List.take_add_one, h, List.mapIdx_append]
  have hk := (List.getElem?_eq_some_iff.1 h).1
  simp [List.length_take, Nat.min_eq_left (Nat.le_of_lt hk)]
theorem updF_pos {B : Bd} (h : ∀ s, 0 ≤ B s) (s : List UInt8) {d : Int} (hd : 0 ≤ d) : ∀ n, 0 ≤ updF B s d n := fun n => by
  unfold updF; split
  · exact hd
  · exact h n
theorem addZ_nil (d : Int) (B : Bd) : addZ d B [] = B := rfl
theorem addZ_snoc (d : Int) : ∀ (l : List ByteArray) (B : Bd) (s : ByteArray), addZ d B (l ++ [s]) = if hasZ (addZ d B l) s then addZ d B l else updF (addZ d B l) s.data.toList d
  | [], B, s => rfl
  | x :: l, B, s => by rw [List.cons_append, addZ, addZ_snoc d l]; rfl
theorem addZ_take {d : Int} {B : Bd} {l : List ByteArray} {k : Nat} {s : ByteArray} (h : l[k]? = some s) : addZ d B (l.take (k + 1)) = if hasZ (addZ d B (l.take k)) s then addZ d B (l.take k) else updF (addZ d B (l.take k)) s.data.toList d := by
  rw [List.take_add_one, h]; exact addZ_snoc d _ B s
/-- What a variable is bound at. -/
theorem hasZ_updF {B : Bd} {x s : ByteArray} {d : Int} (e : s ≠ x) : hasZ (updF B x.data.toList d) s = hasZ B s := by
  unfold hasZ; rw [updF_other _ _ fun h => e (bytes_ext h)]
theorem addZ_old {d : Int} : ∀ (l : List ByteArray) (B : Bd) (s : ByteArray), hasZ B s = true → addZ d B l s.data.toList = B s.data.toList
  | [], B, s, _ => rfl
  | x :: l, B, s, h => by
    rw [addZ]
    by_cases hx : hasZ B x = true
    · rw [if_pos hx]; exact addZ_old l B s h
    · rw [if_neg hx]
      have e : s ≠ x := by rintro rfl; exact hx h
      rw [addZ_old l _ s (by rw [hasZ_updF e]; exact h), updF_other _ _ fun h => e (bytes_ext h)]
theorem addZ_not {d : Int} : ∀ (l : List ByteArray) (B : Bd) (s : ByteArray), s ∉ l → addZ d B l s.data.toList = B s.data.toList
  | [], B, s, _ => rfl
  | x :: l, B, s, h => by
    have e : s ≠ x := fun e => h (e ▸ List.mem_cons_self ..)
    rw [addZ, addZ_not l _ s fun hh => h (List.mem_cons_of_mem _ hh)]
    by_cases hx : hasZ B x = true
    · rw [if_pos hx]
    · rw [if_neg hx, updF_other _ _ fun h => e (bytes_ext h)]
theorem addZ_new {d : Int} (hd : 0 < d) : ∀ (l : List ByteArray) (B : Bd) (s : ByteArray), hasZ B s = false → s ∈ l → addZ d B l s.data.toList = d
  | x :: l, B, s, h, hm => by
    rw [addZ]
    by_cases e : s = x
    · subst e
      rw [if_neg (by rw [h]; decide), addZ_old l _ s (by unfold hasZ; rw [updF_same]; simpa using hd), updF_same]
    · have hm' : s ∈ l := (List.mem_cons.1 hm).resolve_left e
      by_cases hx : hasZ B x = true
      · rw [if_pos hx]; exact addZ_new hd l B s h hm'
      · rw [if_neg hx]; exact addZ_new hd l _ s (by rw [hasZ_updF e]; exact h) hm'
theorem addZ_has {d : Int} (hd : 0 < d) (l : List ByteArray) (B : Bd) (s : ByteArray) : hasZ (addZ d B l) s = true ↔ hasZ B s = true ∨ s ∈ l := by
  cases h : hasZ B s with
  | true =>
    have : hasZ (addZ d B l) s = hasZ B s := by unfold hasZ; rw [addZ_old l B s h]
    rw [this, h]; simp
  | false =>
    constructor
    · intro h2
      refine .inr (Classical.byContradiction fun hn => ?_)
      have : hasZ (addZ d B l) s = hasZ B s := by unfold hasZ; rw [addZ_not l B s hn]
      rw [this, h] at h2; cases h2
    · rintro (h2 | h2)
      · cases h2
      · unfold hasZ; rw [addZ_new hd l B s h h2]; simpa using hd
end Go.Proofs.YtfcfehflocglpaaDoor
