/- slices.Contains at sets of columns; cover.asColumns. -/
import Derived.Test.YtiljpacmkmmlcaaWb
import Derived.Test.YtiljpacmkmmlcaaOwn
import Derived.OwnWalk
set_option linter.unusedSimpArgs false
set_option linter.unusedVariables false
namespace Go.Proofs.Ytiljpacmkmmlcaa
open Go.RowKit

def mvL (ms : List Nat) : List Value := ms.map fun m : Nat => .int .u64 (m : Int)
theorem mvL_len (ms : List Nat) : (mvL ms).length = ms.length := List.length_map ..
theorem mvL_snoc (ms : List Nat) (m : Nat) : mvL (ms ++ [m]) = mvL ms ++ [.int .u64 (m : Int)] := by simp [mvL]
theorem mvL_at {ms : List Nat} {k t : Nat} (h : ms[k]? = some t) : (mvL ms)[k]? = some (.int .u64 (t : Int)) := by unfold mvL; rw [List.getElem?_map, h]; rfl
theorem mvL_one (ms : List Nat) : ∀ u ∈ mvL ms, u.oneCell' = true := fun u hu => by
  obtain ⟨m, _, rfl⟩ := List.mem_map.1 hu
  rfl
/-- Sets of one's own, as they are read. -/
theorem ms_of_own {w : World} {base : Nat} {T : TypeId} {v : Value} {ms : List Nat} (h : w.ownsRow base T 1 v ms.length (mvL ms)) (hm : ∀ m ∈ ms, m < 256) : MsS w w.heap.size ms v := by
  rcases h.2 with ⟨h1, h2⟩ | ⟨g, cap, cur, hv, hb, hg, hc, hx, _⟩
  · exact .inl ⟨h1, List.length_eq_zero_iff.1 h2⟩
  · refine .inr ⟨⟨g, 0, none⟩, cap, hv, hc, hx, fun _ => (Array.getElem?_eq_some_iff.1 hg).1, fun i x hi => ⟨[.int .u64 (x : Int)], rfl, ⟨rfl, hm x (List.mem_of_getElem? hi)⟩, fun j c hj => ?_⟩⟩
    cases j with
    | succ j => simp at hj
    | zero =>
      have e : Value.int .u64 (x : Int) = c := by simpa using hj
      subst e
      rw [Nat.mul_one, Nat.add_zero]
      exact h.cells (g := g) (by rw [hv]; rfl) i _ (mvL_at hi)
def IdxR (ms : List Nat) (x : Nat) (e : Ending) : Prop := ∃ i : Int, e = .returned (.int .i64 i) ∧ (0 ≤ i ↔ x ∈ ms)
set_option maxRecDepth 100000 in
set_option maxHeartbeats 8000000 in
theorem index_c (ms : List Nat) (x : Nat) (v : Value) (w : World) (h : MsS w w.heap.size ms v) :
    Calls Try.prog 38 #[v, .int .u64 (x : Int)] w fun e w' => IdxR ms x e ∧ w = w' := by
  obtain ⟨o1, cap1, rfl, hc1, hm1, S1⟩ := SlOf.open h
  clear h
  go_enter Try.func38, Try.ntmps38
  go_wp2
  go_loop [8] (fun i => ∃ k : Nat, k ≤ ms.length ∧ i = .int .i64 (k : Int) ∧ Hid (∀ y ∈ ms.take k, y ≠ x)) (fun i => ms.length - (intOf i).toNat)
  case atStart => exact ⟨0, Nat.zero_le _, rfl, Lib.hid (fun y hy => by simp at hy)⟩
  case round =>
    obtain ⟨k, hk, rfl, hr⟩ := hrel
    by_cases hlt : k < ms.length
    · have hlt' : (k : Int) < (ms.length : Int) := by omega
      have hk0 : (0 : Int) ≤ (k : Int) := by omega
      obtain ⟨t, ht⟩ : ∃ t, ms[k]? = some t := ⟨ms[k], List.getElem?_eq_getElem hlt⟩
      obtain ⟨a, rfl, ha, h256, c0⟩ := u64_at S1 (Below.refl _ _) ht
      have hal : (a.add k).block < w.heap.size := by rw [addBlock]; exact ha
      by_cases he : x = t
      · subst he
        have Hm : Hid (x ∈ ms) := Lib.hid (List.mem_of_getElem? ht)
        clear ht hr
        go_wp2
        go_ret
        exact ⟨⟨k, rfl, fun _ => Hm.out, fun _ => hk0⟩, rfl⟩
      · have he' : ¬ (x : Int) = (t : Int) := by omega
        have Hz : Hid (∀ y ∈ ms.take (k + 1), y ≠ x) := Lib.hid (fun y hy => by
          rw [List.take_add_one, ht] at hy
          rcases List.mem_append.1 hy with hy | hy
          · exact hr.out y hy
          · have : y = t := by simpa using hy
            rw [this]; exact Ne.symm he)
        clear ht hr he
        go_wp2
        go_round
        case rel => exact ⟨k + 1, hlt, by go_num, Hz⟩
        case measure => simp [intOf]; omega
    · have hlt' : ¬ (k : Int) < (ms.length : Int) := by omega
      have Hz : Hid (x ∉ ms) := Lib.hid (fun hm => hr.out x (by rw [List.take_of_length_le (by omega)]; exact hm) rfl)
      clear hr
      go_wp2
      go_ret
      exact ⟨⟨-1, rfl, fun h => by omega, fun h => absurd h Hz.out⟩, rfl⟩
def inMs (ms : List Nat) (x : Nat) : Bool := decide (x ∈ ms)
set_option maxRecDepth 100000 in
set_option maxHeartbeats 8000000 in
theorem contains_c (ms : List Nat) (x : Nat) (v : Value) (w : World) (h : MsS w w.heap.size ms v) :
    Calls Try.prog 32 #[v, .int .u64 (x : Int)] w fun e w' => e = .returned (.bool (inMs ms x)) ∧ w = w' := by
  have HI := Lib.hid (index_c ms x v w h)
  obtain ⟨o1, cap1, rfl, hc1, hm1, S1⟩ := SlOf.open h
  clear h
  go_enter Try.func32, Try.ntmps32
  go_wp2_with fail
  refine HI.out.mono ?_
  rintro e w1 ⟨⟨i, rfl, hi⟩, rfl⟩
  by_cases h0 : 0 ≤ i
  · have h0' : i ≥ 0 := h0
    have Hz : Hid (inMs ms x = true) := Lib.hid (decide_eq_true (hi.1 h0))
    clear hi
    go_wp2
    go_ret
    exact ⟨by rw [Hz.out]; simp [h0], rfl⟩
  · have h0' : ¬ i ≥ 0 := h0
    have Hz : Hid (inMs ms x = false) := Lib.hid (decide_eq_false fun h => h0 (hi.2 h))
    clear hi
    go_wp2
    go_ret
    exact ⟨by rw [Hz.out]; simp [h0], rfl⟩
end Go.Proofs.Ytiljpacmkmmlcaa
