/- slices.Contains at numbers; rows of numbers of one's own. -/
import Derived.Test.YtiljpacmkmmlcaaWn
import Derived.Test.YtiljpacmkmmlcaaKb
set_option linter.unusedSimpArgs false
set_option linter.unusedVariables false
namespace Go.Proofs.Ytiljpacmkmmlcaa
open Go.RowKit

def ivL (l : List Int) : List Value := l.map fun n => .int .i64 n
theorem ivL_len (l : List Int) : (ivL l).length = l.length := List.length_map ..
theorem ivL_snoc (l : List Int) (n : Int) : ivL (l ++ [n]) = ivL l ++ [.int .i64 n] := by simp [ivL]
theorem ivL_at {l : List Int} {k : Nat} {t : Int} (h : l[k]? = some t) : (ivL l)[k]? = some (.int .i64 t) := by unfold ivL; rw [List.getElem?_map, h]; rfl
/-- Numbers of one's own, as they are read. -/
theorem is_of_own {w : World} {base : Nat} {T : TypeId} {v : Value} {l : List Int} (h : w.ownsRow base T 1 v l.length (ivL l)) (hm : ∀ n ∈ l, I64 n) : SlOf w w.heap.size 1 IntC l v := by
  rcases h.2 with ⟨h1, h2⟩ | ⟨g, cap, cur, hv, hb, hg, hc, hx, _⟩
  · exact .inl ⟨h1, List.length_eq_zero_iff.1 h2⟩
  · refine .inr ⟨⟨g, 0, none⟩, cap, hv, hc, hx, fun _ => (Array.getElem?_eq_some_iff.1 hg).1, fun i x hi => ⟨[.int .i64 x], rfl, ⟨rfl, hm x (List.mem_of_getElem? hi)⟩, fun j c hj => ?_⟩⟩
    cases j with
    | succ j => simp at hj
    | zero =>
      have e : Value.int .i64 x = c := by simpa using hj
      subst e
      rw [Nat.mul_one, Nat.add_zero]
      exact h.cells (g := g) (by rw [hv]; rfl) i _ (ivL_at hi)
def IdxI (ms : List Int) (x : Int) (e : Ending) : Prop := ∃ i : Int, e = .returned (.int .i64 i) ∧ (0 ≤ i ↔ x ∈ ms)
set_option maxRecDepth 100000 in
set_option maxHeartbeats 8000000 in
theorem indexI_c (ms : List Int) (x : Int) (v : Value) (w : World) (h : SlOf w w.heap.size 1 IntC ms v) :
    Calls Try.prog 42 #[v, .int .i64 x] w fun e w' => IdxI ms x e ∧ w = w' := by
  obtain ⟨o1, cap1, rfl, hc1, hm1, S1⟩ := SlOf.open h
  clear h
  go_enter Try.func42, Try.ntmps42
  go_wp2
  go_loop [8] (fun i => ∃ k : Nat, k ≤ ms.length ∧ i = .int .i64 (k : Int) ∧ Hid (∀ y ∈ ms.take k, y ≠ x)) (fun i => ms.length - (intOf i).toNat)
  case atStart => exact ⟨0, Nat.zero_le _, rfl, Lib.hid (fun y hy => by simp at hy)⟩
  case round =>
    obtain ⟨k, hk, rfl, hr⟩ := hrel
    by_cases hlt : k < ms.length
    · have hlt' : (k : Int) < (ms.length : Int) := by omega
      have hk0 : (0 : Int) ≤ (k : Int) := by omega
      obtain ⟨t, ht⟩ : ∃ t, ms[k]? = some t := ⟨ms[k], List.getElem?_eq_getElem hlt⟩
      obtain ⟨a, rfl, ha, hI, c0⟩ := int_at S1 (Below.refl _ _) ht
      have hal : (a.add k).block < w.heap.size := by rw [addBlock]; exact ha
      by_cases he : x = t
      · subst he
        have Hm : Hid (x ∈ ms) := Lib.hid (List.mem_of_getElem? ht)
        clear ht hr
        go_wp2
        go_ret
        exact ⟨⟨k, rfl, fun _ => Hm.out, fun _ => hk0⟩, rfl⟩
      · have he' : ¬ x = t := he
        have Hz : Hid (∀ y ∈ ms.take (k + 1), y ≠ x) := Lib.hid (fun y hy => by
          rw [List.take_add_one, ht] at hy
          rcases List.mem_append.1 hy with hy | hy
          · exact hr.out y hy
          · have : y = t := by simpa using hy
            rw [this]; exact Ne.symm he)
        clear ht hr he
        go_wp2
        go_round
        case rel => exact ⟨k + 1, hlt, by go_num, Hz⟩
        case measure => simp [intOf]; omega
    · have hlt' : ¬ (k : Int) < (ms.length : Int) := by omega
      have Hz : Hid (x ∉ ms) := Lib.hid (fun hm => hr.out x (by rw [List.take_of_length_le (by omega)]; exact hm) rfl)
      clear hr
      go_wp2
      go_ret
      exact ⟨⟨-1, rfl, fun h => by omega, fun h => absurd h Hz.out⟩, rfl⟩
def inIs (ms : List Int) (x : Int) : Bool := decide (x ∈ ms)
set_option maxRecDepth 100000 in
set_option maxHeartbeats 8000000 in
theorem containsI_c (ms : List Int) (x : Int) (v : Value) (w : World) (h : SlOf w w.heap.size 1 IntC ms v) :
    Calls Try.prog 37 #[v, .int .i64 x] w fun e w' => e = .returned (.bool (inIs ms x)) ∧ w = w' := by
  have HI := Lib.hid (indexI_c ms x v w h)
  obtain ⟨o1, cap1, rfl, hc1, hm1, S1⟩ := SlOf.open h
  clear h
  go_enter Try.func37, Try.ntmps37
  go_wp2_with fail
  refine HI.out.mono ?_
  rintro e w1 ⟨⟨i, rfl, hi⟩, rfl⟩
  by_cases h0 : 0 ≤ i
  · have h0' : i ≥ 0 := h0
    have Hz : Hid (inIs ms x = true) := Lib.hid (decide_eq_true (hi.1 h0))
    clear hi
    go_wp2
    go_ret
    exact ⟨by rw [Hz.out]; simp [h0], rfl⟩
  · have h0' : ¬ i ≥ 0 := h0
    have Hz : Hid (inIs ms x = false) := Lib.hid (decide_eq_false fun h => h0 (hi.2 h))
    clear hi
    go_wp2
    go_ret
    exact ⟨by rw [Hz.out]; simp [h0], rfl⟩
end Go.Proofs.Ytiljpacmkmmlcaa
