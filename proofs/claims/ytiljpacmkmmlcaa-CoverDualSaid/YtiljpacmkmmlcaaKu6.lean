/- Which sets may be, place by place. -/
import Derived.Test.YtiljpacmkmmlcaaKu5
set_option linter.unusedSimpArgs false
set_option linter.unusedVariables false
namespace Go.Proofs.Ytiljpacmkmmlcaa

theorem riseI_iff : ∀ {l : List Int}, riseI l = true ↔ ∀ (j : Nat) (x y : Int), l[j]? = some x → l[j + 1]? = some y → x < y
  | [] => ⟨fun _ j x y h => by simp at h, fun _ => rfl⟩
  | [a] => ⟨fun _ j x y _ h => by simp at h, fun _ => rfl⟩
  | a :: b :: l => by
    have ih := riseI_iff (l := b :: l)
    unfold riseI
    rw [Bool.and_eq_true, decide_eq_true_eq, ih]
    constructor
    · rintro ⟨h1, h2⟩ j x y hx hy
      match j with
      | 0 =>
        have ex : a = x := by simpa using hx
        have ey : b = y := by simpa using hy
        omega
      | j + 1 => exact h2 j x y (by simpa using hx) (by simpa using hy)
    · intro h
      exact ⟨h 0 a b rfl rfl, fun j x y hx hy => h (j + 1) x y (by simpa using hx) (by simpa using hy)⟩
/-- The first k columns of a set may be. -/
def colsTo (c : Int) (s : List Int) (k : Nat) : Prop := (∀ j x, j < k → s[j]? = some x → 0 ≤ x ∧ x < c) ∧ ∀ j x y, j + 1 < k → s[j]? = some x → s[j + 1]? = some y → x < y
theorem colsTo_zero (c : Int) (s : List Int) : colsTo c s 0 := ⟨fun j x h => by omega, fun j x y h => by omega⟩
theorem colsTo_first {c : Int} {s : List Int} {x : Int} (hx : s[0]? = some x) (h0 : 0 ≤ x) (h1 : x < c) : colsTo c s 1 :=
  ⟨fun j y hj hy => by
    have : j = 0 := by omega
    subst this
    rw [hx] at hy
    cases hy
    exact ⟨h0, h1⟩, fun j x y h => by omega⟩
theorem colsTo_next {c : Int} {s : List Int} {k : Nat} {y x : Int} (h : colsTo c s (k + 1)) (hy : s[k]? = some y) (hx : s[k + 1]? = some x) (h0 : 0 ≤ x) (h1 : x < c) (hlt : y < x) : colsTo c s (k + 2) :=
  ⟨fun j z hj hz => by
    by_cases e : j = k + 1
    · subst e
      rw [hx] at hz
      cases hz
      exact ⟨h0, h1⟩
    · exact h.1 j z (by omega) hz, fun j z u hj hz hu => by
    by_cases e : j = k
    · subst e
      rw [hy] at hz
      rw [hx] at hu
      cases hz; cases hu
      exact hlt
    · exact h.2 j z u (by omega) hz hu⟩
theorem setOk_iff {c : Int} {s : List Int} : setOk c s = true ↔ s ≠ [] ∧ colsTo c s s.length := by
  unfold setOk colsTo
  rw [Bool.and_eq_true, Bool.and_eq_true, List.all_eq_true, riseI_iff]
  constructor
  · rintro ⟨h1, h2, h3⟩
    refine ⟨fun e => by rw [e] at h1; simp at h1, fun j x _ hx => ?_, fun j x y _ hx hy => h3 j x y hx hy⟩
    have := h2 x (List.mem_of_getElem? hx)
    simpa using this
  · rintro ⟨h1, h2, h3⟩
    refine ⟨by cases s with | nil => exact absurd rfl h1 | cons => rfl, fun x hx => ?_, fun j x y hx hy => h3 j x y (List.getElem?_eq_some_iff.1 hy).1 hx hy⟩
    obtain ⟨j, hj⟩ := List.mem_iff_getElem?.1 hx
    have := h2 j x (List.getElem?_eq_some_iff.1 hj).1 hj
    simpa using this
/-- The first k sets may be, and none is there twice. -/
def setsTo (c : Int) (l : List (List Int)) (k : Nat) : Prop := ∀ (i : Nat) (s : List Int), i < k → l[i]? = some s → setOk c s = true ∧ ∀ (j : Nat) (t : List Int), j < i → l[j]? = some t → t ≠ s
theorem distinct_of : ∀ {l : List (List Int)}, (∀ (i j : Nat) (s : List Int), l[i]? = some s → l[j]? = some s → i = j) → distinctL l = true
  | [], _ => rfl
  | t :: l, h => by
    unfold distinctL
    rw [Bool.and_eq_true]
    refine ⟨?_, distinct_of fun i j s hi hj => by
      have := h (i + 1) (j + 1) s (by simpa using hi) (by simpa using hj)
      omega⟩
    cases ha : l.any fun u => t == u with
    | false => rfl
    | true =>
      obtain ⟨u, hu, e⟩ := List.any_eq_true.1 ha
      have e : t = u := by simpa using e
      subst e
      obtain ⟨j, hj⟩ := List.mem_iff_getElem?.1 hu
      have := h 0 (j + 1) t rfl (by simpa using hj)
      omega
theorem rightS_iff {c : Int} {l : List (List Int)} : rightS c l = true ↔ (1 ≤ c ∧ c ≤ 8 ∧ l.length ≤ 60) ∧ setsTo c l l.length := by
  unfold rightS setsTo
  simp only [Bool.and_eq_true, decide_eq_true_eq, List.all_eq_true]
  constructor
  · rintro ⟨⟨⟨h1, h2⟩, h3⟩, h4, h5⟩
    refine ⟨⟨h1, h2, h3⟩, fun i s _ hi => ⟨h4 s (List.mem_of_getElem? hi), fun j t hj ht e => ?_⟩⟩
    subst e
    have := distinct_at h5 ht hi
    omega
  · rintro ⟨⟨h1, h2, h3⟩, h⟩
    refine ⟨⟨⟨h1, h2⟩, h3⟩, fun s hs => ?_, distinct_of fun i j s hi hj => ?_⟩
    · obtain ⟨i, hi⟩ := List.mem_iff_getElem?.1 hs
      exact (h i s (List.getElem?_eq_some_iff.1 hi).1 hi).1
    · rcases Nat.lt_trichotomy i j with h4 | h4 | h4
      · exact absurd rfl ((h j s (List.getElem?_eq_some_iff.1 hj).1 hj).2 i s h4 hi)
      · exact h4
      · exact absurd rfl ((h i s (List.getElem?_eq_some_iff.1 hi).1 hi).2 j s h4 hj)
end Go.Proofs.Ytiljpacmkmmlcaa
