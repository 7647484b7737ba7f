/- With a set less, and turned round: how many orders (the plain math of CoverGrows). -/
import Derived.Test.YtiljpacmkmmlcaaKa
set_option linter.unusedSimpArgs false
set_option linter.unusedVariables false
namespace Go.Proofs.Ytiljpacmkmmlcaa

theorem right_take {c : Int} {l : List (List Int)} (k : Nat) (h : rightS c l = true) : rightS c (l.take k) = true := by
  obtain ⟨⟨h1, h2, h3⟩, h4⟩ := rightS_iff.1 h
  refine rightS_iff.2 ⟨⟨h1, h2, by rw [List.length_take]; omega⟩, fun i s hi hs => ?_⟩
  rw [List.getElem?_take] at hs
  split at hs
  · rename_i hik
    obtain ⟨a, b⟩ := h4 i s (List.getElem?_eq_some_iff.1 hs).1 hs
    refine ⟨a, fun j t hj ht => ?_⟩
    rw [List.getElem?_take, if_pos (by omega)] at ht
    exact b j t hj ht
  · cases hs
theorem rev_at {l : List (List Int)} {i : Nat} (h : i < l.length) : l.reverse[i]? = l[l.length - 1 - i]? := by
  rw [List.getElem?_reverse h]
theorem right_rev {c : Int} {l : List (List Int)} (h : rightS c l = true) : rightS c l.reverse = true := by
  obtain ⟨⟨h1, h2, h3⟩, h4⟩ := rightS_iff.1 h
  refine rightS_iff.2 ⟨⟨h1, h2, by rw [List.length_reverse]; exact h3⟩, fun i s hi hs => ?_⟩
  rw [List.length_reverse] at hi
  rw [rev_at hi] at hs
  obtain ⟨a, b⟩ := h4 _ s (by omega) hs
  refine ⟨a, fun j t hj ht e => ?_⟩
  rw [rev_at (by omega)] at ht
  subst e
  exact (h4 _ t (by omega) ht).2 _ t (by omega) hs rfl
theorem least_same {n : Nat} {R : Nat → Nat → Prop} {a b : Nat} (ha : LeastN n R a) (hb : LeastN n R b) : a = b := by
  obtain ⟨⟨A, a1, a2, a3, a4⟩, f, f1, f2⟩ := ha
  obtain ⟨⟨C, b1, b2, b3, b4⟩, g, g1, g2⟩ := hb
  have h1 := anti_le a1 a2 a3 g1 g2
  have h2 := anti_le b1 b2 b3 f1 f2
  omega
theorem RS_take {l : List (List Int)} {k x y : Nat} (hx : x < k) (hy : y < k) : RS (l.take k) x y ↔ RS l x y := by
  unfold RS
  rw [List.getD_eq_getElem?_getD, List.getD_eq_getElem?_getD, List.getD_eq_getElem?_getD, List.getD_eq_getElem?_getD, List.getElem?_take, List.getElem?_take, if_pos hx, if_pos hy]
theorem RS_rev {l : List (List Int)} {x y : Nat} (hx : x < l.length) (hy : y < l.length) : RS l.reverse x y ↔ RS l (l.length - 1 - x) (l.length - 1 - y) := by
  unfold RS
  rw [List.getD_eq_getElem?_getD, List.getD_eq_getElem?_getD, List.getD_eq_getElem?_getD, List.getD_eq_getElem?_getD, rev_at hx, rev_at hy]
theorem least_rev_eq {l : List (List Int)} {n m : Nat} (hn : LeastN l.length (RS l) n) (hm : LeastN l.reverse.length (RS l.reverse) m) : m = n := by
  rw [List.length_reverse] at hm
  exact least_same hm (least_congr (least_rev hn) fun x y hx hy => (RS_rev hx hy).symm)
theorem least_cut {l : List (List Int)} {n a : Nat} (h0 : l ≠ []) (hn : LeastN l.length (RS l) n) (ha : (l.take (l.length - 1) = [] ∧ a = 1) ∨ LeastN (l.take (l.length - 1)).length (RS (l.take (l.length - 1))) a) : a ≤ n ∧ n ≤ a + 1 := by
  have hl : 0 < l.length := by cases l with | nil => exact absurd rfl h0 | cons => simp
  rcases ha with ⟨h1, rfl⟩ | h1
  · have h2 : l.length = 1 := by
      have := congrArg List.length h1
      rw [List.length_take] at this
      simp at this
      omega
    have := least_pos hl hn
    have := least_le hn (fun i => RS.irr i)
    omega
  · have e : (l.take (l.length - 1)).length = l.length - 1 := by rw [List.length_take]; omega
    rw [e] at h1
    obtain ⟨k, hk⟩ : ∃ k, l.length = k + 1 := ⟨l.length - 1, by omega⟩
    have h2 : LeastN (l.length - 1) (RS l) a := least_congr h1 fun x y hx hy => RS_take hx hy
    rw [hk] at hn h2
    exact least_grow h2 hn
end Go.Proofs.Ytiljpacmkmmlcaa
