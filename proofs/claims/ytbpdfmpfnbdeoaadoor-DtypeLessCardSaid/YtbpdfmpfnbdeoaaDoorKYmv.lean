/- Two parts of a body that change places; a part that is taken away. -/
import Derived.Test.YtbpdfmpfnbdeoaaDoorKYvars
import Derived.Test.YtbpdfmpfnbdeoaaDoorKYtp
namespace Go.Proofs.YtbpdfmpfnbdeoaaDoor
open Go.RowKit

theorem swap_mem {α : Type} {l : List α} {m n : Nat} {x y : α} (hm : l[m]? = some x) (hn : l[n]? = some y) (z : α) : z ∈ (l.set m y).set n x ↔ z ∈ l := by
  have hml := (List.getElem?_eq_some_iff.1 hm).1
  have hnl := (List.getElem?_eq_some_iff.1 hn).1
  rw [List.mem_iff_getElem?, List.mem_iff_getElem?]
  have get : ∀ i, ((l.set m y).set n x)[i]? = if i = n then some x else if i = m then some y else l[i]? := by
    intro i
    by_cases h1 : i = n
    · subst h1; rw [if_pos rfl, List.getElem?_set_self (by simp; exact hnl)]
    · rw [if_neg h1, List.getElem?_set_ne (Ne.symm h1)]
      by_cases h2 : i = m
      · subst h2; rw [if_pos rfl, List.getElem?_set_self hml]
      · rw [if_neg h2, List.getElem?_set_ne (Ne.symm h2)]
  constructor
  · rintro ⟨i, hi⟩
    rw [get] at hi
    split at hi
    · cases hi; exact ⟨m, hm⟩
    · split at hi
      · cases hi; exact ⟨n, hn⟩
      · exact ⟨i, hi⟩
  · rintro ⟨i, hi⟩
    by_cases h1 : i = m
    · subst h1; rw [hm] at hi; cases hi; exact ⟨n, by rw [get, if_pos rfl]⟩
    · by_cases h2 : i = n
      · subst h2
        rw [hn] at hi
        cases hi
        exact ⟨m, by rw [get, if_neg (Ne.symm h1), if_pos rfl]⟩
      · exact ⟨i, by rw [get, if_neg h2, if_neg h1]; exact hi⟩
theorem all_mem {α : Type} {l m : List α} (h : ∀ x, x ∈ l ↔ x ∈ m) (f : α → Bool) : l.all f = m.all f := by
  rw [Bool.eq_iff_iff, List.all_eq_true, List.all_eq_true]
  exact ⟨fun k x hx => k x ((h x).2 hx), fun k x hx => k x ((h x).1 hx)⟩
theorem right_moved {ds : List De} {r r' : Ru} (hh : r.head = r'.head) (hl : r.body.length = r'.body.length) (hm : ∀ x, x ∈ r.body ↔ x ∈ r'.body) : rightR r = rightR r' ∧ rightP ⟨ds, [r]⟩ = rightP ⟨ds, [r']⟩ := by
  have he : r.body.isEmpty = r'.body.isEmpty := by
    rw [Bool.eq_iff_iff, List.isEmpty_iff_length_eq_zero, List.isEmpty_iff_length_eq_zero, hl]
  have h1 : rightR r = rightR r' := by
    unfold rightR
    rw [hh, hl, he, all_mem hm]
  exact ⟨h1, by unfold rightP; simp [h1]⟩
theorem sub_moved {r r' : Ru} (hh : r.head = r'.head) (hm : ∀ x, x ∈ r.body ↔ x ∈ r'.body) : Sub r r' ∧ Sub r' r := ⟨⟨hh, fun l hl => (hm l).1 hl⟩, ⟨hh.symm, fun l hl => (hm l).2 hl⟩⟩
theorem terms_few {r r' : Ru} (h : Sub r' r) (hs : ∀ t ∈ termsR r, t.s.size ≤ 1000) : ∀ t ∈ termsR r', t.s.size ≤ 1000000 := fun t ht => Nat.le_trans (hs t (h.terms t ht)) (by decide)
/-- How many terms there are does not hang on the parts' order. -/
theorem sum_set {α : Type} (f : α → Nat) {l : List α} {i : Nat} {x y : α} (hi : l[i]? = some x) : ((l.set i y).map f).sum + f x = (l.map f).sum + f y := by
  induction l generalizing i with
  | nil => simp at hi
  | cons z l ih =>
    cases i with
    | zero =>
      obtain rfl : z = x := by simpa using hi
      simp only [List.set_cons_zero, List.map_cons, List.sum_cons]
      omega
    | succ i =>
      have := ih (i := i) (by simpa using hi)
      simp only [List.set_cons_succ, List.map_cons, List.sum_cons]
      omega
theorem sum_swap {α : Type} (f : α → Nat) {l : List α} {m n : Nat} {x y : α} (hm : l[m]? = some x) (hn : l[n]? = some y) : (((l.set m y).set n x).map f).sum = (l.map f).sum := by
  have hml := (List.getElem?_eq_some_iff.1 hm).1
  have h1 := sum_set f (y := y) hm
  by_cases h : n = m
  · subst h
    rw [hm] at hn
    cases hn
    have h2 := sum_set f (l := l.set n x) (i := n) (x := x) (y := x) (List.getElem?_set_self hml)
    omega
  · have h2 := sum_set f (l := l.set m y) (i := n) (x := y) (y := x) (by rw [List.getElem?_set_ne (Ne.symm h)]; exact hn)
    omega
theorem termsR_len (r : Ru) : (termsR r).length = (subTs r.head.l).length + (r.body.map fun l => (litTs l).length).sum := by
  unfold termsR
  rw [List.length_append, List.length_flatMap]
theorem terms_swap {r : Ru} {m n : Nat} {x y : Lt} (hm : r.body[m]? = some x) (hn : r.body[n]? = some y) : (termsR ⟨r.head, (r.body.set m y).set n x, r.line⟩).length = (termsR r).length := by
  rw [termsR_len, termsR_len]
  show _ + (((r.body.set m y).set n x).map fun l => (litTs l).length).sum = _
  rw [sum_swap _ hm hn]
theorem lit_pos (l : Lt) : 2 ≤ (litTs l).length := by
  unfold litTs
  simp only [subTs, List.length_append]
  have h1 : 1 ≤ (subT l.x).length := by rw [subT_eq]; simp
  have h2 : 1 ≤ (subT l.y).length := by rw [subT_eq]; simp
  omega
theorem body_len (r : Ru) : r.body.length ≤ (termsR r).length := by
  rw [termsR_len]
  have : ∀ l : List Lt, l.length ≤ (l.map fun l => (litTs l).length).sum := by
    intro l
    induction l with
    | nil => simp
    | cons x l ih => simp only [List.map_cons, List.sum_cons, List.length_cons]; have := lit_pos x; omega
  have := this r.body
  omega
/-- The variables, whether or not the relations are right. -/
theorem varsA_ok {ds : List De} {r : Ru} (h : rightP ⟨ds, [r]⟩ = true) : varsA r = varsV (termsR r) := by
  unfold varsA
  unfold rightP at h
  simp only [Bool.and_eq_true, List.all_cons, List.all_nil] at h
  rw [if_pos h.2.1]
theorem varsA_len {r r' : Ru} (hr : rightR r = rightR r') (h : Sub r r') (k : Sub r' r) : (varsA r).length = (varsA r').length := by
  unfold varsA
  rw [hr]
  split
  · exact vars_len fun t => ⟨h.terms t, k.terms t⟩
  · rfl
theorem types_at {ds : List De} {r : Ru} {l : List Int} (h : TyA ds r l 0) {k : Nat} {s : ByteArray} (hk : (varsV (termsR r))[k]? = some s) : l[k]? = some (typedV (varsV (termsR r)) l s) := by
  generalize he : (0 : Int) = e at h
  cases h with
  | tree h => cases he
  | atom h1 h2 => rcases atE_ne h2 with h | h <;> rw [h] at he <;> cases he
  | none h1 h2 h3 => cases he
  | some h1 h2 h3 h4 h5 =>
    rw [typed_map (List.mem_of_getElem? hk), List.getElem?_map, hk]
    rfl
theorem TyA.right {ds : List De} {r : Ru} {l : List Int} (h : TyA ds r l 0) : rightP ⟨ds, [r]⟩ = true := by
  rcases h.errs with ⟨h, _⟩ | ⟨h, _⟩
  · omega
  · exact h
theorem typed_ty {ds : List De} {r : Ru} {l : List Int} (h : TyA ds r l 0) {s : ByteArray} (hv : s ∈ varsV (termsR r)) : typedV (varsV (termsR r)) l s = 1 ∨ typedV (varsV (termsR r)) l s = 2 := (types_sub ⟨rfl, fun _ h => h⟩ h h hv).2
end Go.Proofs.YtbpdfmpfnbdeoaaDoor
