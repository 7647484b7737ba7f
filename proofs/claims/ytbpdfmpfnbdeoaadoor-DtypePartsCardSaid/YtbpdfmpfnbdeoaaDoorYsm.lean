/- A small program's terms are few, and their texts short. -/
import Derived.Test.YtbpdfmpfnbdeoaaDoorTsp
import Derived.Test.YtbpdfmpfnbdeoaaDoorYeach
namespace Go.Proofs.YtbpdfmpfnbdeoaaDoor
open Go.RowKit

/-- What counting down by f leaves of the left: the terms that g gives are no more, and short. -/
def Cnt {α : Type} (f : α → Int → Int) (g : α → List Tm) (x : α) : Prop := ∀ left : Int, 0 ≤ left → 0 ≤ f x left → ((g x).length : Int) ≤ left - f x left ∧ ∀ t ∈ g x, t.s.size ≤ 1000
theorem cnt_all {α : Type} {f : α → Int → Int} {g : α → List Tm} : ∀ (l : List α), (∀ x ∈ l, Cnt f g x) → Cnt (foldS f) (fun l => l.flatMap g) l
  | [], _, left, h, _ => ⟨by simp [foldS], fun t ht => by simp at ht⟩
  | x :: l, hx, left, h, h1 => by
    have e : foldS f (x :: l) left = foldS f l (f x left) := by
      show (if left < 0 then left else _) = _
      rw [if_neg (by omega)]
    rw [e] at h1 ⊢
    have h2 : 0 ≤ f x left := by
      rcases Int.lt_or_le (f x left) 0 with hn | hn
      · rw [foldS_neg f l hn] at h1; omega
      · exact hn
    obtain ⟨a1, a2⟩ := hx x (List.mem_cons_self ..) left h h2
    obtain ⟨b1, b2⟩ := cnt_all l (fun y hy => hx y (List.mem_cons_of_mem _ hy)) _ h2 h1
    refine ⟨?_, fun t ht => ?_⟩
    · simp only [List.flatMap_cons, List.length_append]
      have b1 : ((l.flatMap g).length : Int) ≤ f x left - foldS f l (f x left) := b1
      omega
    · simp only [List.flatMap_cons] at ht
      rcases List.mem_append.1 ht with ht | ht
      · exact a2 t ht
      · exact b2 t ht
theorem subTs_flat (l : List Tm) : subTs l = l.flatMap subT := by
  induction l with
  | nil => simp [subTs]
  | cons t l ih => unfold subTs; rw [ih]; rfl
theorem cnt_term (t : Tm) : Cnt sizeT subT t := by
  induction t using Tm.rec (motive_2 := fun l => ∀ t ∈ l, Cnt sizeT subT t) with
  | nil x hx => cases hx
  | cons t ts ih ihs x hx =>
    rcases List.mem_cons.1 hx with rfl | hx
    · exact ih
    · exact ihs x hx
  | mk op s n l ih =>
    intro left h h1
    rw [sizeT_mk] at h1 ⊢
    by_cases hs : 1000 < s.size
    · rw [if_pos hs] at h1; omega
    · rw [if_neg hs] at h1 ⊢
      have h2 : 0 ≤ left - 1 := by
        rcases Int.lt_or_le (left - 1) 0 with hn | hn
        · rw [foldS_neg sizeT l hn] at h1; omega
        · exact hn
      obtain ⟨a1, a2⟩ := cnt_all l ih _ h2 h1
      rw [subT_eq]
      simp only [Tm.l_mk, subTs_flat]
      refine ⟨?_, fun t ht => ?_⟩
      · simp only [List.length_cons]
        have a1 : ((l.flatMap subT).length : Int) ≤ left - 1 - foldS sizeT l (left - 1) := a1
        omega
      · rcases List.mem_cons.1 ht with rfl | ht
        · show s.size ≤ 1000
          omega
        · exact a2 t ht
theorem cnt_atom (a : Am) : Cnt sizeA (fun a => subTs a.l) a := by
  intro left h h1
  unfold sizeA at h1 ⊢
  split at h1
  · omega
  · rename_i hn
    rw [if_neg hn]
    rw [sizeTs_fold] at h1 ⊢
    simp only [subTs_flat]
    exact cnt_all a.l (fun t _ => cnt_term t) left h h1
theorem nonneg_of {x left : Int} (h : -1 ≤ left → x ≤ left) (h0 : 0 ≤ x) (hl : -1 ≤ left) : 0 ≤ left := by have := h hl; omega
theorem cnt_lit (l : Lt) : Cnt sizeL1 litTs l := by
  intro left h h1
  unfold sizeL1 at h1 ⊢
  by_cases c1 : sizeA l.a (left - 1) < 0
  · rw [if_pos c1] at h1; omega
  · rw [if_neg c1] at h1 ⊢
    by_cases c2 : sizeT l.x (sizeA l.a (left - 1)) < 0
    · rw [if_pos c2] at h1; omega
    · rw [if_neg c2] at h1 ⊢
      have h0 : 0 ≤ left - 1 := by have := (sizeA_lo l.a (left - 1) (by omega)).2; omega
      obtain ⟨a1, a2⟩ := cnt_atom l.a _ h0 (by omega)
      have a1 : ((subTs l.a.l).length : Int) ≤ left - 1 - sizeA l.a (left - 1) := a1
      obtain ⟨b1, b2⟩ := cnt_term l.x (sizeA l.a (left - 1)) (by omega) (by omega)
      obtain ⟨d1, d2⟩ := cnt_term l.y _ (by omega) h1
      have e : litTs l = (subT l.x ++ subT l.y) ++ subTs l.a.l := by unfold litTs; simp [subTs]
      rw [e]
      refine ⟨?_, fun t ht => ?_⟩
      · simp only [List.length_append]; omega
      · rcases List.mem_append.1 ht with ht | ht
        · rcases List.mem_append.1 ht with ht | ht
          · exact b2 t ht
          · exact d2 t ht
        · exact a2 t ht
theorem cnt_rule (r : Ru) : Cnt sizeR termsR r := by
  intro left h h1
  unfold sizeR at h1 ⊢
  have h0 : 0 ≤ left - 1 ∧ 0 ≤ sizeA r.head (left - 1) := by
    have k := (foldS_lo sizeL1_lo r.body (sizeA r.head (left - 1)) (sizeA_lo r.head (left - 1) (by omega)).1).2
    have := (sizeA_lo r.head (left - 1) (by omega)).2
    omega
  obtain ⟨a1, a2⟩ := cnt_atom r.head _ h0.1 h0.2
  obtain ⟨b1, b2⟩ := cnt_all r.body (fun l _ => cnt_lit l) _ h0.2 h1
  unfold termsR
  refine ⟨?_, fun t ht => ?_⟩
  · simp only [List.length_append]
    have b1 : ((r.body.flatMap litTs).length : Int) ≤ _ := b1
    have a1 : ((subTs r.head.l).length : Int) ≤ _ := a1
    omega
  · rcases List.mem_append.1 ht with ht | ht
    · exact a2 t ht
    · exact b2 t ht
/-- A small program's rules. -/
theorem small_terms {p : Pg} (h : smallP p = true) : ∀ r ∈ p.rules, (termsR r).length ≤ 2000 ∧ ∀ t ∈ termsR r, t.s.size ≤ 1000 := by
  unfold smallP at h
  simp only [Bool.and_eq_true, decide_eq_true_eq] at h
  have h0 := h.1.1.2
  obtain ⟨a1, a2⟩ := cnt_all (f := sizeR) (g := termsR) p.rules (fun r _ => cnt_rule r) 2000 (by omega) h0
  intro r hr
  have sub : ∀ t ∈ termsR r, t ∈ p.rules.flatMap termsR := fun t ht => List.mem_flatMap.2 ⟨r, hr, ht⟩
  refine ⟨?_, fun t ht => a2 t (sub t ht)⟩
  have hle : (termsR r).length ≤ (p.rules.flatMap termsR).length := by
    obtain ⟨s, t, e⟩ := List.append_of_mem hr
    rw [e]
    simp only [List.flatMap_append, List.flatMap_cons, List.length_append]
    omega
  have a1 : ((p.rules.flatMap termsR).length : Int) ≤ 2000 - foldS sizeR p.rules 2000 := a1
  omega
end Go.Proofs.YtbpdfmpfnbdeoaaDoor
