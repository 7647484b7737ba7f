/- Sorting in blocks that are merged in place: plain facts about lists, no program here. -/
import Derived.Test.YtphmiifochjemaaCmp
namespace Go.Proofs.Ytphmiifochjemaa

section
variable {α : Type} {c : α → α → Int}
/-- No later one is less. -/
def upL (c : α → α → Int) (l : List α) : Prop := l.Pairwise fun x y => c x y ≤ 0
theorem up_nil : upL c [] := List.Pairwise.nil
theorem up_one (x : α) : upL c [x] := List.pairwise_singleton _ _
theorem up_app {l m : List α} : upL c (l ++ m) ↔ upL c l ∧ upL c m ∧ ∀ x ∈ l, ∀ y ∈ m, c x y ≤ 0 := List.pairwise_append
theorem up_sub {l m : List α} (h : upL c m) (hs : l.Sublist m) : upL c l := List.Pairwise.sublist hs h
theorem up_cons {x : α} {l : List α} : upL c (x :: l) ↔ (∀ y ∈ l, c x y ≤ 0) ∧ upL c l := List.pairwise_cons

/-! ### One put among sorted ones, from behind -/
/-- Y1, x, Y2 where Y1 Y2 is sorted, x is less than all of Y2, and not less than the last of Y1. -/
theorem up_put (hc : TotC c) {Y1 Y2 : List α} {x : α} (h : upL c (Y1 ++ Y2)) (h2 : ∀ y ∈ Y2, c x y ≤ 0) (h1 : ∀ y, Y1.getLast? = some y → c y x ≤ 0) : upL c (Y1 ++ x :: Y2) := by
  obtain ⟨u1, u2, u3⟩ := up_app.1 h
  have hall : ∀ y ∈ Y1, c y x ≤ 0 := by
    rcases List.eq_nil_or_concat Y1 with rfl | ⟨Y, z, rfl⟩
    · intro y hy; cases hy
    · rw [List.concat_eq_append] at *
      have hz := h1 z (by simp)
      intro y hy
      rcases List.mem_append.1 hy with hy | hy
      · exact hc.trans y z x ((up_app.1 u1).2.2 y hy z (by simp)) hz
      · rw [List.mem_singleton.1 hy]; exact hz
  refine up_app.2 ⟨u1, up_cons.2 ⟨h2, u2⟩, fun y hy z hz => ?_⟩
  rcases List.mem_cons.1 hz with rfl | hz
  · exact hall y hy
  · exact u3 y hy z hz

/-! ### Two sorted lists, merged about a middle -/
theorem up_four (hc : TotC c) {A1 A2 B1 B2 M1 M2 : List α} (hA : upL c (A1 ++ A2)) (hB : upL c (B1 ++ B2))
    (h1 : ∀ x ∈ A1, ∀ y ∈ B2, c x y ≤ 0) (h2 : ∀ x ∈ B1, ∀ y ∈ A2, c x y ≤ 0) (p1 : M1.Perm (A1 ++ B1)) (p2 : M2.Perm (A2 ++ B2)) (u1 : upL c M1) (u2 : upL c M2) : upL c (M1 ++ M2) ∧ (M1 ++ M2).Perm ((A1 ++ A2) ++ (B1 ++ B2)) := by
  obtain ⟨_, _, a3⟩ := up_app.1 hA
  obtain ⟨_, _, b3⟩ := up_app.1 hB
  refine ⟨up_app.2 ⟨u1, u2, fun x hx y hy => ?_⟩, ?_⟩
  · have hx := (p1.mem_iff).1 hx
    have hy := (p2.mem_iff).1 hy
    rcases List.mem_append.1 hx with hx | hx <;> rcases List.mem_append.1 hy with hy | hy
    · exact a3 x hx y hy
    · exact h1 x hx y hy
    · exact h2 x hx y hy
    · exact b3 x hx y hy
  · refine (p1.append p2).trans ?_
    rw [List.append_assoc, List.append_assoc]
    refine List.Perm.append_left A1 ?_
    rw [← List.append_assoc, ← List.append_assoc]
    exact List.Perm.append_right B2 List.perm_append_comm
/-- Which of two sorted lists' places the search of the merge finds: k of A's first stay ahead. -/
theorem up_cross (hc : TotC c) {A1 A2 B1 B2 : List α} (hA : upL c (A1 ++ A2)) (hB : upL c (B1 ++ B2))
    (h1 : A1 = [] ∨ B2 = [] ∨ ∃ x y, A1.getLast? = some x ∧ B2.head? = some y ∧ c x y ≤ 0)
    (h2 : B1 = [] ∨ A2 = [] ∨ ∃ x y, B1.getLast? = some x ∧ A2.head? = some y ∧ c x y ≤ 0) :
    (∀ x ∈ A1, ∀ y ∈ B2, c x y ≤ 0) ∧ ∀ x ∈ B1, ∀ y ∈ A2, c x y ≤ 0 := by
  have key : ∀ {X Y : List α}, upL c X → upL c Y → (X = [] ∨ Y = [] ∨ ∃ x y, X.getLast? = some x ∧ Y.head? = some y ∧ c x y ≤ 0) → ∀ x ∈ X, ∀ y ∈ Y, c x y ≤ 0 := by
    intro X Y uX uY h x hx y hy
    rcases h with rfl | rfl | ⟨a, b, ha, hb, hab⟩
    · cases hx
    · cases hy
    · rcases List.eq_nil_or_concat X with rfl | ⟨X', z, rfl⟩
      · cases hx
      · rw [List.concat_eq_append] at *
        cases Y with
        | nil => cases hy
        | cons b' Y' =>
          simp at ha hb
          subst ha; subst hb
          have e1 : c x z ≤ 0 := by
            rcases List.mem_append.1 hx with hx | hx
            · exact (up_app.1 uX).2.2 x hx z (by simp)
            · rw [List.mem_singleton.1 hx, hc.refl]; exact Int.le_refl _
          have e2 : c b' y ≤ 0 := by
            rcases List.mem_cons.1 hy with rfl | hy
            · rw [hc.refl]; exact Int.le_refl _
            · exact (up_cons.1 uY).1 y hy
          exact hc.trans x z y e1 (hc.trans z b' y hab e2)
  obtain ⟨a1, a2, _⟩ := up_app.1 hA
  obtain ⟨b1, b2, _⟩ := up_app.1 hB
  exact ⟨key a1 b2 h1, key b1 a2 h2⟩
/-- One put among sorted ones, ahead of the first that is not less. -/
theorem up_ins (hc : TotC c) {B1 B2 : List α} {x : α} (h : upL c (B1 ++ B2)) (h1 : ∀ y ∈ B1, c y x ≤ 0) (h2 : ∀ y ∈ B2, c x y ≤ 0) : upL c (B1 ++ x :: B2) := by
  obtain ⟨u1, u2, u3⟩ := up_app.1 h
  refine up_app.2 ⟨u1, up_cons.2 ⟨h2, u2⟩, fun y hy z hz => ?_⟩
  rcases List.mem_cons.1 hz with rfl | hz
  · exact h1 y hy
  · exact u3 y hy z hz
theorem up_at {l : List α} (h : upL c l) {i j : Nat} {x y : α} (hij : i < j) (hx : l[i]? = some x) (hy : l[j]? = some y) : c x y ≤ 0 := by
  obtain ⟨h1, h2⟩ := List.getElem?_eq_some_iff.1 hx
  obtain ⟨h3, h4⟩ := List.getElem?_eq_some_iff.1 hy
  have := List.pairwise_iff_getElem.1 h i j h1 h3 hij
  rw [h2, h4] at this
  exact this

/-! ### Blocks -/
/-- Each block of k is sorted. -/
def blL (c : α → α → Int) (k : Nat) (l : List α) : Prop := ∀ i, upL c ((l.drop (i * k)).take k)
theorem bl_nil (k : Nat) : blL c k [] := fun i => by simp [up_nil]
theorem bl_all {k : Nat} {l : List α} (h : blL c k l) (hk : l.length ≤ k) : upL c l := by
  have := h 0
  rw [Nat.zero_mul, List.drop_zero, List.take_of_length_le hk] at this
  exact this
theorem bl_small {k : Nat} {l : List α} (h : upL c l) : blL c k l := fun i => up_sub h ((List.take_sublist _ _).trans (List.drop_sublist _ _))
theorem bl_snoc {k q : Nat} {D M : List α} (hD : blL c k D) (hq : D.length = q * k) (hM : upL c M) : blL c k (D ++ M) := by
  intro i
  rcases Nat.lt_or_ge i q with h | h
  · have h1 : (i + 1) * k ≤ q * k := Nat.mul_le_mul_right k h
    rw [Nat.succ_mul] at h1
    rw [List.drop_append_of_le_length (by omega), List.take_append_of_le_length (by rw [List.length_drop]; omega)]
    exact hD i
  · have h1 : q * k ≤ i * k := Nat.mul_le_mul_right k h
    rw [List.drop_append, List.drop_of_length_le (by omega), List.nil_append]
    exact up_sub hM ((List.take_sublist _ _).trans (List.drop_sublist _ _))
theorem bl_two {k : Nat} {E : List α} (h : blL c k E) : upL c (E.take k) ∧ upL c ((E.drop k).take k) ∧ blL c k (E.drop (2 * k)) := by
  refine ⟨by simpa using h 0, by simpa using h 1, fun i => ?_⟩
  have := h (i + 2)
  rw [List.drop_drop]
  rw [show 2 * k + i * k = (i + 2) * k by rw [Nat.add_mul]; omega]
  exact this
end
end Go.Proofs.Ytphmiifochjemaa
