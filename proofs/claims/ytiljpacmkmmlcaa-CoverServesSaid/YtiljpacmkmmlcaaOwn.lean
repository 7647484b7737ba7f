/- A slice that a call owns, element by element; what a world that grew keeps. -/
import Derived.Test.YtiljpacmkmmlcaaSl
import Derived.OneCell
import Derived.Laws.AppendOwn
set_option linter.unusedSimpArgs false
set_option linter.unusedVariables false
namespace Go.Proofs.Ytiljpacmkmmlcaa
open Go.RowKit

theorem grown_set (w : World) (b i : Nat) (u : Value) : w.grownBy (w.setCell ⟨b, i, none⟩ u) (some b) :=
  ⟨rfl, rfl, rfl, by simp [World.setCell], fun k _ hk => Below.heap_setCell w ⟨b, i, none⟩ u k (fun e => hk (by rw [e]))⟩
theorem grown_below {w w' : World} (h : Below w.heap.size w w') (row : Option Nat) : w.grownBy w' row := ⟨h.os, h.tape, h.output, h.size, fun k hk _ => h.block k hk⟩
theorem grown_then {a b c : World} {row row' : Option Nat} (h : a.grownBy b row) (k : b.grownBy c row') (hr : ∀ j, row' = some j → a.heap.size ≤ j ∨ row = some j) : a.grownBy c row :=
  ⟨k.os.trans h.os, k.tape.trans h.tape, k.output.trans h.output, Nat.le_trans h.size k.size, fun i hi hne =>
    (k.block i (Nat.lt_of_lt_of_le hi h.size) (fun e => by
      rcases hr i e.symm with h1 | h1
      · omega
      · exact hne h1.symm)).trans (h.block i hi hne)⟩
theorem grown_refl (w : World) (row : Option Nat) : w.grownBy w row := ⟨rfl, rfl, rfl, Nat.le_refl _, fun _ _ _ => rfl⟩
/-- A block of cells behind a store. -/
theorem set_heap {w : World} {b i : Nat} {cs : Array Value} {T : TypeId} {fr : Nat × Nat} (hb : w.heap[b]? = some (.cells cs T fr)) (v : Value) : (w.setCell ⟨b, i, none⟩ v).heap[b]? = some (.cells (cs.setIfInBounds i v) T fr) := by
  simp [World.setCell, Array.getElem?_modify, hb]
theorem row_cell {w : World} {k : Nat} {cs : Array Value} {t : TypeId} (h : w.heap[k]? = some (.cells cs t (0, 0))) (i : Nat) : w.cell? ⟨k, i, none⟩ = cs[i]? ∧ w.frozen? ⟨k, i, none⟩ = false := by
  simp [World.cell?, World.frozen?, h]
theorem own_past {W W' : World} {B e size n : Nat} {v : Value} {xs : List Value} (h : W.ownsRow B e size v n xs) (b : Below W.heap.size W W') : W'.ownsRow B e size v n xs :=
  h.kept (row := none) (grown_below b none) (by cases v.ownBlock <;> simp)
theorem own_form {w : World} {base e size n : Nat} {v : Value} {xs : List Value} (h : w.ownsRow base e size v n xs) (hn : 0 < n) : ∃ g cap, v = .slice (some ⟨g, 0, none⟩) n cap ∧ base ≤ g := by
  rcases h.2 with ⟨_, h0⟩ | ⟨g, cap, cur, hv, hb, _⟩
  · omega
  · exact ⟨g, cap, hv, hb⟩
/-- What has just been made holds its cells. -/
theorem news_new (W : World) (cs : List Value) (T : TypeId) (m : Nat) (hm : W.heap.size = m) : ∀ j u, cs[j]? = some u → (W.alloc (.cells cs.toArray T)).cell? ((⟨m, 0, none⟩ : Addr).add j) = some u := by
  subst hm
  intro j u hu
  have hadd : (⟨W.heap.size, 0, none⟩ : Addr).add j = ⟨W.heap.size, j, none⟩ := by unfold Addr.add; split <;> simp_all
  rw [hadd, (row_cell (heap_alloc_new W _) j).1]
  simpa using hu

/-! ### Owned, element by element -/
def Owned {α : Type} (W : World) (base : Nat) (T : TypeId) (z : Nat) (R : α → List Value → Prop) (v : Value) (l : List α) : Prop :=
  ∃ css : List (List Value), css.length = l.length ∧ (∀ (i : Nat) (x : α), l[i]? = some x → ∃ cs, css[i]? = some cs ∧ cs.length = z ∧ R x cs) ∧ W.ownsRow base T z v l.length css.flatten
section
variable {α : Type} {W W' : World} {base : Nat} {T : TypeId} {z : Nat} {R : α → List Value → Prop} {v v' : Value} {l : List α}
theorem Owned.nil (W : World) (base : Nat) (T : TypeId) (z : Nat) (R : α → List Value → Prop) : Owned W base T z R (.slice none 0 0) ([] : List α) :=
  ⟨[], rfl, fun i x hx => by simp at hx, World.ownsRow_nil _ _ _ _⟩
theorem Owned.lt (h : Owned W base T z R v l) : ∀ k, v.ownBlock = some k → base ≤ k ∧ k < W.heap.size := by
  obtain ⟨_, _, _, h3⟩ := h
  exact h3.lt
theorem Owned.kept {row : Option Nat} (h : Owned W base T z R v l) (hg : W.grownBy W' row) (hne : ∀ k, row = some k → v.ownBlock ≠ some k) : Owned W' base T z R v l := by
  obtain ⟨css, h1, h2, h3⟩ := h
  refine ⟨css, h1, h2, h3.kept hg ?_⟩
  cases row with
  | none => cases v.ownBlock <;> simp
  | some k => exact .inr (hne k rfl)
theorem Owned.past (h : Owned W base T z R v l) (b : Below W.heap.size W W') : Owned W' base T z R v l := h.kept (grown_below b none) (fun k e => by cases e)
theorem Owned.snoc {x : α} {cs : List Value} {css : List (List Value)} (h1 : css.length = l.length) (h2 : ∀ (i : Nat) (x : α), l[i]? = some x → ∃ cs, css[i]? = some cs ∧ cs.length = z ∧ R x cs) (hz : cs.length = z) (hR : R x cs)
    (h : W.ownsRow base T z v (l.length + 1) (css.flatten ++ cs)) : Owned W base T z R v (l ++ [x]) := by
  refine ⟨css ++ [cs], by simp [h1], fun i y hy => ?_, by simpa using h⟩
  rcases Nat.lt_or_ge i l.length with hi | hi
  · rw [List.getElem?_append_left hi] at hy
    obtain ⟨c, e, r⟩ := h2 i y hy
    exact ⟨c, by rw [List.getElem?_append_left (by omega)]; exact e, r⟩
  · rw [List.getElem?_append_right hi] at hy
    have hi2 : i = l.length := by
      rcases Nat.lt_or_ge (i - l.length) 1 with h3 | h3
      · omega
      · rw [List.getElem?_eq_none (by simpa using h3)] at hy; cases hy
    subst hi2
    simp only [Nat.sub_self, List.getElem?_cons_zero, Option.some.injEq] at hy
    subst hy
    exact ⟨cs, by rw [List.getElem?_append_right (by omega), h1]; simp, hz, hR⟩
theorem flat_get : ∀ (css : List (List Value)) (i j : Nat) (cs : List Value) (c : Value), (∀ x ∈ css, x.length = z) → css[i]? = some cs → cs[j]? = some c → css.flatten[i * z + j]? = some c
  | [], i, j, cs, c, _, h, _ => by simp at h
  | x :: css, 0, j, cs, c, hz, h, hc => by
    simp only [List.getElem?_cons_zero, Option.some.injEq] at h
    subst h
    rw [List.flatten_cons, Nat.zero_mul, Nat.zero_add, List.getElem?_append_left (List.getElem?_eq_some_iff.1 hc).1]
    exact hc
  | x :: css, i + 1, j, cs, c, hz, h, hc => by
    rw [List.getElem?_cons_succ] at h
    have hx := hz x (by simp)
    rw [List.flatten_cons, List.getElem?_append_right (by rw [hx, Nat.succ_mul]; omega), hx, show (i + 1) * z + j - z = i * z + j by rw [Nat.succ_mul]; omega]
    exact flat_get css i j cs c (fun y hy => hz y (by simp [hy])) h hc
/-- What a call owns is a slice as contracts want it. -/
theorem Owned.slOf {R' : α → List Value → Prop} (h : Owned W base T z R v l) (hR : ∀ x cs, R x cs → R' x cs) : SlOf W W.heap.size z R' l v := by
  obtain ⟨css, h1, h2, h3⟩ := h
  have hall : ∀ x ∈ css, x.length = z := by
    intro x hx
    obtain ⟨i, hi⟩ := List.mem_iff_getElem?.1 hx
    have hil : i < l.length := by rw [← h1]; exact (List.getElem?_eq_some_iff.1 hi).1
    obtain ⟨cs, e, hz, _⟩ := h2 i l[i] (List.getElem?_eq_getElem hil)
    rw [hi] at e
    cases e
    exact hz
  rcases h3.2 with ⟨rfl, h0⟩ | ⟨g, cap, cur, rfl, hb, hg, hnc, hcm, _, _⟩
  · exact .inl ⟨rfl, List.eq_nil_of_length_eq_zero h0⟩
  · refine .inr ⟨⟨g, 0, none⟩, cap, rfl, hnc, hcm, fun _ => (Array.getElem?_eq_some_iff.1 hg).1, fun i x hx => ?_⟩
    obtain ⟨cs, e, hz, r⟩ := h2 i x hx
    exact ⟨cs, hz, hR x cs r, fun j c hj => h3.cells (g := g) rfl _ _ (flat_get css i j cs c hall e hj)⟩
end
end Go.Proofs.Ytiljpacmkmmlcaa
