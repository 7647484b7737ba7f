/- Sets in a row of one's own, each as it lay. -/
import Derived.Test.YtiljpacmkmmlcaaWv
import Derived.Test.YtiljpacmkmmlcaaCva
set_option linter.unusedSimpArgs false
set_option linter.unusedVariables false
namespace Go.Proofs.Ytiljpacmkmmlcaa
open Go.RowKit

/-- Sets in a row of one's own, each as it lay in w0. -/
structure TuI (w0 : World) (N : Nat) (l : List (List Int)) (u : Value) (xs : List Value) (wr : World) : Prop where
  own : wr.ownsRow N 23 1 u l.length xs
  set : ∀ (i : Nat) (s : List Int) (v : Value), l[i]? = some s → xs[i]? = some v → SlOf w0 w0.heap.size 1 IntC s v
  b : Below w0.heap.size w0 wr
section
variable {w0 wr : World} {N : Nat} {l : List (List Int)} {u : Value} {xs : List Value}
theorem TuI.len (h : TuI w0 N l u xs wr) : xs.length = l.length := by simpa using h.own.1
theorem TuI.sets (h : TuI w0 N l u xs wr) : SetsS wr wr.heap.size l u := by
  rcases h.own.2 with ⟨h1, h2⟩ | ⟨g, cap, cur, hv, hb, hg, hc, hx, _⟩
  · exact .inl ⟨h1, List.length_eq_zero_iff.1 h2⟩
  · refine .inr ⟨⟨g, 0, none⟩, cap, hv, hc, hx, fun _ => (Array.getElem?_eq_some_iff.1 hg).1, fun i o hi => ?_⟩
    obtain ⟨v, hv⟩ : ∃ v, xs[i]? = some v := ⟨xs[i]'(by rw [h.len]; exact (List.getElem?_eq_some_iff.1 hi).1), List.getElem?_eq_getElem _⟩
    refine ⟨[v], rfl, IntsC.more (IntsC.below ⟨v, rfl, h.set i o v hi hv⟩ h.b) h.b.size, fun j c hj => ?_⟩
    cases j with
    | succ j => simp at hj
    | zero =>
      have e : v = c := by simpa using hj
      subst e
      rw [Nat.mul_one, Nat.add_zero]
      exact h.own.cells (g := g) (by rw [‹u = _›]; rfl) i _ hv
theorem TuI.past {W : World} (h : TuI w0 N l u xs wr) (hb : Below wr.heap.size wr W) : TuI w0 N l u xs W := ⟨own_past h.own hb, h.set, h.b.trans (hb.mono h.b.size)⟩
theorem TuI.snoc {w3 : World} {u' v : Value} {s : List Int} (h : TuI w0 N l u xs wr) (hN : w0.heap.size ≤ N) (hs : SlOf w0 w0.heap.size 1 IntC s v) (hg : wr.grownBy w3 u.ownBlock) (ho : w3.ownsRow N 23 1 u' (l.length + 1) (xs ++ [v])) : TuI w0 N (l ++ [s]) u' (xs ++ [v]) w3 := by
  refine ⟨by rw [List.length_append]; exact ho, fun i s' v' h1 h2 => ?_, h.b.grown hg h.b.size (fun j hj => Nat.le_trans hN (h.own.lt j hj).1)⟩
  have hl := h.len
  rw [List.getElem?_append] at h1 h2
  rw [hl] at h2
  split at h2
  · rename_i hi
    rw [if_pos hi] at h1
    exact h.set i s' v' h1 h2
  · rename_i hi
    rw [if_neg hi] at h1
    have e0 : i - l.length = 0 := by have := (List.getElem?_eq_some_iff.1 h2).1; simp at this; omega
    rw [e0] at h1 h2
    have e1 : s = s' := by simpa using h1
    have e2 : v = v' := by simpa using h2
    subst e1; subst e2
    exact hs
end
end Go.Proofs.Ytiljpacmkmmlcaa
