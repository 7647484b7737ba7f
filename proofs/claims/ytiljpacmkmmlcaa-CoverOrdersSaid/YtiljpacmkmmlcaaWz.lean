/- Sets copied into a row, and cut there. -/
import Derived.Test.YtiljpacmkmmlcaaWx
import Derived.Test.YtiljpacmkmmlcaaChain2
import Derived.Test.YtiljpacmkmmlcaaCvc
set_option linter.unusedSimpArgs false
set_option linter.unusedVariables false
namespace Go.Proofs.Ytiljpacmkmmlcaa
open Go.RowKit

/-- What is appended when sets are. -/
theorem sets_spread {w : World} {l : List (List Int)} {v : Value} (h : SetsS w w.heap.size l v) : ∃ news : List Value, news.length = l.length ∧ (∀ (i : Nat) (s : List Int) (u : Value), l[i]? = some s → news[i]? = some u → SlOf w w.heap.size 1 IntC s u) ∧ ∀ w', Below w.heap.size w w' → Spread w' 1 v l.length news := by
  rcases h with ⟨rfl, rfl⟩ | ⟨a, cap, rfl, h1, h2, h3, h4⟩
  · exact ⟨[], rfl, fun i s u hs => by simp at hs, fun w' _ => .inl ⟨rfl, rfl, rfl⟩⟩
  · have each : ∀ i (hi : i < l.length), ∃ u, SlOf w w.heap.size 1 IntC l[i] u ∧ w.cell? (a.add i) = some u := by
      intro i hi
      obtain ⟨cs, _, ⟨u, rfl, hu⟩, hc⟩ := h4 i l[i] (List.getElem?_eq_getElem hi)
      have := hc.n1
      rw [Nat.mul_one] at this
      exact ⟨u, hu, this⟩
    have hat : ∀ (i : Nat) (u : Value), ((List.finRange l.length).map fun i => (each i.1 i.2).choose)[i]? = some u → ∃ hi : i < l.length, SlOf w w.heap.size 1 IntC l[i] u ∧ w.cell? (a.add i) = some u := by
      intro i u hu
      rw [List.getElem?_map, Option.map_eq_some_iff] at hu
      obtain ⟨j, hj, rfl⟩ := hu
      obtain ⟨hi, e⟩ := List.getElem?_eq_some_iff.1 hj
      simp only [List.getElem_finRange] at e
      subst e
      exact ⟨by simpa using hi, (each i (by simpa using hi)).choose_spec⟩
    refine ⟨(List.finRange l.length).map fun i => (each i.1 i.2).choose, by simp, fun i s u hs hu => ?_, fun w' hb => .inr ⟨a, cap, rfl, by simp, fun j u hu => ?_, fun u hu => ?_⟩⟩
    · obtain ⟨hi, hx, _⟩ := hat i u hu
      rw [List.getElem?_eq_getElem hi] at hs
      cases hs
      exact hx
    · obtain ⟨hi, _, hc⟩ := hat j u hu
      have hne : l ≠ [] := by rintro rfl; simp at hi
      exact (hb.cell (by rw [addBlock]; exact h3 hne)).trans hc
    · obtain ⟨i, hi⟩ := List.mem_iff_getElem?.1 hu
      obtain ⟨_, hx, _⟩ := hat i u hi
      obtain ⟨o, c, rfl, _⟩ := SlOf.uni hx
      rfl
section
variable {w0 wr : World} {N : Nat} {l : List (List Int)} {u : Value} {xs : List Value}
theorem TuI.put {k g cap n : Nat} {s : List Int} {v : Value} (h : TuI w0 N l (.slice (some ⟨g, 0, none⟩) n cap) xs wr) (hn : l.length = n) (hk : k < n) (hN : w0.heap.size ≤ N) (hs : SlOf w0 w0.heap.size 1 IntC s v) : TuI w0 N (l.set k s) (.slice (some ⟨g, 0, none⟩) n cap) (xs.set k v) (wr.setCell ⟨g, k, none⟩ v) := by
  have ho := h.own
  rw [hn] at ho
  obtain ⟨q1, q2⟩ := ho.stored k v
  have hx := h.len
  refine ⟨by rw [List.length_set, hn]; exact q1, fun i s' v' h1 h2 => ?_, h.b.grown q2 h.b.size (fun j hj => ?_)⟩
  · by_cases e : i = k
    · subst e
      rw [List.getElem?_set_self (by omega)] at h1 h2
      cases h1; cases h2
      exact hs
    · rw [List.getElem?_set_ne (Ne.symm e)] at h1 h2
      exact h.set i s' v' h1 h2
  · obtain rfl : g = j := Option.some.inj hj
    exact Nat.le_trans hN (ho.lt g rfl).1
def slotsCp (a b c d : Tmp) : List (Option Tmp) := [some a, some b, some c, some d, some 1]
def factsCp (v c : Value) : List (Value → Prop) := [fun _ => True, fun x => x = v, fun x => x = c, fun _ => True, fun _ => True]
/-- What stands behind nothing, the make, the append, the assignment. -/
def stateCp (N n : Nat) (news : List Value) : Nat → (Nat → Value) → World → Prop
  | 0, _, _ => True
  | 1, val, w => w.ownsRow N 23 1 (val 0) 0 []
  | 2, val, w => w.ownsRow N 23 1 (val 3) n news
  | _, val, w => w.ownsRow N 23 1 (val 3) n news ∧ val 4 = val 3
end
end Go.Proofs.Ytiljpacmkmmlcaa
