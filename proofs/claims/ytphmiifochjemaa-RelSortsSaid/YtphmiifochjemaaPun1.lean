/- A row that is copied and put behind the rows in a box, in whatever order. -/
import Derived.Test.YtphmiifochjemaaPun0
namespace Go.Proofs.Ytphmiifochjemaa
open Go.RowKit

/-- Blocks of cells that are no rows of one's own, and not the box, lie as they lay. -/
def KeepO (nb : Nat) (W W' : World) : Prop := ∀ (k : Nat) (cs : Array Value) (T : TypeId), W.heap[k]? = some (.cells cs T (0, 0)) → T ≠ 23 → k ≠ nb → W'.heap[k]? = some (.cells cs T (0, 0))
theorem set_at {l : Array Bool} {i j n : Nat} (hl : l.size = n) (hi : i < n) : (l.setIfInBounds i true).getD j false = if j = i then true else l.getD j false := by
  by_cases h : j = i
  · subst h; rw [if_pos rfl]; exact getD_same (by omega)
  · rw [if_neg h]; exact getD_set h
theorem nt {p : Bool} (h : p = false) (h' : p = true) {C : Prop} : C := by rw [h] at h'; cases h'
structure Ap3 (W0 : World) (r : Rw) (u : Value) (w : World) : Prop where
  b : Below W0.heap.size W0 w
  e : ∃ o c, u = .slice o r.length c
  see : SlOf (seeV w) w.heap.size 3 VlC r u
structure Ap4 (w0 W0 : World) (nb B : Nat) (ov : Value) (hs : List Hd) (r : Rw) (v : Value) (w : World) : Prop where
  box : w.heap[nb]? = some (.cells #[ov] 22 (0, 0))
  own : ∃ u, w.ownsRow w0.heap.size 23 1 v (hs.length + 1) (hs.map Prod.snd ++ [u]) ∧ SlOf (seeV w) w.heap.size 3 VlC r u
  see : ∀ x ∈ hs, SlOf (seeV w) w.heap.size 3 VlC x.1 x.2
  b : Below w0.heap.size w0 w
  k : KeepO nb W0 w
  f : KeepsFrom B W0 w
structure Ap5 (w0 W0 : World) (nb B : Nat) (hs : List Hd) (r : Rw) (w : World) : Prop where
  rows : ∃ u, RoB w0 nb (hs ++ [(r, u)]) w
  k : KeepO nb W0 w
  f : KeepsFrom B W0 w
structure FA (w0 W0 : World) (nb B : Nat) (ov rv : Value) (hs : List Hd) (r : Rw) (l : Array Bool) (val : Nat → Value) (w : World) : Prop where
  f0 : l.getD 0 false = true → val 0 = ov
  f1 : l.getD 1 false = true → val 1 = rv
  c3 : l.getD 3 false = true → l.getD 2 false = true
  c4 : l.getD 4 false = true → l.getD 3 false = true
  c0 : l.getD 4 false = true → l.getD 0 false = true
  c5 : l.getD 5 false = true → l.getD 4 false = true
  s1 : l.getD 2 false = false → Below W0.heap.size W0 w
  s2 : l.getD 2 false = true → l.getD 3 false = false → Ap3 W0 r (val 2) w
  s3 : l.getD 3 false = true → l.getD 4 false = false → ∃ b u, val 3 = .slice (some ⟨b, 0, none⟩) 1 1 ∧ w.heap[b]? = some (.cells #[u] 23 (0, 0)) ∧ Ap3 W0 r u w
  s4 : l.getD 4 false = true → l.getD 5 false = false → Ap4 w0 W0 nb B ov hs r (val 4) w
  s5 : l.getD 5 false = true → Ap5 w0 W0 nb B hs r w
section
variable {w0 W0 w w' : World} {nb B : Nat} {ov rv : Value} {hs : List Hd} {r : Rw} {l : Array Bool} {val : Nat → Value}
theorem FA.start : FA w0 W0 nb B ov rv hs r (Array.replicate 6 false) val W0 := by
  have rep : ∀ j, (Array.replicate 6 false).getD j false = false := by
    intro j
    simp [Array.getD_eq_getD_getElem?, Array.getElem?_replicate]
    split <;> simp
  constructor <;> intro h
  all_goals first | exact nt (rep _) h | exact Below.refl _ _
theorem FA.bel (h : FA w0 W0 nb B ov rv hs r l val w) (hn : l.getD 4 false = false) : Below W0.heap.size W0 w := by
  cases h2 : l.getD 2 false with
  | false => exact h.s1 h2
  | true =>
    cases h3 : l.getD 3 false with
    | false => exact (h.s2 h2 h3).b
    | true =>
      obtain ⟨b, u, _, _, h4⟩ := h.s3 h3 hn
      exact h4.b
theorem FA.step0 (h : FA w0 W0 nb B ov rv hs r l val w) (hl : l.size = 6) (hn : l.getD 0 false = false) : FA w0 W0 nb B ov rv hs r (l.setIfInBounds 0 true) (updV val 0 ov) w := by
  have g0 : (l.setIfInBounds 0 true).getD 0 false = true := getD_same (by omega)
  have g1 : (l.setIfInBounds 0 true).getD 1 false = l.getD 1 false := getD_set (by decide)
  have g2 : (l.setIfInBounds 0 true).getD 2 false = l.getD 2 false := getD_set (by decide)
  have g3 : (l.setIfInBounds 0 true).getD 3 false = l.getD 3 false := getD_set (by decide)
  have g4 : (l.setIfInBounds 0 true).getD 4 false = l.getD 4 false := getD_set (by decide)
  have g5 : (l.setIfInBounds 0 true).getD 5 false = l.getD 5 false := getD_set (by decide)
  have v0 : updV val 0 ov 0 = ov := updV_same _ _ _
  have v1 : updV val 0 ov 1 = val 1 := updV_other _ _ (by decide)
  have v2 : updV val 0 ov 2 = val 2 := updV_other _ _ (by decide)
  have v3 : updV val 0 ov 3 = val 3 := updV_other _ _ (by decide)
  have v4 : updV val 0 ov 4 = val 4 := updV_other _ _ (by decide)
  constructor
  · exact fun _ => v0
  · rw [g1, v1]; exact h.f1
  · rw [g3, g2]; exact h.c3
  · rw [g4, g3]; exact h.c4
  · exact fun _ => g0
  · rw [g5, g4]; exact h.c5
  · rw [g2]; exact h.s1
  · rw [g2, g3, v2]; exact h.s2
  · rw [g3, g4, v3]; exact h.s3
  · rw [g4, g5, v4]; exact h.s4
  · rw [g5]; exact h.s5
theorem FA.step1 (h : FA w0 W0 nb B ov rv hs r l val w) (hl : l.size = 6) (hn : l.getD 1 false = false) : FA w0 W0 nb B ov rv hs r (l.setIfInBounds 1 true) (updV val 1 rv) w := by
  have g0 : (l.setIfInBounds 1 true).getD 0 false = l.getD 0 false := getD_set (by decide)
  have g1 : (l.setIfInBounds 1 true).getD 1 false = true := getD_same (by omega)
  have g2 : (l.setIfInBounds 1 true).getD 2 false = l.getD 2 false := getD_set (by decide)
  have g3 : (l.setIfInBounds 1 true).getD 3 false = l.getD 3 false := getD_set (by decide)
  have g4 : (l.setIfInBounds 1 true).getD 4 false = l.getD 4 false := getD_set (by decide)
  have g5 : (l.setIfInBounds 1 true).getD 5 false = l.getD 5 false := getD_set (by decide)
  have v0 : updV val 1 rv 0 = val 0 := updV_other _ _ (by decide)
  have v1 : updV val 1 rv 1 = rv := updV_same _ _ _
  have v2 : updV val 1 rv 2 = val 2 := updV_other _ _ (by decide)
  have v3 : updV val 1 rv 3 = val 3 := updV_other _ _ (by decide)
  have v4 : updV val 1 rv 4 = val 4 := updV_other _ _ (by decide)
  constructor
  · rw [g0, v0]; exact h.f0
  · exact fun _ => v1
  · rw [g3, g2]; exact h.c3
  · rw [g4, g3]; exact h.c4
  · rw [g4, g0]; exact h.c0
  · rw [g5, g4]; exact h.c5
  · rw [g2]; exact h.s1
  · rw [g2, g3, v2]; exact h.s2
  · rw [g3, g4, v3]; exact h.s3
  · rw [g4, g5, v4]; exact h.s4
  · rw [g5]; exact h.s5
theorem FA.step2 (h : FA w0 W0 nb B ov rv hs r l val w) (hl : l.size = 6) (hn : l.getD 2 false = false) {u : Value} (hu : Ap3 W0 r u w') : FA w0 W0 nb B ov rv hs r (l.setIfInBounds 2 true) (updV val 2 u) w' := by
  have g0 : (l.setIfInBounds 2 true).getD 0 false = l.getD 0 false := getD_set (by decide)
  have g1 : (l.setIfInBounds 2 true).getD 1 false = l.getD 1 false := getD_set (by decide)
  have g2 : (l.setIfInBounds 2 true).getD 2 false = true := getD_same (by omega)
  have g3 : (l.setIfInBounds 2 true).getD 3 false = l.getD 3 false := getD_set (by decide)
  have g4 : (l.setIfInBounds 2 true).getD 4 false = l.getD 4 false := getD_set (by decide)
  have g5 : (l.setIfInBounds 2 true).getD 5 false = l.getD 5 false := getD_set (by decide)
  have v0 : updV val 2 u 0 = val 0 := updV_other _ _ (by decide)
  have v1 : updV val 2 u 1 = val 1 := updV_other _ _ (by decide)
  have v2 : updV val 2 u 2 = u := updV_same _ _ _
  have v3 : updV val 2 u 3 = val 3 := updV_other _ _ (by decide)
  have v4 : updV val 2 u 4 = val 4 := updV_other _ _ (by decide)
  have e3 : l.getD 3 false = false := by
    cases h3 : l.getD 3 false with
    | false => rfl
    | true => exact nt hn (h.c3 h3)
  have e4 : l.getD 4 false = false := by
    cases h4 : l.getD 4 false with
    | false => rfl
    | true => exact nt e3 (h.c4 h4)
  have e5 : l.getD 5 false = false := by
    cases h5 : l.getD 5 false with
    | false => rfl
    | true => exact nt e4 (h.c5 h5)
  constructor
  · rw [g0, v0]; exact h.f0
  · rw [g1, v1]; exact h.f1
  · exact fun _ => g2
  · rw [g4]; exact fun h => nt e4 h
  · rw [g4]; exact fun h => nt e4 h
  · rw [g5]; exact fun h => nt e5 h
  · rw [g2]; exact fun h => by cases h
  · rw [v2]; exact fun _ _ => hu
  · rw [g3]; exact fun h => nt e3 h
  · rw [g4]; exact fun h => nt e4 h
  · rw [g5]; exact fun h => nt e5 h
theorem FA.step3 (h : FA w0 W0 nb B ov rv hs r l val w) (hl : l.size = 6) (hn : l.getD 3 false = false) (h2 : l.getD 2 false = true) {b : Nat} {u : Value} (hb : w'.heap[b]? = some (.cells #[u] 23 (0, 0))) (hu : Ap3 W0 r u w') : FA w0 W0 nb B ov rv hs r (l.setIfInBounds 3 true) (updV val 3 (.slice (some ⟨b, 0, none⟩) 1 1)) w' := by
  have g0 : (l.setIfInBounds 3 true).getD 0 false = l.getD 0 false := getD_set (by decide)
  have g1 : (l.setIfInBounds 3 true).getD 1 false = l.getD 1 false := getD_set (by decide)
  have g2 : (l.setIfInBounds 3 true).getD 2 false = l.getD 2 false := getD_set (by decide)
  have g3 : (l.setIfInBounds 3 true).getD 3 false = true := getD_same (by omega)
  have g4 : (l.setIfInBounds 3 true).getD 4 false = l.getD 4 false := getD_set (by decide)
  have g5 : (l.setIfInBounds 3 true).getD 5 false = l.getD 5 false := getD_set (by decide)
  have v0 : updV val 3 (.slice (some ⟨b, 0, none⟩) 1 1) 0 = val 0 := updV_other _ _ (by decide)
  have v1 : updV val 3 (.slice (some ⟨b, 0, none⟩) 1 1) 1 = val 1 := updV_other _ _ (by decide)
  have v2 : updV val 3 (.slice (some ⟨b, 0, none⟩) 1 1) 2 = val 2 := updV_other _ _ (by decide)
  have v3 : updV val 3 (.slice (some ⟨b, 0, none⟩) 1 1) 3 = (.slice (some ⟨b, 0, none⟩) 1 1) := updV_same _ _ _
  have v4 : updV val 3 (.slice (some ⟨b, 0, none⟩) 1 1) 4 = val 4 := updV_other _ _ (by decide)
  have e4 : l.getD 4 false = false := by
    cases h4 : l.getD 4 false with
    | false => rfl
    | true => exact nt hn (h.c4 h4)
  have e5 : l.getD 5 false = false := by
    cases h5 : l.getD 5 false with
    | false => rfl
    | true => exact nt e4 (h.c5 h5)
  constructor
  · rw [g0, v0]; exact h.f0
  · rw [g1, v1]; exact h.f1
  · rw [g2]; exact fun _ => h2
  · rw [g4]; exact fun h => nt e4 h
  · rw [g4]; exact fun h => nt e4 h
  · rw [g5]; exact fun h => nt e5 h
  · rw [g2, h2]; exact fun h => by cases h
  · rw [g3]; exact fun _ h => by cases h
  · rw [v3]; exact fun _ _ => ⟨b, u, rfl, hb, hu⟩
  · rw [g4]; exact fun h => nt e4 h
  · rw [g5]; exact fun h => nt e5 h
theorem FA.step4 (h : FA w0 W0 nb B ov rv hs r l val w) (hl : l.size = 6) (hn : l.getD 4 false = false) (h0 : l.getD 0 false = true) (h3 : l.getD 3 false = true) {v : Value} (hv : Ap4 w0 W0 nb B ov hs r v w') : FA w0 W0 nb B ov rv hs r (l.setIfInBounds 4 true) (updV val 4 v) w' := by
  have g0 : (l.setIfInBounds 4 true).getD 0 false = l.getD 0 false := getD_set (by decide)
  have g1 : (l.setIfInBounds 4 true).getD 1 false = l.getD 1 false := getD_set (by decide)
  have g2 : (l.setIfInBounds 4 true).getD 2 false = l.getD 2 false := getD_set (by decide)
  have g3 : (l.setIfInBounds 4 true).getD 3 false = l.getD 3 false := getD_set (by decide)
  have g4 : (l.setIfInBounds 4 true).getD 4 false = true := getD_same (by omega)
  have g5 : (l.setIfInBounds 4 true).getD 5 false = l.getD 5 false := getD_set (by decide)
  have v0 : updV val 4 v 0 = val 0 := updV_other _ _ (by decide)
  have v1 : updV val 4 v 1 = val 1 := updV_other _ _ (by decide)
  have v2 : updV val 4 v 2 = val 2 := updV_other _ _ (by decide)
  have v3 : updV val 4 v 3 = val 3 := updV_other _ _ (by decide)
  have v4 : updV val 4 v 4 = v := updV_same _ _ _
  have e5 : l.getD 5 false = false := by
    cases h5 : l.getD 5 false with
    | false => rfl
    | true => exact nt hn (h.c5 h5)
  constructor
  · rw [g0, v0]; exact h.f0
  · rw [g1, v1]; exact h.f1
  · rw [g3, g2]; exact h.c3
  · rw [g3]; exact fun _ => h3
  · rw [g0]; exact fun _ => h0
  · rw [g5]; exact fun h => nt e5 h
  · rw [g2, h.c3 h3]; exact fun h => by cases h
  · rw [g3, h3]; exact fun _ h => by cases h
  · rw [g4]; exact fun _ h => by cases h
  · rw [v4]; exact fun _ _ => hv
  · rw [g5]; exact fun h => nt e5 h
theorem FA.step5 (h : FA w0 W0 nb B ov rv hs r l val w) (hl : l.size = 6) (hn : l.getD 5 false = false) (h4 : l.getD 4 false = true) {v : Value} (hv : Ap5 w0 W0 nb B hs r w') : FA w0 W0 nb B ov rv hs r (l.setIfInBounds 5 true) (updV val 5 v) w' := by
  have g0 : (l.setIfInBounds 5 true).getD 0 false = l.getD 0 false := getD_set (by decide)
  have g1 : (l.setIfInBounds 5 true).getD 1 false = l.getD 1 false := getD_set (by decide)
  have g2 : (l.setIfInBounds 5 true).getD 2 false = l.getD 2 false := getD_set (by decide)
  have g3 : (l.setIfInBounds 5 true).getD 3 false = l.getD 3 false := getD_set (by decide)
  have g4 : (l.setIfInBounds 5 true).getD 4 false = l.getD 4 false := getD_set (by decide)
  have g5 : (l.setIfInBounds 5 true).getD 5 false = true := getD_same (by omega)
  have v0 : updV val 5 v 0 = val 0 := updV_other _ _ (by decide)
  have v1 : updV val 5 v 1 = val 1 := updV_other _ _ (by decide)
  have v2 : updV val 5 v 2 = val 2 := updV_other _ _ (by decide)
  have v3 : updV val 5 v 3 = val 3 := updV_other _ _ (by decide)
  have v4 : updV val 5 v 4 = val 4 := updV_other _ _ (by decide)
  constructor
  · rw [g0, v0]; exact h.f0
  · rw [g1, v1]; exact h.f1
  · rw [g3, g2]; exact h.c3
  · rw [g4, g3]; exact h.c4
  · rw [g4, g0]; exact h.c0
  · rw [g4]; exact fun _ => h4
  · rw [g2, h.c3 (h.c4 h4)]; exact fun h => by cases h
  · rw [g3, h.c4 h4]; exact fun _ h => by cases h
  · rw [g4, h4]; exact fun _ h => by cases h
  · rw [g5]; exact fun _ h => by cases h
  · exact fun _ => hv
end
end Go.Proofs.Ytphmiifochjemaa
