/- Choices of things as numbers' bits, and which are apart. -/
import Derived.Test.YtiljpacmkmmlcaaKu3
set_option linter.unusedSimpArgs false
set_option linter.unusedVariables false
namespace Go.Proofs.Ytiljpacmkmmlcaa

def maskN (p : Nat → Bool) : Nat → Nat
  | 0 => 0
  | n + 1 => maskN p n + if p n = true then 2 ^ n else 0
theorem maskN_lt (p : Nat → Bool) : ∀ n, maskN p n < 2 ^ n
  | 0 => Nat.one_pos
  | n + 1 => by
    have := maskN_lt p n
    unfold maskN
    rw [Nat.pow_succ]
    split <;> omega
theorem maskN_bit (p : Nat → Bool) : ∀ (n i : Nat), i < n → (maskN p n).testBit i = p i
  | n + 1, i, h => by
    have hl := maskN_lt p n
    unfold maskN
    by_cases e : i = n
    · subst e
      cases hp : p i with
      | false => rw [if_neg (by decide), Nat.add_zero, Nat.testBit_lt_two_pow hl]
      | true => rw [if_pos rfl, Nat.add_comm, Nat.testBit_two_pow_add_eq, Nat.testBit_lt_two_pow hl]; rfl
    · have ih := maskN_bit p n i (by omega)
      split
      · rw [Nat.add_comm, Nat.testBit_two_pow_add_gt (by omega), ih]
      · rw [Nat.add_zero, ih]
/-- How many are chosen. -/
def cntB (n b : Nat) : Nat := ((List.range n).filter fun i => b.testBit i).length
def apartB (n : Nat) (R : Nat → Nat → Prop) (b : Nat) : Prop := ∀ i k, i < n → k < n → b.testBit i = true → b.testBit k = true → ¬ R i k
section
variable {n : Nat} {R : Nat → Nat → Prop}
theorem cntB_le {a b : Nat} (h : LeastN n R a) (hb : apartB n R b) : cntB n b ≤ a := by
  obtain ⟨_, f, f1, f2⟩ := h
  exact anti_le (nfilt_nodup List.nodup_range) (fun x hx => List.mem_range.1 (List.mem_filter.1 hx).1) (fun x hx y hy => by
    obtain ⟨h1, h2⟩ := List.mem_filter.1 hx
    obtain ⟨h3, h4⟩ := List.mem_filter.1 hy
    exact hb x y (List.mem_range.1 h1) (List.mem_range.1 h3) h2 h4) f1 f2
theorem cntB_some {a : Nat} (h : LeastN n R a) : ∃ b, b < 2 ^ n ∧ apartB n R b ∧ cntB n b = a := by
  obtain ⟨⟨A, a1, a2, a3, a4⟩, _⟩ := h
  have hbit : ∀ i, i < n → (maskN (fun i => decide (i ∈ A)) n).testBit i = decide (i ∈ A) := fun i hi => maskN_bit _ n i hi
  refine ⟨maskN (fun i => decide (i ∈ A)) n, maskN_lt _ n, fun i k hi hk h1 h2 => ?_, ?_⟩
  · rw [hbit i hi, decide_eq_true_eq] at h1
    rw [hbit k hk, decide_eq_true_eq] at h2
    exact a3 i h1 k h2
  · unfold cntB
    have h1 := nsub_len (l := (List.range n).filter fun i => (maskN (fun i => decide (i ∈ A)) n).testBit i) (m := A) (nfilt_nodup List.nodup_range) fun x hx => by
      obtain ⟨h1, h2⟩ := List.mem_filter.1 hx
      rw [hbit x (List.mem_range.1 h1), decide_eq_true_eq] at h2
      exact h2
    have h2 := nsub_len (l := A) (m := (List.range n).filter fun i => (maskN (fun i => decide (i ∈ A)) n).testBit i) a1 fun x hx => by
      refine List.mem_filter.2 ⟨List.mem_range.2 (a2 x hx), ?_⟩
      rw [hbit x (a2 x hx), decide_eq_true_eq]
      exact hx
    omega
/-- The greatest choice apart, from one on. -/
def bestB (f : Nat → Bool) (n : Nat) : Nat → Nat
  | 0 => 1
  | b + 1 => if bestB f n b < cntB n b ∧ f b = true then cntB n b else bestB f n b
theorem bestB_ge {f : Nat → Bool} {n : Nat} : ∀ (m b : Nat), b < m → f b = true → cntB n b ≤ bestB f n m
  | m + 1, b, h, hf => by
    unfold bestB
    by_cases e : b = m
    · subst e
      split
      · exact Nat.le_refl _
      · rename_i h2
        have : ¬ bestB f n b < cntB n b := fun h3 => h2 ⟨h3, hf⟩
        omega
    · have := bestB_ge (f := f) (n := n) m b (by omega) hf
      split <;> omega
theorem bestB_le {f : Nat → Bool} {n a : Nat} (h1 : 1 ≤ a) (h : ∀ b, f b = true → cntB n b ≤ a) : ∀ m, bestB f n m ≤ a
  | 0 => h1
  | m + 1 => by
    unfold bestB
    split
    · rename_i h2
      exact h m h2.2
    · exact bestB_le h1 h m
theorem best_least {a : Nat} {f : Nat → Bool} (hn : 0 < n) (h : LeastN n R a) (hf : ∀ b, f b = true ↔ apartB n R b) : bestB f n (2 ^ n) = a := by
  obtain ⟨b, h1, h2, h3⟩ := cntB_some h
  have := bestB_ge (n := n) (2 ^ n) b h1 ((hf b).2 h2)
  have := bestB_le (f := f) (n := n) (least_pos hn h) (fun b hb => cntB_le h ((hf b).1 hb)) (2 ^ n)
  omega
end
end Go.Proofs.Ytiljpacmkmmlcaa
