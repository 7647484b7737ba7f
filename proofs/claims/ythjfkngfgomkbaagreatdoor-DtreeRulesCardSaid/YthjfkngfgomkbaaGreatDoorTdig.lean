/- Plain facts on numerals: a numeral tells its number; the reader of numbers reads a numeral as its number, and reads nothing but numerals. No program here. -/
import Derived.Test.YthjfkngfgomkbaaGreatDoorNumc
namespace Go.Proofs.YthjfkngfgomkbaaGreatDoor

def valL (l : List UInt8) : Nat := l.foldl (fun n c => n * 10 + (c.toNat - 48)) 0
theorem valL_snoc (l : List UInt8) (c : UInt8) : valL (l ++ [c]) = valL l * 10 + (c.toNat - 48) := by
  simp [valL, List.foldl_append]
theorem dig_toNat (k : Nat) (h : k < 10) : (UInt8.ofNat (48 + k)).toNat = 48 + k := by
  simp
  omega
theorem dec_one (u : Nat) (h : u < 10) : Lib.decDigits u = [UInt8.ofNat (48 + u)] := by
  rw [Lib.decDigits]
  simp [h]
theorem dec_more (u : Nat) (h : ¬ u < 10) : Lib.decDigits u = Lib.decDigits (u / 10) ++ [UInt8.ofNat (48 + u % 10)] := by
  conv => lhs; rw [Lib.decDigits]
  simp [h]

theorem valL_dec (u : Nat) : valL (Lib.decDigits u) = u := by
  induction u using Nat.strongRecOn with
  | ind u ih =>
    by_cases h : u < 10
    · rw [dec_one u h]
      simp only [valL, List.foldl_cons, List.foldl_nil, dig_toNat u h]
      omega
    · rw [dec_more u h, valL_snoc, ih (u / 10) (by omega), dig_toNat _ (by omega)]
      omega
theorem dec_digits (u : Nat) : ∀ c ∈ Lib.decDigits u, 48 ≤ c.toNat ∧ c.toNat ≤ 57 := by
  induction u using Nat.strongRecOn with
  | ind u ih =>
    intro c hc
    by_cases h : u < 10
    · rw [dec_one u h] at hc
      rw [List.mem_singleton.1 hc]
      rw [dig_toNat u h]
      omega
    · rw [dec_more u h] at hc
      rcases List.mem_append.1 hc with hc | hc
      · exact ih (u / 10) (by omega) c hc
      · rw [List.mem_singleton.1 hc]
        rw [dig_toNat (u % 10) (by omega)]
        omega
theorem dec_ne (u : Nat) : Lib.decDigits u ≠ [] := by
  by_cases h : u < 10
  · rw [dec_one u h]; simp
  · rw [dec_more u h]; simp
theorem dec_inj {u v : Nat} (h : Lib.decDigits u = Lib.decDigits v) : u = v := by
  rw [← valL_dec u, h, valL_dec]

theorem itoa_inj {n m : Int} (h : Lib.itoa n = Lib.itoa m) : n = m := by
  have no : ∀ (u : Nat) (l : List UInt8), Lib.decDigits u ≠ 45 :: l := by
    intro u l e
    have := dec_digits u 45 (by rw [e]; simp)
    simp at this
  unfold Lib.itoa at h
  split at h <;> split at h
  · have := dec_inj (List.cons.inj h).2
    omega
  · exact absurd h.symm (no _ _)
  · exact absurd h (no _ _)
  · have := dec_inj h
    omega
theorem itoa_beq (n m : Int) : (Lib.itoa n == Lib.itoa m) = (n == m) := by
  rw [Bool.eq_iff_iff, beq_iff_eq, beq_iff_eq]
  exact ⟨itoa_inj, fun h => by rw [h]⟩
/-- A number's text does not begin with a quote. -/
theorem itoa_quote (n : Int) (l : List UInt8) : Lib.itoa n ≠ 34 :: l := by
  intro e
  unfold Lib.itoa at e
  split at e
  · have := (List.cons.inj e).1
    cases this
  · have := dec_digits n.toNat 34 (by rw [e]; simp)
    simp at this
end Go.Proofs.YthjfkngfgomkbaaGreatDoor
