/- Plain facts: the reader of numbers reads just the numerals, each as its number. No program here. -/
import Derived.Test.YthjfkngfgomkbaaGreatDoorDigits
import Derived.Lib.ItoaLen
namespace Go.Proofs.YthjfkngfgomkbaaGreatDoor
open Go.RowKit

theorem mag_append (g : Nat) : ∀ (l l' : List UInt8) (sz : Nat), mag g sz (l ++ l') = (mag g sz l).bind fun m => mag g m l'
  | [], l', sz => rfl
  | c :: l, l', sz => by
    by_cases hc : 48 ≤ c.toNat ∧ c.toNat ≤ 57
    · by_cases hb : (g - (c.toNat - 48)) / 10 < sz
      · rw [List.cons_append, mag_big g sz c _ hc hb, mag_big g sz c _ hc hb]
        rfl
      · rw [List.cons_append, mag_go g sz c _ hc hb, mag_go g sz c _ hc hb, mag_append g l l']
    · rw [List.cons_append, mag_bad g sz c _ hc, mag_bad g sz c _ hc]
      rfl
theorem mag_dec (g : Nat) (h9 : 9 ≤ g) (u : Nat) : u ≤ g → mag g 0 (Lib.decDigits u) = some u := by
  induction u using Nat.strongRecOn with
  | ind u ih =>
    intro hu
    by_cases h : u < 10
    · rw [dec_one u h, mag_go _ _ _ _ (by rw [dig_toNat u h]; omega) (by omega), dig_toNat u h]
      simp [mag]
    · rw [dec_more u h, mag_append, ih (u / 10) (by omega) (by omega)]
      have hd := dig_toNat (u % 10) (by omega)
      rw [Option.bind_some, mag_go _ _ _ _ (by rw [hd]; omega) (by rw [hd]; omega), hd]
      simp [mag]
      omega
theorem dec_head (u : Nat) : (Lib.decDigits u).head? = some 48 → u = 0 := by
  induction u using Nat.strongRecOn with
  | ind u ih =>
    intro hh
    by_cases h : u < 10
    · rw [dec_one u h] at hh
      have e : UInt8.ofNat (48 + u) = 48 := Option.some.inj hh
      have e2 := dig_toNat u h
      rw [e] at e2
      have : (48 : UInt8).toNat = 48 := rfl
      omega
    · rw [dec_more u h, List.head?_append] at hh
      cases hd : (Lib.decDigits (u / 10)).head? with
      | none =>
        have := dec_ne (u / 10)
        rw [List.head?_eq_none_iff] at hd
        exact absurd hd this
      | some c =>
        rw [hd] at hh
        have := ih (u / 10) (by omega) (by rw [hd]; exact hh)
        omega
theorem dec_zero : Lib.decDigits 0 = [48] := by rw [dec_one 0 (by omega)]; rfl
theorem magL_dec (g : Nat) (h9 : 9 ≤ g) (u : Nat) (hu : u ≤ g) : magL g (Lib.decDigits u) = some u := by
  unfold magL
  rw [if_neg, mag_dec g h9 u hu]
  rintro (h | ⟨h, h2⟩)
  · exact dec_ne u h
  · apply h2
    rw [dec_head u h, dec_zero]
theorem dig_back (c : UInt8) (hc : 48 ≤ c.toNat ∧ c.toNat ≤ 57) : UInt8.ofNat (48 + (c.toNat - 48)) = c := by
  rw [show 48 + (c.toNat - 48) = c.toNat by omega]
  simp
theorem dec_push (sz : Nat) (h0 : sz ≠ 0) (c : UInt8) (hc : 48 ≤ c.toNat ∧ c.toNat ≤ 57) : Lib.decDigits (sz * 10 + (c.toNat - 48)) = Lib.decDigits sz ++ [c] := by
  rw [dec_more _ (by omega), show (sz * 10 + (c.toNat - 48)) / 10 = sz by omega, show (sz * 10 + (c.toNat - 48)) % 10 = c.toNat - 48 by omega, dig_back c hc]
theorem mag_back (g : Nat) : ∀ (l : List UInt8) (sz m : Nat), sz ≠ 0 → mag g sz l = some m → Lib.decDigits m = Lib.decDigits sz ++ l
  | [], sz, m, _, h => by
    obtain rfl : sz = m := Option.some.inj h
    simp
  | c :: l, sz, m, h0, h => by
    by_cases hc : 48 ≤ c.toNat ∧ c.toNat ≤ 57
    · by_cases hb : (g - (c.toNat - 48)) / 10 < sz
      · rw [mag_big g sz c l hc hb] at h; cases h
      · rw [mag_go g sz c l hc hb] at h
        rw [mag_back g l _ m (by omega) h, dec_push sz h0 c hc]
        simp
    · rw [mag_bad g sz c l hc] at h; cases h
theorem magL_back (g : Nat) (l : List UInt8) (m : Nat) (h : magL g l = some m) : Lib.decDigits m = l := by
  unfold magL at h
  by_cases hx : l = [] ∨ (l.head? = some 48 ∧ l ≠ [48])
  · rw [if_pos hx] at h; cases h
  · rw [if_neg hx] at h
    cases l with
    | nil => exact absurd (.inl rfl) hx
    | cons c l =>
      by_cases hc : 48 ≤ c.toNat ∧ c.toNat ≤ 57
      · rw [mag_go g 0 c l hc (by omega)] at h
        by_cases h48 : c.toNat = 48
        · have ec : c = 48 := UInt8.toNat_inj.1 h48
          subst ec
          have el : l = [] := by
            by_cases hl : l = []
            · exact hl
            · exact absurd (.inr ⟨rfl, by simp [hl]⟩) hx
          subst el
          have : m = 0 := (Option.some.inj h).symm
          rw [this, dec_zero]
        · rw [mag_back g l _ m (by omega) h]
          simp only [Nat.zero_mul, Nat.zero_add]
          rw [dec_one _ (by omega), dig_back c hc]
          rfl
      · rw [mag_bad g 0 c l hc] at h; cases h

theorem prefix_neg (l : List UInt8) : Lib.hasPrefix (45 :: l) [45] = true := by simp [Lib.hasPrefix]
theorem prefix_dec (u : Nat) : Lib.hasPrefix (Lib.decDigits u) [45] = false := by
  cases h : Lib.decDigits u with
  | nil => rfl
  | cons c l =>
    have := dec_digits u c (by rw [h]; simp)
    have hne : (45 == c) = false := by
      rw [beq_eq_false_iff_ne]
      rintro rfl
      simp at this
    show (45 == c && ([] : List UInt8).isPrefixOf l) = false
    rw [hne]
    rfl
theorem prefix_cons {l : List UInt8} (h : Lib.hasPrefix l [45] = true) : l = 45 :: l.drop 1 := by
  cases l with
  | nil => cases h
  | cons c l =>
    simp [Lib.hasPrefix] at h
    simp [h]

/-- A numeral is read as its number. -/
theorem numL_itoa (n : Int) (h0 : -9223372036854775808 ≤ n) (h1 : n ≤ 9223372036854775807) : numL (Lib.itoa n) = some n := by
  unfold Lib.itoa numL
  by_cases hn : n < 0
  · rw [if_pos hn, if_pos (prefix_neg _)]
    show negO (magL 9223372036854775808 (Lib.decDigits n.natAbs)) = some n
    rw [magL_dec _ (by omega) _ (by omega)]
    simp only [negO]
    rw [if_neg (by omega)]
    congr 1
    omega
  · rw [if_neg hn, if_neg (by rw [prefix_dec]; simp)]
    rw [magL_dec _ (by omega) _ (by omega)]
    simp only [posO]
    congr 1
    omega
/-- Nothing but numerals is read. -/
theorem numL_back {l : List UInt8} {n : Int} (h : numL l = some n) : Lib.itoa n = l ∧ -9223372036854775808 ≤ n ∧ n ≤ 9223372036854775807 := by
  unfold numL at h
  by_cases hp : Lib.hasPrefix l [45] = true
  · rw [if_pos hp] at h
    have hl := prefix_cons hp
    cases hm : magL 9223372036854775808 (l.drop 1) with
    | none => rw [hm] at h; cases h
    | some m =>
      rw [hm] at h
      by_cases h0 : m = 0
      · simp [negO, h0] at h
      · simp only [negO, if_neg h0, Option.some.injEq] at h
        have hle := magL_le _ _ m (by omega) hm
        have hb := magL_back _ _ m hm
        subst h
        refine ⟨?_, by omega, by omega⟩
        unfold Lib.itoa
        rw [if_pos (by omega), show (-(m : Int)).natAbs = m by omega, hb, ← hl]
  · rw [if_neg hp] at h
    cases hm : magL 9223372036854775807 l with
    | none => rw [hm] at h; cases h
    | some m =>
      rw [hm] at h
      simp only [posO, Option.some.injEq] at h
      have hle := magL_le _ _ m (by omega) hm
      have hb := magL_back _ _ m hm
      subst h
      refine ⟨?_, by omega, by omega⟩
      unfold Lib.itoa
      rw [if_neg (by omega), show (m : Int).toNat = m by omega, hb]
end Go.Proofs.YthjfkngfgomkbaaGreatDoor
