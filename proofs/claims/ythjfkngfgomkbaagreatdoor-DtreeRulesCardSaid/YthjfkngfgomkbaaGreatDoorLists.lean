/- Plain facts on lists of bytes: a byte's sign tells the byte; texts of unlike symbols are unlike; numerals of unlike numbers are unlike. No program here. -/

import Derived.Test.YthjfkngfgomkbaaGreatDoorQuote
namespace Go.Proofs.YthjfkngfgomkbaaGreatDoor

/-- The signs of unlike bytes are unlike, and none begins another. -/
theorem sign_free : ∀ c d : Fin 256, (sign (UInt8.ofNat c.1)).isPrefixOf (sign (UInt8.ofNat d.1)) = true → c = d := by decide +kernel
theorem ofNat_toNat (c : UInt8) : UInt8.ofNat c.toNat = c := by simp
theorem sign_prefix {c d : UInt8} {l : List UInt8} (h : sign d = sign c ++ l) : c = d := by
  have hp : (sign c).isPrefixOf (sign d) = true := by
    rw [h]
    exact List.isPrefixOf_iff_prefix.2 ⟨l, rfl⟩
  have := sign_free ⟨c.toNat, c.toNat_lt⟩ ⟨d.toNat, d.toNat_lt⟩ (by simpa only [ofNat_toNat] using hp)
  exact UInt8.toNat_inj.1 (Fin.mk.inj_iff.1 this)
theorem sign_ne_nil : ∀ c : Fin 256, sign (UInt8.ofNat c.1) ≠ [] := by decide +kernel
theorem sign_ne (c : UInt8) : sign c ≠ [] := by
  have := sign_ne_nil ⟨c.toNat, c.toNat_lt⟩
  rwa [ofNat_toNat] at this

theorem flat_inj : ∀ s t : List UInt8, s.flatMap sign = t.flatMap sign → s = t
  | [], [], _ => rfl
  | [], d :: t, h => by
    simp only [List.flatMap_nil, List.flatMap_cons] at h
    exact absurd (List.append_eq_nil_iff.1 h.symm).1 (sign_ne d)
  | c :: s, [], h => by
    simp only [List.flatMap_nil, List.flatMap_cons] at h
    exact absurd (List.append_eq_nil_iff.1 h).1 (sign_ne c)
  | c :: s, d :: t, h => by
    simp only [List.flatMap_cons] at h
    have e : c = d := by
      rcases List.append_eq_append_iff.1 h with ⟨l, h1, _⟩ | ⟨l, h1, _⟩
      · exact sign_prefix h1
      · exact (sign_prefix h1).symm
    subst e
    rw [flat_inj s t (List.append_cancel_left h)]

theorem quoteL_inj {s t : List UInt8} (h : quoteL s = quoteL t) : s = t := by
  unfold quoteL at h
  exact flat_inj s t (List.append_cancel_right (List.cons.inj h).2)
end Go.Proofs.YthjfkngfgomkbaaGreatDoor
