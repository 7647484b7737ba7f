/- What the plain functions behind text.Unquote make of quoted bytes, and back: facts of lists alone. -/
import Derived.Test.YthjfkngfgomkbaaGreatDoorUnquote
import Derived.Test.YthjfkngfgomkbaaGreatDoorLists
namespace Go.Proofs.YthjfkngfgomkbaaGreatDoor
open Go.RowKit

theorem sign_kinds_fin : ∀ c : Fin 256, (sign (UInt8.ofNat c.1) = [UInt8.ofNat c.1] ∧ UInt8.ofNat c.1 ≠ 92 ∧ UInt8.ofNat c.1 ≠ 34 ∧ plainB ((UInt8.ofNat c.1).toNat : Int) = true) ∨
    (sign (UInt8.ofNat c.1) = [92, 110] ∧ UInt8.ofNat c.1 = 10) ∨ (sign (UInt8.ofNat c.1) = [92, 34] ∧ UInt8.ofNat c.1 = 34) ∨ (sign (UInt8.ofNat c.1) = [92, 92] ∧ UInt8.ofNat c.1 = 92) ∨
    (sign (UInt8.ofNat c.1) = [92, 120, hexL.getD (c.1 / 16) 0, hexL.getD (c.1 % 16) 0] ∧ hexIx (hexL.getD (c.1 / 16) 0) = (c.1 / 16 : Nat) ∧ hexIx (hexL.getD (c.1 % 16) 0) = (c.1 % 16 : Nat) ∧ plainB (c.1 : Int) = false ∧ c.1 ≠ 10) := by decide +kernel
theorem hex_back_fin : ∀ c : Fin 256, 0 ≤ hexIx (UInt8.ofNat c.1) → hexL.getD (hexIx (UInt8.ofNat c.1)).toNat 0 = UInt8.ofNat c.1 := by decide +kernel
theorem hex_back (c : UInt8) (h : 0 ≤ hexIx c) : hexL.getD (hexIx c).toNat 0 = c := by
  have := hex_back_fin ⟨c.toNat, c.toNat_lt⟩
  simp only [ofNat_toNat] at this
  exact this h
theorem sign_hex_fin : ∀ h l : Fin 16, plainB (16 * (h.1 : Int) + (l.1 : Int)) = false → 16 * (h.1 : Int) + (l.1 : Int) ≠ 10 → sign (UInt8.ofNat (16 * h.1 + l.1)) = [92, 120, hexL.getD h.1 0, hexL.getD l.1 0] := by decide +kernel
theorem sign_plain_fin : ∀ c : Fin 256, UInt8.ofNat c.1 ≠ 92 → UInt8.ofNat c.1 ≠ 34 → plainB ((UInt8.ofNat c.1).toNat : Int) = true → sign (UInt8.ofNat c.1) = [UInt8.ofNat c.1] := by decide +kernel

theorem firstS_sign (c : UInt8) (r : List UInt8) : firstS (sign c ++ r) = some (c, (sign c).length) := by
  have hk := sign_kinds_fin ⟨c.toNat, c.toNat_lt⟩
  simp only [ofNat_toNat] at hk
  rcases hk with ⟨hs, h1, h2, h3⟩ | ⟨hs, h1⟩ | ⟨hs, h1⟩ | ⟨hs, h1⟩ | ⟨hs, h1, h2, h3, h4⟩
  · rw [hs]
    unfold firstS
    simp only [List.cons_append, List.nil_append, List.getD_cons_zero, List.length_cons, List.length_nil]
    rw [if_neg h1, if_neg (by rintro (h | h); exact h2 h; exact h h3)]
  · rw [hs, h1]
    simp [firstS, escS]
  · rw [hs, h1]
    simp [firstS, escS]
  · rw [hs, h1]
    simp [firstS, escS]
  · rw [hs]
    have e : 16 * hexIx (hexL.getD (c.toNat / 16) 0) + hexIx (hexL.getD (c.toNat % 16) 0) = (c.toNat : Int) := by rw [h1, h2]; omega
    have hx : hexS4 (92 :: 120 :: hexL.getD (c.toNat / 16) 0 :: hexL.getD (c.toNat % 16) 0 :: r) = some (c, 4) := by
      unfold hexS4
      simp only [List.getD_cons_zero, List.getD_cons_succ, List.length_cons]
      rw [if_neg (by omega), if_neg (by rw [h1, h2]; omega), e, if_neg (by rw [h3]; rintro (h | h); cases h; exact h4 (by omega))]
      simp
    unfold firstS escS
    simp only [List.cons_append, List.nil_append, List.getD_cons_zero, List.getD_cons_succ, List.length_cons, List.length_nil, if_true]
    rw [if_neg (by omega), if_neg (by decide), if_neg (by decide), if_neg (by decide), hx]

theorem firstS_back {l : List UInt8} {c : UInt8} {n : Nat} (h : firstS l = some (c, n)) : l = sign c ++ l.drop n := by
  cases l with
  | nil =>
    have h0 : firstS [] = none := by decide
    rw [h0] at h
    cases h
  | cons x r =>
    unfold firstS at h
    simp only [List.getD_cons_zero] at h
    by_cases hx : x = 92
    · subst hx
      rw [if_pos rfl] at h
      unfold escS at h
      cases r with
      | nil => simp at h
      | cons y r =>
        simp only [List.getD_cons_zero, List.getD_cons_succ, List.length_cons] at h
        rw [if_neg (by omega)] at h
        by_cases y1 : y = 110
        · subst y1
          rw [if_pos rfl] at h
          cases h
          rfl
        rw [if_neg y1] at h
        by_cases y2 : y = 34
        · subst y2
          rw [if_pos rfl] at h
          cases h
          rfl
        rw [if_neg y2] at h
        by_cases y3 : y = 92
        · subst y3
          rw [if_pos rfl] at h
          cases h
          rfl
        rw [if_neg y3] at h
        by_cases y4 : y = 120
        · subst y4
          rw [if_pos rfl] at h
          unfold hexS4 at h
          cases r with
          | nil => simp at h
          | cons a r =>
          cases r with
          | nil => simp at h
          | cons b r =>
            simp only [List.getD_cons_zero, List.getD_cons_succ, List.length_cons] at h
            rw [if_neg (by omega)] at h
            by_cases hn : hexIx a < 0 ∨ hexIx b < 0
            · rw [if_pos hn] at h; cases h
            rw [if_neg hn] at h
            by_cases hp : plainB (16 * hexIx a + hexIx b) = true ∨ 16 * hexIx a + hexIx b = 10
            · rw [if_pos hp] at h; cases h
            rw [if_neg hp] at h
            cases h
            have ha := hexIx_in a
            have hb := hexIx_in b
            have ea := hex_back a (by omega)
            have eb := hex_back b (by omega)
            have hs := sign_hex_fin ⟨(hexIx a).toNat, by omega⟩ ⟨(hexIx b).toNat, by omega⟩
            simp only [Int.toNat_of_nonneg (show 0 ≤ hexIx a by omega), Int.toNat_of_nonneg (show 0 ≤ hexIx b by omega), ea, eb] at hs
            have e : (16 * hexIx a + hexIx b).toNat = 16 * (hexIx a).toNat + (hexIx b).toNat := by omega
            rw [e, hs (by simpa using fun h => hp (.inl h)) (fun h => hp (.inr h))]
            rfl
        · rw [if_neg y4] at h; cases h
    · rw [if_neg hx] at h
      by_cases hp : x = 34 ∨ ¬ plainB (x.toNat : Int) = true
      · rw [if_pos hp] at h; cases h
      rw [if_neg hp] at h
      cases h
      have hs := sign_plain_fin ⟨c.toNat, c.toNat_lt⟩
      simp only [ofNat_toNat] at hs
      rw [hs hx (fun h => hp (.inl h)) (Decidable.byContradiction fun h => hp (.inr h))]
      rfl

theorem seqS_flat : ∀ (t : List UInt8) (f : Nat), (t.flatMap sign).length ≤ f → seqS f (t.flatMap sign) = t.map fun c => (c, false)
  | [], f, _ => by simp [seqS_nil]
  | c :: t, f, hf => by
    have hc := sign_ne c
    have hl : 1 ≤ (sign c).length := by
      cases h : sign c with
      | nil => exact absurd h hc
      | cons => simp
    simp only [List.flatMap_cons, List.length_append] at hf ⊢
    obtain ⟨g, rfl⟩ : ∃ g, f = g + 1 := ⟨f - 1, by omega⟩
    rw [seqS_some g _ c (sign c).length (by simp [hc]) (firstS_sign c _), List.drop_left, seqS_flat t g (by omega)]
    rfl

theorem seqS_back : ∀ (f : Nat) (l : List UInt8), l.length ≤ f → ((seqS f l).all fun x => !x.2) = true → ((seqS f l).map (·.1)).flatMap sign = l
  | 0, l, hf, _ => by
    have : l = [] := List.eq_nil_of_length_eq_zero (by omega)
    subst this
    rfl
  | f + 1, l, hf, hall => by
    by_cases hne : l = []
    · subst hne; rw [seqS_nil]; rfl
    cases hr : firstS l with
    | none =>
      rw [seqS_none f l hne hr] at hall
      cases hall
    | some x =>
      obtain ⟨c, n⟩ := x
      have hn := firstS_len l c n hne hr
      rw [seqS_some f l c n hne hr] at hall ⊢
      simp only [List.all_cons, Bool.and_eq_true] at hall
      have ih := seqS_back f (l.drop n) (by simp; omega) hall.2
      simp only [List.map_cons, List.flatMap_cons]
      rw [ih]
      exact (firstS_back hr).symm

theorem unqS_flat (t : List UInt8) : unqS (seqS (t.flatMap sign).length (t.flatMap sign)) = some t := by
  rw [seqS_flat t _ (Nat.le_refl _)]
  unfold unqS
  rw [if_pos (by simp)]
  simp [Function.comp_def]
theorem unqS_back {l t : List UInt8} (h : unqS (seqS l.length l) = some t) : t.flatMap sign = l := by
  unfold unqS at h
  split at h
  · rename_i hall
    cases h
    exact seqS_back _ l (Nat.le_refl _) hall
  · cases h

theorem betw_quote (m : List UInt8) : betw (34 :: (m ++ [34])) = some m := by
  have h1 : Lib.hasPrefix (34 :: (m ++ [34])) [34] = true := by simp [Lib.hasPrefix]
  have h2 : Lib.trimPrefix (34 :: (m ++ [34])) [34] = m ++ [34] := by unfold Lib.trimPrefix; rw [if_pos h1]; rfl
  have h3 : Lib.hasSuffix (m ++ [34]) [34] = true := by unfold Lib.hasSuffix; rw [List.isSuffixOf_iff_suffix]; exact ⟨m, rfl⟩
  unfold betw
  rw [h2, if_pos ⟨h1, h3⟩]
  unfold Lib.trimSuffix
  rw [if_pos h3]
  simp
theorem betw_back {l m : List UInt8} (h : betw l = some m) : l = 34 :: (m ++ [34]) := by
  unfold betw at h
  split at h
  · rename_i hc
    obtain ⟨h1, h2⟩ := hc
    cases h
    have e1 : Lib.trimPrefix l [34] = l.drop 1 := by unfold Lib.trimPrefix; rw [if_pos h1]; rfl
    have p1 : [34] <+: l := List.isPrefixOf_iff_prefix.1 h1
    obtain ⟨r, rfl⟩ := p1
    simp only [List.cons_append, List.nil_append, List.drop_succ_cons, List.drop_zero] at e1 h2 ⊢
    rw [e1] at h2 ⊢
    obtain ⟨q, hq⟩ : [34] <:+ r := by unfold Lib.hasSuffix at h2; exact List.isSuffixOf_iff_suffix.1 h2
    subst hq
    unfold Lib.trimSuffix
    rw [if_pos h2]
    simp
  · cases h

theorem unqL_quote (t : List UInt8) : unqL (quoteL t) = some t := by
  unfold unqL quoteL
  rw [betw_quote]
  exact unqS_flat t
theorem unqL_back {l t : List UInt8} (h : unqL l = some t) : quoteL t = l := by
  unfold unqL at h
  cases hb : betw l with
  | none => rw [hb] at h; cases h
  | some m =>
    rw [hb] at h
    have h2 := unqS_back (show unqS (seqS m.length m) = some t from h)
    rw [betw_back hb]
    unfold quoteL
    rw [h2]
theorem unqL_len {l t : List UInt8} (h : unqL l = some t) : t.length ≤ l.length := by
  have e := unqL_back h
  have hl : (quoteL t).length = l.length := by rw [e]
  have h2 : ∀ t : List UInt8, t.length ≤ (t.flatMap sign).length := by
    intro t
    induction t with
    | nil => simp
    | cons c t ih =>
      have hc := sign_ne c
      have h1 : 1 ≤ (sign c).length := by
        cases h : sign c with
        | nil => exact absurd h hc
        | cons => simp
      simp only [List.flatMap_cons, List.length_append, List.length_cons]
      omega
  have h3 := h2 t
  unfold quoteL at hl
  simp only [List.length_cons, List.length_append, List.length_nil] at hl
  omega
end Go.Proofs.YthjfkngfgomkbaaGreatDoor
