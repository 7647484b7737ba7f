/- A quote, signs, and what stands behind: whether a symbol's text stands there. soritesref02.symbol: where a symbol's text ends. -/
import Derived.Test.YthjfkngfgomkbaaGreatDoorDmath
import Derived.Test.YthjfkngfgomkbaaGreatDoorNext
namespace Go.Proofs.YthjfkngfgomkbaaGreatDoor
open Go.RowKit

theorem sign_34_fin : ∀ c : Fin 256, (sign (UInt8.ofNat c.1)).head? ≠ some 34 := by decide +kernel
theorem sign_34 (c : UInt8) : (sign c).head? ≠ some 34 := by
  have := sign_34_fin ⟨c.toNat, c.toNat_lt⟩
  simpa only [ofNat_toNat] using this
theorem sign_cons (c : UInt8) : ∃ d l, sign c = d :: l := by
  cases h : sign c with
  | nil => exact absurd h (sign_ne c)
  | cons d l => exact ⟨d, l, rfl⟩

/-- A text that begins with signs and goes on with what is no sign and no quote is none that signs make up to a quote. -/
theorem signs_apart : ∀ (cs : List UInt8) (rest s r : List UInt8), rest.head? ≠ some 34 → (rest = [] ∨ firstS rest = none) → cs.flatMap sign ++ rest ≠ s.flatMap sign ++ 34 :: r
  | [], rest, [], r, h34, _, e => by
    simp only [List.flatMap_nil, List.nil_append] at e
    exact h34 (by rw [e]; rfl)
  | [], rest, d :: s, r, _, hf, e => by
    simp only [List.flatMap_nil, List.nil_append, List.flatMap_cons, List.append_assoc] at e
    rcases hf with rfl | hf
    · obtain ⟨x, l, hx⟩ := sign_cons d
      rw [hx] at e
      cases e
    · rw [e, firstS_sign] at hf
      cases hf
  | c :: cs, rest, [], r, _, _, e => by
    obtain ⟨x, l, hx⟩ := sign_cons c
    have := sign_34 c
    simp only [List.flatMap_cons, List.flatMap_nil, List.nil_append, List.append_assoc] at e
    rw [hx] at e this
    simp only [List.cons_append, List.cons.injEq] at e
    exact this (by rw [e.1]; rfl)
  | c :: cs, rest, d :: s, r, h34, hf, e => by
    simp only [List.flatMap_cons, List.append_assoc] at e
    have h1 := firstS_sign c (cs.flatMap sign ++ rest)
    rw [e, firstS_sign] at h1
    simp only [Option.some.injEq, Prod.mk.injEq] at h1
    obtain ⟨rfl, _⟩ := h1
    exact signs_apart cs rest s r h34 hf (List.append_cancel_left e)

theorem sym_none {t rest cs : List UInt8} (h : t = cs.flatMap sign ++ rest) (h34 : rest.head? ≠ some 34) (hf : rest = [] ∨ firstS rest = none) : tokL (34 :: t) = none := by
  cases hk : tokL (34 :: t) with
  | none => rfl
  | some x =>
    obtain ⟨k, s, z⟩ := x
    obtain ⟨_, hq⟩ := tok_34 hk
    have hq' : 34 :: t = quoteL s ++ (34 :: t).drop z := by rw [hq, List.take_append_drop]
    have e : t = s.flatMap sign ++ 34 :: (34 :: t).drop z := by
      have : quoteL s ++ (34 :: t).drop z = 34 :: (s.flatMap sign ++ 34 :: (34 :: t).drop z) := by simp [quoteL]
      rw [this] at hq'
      exact (List.cons.inj hq').2
    exact absurd (h.symm.trans e) (signs_apart cs rest s _ h34 hf)
theorem sym_some {t r cs : List UInt8} (h : t = cs.flatMap sign ++ 34 :: r) : tokL (34 :: t) = some (3, cs, (cs.flatMap sign).length + 2) := by
  have := tok_quote cs r
  rw [quoteL_length, show quoteL cs ++ r = 34 :: t by rw [h]; simp [quoteL]] at this
  exact this
end Go.Proofs.YthjfkngfgomkbaaGreatDoor
namespace Go.Proofs.YthjfkngfgomkbaaGreatDoor
open Go.RowKit

def symZ (i0 : Nat) : Option (Nat × List UInt8 × Nat) → Nat
  | none => 0
  | some (_, _, z) => i0 + z

set_option maxRecDepth 100000 in
set_option maxHeartbeats 4000000 in
theorem rsymbol_c (s : ByteArray) (i0 : Nat) (hi : i0 < s.size) (hs : s.size ≤ 5000) (h34 : s[i0] = 34) (w : World) :
    Calls Tryz.prog 56 #[.string s, .int .i64 (i0 : Int)] w fun e w' => e = .returned (.int .i64 ((symZ i0 (tokL (s.data.toList.drop i0)) : Nat) : Int)) ∧ Below w.heap.size w w' := by
  have Ht : Hid (s.data.toList.drop i0 = 34 :: s.data.toList.drop (i0 + 1)) := Lib.hid (by rw [drop_cons s i0 hi, h34])
  clear h34
  go_enter Tryz.func56, Tryz.ntmps56
  go_wp2
  go_loopw [5] (fun i wr => ∃ (k : Nat) (cs : List UInt8), i0 + 1 ≤ k ∧ k ≤ s.size ∧ i = .int .i64 k ∧ s.data.toList.drop (i0 + 1) = cs.flatMap sign ++ s.data.toList.drop k ∧ Below w.heap.size w wr) (fun i _ => s.size - (intOf i).toNat)
  case atStart => exact ⟨i0 + 1, [], by omega, by omega, by go_num, by simp, Below.refl _ _⟩
  case round =>
    obtain ⟨k, cs, hk0, hk, rfl, hr, hb⟩ := hrel
    have Hr := Lib.hid hr
    clear hr
    by_cases hlt : k < s.size
    · have hlt' : (k : Int) < (s.size : Int) := by omega
      have hge : ¬ (s.size : Int) ≤ (k : Int) := by omega
      have Hc := Lib.hid (drop_cons s k hlt)
      by_cases c34 : s[k] = 34
      · have f1 : ((s[k].toNat : Int) != 34) = false := by rw [c34]; rfl
        have hz : tokL (s.data.toList.drop i0) = some (3, cs, (cs.flatMap sign).length + 2) := by
          rw [Ht.out]
          exact sym_some (r := s.data.toList.drop (k + 1)) (by rw [Hr.out, Hc.out, c34])
        have hl : i0 + 1 + (cs.flatMap sign).length = k := by
          have := congrArg List.length Hr.out
          simp only [List.length_append, List.length_drop] at this
          have e : s.data.toList.length = s.size := by simp
          omega
        have Hz : Hid (symZ i0 (tokL (s.data.toList.drop i0)) = k + 1) := Lib.hid (by rw [hz]; show i0 + _ = _; omega)
        clear hz hl c34
        go_wp2
        go_ret
        exact ⟨ret_int (by rw [Hz.out]; omega), hb⟩
      · have f1 : ((s[k].toNat : Int) != 34) = true := by rw [bne_iff_ne]; exact fun e => c34 ((u8_eq _ 34).2 e)
        have hne : s.data.toList.drop k ≠ [] := by rw [Hc.out]; simp
        have hh : (s.data.toList.drop k).head? ≠ some 34 := by rw [Hc.out]; simpa using c34
        obtain ⟨r, hf⟩ : ∃ r, firstS (s.data.toList.drop k) = r := ⟨_, rfl⟩
        have hn : ∀ w, _ := fun w => next_c s k hs hk w
        rw [hf] at hn
        have Hn := Lib.hid hn
        clear hn
        cases r with
        | none =>
          have Hz : Hid (symZ i0 (tokL (s.data.toList.drop i0)) = 0) := Lib.hid (by rw [Ht.out, sym_none Hr.out hh (.inr hf)]; rfl)
          clear hne hh hf c34
          go_wp2_with fail
          refine (Hn.out _).mono ?_
          rintro e w1 ⟨rfl, b1⟩
          simp only [nextV]
          go_wp2
          go_ret
          exact ⟨ret_int (by rw [Hz.out]; rfl), chain2 hb b1⟩
        | some x =>
          obtain ⟨c, n⟩ := x
          have hfl := firstS_len _ c n hne hf
          have hn1 : 1 ≤ n := hfl.1
          have hpn : k + n ≤ s.size := by have := hfl.2; simp at this; omega
          have n0 : ((n : Int) == 0) = false := by rw [beq_eq_false_iff_ne]; omega
          have hsg : s.data.toList.drop k = sign c ++ s.data.toList.drop (k + n) := by
            have := firstS_back hf
            rwa [List.drop_drop] at this
          have Hsg := Lib.hid hsg
          clear hne hh hf hfl hsg c34
          go_wp2_with fail
          refine (Hn.out _).mono ?_
          rintro e w1 ⟨rfl, b1⟩
          simp only [nextV]
          go_wp2
          go_roundw
          case rel => exact ⟨k + n, cs ++ [c], by omega, hpn, by go_num, by rw [Hr.out, Hsg.out]; simp, chain2 hb b1⟩
          case measure => simp [intOf]; omega
    · have hlt' : ¬ (k : Int) < (s.size : Int) := by omega
      have hge : (s.size : Int) ≤ (k : Int) := by omega
      have hd : s.data.toList.drop k = [] := List.drop_of_length_le (by simp; omega)
      have Hz : Hid (symZ i0 (tokL (s.data.toList.drop i0)) = 0) := Lib.hid (by rw [Ht.out, sym_none Hr.out (by rw [hd]; simp) (.inl hd)]; rfl)
      clear hd
      go_wp2
      go_ret
      exact ⟨ret_int (by rw [Hz.out]; rfl), hb⟩
end Go.Proofs.YthjfkngfgomkbaaGreatDoor
