/- What token stands where no letter, digit or quote stands: a word behind a dot, or a sign. soritesref02.One: the token that stands at a place. soritesref02.One where a quote stands: a symbol's token; texts of at most five thousand bytes. soritesref02.One where a dot stands ahead of letters: a word. soritesref02.One where a sign stands, or nothing that is a token; and One, whole. -/
import Derived.Test.YthjfkngfgomkbaaGreatDoorRnum
import Derived.Test.YthjfkngfgomkbaaGreatDoorRefUnq
namespace Go.Proofs.YthjfkngfgomkbaaGreatDoor
open Go.RowKit

theorem tok_dot {t : List UInt8} (h : 0 < runN smallB t) : tokL (46 :: t) = if wordB ((46 :: t).take (1 + runN smallB t)) = true then some (5, (46 :: t).take (1 + runN smallB t), 1 + runN smallB t) else none := by
  have hs : shapeL (46 :: t) = (5, 1 + runN smallB t) := by
    rw [shapeL_cons, if_neg (show ¬ digB ((46 : UInt8).toNat : Int) = true by decide), if_neg (show ¬ partB 46 = true by decide), if_neg (show ¬ (46 : UInt8) = 34 by decide), if_pos ⟨rfl, h⟩]
  unfold tokL
  rw [hs]
  simp only
  unfold meanL
  rw [if_neg (show ¬ (5 = 3) by decide), if_neg (show ¬ (5 = 1) by decide), if_neg (show ¬ (5 = 2) by decide), if_pos (show 5 = 5 from rfl)]
  split <;> rfl
theorem tok_sign {c : UInt8} {t : List UInt8} (h1 : partB c = false) (h2 : c ≠ 34) (h3 : ¬ (c = 46 ∧ 0 < runN smallB t)) :
    tokL (c :: t) = if signZ (c :: t) = 0 then none else some (4, (c :: t).take (signZ (c :: t)), signZ (c :: t)) := by
  have hd := (part_no h1).2
  have hs : shapeL (c :: t) = (4, signN (c :: t)) := by
    rw [shapeL_cons, if_neg (by rw [hd]; decide), if_neg (by rw [h1]; decide), if_neg h2, if_neg h3]
  unfold tokL
  rw [hs]
  simp only
  unfold meanL
  rw [if_neg (show ¬ (4 = 3) by decide), if_neg (show ¬ (4 = 1) by decide), if_neg (show ¬ (4 = 2) by decide), if_neg (show ¬ (4 = 5) by decide)]
  unfold signN signZ
  by_cases hl : longB ((c :: t).take 2) = true
  · simp only [hl, if_true, Bool.true_or, Option.map_some]
    rw [if_neg (by decide)]
  · simp only [hl, if_false, Bool.false_eq_true]
    have e : (c :: t).take 1 = [c] := by simp
    have e2 : (c :: t).getD 0 0 = c := rfl
    have e3 : ([c] : List UInt8).getD 0 0 = c := rfl
    rw [e, e2, e3, long_one, Bool.false_or]
    by_cases hz : shortB c = true
    · simp only [hz, if_true, Option.map_some]
      rw [if_neg (by decide), e]
    · simp only [hz, if_false, Bool.false_eq_true, Option.map_none, if_true]
theorem sym_mean {t s : List UInt8} {k z : Nat} (h : tokL (34 :: t) = some (k, s, z)) : k = 3 ∧ unqL ((34 :: t).take z) = some s := by
  have h0 := h
  unfold tokL at h
  rw [shape_34] at h
  simp only [Option.map_eq_some_iff, Prod.mk.injEq] at h
  obtain ⟨a, ha, rfl, rfl, rfl⟩ := h
  refine ⟨rfl, ?_⟩
  unfold meanL at ha
  rwa [if_pos rfl] at ha
end Go.Proofs.YthjfkngfgomkbaaGreatDoor
namespace Go.Proofs.YthjfkngfgomkbaaGreatDoor
open Go.RowKit

def agV (k : Int) (s : ByteArray) : Value := .agg #[.int .i64 k, .string s, .int .i64 0]
theorem oneV_some (i0 k z : Nat) (s : List UInt8) : oneV i0 (some (k, s, z)) = .tuple #[.agg #[.int .i64 (k : Int), .string ⟨s.toArray⟩, .int .i64 0], .int .i64 ((i0 + z : Nat) : Int)] := rfl
theorem oneV_none (i0 : Nat) : oneV i0 none = .tuple #[.agg #[.int .i64 0, .string ⟨#[]⟩, .int .i64 0], .int .i64 0] := rfl
theorem oneV_any (i0 : Nat) (o : Option (Nat × List UInt8 × Nat)) : ∃ (k : Int) (s : ByteArray) (e : Int), oneV i0 o = .tuple #[.agg #[.int .i64 k, .string s, .int .i64 0], .int .i64 e] := by
  cases o with
  | none => exact ⟨0, ⟨#[]⟩, 0, rfl⟩
  | some x => obtain ⟨k, s, z⟩ := x; exact ⟨k, ⟨s.toArray⟩, ((i0 + z : Nat) : Int), rfl⟩

set_option maxRecDepth 100000 in
set_option maxHeartbeats 4000000 in
theorem rone_let (s : ByteArray) (i0 : Nat) (hi : i0 < s.size) (hs : s.size ≤ 1073741824) (w : World) (hl : letB (s[i0].toNat : Int) = true) :
    Calls Tryz.prog 25 #[.string s, .int .i64 (i0 : Int)] w fun e w' => e = .returned (oneV i0 (tokL (s.data.toList.drop i0))) ∧ Below w.heap.size w w' := by
  have H1 : Calls Tryz.prog 52 #[.int .u8 (s[i0].toNat : Int)] (w.alloc (.cells #[.int .i64 0, .string ⟨#[]⟩, .int .i64 0] 50)) fun e w' => e = .returned (.bool (letB (s[i0].toNat : Int))) ∧ _ = w' := letter_any _ _
  have H2 : Calls Tryz.prog 53 #[.int .u8 (s[i0].toNat : Int)] (w.alloc (.cells #[.int .i64 0, .string ⟨#[]⟩, .int .i64 0] 50)) fun e w' => e = .returned (.bool (digB (s[i0].toNat : Int))) ∧ _ = w' := digit_any _ _
  rw [hl] at H1
  rw [dig_let hl] at H2
  have G1 := Lib.hid H1
  have G2 := Lib.hid H2
  have Hw := Lib.hid (rword_c s i0 hi hs hl)
  obtain ⟨k, t, x, hv⟩ := oneV_any i0 (tokL (s.data.toList.drop i0))
  have Hv := Lib.hid hv
  clear H1 H2 hl hv
  go_enter Tryz.func25, Tryz.ntmps25
  go_wp2_with fail
  refine G1.out.mono ?_
  rintro e w' ⟨rfl, rfl⟩
  go_wp2_with fail
  refine G2.out.mono ?_
  rintro e w' ⟨rfl, rfl⟩
  go_wp2_with fail
  refine (Hw.out _).mono ?_
  rw [Hv.out]
  rintro e w1 ⟨rfl, b1⟩
  obtain ⟨hc, hf⟩ := kept_all b1
  have hz : w.heap.size < w1.heap.size := by have := b1.size; simp at this; omega
  go_wp2
  exact bodyPost_ret (v := .tuple #[.agg #[.int .i64 k, .string t, .int .i64 0], .int .i64 x]) (by simp [results, Tryz.results25, go_sem, hc]) rfl ⟨by rw [Hv.out], (((((Below.refl _ _).alloc (Nat.le_refl _) _).trans (b1.mono (by simp))).setCell (Nat.le_refl _) _).setCell (Nat.le_refl _) _).setCell (Nat.le_refl _) _⟩

set_option maxRecDepth 100000 in
set_option maxHeartbeats 4000000 in
theorem rone_dig (s : ByteArray) (i0 : Nat) (hi : i0 < s.size) (hs : s.size ≤ 1073741824) (w : World) (hd : digB (s[i0].toNat : Int) = true) :
    Calls Tryz.prog 25 #[.string s, .int .i64 (i0 : Int)] w fun e w' => e = .returned (oneV i0 (tokL (s.data.toList.drop i0))) ∧ Below w.heap.size w w' := by
  have hl : letB (s[i0].toNat : Int) = false := by
    cases h : letB (s[i0].toNat : Int)
    · rfl
    · rw [dig_let h] at hd; cases hd
  have H1 : Calls Tryz.prog 52 #[.int .u8 (s[i0].toNat : Int)] (w.alloc (.cells #[.int .i64 0, .string ⟨#[]⟩, .int .i64 0] 50)) fun e w' => e = .returned (.bool (letB (s[i0].toNat : Int))) ∧ _ = w' := letter_any _ _
  have H2 : Calls Tryz.prog 53 #[.int .u8 (s[i0].toNat : Int)] (w.alloc (.cells #[.int .i64 0, .string ⟨#[]⟩, .int .i64 0] 50)) fun e w' => e = .returned (.bool (digB (s[i0].toNat : Int))) ∧ _ = w' := digit_any _ _
  rw [hl] at H1
  rw [hd] at H2
  have G1 := Lib.hid H1
  have G2 := Lib.hid H2
  have Hw := Lib.hid (rnumber_c s i0 hi hs hd)
  obtain ⟨k, t, x, hv⟩ := oneV_any i0 (tokL (s.data.toList.drop i0))
  have Hv := Lib.hid hv
  clear H1 H2 hl hd hv
  go_enter Tryz.func25, Tryz.ntmps25
  go_wp2_with fail
  refine G1.out.mono ?_
  rintro e w' ⟨rfl, rfl⟩
  go_wp2_with fail
  refine G2.out.mono ?_
  rintro e w' ⟨rfl, rfl⟩
  go_wp2_with fail
  refine (Hw.out _).mono ?_
  rw [Hv.out]
  rintro e w1 ⟨rfl, b1⟩
  obtain ⟨hc, hf⟩ := kept_all b1
  have hz : w.heap.size < w1.heap.size := by have := b1.size; simp at this; omega
  go_wp2
  exact bodyPost_ret (v := .tuple #[.agg #[.int .i64 k, .string t, .int .i64 0], .int .i64 x]) (by simp [results, Tryz.results25, go_sem, hc]) rfl ⟨by rw [Hv.out], (((((Below.refl _ _).alloc (Nat.le_refl _) _).trans (b1.mono (by simp))).setCell (Nat.le_refl _) _).setCell (Nat.le_refl _) _).setCell (Nat.le_refl _) _⟩
end Go.Proofs.YthjfkngfgomkbaaGreatDoor
namespace Go.Proofs.YthjfkngfgomkbaaGreatDoor
open Go.RowKit

set_option maxRecDepth 100000 in
set_option maxHeartbeats 4000000 in
theorem rone_quote (s : ByteArray) (i0 : Nat) (hi : i0 < s.size) (hs : s.size ≤ 5000) (w : World) (h34 : s[i0] = 34) :
    Calls Tryz.prog 25 #[.string s, .int .i64 (i0 : Int)] w fun e w' => e = .returned (oneV i0 (tokL (s.data.toList.drop i0))) ∧ Below w.heap.size w w' := by
  have e34 : (s[i0].toNat : Int) = 34 := by rw [h34]; rfl
  have hlb : letB 34 = false := by decide
  have hdb : digB 34 = false := by decide
  have G1 : Hid (Calls Tryz.prog 52 #[.int .u8 34] (w.alloc (.cells #[.int .i64 0, .string ⟨#[]⟩, .int .i64 0] 50)) fun e w' => e = .returned (.bool false) ∧ (w.alloc (.cells #[.int .i64 0, .string ⟨#[]⟩, .int .i64 0] 50)) = w') := Lib.hid (by have := letter_any 34 (w.alloc (.cells #[.int .i64 0, .string ⟨#[]⟩, .int .i64 0] 50)); rwa [hlb] at this)
  have G2 : Hid (Calls Tryz.prog 53 #[.int .u8 34] (w.alloc (.cells #[.int .i64 0, .string ⟨#[]⟩, .int .i64 0] 50)) fun e w' => e = .returned (.bool false) ∧ (w.alloc (.cells #[.int .i64 0, .string ⟨#[]⟩, .int .i64 0] 50)) = w') := Lib.hid (by have := digit_any 34 (w.alloc (.cells #[.int .i64 0, .string ⟨#[]⟩, .int .i64 0] 50)); rwa [hdb] at this)
  have hw := fun w => rsymbol_c s i0 hi hs h34 w
  have hd : s.data.toList.drop i0 = 34 :: s.data.toList.drop (i0 + 1) := by rw [drop_cons s i0 hi, h34]
  have hlen : (s.data.toList.drop i0).length = s.size - i0 := by simp
  cases ht : tokL (s.data.toList.drop i0) with
  | none =>
    have Hw : Hid (∀ w, Calls Tryz.prog 56 #[.string s, .int .i64 (i0 : Int)] w fun e w' => e = .returned (.int .i64 0) ∧ Below w.heap.size w w') := Lib.hid fun w => by
      have := hw w
      rw [ht] at this
      exact this
    have Hv := Lib.hid (oneV_none i0)
    clear h34 hd ht hw hlb hdb
    go_enter Tryz.func25, Tryz.ntmps25
    go_wp2_with fail
    refine G1.out.mono ?_
    rintro e w' ⟨rfl, rfl⟩
    go_wp2_with fail
    refine G2.out.mono ?_
    rintro e w' ⟨rfl, rfl⟩
    go_wp2_with fail
    refine (Hw.out _).mono ?_
    rintro e w1 ⟨rfl, b1⟩
    obtain ⟨hc, hf⟩ := kept_all b1
    have hz : w.heap.size < w1.heap.size := by have := b1.size; simp at this; omega
    go_wp2
    rw [Hv.out]
    exact bodyPost_ret (v := .tuple #[.agg #[.int .i64 0, .string ⟨#[]⟩, .int .i64 0], .int .i64 0]) (by simp [results, Tryz.results25, go_sem, hc]) rfl ⟨rfl, (((((Below.refl _ _).alloc (Nat.le_refl _) _).trans (b1.mono (by simp))).setCell (Nat.le_refl _) _).setCell (Nat.le_refl _) _).setCell (Nat.le_refl _) _⟩
  | some x =>
    obtain ⟨k, x, z⟩ := x
    obtain ⟨hz1, hz2, _⟩ := tok_pos (by rw [hd]; simp) ht
    have hm := ht
    rw [hd] at hm
    obtain ⟨rfl, hu⟩ := sym_mean hm
    rw [← hd] at hu
    have Hw : Hid (∀ w, Calls Tryz.prog 56 #[.string s, .int .i64 (i0 : Int)] w fun e w' => e = .returned (.int .i64 ((i0 : Int) + (z : Int))) ∧ Below w.heap.size w w') := Lib.hid fun w => by
      have := hw w
      rw [ht] at this
      rw [← Int.natCast_add]
      exact this
    have hiz : i0 + z ≤ s.size := by omega
    obtain ⟨t, htt⟩ : ∃ t, s.extract i0 (i0 + z) = t := ⟨_, rfl⟩
    have htl : t.data.toList = (s.data.toList.drop i0).take z := by
      rw [← htt, Lib.extract_data]
      congr 1
      omega
    have gs : ∀ w : World, (Instr.slice 9 (.string s) (some (.int .i64 (i0 : Int))) (some (.int .i64 ((i0 : Int) + (z : Int)))) none).run Tryz.prog w = .ok (.string t) w := fun w => by
      have h := run_slice_string (P := Tryz.prog) (w := w) 9 s .i64 .i64 (i0 : Int) ((i0 : Int) + (z : Int)) Tryz.underlying9 (by omega) (by omega) (by omega)
      rwa [show ((i0 : Int) + (z : Int)).toNat = i0 + z by omega, Int.toNat_natCast, htt] at h
    have hts : t.size ≤ 5000 := by rw [← htt, ByteArray.size_extract]; omega
    have Hu := Lib.hid (fun w => refUnquote_c t hts w)
    rw [htl, hu] at Hu
    have Hv : Hid (oneV i0 (some (3, x, z)) = .tuple #[.agg #[.int .i64 3, .string ⟨x.toArray⟩, .int .i64 0], .int .i64 ((i0 : Int) + (z : Int))]) := Lib.hid (by rw [← Int.natCast_add]; rfl)
    have n0 : ¬ (i0 : Int) + (z : Int) = 0 := by omega
    clear h34 hd ht hm htt htl hts hu hw hlb hdb
    go_enter Tryz.func25, Tryz.ntmps25
    go_wp2_with fail
    refine G1.out.mono ?_
    rintro e w' ⟨rfl, rfl⟩
    go_wp2_with fail
    refine G2.out.mono ?_
    rintro e w' ⟨rfl, rfl⟩
    go_wp2_with fail
    refine (Hw.out _).mono ?_
    rintro e w1 ⟨rfl, b1⟩
    obtain ⟨hc, hf⟩ := kept_all b1
    have hz : w.heap.size < w1.heap.size := by have := b1.size; simp at this; omega
    go_wp2_with fail
    refine (Hu.out _).mono ?_
    rintro e w2 ⟨rfl, b2⟩
    simp only [unqV]
    obtain ⟨hc2, hf2⟩ := kept_all b2
    have hz2 : w.heap.size < w2.heap.size := Nat.lt_of_lt_of_le hz b2.size
    go_wp2
    rw [Hv.out]
    exact bodyPost_ret (v := .tuple #[.agg #[.int .i64 3, .string ⟨x.toArray⟩, .int .i64 0], .int .i64 ((i0 : Int) + (z : Int))]) (by simp [results, Tryz.results25, go_sem, hc, hc2, hz]) rfl ⟨rfl, ((((((Below.refl _ _).alloc (Nat.le_refl _) _).trans (b1.mono (by simp))).trans (b2.mono (by omega))).setCell (Nat.le_refl _) _).setCell (Nat.le_refl _) _).setCell (Nat.le_refl _) _⟩
end Go.Proofs.YthjfkngfgomkbaaGreatDoor
namespace Go.Proofs.YthjfkngfgomkbaaGreatDoor
open Go.RowKit

set_option maxRecDepth 100000 in
set_option maxHeartbeats 4000000 in
theorem rone_dot (s : ByteArray) (i0 : Nat) (hi : i0 < s.size) (hs : s.size ≤ 1073741824) (w : World) (h46 : s[i0] = 46) (hr : 0 < runN smallB (s.data.toList.drop (i0 + 1))) :
    Calls Tryz.prog 25 #[.string s, .int .i64 (i0 : Int)] w fun e w' => e = .returned (oneV i0 (tokL (s.data.toList.drop i0))) ∧ Below w.heap.size w w' := by
  have e46 : (s[i0].toNat : Int) = 46 := by rw [h46]; rfl
  have hlb : letB 46 = false := by decide
  have hdb : digB 46 = false := by decide
  have G1 : Hid (Calls Tryz.prog 52 #[.int .u8 46] (w.alloc (.cells #[.int .i64 0, .string ⟨#[]⟩, .int .i64 0] 50)) fun e w' => e = .returned (.bool false) ∧ (w.alloc (.cells #[.int .i64 0, .string ⟨#[]⟩, .int .i64 0] 50)) = w') := Lib.hid (by have := letter_any 46 (w.alloc (.cells #[.int .i64 0, .string ⟨#[]⟩, .int .i64 0] 50)); rwa [hlb] at this)
  have G2 : Hid (Calls Tryz.prog 53 #[.int .u8 46] (w.alloc (.cells #[.int .i64 0, .string ⟨#[]⟩, .int .i64 0] 50)) fun e w' => e = .returned (.bool false) ∧ (w.alloc (.cells #[.int .i64 0, .string ⟨#[]⟩, .int .i64 0] 50)) = w') := Lib.hid (by have := digit_any 46 (w.alloc (.cells #[.int .i64 0, .string ⟨#[]⟩, .int .i64 0] 50)); rwa [hdb] at this)
  have hd : s.data.toList.drop i0 = 46 :: s.data.toList.drop (i0 + 1) := by rw [drop_cons s i0 hi, h46]
  have hlen : (s.data.toList.drop (i0 + 1)).length = s.size - (i0 + 1) := by simp
  have ht := tok_dot hr
  rw [← hd] at ht
  have hrl := runN_len smallB (s.data.toList.drop (i0 + 1))
  have hw := fun w => rsmall_c s (i0 + 1) (by omega) hs w
  obtain ⟨z, hz⟩ : ∃ z, runN smallB (s.data.toList.drop (i0 + 1)) = z := ⟨_, rfl⟩
  rw [hz] at hr ht hrl hw
  have Hw : Hid (∀ w, Calls Tryz.prog 58 #[.string s, .int .i64 ((i0 : Int) + 1)] w fun e w' => e = .returned (.int .i64 ((i0 : Int) + 1 + (z : Int))) ∧ w = w') := Lib.hid fun w => by
    have := hw w
    rw [show ((i0 : Int) + 1) = ((i0 + 1 : Nat) : Int) by omega, ← Int.natCast_add]
    exact this
  have hiz : i0 + (1 + z) ≤ s.size := by omega
  obtain ⟨t, htt⟩ : ∃ t, s.extract i0 (i0 + (1 + z)) = t := ⟨_, rfl⟩
  have htl : t.data.toList = (s.data.toList.drop i0).take (1 + z) := by
    rw [← htt, Lib.extract_data]
    congr 1
    omega
  have gs : ∀ w : World, (Instr.slice 9 (.string s) (some (.int .i64 (i0 : Int))) (some (.int .i64 ((i0 : Int) + 1 + (z : Int)))) none).run Tryz.prog w = .ok (.string t) w := fun w => by
    have h := run_slice_string (P := Tryz.prog) (w := w) 9 s .i64 .i64 (i0 : Int) ((i0 : Int) + 1 + (z : Int)) Tryz.underlying9 (by omega) (by omega) (by omega)
    rwa [show ((i0 : Int) + 1 + (z : Int)).toNat = i0 + (1 + z) by omega, Int.toNat_natCast, htt] at h
  rw [← htl] at ht
  have n1 : (i0 : Int) + 1 < (i0 : Int) + 1 + (z : Int) := by omega
  have n2 : ((i0 : Int) + 1 < (i0 : Int) + 1 + (z : Int)) ↔ True := iff_true_intro n1
  have htl2 : t.toList = t.data.toList := Lib.toList_data t
  obtain ⟨x1, hx1⟩ : ∃ x, (!t.toList == [46, 100, 101, 99, 108]) = x := ⟨_, rfl⟩
  obtain ⟨x2, hx2⟩ : ∃ x, (!t.toList == [46, 105, 110, 112, 117, 116]) = x := ⟨_, rfl⟩
  obtain ⟨x3, hx3⟩ : ∃ x, (!t.toList == [46, 111, 117, 116, 112, 117, 116]) = x := ⟨_, rfl⟩
  have hword : wordB t.data.toList = !(x1 && x2 && x3) := by
    rw [← htl2, ← hx1, ← hx2, ← hx3]
    unfold wordB
    rw [Bool.eq_iff_iff]
    by_cases a1 : t.toList = [46, 100, 101, 99, 108]
    · simp [a1]
    by_cases a2 : t.toList = [46, 105, 110, 112, 117, 116]
    · simp [a2]
    by_cases a3 : t.toList = [46, 111, 117, 116, 112, 117, 116]
    · simp [a3]
    · simp [a1, a2, a3]
  rw [hword] at ht
  have Ht := Lib.hid ht
  have Hn : Hid (x1 = true → x2 = true → x3 = true → oneV i0 (tokL (s.data.toList.drop i0)) = .tuple #[.agg #[.int .i64 0, .string ⟨#[]⟩, .int .i64 0], .int .i64 0]) := Lib.hid (by rintro rfl rfl rfl; rw [Ht.out]; rfl)
  have Hy : Hid ((x1 && x2 && x3) = false → oneV i0 (tokL (s.data.toList.drop i0)) = .tuple #[.agg #[.int .i64 5, .string t, .int .i64 0], .int .i64 ((i0 : Int) + 1 + (z : Int))]) := Lib.hid (by
    intro h
    rw [Ht.out, h]
    simp only [Bool.not_false, if_true, oneV, str_eta]
    rw [show ((i0 + (1 + z) : Nat) : Int) = (i0 : Int) + 1 + (z : Int) by omega]
    rfl)
  clear h46 hd ht hw hlb hdb htl htt htl2 hword Ht hz
  have hc : True := trivial
  cases x1
  · have Hv := Lib.hid (Hy.out (by simp))
    go_enter Tryz.func25, Tryz.ntmps25
    go_wp2_with fail
    refine G1.out.mono ?_
    rintro e w' ⟨rfl, rfl⟩
    go_wp2_with fail
    refine G2.out.mono ?_
    rintro e w' ⟨rfl, rfl⟩
    go_wp2_with fail
    refine (Hw.out _).mono ?_
    rintro e w' ⟨rfl, rfl⟩
    go_wp2
    rw [Hv.out]
    exact bodyPost_ret (v := .tuple #[.agg #[.int .i64 5, .string t, .int .i64 0], .int .i64 ((i0 : Int) + 1 + (z : Int))]) (by simp [results, Tryz.results25, go_sem]) rfl ⟨rfl, (Below.refl _ _).alloc (Nat.le_refl _) _⟩
  cases x2
  · have Hv := Lib.hid (Hy.out (by simp))
    go_enter Tryz.func25, Tryz.ntmps25
    go_wp2_with fail
    refine G1.out.mono ?_
    rintro e w' ⟨rfl, rfl⟩
    go_wp2_with fail
    refine G2.out.mono ?_
    rintro e w' ⟨rfl, rfl⟩
    go_wp2_with fail
    refine (Hw.out _).mono ?_
    rintro e w' ⟨rfl, rfl⟩
    go_wp2
    rw [Hv.out]
    exact bodyPost_ret (v := .tuple #[.agg #[.int .i64 5, .string t, .int .i64 0], .int .i64 ((i0 : Int) + 1 + (z : Int))]) (by simp [results, Tryz.results25, go_sem]) rfl ⟨rfl, (Below.refl _ _).alloc (Nat.le_refl _) _⟩
  cases x3
  · have Hv := Lib.hid (Hy.out (by simp))
    go_enter Tryz.func25, Tryz.ntmps25
    go_wp2_with fail
    refine G1.out.mono ?_
    rintro e w' ⟨rfl, rfl⟩
    go_wp2_with fail
    refine G2.out.mono ?_
    rintro e w' ⟨rfl, rfl⟩
    go_wp2_with fail
    refine (Hw.out _).mono ?_
    rintro e w' ⟨rfl, rfl⟩
    go_wp2
    rw [Hv.out]
    exact bodyPost_ret (v := .tuple #[.agg #[.int .i64 5, .string t, .int .i64 0], .int .i64 ((i0 : Int) + 1 + (z : Int))]) (by simp [results, Tryz.results25, go_sem]) rfl ⟨rfl, (Below.refl _ _).alloc (Nat.le_refl _) _⟩
  have Hv := Lib.hid (Hn.out rfl rfl rfl)
  go_enter Tryz.func25, Tryz.ntmps25
  go_wp2_with fail
  refine G1.out.mono ?_
  rintro e w' ⟨rfl, rfl⟩
  go_wp2_with fail
  refine G2.out.mono ?_
  rintro e w' ⟨rfl, rfl⟩
  go_wp2_with fail
  refine (Hw.out _).mono ?_
  rintro e w' ⟨rfl, rfl⟩
  go_wp2
  rw [Hv.out]
  exact bodyPost_ret (v := .tuple #[.agg #[.int .i64 0, .string ⟨#[]⟩, .int .i64 0], .int .i64 0]) (by simp [results, Tryz.results25, go_sem]) rfl ⟨rfl, (Below.refl _ _).alloc (Nat.le_refl _) _⟩
end Go.Proofs.YthjfkngfgomkbaaGreatDoor
namespace Go.Proofs.YthjfkngfgomkbaaGreatDoor
open Go.RowKit

set_option maxRecDepth 100000 in
set_option maxHeartbeats 4000000 in
theorem rone_sign (s : ByteArray) (i0 : Nat) (hi : i0 < s.size) (hs : s.size ≤ 1073741824) (w : World) (hp : partB s[i0] = false) (hq : s[i0] ≠ 34) (h46 : s[i0] ≠ 46) :
    Calls Tryz.prog 25 #[.string s, .int .i64 (i0 : Int)] w fun e w' => e = .returned (oneV i0 (tokL (s.data.toList.drop i0))) ∧ Below w.heap.size w w' := by
  have hdot : ¬ (s[i0] = 46 ∧ 0 < runN smallB (s.data.toList.drop (i0 + 1))) := fun h => h46 h.1
  have hlb := (part_no hp).1
  have hdb := (part_no hp).2
  have e34 : ¬ (s[i0].toNat : Int) = 34 := fun e => hq ((u8_eq _ 34).2 e)
  have e46 : ¬ (s[i0].toNat : Int) = 46 := fun e => h46 ((u8_eq _ 46).2 e)
  have e46b : ((s[i0].toNat : Int) == 46) = false := by rw [beq_eq_false_iff_ne]; exact e46
  have G1 : Hid (Calls Tryz.prog 52 #[.int .u8 (s[i0].toNat : Int)] (w.alloc (.cells #[.int .i64 0, .string ⟨#[]⟩, .int .i64 0] 50)) fun e w' => e = .returned (.bool false) ∧ (w.alloc (.cells #[.int .i64 0, .string ⟨#[]⟩, .int .i64 0] 50)) = w') := Lib.hid (by have := letter_any (s[i0].toNat : Int) (w.alloc (.cells #[.int .i64 0, .string ⟨#[]⟩, .int .i64 0] 50)); rwa [hlb] at this)
  have G2 : Hid (Calls Tryz.prog 53 #[.int .u8 (s[i0].toNat : Int)] (w.alloc (.cells #[.int .i64 0, .string ⟨#[]⟩, .int .i64 0] 50)) fun e w' => e = .returned (.bool false) ∧ (w.alloc (.cells #[.int .i64 0, .string ⟨#[]⟩, .int .i64 0] 50)) = w') := Lib.hid (by have := digit_any (s[i0].toNat : Int) (w.alloc (.cells #[.int .i64 0, .string ⟨#[]⟩, .int .i64 0] 50)); rwa [hdb] at this)
  have hlen : (s.data.toList.drop (i0 + 1)).length = s.size - (i0 + 1) := by simp
  have hlen0 : (s.data.toList.drop i0).length = s.size - i0 := by simp
  have hd := drop_cons s i0 hi
  have ht : tokL (s.data.toList.drop i0) = if signZ (s.data.toList.drop i0) = 0 then none else some (4, (s.data.toList.drop i0).take (signZ (s.data.toList.drop i0)), signZ (s.data.toList.drop i0)) := by
    rw [hd]; exact tok_sign hp hq hdot
  have hw := fun w => rsmall_c s (i0 + 1) (by omega) hs w
  have hrl := runN_len smallB (s.data.toList.drop (i0 + 1))
  have Hs := Lib.hid (fun w => rsign_c s i0 hi hs w)
  obtain ⟨y, hy⟩ : ∃ y, runN smallB (s.data.toList.drop (i0 + 1)) = y := ⟨_, rfl⟩
  rw [hy] at hw hrl
  obtain ⟨z, hz⟩ : ∃ z, signZ (s.data.toList.drop i0) = z := ⟨_, rfl⟩
  have hz2 : z ≤ s.size - i0 := by
    by_cases h0 : z = 0
    · omega
    · rw [hz, if_neg h0] at ht
      have := (tok_pos (by rw [hd]; simp) ht).2.1
      omega
  rw [hz] at ht Hs
  have Hw : Hid (∀ w, Calls Tryz.prog 58 #[.string s, .int .i64 ((i0 : Int) + 1)] w fun e w' => e = .returned (.int .i64 ((i0 : Int) + 1 + (y : Int))) ∧ w = w') := Lib.hid fun w => by
    have := hw w
    rw [show ((i0 : Int) + 1) = ((i0 + 1 : Nat) : Int) by omega, ← Int.natCast_add]
    exact this
  have hiz : i0 + z ≤ s.size := by omega
  obtain ⟨t, htt⟩ : ∃ t, s.extract i0 (i0 + z) = t := ⟨_, rfl⟩
  have htl : t.data.toList = (s.data.toList.drop i0).take z := by
    rw [← htt, Lib.extract_data]
    congr 1
    omega
  have gs : ∀ w : World, (Instr.slice 9 (.string s) (some (.int .i64 (i0 : Int))) (some (.int .i64 ((i0 : Int) + (z : Int)))) none).run Tryz.prog w = .ok (.string t) w := fun w => by
    have h := run_slice_string (P := Tryz.prog) (w := w) 9 s .i64 .i64 (i0 : Int) ((i0 : Int) + (z : Int)) Tryz.underlying9 (by omega) (by omega) (by omega)
    rwa [show ((i0 : Int) + (z : Int)).toNat = i0 + z by omega, Int.toNat_natCast, htt] at h
  have Ht := Lib.hid ht
  have Htl := Lib.hid htl
  clear ht hw hlb hdb htl htt hd hz hp hq hdot
  have hc : True := trivial
  by_cases h0 : z = 0
  · have Hv : Hid (oneV i0 (tokL (s.data.toList.drop i0)) = .tuple #[.agg #[.int .i64 0, .string ⟨#[]⟩, .int .i64 0], .int .i64 0]) := Lib.hid (by rw [Ht.out, if_pos h0]; rfl)
    subst h0
    go_enter Tryz.func25, Tryz.ntmps25
    go_wp2_with fail
    refine G1.out.mono ?_
    rintro e w' ⟨rfl, rfl⟩
    go_wp2_with fail
    refine G2.out.mono ?_
    rintro e w' ⟨rfl, rfl⟩
    go_wp2_with fail
    refine (Hw.out _).mono ?_
    rintro e w' ⟨rfl, rfl⟩
    go_wp2_with fail
    refine (Hs.out _).mono ?_
    rintro e w' ⟨rfl, rfl⟩
    go_wp2
    rw [Hv.out]
    exact bodyPost_ret (v := .tuple #[.agg #[.int .i64 0, .string ⟨#[]⟩, .int .i64 0], .int .i64 0]) (by simp [results, Tryz.results25, go_sem]) rfl ⟨rfl, (Below.refl _ _).alloc (Nat.le_refl _) _⟩
  · have Hv : Hid (oneV i0 (tokL (s.data.toList.drop i0)) = .tuple #[.agg #[.int .i64 4, .string t, .int .i64 0], .int .i64 ((i0 : Int) + (z : Int))]) := Lib.hid (by
      rw [Ht.out, if_neg h0, ← Htl.out]
      simp only [oneV, str_eta]
      rw [show ((i0 + z : Nat) : Int) = (i0 : Int) + (z : Int) by omega]
      rfl)
    have h0' : ¬ (z : Int) = 0 := by omega
    go_enter Tryz.func25, Tryz.ntmps25
    go_wp2_with fail
    refine G1.out.mono ?_
    rintro e w' ⟨rfl, rfl⟩
    go_wp2_with fail
    refine G2.out.mono ?_
    rintro e w' ⟨rfl, rfl⟩
    go_wp2_with fail
    refine (Hw.out _).mono ?_
    rintro e w' ⟨rfl, rfl⟩
    go_wp2_with fail
    refine (Hs.out _).mono ?_
    rintro e w' ⟨rfl, rfl⟩
    go_wp2
    rw [Hv.out]
    exact bodyPost_ret (v := .tuple #[.agg #[.int .i64 4, .string t, .int .i64 0], .int .i64 ((i0 : Int) + (z : Int))]) (by simp [results, Tryz.results25, go_sem]) rfl ⟨rfl, (Below.refl _ _).alloc (Nat.le_refl _) _⟩

set_option maxRecDepth 100000 in
set_option maxHeartbeats 4000000 in
theorem rone_dotsign (s : ByteArray) (i0 : Nat) (hi : i0 < s.size) (hs : s.size ≤ 1073741824) (w : World) (h46 : s[i0] = 46) (hr : runN smallB (s.data.toList.drop (i0 + 1)) = 0) :
    Calls Tryz.prog 25 #[.string s, .int .i64 (i0 : Int)] w fun e w' => e = .returned (oneV i0 (tokL (s.data.toList.drop i0))) ∧ Below w.heap.size w w' := by
  have hdot : ¬ (s[i0] = 46 ∧ 0 < runN smallB (s.data.toList.drop (i0 + 1))) := fun h => by have := h.2; omega
  have hp : partB s[i0] = false := by rw [h46]; decide
  have hq : s[i0] ≠ 34 := by rw [h46]; decide
  have hlb : letB 46 = false := by decide
  have hdb : digB 46 = false := by decide
  have e46 : (s[i0].toNat : Int) = 46 := by rw [h46]; rfl
  have n1 : ¬ (i0 : Int) + 1 < (i0 : Int) + 1 := by omega
  have G1 : Hid (Calls Tryz.prog 52 #[.int .u8 46] (w.alloc (.cells #[.int .i64 0, .string ⟨#[]⟩, .int .i64 0] 50)) fun e w' => e = .returned (.bool false) ∧ (w.alloc (.cells #[.int .i64 0, .string ⟨#[]⟩, .int .i64 0] 50)) = w') := Lib.hid (by have := letter_any 46 (w.alloc (.cells #[.int .i64 0, .string ⟨#[]⟩, .int .i64 0] 50)); rwa [hlb] at this)
  have G2 : Hid (Calls Tryz.prog 53 #[.int .u8 46] (w.alloc (.cells #[.int .i64 0, .string ⟨#[]⟩, .int .i64 0] 50)) fun e w' => e = .returned (.bool false) ∧ (w.alloc (.cells #[.int .i64 0, .string ⟨#[]⟩, .int .i64 0] 50)) = w') := Lib.hid (by have := digit_any 46 (w.alloc (.cells #[.int .i64 0, .string ⟨#[]⟩, .int .i64 0] 50)); rwa [hdb] at this)
  have hlen : (s.data.toList.drop (i0 + 1)).length = s.size - (i0 + 1) := by simp
  have hlen0 : (s.data.toList.drop i0).length = s.size - i0 := by simp
  have hd := drop_cons s i0 hi
  have ht : tokL (s.data.toList.drop i0) = if signZ (s.data.toList.drop i0) = 0 then none else some (4, (s.data.toList.drop i0).take (signZ (s.data.toList.drop i0)), signZ (s.data.toList.drop i0)) := by
    rw [hd]; exact tok_sign hp hq hdot
  have hw := fun w => rsmall_c s (i0 + 1) (by omega) hs w
  have hrl := runN_len smallB (s.data.toList.drop (i0 + 1))
  have Hs := Lib.hid (fun w => rsign_c s i0 hi hs w)
  obtain ⟨y, hy⟩ : ∃ y, runN smallB (s.data.toList.drop (i0 + 1)) = y := ⟨_, rfl⟩
  rw [hy] at hw hrl
  obtain ⟨z, hz⟩ : ∃ z, signZ (s.data.toList.drop i0) = z := ⟨_, rfl⟩
  have hz2 : z ≤ s.size - i0 := by
    by_cases h0 : z = 0
    · omega
    · rw [hz, if_neg h0] at ht
      have := (tok_pos (by rw [hd]; simp) ht).2.1
      omega
  rw [hz] at ht Hs
  have Hw : Hid (∀ w, Calls Tryz.prog 58 #[.string s, .int .i64 ((i0 : Int) + 1)] w fun e w' => e = .returned (.int .i64 ((i0 : Int) + 1)) ∧ w = w') := Lib.hid fun w => by
    have := hw w
    obtain rfl : y = 0 := by omega
    rw [show ((i0 : Int) + 1) = ((i0 + 1 : Nat) : Int) by omega]
    exact this
  have hiz : i0 + z ≤ s.size := by omega
  obtain ⟨t, htt⟩ : ∃ t, s.extract i0 (i0 + z) = t := ⟨_, rfl⟩
  have htl : t.data.toList = (s.data.toList.drop i0).take z := by
    rw [← htt, Lib.extract_data]
    congr 1
    omega
  have gs : ∀ w : World, (Instr.slice 9 (.string s) (some (.int .i64 (i0 : Int))) (some (.int .i64 ((i0 : Int) + (z : Int)))) none).run Tryz.prog w = .ok (.string t) w := fun w => by
    have h := run_slice_string (P := Tryz.prog) (w := w) 9 s .i64 .i64 (i0 : Int) ((i0 : Int) + (z : Int)) Tryz.underlying9 (by omega) (by omega) (by omega)
    rwa [show ((i0 : Int) + (z : Int)).toNat = i0 + z by omega, Int.toNat_natCast, htt] at h
  have Ht := Lib.hid ht
  have Htl := Lib.hid htl
  clear ht hw hlb hdb htl htt hd hz hp hq hdot
  have hc : True := trivial
  by_cases h0 : z = 0
  · have Hv : Hid (oneV i0 (tokL (s.data.toList.drop i0)) = .tuple #[.agg #[.int .i64 0, .string ⟨#[]⟩, .int .i64 0], .int .i64 0]) := Lib.hid (by rw [Ht.out, if_pos h0]; rfl)
    subst h0
    go_enter Tryz.func25, Tryz.ntmps25
    go_wp2_with fail
    refine G1.out.mono ?_
    rintro e w' ⟨rfl, rfl⟩
    go_wp2_with fail
    refine G2.out.mono ?_
    rintro e w' ⟨rfl, rfl⟩
    go_wp2_with fail
    refine (Hw.out _).mono ?_
    rintro e w' ⟨rfl, rfl⟩
    go_wp2_with fail
    refine (Hs.out _).mono ?_
    rintro e w' ⟨rfl, rfl⟩
    go_wp2
    rw [Hv.out]
    exact bodyPost_ret (v := .tuple #[.agg #[.int .i64 0, .string ⟨#[]⟩, .int .i64 0], .int .i64 0]) (by simp [results, Tryz.results25, go_sem]) rfl ⟨rfl, (Below.refl _ _).alloc (Nat.le_refl _) _⟩
  · have Hv : Hid (oneV i0 (tokL (s.data.toList.drop i0)) = .tuple #[.agg #[.int .i64 4, .string t, .int .i64 0], .int .i64 ((i0 : Int) + (z : Int))]) := Lib.hid (by
      rw [Ht.out, if_neg h0, ← Htl.out]
      simp only [oneV, str_eta]
      rw [show ((i0 + z : Nat) : Int) = (i0 : Int) + (z : Int) by omega]
      rfl)
    have h0' : ¬ (z : Int) = 0 := by omega
    go_enter Tryz.func25, Tryz.ntmps25
    go_wp2_with fail
    refine G1.out.mono ?_
    rintro e w' ⟨rfl, rfl⟩
    go_wp2_with fail
    refine G2.out.mono ?_
    rintro e w' ⟨rfl, rfl⟩
    go_wp2_with fail
    refine (Hw.out _).mono ?_
    rintro e w' ⟨rfl, rfl⟩
    go_wp2_with fail
    refine (Hs.out _).mono ?_
    rintro e w' ⟨rfl, rfl⟩
    go_wp2
    rw [Hv.out]
    exact bodyPost_ret (v := .tuple #[.agg #[.int .i64 4, .string t, .int .i64 0], .int .i64 ((i0 : Int) + (z : Int))]) (by simp [results, Tryz.results25, go_sem]) rfl ⟨rfl, (Below.refl _ _).alloc (Nat.le_refl _) _⟩

theorem rone_c (s : ByteArray) (i0 : Nat) (hi : i0 < s.size) (hs : s.size ≤ 1073741824) (h5 : s[i0] = 34 → s.size ≤ 5000) (w : World) :
    Calls Tryz.prog 25 #[.string s, .int .i64 (i0 : Int)] w fun e w' => e = .returned (oneV i0 (tokL (s.data.toList.drop i0))) ∧ Below w.heap.size w w' := by
  cases hp : partB s[i0] with
  | true =>
    rcases part_yes hp with h | h
    · exact rone_let s i0 hi hs w h
    · exact rone_dig s i0 hi hs w h.2
  | false =>
    by_cases h34 : s[i0] = 34
    · exact rone_quote s i0 hi (h5 h34) w h34
    · by_cases h46 : s[i0] = 46
      · by_cases hr : 0 < runN smallB (s.data.toList.drop (i0 + 1))
        · exact rone_dot s i0 hi hs w h46 hr
        · exact rone_dotsign s i0 hi hs w h46 (by omega)
      · exact rone_sign s i0 hi hs w hp h34 h46
end Go.Proofs.YthjfkngfgomkbaaGreatDoor
