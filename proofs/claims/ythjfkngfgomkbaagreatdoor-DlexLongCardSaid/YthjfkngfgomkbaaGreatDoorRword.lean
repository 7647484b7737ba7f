/- soritesref02: word and number: the token of letters, of digits, that stands there. -/
import Derived.Test.YthjfkngfgomkbaaGreatDoorRsym
import Derived.Test.YthjfkngfgomkbaaGreatDoorRleaf
import Derived.Test.YthjfkngfgomkbaaGreatDoorRefParseW
namespace Go.Proofs.YthjfkngfgomkbaaGreatDoor
open Go.RowKit

def oneV (i0 : Nat) : Option (Nat × List UInt8 × Nat) → Value
  | none => .tuple #[.agg #[.int .i64 0, .string ⟨#[]⟩, .int .i64 0], .int .i64 0]
  | some (k, s, z) => .tuple #[.agg #[.int .i64 (k : Int), .string ⟨s.toArray⟩, .int .i64 0], .int .i64 ((i0 + z : Nat) : Int)]

theorem okFrom_part : ∀ (k : Nat) (l : List UInt8), (∀ c ∈ l, partB c = true) → okFrom (k + 1) l = true
  | _, [], _ => rfl
  | k, c :: l, h => by
    have h1 := h c (by simp)
    have ih := okFrom_part (k + 1) l fun d hd => h d (by simp [hd])
    unfold okFrom
    rw [ih, Bool.and_true]
    unfold okAt
    unfold partB at h1
    simpa using h1
theorem run_part (p : UInt8 → Bool) : ∀ l : List UInt8, ∀ c ∈ l.take (runN p l), p c = true
  | [], c, h => by simp at h
  | d :: l, c, h => by
    unfold runN at h
    by_cases hp : p d = true
    · rw [if_pos hp, show 1 + runN p l = runN p l + 1 by omega, List.take_succ_cons, List.mem_cons] at h
      rcases h with rfl | h
      · exact hp
      · exact run_part p l c h
    · rw [if_neg hp] at h
      simp at h
theorem dig_let {r : Int} (h : letB r = true) : digB r = false := by unfold letB at h; unfold digB; simp at h ⊢; omega
theorem shape_let {c : UInt8} {t : List UInt8} (h : letB (c.toNat : Int) = true) : shapeL (c :: t) = (1, runN partB (c :: t)) := by
  rw [shapeL_cons, if_neg (by rw [dig_let h]; decide), if_pos (by unfold partB; rw [h]; rfl)]
theorem tok_let {c : UInt8} {t : List UInt8} (h : letB (c.toNat : Int) = true) : tokL (c :: t) = if runN partB (c :: t) ≤ 40 then some (1, (c :: t).take (runN partB (c :: t)), runN partB (c :: t)) else none := by
  have hp : partB c = true := by unfold partB; rw [h]; rfl
  have hr : runN partB (c :: t) = runN partB t + 1 := by unfold runN; rw [if_pos hp]; cases t <;> simp [runN] <;> omega
  have hall := run_part partB (c :: t)
  have hlen : ((c :: t).take (runN partB (c :: t))).length = runN partB (c :: t) := by rw [List.length_take]; exact Nat.min_eq_left (runN_len _ _)
  unfold tokL
  rw [shape_let h]
  simp only
  have hn : (decide ((c :: t).take (runN partB (c :: t)) = [95]) || nameB ((c :: t).take (runN partB (c :: t)))) = decide (runN partB (c :: t) ≤ 40) := by
    rw [hr, List.take_succ_cons] at hall hlen ⊢
    have ho : okFrom 0 (c :: t.take (runN partB t)) = true := by
      unfold okFrom
      rw [okFrom_part 0 _ fun d hd => hall d (by simp [hd]), Bool.and_true]
      unfold okAt
      rw [h]; rfl
    unfold nameB
    rw [ho, Bool.and_true, hlen, Bool.eq_iff_iff]
    simp only [Bool.or_eq_true, decide_eq_true_eq]
    constructor
    · rintro (e | e)
      · rw [e] at hlen; simp at hlen; omega
      · exact e.2.1
    · intro e
      by_cases h95 : c :: t.take (runN partB t) = [95]
      · exact .inl h95
      · exact .inr ⟨by simp, e, h95⟩
  unfold meanL
  rw [if_neg (by decide), if_pos rfl, hn]
  by_cases h40 : runN partB (c :: t) ≤ 40
  · rw [if_pos h40, if_pos (by simpa using h40)]; rfl
  · rw [if_neg h40, if_neg (by simpa using h40)]; rfl
theorem dig_head {c : UInt8} {t : List UInt8} (h : digB (c.toNat : Int) = true) : tokL (c :: t) = if (numL ((c :: t).take (runN partB (c :: t)))).isSome = true then some (2, (c :: t).take (runN partB (c :: t)), runN partB (c :: t)) else none := by
  unfold tokL
  rw [shapeL_cons, if_pos h]
  simp only
  unfold meanL
  rw [if_neg (show ¬ (2 = 3) by decide), if_neg (show ¬ (2 = 1) by decide), if_pos (show 2 = 2 from rfl)]
  split <;> rfl

set_option maxRecDepth 100000 in
set_option maxHeartbeats 4000000 in
theorem rword_c (s : ByteArray) (i0 : Nat) (hi : i0 < s.size) (hs : s.size ≤ 1073741824) (hl : letB (s[i0].toNat : Int) = true) (w : World) :
    Calls Tryz.prog 54 #[.string s, .int .i64 (i0 : Int)] w fun e w' => e = .returned (oneV i0 (tokL (s.data.toList.drop i0))) ∧ Below w.heap.size w w' := by
  have hlen : (s.data.toList.drop i0).length = s.size - i0 := by simp
  have hr := runN_len partB (s.data.toList.drop i0)
  obtain ⟨z, hz⟩ : ∃ z, runN partB (s.data.toList.drop i0) = z := ⟨_, rfl⟩
  have Hrun := Lib.hid (rrun_c s i0 (by omega) hs)
  have ht : tokL (s.data.toList.drop i0) = if z ≤ 40 then some (1, (s.data.toList.drop i0).take z, z) else none := by
    rw [← hz, drop_cons s i0 hi]; exact tok_let hl
  rw [hz] at Hrun hr
  have hiz : i0 + z ≤ s.size := by omega
  have Ht := Lib.hid ht
  clear ht hz hl
  by_cases h40 : z ≤ 40
  · have h40' : ¬ (40 : Int) < ((i0 + z : Nat) : Int) - (i0 : Int) := by omega
    have h40'' : ¬ (40 : Int) < (i0 : Int) + (z : Int) - (i0 : Int) := by omega
    obtain ⟨t, htt⟩ : ∃ t, s.extract i0 (i0 + z) = t := ⟨_, rfl⟩
    have htl : t.data.toList = (s.data.toList.drop i0).take z := by
      rw [← htt, Lib.extract_data]
      congr 1
      omega
    have gs : ∀ w : World, (Instr.slice 9 (.string s) (some (.int .i64 (i0 : Int))) (some (.int .i64 ((i0 : Int) + (z : Int)))) none).run Tryz.prog w = .ok (.string t) w := fun w => by
      have h := run_slice_string (P := Tryz.prog) (w := w) 9 s .i64 .i64 (i0 : Int) ((i0 : Int) + (z : Int)) Tryz.underlying9 (by omega) (by omega) (by omega)
      rwa [show ((i0 : Int) + (z : Int)).toNat = i0 + z by omega, Int.toNat_natCast, htt] at h
    have Hv : Hid (oneV i0 (tokL (s.data.toList.drop i0)) = .tuple #[.agg #[.int .i64 1, .string t, .int .i64 0], .int .i64 ((i0 : Int) + (z : Int))]) := Lib.hid (by
      rw [Ht.out, if_pos h40, ← htl]
      simp only [oneV, str_eta]
      rfl)
    clear htt htl
    go_enter Tryz.func54, Tryz.ntmps54
    go_wp2_with fail
    refine (Hrun.out _).mono ?_
    rintro e w1 ⟨rfl, rfl⟩
    go_wp2
    rw [Hv.out]
    exact bodyPost_ret (v := .tuple #[.agg #[.int .i64 1, .string t, .int .i64 0], .int .i64 ((i0 : Int) + (z : Int))]) (by simp [results, Tryz.results54, go_sem]) rfl ⟨rfl, (Below.refl _ _).alloc (Nat.le_refl _) _⟩
  · have h40' : (40 : Int) < (i0 : Int) + (z : Int) - (i0 : Int) := by omega
    have Hv : Hid (oneV i0 (tokL (s.data.toList.drop i0)) = .tuple #[.agg #[.int .i64 0, .string ⟨#[]⟩, .int .i64 0], .int .i64 0]) := Lib.hid (by rw [Ht.out, if_neg h40]; rfl)
    go_enter Tryz.func54, Tryz.ntmps54
    go_wp2_with fail
    refine (Hrun.out _).mono ?_
    rintro e w1 ⟨rfl, rfl⟩
    go_wp2
    rw [Hv.out]
    exact bodyPost_ret (v := .tuple #[.agg #[.int .i64 0, .string ⟨#[]⟩, .int .i64 0], .int .i64 0]) (by simp [results, Tryz.results54, go_sem]) rfl ⟨rfl, (Below.refl _ _).alloc (Nat.le_refl _) _⟩

end Go.Proofs.YthjfkngfgomkbaaGreatDoor
