/- The law TextJoins answers true at every input, in every world that holds the listed variables. -/
import Derived.Test.YtfbmglfkppbkoaaDoorApart
import Derived.Deep.RegionHeld3
import Derived.IntWalk
namespace Go.Proofs.YtfbmglfkppbkoaaDoor
open Go.RowKit

theorem quoteL_len (l : List UInt8) : 2 ≤ (quoteL l).length := by
  unfold quoteL
  simp
theorem quoteL_max (s : ByteArray) : (quoteL s.data.toList).length ≤ 4 * s.size + 2 := by
  have := flat_len s.data.toList
  have h : s.data.toList.length = s.size := by simp
  unfold quoteL
  simp only [List.length_cons, List.length_append, List.length_nil]
  omega
theorem quoteL_joins (s t : List UInt8) : quoteL (s ++ t) = (((quoteL s).drop 0).take ((quoteL s).length - 1 - 0)) ++ (((quoteL t).drop 1).take ((quoteL t).length - 1)) := by
  have h1 : ((quoteL s).drop 0).take ((quoteL s).length - 1 - 0) = 34 :: s.flatMap sign := by
    unfold quoteL
    simp
  have h2 : ((quoteL t).drop 1).take ((quoteL t).length - 1) = t.flatMap sign ++ [34] := by
    rw [List.take_of_length_le (by simp)]
    rfl
  rw [h1, h2]
  simp [quoteL]
set_option maxHeartbeats 2000000 in
theorem textJoins_c (s t : ByteArray) (a : Addr) (w : World) (hs : s.size ≤ maxLen) (ht : t.size ≤ maxLen) (E : Env a w) :
    Calls Tryd.prog 8 #[.string s, .string t] w fun e w' => e = .returned (.bool true) ∧ Below w.heap.size w w' := by
  unfold maxLen at hs ht
  have HE := Lib.hid E
  clear E
  have hcs := cut_size s 1000
  have hct := cut_size t 1000
  go_enter Tryd.func8, Tryd.ntmps8
  go_wp2_with fail
  refine (shown_c a _ HE.out).mono ?_
  rintro e w1 ⟨rfl, b1⟩
  go_wp2_with fail
  generalize s.extract 0 (min (s.size : Int) 1000).toNat = s' at *
  generalize t.extract 0 (min (t.size : Int) 1000).toNat = t' at *
  refine (quote_c s' (by omega) _).mono ?_
  rintro e w2 ⟨rfl, b2⟩
  obtain ⟨A, hA⟩ : ∃ A : ByteArray, (⟨(quoteL s'.data.toList).toArray⟩ : ByteArray) = A := ⟨_, rfl⟩
  have hA2 : 2 ≤ A.size := by rw [← hA]; exact quoteL_len _
  rw [hA]
  go_wp2_with fail
  refine (quote_c t' (by omega) _).mono ?_
  rintro e w3 ⟨rfl, b3⟩
  obtain ⟨B, hB⟩ : ∃ B : ByteArray, (⟨(quoteL t'.data.toList).toArray⟩ : ByteArray) = B := ⟨_, rfl⟩
  have hB2 : 2 ≤ B.size := by rw [← hB]; exact quoteL_len _
  rw [hB]
  have HA := Lib.hid hA
  have HB := Lib.hid hB
  clear hA hB
  go_wp2_with fail
  have K : Hid (∀ {w4 : World}, Below w3.heap.size w3 w4 → Below w.heap.size w w4) := Lib.hid (fun b4 => chain3 b1 b2 (chain2 b3 b4))
  clear b1 b2 b3 HE
  have hst : (s' ++ t').size ≤ 1073741824 := by rw [ByteArray.size_append]; omega
  have hAm : A.size ≤ 100000 := by
    have h1 : A.size = (quoteL s'.data.toList).length := by rw [← HA.out]; rfl
    have h2 := quoteL_max s'
    omega
  have hBm : B.size ≤ 100000 := by
    have h1 : B.size = (quoteL t'.data.toList).length := by rw [← HB.out]; rfl
    have h2 := quoteL_max t'
    omega
  have e4 : ¬ 9223372036854775807 < s'.size + t'.size := by omega
  have e10 : ∀ w : World, (Instr.slice 9 (.string A) none (some (.int .i64 ((A.size : Int) - 1))) none).run Tryd.prog w = .ok (.string (A.extract 0 (A.size - 1))) w := fun w => by
    have h := run_slice_string_h (P := Tryd.prog) (w := w) (t := 9) (s := A) Tryd.underlying9 .i64 ((A.size : Int) - 1) (by omega) (by omega)
    rwa [show ((A.size : Int) - 1).toNat = A.size - 1 by omega] at h
  have e13 : ¬ 9223372036854775807 < A.size - 1 + (B.size - 1) := by omega
  have e45 : (quoteL (s'.data.toList ++ t'.data.toList) == (A.extract 0 (A.size - 1) ++ B.extract 1 B.size).toList) = true := by
    rw [beq_iff_eq, Lib.toList_data, ByteArray.data_append, Array.toList_append, Lib.extract_data, Lib.extract_data, ← HA.out, ← HB.out]
    exact quoteL_joins _ _
  have E45 := Lib.hid e45
  have g1 : IntKind.i64.wrap ((A.size : Int) - 1) = (A.size : Int) - 1 := IntWalk.i64_in _ (by omega)
  have g4 : 1 ≤ (B.size : Int) := by omega
  clear e45
  go_region_held3 (fun _ => True) (trivial) ((go_at_call 16; refine (quote_c _ ?_ _).mono ?_; exact hst; rintro e w' ⟨rfl, b⟩))
  go_wp2
  go_ret
  exact ⟨ret_bool E45.out, K.out (((Below.refl _ w3).drew).trans b)⟩
end Go.Proofs.YtfbmglfkppbkoaaDoor
