/- soritesref01.Quote answers the text of a symbol, for texts of at most five thousand bytes. -/
import Derived.Test.YthjfkngfgomkbaaGreatDoorOne
namespace Go.Proofs.YthjfkngfgomkbaaGreatDoor
open Go.RowKit

theorem str_app (l m : List UInt8) : Value.string ((⟨l.toArray⟩ : ByteArray) ++ ⟨m.toArray⟩) = .string ⟨(l ++ m).toArray⟩ := by
  show Value.string (ByteArray.mk l.toArray ++ ByteArray.mk m.toArray) = _
  rw [ByteArray.mk_append_mk]

set_option maxRecDepth 100000 in
set_option maxHeartbeats 1000000 in
theorem refQuote_c (s : ByteArray) (hs : s.size ≤ 5000) (w : World) :
    Calls Tryz.prog 105 #[.string s] w fun e w' => e = .returned (.string ⟨(quoteL s.data.toList).toArray⟩) ∧ Below w.heap.size w w' := by
  go_enter Tryz.func105, Tryz.ntmps105
  go_wp2
  go_loopw [3, 4] (fun o i wr => ∃ (pos : Nat) (acc : List UInt8), pos ≤ s.size ∧ i = .int .i64 pos ∧ o = .string ⟨acc.toArray⟩ ∧ acc.length ≤ 4 * pos + 1 ∧ acc = 34 :: (s.data.toList.take pos).flatMap sign ∧ Below w.heap.size w wr) (fun _ i _ => s.size - (intOf i).toNat)
  case atStart => exact ⟨0, [34], by omega, rfl, rfl, by simp, rfl, Below.refl _ _⟩
  case round =>
    obtain ⟨pos, acc, hp, rfl, rfl, hal, hacc, hb⟩ := hrel
    have Hacc := Lib.hid hacc
    clear hacc
    by_cases hlt : pos < s.size
    · have hsl := sign_len s[pos]
      have hst := Lib.hid (take_snoc s pos hlt)
      have e1 : ¬ 9223372036854775807 < acc.length + (sign s[pos]).length := by omega
      go_wp2_with fail
      refine (one_c s[pos] _ rfl _).mono ?_
      rintro e w1 ⟨rfl, b1⟩
      go_wp2
      go_roundw
      case rel =>
        refine ⟨pos + 1, acc ++ sign s[pos], hlt, by go_num, str_app _ _, by simp; omega, ?_, chain2 hb (by exact b1)⟩
        rw [Hacc.out, hst.out]
        simp
      case measure => simp [intOf]; omega
    · obtain rfl : pos = s.size := by omega
      have hf := Lib.hid (show s.data.toList.take s.size = s.data.toList from List.take_of_length_le (by simp))
      have e1 : ¬ 9223372036854775807 < acc.length + 1 := by omega
      go_wp2
      go_ret
      refine ⟨?_, hb⟩
      rw [show quoteL s.data.toList = acc ++ [34] by rw [Hacc.out, hf.out]; rfl]
      exact congrArg Ending.returned (str_app acc [34])
end Go.Proofs.YthjfkngfgomkbaaGreatDoor
