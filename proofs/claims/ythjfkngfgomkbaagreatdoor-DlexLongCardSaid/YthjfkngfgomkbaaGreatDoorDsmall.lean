/- dlex: what a byte is; how many bytes of blanks and comments, of a name, of a symbol, of a sign stand ahead. -/
import Derived.Test.YthjfkngfgomkbaaGreatDoorLexA
import Derived.Test.YthjfkngfgomkbaaGreatDoorShelf
import Derived.WalkKit
import Derived.WalkLawsBesides
import Derived.IntWalk
import Derived.Lib.Hide
import Derived.Lib.Strings
import Derived.Lib.IndexBytes
namespace Go.Proofs.YthjfkngfgomkbaaGreatDoor
open Go.RowKit

theorem u8_eq (c k : UInt8) : c = k ↔ (c.toNat : Int) = (k.toNat : Int) := by
  rw [← UInt8.toNat_inj]; omega

theorem dblank_c (c : UInt8) (w : World) : Calls Tryz.prog 77 #[.int .u8 (c.toNat : Int)] w fun e w' => e = .returned (.bool (blankB c)) ∧ w = w' := by
  go_enter Tryz.func77, Tryz.ntmps77
  go_wp2
  all_goals go_ret
  all_goals exact ⟨ret_bool (by unfold blankB; rw [Bool.eq_iff_iff]; simp only [u8_eq]; simp; omega), rfl⟩
theorem ddigit_c (r : Int) (w : World) : Calls Tryz.prog 83 #[.int .u8 r] w fun e w' => e = .returned (.bool (digB r)) ∧ w = w' := by
  go_enter Tryz.func83, Tryz.ntmps83
  go_wp2
  all_goals go_ret
  all_goals exact ⟨ret_bool (by unfold digB; rw [Bool.eq_iff_iff]; simp; omega), rfl⟩
theorem dsmall_c (c : UInt8) (w : World) : Calls Tryz.prog 87 #[.int .u8 (c.toNat : Int)] w fun e w' => e = .returned (.bool (smallB c)) ∧ w = w' := by
  go_enter Tryz.func87, Tryz.ntmps87
  go_wp2
  all_goals go_ret
  all_goals exact ⟨ret_bool (by unfold smallB; rw [Bool.eq_iff_iff]; simp; omega), rfl⟩
theorem dpart_c (c : UInt8) (w : World) : Calls Tryz.prog 85 #[.int .u8 (c.toNat : Int)] w fun e w' => e = .returned (.bool (partB c)) ∧ w = w' := by
  go_enter Tryz.func85, Tryz.ntmps85
  go_wp2
  all_goals go_ret
  all_goals exact ⟨ret_bool (by unfold partB letB digB; rw [Bool.eq_iff_iff]; simp; omega), rfl⟩
end Go.Proofs.YthjfkngfgomkbaaGreatDoor
