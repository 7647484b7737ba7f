/- text.Num answers a number's text. -/
import Derived.Test.YthjfkngfgomkbaaGreatDoorChecked
import Derived.Test.YthjfkngfgomkbaaGreatDoorShelf
import Derived.WalkKit
import Derived.Lib.Hide
import Derived.WalkSmall
import Derived.Lib.AppendIntMem
import Derived.Lib.ItoaMem
namespace Go.Proofs.YthjfkngfgomkbaaGreatDoor
open Go.RowKit

theorem num_c (n : Int) (h0 : -9223372036854775808 ≤ n) (h1 : n ≤ 9223372036854775807) (w : World) (htab0 : Lib.TabIs Tryz.prog w "internal/strconv.uint64pow10" .u64 Lib.pow10Tab) :
    Calls Tryz.prog 123 #[.int .i64 n] w fun e w' => e = .returned (.string ⟨(Lib.itoa n).toArray⟩) ∧ Below w.heap.size w w' := by
  have htab := Lib.hid htab0
  clear htab0
  go_enter Tryz.func123, Tryz.ntmps123
  go_wp2_with fail
  refine (Tryz.strconv_FormatInt_10 n h0 h1 _ htab.out).mono ?_
  rintro e w' ⟨rfl, k, os, rfl⟩
  go_wp2
  go_ret
  exact ⟨rfl, Lib.below_grow _ _ (Nat.le_refl _) _ _⟩
end Go.Proofs.YthjfkngfgomkbaaGreatDoor
