/- soritesref01.Num answers a number's numeral, and soritesref01.ParseNum what the reader numL says of the bytes. -/
import Derived.Test.YthjfkngfgomkbaaGreatDoorRef
namespace Go.Proofs.YthjfkngfgomkbaaGreatDoor
open Go.RowKit

set_option maxRecDepth 100000 in
set_option maxHeartbeats 1000000 in
theorem refNum_c (n : Int) (h0 : -9223372036854775808 ≤ n) (h1 : n ≤ 9223372036854775807) (w : World) :
    Calls Tryz.prog 104 #[.int .i64 n] w fun e w' => e = .returned (.string ⟨(Lib.itoa n).toArray⟩) ∧ Below w.heap.size w w' := by
  by_cases hn : n < 0
  · have hd : (Lib.decDigits n.natAbs).length ≤ 20 := by rw [Lib.decDigits_length]; exact Lib.nDigits_le20 _ (by omega)
    have hi := Lib.hid (show Lib.itoa n = 45 :: Lib.decDigits n.natAbs by unfold Lib.itoa; rw [if_pos hn])
    go_enter Tryz.func104, Tryz.ntmps104
    go_wp2_with fail
    refine (digits_c n.natAbs (by omega) _ (by omega) _).mono ?_
    rintro e w1 ⟨rfl, b1⟩
    go_wp2
    go_ret
    rw [hi.out]
    exact ⟨congrArg Ending.returned (str_cons _ _), b1⟩
  · have hi := Lib.hid (show Lib.itoa n = Lib.decDigits n.toNat by unfold Lib.itoa; rw [if_neg hn])
    go_enter Tryz.func104, Tryz.ntmps104
    go_wp2_with fail
    refine (digits_c n.toNat (by omega) _ (by omega) _).mono ?_
    rintro e w1 ⟨rfl, b1⟩
    go_wp2
    go_ret
    rw [hi.out]
    exact ⟨rfl, b1⟩
end Go.Proofs.YthjfkngfgomkbaaGreatDoor
