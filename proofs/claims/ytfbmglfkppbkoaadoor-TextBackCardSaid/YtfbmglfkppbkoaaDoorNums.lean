/- The law TextNums answers true at every input, in every world that holds the listed variables. -/
import Derived.Test.YtfbmglfkppbkoaaDoorShown
import Derived.Test.YtfbmglfkppbkoaaDoorRefParseW
namespace Go.Proofs.YtfbmglfkppbkoaaDoor
open Go.RowKit

set_option maxHeartbeats 2000000 in
theorem textNums_c (n : Int) (s : ByteArray) (a : Addr) (w : World) (n0 : -9223372036854775808 ≤ n) (n1 : n ≤ 9223372036854775807) (hs : s.size ≤ maxLen) (E : Env a w) :
    Calls Tryd.prog 3 #[.int .i64 n, .string s] w fun e w' => e = .returned (.bool true) ∧ Below w.heap.size w w' := by
  have HE := Lib.hid E
  have Hs := Lib.hid hs
  clear E hs
  obtain ⟨r, hr⟩ : ∃ r, numL s.data.toList = r := ⟨_, rfl⟩
  have Hr := Lib.hid hr
  clear hr
  cases r with
  | none =>
    go_enter Tryd.func3, Tryd.ntmps3
    go_wp2_with fail
    refine (shown_c a _ HE.out).mono ?_
    rintro e w1 ⟨rfl, b1⟩
    have E1 := Lib.hid (HE.out.below b1)
    go_wp2_with fail
    refine (parse_c s a _ Hs.out E1.out).mono ?_
    rintro e w2 ⟨rfl, b2⟩
    rw [Hr.out]
    simp only [parseV]
    have E2 := Lib.hid (E1.out.below b2)
    go_wp2_with fail
    refine (refParse_c s _ Hs.out).mono ?_
    rintro e w3 ⟨rfl, b3⟩
    rw [refL_numL, Hr.out]
    simp only [parseV]
    have E3 := Lib.hid (E2.out.below b3)
    go_wp2_with fail
    refine (num_c n n0 n1 a _ E3.out).mono ?_
    rintro e w4 ⟨rfl, b4⟩
    go_wp2_with fail
    refine (refNum_c n n0 n1 _).mono ?_
    rintro e w5 ⟨rfl, b5⟩
    go_wp2
    go_ret
    exact ⟨ret_bool (by simp), chain3 (chain3 b1 b2 b3) b4 b5⟩
  | some k =>
    go_enter Tryd.func3, Tryd.ntmps3
    go_wp2_with fail
    refine (shown_c a _ HE.out).mono ?_
    rintro e w1 ⟨rfl, b1⟩
    have E1 := Lib.hid (HE.out.below b1)
    go_wp2_with fail
    refine (parse_c s a _ Hs.out E1.out).mono ?_
    rintro e w2 ⟨rfl, b2⟩
    rw [Hr.out]
    simp only [parseV]
    have E2 := Lib.hid (E1.out.below b2)
    go_wp2_with fail
    refine (refParse_c s _ Hs.out).mono ?_
    rintro e w3 ⟨rfl, b3⟩
    rw [refL_numL, Hr.out]
    simp only [parseV]
    have E3 := Lib.hid (E2.out.below b3)
    go_wp2_with fail
    refine (num_c n n0 n1 a _ E3.out).mono ?_
    rintro e w4 ⟨rfl, b4⟩
    go_wp2_with fail
    refine (refNum_c n n0 n1 _).mono ?_
    rintro e w5 ⟨rfl, b5⟩
    go_wp2
    go_ret
    exact ⟨ret_bool (by simp), chain3 (chain3 b1 b2 b3) b4 b5⟩
end Go.Proofs.YtfbmglfkppbkoaaDoor
