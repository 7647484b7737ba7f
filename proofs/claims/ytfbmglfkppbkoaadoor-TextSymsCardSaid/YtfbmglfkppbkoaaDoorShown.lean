/- The laws' common head answers true, in every world that holds the listed variables. -/
import Derived.Test.YtfbmglfkppbkoaaDoorNum
import Derived.Test.YtfbmglfkppbkoaaDoorQuote
namespace Go.Proofs.YtfbmglfkppbkoaaDoor
open Go.RowKit

theorem numL_nought : numL [45, 48] = none := by
  have h1 : Lib.hasPrefix [45, 48] [45] = true := by decide
  have h2 : magL 9223372036854775808 [48] = some 0 := by
    unfold magL
    rw [if_neg (by decide), mag_go _ _ _ _ (by decide) (by decide)]
    rfl
  unfold numL
  rw [if_pos h1]
  show negO (magL 9223372036854775808 [48]) = none
  rw [h2]
  rfl
theorem itoa_five : Lib.itoa (-5) = [45, 53] := by
  unfold Lib.itoa
  simp [Lib.decDigits_one]
theorem quoteL_known : quoteL [97, 10, 34, 7] = [34, 97, 92, 110, 92, 34, 92, 120, 48, 55, 34] := by decide

set_option maxHeartbeats 1000000 in
theorem shown_c (a : Addr) (w : World) (E : Env a w) :
    Calls Tryd.prog 9 #[] w fun e w' => e = .returned (.bool true) ∧ Below w.heap.size w w' := by
  have hp := parse_c ⟨#[45, 48]⟩ a w (by decide) E
  rw [show (⟨#[45, 48]⟩ : ByteArray).data.toList = [45, 48] from rfl, numL_nought] at hp
  have Hp := Lib.hid hp
  clear hp
  have HE := Lib.hid E
  clear E
  go_enter Tryd.func9, Tryd.ntmps9
  go_wp2_with fail
  refine Hp.out.mono ?_
  rintro e w1 ⟨rfl, b1⟩
  simp only [parseV]
  go_wp2_with fail
  refine (num_c (-5) (by omega) (by omega) a _ (HE.out.below b1)).mono ?_
  rintro e w2 ⟨rfl, b2⟩
  rw [itoa_five]
  go_wp2_with fail
  refine (quote_c ⟨#[97, 10, 34, 7]⟩ (by decide) _).mono ?_
  rintro e w3 ⟨rfl, b3⟩
  rw [show (⟨#[97, 10, 34, 7]⟩ : ByteArray).data.toList = [97, 10, 34, 7] from rfl, quoteL_known]
  go_wp2
  go_ret
  exact ⟨ret_bool (by decide), b1.trans ((b2.mono b1.size).trans (b3.mono (Nat.le_trans b1.size b2.size)))⟩

theorem chain3 {w w1 w2 w3 : World} (b1 : Below w.heap.size w w1) (b2 : Below w1.heap.size w1 w2) (b3 : Below w2.heap.size w2 w3) : Below w.heap.size w w3 :=
  b1.trans ((b2.mono b1.size).trans (b3.mono (Nat.le_trans b1.size b2.size)))
theorem chain2 {w w1 w2 : World} (b1 : Below w.heap.size w w1) (b2 : Below w1.heap.size w1 w2) : Below w.heap.size w w2 :=
  b1.trans (b2.mono b1.size)

set_option maxHeartbeats 1000000 in
theorem textNames_c (s : ByteArray) (a : Addr) (w : World) (hs : s.size ≤ maxLen) (E : Env a w) :
    Calls Tryd.prog 5 #[.string s] w fun e w' => e = .returned (.bool true) ∧ Below w.heap.size w w' := by
  have HE := Lib.hid E
  have Hs := Lib.hid hs
  clear E hs
  go_enter Tryd.func5, Tryd.ntmps5
  go_wp2_with fail
  refine (shown_c a _ HE.out).mono ?_
  rintro e w1 ⟨rfl, b1⟩
  go_wp2_with fail
  refine (isName_any s _ Hs.out).mono ?_
  rintro e w2 ⟨rfl, b2⟩
  go_wp2_with fail
  refine (refName_any s _ Hs.out).mono ?_
  rintro e w3 ⟨rfl, rfl⟩
  go_wp2
  go_ret
  exact ⟨ret_bool (by simp), chain2 b1 b2⟩
end Go.Proofs.YtfbmglfkppbkoaaDoor
