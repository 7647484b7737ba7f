/- The law TextApart answers true at every input, in every world that holds the listed variables. -/
import Derived.Test.YtfbmglfkppbkoaaDoorShown
import Derived.Test.YtfbmglfkppbkoaaDoorLists
import Derived.Test.YtfbmglfkppbkoaaDoorDigits
namespace Go.Proofs.YtfbmglfkppbkoaaDoor
open Go.RowKit

theorem cut_size (s : ByteArray) (k : Nat) : (s.extract 0 (min (s.size : Int) (k : Int)).toNat).size ≤ k := by
  rw [ByteArray.size_extract]
  omega

theorem quote_beq (s t : ByteArray) : (quoteL s.data.toList == quoteL t.data.toList) = (s.toList == t.toList) := by
  rw [Bool.eq_iff_iff, beq_iff_eq, beq_iff_eq, Lib.toList_data, Lib.toList_data]
  exact ⟨quoteL_inj, fun h => by rw [h]⟩
theorem itoa_quote_bne (n : Int) (s : ByteArray) : (Lib.itoa n == quoteL s.data.toList) = false := by
  rw [beq_eq_false_iff_ne]
  exact itoa_quote n _

set_option maxHeartbeats 2000000 in
theorem textApart_c (n m : Int) (s t : ByteArray) (a : Addr) (w : World) (n0 : -9223372036854775808 ≤ n) (n1 : n ≤ 9223372036854775807) (m0 : -9223372036854775808 ≤ m) (m1 : m ≤ 9223372036854775807)
    (hs : s.size ≤ maxLen) (ht : t.size ≤ maxLen) (E : Env a w) :
    Calls Tryd.prog 7 #[.int .i64 n, .int .i64 m, .string s, .string t] w fun e w' => e = .returned (.bool true) ∧ Below w.heap.size w w' := by
  unfold maxLen at hs ht
  have HE := Lib.hid E
  clear E
  have hcs := cut_size s 1000
  have hct := cut_size t 1000
  go_enter Tryd.func7, Tryd.ntmps7
  go_wp2_with fail
  refine (shown_c a _ HE.out).mono ?_
  rintro e w1 ⟨rfl, b1⟩
  go_wp2_with fail
  generalize s.extract 0 (min (s.size : Int) 1000).toNat = s' at *
  generalize t.extract 0 (min (t.size : Int) 1000).toNat = t' at *
  have f1 := itoa_beq n m
  have f2 := quote_beq s' t'
  have f3 := itoa_quote_bne n s'
  have E1 := Lib.hid (HE.out.below b1)
  refine (num_c n n0 n1 a _ E1.out).mono ?_
  rintro e w2 ⟨rfl, b2⟩
  have E2 := Lib.hid (E1.out.below b2)
  go_wp2_with fail
  refine (num_c m m0 m1 a _ E2.out).mono ?_
  rintro e w3 ⟨rfl, b3⟩
  have E3 := Lib.hid (E2.out.below b3)
  go_wp2_with fail
  refine (quote_c s' (by omega) _).mono ?_
  rintro e w4 ⟨rfl, b4⟩
  have E4 := Lib.hid (E3.out.below b4)
  go_wp2_with fail
  refine (quote_c t' (by omega) _).mono ?_
  rintro e w5 ⟨rfl, b5⟩
  have E5 := Lib.hid (E4.out.below b5)
  go_wp2_with fail
  refine (num_c n n0 n1 a _ E5.out).mono ?_
  rintro e w6 ⟨rfl, b6⟩
  go_wp2_with fail
  refine (quote_c s' (by omega) _).mono ?_
  rintro e w7 ⟨rfl, b7⟩
  go_wp2
  go_ret
  exact ⟨rfl, chain3 (chain3 b1 b2 b3) b4 (chain3 b5 b6 b7)⟩
end Go.Proofs.YtfbmglfkppbkoaaDoor
