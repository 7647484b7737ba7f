/- The law TextBack answers true at every input, in every world that holds the listed variables. -/
import Derived.Test.YtfbmglfkppbkoaaDoorNums
import Derived.Test.YtfbmglfkppbkoaaDoorApart
import Derived.Test.YtfbmglfkppbkoaaDoorSignBack
import Derived.Lib.ItoaLen
namespace Go.Proofs.YtfbmglfkppbkoaaDoor
open Go.RowKit

theorem quoteL_len (l : List UInt8) : (quoteL l).length ≤ 4 * l.length + 2 := by
  have := flat_len l
  unfold quoteL
  simp only [List.length_cons, List.length_append, List.length_nil]
  omega
theorem unquote_quote (t : ByteArray) (ht : t.size ≤ 5000) (a : Addr) (w : World) (E : Env a w) :
    Calls Tryd.prog 14 #[.string ⟨(quoteL t.data.toList).toArray⟩] w fun e W' => e = .returned (.tuple #[.string t, .int .i64 0]) ∧ Below w.heap.size w W' := by
  have hl := quoteL_len t.data.toList
  have hlen : t.data.toList.length = t.size := by simp
  have := unquote_c ⟨(quoteL t.data.toList).toArray⟩ a w (by show (quoteL t.data.toList).toArray.size ≤ _; simp only [List.size_toArray]; omega) E
  rw [show (⟨(quoteL t.data.toList).toArray⟩ : ByteArray).data.toList = quoteL t.data.toList from rfl, unqL_quote] at this
  exact this
theorem parse_itoa (n : Int) (n0 : -9223372036854775808 ≤ n) (n1 : n ≤ 9223372036854775807) (a : Addr) (w : World) (E : Env a w) :
    Calls Tryd.prog 10 #[.string ⟨(Lib.itoa n).toArray⟩] w fun e W' => e = .returned (.tuple #[.int .i64 n, .int .i64 0]) ∧ Below w.heap.size w W' := by
  have hl := Lib.itoa_length_le n n0 n1
  have := parse_c ⟨(Lib.itoa n).toArray⟩ a w (by show (Lib.itoa n).toArray.size ≤ maxLen; simp only [List.size_toArray]; unfold maxLen; omega) E
  rw [show (⟨(Lib.itoa n).toArray⟩ : ByteArray).data.toList = Lib.itoa n from rfl, numL_itoa n n0 n1] at this
  exact this

set_option maxHeartbeats 4000000 in
theorem textBack_c (n : Int) (t s : ByteArray) (a : Addr) (w : World) (n0 : -9223372036854775808 ≤ n) (n1 : n ≤ 9223372036854775807)
    (ht : t.size ≤ maxLen) (hs : s.size ≤ maxLen) (E : Env a w) :
    Calls Tryd.prog 6 #[.int .i64 n, .string t, .string s] w fun e w' => e = .returned (.bool true) ∧ Below w.heap.size w w' := by
  unfold maxLen at hs ht
  have HE := Lib.hid E
  clear E
  have hct := cut_size t 5000
  have hcs := cut_size s 5000
  obtain ⟨t', et⟩ : ∃ t', t.extract 0 (min (t.size : Int) 5000).toNat = t' := ⟨_, rfl⟩
  obtain ⟨s', es⟩ : ∃ s', s.extract 0 (min (s.size : Int) 5000).toNat = s' := ⟨_, rfl⟩
  rw [show ((5000 : Nat) : Int) = 5000 from rfl, et] at hct
  rw [show ((5000 : Nat) : Int) = 5000 from rfl, es] at hcs
  have ET := Lib.hid et
  have ES := Lib.hid es
  have HT := Lib.hid hct
  have HS := Lib.hid hcs
  clear et es hct hcs
  obtain ⟨r, hr⟩ : ∃ r, numL s'.data.toList = r := ⟨_, rfl⟩
  obtain ⟨q, hq⟩ : ∃ q, unqL s'.data.toList = q := ⟨_, rfl⟩
  have Hp : Hid (∀ W, Env a W → Calls Tryd.prog 10 #[.string s'] W fun e W' => e = .returned (parseV r) ∧ Below W.heap.size W W') := Lib.hid fun W E => by
    rw [← hr]
    exact parse_c s' a W (by unfold maxLen; have := HS.out; omega) E
  have Hu : Hid (∀ W, Env a W → Calls Tryd.prog 14 #[.string s'] W fun e W' => e = .returned (unqV q) ∧ Below W.heap.size W W') := Lib.hid fun W E => by
    rw [← hq]
    exact unquote_c s' a W (by have := HS.out; omega) E
  rcases r with _ | k <;> rcases q with _ | v
  · -- neither
    clear hr hq
    go_enter Tryd.func6, Tryd.ntmps6
    go_wp2_with fail
    refine (shown_c a _ HE.out).mono ?_
    rintro e w1 ⟨rfl, b1⟩
    have E1 := Lib.hid (HE.out.below b1)
    go_wp2_with fail
    rw [ET.out, ES.out]
    refine (num_c n n0 n1 a _ E1.out).mono ?_
    rintro e w2 ⟨rfl, b2⟩
    have E2 := Lib.hid (E1.out.below b2)
    go_wp2_with fail
    refine (parse_itoa n n0 n1 a _ E2.out).mono ?_
    rintro e w3 ⟨rfl, b3⟩
    have E3 := Lib.hid (E2.out.below b3)
    go_wp2_with fail
    refine (quote_c t' (by have := HT.out; omega) _).mono ?_
    rintro e w4 ⟨rfl, b4⟩
    have E4 := Lib.hid (E3.out.below b4)
    go_wp2_with fail
    refine (unquote_quote t' HT.out a _ E4.out).mono ?_
    rintro e w5 ⟨rfl, b5⟩
    have E5 := Lib.hid (E4.out.below b5)
    go_wp2_with fail
    refine (Hp.out _ E5.out).mono ?_
    rintro e w6 ⟨rfl, b6⟩
    have E6 := Lib.hid (E5.out.below b6)
    simp only [parseV]
    go_wp2_with fail
    refine (Hu.out _ E6.out).mono ?_
    rintro e w7 ⟨rfl, b7⟩
    have E7 := Lib.hid (E6.out.below b7)
    simp only [unqV]
    go_wp2
    go_ret
    exact ⟨ret_bool (by simp), chain3 (chain3 b1 b2 b3) (chain3 b4 b5 b6) b7⟩
  · -- a symbol
    clear hr
    have hv := unqL_back hq
    have hv2 := unqL_len hq
    have hvq : (quoteL v == s'.toList) = true := by rw [Lib.toList_data, hv]; simp
    have VL : Hid ((⟨v.toArray⟩ : ByteArray).size ≤ 1073741824) := Lib.hid (by
      have h5 := HS.out
      have hlen : s'.data.toList.length = s'.size := by simp
      show v.toArray.size ≤ _
      simp only [List.size_toArray]
      omega)
    clear hv hv2 hq
    go_enter Tryd.func6, Tryd.ntmps6
    go_wp2_with fail
    refine (shown_c a _ HE.out).mono ?_
    rintro e w1 ⟨rfl, b1⟩
    have E1 := Lib.hid (HE.out.below b1)
    go_wp2_with fail
    rw [ET.out, ES.out]
    refine (num_c n n0 n1 a _ E1.out).mono ?_
    rintro e w2 ⟨rfl, b2⟩
    have E2 := Lib.hid (E1.out.below b2)
    go_wp2_with fail
    refine (parse_itoa n n0 n1 a _ E2.out).mono ?_
    rintro e w3 ⟨rfl, b3⟩
    have E3 := Lib.hid (E2.out.below b3)
    go_wp2_with fail
    refine (quote_c t' (by have := HT.out; omega) _).mono ?_
    rintro e w4 ⟨rfl, b4⟩
    have E4 := Lib.hid (E3.out.below b4)
    go_wp2_with fail
    refine (unquote_quote t' HT.out a _ E4.out).mono ?_
    rintro e w5 ⟨rfl, b5⟩
    have E5 := Lib.hid (E4.out.below b5)
    go_wp2_with fail
    refine (Hp.out _ E5.out).mono ?_
    rintro e w6 ⟨rfl, b6⟩
    have E6 := Lib.hid (E5.out.below b6)
    simp only [parseV]
    go_wp2_with fail
    refine (Hu.out _ E6.out).mono ?_
    rintro e w7 ⟨rfl, b7⟩
    have E7 := Lib.hid (E6.out.below b7)
    simp only [unqV]
    go_wp2_with fail
    refine (quote_c ⟨v.toArray⟩ VL.out _).mono ?_
    rintro e w9 ⟨rfl, b9⟩
    go_wp2
    go_ret
    exact ⟨ret_bool (by simp), chain3 (chain3 b1 b2 b3) (chain3 b4 b5 b6) (chain2 b7 b9)⟩
  · -- a number
    clear hq
    have hb := numL_back hr
    have hk : (Lib.itoa k == s'.toList) = true := by rw [Lib.toList_data, hb.1]; simp
    have KB := Lib.hid hb.2
    clear hb hr
    go_enter Tryd.func6, Tryd.ntmps6
    go_wp2_with fail
    refine (shown_c a _ HE.out).mono ?_
    rintro e w1 ⟨rfl, b1⟩
    have E1 := Lib.hid (HE.out.below b1)
    go_wp2_with fail
    rw [ET.out, ES.out]
    refine (num_c n n0 n1 a _ E1.out).mono ?_
    rintro e w2 ⟨rfl, b2⟩
    have E2 := Lib.hid (E1.out.below b2)
    go_wp2_with fail
    refine (parse_itoa n n0 n1 a _ E2.out).mono ?_
    rintro e w3 ⟨rfl, b3⟩
    have E3 := Lib.hid (E2.out.below b3)
    go_wp2_with fail
    refine (quote_c t' (by have := HT.out; omega) _).mono ?_
    rintro e w4 ⟨rfl, b4⟩
    have E4 := Lib.hid (E3.out.below b4)
    go_wp2_with fail
    refine (unquote_quote t' HT.out a _ E4.out).mono ?_
    rintro e w5 ⟨rfl, b5⟩
    have E5 := Lib.hid (E4.out.below b5)
    go_wp2_with fail
    refine (Hp.out _ E5.out).mono ?_
    rintro e w6 ⟨rfl, b6⟩
    have E6 := Lib.hid (E5.out.below b6)
    simp only [parseV]
    go_wp2_with fail
    refine (Hu.out _ E6.out).mono ?_
    rintro e w7 ⟨rfl, b7⟩
    have E7 := Lib.hid (E6.out.below b7)
    simp only [unqV]
    go_wp2_with fail
    refine (num_c k KB.out.1 KB.out.2 a _ E7.out).mono ?_
    rintro e w8 ⟨rfl, b8⟩
    go_wp2
    go_ret
    exact ⟨ret_bool (by simp), chain3 (chain3 b1 b2 b3) (chain3 b4 b5 b6) (chain2 b7 b8)⟩
  · -- both: there is no such text
    exfalso
    have e1 := (numL_back hr).1
    have e2 := unqL_back hq
    exact itoa_quote k _ (e1.trans e2.symm)
end Go.Proofs.YtfbmglfkppbkoaaDoor
