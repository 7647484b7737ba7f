/- The law TextSyms answers true at every input, in every world that holds the listed variables. -/
import Derived.Test.YtfbmglfkppbkoaaDoorApart
import Derived.Test.YtfbmglfkppbkoaaDoorRefUnq
namespace Go.Proofs.YtfbmglfkppbkoaaDoor
open Go.RowKit

set_option maxHeartbeats 4000000 in
theorem textSyms_c (t s : ByteArray) (a : Addr) (w : World) (ht : t.size ≤ maxLen) (hs : s.size ≤ maxLen) (E : Env a w) :
    Calls Tryd.prog 4 #[.string t, .string s] w fun e w' => e = .returned (.bool true) ∧ Below w.heap.size w w' := by
  unfold maxLen at hs ht
  have HE := Lib.hid E
  clear E
  have hct := cut_size t 2000
  have hcs := cut_size s 2000
  obtain ⟨t', et⟩ : ∃ t', t.extract 0 (min (t.size : Int) 2000).toNat = t' := ⟨_, rfl⟩
  obtain ⟨s', es⟩ : ∃ s', s.extract 0 (min (s.size : Int) 2000).toNat = s' := ⟨_, rfl⟩
  rw [show ((2000 : Nat) : Int) = 2000 from rfl, et] at hct
  rw [show ((2000 : Nat) : Int) = 2000 from rfl, es] at hcs
  have ET := Lib.hid et
  have ES := Lib.hid es
  have HT := Lib.hid hct
  have HS := Lib.hid hcs
  clear et es hct hcs
  obtain ⟨q, hq⟩ : ∃ q, unqL s'.data.toList = q := ⟨_, rfl⟩
  have Hu : Hid (∀ W, Env a W → Calls Tryd.prog 14 #[.string s'] W fun e W' => e = .returned (unqV q) ∧ Below W.heap.size W W') := Lib.hid fun W E => by
    rw [← hq]
    exact unquote_c s' a W (by have := HS.out; omega) E
  have Hv : Hid (∀ W, Calls Tryd.prog 15 #[.string s'] W fun e W' => e = .returned (unqV q) ∧ Below W.heap.size W W') := Lib.hid fun W => by
    rw [← hq]
    exact refUnquote_c s' (by have := HS.out; omega) W
  clear hq
  rcases q with _ | v
  · go_enter Tryd.func4, Tryd.ntmps4
    go_wp2_with fail
    refine (shown_c a _ HE.out).mono ?_
    rintro e w1 ⟨rfl, b1⟩
    have E1 := Lib.hid (HE.out.below b1)
    go_wp2_with fail
    rw [ET.out, ES.out]
    refine (Hu.out _ E1.out).mono ?_
    rintro e w2 ⟨rfl, b2⟩
    simp only [unqV]
    go_wp2_with fail
    refine (Hv.out _).mono ?_
    rintro e w3 ⟨rfl, b3⟩
    simp only [unqV]
    go_wp2_with fail
    refine (quote_c t' (by have := HT.out; omega) _).mono ?_
    rintro e w4 ⟨rfl, b4⟩
    go_wp2_with fail
    refine (refQuote_c t' (by have := HT.out; omega) _).mono ?_
    rintro e w5 ⟨rfl, b5⟩
    go_wp2
    go_ret
    exact ⟨ret_bool (by simp), chain3 (chain3 b1 b2 b3) b4 b5⟩
  · go_enter Tryd.func4, Tryd.ntmps4
    go_wp2_with fail
    refine (shown_c a _ HE.out).mono ?_
    rintro e w1 ⟨rfl, b1⟩
    have E1 := Lib.hid (HE.out.below b1)
    go_wp2_with fail
    rw [ET.out, ES.out]
    refine (Hu.out _ E1.out).mono ?_
    rintro e w2 ⟨rfl, b2⟩
    simp only [unqV]
    go_wp2_with fail
    refine (Hv.out _).mono ?_
    rintro e w3 ⟨rfl, b3⟩
    simp only [unqV]
    go_wp2_with fail
    refine (quote_c t' (by have := HT.out; omega) _).mono ?_
    rintro e w4 ⟨rfl, b4⟩
    go_wp2_with fail
    refine (refQuote_c t' (by have := HT.out; omega) _).mono ?_
    rintro e w5 ⟨rfl, b5⟩
    go_wp2
    go_ret
    exact ⟨ret_bool (by simp), chain3 (chain3 b1 b2 b3) b4 b5⟩
end Go.Proofs.YtfbmglfkppbkoaaDoor
