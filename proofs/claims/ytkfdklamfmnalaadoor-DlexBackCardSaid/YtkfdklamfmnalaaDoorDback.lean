/- The law DlexBack answers true, in every world that holds the listed variables. -/
import Derived.Test.YtkfdklamfmnalaaDoorDmath
import Derived.Test.YtkfdklamfmnalaaDoorDalike
namespace Go.Proofs.YtkfdklamfmnalaaDoor
open Go.RowKit

set_option maxHeartbeats 4000000 in
theorem dlexBack_c (s : ByteArray) (a b c : Addr) (w : World) (hs : s.size ≤ maxLen) (E : LEnv a b c w) :
    Calls Tryd.prog 9 #[.string s] w fun e w' => e = .returned (.bool true) ∧ Below w.heap.size w w' := by
  have HE := Lib.hid E
  have Hs := Lib.hid hs
  clear E hs
  obtain ⟨l, hl⟩ : ∃ l, (cutS s).data.toList = l := ⟨_, rfl⟩
  have hlen : l.length ≤ 3000 := by rw [← hl, data_len]; exact cutS_size s
  have hcs : (cutS s).size ≤ 1073741823 := by have := cutS_size s; omega
  have Hl := Lib.hid hl
  clear hl
  cases he : (lexL l).2 with
  | some n =>
    have Hr := Lib.hid (lexR_err (by omega) he)
    clear he
    go_enter Tryd.func9, Tryd.ntmps9
    go_wp2_with fail
    refine (dshown_c a b c _ HE.out).mono ?_
    rintro e w1 ⟨rfl, b1⟩
    go_wp2_with fail
    refine (cut_c s _ Hs.out).mono ?_
    rintro e w' ⟨rfl, rfl⟩
    go_wp2_with fail
    refine (lexE_c (cutS s) a b c _ hcs (HE.out.below b1)).mono ?_
    rw [Hl.out, Hr.out]
    rintro e w2 ⟨v, rfl, hown, b2⟩
    rcases hown.2 with ⟨rfl, _⟩ | ⟨g, cap, cur, rfl, _⟩
    all_goals
      clear hown
      go_wp2
      go_ret
      exact ⟨rfl, chain2 b1 b2⟩
  | none =>
    obtain ⟨hsh, ms, hms, hal⟩ := back_math l hlen
    have Hr := Lib.hid (lexR_ok (by omega) he)
    have Hms := Lib.hid hms
    have Hal := Lib.hid hal
    have Hsh := Lib.hid hsh
    have Hss : Hid (∀ t ∈ (lexL l).1.map tokI, t.s.size ≤ 1073741824) := Lib.hid (fun t ht => Nat.le_trans (lexL_short l t ht) (by omega))
    clear he hms hal hsh
    go_enter Tryd.func9, Tryd.ntmps9
    go_wp2_with fail
    refine (dshown_c a b c _ HE.out).mono ?_
    rintro e w1 ⟨rfl, b1⟩
    go_wp2_with fail
    refine (cut_c s _ Hs.out).mono ?_
    rintro e w' ⟨rfl, rfl⟩
    go_wp2_with fail
    refine (lexE_c (cutS s) a b c _ hcs (HE.out.below b1)).mono ?_
    rw [Hl.out, Hr.out]
    rintro e w2 ⟨v, rfl, hown, b2⟩
    have S2 := SliceOf.of_own hown
    clear hown
    go_wp2_with fail
    refine (show_c v _ _ S2 Hss.out (by have := Hsh.out; omega)).mono ?_
    rintro e w3 ⟨rfl, b3⟩
    have E3 := ((HE.out.below b1).below b2).below b3
    go_wp2_with fail
    refine (lexE_c ⟨(showI ((lexL l).1.map tokI)).toArray⟩ a b c _ (by have := Hsh.out; show (List.toArray _).size ≤ _; rw [List.size_toArray]; omega) E3).mono ?_
    rw [show (⟨(showI ((lexL l).1.map tokI)).toArray⟩ : ByteArray).data.toList = showI ((lexL l).1.map tokI) from rfl, Hms.out]
    rintro e w4 ⟨v2, rfl, hown4, b4⟩
    have S4 := SliceOf.of_own hown4
    have S24 := ((S2.below b3).below (b4.mono b3.size)).more (Nat.le_trans b3.size b4.size)
    clear hown4
    go_wp2_with fail
    refine (alike_c v v2 _ _ _ S24 S4).mono ?_
    rw [Hal.out]
    rintro e w5 ⟨rfl, b5⟩
    go_wp2
    go_ret
    exact ⟨rfl, chain2 b1 (chain2 b2 (chain2 b3 (chain2 b4 b5)))⟩
end Go.Proofs.YtkfdklamfmnalaaDoor
