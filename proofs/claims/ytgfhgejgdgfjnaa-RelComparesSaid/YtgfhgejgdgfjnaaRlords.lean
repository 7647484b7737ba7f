/- soriteslaw08.RelOrders: the walk. -/
import Derived.Test.YtgfhgejgdgfjnaaPsh
namespace Go.Proofs.Ytgfhgejgdgfjnaa
open Go.RowKit Go.Shelf

attribute [local go_sem] Oper.semAt_some

/-- What three answers say of an order. -/
theorem orders_true (a b c : Rw) : -1 ≤ rwC a b ∧ rwC a b ≤ 1 ∧ rwC b a = -(rwC a b) ∧ rwC a a = 0 ∧ (rwC a b ≤ 0 → rwC b c ≤ 0 → rwC a c ≤ 0) := by
  have h := rwC_tot.range a b
  exact ⟨by omega, by omega, rwC_tot.anti _ _, rwC_tot.refl a, rwC_tot.trans a b c⟩
theorem cut20 {w : World} {a : Rw} {o : Option Addr} {c : Nat} (h : SlOf w w.heap.size 3 VlC a (.slice o a.length c)) : ((20 : Int) < (a.length : Int) ∧ Hid (SlOf w w.heap.size 3 VlC (a.take 20) (.slice o 20 c))) ∨ ((a.length : Int) ≤ 20 ∧ Hid (SlOf w w.heap.size 3 VlC (a.take 20) (.slice o a.length c))) := by
  rcases Nat.lt_or_ge 20 a.length with g | g
  · exact .inl ⟨by omega, Lib.hid (SlOf.take h (by omega))⟩
  · exact .inr ⟨by omega, Lib.hid (by rw [List.take_of_length_le g]; exact h)⟩

set_option linter.unusedSimpArgs false in
set_option maxRecDepth 100000 in
set_option maxHeartbeats 16000000 in
theorem relOrders_c (a b c : Rw) (va vb vc : Value) (w : World) (ha : SlOf w w.heap.size 3 VlC a va) (hb : SlOf w w.heap.size 3 VlC b vb) (hc : SlOf w w.heap.size 3 VlC c vc) :
    Calls Try.prog 7 #[va, vb, vc] w fun e w' => e = .returned (.bool true) ∧ Below w.heap.size w w' := by
  obtain ⟨oa, ca, rfl, hca, hma, _⟩ := SlOf.open ha
  obtain ⟨ob, cb, rfl, hcb, hmb, _⟩ := SlOf.open hb
  obtain ⟨oc, cc, rfl, hcc, hmc, _⟩ := SlOf.open hc
  have GA := cut20 ha
  have GB := cut20 hb
  have GC := cut20 hc
  have O := Lib.hid (orders_true (a.take 20) (b.take 20) (c.take 20))
  generalize a.take 20 = a' at GA O
  generalize b.take 20 = b' at GB O
  generalize c.take 20 = c' at GC O
  clear ha hb hc
  rcases GA with ⟨ga, HA⟩ | ⟨ga, HA⟩ <;> rcases GB with ⟨gb, HB⟩ | ⟨gb, HB⟩ <;> rcases GC with ⟨gc, HC⟩ | ⟨gc, HC⟩
  all_goals
    go_enter Try.func7, Try.ntmps7
    go_wp2_with fail
    refine (shown_c w).mono ?_
    rintro e w1 ⟨rfl, b1⟩
    have HA := Lib.hid (VlS.past HA.out b1)
    have HB := Lib.hid (VlS.past HB.out b1)
    have HC := Lib.hid (VlS.past HC.out b1)
    have B1 := Lib.hid b1
    clear b1
    go_wp2_with fail
    refine (pcompare_c _ _ _ _ w1 HA.out HB.out).mono ?_
    rintro e w2 ⟨rfl, b2⟩
    have HA := Lib.hid (VlS.past HA.out b2)
    have HB := Lib.hid (VlS.past HB.out b2)
    have HC := Lib.hid (VlS.past HC.out b2)
    have B2 := Lib.hid (B1.out.trans (b2.mono B1.out.size))
    clear b2
    go_wp2_with fail
    refine (pcompare_c _ _ _ _ w2 HB.out HC.out).mono ?_
    rintro e w3 ⟨rfl, b3⟩
    have HA := Lib.hid (VlS.past HA.out b3)
    have HB := Lib.hid (VlS.past HB.out b3)
    have HC := Lib.hid (VlS.past HC.out b3)
    have B3 := Lib.hid (B2.out.trans (b3.mono B2.out.size))
    clear b3
    obtain ⟨x, hx⟩ : ∃ x, rwC a' b' = x := ⟨_, rfl⟩
    obtain ⟨y, hy⟩ : ∃ y, rwC b' c' = y := ⟨_, rfl⟩
    rw [hx, hy] at O
    rw [hx, hy]
    have x1 := O.out.1
    have x2 := O.out.2.1
    clear hx hy
    go_wp2_with fail
    refine (pcompare_c _ _ _ _ w3 HB.out HA.out).mono ?_
    rintro e w4 ⟨rfl, b4⟩
    have HA := Lib.hid (VlS.past HA.out b4)
    have HC := Lib.hid (VlS.past HC.out b4)
    have B4 := Lib.hid (B3.out.trans (b4.mono B3.out.size))
    clear b4
    rw [O.out.2.2.1]
    go_wp2_with fail
    refine (pcompare_c _ _ _ _ w4 HA.out HA.out).mono ?_
    rintro e w5 ⟨rfl, b5⟩
    have HA := Lib.hid (VlS.past HA.out b5)
    have HC := Lib.hid (VlS.past HC.out b5)
    have B5 := Lib.hid (B4.out.trans (b5.mono B4.out.size))
    clear b5
    rw [O.out.2.2.2.1]
    by_cases p1 : 0 < x
    · go_wp2
      go_ret
      exact ⟨rfl, B5.out⟩
    · by_cases p2 : 0 < y
      · go_wp2
        go_ret
        exact ⟨rfl, B5.out⟩
      · have z0 := O.out.2.2.2.2 (by omega) (by omega)
        go_wp2_with fail
        refine (pcompare_c _ _ _ _ w5 HA.out HC.out).mono ?_
        rintro e w6 ⟨rfl, b6⟩
        have B6 := Lib.hid (B5.out.trans (b6.mono B5.out.size))
        clear b6
        generalize rwC a' c' = z at z0 ⊢
        go_wp2
        go_ret
        exact ⟨rfl, B6.out⟩
end Go.Proofs.Ytgfhgejgdgfjnaa
