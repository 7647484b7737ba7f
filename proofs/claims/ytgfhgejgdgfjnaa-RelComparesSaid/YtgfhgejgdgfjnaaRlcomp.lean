/- soriteslaw08.RelCompares: the walk. -/
import Derived.Test.YtgfhgejgdgfjnaaRlords
import Derived.Test.YtgfhgejgdgfjnaaPri
namespace Go.Proofs.Ytgfhgejgdgfjnaa
open Go.RowKit Go.Shelf

attribute [local go_sem] Oper.semAt_some

set_option linter.unusedSimpArgs false in
set_option maxRecDepth 100000 in
set_option maxHeartbeats 16000000 in
theorem relCompares_c (a b : Rw) (l : List Rw) (va vb vl : Value) (w : World) (ha : SlOf w w.heap.size 3 VlC a va) (hb : SlOf w w.heap.size 3 VlC b vb) (hl : RwsS w w.heap.size l vl) :
    Calls Try.prog 3 #[va, vb, vl] w fun e w' => e = .returned (.bool true) ∧ Below w.heap.size w w' := by
  obtain ⟨oa, ca, rfl, hca, hma, _⟩ := SlOf.open ha
  obtain ⟨ob, cb, rfl, hcb, hmb, _⟩ := SlOf.open hb
  obtain ⟨oc, cc, rfl, hcc, hmc, _⟩ := SlOf.open hl
  have GA := cut20 ha
  have GB := cut20 hb
  have HL := Lib.hid hl
  generalize a.take 20 = a' at GA
  generalize b.take 20 = b' at GB
  clear ha hb hl
  rcases GA with ⟨ga, HA⟩ | ⟨ga, HA⟩ <;> rcases GB with ⟨gb, HB⟩ | ⟨gb, HB⟩
  all_goals
    go_enter Try.func3, Try.ntmps3
    go_wp2_with fail
    refine (shown_c w).mono ?_
    rintro e w1 ⟨rfl, b1⟩
    have HA := Lib.hid (VlS.past HA.out b1)
    have HB := Lib.hid (VlS.past HB.out b1)
    have HL := Lib.hid (RwsS.past HL.out b1)
    have B1 := Lib.hid b1
    clear b1
    go_wp2_with fail
    refine (cut_c l _ w1 HL.out).mono ?_
    rintro e w2 ⟨⟨u, rfl, h2⟩, rfl⟩
    generalize l.take 100 = m at h2
    have HL := Lib.hid h2
    obtain ⟨ou, cu, rfl, hcu, hmu, _⟩ := SlOf.open h2
    clear h2
    go_wp2_with fail
    refine (pcompare_c _ _ _ _ w1 HA.out HB.out).mono ?_
    rintro e w3 ⟨rfl, b3⟩
    have HA := Lib.hid (VlS.past HA.out b3)
    have HB := Lib.hid (VlS.past HB.out b3)
    have HL := Lib.hid (RwsS.past HL.out b3)
    have B3 := Lib.hid (B1.out.trans (b3.mono B1.out.size))
    clear b3
    obtain ⟨x, hx⟩ : ∃ x, rwC a' b' = x := ⟨_, rfl⟩
    rw [hx]
    go_wp2_with fail
    refine (rcompare_c _ _ _ _ w3 HA.out HB.out).mono ?_
    rintro e w4 ⟨rfl, b4⟩
    have HL := Lib.hid (RwsS.past HL.out b4)
    have B4 := Lib.hid (B3.out.trans (b4.mono B3.out.size))
    clear b4
    rw [hx]
    clear hx
    go_wp2_with fail
    refine (prise_c _ _ w4 HL.out).mono ?_
    rintro e w5 ⟨rfl, b5⟩
    have HL := Lib.hid (RwsS.past HL.out b5)
    have B5 := Lib.hid (B4.out.trans (b5.mono B4.out.size))
    clear b5
    obtain ⟨y, hy⟩ : ∃ y, riseL rwC m = y := ⟨_, rfl⟩
    rw [hy]
    go_wp2_with fail
    refine (rrise_c _ _ w5 HL.out).mono ?_
    rintro e w6 ⟨rfl, b6⟩
    have B6 := Lib.hid (B5.out.trans (b6.mono B5.out.size))
    clear b6
    rw [hy]
    clear hy
    go_wp2
    go_ret
    exact ⟨rfl, B6.out⟩
end Go.Proofs.Ytgfhgejgdgfjnaa
