/- soriteslaw08.RelMatches: the walk. -/
import Derived.Test.YtgfhgejgdgfjnaaPsh
import Derived.Test.YtgfhgejgdgfjnaaPma
namespace Go.Proofs.Ytgfhgejgdgfjnaa
open Go.RowKit Go.Shelf

attribute [local go_sem] Oper.semAt_some

theorem cut10 {α : Type} {w : World} {B z : Nat} {R : α → List Value → Prop} {a : List α} {o : Option Addr} {c : Nat} (h : SlOf w B z R a (.slice o a.length c)) : ((10 : Int) < (a.length : Int) ∧ Hid (SlOf w B z R (a.take 10) (.slice o 10 c))) ∨ ((a.length : Int) ≤ 10 ∧ Hid (SlOf w B z R (a.take 10) (.slice o a.length c))) := by
  rcases Nat.lt_or_ge 10 a.length with g | g
  · exact .inl ⟨by omega, Lib.hid (SlOf.take h (by omega))⟩
  · exact .inr ⟨by omega, Lib.hid (by rw [List.take_of_length_le g]; exact h)⟩
theorem fit_take {l : List Rw} (h : ∀ r ∈ l, FitW r) : (∀ r ∈ l.take 100, FitW r) ∧ (l.take 100).length ≤ 1000000 := ⟨fun r hr => h r (List.mem_of_mem_take hr), by rw [List.length_take]; omega⟩

set_option linter.unusedSimpArgs false in
set_option maxRecDepth 100000 in
set_option maxHeartbeats 16000000 in
theorem relMatches_c (l : List Rw) (cols : List Int) (vals : List Vl) (vl vc vv : Value) (w : World) (hl : RwsS w w.heap.size l vl) (hc : SlOf w w.heap.size 1 IntC cols vc) (hv : SlOf w w.heap.size 3 VlC vals vv) (hf : ∀ r ∈ l, FitW r) :
    Calls Try.prog 6 #[vl, vc, vv] w fun e w' => e = .returned (.bool true) ∧ Below w.heap.size w w' := by
  obtain ⟨oc, cc, rfl, hcc, hmc, _⟩ := SlOf.open hl
  obtain ⟨oa, ca, rfl, hca, hma, _⟩ := SlOf.open hc
  obtain ⟨ob, cb, rfl, hcb, hmb, _⟩ := SlOf.open hv
  have GA := cut10 hc
  have GB := cut10 hv
  have HL := Lib.hid hl
  have HF := Lib.hid (fit_take hf)
  generalize cols.take 10 = a' at GA
  generalize vals.take 10 = b' at GB
  clear hl hc hv hf
  rcases GA with ⟨ga, HA⟩ | ⟨ga, HA⟩ <;> rcases GB with ⟨gb, HB⟩ | ⟨gb, HB⟩
  all_goals
    go_enter Try.func6, Try.ntmps6
    go_wp2_with fail
    refine (shown_c w).mono ?_
    rintro e w1 ⟨rfl, b1⟩
    have HA := Lib.hid (SlOf.int HA.out b1 b1.size)
    have HB := Lib.hid (VlS.past HB.out b1)
    have HL := Lib.hid (RwsS.past HL.out b1)
    have B1 := Lib.hid b1
    clear b1
    go_wp2_with fail
    refine (cut_c l _ w1 HL.out).mono ?_
    rintro e w2 ⟨⟨u, rfl, h2⟩, rfl⟩
    obtain ⟨ou, cu, rfl, hcu, hmu, _⟩ := SlOf.open h2
    generalize l.take 100 = m at h2 HF ⊢
    have HL := Lib.hid h2
    clear h2
    go_wp2_with fail
    refine (pmatch_c m _ _ _ _ _ w1 HF.out.2 HL.out HA.out HB.out HF.out.1).mono ?_
    rintro e w3 ⟨⟨r1, rfl, h3⟩, b3⟩
    have HA := Lib.hid (SlOf.int HA.out b3 b3.size)
    have HB := Lib.hid (VlS.past HB.out b3)
    have HL := Lib.hid (RwsS.past HL.out b3)
    have B3 := Lib.hid (B1.out.trans (b3.mono B1.out.size))
    clear b3
    generalize hq : matchL m a' b' = q at h3
    obtain ⟨or1, cr1, rfl, _, _, _⟩ := SlOf.open h3
    have HR := Lib.hid h3
    clear h3
    go_wp2_with fail
    refine (rmatch_c m _ _ _ _ _ w3 HF.out.2 HL.out HA.out HB.out).mono ?_
    rintro e w4 ⟨r2, rfl, h4, b4⟩
    rw [hq] at h4
    have HR := Lib.hid (RwsS.past HR.out b4)
    have B4 := Lib.hid (B3.out.trans (b4.mono B3.out.size))
    clear b4
    obtain ⟨or2, cr2, rfl, _, _, _⟩ := SlOf.open h4
    have HR2 := Lib.hid h4
    clear h4 hq
    go_wp2_with fail
    refine (rsame_c _ _ _ _ w4 HR.out HR2.out).mono ?_
    rintro e w5 ⟨rfl, b5⟩
    rw [(sameWs_iff q q).2 rfl]
    have B5 := Lib.hid (B4.out.trans (b5.mono B4.out.size))
    clear b5
    go_wp2
    go_ret
    exact ⟨rfl, B5.out⟩
end Go.Proofs.Ytgfhgejgdgfjnaa
