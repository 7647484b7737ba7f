/- soriteslaw08.RelSets: the walk. -/
import Derived.Test.YtgfhgejgdgfjnaaRlmat
import Derived.Test.YtgfhgejgdgfjnaaPmi
namespace Go.Proofs.Ytgfhgejgdgfjnaa
open Go.RowKit Go.Shelf

attribute [local go_sem] Oper.semAt_some

theorem clean_all {l : List Rw} (h : l.all cleanR = true) : ∀ r ∈ l, cleanR r = true := List.all_eq_true.1 h
set_option linter.unusedSimpArgs false in
set_option maxRecDepth 100000 in
set_option maxHeartbeats 16000000 in
theorem relSets_c (a b : List Rw) (va vb : Value) (w : World) (ha : RwsS w w.heap.size a va) (hb : RwsS w w.heap.size b vb) (hfa : ∀ r ∈ a, FitW r) (hfb : ∀ r ∈ b, FitW r) :
    Calls Try.prog 5 #[va, vb] w fun e w' => e = .returned (.bool true) ∧ Below w.heap.size w w' := by
  obtain ⟨oa, ca, rfl, _, _, _⟩ := SlOf.open ha
  obtain ⟨ob, cb, rfl, _, _, _⟩ := SlOf.open hb
  have HA := Lib.hid ha
  have HB := Lib.hid hb
  have FA := Lib.hid (fit_take hfa)
  have FB := Lib.hid (fit_take hfb)
  have LA : Hid ((a.take 100).length ≤ 100) := Lib.hid (by rw [List.length_take]; omega)
  have LB : Hid ((b.take 100).length ≤ 100) := Lib.hid (by rw [List.length_take]; omega)
  clear ha hb hfa hfb
  go_enter Try.func5, Try.ntmps5
  go_wp2_with fail
  refine (shown_c w).mono ?_
  rintro e w1 ⟨rfl, b1⟩
  have HA := Lib.hid (RwsS.past HA.out b1)
  have HB := Lib.hid (RwsS.past HB.out b1)
  have B1 := Lib.hid b1
  clear b1
  go_wp2_with fail
  refine (cut_c a _ w1 HA.out).mono ?_
  rintro e w2 ⟨⟨u, rfl, h2⟩, rfl⟩
  obtain ⟨ou, cu, rfl, _, _, _⟩ := SlOf.open h2
  generalize a.take 100 = A at h2 FA LA ⊢
  have HA := Lib.hid h2
  clear h2
  go_wp2_with fail
  refine (cut_c b _ w1 HB.out).mono ?_
  rintro e w2 ⟨⟨u, rfl, h2⟩, rfl⟩
  obtain ⟨ov, cv, rfl, _, _, _⟩ := SlOf.open h2
  generalize b.take 100 = B at h2 FB LB ⊢
  have HB := Lib.hid h2
  clear h2
  go_wp2_with fail
  refine (clean_c A _ w1 HA.out).mono ?_
  rintro e w2 ⟨rfl, b2⟩
  have HA := Lib.hid (RwsS.past HA.out b2)
  have HB := Lib.hid (RwsS.past HB.out b2)
  have B2 := Lib.hid (B1.out.trans (b2.mono B1.out.size))
  clear b2
  cases hca : A.all cleanR with
  | false =>
    go_wp2
    go_ret
    exact ⟨rfl, B2.out⟩
  | true =>
  have CA := Lib.hid (clean_all hca)
  clear hca
  go_wp2_with fail
  refine (clean_c B _ w2 HB.out).mono ?_
  rintro e w3 ⟨rfl, b3⟩
  have HA := Lib.hid (RwsS.past HA.out b3)
  have HB := Lib.hid (RwsS.past HB.out b3)
  have B3 := Lib.hid (B2.out.trans (b3.mono B2.out.size))
  clear b3
  cases hcb : B.all cleanR with
  | false =>
    go_wp2
    go_ret
    exact ⟨rfl, B3.out⟩
  | true =>
  have CB := Lib.hid (clean_all hcb)
  clear hcb
  have HU : Hid ((if (riseL rwC A && riseL rwC B) = true then (bothL rwC A B).map Prod.snd else []) = (if (riseL rwC A && riseL rwC B) = true then unionL rwC A B else [])) := Lib.hid (by
    split
    · rename_i h
      simp only [Bool.and_eq_true] at h
      exact both_union rwC_tot (P := fun r => cleanR r = true) rwC_zero CA.out CB.out h.1 h.2
    · rfl)
  have HMi : Hid ((if (riseL rwC A && riseL rwC B) = true then (onlyA (bothL rwC A B)).map Prod.snd else []) = (if (riseL rwC A && riseL rwC B) = true then minusL rwC A B else [])) := Lib.hid (by
    split
    · rename_i h
      simp only [Bool.and_eq_true] at h
      exact both_minus rwC_tot (P := fun r => cleanR r = true) rwC_zero CA.out CB.out h.1 h.2
    · rfl)
  have P1 := Lib.hid (punion_c A B _ _ w3 (by have := LA.out; omega) (by have := LB.out; omega) HA.out HB.out FA.out.1 FB.out.1)
  have P2 := Lib.hid (fun (W : World) (hb : Below w3.heap.size w3 W) => runion_c A B _ _ W (by have := LA.out; have := LB.out; omega) (RwsS.past HA.out hb) (RwsS.past HB.out hb))
  have P3 := Lib.hid (fun (W : World) (hb : Below w3.heap.size w3 W) => pminus_c A B _ _ W (by have := LA.out; omega) (by have := LB.out; omega) (RwsS.past HA.out hb) (RwsS.past HB.out hb) FA.out.1 FB.out.1)
  have P4 := Lib.hid (fun (W : World) (hb : Below w3.heap.size w3 W) => rminus_c A B _ _ W (by have := LA.out; omega) (RwsS.past HA.out hb) (RwsS.past HB.out hb))
  rw [HU.out] at P1
  simp only [HMi.out] at P3
  generalize (if (riseL rwC A && riseL rwC B) = true then unionL rwC A B else []) = un at P1 P2
  generalize (if (riseL rwC A && riseL rwC B) = true then minusL rwC A B else []) = mi at P3 P4
  generalize (if (riseL rwC A && riseL rwC B) = true then (0 : Int) else 80) = er at P1 P2 P3 P4
  clear HU HMi CA CB FA FB LA LB
  go_wp2_with fail
  refine P1.out.mono ?_
  rintro e w4 ⟨⟨r1, rfl, h1⟩, b4⟩
  have H1 := Lib.hid h1
  have K4 := Lib.hid b4
  obtain ⟨o1, c1, rfl, _, _, _⟩ := SlOf.open h1
  clear h1 b4
  go_wp2_with fail
  refine (P2.out w4 K4.out).mono ?_
  rintro e w5 ⟨r2, rfl, h2, b5⟩
  have H1 := Lib.hid (RwsS.past H1.out b5)
  have H2 := Lib.hid h2
  have K5 := Lib.hid (K4.out.trans (b5.mono K4.out.size))
  obtain ⟨o2, c2, rfl, _, _, _⟩ := SlOf.open h2
  clear h2 b5
  go_wp2_with fail
  refine (P3.out w5 K5.out).mono ?_
  rintro e w6 ⟨⟨r3, rfl, h3⟩, b6⟩
  have H1 := Lib.hid (RwsS.past H1.out b6)
  have H2 := Lib.hid (RwsS.past H2.out b6)
  have H3 := Lib.hid h3
  have K6 := Lib.hid (K5.out.trans (b6.mono K5.out.size))
  obtain ⟨o3, c3, rfl, _, _, _⟩ := SlOf.open h3
  clear h3 b6
  go_wp2_with fail
  refine (P4.out w6 K6.out).mono ?_
  rintro e w7 ⟨r4, rfl, h4, b7⟩
  have H1 := Lib.hid (RwsS.past H1.out b7)
  have H2 := Lib.hid (RwsS.past H2.out b7)
  have H3 := Lib.hid (RwsS.past H3.out b7)
  have H4 := Lib.hid h4
  have K7 := Lib.hid (K6.out.trans (b7.mono K6.out.size))
  obtain ⟨o4, c4, rfl, _, _, _⟩ := SlOf.open h4
  clear h4 b7
  go_wp2_with fail
  refine (rsame_c un un _ _ w7 H1.out H2.out).mono ?_
  rintro e w8 ⟨rfl, b8⟩
  rw [(sameWs_iff un un).2 rfl]
  have H3 := Lib.hid (RwsS.past H3.out b8)
  have H4 := Lib.hid (RwsS.past H4.out b8)
  have K8 := Lib.hid (K7.out.trans (b8.mono K7.out.size))
  clear b8
  go_wp2_with fail
  refine (rsame_c mi mi _ _ w8 H3.out H4.out).mono ?_
  rintro e w9 ⟨rfl, b9⟩
  rw [(sameWs_iff mi mi).2 rfl]
  have K9 := Lib.hid (B3.out.trans ((K8.out.trans (b9.mono K8.out.size)).mono B3.out.size))
  clear b9
  go_wp2
  go_ret
  exact ⟨rfl, K9.out⟩
end Go.Proofs.Ytgfhgejgdgfjnaa
