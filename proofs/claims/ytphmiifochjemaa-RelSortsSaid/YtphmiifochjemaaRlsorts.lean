/- soriteslaw08.RelSorts: the walk. -/
import Derived.Test.YtphmiifochjemaaPsh
import Derived.Test.YtphmiifochjemaaPad
import Derived.Test.YtphmiifochjemaaPbs
import Derived.Test.YtphmiifochjemaaRopen
namespace Go.Proofs.Ytphmiifochjemaa
open Go.RowKit Go.Shelf

attribute [local go_sem] Oper.semAt_some

theorem fitS_take {l : List Rw} (h : ∀ r ∈ l, FitW r) : (∀ r ∈ l.take 100, FitW r) ∧ (l.take 100).length ≤ 1000000 := ⟨fun r hr => h r (List.mem_of_mem_take hr), by rw [List.length_take]; omega⟩
theorem cleanS_all {l : List Rw} (h : l.all cleanR = true) : ∀ r ∈ l, cleanR r = true := List.all_eq_true.1 h
set_option linter.unusedSimpArgs false in
set_option maxRecDepth 100000 in
set_option maxHeartbeats 16000000 in
theorem relSorts_c (a : List Rw) (t : Rw) (va vt : Value) (w : World) (ha : RwsS w w.heap.size a va) (ht : SlOf w w.heap.size 3 VlC t vt) (hfa : ∀ r ∈ a, FitW r) (hft : FitW t) :
    Calls Try.prog 3 #[va, vt] w fun e w' => e = .returned (.bool true) ∧ Below w.heap.size w w' := by
  obtain ⟨oa, ca, rfl, _, _, _⟩ := SlOf.open ha
  obtain ⟨ot, ct, rfl, _, _, _⟩ := SlOf.open ht
  have HA := Lib.hid ha
  have HT := Lib.hid ht
  have FA := Lib.hid (fitS_take hfa)
  have FT := Lib.hid hft
  have LA : Hid ((a.take 100).length ≤ 100) := Lib.hid (by rw [List.length_take]; omega)
  clear ha ht hfa hft
  go_enter Try.func3, Try.ntmps3
  go_wp2_with fail
  refine (shown_c w).mono ?_
  rintro e w1 ⟨rfl, b1⟩
  have HA := Lib.hid (RwsS.past HA.out b1)
  have HT := Lib.hid (VlS.past HT.out b1)
  have B1 := Lib.hid b1
  clear b1
  go_wp2_with fail
  refine (cut_c a _ w1 HA.out).mono ?_
  rintro e w2 ⟨⟨u, rfl, h2⟩, rfl⟩
  obtain ⟨ou, cu, rfl, _, _, _⟩ := SlOf.open h2
  generalize a.take 100 = A at h2 FA LA ⊢
  have HA := Lib.hid h2
  clear h2
  go_wp2_with fail
  refine (clean_c A _ w1 HA.out).mono ?_
  rintro e w2 ⟨rfl, b2⟩
  have HA := Lib.hid (RwsS.past HA.out b2)
  have HT := Lib.hid (VlS.past HT.out b2)
  have B2 := Lib.hid (B1.out.trans (b2.mono B1.out.size))
  clear b2
  cases hca : A.all cleanR with
  | false =>
    go_wp2
    go_ret
    exact ⟨rfl, B2.out⟩
  | true =>
  have CA := Lib.hid (cleanS_all hca)
  clear hca
  go_wp2_with fail
  obtain ⟨W2, hW2⟩ : ∃ W, w2.alloc (.cells #[.slice ot t.length ct] 23) = W := ⟨_, rfl⟩
  obtain ⟨h2, b2⟩ := made_rows [t] [.slice ot t.length ct] hW2 rfl (by unfold maxLen; simp) (fun i r v hr hv => by
    cases i with
    | zero => cases hr; cases hv; exact HT.out
    | succ i => simp at hr)
  have HT := Lib.hid (VlS.past HT.out b2)
  have HA := Lib.hid (RwsS.past HA.out b2)
  have H2 := Lib.hid h2
  have B2' := Lib.hid (B2.out.trans (b2.mono B2.out.size))
  rw [hW2]
  clear h2 b2 hW2
  refine (clean_c [t] _ W2 H2.out).mono ?_
  rintro e w3 ⟨rfl, b3⟩
  have HA := Lib.hid (RwsS.past HA.out b3)
  have HT := Lib.hid (VlS.past HT.out b3)
  have B3 := Lib.hid (B2'.out.trans (b3.mono B2'.out.size))
  clear b3
  cases hcb : [t].all cleanR with
  | false =>
    go_wp2
    go_ret
    exact ⟨rfl, B3.out⟩
  | true =>
  have CT := Lib.hid (cleanS_all hcb t (List.mem_cons_self ..))
  clear hcb
  have HU : Hid ((if riseL rwC A = true then (bothL rwC A [t]).map Prod.snd else []) = (if riseL rwC A = true then putL rwC A t else [])) := Lib.hid (by
    split
    · rename_i h
      exact (both_put rwC_tot (P := fun r => cleanR r = true) rwC_zero CA.out CT.out h).1
    · rfl)
  have HN : Hid ((if riseL rwC A = true then newA (bothL rwC A [t]) else false) = (riseL rwC A && newL rwC A t)) := Lib.hid (by
    cases h : riseL rwC A with
    | false => rfl
    | true =>
      rw [if_pos rfl, Bool.true_and]
      exact (both_put rwC_tot (P := fun r => cleanR r = true) rwC_zero CA.out CT.out h).2)
  have P1 := Lib.hid (padd_c A t _ _ w3 (by have := LA.out; omega) HA.out HT.out FA.out.1 FT.out)
  have P2 := Lib.hid (fun (W : World) (hb : Below w3.heap.size w3 W) => radd_c A t _ _ W (by have := LA.out; omega) (RwsS.past HA.out hb) (VlS.past HT.out hb))
  have P3 := Lib.hid (fun (W : World) (hb : Below w3.heap.size w3 W) => phas_c A t _ _ W (by have := LA.out; omega) (RwsS.past HA.out hb) (VlS.past HT.out hb))
  have P4 := Lib.hid (fun (W : World) (hb : Below w3.heap.size w3 W) => rhas_c A t _ _ W (RwsS.past HA.out hb) (VlS.past HT.out hb))
  have P5 := Lib.hid (fun (W : World) (hb : Below w3.heap.size w3 W) => psort_c A _ W (RwsS.past HA.out hb) (by have := LA.out; omega) FA.out.1 CA.out)
  have P6 := Lib.hid (fun (W : World) (hb : Below w3.heap.size w3 W) => rsort_c A _ W (by have := LA.out; omega) (RwsS.past HA.out hb))
  rw [HU.out, HN.out] at P1
  generalize (if riseL rwC A = true then putL rwC A t else []) = un at P1 P2
  generalize (riseL rwC A && newL rwC A t) = nw at P1 P2
  generalize (riseL rwC A && inL rwC A t) = hh at P3 P4
  generalize (if riseL rwC A = true then (0 : Int) else 80) = er at P1 P2 P3 P4
  generalize sortL rwC A = so at P5 P6
  clear HU HN CA CT FA FT LA
  go_wp2_with fail
  refine P1.out.mono ?_
  rintro e w4 ⟨⟨r1, rfl, h1⟩, b4⟩
  have H1 := Lib.hid h1
  have K4 := Lib.hid b4
  obtain ⟨o1, c1, rfl, _, _, _⟩ := SlOf.open h1
  clear h1 b4
  go_wp2_with fail
  refine (P2.out w4 K4.out).mono ?_
  rintro e w5 ⟨r2, rfl, h2, b5⟩
  have H1 := Lib.hid (RwsS.past H1.out b5)
  have H2 := Lib.hid h2
  have K5 := Lib.hid (K4.out.trans (b5.mono K4.out.size))
  obtain ⟨o2, c2, rfl, _, _, _⟩ := SlOf.open h2
  clear h2 b5
  go_wp2_with fail
  refine (P3.out w5 K5.out).mono ?_
  rintro e w6 ⟨rfl, b6⟩
  have H1 := Lib.hid (RwsS.past H1.out b6)
  have H2 := Lib.hid (RwsS.past H2.out b6)
  have K6 := Lib.hid (K5.out.trans (b6.mono K5.out.size))
  clear b6
  go_wp2_with fail
  refine (P4.out w6 K6.out).mono ?_
  rintro e w7 ⟨rfl, b7⟩
  have H1 := Lib.hid (RwsS.past H1.out b7)
  have H2 := Lib.hid (RwsS.past H2.out b7)
  have K7 := Lib.hid (K6.out.trans (b7.mono K6.out.size))
  clear b7
  go_wp2_with fail
  refine (P5.out w7 K7.out).mono ?_
  rintro e w8 ⟨r3, rfl, h3, b8⟩
  have H1 := Lib.hid (RwsS.past H1.out b8)
  have H2 := Lib.hid (RwsS.past H2.out b8)
  have H3 := Lib.hid h3
  have K8 := Lib.hid (K7.out.trans (b8.mono K7.out.size))
  obtain ⟨o3, c3, rfl, _, _, _⟩ := SlOf.open h3
  clear h3 b8
  go_wp2_with fail
  refine (P6.out w8 K8.out).mono ?_
  rintro e w9 ⟨r4, rfl, h4, b9⟩
  have H1 := Lib.hid (RwsS.past H1.out b9)
  have H2 := Lib.hid (RwsS.past H2.out b9)
  have H3 := Lib.hid (RwsS.past H3.out b9)
  have H4 := Lib.hid h4
  have K9 := Lib.hid (K8.out.trans (b9.mono K8.out.size))
  obtain ⟨o4, c4, rfl, _, _, _⟩ := SlOf.open h4
  clear h4 b9
  go_wp2_with fail
  refine (rsame_c so so _ _ w9 H3.out H4.out).mono ?_
  rintro e wA ⟨rfl, bA⟩
  rw [(sameWs_iff so so).2 rfl]
  have H1 := Lib.hid (RwsS.past H1.out bA)
  have H2 := Lib.hid (RwsS.past H2.out bA)
  have KA' := Lib.hid (K9.out.trans (bA.mono K9.out.size))
  clear bA
  go_wp2_with fail
  refine (rsame_c un un _ _ wA H1.out H2.out).mono ?_
  rintro e wB ⟨rfl, bB⟩
  rw [(sameWs_iff un un).2 rfl]
  have KB := Lib.hid (B3.out.trans ((KA'.out.trans (bB.mono KA'.out.size)).mono B3.out.size))
  clear bB
  go_wp2
  go_ret
  exact ⟨rfl, KB.out⟩
end Go.Proofs.Ytphmiifochjemaa
