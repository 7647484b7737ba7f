/- soriteslaw08.RelLaws: the walk. -/
import Derived.Test.YtgfhgejgdgfjnaaRlsets
import Derived.Test.YtgfhgejgdgfjnaaPbs
namespace Go.Proofs.Ytgfhgejgdgfjnaa
open Go.RowKit Go.Shelf

attribute [local go_sem] Oper.semAt_some

theorem fold_le : ∀ (b a : List Rw), (b.foldl (putL rwC) a).length ≤ a.length + b.length
  | [], a => by simp
  | t :: b, a => by
    have h1 := put_len (c := rwC) a t
    have h2 := fold_le b (putL rwC a t)
    rw [List.foldl_cons, List.length_cons]
    split at h1 <;> omega
structure Good (l : List Rw) : Prop where
  n : l.length ≤ 100
  r : riseL rwC l = true
  c : ∀ x ∈ l, cleanR x = true
  f : ∀ x ∈ l, FitW x
theorem Good.sort {l : List Rw} (hn : l.length ≤ 100) (hc : ∀ x ∈ l, cleanR x = true) (hf : ∀ x ∈ l, FitW x) : Good (sortL rwC l) := by
  have hm := fun x => sort_mem rwC_tot (P := fun r => cleanR r = true) rwC_zero hc x
  refine ⟨?_, sort_rise rwC_tot l, fun x hx => hc x ((hm x).1 hx), fun x hx => hf x ((hm x).1 hx)⟩
  have := fold_le l []
  unfold sortL
  simp only [List.length_nil] at this
  omega
theorem Good.minus {a b : List Rw} (ha : Good a) : Good (minusL rwC a b) :=
  ⟨Nat.le_trans (List.length_filter_le _ _) ha.n, rise_filter rwC_tot _ ha.r, fun x hx => ha.c x (List.mem_filter.1 hx).1, fun x hx => ha.f x (List.mem_filter.1 hx).1⟩
theorem not_in {a b : List Rw} {x : Rw} (h : x ∈ minusL rwC a b) : inL rwC b x = false := by simpa using (List.mem_filter.1 h).2
theorem union_cc {a b : List Rw} (v u : Value) (w : World) (ga : Good a) (gb : Good b) (h1 : RwsS w w.heap.size a v) (h2 : RwsS w w.heap.size b u) :
    Calls Try.prog 24 #[v, u] w fun e w' => (∃ r, e = .returned (.tuple #[r, .int .i64 0]) ∧ RwsS w' w'.heap.size (unionL rwC a b) r) ∧ Below w.heap.size w w' := by
  have h := punion_c a b v u w (by have := ga.n; omega) (by have := gb.n; omega) h1 h2 ga.f gb.f
  rw [ga.r, gb.r, both_union rwC_tot (P := fun r => cleanR r = true) rwC_zero ga.c gb.c ga.r gb.r] at h
  exact h
theorem minus_cc {a b : List Rw} (v u : Value) (w : World) (ga : Good a) (gb : Good b) (h1 : RwsS w w.heap.size a v) (h2 : RwsS w w.heap.size b u) :
    Calls Try.prog 26 #[v, u] w fun e w' => (∃ r, e = .returned (.tuple #[r, .int .i64 0]) ∧ RwsS w' w'.heap.size (minusL rwC a b) r) ∧ Below w.heap.size w w' := by
  have h := pminus_c a b v u w (by have := ga.n; omega) (by have := gb.n; omega) h1 h2 ga.f gb.f
  have e : (onlyA (bothL rwC a b)).map Prod.snd = minusL rwC a b := both_minus rwC_tot (P := fun r => cleanR r = true) rwC_zero ga.c gb.c ga.r gb.r
  rw [ga.r, gb.r, e] at h
  exact h

set_option linter.unusedSimpArgs false in
set_option maxRecDepth 100000 in
set_option maxHeartbeats 16000000 in
theorem relLaws_c (a b : List Rw) (va vb : Value) (w : World) (ha : RwsS w w.heap.size a va) (hb : RwsS w w.heap.size b vb) (hfa : ∀ r ∈ a, FitW r) (hfb : ∀ r ∈ b, FitW r) :
    Calls Try.prog 8 #[va, vb] w fun e w' => e = .returned (.bool true) ∧ Below w.heap.size w w' := by
  obtain ⟨oa, ca, rfl, _, _, _⟩ := SlOf.open ha
  obtain ⟨ob, cb, rfl, _, _, _⟩ := SlOf.open hb
  have HA := Lib.hid ha
  have HB := Lib.hid hb
  have FA := Lib.hid (fit_take hfa)
  have FB := Lib.hid (fit_take hfb)
  have LA : Hid ((a.take 100).length ≤ 100) := Lib.hid (by rw [List.length_take]; omega)
  have LB : Hid ((b.take 100).length ≤ 100) := Lib.hid (by rw [List.length_take]; omega)
  clear ha hb hfa hfb
  go_enter Try.func8, Try.ntmps8
  go_wp2_with fail
  refine (shown_c w).mono ?_
  rintro e w1 ⟨rfl, b1⟩
  have HA := Lib.hid (RwsS.past HA.out b1)
  have HB := Lib.hid (RwsS.past HB.out b1)
  have B1 := Lib.hid b1
  clear b1
  go_wp2_with fail
  refine (cut_c a _ w1 HA.out).mono ?_
  rintro e w2 ⟨⟨u, rfl, h2⟩, rfl⟩
  obtain ⟨ou, cu, rfl, _, _, _⟩ := SlOf.open h2
  generalize a.take 100 = A at h2 FA LA ⊢
  have HA := Lib.hid h2
  clear h2
  go_wp2_with fail
  refine (cut_c b _ w1 HB.out).mono ?_
  rintro e w2 ⟨⟨u, rfl, h2⟩, rfl⟩
  obtain ⟨ov, cv, rfl, _, _, _⟩ := SlOf.open h2
  generalize b.take 100 = B at h2 FB LB ⊢
  have HB := Lib.hid h2
  clear h2
  go_wp2_with fail
  refine (clean_c A _ w1 HA.out).mono ?_
  rintro e w2 ⟨rfl, b2⟩
  have HA := Lib.hid (RwsS.past HA.out b2)
  have HB := Lib.hid (RwsS.past HB.out b2)
  have B2 := Lib.hid (B1.out.trans (b2.mono B1.out.size))
  clear b2
  cases hca : A.all cleanR with
  | false =>
    go_wp2
    go_ret
    exact ⟨rfl, B2.out⟩
  | true =>
  have CA := Lib.hid (clean_all hca)
  clear hca
  go_wp2_with fail
  refine (clean_c B _ w2 HB.out).mono ?_
  rintro e w3 ⟨rfl, b3⟩
  have HA := Lib.hid (RwsS.past HA.out b3)
  have HB := Lib.hid (RwsS.past HB.out b3)
  have B3 := Lib.hid (B2.out.trans (b3.mono B2.out.size))
  clear b3
  cases hcb : B.all cleanR with
  | false =>
    go_wp2
    go_ret
    exact ⟨rfl, B3.out⟩
  | true =>
  have CB := Lib.hid (clean_all hcb)
  clear hcb
  have BB := B3
  have GA := Lib.hid (Good.sort LA.out CA.out FA.out.1)
  have GB := Lib.hid (Good.sort LB.out CB.out FB.out.1)
  have SA := Lib.hid (fun (W : World) (h : RwsS W W.heap.size A (.slice ou A.length cu)) => psort_c A _ W h FA.out.2 FA.out.1 CA.out)
  have SB := Lib.hid (fun (W : World) (h : RwsS W W.heap.size B (.slice ov B.length cv)) => psort_c B _ W h FB.out.2 FB.out.1 CB.out)
  generalize sortL rwC A = A1 at GA SA
  generalize sortL rwC B = B1' at GB SB
  clear FA FB LA LB CA CB
  have EY : Hid (unionL rwC B1' A1 = unionL rwC A1 B1') := Lib.hid (union_comm rwC_tot (P := fun r => cleanR r = true) rwC_zero GB.out.c GA.out.c GB.out.r GA.out.r)
  have EU : Hid (unionL rwC (minusL rwC A1 B1') B1' = unionL rwC A1 B1') := Lib.hid (union_minus rwC_tot (P := fun r => cleanR r = true) rwC_zero GA.out.c GB.out.c GA.out.r GB.out.r)
  have EL : Hid ((unionL rwC A1 B1').length = A1.length + (minusL rwC B1' A1).length) := Lib.hid (union_len rwC_tot (P := fun r => cleanR r = true) rwC_zero GA.out.c GB.out.c GA.out.r GB.out.r)
  have ER : Hid (riseL rwC (unionL rwC A1 B1') = true) := Lib.hid (union_rise rwC_tot _ GA.out.r)
  have ES : Hid (sortL rwC A1 = A1) := Lib.hid (sort_same rwC_tot (P := fun r => cleanR r = true) rwC_zero GA.out.c GA.out.r)
  have GZ : Hid (Good (minusL rwC A1 B1')) := Lib.hid GA.out.minus
  have NZ : Hid (∀ x ∈ minusL rwC A1 B1', inL rwC B1' x = false) := Lib.hid (fun x hx => not_in hx)
  have GW : Hid ((minusL rwC B1' A1).length ≤ 100) := Lib.hid (GB.out.minus (b := A1)).n
  have M1 := Lib.hid (fun (v u : Value) (W : World) (h1 : RwsS W W.heap.size A1 v) (h2 : RwsS W W.heap.size B1' u) => union_cc v u W GA.out GB.out h1 h2)
  have M2 := Lib.hid (fun (v u : Value) (W : World) (h1 : RwsS W W.heap.size B1' v) (h2 : RwsS W W.heap.size A1 u) => union_cc v u W GB.out GA.out h1 h2)
  have M3 := Lib.hid (fun (v u : Value) (W : World) (h1 : RwsS W W.heap.size A1 v) (h2 : RwsS W W.heap.size B1' u) => minus_cc v u W GA.out GB.out h1 h2)
  have M4 := Lib.hid (fun (v u : Value) (W : World) (h1 : RwsS W W.heap.size B1' v) (h2 : RwsS W W.heap.size A1 u) => minus_cc v u W GB.out GA.out h1 h2)
  have M5 := Lib.hid (fun (v u : Value) (W : World) (h1 : RwsS W W.heap.size (minusL rwC A1 B1') v) (h2 : RwsS W W.heap.size B1' u) => union_cc v u W GZ.out GB.out h1 h2)
  simp only [EY.out] at M2
  simp only [EU.out] at M5
  generalize unionL rwC A1 B1' = X at M1 M2 M5 ER EL
  generalize minusL rwC A1 B1' = Z at M3 M5 GZ NZ
  generalize minusL rwC B1' A1 = Wm at M4 EL GW
  clear EY EU
  go_wp2_with fail
  refine (SA.out w3 HA.out).mono ?_
  rintro e w21 ⟨r21, rfl, h21, b21⟩
  obtain ⟨oo21, cc21, rfl, _, _, _⟩ := SlOf.open h21
  have HN21 := Lib.hid h21
  clear h21
  have HA := Lib.hid (RwsS.past HA.out b21)
  have HB := Lib.hid (RwsS.past HB.out b21)
  have BB := Lib.hid (BB.out.trans (b21.mono BB.out.size))
  clear b21
  have HS := HN21
  go_wp2_with fail
  refine (SB.out w21 HB.out).mono ?_
  rintro e w22 ⟨r22, rfl, h22, b22⟩
  obtain ⟨oo22, cc22, rfl, _, _, _⟩ := SlOf.open h22
  have HN22 := Lib.hid h22
  clear h22
  have HB := Lib.hid (RwsS.past HB.out b22)
  have HS := Lib.hid (RwsS.past HS.out b22)
  have BB := Lib.hid (BB.out.trans (b22.mono BB.out.size))
  clear b22
  have HT := HN22
  go_wp2_with fail
  refine (M1.out _ _ w22 HS.out HT.out).mono ?_
  rintro e w23 ⟨⟨r23, rfl, h23⟩, b23⟩
  obtain ⟨oo23, cc23, rfl, _, _, _⟩ := SlOf.open h23
  have HN23 := Lib.hid h23
  clear h23
  have HS := Lib.hid (RwsS.past HS.out b23)
  have HT := Lib.hid (RwsS.past HT.out b23)
  have BB := Lib.hid (BB.out.trans (b23.mono BB.out.size))
  clear b23
  have HX := HN23
  go_wp2_with fail
  refine (M2.out _ _ w23 HT.out HS.out).mono ?_
  rintro e w24 ⟨⟨r24, rfl, h24⟩, b24⟩
  obtain ⟨oo24, cc24, rfl, _, _, _⟩ := SlOf.open h24
  have HN24 := Lib.hid h24
  clear h24
  have HS := Lib.hid (RwsS.past HS.out b24)
  have HT := Lib.hid (RwsS.past HT.out b24)
  have HX := Lib.hid (RwsS.past HX.out b24)
  have BB := Lib.hid (BB.out.trans (b24.mono BB.out.size))
  clear b24
  have HY := HN24
  go_wp2_with fail
  refine (M3.out _ _ w24 HS.out HT.out).mono ?_
  rintro e w25 ⟨⟨r25, rfl, h25⟩, b25⟩
  obtain ⟨oo25, cc25, rfl, _, _, _⟩ := SlOf.open h25
  have HN25 := Lib.hid h25
  clear h25
  have HS := Lib.hid (RwsS.past HS.out b25)
  have HT := Lib.hid (RwsS.past HT.out b25)
  have HX := Lib.hid (RwsS.past HX.out b25)
  have HY := Lib.hid (RwsS.past HY.out b25)
  have BB := Lib.hid (BB.out.trans (b25.mono BB.out.size))
  clear b25
  have HZ := HN25
  go_wp2_with fail
  refine (M4.out _ _ w25 HT.out HS.out).mono ?_
  rintro e w26 ⟨⟨r26, rfl, h26⟩, b26⟩
  obtain ⟨oo26, cc26, rfl, _, _, _⟩ := SlOf.open h26
  have HN26 := Lib.hid h26
  clear h26
  have HS := Lib.hid (RwsS.past HS.out b26)
  have HT := Lib.hid (RwsS.past HT.out b26)
  have HX := Lib.hid (RwsS.past HX.out b26)
  have HY := Lib.hid (RwsS.past HY.out b26)
  have HZ := Lib.hid (RwsS.past HZ.out b26)
  have BB := Lib.hid (BB.out.trans (b26.mono BB.out.size))
  clear b26
  have HW := HN26
  have nA := GA.out.n
  have nW := GW.out
  have wl : IntKind.i64.wrap ((A1.length : Int) + (Wm.length : Int)) = (A1.length : Int) + (Wm.length : Int) := by rw [IntKind.wrap_i64]; omega
  go_wp2_with fail
  refine (M5.out _ _ w26 HZ.out HT.out).mono ?_
  rintro e w27 ⟨⟨r27, rfl, h27⟩, b27⟩
  obtain ⟨oo27, cc27, rfl, _, _, _⟩ := SlOf.open h27
  have HN27 := Lib.hid h27
  clear h27
  have HS := Lib.hid (RwsS.past HS.out b27)
  have HT := Lib.hid (RwsS.past HT.out b27)
  have HX := Lib.hid (RwsS.past HX.out b27)
  have HY := Lib.hid (RwsS.past HY.out b27)
  have HZ := Lib.hid (RwsS.past HZ.out b27)
  have HW := Lib.hid (RwsS.past HW.out b27)
  have BB := Lib.hid (BB.out.trans (b27.mono BB.out.size))
  clear b27
  have HU := HN27
  go_wp2_with fail
  refine (prise_c A1 _ w27 HS.out).mono ?_
  rintro e w28 ⟨rfl, b28⟩
  rw [GA.out.r]
  have HS := Lib.hid (RwsS.past HS.out b28)
  have HT := Lib.hid (RwsS.past HT.out b28)
  have HX := Lib.hid (RwsS.past HX.out b28)
  have HY := Lib.hid (RwsS.past HY.out b28)
  have HZ := Lib.hid (RwsS.past HZ.out b28)
  have HW := Lib.hid (RwsS.past HW.out b28)
  have HU := Lib.hid (RwsS.past HU.out b28)
  have BB := Lib.hid (BB.out.trans (b28.mono BB.out.size))
  clear b28
  go_wp2_with fail
  refine (prise_c X _ w28 HX.out).mono ?_
  rintro e w29 ⟨rfl, b29⟩
  rw [ER.out]
  have HS := Lib.hid (RwsS.past HS.out b29)
  have HT := Lib.hid (RwsS.past HT.out b29)
  have HX := Lib.hid (RwsS.past HX.out b29)
  have HY := Lib.hid (RwsS.past HY.out b29)
  have HZ := Lib.hid (RwsS.past HZ.out b29)
  have HW := Lib.hid (RwsS.past HW.out b29)
  have HU := Lib.hid (RwsS.past HU.out b29)
  have BB := Lib.hid (BB.out.trans (b29.mono BB.out.size))
  clear b29
  go_wp2
  have hZ := HZ.out
  obtain ⟨oz, cz, ez, hcz, hmz, SZ⟩ := SlOf.open hZ
  cases ez
  have nZ := GZ.out.n
  clear hZ
  go_loopw [17] (fun i wr => ∃ k : Nat, k ≤ Z.length ∧ i = .int .i64 k ∧ Below w29.heap.size w29 wr) (fun i _ => Z.length - (intOf i).toNat)
  case atStart => exact ⟨0, Nat.zero_le _, rfl, Below.refl _ _⟩
  case round =>
    obtain ⟨k, hk, rfl, hB⟩ := hrel
    have hBs := hB.size
    have HBr := Lib.hid hB
    by_cases hlt : k < Z.length
    · have hlt' : (k : Int) < (Z.length : Int) := by omega
      have hk0 : (0 : Int) ≤ (k : Int) := by omega
      obtain ⟨x, hx⟩ : ∃ x, Z[k]? = some x := ⟨Z[k], List.getElem?_eq_getElem hlt⟩
      obtain ⟨p, p3, q3, rfl, ha, Hx, c0, _⟩ := rw_at SZ hB hx
      have hal : (p.add k).block < wr.heap.size := by rw [addBlock]; omega
      have HP := Lib.hid (phas_c B1' x _ _ wr (by have := GB.out.n; omega) (RwsS.past HT.out hB) Hx.out)
      rw [GB.out.r, NZ.out x (List.mem_of_getElem? hx)] at HP
      clear hx Hx hB
      go_wp2_with fail
      refine HP.out.mono ?_
      rintro e wy ⟨rfl, by'⟩
      have HBy := Lib.hid (HBr.out.trans (by'.mono hBs))
      clear by'
      go_wp2
      go_roundw
      case rel => exact ⟨k + 1, hlt, by go_num, HBy.out⟩
      case measure => simp [intOf]; omega
    · have hlt' : ¬ (k : Int) < (Z.length : Int) := by omega
      have HS := Lib.hid (RwsS.past HS.out HBr.out)
      have HX := Lib.hid (RwsS.past HX.out HBr.out)
      have HY := Lib.hid (RwsS.past HY.out HBr.out)
      have HU := Lib.hid (RwsS.past HU.out HBr.out)
      have BB := Lib.hid (BB.out.trans (HBr.out.mono BB.out.size))
      have HP := Lib.hid (psort_c A1 _ wr HS.out (by have := GA.out.n; omega) GA.out.f GA.out.c)
      rw [ES.out] at HP
      clear hB hBs
      go_wp2_with fail
      refine HP.out.mono ?_
      rintro e v1 ⟨r1, rfl, h1, b1⟩
      obtain ⟨q1, d1, rfl, _, _, _⟩ := SlOf.open h1
      have H1 := Lib.hid h1
      have HS := Lib.hid (RwsS.past HS.out b1)
      have HX := Lib.hid (RwsS.past HX.out b1)
      have HY := Lib.hid (RwsS.past HY.out b1)
      have HU := Lib.hid (RwsS.past HU.out b1)
      have BB := Lib.hid (BB.out.trans (b1.mono BB.out.size))
      clear b1 h1
      go_wp2_with fail
      refine (rsame_c A1 A1 _ _ v1 H1.out HS.out).mono ?_
      rintro e v2 ⟨rfl, b2⟩
      rw [(sameWs_iff A1 A1).2 rfl]
      have HX := Lib.hid (RwsS.past HX.out b2)
      have HY := Lib.hid (RwsS.past HY.out b2)
      have HU := Lib.hid (RwsS.past HU.out b2)
      have BB := Lib.hid (BB.out.trans (b2.mono BB.out.size))
      clear b2
      go_wp2_with fail
      refine (rsame_c X X _ _ v2 HX.out HY.out).mono ?_
      rintro e v3 ⟨rfl, b3⟩
      rw [(sameWs_iff X X).2 rfl]
      have HX := Lib.hid (RwsS.past HX.out b3)
      have HU := Lib.hid (RwsS.past HU.out b3)
      have BB := Lib.hid (BB.out.trans (b3.mono BB.out.size))
      clear b3
      go_wp2_with fail
      refine (rsame_c X X _ _ v3 HX.out HU.out).mono ?_
      rintro e v4 ⟨rfl, b4⟩
      rw [(sameWs_iff X X).2 rfl]
      have BB := Lib.hid (BB.out.trans (b4.mono BB.out.size))
      clear b4
      have hel : (X.length : Int) = (A1.length : Int) + (Wm.length : Int) := by have := EL.out; omega
      go_wp2
      go_ret
      exact ⟨rfl, BB.out⟩
end Go.Proofs.Ytgfhgejgdgfjnaa
