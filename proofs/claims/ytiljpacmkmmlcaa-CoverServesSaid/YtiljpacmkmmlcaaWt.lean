/- maps.Equal at sets of numbers. -/
import Derived.Test.YtiljpacmkmmlcaaWs
import Derived.Maps.Ext
import Derived.Maps.AppendAt
import Derived.Laws.IdiomRangeMap
import Derived.Deep.LoopGhost
set_option linter.unusedSimpArgs false
set_option linter.unusedVariables false
namespace Go.Proofs.Ytiljpacmkmmlcaa
open Go.RowKit Go.Maps

set_option linter.unusedSimpArgs false in
set_option maxRecDepth 100000 in
set_option maxHeartbeats 8000000 in
theorem mapsEqual_c (a b : List Int) (b1 b2 n1 n2 : Nat) (w : World) (h1 : SetM w b1 n1 a) (h2 : SetM w b2 n2 b) :
    Calls Try.prog 21 #[.map (some b1), .map (some b2)] w fun e w' => e = .returned (.bool (withinL a b && withinL b a)) ∧ Below w.heap.size w w' := by
  have l1 := fun ty => h1.len (t := 41) Try.underlying41 ty
  have l2 := fun ty => h2.len (t := 41) Try.underlying41 ty
  obtain ⟨es1, he1, hap, hkeys⟩ := World.ownsMap.entries h1 law_i
  obtain ⟨es2, he2, hap2, hkeys2⟩ := World.ownsMap.entries h2 law_i
  have HR := Lib.hid (sets_eq he1 he2 hap hap2 hkeys hkeys2)
  have hb2 := World.ownsMap.lt h2
  have H1 := Lib.hid h1
  have H2 := Lib.hid h2
  have HE1 := Lib.hid he1
  have HE2 := Lib.hid he2
  have HAp := Lib.hid hap
  have HKe := Lib.hid hkeys
  unfold SetM at h1 h2
  obtain ⟨D1, hD1⟩ : ∃ D1, setD a = D1 := ⟨_, rfl⟩
  obtain ⟨D2, hD2⟩ : ∃ D2, setD b = D2 := ⟨_, rfl⟩
  rw [hD1] at h1 l1
  rw [hD2] at h2 l2
  have HD1 := Lib.hid hD1
  have HD2 := Lib.hid hD2
  have HM1 := Lib.hid h1
  have HM2 := Lib.hid h2
  obtain ⟨r, hr⟩ : ∃ r, (withinL a b && withinL b a) = r := ⟨_, rfl⟩
  have HRes : Hid (Lib.equalFuncD (fun _ _ => true) (.map es1) D2 = r) := Lib.hid (by rw [← he1, ← hD2, HR.out]; exact hr)
  rw [hr]
  clear h1 h2 he1 he2 hap hap2 hkeys hkeys2 hD1 hD2 hr
  by_cases hsz : Maps.size D1 = Maps.size D2
  · go_enter Try.func21, Try.ntmps21
    go_wp2_with (first
      | (at_range; refine wpList_range_own _ rfl _ 41 rfl 3 42 law_i Try.underlying41 (unitElem (H := Unit)) b1 n1 _ rfl HM1.out ?_; intro w0 hrg0 hg0 hs0; have HRG0 := Lib.hid hrg0; have HG0 := Lib.hid hg0; clear hrg0 hg0)
      | go_in)
    go_frame
    go_loopw [17] (fun _ wr => ∃ (left : Lit → Bool) (cnt : Nat), Hid (wr.ranges Try.prog 3 (unitElem (H := Unit)) b1 w.heap.size n1 D1 left cnt) ∧ Hid (wr.ownsMap Try.prog 3 (unitElem (H := Unit)) b2 n2 D2) ∧ Hid (w.grownBy wr none) ∧ Hid (GoodAt (fun _ _ => true) es1 D2 left))
      (fun _ wr => wr.rangeLeft b1 w.heap.size)
    case atStart => exact ⟨_, _, HRG0, Lib.hid (HM2.out.kept HG0.out (by simp)), HG0, Lib.hid (by
      have h := good_start (eqd := fun _ _ => true) HKe.out D2
      rw [← HE1.out, HD1.out] at h
      exact h)⟩
    case round =>
      obtain ⟨left, cnt, hrg, h2r, hgw, G⟩ := hrel
      go_wp2_with (first
        | (at_next; refine wpList_next_ranges _ rfl _ rfl 3 law_i (unitElem (H := Unit)) (fun x : Int => .int .i64 x) (fun _ : Unit => .agg #[]) (fun key kl h => by obtain ⟨x, e, _⟩ := keyOf_int_inv Try.underlying3 h; exact ⟨x, e⟩) (fun v y h => ⟨(), (unitElem_inv h).1⟩) b1 w.heap.size n1 _ _ _ rfl hrg.out ?_ ?_)
        | go_in)
      · intro _ hl0
        go_wp2
        go_ret
        exact ⟨by rw [← HRes.out, all_good G.out hl0 (by rw [← HE1.out, HD1.out]; exact hsz)]; rfl, ⟨hgw.out.os, hgw.out.tape, hgw.out.output, hgw.out.size, fun i hi => hgw.out.block i hi (by simp)⟩⟩
      · intro x kl yd yp w3 cnt1 hkey hlx hv hat hrg1 hltc hg1 hs1 hen
        have HRG1 := Lib.hid hrg1
        have Hhat : Hid (∀ zd, (DataW.map es1).atKey kl zd = yd) := Lib.hid (by rw [← HE1.out, HD1.out]; exact hat)
        have HM3 := Lib.hid (h2r.out.kept hg1 (fun e => by have := Option.some.inj e; omega))
        have HGw : Hid (w.grownBy w3 none) := Lib.hid (hgw.out.andThen hg1 (fun j hj => by cases hj; exact Or.inl (Nat.le_refl _)))
        have Hlt := Lib.hid hltc
        have Hkey := Lib.hid hkey
        clear hrg1 hat hg1 hltc hkey hlx hv
        cases hh : Maps.has D2 kl with
        | false =>
          have Hbad : Hid (r = false) := Lib.hid (by
            rw [← HRes.out]
            exact bad_false HAp.out HKe.out Hhat.out (by unfold Lib.goodD; rw [hh]; rfl))
          go_wp2_with (first
            | (at_lookup; refine wpList_lookup_own_unit _ rfl _ _ 41 rfl 3 42 law_i Try.underlying41 (zeroS _) b2 n2 D2 rfl (HM3.out.alloc _) _ kl rfl Hkey.out ?_; rw [hh]; go_frame)
            | go_in)
          go_ret
          exact ⟨by rw [Hbad.out]; rfl, ⟨HGw.out.os, HGw.out.tape, HGw.out.output, Nat.le_trans HGw.out.size (by simp; omega), fun i hi => ((Below.heap_alloc _ _ i (by have := HGw.out.size; simp; omega)).trans (Below.heap_alloc _ _ i (by have := HGw.out.size; omega))).trans (HGw.out.block i hi (by simp))⟩⟩
        | true =>
          go_wp2_with (first
            | (at_lookup; refine wpList_lookup_own_unit _ rfl _ _ 41 rfl 3 42 law_i Try.underlying41 (zeroS _) b2 n2 D2 rfl (HM3.out.alloc _) _ kl rfl Hkey.out ?_; rw [hh]; go_frame)
            | go_in)
          have hgood : Lib.goodD (fun _ _ => true) D2 (kl, yd) = true := by unfold Lib.goodD; rw [hh]; rfl
          have hg2 : w3.grownBy ((w3.alloc (.cells #[] 42)).alloc (.cells #[] 42)) none := (World.grownBy_alloc _ _ _).trans (World.grownBy_alloc _ _ _)
          have hrg2 := HRG1.out.kept hg2 (by simp) (by simp)
          refine ⟨⟨_, cnt1, Lib.hid hrg2, Lib.hid (HM3.out.kept hg2 (by simp)), Lib.hid (HGw.out.andThen hg2 (fun j hj => by cases hj)), Lib.hid (good_step HAp.out HKe.out Hhat.out G.out hgood)⟩, ?_⟩
          rw [hrg2.left_eq, hrg.out.left_eq]
          exact Hlt.out
  · have hne : ¬ ((Maps.size D1 : Int) = (Maps.size D2 : Int)) := fun e => hsz (by exact_mod_cast e)
    have Hbad : Hid (r = false) := Lib.hid (by rw [← HRes.out]; exact sizes_false (by rw [← HE1.out, HD1.out]; exact hsz))
    go_enter Try.func21, Try.ntmps21
    go_wp2
    go_ret
    exact ⟨by rw [Hbad.out]; rfl, Below.refl _ _⟩
end Go.Proofs.Ytiljpacmkmmlcaa
