/- cover.Serves, cover.Which. -/
import Derived.Test.YtiljpacmkmmlcaaWt
set_option linter.unusedSimpArgs false
set_option linter.unusedVariables false
namespace Go.Proofs.Ytiljpacmkmmlcaa
open Go.RowKit

set_option linter.unusedVariables false in
set_option maxRecDepth 100000 in
set_option maxHeartbeats 4000000 in
theorem serves_c (o s : List Int) (v u : Value) (w : World) (hs : s.length ≤ 1000000) (h1 : SlOf w w.heap.size 1 IntC o v) (h2 : SlOf w w.heap.size 1 IntC s u) :
    Calls Try.prog 12 #[v, u] w fun e w' => e = .returned (.bool (servesL o s)) ∧ Below w.heap.size w w' := by
  obtain ⟨o1, cap1, rfl, hc1, hm1, _⟩ := SlOf.open h1
  obtain ⟨o2, cap2, rfl, hc2, hm2, _⟩ := SlOf.open h2
  by_cases hl : o.length < s.length
  · have hl' : ¬ (o.length : Int) ≥ (s.length : Int) := by omega
    have Hz : Hid (servesL o s = false) := Lib.hid (by unfold servesL; rw [decide_eq_false (by omega)]; rfl)
    clear h1 h2 hl
    go_enter Try.func12, Try.ntmps12
    go_wp2
    go_ret
    exact ⟨by rw [Hz.out]; rfl, Below.refl _ _⟩
  · have hl' : (o.length : Int) ≥ (s.length : Int) := by omega
    have hle : (s.length : Int) ≤ (cap1 : Int) := by omega
    have hcut := h1.cutI (n := s.length)
    have hlen : (o.take s.length).length = s.length := by rw [List.length_take]; omega
    rw [hlen] at hcut
    have HA := Lib.hid (standingIn_c (o.take s.length) (.slice o1 s.length cap1) w (by rw [hlen]; exact hs) hcut)
    have HB := Lib.hid (fun (W : World) (hb : Below w.heap.size w W) => standingIn_c s (.slice o2 s.length cap2) W hs (SlOf.int h2 hb hb.size))
    have HS : Hid (servesL o s = (withinL (o.take s.length) s && withinL s (o.take s.length))) := Lib.hid (by unfold servesL; rw [decide_eq_true (by omega)]; rfl)
    obtain ⟨p, hp⟩ : ∃ p, o.take s.length = p := ⟨_, rfl⟩
    rw [hp] at HA HS
    clear h1 h2 hl hcut hlen hp
    go_enter Try.func12, Try.ntmps12
    go_wp2_with fail
    refine HA.out.mono ?_
    rintro e w1 ⟨⟨b1, rfl, hb1, hm1'⟩, hbl1⟩
    have HM1 := Lib.hid hm1'
    have HBl1 := Lib.hid hbl1
    clear hm1' hbl1 HA
    go_wp2_with fail
    refine (HB.out w1 HBl1.out).mono ?_
    rintro e w2 ⟨⟨b2, rfl, hb2, hm2'⟩, hbl2⟩
    have HE := Lib.hid (mapsEqual_c p s b1 b2 _ _ w2 (World.ownsMap.kept HM1.out (row := none) ⟨hbl2.os, hbl2.tape, hbl2.output, hbl2.size, fun i hi _ => hbl2.block i hi⟩ (by simp)) hm2')
    have HBl2 := Lib.hid (HBl1.out.trans (hbl2.mono HBl1.out.size))
    clear hm2' hbl2 HB
    obtain ⟨r, hr⟩ : ∃ r, (withinL p s && withinL s p) = r := ⟨_, rfl⟩
    rw [hr] at HE HS
    clear hr
    go_wp2_with fail
    refine HE.out.mono ?_
    rintro e w3 ⟨rfl, hbl3⟩
    have HBl3 := Lib.hid (HBl2.out.trans (hbl3.mono HBl2.out.size))
    clear hbl3 HE
    go_wp2
    go_ret
    exact ⟨by rw [HS.out]; rfl, HBl3.out⟩
set_option linter.unusedVariables false in
set_option maxRecDepth 100000 in
set_option maxHeartbeats 4000000 in
theorem which_c (os : List (List Int)) (s : List Int) (v u : Value) (w : World) (hsl : s.length ≤ 1000000) (h1 : SetsS w w.heap.size os v) (h2 : SlOf w w.heap.size 1 IntC s u) :
    Calls Try.prog 14 #[v, u] w fun e w' => e = .returned (whichV (whichL os s)) ∧ Below w.heap.size w w' := by
  obtain ⟨o1, cap1, rfl, hc1, hm1, S1⟩ := SlOf.open h1
  have HH := Lib.hid (fun (o : List Int) (z : Value) (W : World) (hb : Below w.heap.size w W) (hz : SlOf W W.heap.size 1 IntC o z) => serves_c o s z u W hsl hz (SlOf.int h2 hb hb.size))
  obtain ⟨o2, cap2, rfl, _⟩ := SlOf.uni h2
  clear h1 h2
  go_enter Try.func14, Try.ntmps14
  go_wp2
  go_loopw [10] (fun iv wr => ∃ k : Nat, k ≤ os.length ∧ iv = .int .i64 (k : Int) ∧ Hid (∀ x ∈ os.take k, servesL x s = false) ∧ Hid (Below w.heap.size w wr)) (fun iv _ => os.length - (intOf iv).toNat)
  case atStart => exact ⟨0, Nat.zero_le _, rfl, Lib.hid (fun x hx => by simp at hx), Lib.hid (Below.refl _ _)⟩
  case round =>
    obtain ⟨k, hk, rfl, hr, HBl⟩ := hrel
    by_cases hlt : k < os.length
    · have hlt' : (k : Int) < (os.length : Int) := by omega
      obtain ⟨x, hx⟩ : ∃ x, os[k]? = some x := ⟨os[k], List.getElem?_eq_getElem hlt⟩
      obtain ⟨a, o3, c3, rfl, ha, hX, c0⟩ := set_at S1 HBl.out hx
      have hal : (a.add k).block < wr.heap.size := by rw [addBlock]; exact Nat.lt_of_lt_of_le ha HBl.out.size
      have HX := Lib.hid (HH.out x _ wr HBl.out hX)
      have Hx := Lib.hid hx
      clear hx hX
      go_wp2_with fail
      refine HX.out.mono ?_
      rintro e w1 ⟨rfl, hb1⟩
      have HB1 := Lib.hid (HBl.out.trans (hb1.mono HBl.out.size))
      clear hb1 HX
      cases hs : servesL x s with
      | true =>
        have Hz : Hid (whichL os s = some k) := Lib.hid (which_hit Hx.out hr.out hs)
        clear hs
        go_wp2
        go_ret2
        exact ⟨by rw [Hz.out]; rfl, HB1.out⟩
      | false =>
        have Hz : Hid (∀ y ∈ os.take (k + 1), servesL y s = false) := Lib.hid (fun y hy => by
          rw [List.take_add_one, Hx.out] at hy
          rcases List.mem_append.1 hy with hy | hy
          · exact hr.out y hy
          · rw [show y = x by simpa using hy]; exact hs)
        clear hs
        go_wp2
        go_roundw
        case rel => exact ⟨k + 1, hlt, by go_num, Hz, HB1⟩
        case measure => simp [intOf]; omega
    · have hlt' : ¬ (k : Int) < (os.length : Int) := by omega
      have Hz : Hid (whichL os s = none) := Lib.hid (which_miss fun x hx => hr.out x (by rw [List.take_of_length_le (by omega)]; exact hx))
      clear hr
      go_wp2
      go_ret2
      exact ⟨by rw [Hz.out]; rfl, HBl.out⟩
end Go.Proofs.Ytiljpacmkmmlcaa
