/- soritesref05.SameInts, by itself (XYpl's proof, for the seats of stage 12). -/
import Derived.Test.YtiljpacmkmmlcaaSl
import Derived.BigQuiet
import Derived.Deep.QuietTactic
set_option linter.unusedSimpArgs false
set_option linter.unusedVariables false
namespace Go.Proofs.Ytiljpacmkmmlcaa
open Go.RowKit

theorem below_drewNC {B n : Nat} {W W' : World} (h : Below B W W') : Below B W (W'.drewN n) := ⟨h.os, h.tape, h.output, h.size, h.block⟩
theorem drop_intC {l : List Int} {k : Nat} {t : Int} (h : l[k]? = some t) : l.drop k = t :: l.drop (k + 1) := by
  rw [List.drop_eq_getElem_cons (List.getElem?_eq_some_iff.1 h).1, (List.getElem?_eq_some_iff.1 h).2]
set_option maxRecDepth 100000 in
set_option maxHeartbeats 4000000 in
theorem sameIntsC_c (l m : List Int) (v u : Value) (w : World) (h1 : SlOf w w.heap.size 1 IntC l v) (h2 : SlOf w w.heap.size 1 IntC m u) :
    Calls Try.prog 35 #[v, u] w fun e w' => e = .returned (.bool (decide (l = m))) ∧ Below w.heap.size w w' := by
  obtain ⟨o1, k1, rfl, _, _, S1⟩ := SlOf.open h1
  obtain ⟨o2, k2, rfl, _, _, S2⟩ := SlOf.open h2
  have HB0 : Hid (Below w.heap.size w w) := Lib.hid (Below.refl _ _)
  clear h1 h2
  by_cases hl : l.length = m.length
  · have hl' : ((l.length : Int) != (m.length : Int)) = false := by simp [hl]
    have Hl := Lib.hid hl
    clear hl
    go_enter Try.func35, Try.ntmps35
    go_wp2
    go_loopw [5] (fun i wr => ∃ k : Nat, k ≤ l.length ∧ i = .int .i64 k ∧ (l = m ↔ l.drop k = m.drop k) ∧ Below w.heap.size w wr) (fun i _ => l.length - (intOf i).toNat)
    case atStart => exact ⟨0, Nat.zero_le _, rfl, by simp, HB0.out⟩
    case round =>
      obtain ⟨k, hk, rfl, hr, hB⟩ := hrel
      have Hr := Lib.hid hr
      clear hr
      by_cases hlt : k < l.length
      · have hlt' : (k : Int) < (l.length : Int) := by omega
        have hlm : k < m.length := by have := Hl.out; omega
        have hlm' : (k : Int) < (m.length : Int) := by omega
        obtain ⟨x, hx⟩ : ∃ x, l[k]? = some x := ⟨l[k], List.getElem?_eq_getElem hlt⟩
        obtain ⟨y, hy⟩ : ∃ y, m[k]? = some y := ⟨m[k], List.getElem?_eq_getElem hlm⟩
        obtain ⟨a, rfl, ha, _, c0⟩ := int_at S1 hB hx
        obtain ⟨b, rfl, hb, _, d0⟩ := int_at S2 hB hy
        have Hst : Hid (l.drop k = m.drop k ↔ x = y ∧ l.drop (k + 1) = m.drop (k + 1)) := Lib.hid (by rw [drop_intC hx, drop_intC hy]; simp)
        clear hx hy
        have g1 : decide (0 ≤ (k : Int)) = true := by simp
        have g2 : decide ((k : Int) < (l.length : Int)) = true := by simpa using hlt
        have g3 : decide ((k : Int) < (m.length : Int)) = true := by simpa using hlm
        cases hxy : (x != y) with
        | true =>
          have Hz : Hid (¬ l = m) := Lib.hid fun e => by
            have := (Hst.out.1 (Hr.out.1 e)).1
            simp [this] at hxy
          go_wp2_with fail
          go_quiet (fail)
          go_wp2
          go_ret
          exact ⟨by rw [decide_eq_false Hz.out]; rfl, below_drewNC hB⟩
        | false =>
          have Hz : Hid (l = m ↔ l.drop (k + 1) = m.drop (k + 1)) := Lib.hid (Hr.out.trans (Hst.out.trans ⟨fun h => h.2, fun h => ⟨by simpa using hxy, h⟩⟩))
          go_wp2_with fail
          go_quiet (fail)
          go_wp2
          go_roundw
          case rel => exact ⟨k + 1, by omega, by go_num, Hz.out, below_drewNC hB⟩
          case measure => simp [intOf]; omega
      · have hlt' : ¬ (k : Int) < (l.length : Int) := by omega
        have Hz : Hid (l = m) := Lib.hid (Hr.out.2 (by have := Hl.out; rw [List.drop_of_length_le (by omega), List.drop_of_length_le (by omega)]))
        go_wp2
        go_ret
        exact ⟨by rw [decide_eq_true Hz.out]; rfl, hB⟩
  · have hl' : ((l.length : Int) != (m.length : Int)) = true := by simp; omega
    have Hz : Hid (¬ l = m) := Lib.hid fun e => hl (by rw [e])
    clear hl
    go_enter Try.func35, Try.ntmps35
    go_wp2
    go_ret
    exact ⟨by rw [decide_eq_false Hz.out]; rfl, HB0.out⟩

end Go.Proofs.Ytiljpacmkmmlcaa
