/- soriteslaw12.once. -/
import Derived.Test.YtiljpacmkmmlcaaCsm
import Derived.Test.YtiljpacmkmmlcaaCva
set_option linter.unusedSimpArgs false
set_option linter.unusedVariables false
namespace Go.Proofs.Ytiljpacmkmmlcaa
open Go.RowKit

def onceL (l : List Int) : Bool := decide l.Nodup
def NodTo (l : List Int) (i : Nat) : Prop := (l.take i).Nodup
theorem nod_bad {l : List Int} {i k : Nat} {x : Int} (hk : k < i) (h1 : l[i]? = some x) (h2 : l[k]? = some x) : onceL l = false := by
  unfold onceL
  refine decide_eq_false fun h => ?_
  obtain ⟨a, e1⟩ := List.getElem?_eq_some_iff.1 h1
  obtain ⟨b, e2⟩ := List.getElem?_eq_some_iff.1 h2
  have := (List.nodup_iff_pairwise_ne.1 h)
  have h3 := List.pairwise_iff_getElem.1 this k i b a hk
  rw [e1, e2] at h3
  exact h3 rfl
theorem nod_next {l : List Int} {i : Nat} {x : Int} (hx : l[i]? = some x) (h : NodTo l i) (hn : ∀ k y, k < i → l[k]? = some y → y ≠ x) : NodTo l (i + 1) := by
  unfold NodTo
  rw [List.take_add_one, hx, List.nodup_append]
  refine ⟨h, by simp, fun a ha b hb e => ?_⟩
  obtain ⟨j, hj⟩ := List.mem_iff_getElem?.1 ha
  rw [List.getElem?_take] at hj
  have hb' : b = x := by simpa using hb
  split at hj
  · rename_i h5
    exact hn j a h5 hj (e.trans hb')
  · cases hj
/-- Nothing but draws. -/
def QW (w w' : World) : Prop := ∃ m, w' = w.drewN m
theorem QW.refl (w : World) : QW w w := ⟨0, rfl⟩
theorem QW.step {w w' : World} (h : QW w w') (n : Nat) : QW w (w'.drewN n) := by
  obtain ⟨m, rfl⟩ := h
  exact ⟨m + n, World.drewN_drewN _ _ _⟩
theorem QW.below {w w' : World} (h : QW w w') : Below w.heap.size w w' := by
  obtain ⟨m, rfl⟩ := h
  exact below_drewNC (Below.refl _ _)
set_option linter.unusedVariables false in
set_option maxRecDepth 100000 in
set_option maxHeartbeats 8000000 in
theorem once12_c (l : List Int) (v : Value) (w : World) (h : SlOf w w.heap.size 1 IntC l v) :
    Calls Try.prog 11 #[v] w fun e w' => e = .returned (.bool (onceL l)) ∧ QW w w' := by
  obtain ⟨o1, cap1, rfl, hc1, hm1, S1⟩ := SlOf.open h
  clear h
  go_enter Try.func11, Try.ntmps11
  go_wp2
  go_loopw [3] (fun iv wr => ∃ i : Nat, i ≤ l.length ∧ iv = .int .i64 (i : Int) ∧ Hid (NodTo l i) ∧ Hid (QW w wr)) (fun iv _ => l.length - (intOf iv).toNat)
  case atStart => exact ⟨0, Nat.zero_le _, rfl, Lib.hid (by unfold NodTo; simp), Lib.hid (QW.refl w)⟩
  case round =>
    obtain ⟨i, hi, rfl, HN, HB⟩ := hrel
    by_cases hlt : i < l.length
    · have hlt' : (i : Int) < (l.length : Int) := by omega
      have hi0 : (0 : Int) ≤ (i : Int) := by omega
      obtain ⟨x, hx⟩ : ∃ x, l[i]? = some x := ⟨l[i], List.getElem?_eq_getElem hlt⟩
      have Hx := Lib.hid hx
      clear hx
      go_wp2
      go_loopw [4] (fun kv wr => ∃ k : Nat, k ≤ i ∧ kv = .int .i64 (k : Int) ∧ Hid (∀ j y, j < k → l[j]? = some y → y ≠ x) ∧ Hid (QW w wr)) (fun kv _ => i - (intOf kv).toNat)
      case atStart => exact ⟨0, Nat.zero_le _, rfl, Lib.hid (fun j y hj => by omega), HB⟩
      case round =>
        obtain ⟨k, hk, rfl, HK, HBk⟩ := hrel
        by_cases hki : k < i
        · have hki' : (k : Int) < (i : Int) := by omega
          have hk0 : (0 : Int) ≤ (k : Int) := by omega
          have hkl : k < l.length := by omega
          have hkl' : (k : Int) < (l.length : Int) := by omega
          obtain ⟨y, hy⟩ : ∃ y, l[k]? = some y := ⟨l[k], List.getElem?_eq_getElem hkl⟩
          have Hy := Lib.hid hy
          obtain ⟨a, rfl, ha, _, c0⟩ := int_at S1 HBk.out.below Hx.out
          obtain ⟨a', e1, _, _, d0⟩ := int_at S1 HBk.out.below hy
          injection e1 with e1
          subst e1
          have g1 : decide (0 ≤ (i : Int)) = true := by simp
          have g2 : decide ((i : Int) < (l.length : Int)) = true := by simpa using hlt
          have g3 : decide (0 ≤ (k : Int)) = true := by simp
          have g4 : decide ((k : Int) < (l.length : Int)) = true := by simpa using hkl
          clear hy
          cases hxy : (x == y) with
          | true =>
            have Hz : Hid (onceL l = false) := Lib.hid (nod_bad hki Hx.out (by rw [Hy.out, show x = y by simpa using hxy]))
            go_wp2_with fail
            go_quiet (fail)
            go_wp2
            go_ret
            exact ⟨by rw [Hz.out]; rfl, HBk.out.step _⟩
          | false =>
            have HK2 : Hid (∀ j u, j < k + 1 → l[j]? = some u → u ≠ x) := Lib.hid (fun j u hj hu => by
              by_cases e : j = k
              · subst e
                rw [Hy.out] at hu
                cases hu
                intro e2
                subst e2
                simp at hxy
              · exact HK.out j u (by omega) hu)
            go_wp2_with fail
            go_quiet (fail)
            go_wp2
            go_roundw
            case rel => exact ⟨k + 1, hki, by go_num, HK2, Lib.hid (HBk.out.step _)⟩
            case measure => simp [intOf]; omega
        · have hki' : ¬ (k : Int) < (i : Int) := by omega
          obtain rfl : k = i := by omega
          have HN2 : Hid (NodTo l (k + 1)) := Lib.hid (nod_next Hx.out HN.out HK.out)
          go_wp2
          go_roundw
          case rel => exact ⟨k + 1, hlt, by go_num, HN2, HBk⟩
          case measure => simp [intOf]; omega
    · have hlt' : ¬ (i : Int) < (l.length : Int) := by omega
      have Hz : Hid (onceL l = true) := Lib.hid (by
        unfold onceL
        have := HN.out
        unfold NodTo at this
        rw [List.take_of_length_le (by omega)] at this
        exact decide_eq_true this)
      go_wp2
      go_ret
      exact ⟨by rw [Hz.out]; rfl, HB.out⟩
end Go.Proofs.Ytiljpacmkmmlcaa
