/- soritesref05.SameInts, place, Place; soriteslaw05.typed; a row of one's own as a slice. -/
import Derived.Test.YtbpdfmpfnbdeoaaDoorYans
import Derived.BigQuiet
import Derived.Deep.QuietTactic
namespace Go.Proofs.YtbpdfmpfnbdeoaaDoor
open Go.RowKit

/-- A row of cells, one to an element, as a slice. -/
theorem sl_row {α : Type} {w : World} {base : Nat} {T : TypeId} {v : Value} {l : List α} {f : α → Value} {R : α → List Value → Prop} (h : w.ownsRow base T 1 v l.length (l.map f)) (hR : ∀ x ∈ l, R x [f x]) : SlOf w w.heap.size 1 R l v := by
  rcases h.2 with ⟨rfl, h0⟩ | ⟨g, cap, cur, hv, hb, hg, hn, hc, hcur, ht⟩
  · exact .inl ⟨rfl, List.eq_nil_of_length_eq_zero h0⟩
  · refine .inr ⟨⟨g, 0, none⟩, cap, hv, hn, hc, fun _ => (Array.getElem?_eq_some_iff.1 hg).1, fun i x hx => ⟨[f x], rfl, hR x (List.mem_of_getElem? hx), fun j c hj => ?_⟩⟩
    have h1 := h.cells (g := g) (by rw [hv]; rfl) i (f x) (by simp [hx])
    cases j with
    | zero =>
      have e : f x = c := by simpa using hj
      subst e
      simpa using h1
    | succ j => simp at hj
theorem drop_int {l : List Int} {k : Nat} {t : Int} (h : l[k]? = some t) : l.drop k = t :: l.drop (k + 1) := by
  rw [List.drop_eq_getElem_cons (List.getElem?_eq_some_iff.1 h).1, (List.getElem?_eq_some_iff.1 h).2]
set_option maxRecDepth 100000 in
set_option maxHeartbeats 4000000 in
theorem sameInts_c (l m : List Int) (v u : Value) (w : World) (h1 : SlOf w w.heap.size 1 IntC l v) (h2 : SlOf w w.heap.size 1 IntC m u) :
    Calls Tryd.prog 20 #[v, u] w fun e w' => e = .returned (.bool (decide (l = m))) ∧ Below w.heap.size w w' := by
  obtain ⟨o1, k1, rfl, _, _, S1⟩ := SlOf.open h1
  obtain ⟨o2, k2, rfl, _, _, S2⟩ := SlOf.open h2
  have HB0 : Hid (Below w.heap.size w w) := Lib.hid (Below.refl _ _)
  clear h1 h2
  by_cases hl : l.length = m.length
  · have hl' : ((l.length : Int) != (m.length : Int)) = false := by simp [hl]
    have Hl := Lib.hid hl
    clear hl
    go_enter Tryd.func20, Tryd.ntmps20
    go_wp2
    go_loopw [5] (fun i wr => ∃ k : Nat, k ≤ l.length ∧ i = .int .i64 k ∧ (l = m ↔ l.drop k = m.drop k) ∧ Below w.heap.size w wr) (fun i _ => l.length - (intOf i).toNat)
    case atStart => exact ⟨0, Nat.zero_le _, rfl, by simp, HB0.out⟩
    case round =>
      obtain ⟨k, hk, rfl, hr, hB⟩ := hrel
      have Hr := Lib.hid hr
      clear hr
      by_cases hlt : k < l.length
      · have hlt' : (k : Int) < (l.length : Int) := by omega
        have hlm : k < m.length := by have := Hl.out; omega
        have hlm' : (k : Int) < (m.length : Int) := by omega
        obtain ⟨x, hx⟩ : ∃ x, l[k]? = some x := ⟨l[k], List.getElem?_eq_getElem hlt⟩
        obtain ⟨y, hy⟩ : ∃ y, m[k]? = some y := ⟨m[k], List.getElem?_eq_getElem hlm⟩
        obtain ⟨a, rfl, ha, _, c0⟩ := int_at S1 hB hx
        obtain ⟨b, rfl, hb, _, d0⟩ := int_at S2 hB hy
        have Hst : Hid (l.drop k = m.drop k ↔ x = y ∧ l.drop (k + 1) = m.drop (k + 1)) := Lib.hid (by rw [drop_int hx, drop_int hy]; simp)
        clear hx hy
        have g1 : decide (0 ≤ (k : Int)) = true := by simp
        have g2 : decide ((k : Int) < (l.length : Int)) = true := by simpa using hlt
        have g3 : decide ((k : Int) < (m.length : Int)) = true := by simpa using hlm
        cases hxy : (x != y) with
        | true =>
          have Hz : Hid (¬ l = m) := Lib.hid fun e => by
            have := (Hst.out.1 (Hr.out.1 e)).1
            simp [this] at hxy
          go_wp2_with fail
          go_quiet (fail)
          go_wp2
          go_ret
          exact ⟨by rw [decide_eq_false Hz.out]; rfl, below_drewN hB⟩
        | false =>
          have Hz : Hid (l = m ↔ l.drop (k + 1) = m.drop (k + 1)) := Lib.hid (Hr.out.trans (Hst.out.trans ⟨fun h => h.2, fun h => ⟨by simpa using hxy, h⟩⟩))
          go_wp2_with fail
          go_quiet (fail)
          go_wp2
          go_roundw
          case rel => exact ⟨k + 1, by omega, by go_num, Hz.out, below_drewN hB⟩
          case measure => simp [intOf]; omega
      · have hlt' : ¬ (k : Int) < (l.length : Int) := by omega
        have Hz : Hid (l = m) := Lib.hid (Hr.out.2 (by have := Hl.out; rw [List.drop_of_length_le (by omega), List.drop_of_length_le (by omega)]))
        go_wp2
        go_ret
        exact ⟨by rw [decide_eq_true Hz.out]; rfl, hB⟩
  · have hl' : ((l.length : Int) != (m.length : Int)) = true := by simp; omega
    have Hz : Hid (¬ l = m) := Lib.hid fun e => hl (by rw [e])
    clear hl
    go_enter Tryd.func20, Tryd.ntmps20
    go_wp2
    go_ret
    exact ⟨by rw [decide_eq_false Hz.out]; rfl, HB0.out⟩

theorem place_drop (l : List ByteArray) (s : ByteArray) (k : Nat) : (∀ x ∈ l.take k, (x.toList == s.toList) = false) → (∀ x, l[k]? = some x → (x.toList == s.toList) = true → placeV l s = k) := by
  intro h x hx hs
  unfold placeV
  have : l.findIdx? (fun x => x.toList == s.toList) = some k := by
    rw [List.findIdx?_eq_some_iff_getElem]
    obtain ⟨hk, e⟩ := List.getElem?_eq_some_iff.1 hx
    refine ⟨hk, by rw [e]; exact hs, fun j hj => ?_⟩
    have := h l[j] (List.mem_take_iff_getElem.2 ⟨j, by omega, rfl⟩)
    simpa using this
  rw [this]
theorem place_none (l : List ByteArray) (s : ByteArray) (h : ∀ x ∈ l, (x.toList == s.toList) = false) : placeV l s = -1 := by
  unfold placeV
  have : l.findIdx? (fun x => x.toList == s.toList) = none := by
    rw [List.findIdx?_eq_none_iff]
    exact fun x hx => by rw [h x hx]
  rw [this]
theorem place_lo (l : List ByteArray) (s : ByteArray) : -1 ≤ placeV l s ∧ placeV l s < l.length := by
  unfold placeV
  split
  · exact ⟨Int.le_refl _, by omega⟩
  · rename_i i h
    obtain ⟨hk, _⟩ := List.findIdx?_eq_some_iff_getElem.1 h
    exact ⟨by omega, by omega⟩
set_option maxRecDepth 100000 in
set_option maxHeartbeats 4000000 in
theorem place1_c (l : List ByteArray) (v : Value) (s : ByteArray) (w : World) (h1 : SlOf w w.heap.size 1 StrC l v) :
    Calls Tryd.prog 58 #[v, .string s] w fun e w' => e = .returned (.int .i64 (placeV l s)) ∧ Below w.heap.size w w' := by
  obtain ⟨o1, k1, rfl, _, _, S1⟩ := SlOf.open h1
  have HB0 : Hid (Below w.heap.size w w) := Lib.hid (Below.refl _ _)
  clear h1
  go_enter Tryd.func58, Tryd.ntmps58
  go_wp2
  go_loopw [5] (fun i wr => ∃ k : Nat, k ≤ l.length ∧ i = .int .i64 k ∧ (∀ x ∈ l.take k, (x.toList == s.toList) = false) ∧ Below w.heap.size w wr) (fun i _ => l.length - (intOf i).toNat)
  case atStart => exact ⟨0, Nat.zero_le _, rfl, by simp, HB0.out⟩
  case round =>
    obtain ⟨k, hk, rfl, hr, hB⟩ := hrel
    have Hr := Lib.hid hr
    clear hr
    by_cases hlt : k < l.length
    · have hlt' : (k : Int) < (l.length : Int) := by omega
      obtain ⟨x, hx⟩ : ∃ x, l[k]? = some x := ⟨l[k], List.getElem?_eq_getElem hlt⟩
      obtain ⟨a, rfl, ha, _, c0⟩ := str_at S1 hB hx
      cases hxy : (x.toList == s.toList) with
      | true =>
        have Hz : Hid (placeV l s = k) := Lib.hid (place_drop l s k Hr.out x hx hxy)
        clear hx
        go_wp2
        go_ret
        exact ⟨by rw [Hz.out]; rfl, hB⟩
      | false =>
        have Hz : Hid (∀ x ∈ l.take (k + 1), (x.toList == s.toList) = false) := Lib.hid fun y hy => by
          rw [List.take_add_one, hx] at hy
          rcases List.mem_append.1 hy with hy | hy
          · exact Hr.out y hy
          · rw [show y = x by simpa using hy]; exact hxy
        clear hx
        go_wp2
        go_roundw
        case rel => exact ⟨k + 1, by omega, by go_num, Hz.out, hB⟩
        case measure => simp [intOf]; omega
    · have hlt' : ¬ (k : Int) < (l.length : Int) := by omega
      have Hz : Hid (placeV l s = -1) := Lib.hid (place_none l s fun x hx => Hr.out x (by rw [List.take_of_length_le (by omega)]; exact hx))
      go_wp2
      go_ret
      exact ⟨by rw [Hz.out]; rfl, hB⟩
set_option maxRecDepth 100000 in
theorem place_c (l : List ByteArray) (v : Value) (s : ByteArray) (w : World) (h1 : SlOf w w.heap.size 1 StrC l v) :
    Calls Tryd.prog 28 #[v, .string s] w fun e w' => e = .returned (.int .i64 (placeV l s)) ∧ Below w.heap.size w w' := by
  have HH := Lib.hid (place1_c l v s w h1)
  clear h1
  go_enter Tryd.func28, Tryd.ntmps28
  go_wp2_with fail
  refine HH.out.mono ?_
  rintro e w' ⟨rfl, b⟩
  go_wp2
  go_ret
  exact ⟨rfl, b⟩
set_option maxRecDepth 100000 in
set_option maxHeartbeats 4000000 in
theorem typed_c (l : List ByteArray) (m : List Int) (v u : Value) (s : ByteArray) (w : World) (h1 : SlOf w w.heap.size 1 StrC l v) (h2 : SlOf w w.heap.size 1 IntC m u) :
    Calls Tryd.prog 21 #[v, u, .string s] w fun e w' => e = .returned (.int .i64 (typedV l m s)) ∧ Below w.heap.size w w' := by
  have HH := Lib.hid (place_c l v s w h1)
  obtain ⟨o2, k2, rfl, _, _, S2⟩ := SlOf.open h2
  clear h1 h2
  have HB0 : Hid (Below w.heap.size w w) := Lib.hid (Below.refl _ _)
  obtain ⟨p, hp⟩ : ∃ p, placeV l s = p := ⟨_, rfl⟩
  have hlo := place_lo l s
  rw [hp] at HH hlo
  have Hv : Hid (typedV l m s = if p < 0 ∨ (m.length : Int) ≤ p then 0 else m.getD p.toNat 0) := Lib.hid (by unfold typedV; rw [hp])
  clear hp
  go_enter Tryd.func21, Tryd.ntmps21
  go_wp2_with fail
  refine HH.out.mono ?_
  rintro e w' ⟨rfl, b⟩
  by_cases h0 : p < 0
  · have Hz : Hid (typedV l m s = 0) := Lib.hid (by rw [Hv.out, if_pos (.inl h0)])
    go_wp2
    go_ret
    exact ⟨by rw [Hz.out]; rfl, b⟩
  · by_cases h3 : (m.length : Int) ≤ p
    · have Hz : Hid (typedV l m s = 0) := Lib.hid (by rw [Hv.out, if_pos (.inr h3)])
      go_wp2
      go_ret
      exact ⟨by rw [Hz.out]; rfl, b⟩
    · obtain ⟨k, rfl⟩ := Int.eq_ofNat_of_zero_le (show 0 ≤ p by omega)
      obtain ⟨x, hx⟩ : ∃ x, m[k]? = some x := ⟨m[k]'(by omega), List.getElem?_eq_getElem (by omega)⟩
      obtain ⟨a, rfl, ha, _, c0⟩ := int_at S2 b hx
      have Hz : Hid (typedV l m s = x) := Lib.hid (by rw [Hv.out, if_neg (by omega)]; simp [List.getD, hx])
      have hlt' : (k : Int) < (m.length : Int) := by omega
      clear hx
      go_wp2
      go_ret
      exact ⟨by rw [Hz.out]; rfl, b⟩
end Go.Proofs.YtbpdfmpfnbdeoaaDoor
