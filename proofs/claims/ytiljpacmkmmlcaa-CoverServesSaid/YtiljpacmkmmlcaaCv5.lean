/- soritesref12.Least. -/
import Derived.Test.YtiljpacmkmmlcaaCv3
import Derived.Test.YtiljpacmkmmlcaaCv4
set_option linter.unusedSimpArgs false
set_option linter.unusedVariables false
namespace Go.Proofs.Ytiljpacmkmmlcaa
open Go.RowKit

theorem row_of_own {w : World} {base n g : Nat} {T : TypeId} {xs : List Value} (h : w.ownsRow base T 1 (.slice (some ⟨g, 0, none⟩) n n) n xs) : w.heap[g]? = some (.cells xs.toArray T (0, 0)) := by
  rcases h.2 with ⟨h1, _⟩ | ⟨g', cap, cur, hv, _, hg, _, _, hcur, ht⟩
  · cases h1
  · injection hv with e1 _ e3
    injection e1 with e1
    injection e1 with e1
    subst e1
    subst e3
    rw [List.take_of_length_le (by rw [Array.length_toList, hcur]; exact Nat.le_refl _)] at ht
    rw [hg, ← ht]
theorem minus_all {n : Nat} {xs : List Value} (hl : xs.length = n) (h : ∀ j, j < n → xs[j]? = some (.int .i64 (-1))) : xs = bhCells (fun _ => none) n := by
  apply List.ext_getElem?
  intro j
  by_cases hj : j < n
  · rw [h j hj, bhCells_at _ hj]; rfl
  · rw [List.getElem?_eq_none (by omega), List.getElem?_eq_none (by rw [bhCells_len]; omega)]
theorem met_none (n : Nat) : List.replicate n (Value.bool false) = metCells (fun _ => false) n := by
  unfold metCells
  apply List.ext_getElem?
  intro j
  by_cases hj : j < n
  · rw [List.getElem?_replicate, if_pos hj, List.getElem?_map, List.getElem?_range hj]; rfl
  · rw [List.getElem?_eq_none (by rw [List.length_replicate]; omega), List.getElem?_eq_none (by rw [List.length_map, List.length_range]; omega)]
def MinI (n b1 k : Nat) (w : World) : Prop := ∃ xs : List Value, w.heap[b1]? = some (.cells xs.toArray 3 (0, 0)) ∧ xs.length = n ∧ ∀ j, j < k → xs[j]? = some (.int .i64 (-1))
def LeastI (l : List (List Int)) (b1 j z : Nat) (w : World) : Prop :=
  ∃ (B : Bh) (K : Nat → Prop) (U : List Nat), KuS l.length (RS l) B K U j ∧ w.heap[b1]? = some (.cells (bhCells B l.length).toArray 3 (0, 0)) ∧ (∀ k x, B k = some x → x < l.length) ∧ z = U.length + (l.length - j) ∧ z ≤ l.length
def LeastR (c : Int) (l : List (List Int)) (e : Ending) : Prop :=
  (rightS c l = false ∧ e = .returned (.tuple #[.int .i64 0, .int .i64 110])) ∨ ∃ n : Nat, rightS c l = true ∧ e = .returned (.tuple #[.int .i64 (n : Int), .int .i64 0]) ∧ ((l = [] ∧ n = 1) ∨ (l ≠ [] ∧ LeastN l.length (RS l) n))
theorem RS_least {l : List (List Int)} {B : Bh} {K : Nat → Prop} {U : List Nat} (h : KuS l.length (RS l) B K U l.length) : LeastN l.length (RS l) U.length :=
  KuS.least (rank := fun i => (l.getD i []).length) h (fun _ _ h => h.rank) (fun _ _ _ h k => h.trans k)
set_option linter.unusedVariables false in
set_option maxRecDepth 100000 in
set_option maxHeartbeats 8000000 in
theorem least12_c (c : Int) (l : List (List Int)) (v : Value) (w : World) (h : SetsS w w.heap.size l v) :
    Calls Try.prog 17 #[.int .i64 c, v] w fun e w' => LeastR c l e ∧ Below w.heap.size w w' := by
  have hfull := h
  obtain ⟨o1, cap1, rfl, hc1, hm1, S1⟩ := SlOf.open h
  have HRt := Lib.hid (right12_c c l _ w h)
  have HSet := Lib.hid hfull
  clear h hfull
  obtain ⟨y1, hy, hy0, hy1, hy2⟩ : ∃ y, Try.prog.info? 3 = some y ∧ y.zero = some (.int .i64 0) ∧ y.size = 1 ∧ y.bytes ≤ 8 := ⟨_, rfl, rfl, rfl, by decide⟩
  obtain ⟨y2, hz, hz0, hz1, hz2⟩ : ∃ y, Try.prog.info? 4 = some y ∧ y.zero = some (.bool false) ∧ y.size = 1 ∧ y.bytes ≤ 8 := ⟨_, rfl, rfl, rfl, by decide⟩
  go_enter Try.func17, Try.ntmps17
  go_wp2_with fail
  refine HRt.out.mono ?_
  rintro e w1 ⟨rfl, hB1⟩
  have HB1 := Lib.hid hB1
  clear hB1
  cases hr : rightS c l with
  | false =>
    have Hr := Lib.hid hr
    clear hr
    go_wp2
    go_ret2
    exact ⟨.inl ⟨Hr.out, rfl⟩, HB1.out⟩
  | true =>
    have Hr := Lib.hid hr
    have h60 := (rightS_iff.1 hr).1.2.2
    clear hr
    by_cases hl0 : l.length = 0
    · have hl0' : (l.length : Int) = 0 := by omega
      have Hn : Hid (l = []) := Lib.hid (List.length_eq_zero_iff.1 hl0)
      go_wp2
      go_ret2
      exact ⟨.inr ⟨1, Hr.out, rfl, .inl ⟨Hn.out, rfl⟩⟩, HB1.out⟩
    · have hl0' : ((l.length : Int) == 0) = false := by rw [beq_eq_false_iff_ne]; omega
      have Hn : Hid (l ≠ []) := Lib.hid (fun e => hl0 (by rw [e]; rfl))
      have Kb1 : Hid (y1.bytes * l.length ≤ 281474976710656) := Lib.hid (by have := Nat.mul_le_mul hy2 h60; omega)
      have Kb2 : Hid (y2.bytes * l.length ≤ 281474976710656) := Lib.hid (by have := Nat.mul_le_mul hz2 h60; omega)
      have Km : Hid (l.length ≤ maxLen) := Lib.hid (by unfold maxLen; omega)
      have hn0 : 0 < l.length := by omega
      obtain ⟨b1, hb1⟩ : ∃ b, w1.heap.size = b := ⟨_, rfl⟩
      have Hb1 := Lib.hid hb1
      have hwb1 : w.heap.size ≤ b1 := by rw [← hb1]; exact HB1.out.size
      clear hb1 hl0
      go_wp2_with (first | (at_make; refine wpList_make_full _ rfl _ _ 23 rfl b1 3 y1 _ 1 Try.underlying23 hy hy0 hy1 .i64 .i64 _ _ l.length rfl rfl rfl rfl Kb1.out Km.out (by rw [Hb1.out]; exact Nat.le_refl _) ?_; rw [Hb1.out]; intro w2 hown hg; have O2 := Lib.hid hown; have G2 := Lib.hid hg; clear hown hg))
      have HB2 : Hid (Below w.heap.size w w2) := Lib.hid (HB1.out.grown G2.out HB1.out.size (fun q hq => by cases hq))
      have HM : Hid (MinI l.length b1 0 w2) := Lib.hid ⟨_, row_of_own O2.out, by rw [Array.length_toList, size_madeCells]; exact Nat.mul_one _, fun j hj => by omega⟩
      clear G2 O2
      go_loopw [8] (fun iv wr => ∃ k : Nat, k ≤ l.length ∧ iv = .int .i64 (k : Int) ∧ Hid (MinI l.length b1 k wr) ∧ Hid (Below w.heap.size w wr)) (fun iv _ => l.length - (intOf iv).toNat)
      case atStart => exact ⟨0, Nat.zero_le _, rfl, HM, HB2⟩
      case round =>
        obtain ⟨k, hk, rfl, HMk, HBk⟩ := hrel
        by_cases hlt : k < l.length
        · have hlt1 : (k : Int) < (l.length : Int) := by omega
          have hk0 : (0 : Int) ≤ (k : Int) := by omega
          obtain ⟨xs, hx, hxl, hxa⟩ := HMk.out
          have hf := frz_rowC hx k
          obtain ⟨u, hu⟩ : ∃ u, xs[k]? = some u := ⟨xs[k]'(by omega), List.getElem?_eq_getElem (by omega)⟩
          have hc : wr.cell? ⟨b1, k, none⟩ = some u := (row_cellsC hx k).trans (by rw [List.getElem?_toArray]; exact hu)
          have HM2 : Hid (MinI l.length b1 (k + 1) (wr.setCell ⟨b1, k, none⟩ (.int .i64 (-1)))) := Lib.hid ⟨_, set_rowC (i := k) hx _, by rw [List.length_set]; exact hxl, fun j hj => by
            by_cases e : j = k
            · subst e; rw [List.getElem?_set_self (by omega)]
            · rw [List.getElem?_set_ne (Ne.symm e)]; exact hxa j (by omega)⟩
          have HB3 : Hid (Below w.heap.size w (wr.setCell ⟨b1, k, none⟩ (.int .i64 (-1)))) := Lib.hid (HBk.out.setCell (p := ⟨b1, k, none⟩) hwb1 _)
          clear hx hxa hu
          go_wp2
          go_roundw
          case rel => exact ⟨k + 1, hlt, by go_num, HM2, HB3⟩
          case measure => simp [intOf]; omega
        · have hlt1 : ¬ (k : Int) < (l.length : Int) := by omega
          obtain rfl : k = l.length := by omega
          have HR1 : Hid (wr.heap[b1]? = some (.cells (bhCells (fun _ => none) l.length).toArray 3 (0, 0))) := Lib.hid (by
            obtain ⟨xs, hx, hxl, hxa⟩ := HMk.out
            rw [hx, minus_all hxl hxa])
          clear HMk
          go_wp2
          go_loopw [9, 10] (fun nv iv wr => ∃ (j z : Nat), j ≤ l.length ∧ iv = .int .i64 (j : Int) ∧ nv = .int .i64 (z : Int) ∧ Hid (LeastI l b1 j z wr) ∧ Hid (Below w.heap.size w wr)) (fun _ iv _ => l.length - (intOf iv).toNat)
          case atStart => exact ⟨0, l.length, Nat.zero_le _, rfl, rfl, Lib.hid ⟨fun _ => none, fun _ => False, [], KuS.start, HR1.out, (fun _ _ h => by cases h), by simp, Nat.le_refl _⟩, HBk⟩
          case round =>
            obtain ⟨j, z, hj, rfl, rfl, HI, HBj⟩ := hrel
            by_cases hjl : j < l.length
            · have hjl' : (j : Int) < (l.length : Int) := by omega
              obtain ⟨Bh', K, U, hK, hrow, hbv, hz', hzl⟩ := HI.out
              obtain ⟨b2, hb2⟩ : ∃ b, wr.heap.size = b := ⟨_, rfl⟩
              have Hb2 := Lib.hid hb2
              have hb12 : b1 < b2 := by rw [← hb2]; exact heap_ltC hrow
              have HKu := Lib.hid hK
              have Hrow := Lib.hid hrow
              have Hbv := Lib.hid hbv
              have Hzz := Lib.hid hz'
              clear hK hrow hbv hz' hb2
              go_wp2_with (first | (at_make; refine wpList_make_full _ rfl _ _ 38 rfl b2 4 y2 _ 1 Try.underlying38 hz hz0 hz1 .i64 .i64 _ _ l.length rfl rfl rfl rfl Kb2.out Km.out (by rw [Hb2.out]; exact Nat.le_refl _) ?_; rw [Hb2.out]; intro w4 hown hg; have O4 := Lib.hid hown; have G4 := Lib.hid hg; clear hown hg) | fail)
              have HB4 : Hid (Below w.heap.size w w4) := Lib.hid (HBj.out.grown G4.out HBj.out.size (fun q hq => by cases hq))
              have hq1 : w4.heap[b1]? = some (.cells (bhCells Bh' l.length).toArray 3 (0, 0)) := (G4.out.block b1 (by rw [Hb2.out]; exact hb12) (fun h => by cases h)).trans Hrow.out
              have hq2 : w4.heap[b2]? = some (.cells (metCells (fun _ => false) l.length).toArray 4 (0, 0)) := by
                have h1 := O4.out
                rw [Nat.mul_one] at h1
                have h2 : (madeCells (Value.bool false).cells l.length).toList = metCells (fun _ => false) l.length := (toList_madeCells_one _ _).trans (met_none _)
                rw [h2] at h1
                exact row_of_own h1
              have hC := aug12_c l w.heap.size b1 b2 _ w h60 hwb1 (by omega) (by omega) HSet.out (Nat.le_refl _) _ Bh' (fun _ => false) j w4 (Nat.le_refl _) hjl Hbv.out HB4.out hq1 hq2
              clear hq1 hq2
              refine hC.mono ?_
              clear hC
              rintro e5 w5 ⟨o, B5, m5, rfl, hsr, q1, _, hbv5, htw⟩
              have HB5 : Hid (Below w.heap.size w w5) := Lib.hid (HB4.out.trans (htw.below hwb1 (by omega)))
              have wk : IntKind.i64.wrap ((z : Int) - 1) = ((z - 1 : Nat) : Int) := by rw [IntKind.wrap_i64]; have := Hzz.out; omega
              cases o with
              | true =>
                have HI2 : Hid (LeastI l b1 (j + 1) (z - 1) w5) := Lib.hid ⟨B5, K, U, HKu.out.some hjl hsr, q1, hbv5, by have := Hzz.out; omega, by omega⟩
                clear hsr q1 hbv5 htw
                go_wp2
                go_roundw
                case rel => exact ⟨j + 1, z - 1, hjl, by go_num, rfl, HI2, HB5⟩
                case measure => simp [intOf]; omega
              | false =>
                have HI2 : Hid (LeastI l b1 (j + 1) z w5) := Lib.hid (by
                  obtain ⟨e1, e2⟩ := HKu.out.none hsr
                  subst e1
                  exact ⟨B5, _, _, e2, q1, hbv5, by rw [List.length_append]; have := Hzz.out; simp; omega, hzl⟩)
                clear hsr q1 hbv5 htw wk
                go_wp2
                go_roundw
                case rel => exact ⟨j + 1, z, hjl, by go_num, rfl, HI2, HB5⟩
                case measure => simp [intOf]; omega
            · have hjl' : ¬ (j : Int) < (l.length : Int) := by omega
              obtain rfl : j = l.length := by omega
              go_wp2
              go_ret2
              obtain ⟨Bh', K, U, hK, _, _, hz', _⟩ := HI.out
              exact ⟨.inr ⟨z, Hr.out, rfl, .inr ⟨Hn.out, by rw [show z = U.length by omega]; exact RS_least hK⟩⟩, HBj.out⟩
end Go.Proofs.Ytiljpacmkmmlcaa
