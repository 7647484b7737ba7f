/- soritesref12.Whole. -/
import Derived.Test.YtiljpacmkmmlcaaCv5
set_option linter.unusedSimpArgs false
set_option linter.unusedVariables false
namespace Go.Proofs.Ytiljpacmkmmlcaa
open Go.RowKit

def wholeO (c : Nat) (o : List Int) : Bool := decide (o.length = c) && (o.all (fun x => decide (0 ≤ x) && decide (x < (c : Int))) && decide o.Nodup)
def wholeL (c : Nat) (l : List (List Int)) : Bool := l.all (wholeO c)
def mOf (o : List Int) (k : Nat) : Nat → Bool := fun i => (o.take k).contains (i : Int)
def okTo (c : Nat) (o : List Int) (k : Nat) : Prop := (∀ x ∈ o.take k, 0 ≤ x ∧ x < (c : Int)) ∧ (o.take k).Nodup
theorem wholeO_iff {c : Nat} {o : List Int} : wholeO c o = true ↔ o.length = c ∧ okTo c o o.length := by
  unfold wholeO okTo
  rw [Bool.and_eq_true, Bool.and_eq_true, decide_eq_true_eq, decide_eq_true_eq, List.all_eq_true, List.take_length]
  simp only [Bool.and_eq_true, decide_eq_true_eq]
theorem okTo_sub {c : Nat} {o : List Int} {k : Nat} (h : okTo c o o.length) : okTo c o k := by
  unfold okTo at h
  rw [List.take_length] at h
  exact ⟨fun x hx => h.1 x (List.mem_of_mem_take hx), h.2.sublist (List.take_sublist _ _)⟩
theorem okTo_next {c : Nat} {o : List Int} {k : Nat} {x : Int} (hx : o[k]? = some x) : okTo c o (k + 1) ↔ okTo c o k ∧ (0 ≤ x ∧ x < (c : Int)) ∧ x ∉ o.take k := by
  unfold okTo
  rw [List.take_add_one, hx, List.nodup_append]
  simp only [Option.toList_some, List.mem_append, List.mem_singleton]
  constructor
  · rintro ⟨h1, h2, _, h3⟩
    exact ⟨⟨fun y hy => h1 y (.inl hy), h2⟩, h1 x (.inr rfl), fun hm => h3 x hm x rfl rfl⟩
  · rintro ⟨⟨h1, h2⟩, h3, h4⟩
    refine ⟨fun y hy => ?_, h2, by simp, fun a ha b hb e => ?_⟩
    · rcases hy with hy | rfl
      · exact h1 y hy
      · exact h3
    · subst e; subst hb; exact h4 ha
theorem mOf_next {o : List Int} {k n : Nat} (hx : o[k]? = some (n : Int)) : setB (mOf o k) n = mOf o (k + 1) := by
  funext i
  unfold mOf
  rw [List.take_add_one, hx]
  by_cases e : i = n
  · subst e; rw [setB_same]; simp
  · rw [setB_other _ e]
    rw [Bool.eq_iff_iff]
    simp
    omega
theorem wholeO_bad {c : Nat} {o : List Int} {k : Nat} {x : Int} (hx : o[k]? = some x) (h : ¬ (0 ≤ x ∧ x < (c : Int)) ∨ x ∈ o.take k) : wholeO c o = false := by
  cases hr : wholeO c o with
  | false => rfl
  | true =>
    have h1 := (okTo_next hx).1 (okTo_sub (k := k + 1) (wholeO_iff.1 hr).2)
    rcases h with h | h
    · exact absurd h1.2.1 h
    · exact absurd h h1.2.2
theorem wholeL_bad {c : Nat} {l : List (List Int)} {i : Nat} {o : List Int} (ho : l[i]? = some o) (h : wholeO c o = false) : wholeL c l = false := by
  cases hr : wholeL c l with
  | false => rfl
  | true =>
    have := List.all_eq_true.1 hr o (List.mem_of_getElem? ho)
    rw [h] at this
    cases this
set_option linter.unusedVariables false in
set_option maxRecDepth 100000 in
set_option maxHeartbeats 8000000 in
theorem whole12_c (c : Nat) (l : List (List Int)) (v : Value) (w : World) (hc : c ≤ 8) (h : SetsS w w.heap.size l v) :
    Calls Try.prog 19 #[.int .i64 (c : Int), v] w fun e w' => e = .returned (.bool (wholeL c l)) ∧ Below w.heap.size w w' := by
  obtain ⟨o1, cap1, rfl, hc1, hm1, S1⟩ := SlOf.open h
  clear h
  obtain ⟨y2, hz, hz0, hz1, hz2⟩ : ∃ y, Try.prog.info? 4 = some y ∧ y.zero = some (.bool false) ∧ y.size = 1 ∧ y.bytes ≤ 8 := ⟨_, rfl, rfl, rfl, by decide⟩
  have Kb2 : Hid (y2.bytes * c ≤ 281474976710656) := Lib.hid (by have := Nat.mul_le_mul hz2 hc; omega)
  have Km : Hid (c ≤ maxLen) := Lib.hid (by unfold maxLen; omega)
  go_enter Try.func19, Try.ntmps19
  go_wp2
  go_loopw [5] (fun iv wr => ∃ i : Nat, i ≤ l.length ∧ iv = .int .i64 (i : Int) ∧ Hid (∀ o ∈ l.take i, wholeO c o = true) ∧ Hid (Below w.heap.size w wr)) (fun iv _ => l.length - (intOf iv).toNat)
  case atStart => exact ⟨0, Nat.zero_le _, rfl, Lib.hid (fun o ho => by simp at ho), Lib.hid (Below.refl _ _)⟩
  case round =>
    obtain ⟨i, hi, rfl, HA, HB⟩ := hrel
    by_cases hlt : i < l.length
    · have hlt' : (i : Int) < (l.length : Int) := by omega
      have hi0 : (0 : Int) ≤ (i : Int) := by omega
      obtain ⟨o, ho⟩ : ∃ o, l[i]? = some o := ⟨l[i], List.getElem?_eq_getElem hlt⟩
      obtain ⟨a, o', cap', rfl, ha, hcs, hcm, hW⟩ := set_all S1 ho
      have hal : (a.add i).block < w.heap.size := by rw [addBlock]; exact ha
      have HW := Lib.hid hW
      have Ho := Lib.hid ho
      clear hW ho
      obtain ⟨b, hb⟩ : ∃ b, wr.heap.size = b := ⟨_, rfl⟩
      have Hb := Lib.hid hb
      have hwb : w.heap.size ≤ b := by rw [← hb]; exact HB.out.size
      clear hb
      by_cases hol : o.length = c
      · have hol' : ((o.length : Int) != (c : Int)) = false := by simp [hol]
        have Hol := Lib.hid hol
        clear hol
        go_wp2_with (first | (at_make; refine wpList_make_full _ rfl _ _ 38 rfl b 4 y2 _ 1 Try.underlying38 hz hz0 hz1 .i64 .i64 _ _ c rfl rfl rfl rfl Kb2.out Km.out (by rw [Hb.out]; exact Nat.le_refl _) ?_; rw [Hb.out]; intro w4 hown hg; have O4 := Lib.hid hown; have G4 := Lib.hid hg; clear hown hg; have c4 : w4.cell? (a.add i) = some (.slice o' o.length cap') := (HW.out w4 (HB.out.grown G4.out HB.out.size (fun q hq => by cases hq))).2))
        have HB4 : Hid (Below w.heap.size w w4) := Lib.hid (HB.out.grown G4.out HB.out.size (fun q hq => by cases hq))
        have HR : Hid (w4.heap[b]? = some (.cells (metCells (mOf o 0) c).toArray 4 (0, 0))) := Lib.hid (by
          have h1 := O4.out
          rw [Nat.mul_one] at h1
          have h2 : (madeCells (Value.bool false).cells c).toList = metCells (mOf o 0) c := (toList_madeCells_one _ _).trans (met_none _)
          rw [h2] at h1
          exact row_of_own h1)
        clear O4 G4 c4
        go_loopw [7] (fun kv wr => ∃ k : Nat, k ≤ c ∧ kv = .int .i64 (k : Int) ∧ Hid (okTo c o k) ∧ Hid (wr.heap[b]? = some (.cells (metCells (mOf o k) c).toArray 4 (0, 0))) ∧ Hid (Below w.heap.size w wr)) (fun kv _ => c - (intOf kv).toNat)
        case atStart => exact ⟨0, Nat.zero_le _, rfl, Lib.hid ⟨fun x hx => by simp at hx, by simp⟩, HR, HB4⟩
        case round =>
          obtain ⟨k, hk, rfl, HT, HRk, HBk⟩ := hrel
          by_cases hkc : k < c
          · have hkc' : (k : Int) < (c : Int) := by omega
            have hk0 : (0 : Int) ≤ (k : Int) := by omega
            have hkl : k < o.length := by rw [Hol.out]; exact hkc
            have hkl' : (k : Int) < (o.length : Int) := by omega
            obtain ⟨x, hx⟩ : ∃ x, o[k]? = some x := ⟨o[k], List.getElem?_eq_getElem hkl⟩
            have Hx := Lib.hid hx
            have c5 := (HW.out _ HBk.out).2
            obtain ⟨o5, k5, e5, _, _, S5⟩ := SlOf.open (HW.out _ HBk.out).1
            injection e5 with e5 _ e6
            subst e5
            subst e6
            obtain ⟨f, rfl, hf, hI, d0⟩ := int_at S5 (Below.refl _ _) hx
            have hfl : (f.add k).block < wr.heap.size := by rw [addBlock]; exact hf
            clear hx
            by_cases hx0 : x < 0
            · have Hz : Hid (wholeL c l = false) := Lib.hid (wholeL_bad Ho.out (wholeO_bad Hx.out (.inl (by omega))))
              go_wp2
              go_ret
              exact ⟨by rw [Hz.out]; rfl, HBk.out⟩
            · by_cases hxc : x ≥ (c : Int)
              · have Hz : Hid (wholeL c l = false) := Lib.hid (wholeL_bad Ho.out (wholeO_bad Hx.out (.inl (by omega))))
                go_wp2
                go_ret
                exact ⟨by rw [Hz.out]; rfl, HBk.out⟩
              · obtain ⟨q, rfl⟩ : ∃ q : Nat, x = (q : Int) := ⟨x.toNat, by omega⟩
                have hqc : q < c := by omega
                have hq1 : (q : Int) < (c : Int) := by omega
                have hq0 : (0 : Int) ≤ (q : Int) := by omega
                have m0 : wr.cell? ⟨b, q, none⟩ = some (.bool (mOf o k q)) := (row_cellsC HRk.out q).trans (by rw [List.getElem?_toArray]; exact metCells_at _ hqc)
                cases hm : mOf o k q with
                | true =>
                  have Hz : Hid (wholeL c l = false) := Lib.hid (wholeL_bad Ho.out (wholeO_bad Hx.out (.inr (by unfold mOf at hm; simpa using hm))))
                  rw [hm] at m0
                  clear hm
                  go_wp2
                  go_ret
                  exact ⟨by rw [Hz.out]; rfl, HBk.out⟩
                | false =>
                  have HT2 : Hid (okTo c o (k + 1)) := Lib.hid ((okTo_next Hx.out).2 ⟨HT.out, ⟨hq0, hq1⟩, fun h => by unfold mOf at hm; simp [h] at hm⟩)
                  rw [hm] at m0
                  have hf2 := frz_rowC HRk.out q
                  have hq2 := set_rowC (i := q) HRk.out (.bool true)
                  rw [metCells_set _ hqc, mOf_next Hx.out] at hq2
                  have HR2 := Lib.hid hq2
                  have HB5 : Hid (Below w.heap.size w (wr.setCell ⟨b, q, none⟩ (.bool true))) := Lib.hid (HBk.out.setCell (p := ⟨b, q, none⟩) hwb _)
                  clear hm hq2
                  go_wp2
                  go_roundw
                  case rel => exact ⟨k + 1, hkc, by go_num, HT2, HR2, HB5⟩
                  case measure => simp [intOf]; omega
          · have hkc' : ¬ (k : Int) < (c : Int) := by omega
            obtain rfl : k = c := by omega
            have HA2 : Hid (∀ u ∈ l.take (i + 1), wholeO k u = true) := Lib.hid (fun u hu => by
              rw [List.take_add_one, Ho.out] at hu
              rcases List.mem_append.1 hu with hu | hu
              · exact HA.out u hu
              · rw [show u = o by simpa using hu]
                exact wholeO_iff.2 ⟨Hol.out, by rw [Hol.out]; exact HT.out⟩)
            go_wp2
            go_roundw
            case rel => exact ⟨i + 1, hlt, by go_num, HA2, HBk⟩
            case measure => simp [intOf]; omega
      · have hol' : ((o.length : Int) != (c : Int)) = true := by simp; omega
        have Hz : Hid (wholeL c l = false) := Lib.hid (wholeL_bad Ho.out (by cases hr : wholeO c o with | false => rfl | true => exact absurd (wholeO_iff.1 hr).1 hol))
        clear hol
        go_wp2_with (first | (at_make; refine wpList_make_full _ rfl _ _ 38 rfl b 4 y2 _ 1 Try.underlying38 hz hz0 hz1 .i64 .i64 _ _ c rfl rfl rfl rfl Kb2.out Km.out (by rw [Hb.out]; exact Nat.le_refl _) ?_; rw [Hb.out]; intro w4 hown hg; have O4 := Lib.hid hown; have G4 := Lib.hid hg; clear hown hg; have c4 : w4.cell? (a.add i) = some (.slice o' o.length cap') := (HW.out w4 (HB.out.grown G4.out HB.out.size (fun q hq => by cases hq))).2))
        go_ret
        exact ⟨by rw [Hz.out]; rfl, HB.out.grown G4.out HB.out.size (fun q hq => by cases hq)⟩
    · have hlt' : ¬ (i : Int) < (l.length : Int) := by omega
      have Hz : Hid (wholeL c l = true) := Lib.hid (List.all_eq_true.2 fun o ho => HA.out o (by rw [List.take_of_length_le (by omega)]; exact ho))
      go_wp2
      go_ret
      exact ⟨by rw [Hz.out]; rfl, HB.out⟩
end Go.Proofs.Ytiljpacmkmmlcaa
