/- slices.BinarySearchFunc at rows; rel.Has. -/
import Derived.Test.YtphmiifochjemaaPri
import Derived.Test.YtphmiifochjemaaSt2
import Derived.StillTailTactics
namespace Go.Proofs.Ytphmiifochjemaa
open Go.RowKit Go.Shelf

theorem rise_pair {α : Type} {c : α → α → Int} (hc : TotC c) : ∀ {l : List α}, riseL c l = true → l.Pairwise fun x y => c x y < 0
  | [], _ => List.Pairwise.nil
  | _ :: _, h => List.pairwise_cons.2 ⟨rise_all hc h, rise_pair hc (rise_tail h)⟩
theorem rise_at {α : Type} {c : α → α → Int} (hc : TotC c) {l : List α} (h : riseL c l = true) {i j : Nat} {x y : α} (hij : i < j) (hx : l[i]? = some x) (hy : l[j]? = some y) : c x y < 0 := by
  obtain ⟨h1, h2⟩ := List.getElem?_eq_some_iff.1 hx
  obtain ⟨h3, h4⟩ := List.getElem?_eq_some_iff.1 hy
  have := List.pairwise_iff_getElem.1 (rise_pair hc h) i j h1 h3 hij
  rw [h2, h4] at this
  exact this
/-- Where the search has ended. -/
theorem in_found {α : Type} {c : α → α → Int} (hc : TotC c) {l : List α} {t : α} (hr : riseL c l = true) {i : Nat} (hlo : ∀ k x, k < i → l[k]? = some x → c x t < 0) (hhi : ∀ k x, i ≤ k → l[k]? = some x → 0 ≤ c x t) :
    inL c l t = match l[i]? with | some x => decide (c x t = 0) | none => false := by
  cases hi : l[i]? with
  | none =>
    unfold inL
    rw [List.any_eq_false]
    intro x hx
    obtain ⟨k, hk⟩ := List.mem_iff_getElem?.1 hx
    have := hlo k x (by have := List.getElem?_eq_none_iff.1 hi; have := (List.getElem?_eq_some_iff.1 hk).1; omega) hk
    simp; omega
  | some y =>
    rw [Bool.eq_iff_iff]
    unfold inL
    rw [List.any_eq_true]
    constructor
    · rintro ⟨x, hx, h0⟩
      have h0 : c x t = 0 := by simpa using h0
      obtain ⟨k, hk⟩ := List.mem_iff_getElem?.1 hx
      rcases Nat.lt_trichotomy k i with h | h | h
      · have := hlo k x h hk; omega
      · subst h; rw [hi] at hk; cases hk; simpa using h0
      · have h1 := rise_at hc hr h hi hk
        have h2 := hc.lt_le h1 (Int.le_of_eq h0)
        have h3 := hhi i y (Nat.le_refl _) hi
        exfalso
        omega
    · intro h
      exact ⟨y, List.mem_of_getElem? hi, h⟩
set_option linter.unusedSimpArgs false in
set_option maxRecDepth 100000 in
set_option maxHeartbeats 8000000 in
theorem bsearch_c (l : List Rw) (t : Rw) (v u : Value) (w : World) (hl : l.length ≤ 1000000) (h1 : RwsS w w.heap.size l v) (h2 : SlOf w w.heap.size 3 VlC t u) (hr : riseL rwC l = true) :
    Calls Try.prog 22 #[v, u, .func (.func 15) #[] #[]] w fun e w' => (∃ i : Int, e = .returned (.tuple #[.int .i64 i, .bool (inL rwC l t)])) ∧ Below w.heap.size w w' := by
  obtain ⟨o1, cap1, rfl, hc1, hm1, S1⟩ := SlOf.open h1
  have H2 := Lib.hid h2
  have eg : ∀ args w, (callFunc 15 args).run Try.prog w = .ok (.enter 15 args) w := enters_of Try.func15 (by kernel_rfl) rfl
  obtain ⟨o2, cap2, rfl, _⟩ := SlOf.uni h2
  clear h1 h2
  go_enter Try.func22, Try.ntmps22
  go_wp2
  go_loopw [9, 10] (fun vi vj wr => ∃ (i j : Nat), vi = .int .i64 i ∧ vj = .int .i64 j ∧ i ≤ j ∧ j ≤ l.length ∧ Hid (∀ k x, k < i → l[k]? = some x → rwC x t < 0) ∧ Hid (∀ k x, j ≤ k → l[k]? = some x → 0 ≤ rwC x t) ∧ Below w.heap.size w wr) (fun vi vj _ => (intOf vj).toNat - (intOf vi).toNat)
  case atStart => exact ⟨0, l.length, rfl, rfl, Nat.zero_le _, Nat.le_refl _, Lib.hid (fun k x h => by omega), Lib.hid (fun k x h hx => by have := (List.getElem?_eq_some_iff.1 hx).1; omega), Below.refl _ _⟩
  case round =>
    obtain ⟨i, j, rfl, rfl, hij, hjl, HLo, HHi, hB⟩ := hrel
    have hBs := hB.size
    by_cases hlt : i < j
    · have hlt' : (i : Int) < (j : Int) := by omega
      obtain ⟨h, hh⟩ : ∃ h : Nat, ((i : Int) + (j : Int)) / 2 = (h : Int) := ⟨(i + j) / 2, by omega⟩
      have hih : i ≤ h := by omega
      have hhj : h < j := by omega
      have hhl : h < l.length := by omega
      have hhl' : (h : Int) < (l.length : Int) := by omega
      have hh0 : (0 : Int) ≤ (h : Int) := by omega
      obtain ⟨x, hx⟩ : ∃ x, l[h]? = some x := ⟨l[h], List.getElem?_eq_getElem hhl⟩
      obtain ⟨a, p3, q3, rfl, ha, Hx, c0, _⟩ := rw_at S1 hB hx
      have hal : (a.add h).block < wr.heap.size := by rw [addBlock]; omega
      have HC := Lib.hid (pcompare_c x t _ _ wr Hx.out (VlS.past H2.out hB))
      obtain ⟨z, hz⟩ : ∃ z, rwC x t = z := ⟨_, rfl⟩
      rw [hz] at HC
      have Hz := Lib.hid hz
      have HX := Lib.hid hx
      clear hz hx Hx
      by_cases hz0 : z < 0
      · have hz1 : decide (z < 0) = true := decide_eq_true hz0
        have HLo2 : Hid (∀ k x, k < h + 1 → l[k]? = some x → rwC x t < 0) := Lib.hid (fun k y hk hy => by
          rcases Nat.lt_or_ge k h with h1 | h1
          · have := rise_at rwC_tot hr h1 hy HX.out
            exact rwC_tot.lt_le this (by rw [Hz.out]; omega)
          · have : k = h := by omega
            subst this
            rw [HX.out] at hy; cases hy
            rw [Hz.out]; exact hz0)
        go_wp2_with (go_at_fn 15; refine HC.out.mono ?_; rintro e w2 ⟨rfl, b2⟩; have HB2 := Lib.hid (hB.trans (b2.mono hBs)); clear b2 HC)
        go_roundw
        case rel => exact ⟨h + 1, j, by go_num, rfl, by omega, hjl, HLo2, HHi, HB2.out⟩
        case measure => simp [intOf]; omega
      · have hz1 : decide (z < 0) = false := decide_eq_false hz0
        have HHi2 : Hid (∀ k x, h ≤ k → l[k]? = some x → 0 ≤ rwC x t) := Lib.hid (fun k y hk hy => by
          rcases Nat.lt_or_ge h k with h1 | h1
          · have h3 := rise_at rwC_tot hr h1 HX.out hy
            rcases Int.lt_or_le (rwC y t) 0 with h4 | h4
            · have := rwC_tot.lt_le h3 (Int.le_of_lt h4)
              rw [Hz.out] at this
              omega
            · exact h4
          · have : k = h := by omega
            subst this
            rw [HX.out] at hy; cases hy
            rw [Hz.out]; omega)
        go_wp2_with (go_at_fn 15; refine HC.out.mono ?_; rintro e w2 ⟨rfl, b2⟩; have HB2 := Lib.hid (hB.trans (b2.mono hBs)); clear b2 HC)
        all_goals first
          | (exfalso; omega)
          | (go_roundw
             case rel => exact ⟨i, h, rfl, rfl, hih, by omega, HLo, HHi2, HB2.out⟩
             case measure => simp [intOf]; omega)
    · have hlt' : ¬ (i : Int) < (j : Int) := by omega
      have hf := in_found rwC_tot (t := t) hr HLo.out (fun k x hk => HHi.out k x (by omega))
      by_cases hil : i < l.length
      · have hil' : (i : Int) < (l.length : Int) := by omega
        have hi0 : (0 : Int) ≤ (i : Int) := by omega
        obtain ⟨x, hx⟩ : ∃ x, l[i]? = some x := ⟨l[i], List.getElem?_eq_getElem hil⟩
        obtain ⟨a, p3, q3, rfl, ha, Hx, c0, _⟩ := rw_at S1 hB hx
        have hal : (a.add i).block < wr.heap.size := by rw [addBlock]; omega
        have HC := Lib.hid (pcompare_c x t _ _ wr Hx.out (VlS.past H2.out hB))
        rw [hx] at hf
        obtain ⟨z, hz⟩ : ∃ z, rwC x t = z := ⟨_, rfl⟩
        rw [hz] at HC
        simp only [hz] at hf
        have Hf := Lib.hid hf
        clear hz hx Hx hf
        go_wp2_with (go_at_fn 15; refine HC.out.mono ?_; rintro e w2 ⟨rfl, b2⟩; have HB2 := Lib.hid (hB.trans (b2.mono hBs)); clear b2 HC)
        go_ret2
        exact ⟨⟨_, by rw [Hf.out]; rfl⟩, HB2.out⟩
      · have hil' : ¬ (i : Int) < (l.length : Int) := by omega
        rw [List.getElem?_eq_none (by omega)] at hf
        have Hf := Lib.hid hf
        clear hf
        go_wp2
        go_ret2
        exact ⟨⟨_, by rw [Hf.out]; rfl⟩, hB⟩
set_option maxRecDepth 100000 in
set_option maxHeartbeats 4000000 in
theorem phas_c (l : List Rw) (t : Rw) (v u : Value) (w : World) (hl : l.length ≤ 1000000) (h1 : RwsS w w.heap.size l v) (h2 : SlOf w w.heap.size 3 VlC t u) :
    Calls Try.prog 9 #[v, u] w fun e w' => e = .returned (.tuple #[.bool (riseL rwC l && inL rwC l t), .int .i64 (if riseL rwC l = true then 0 else 80)]) ∧ Below w.heap.size w w' := by
  have HR := Lib.hid (prise_c l v w h1)
  have HB := Lib.hid (fun (W : World) (hb : Below w.heap.size w W) (hr : riseL rwC l = true) => bsearch_c l t v u W hl (RwsS.past h1 hb) (VlS.past h2 hb) hr)
  clear h1 h2
  obtain ⟨ra, hra⟩ : ∃ x, riseL rwC l = x := ⟨_, rfl⟩
  rw [hra] at HR HB ⊢
  clear hra
  go_enter Try.func9, Try.ntmps9
  go_wp2_with fail
  refine HR.out.mono ?_
  rintro e w1 ⟨rfl, b1⟩
  cases ra with
  | false =>
    go_wp2
    go_ret2
    exact ⟨rfl, b1⟩
  | true =>
    go_wp2_with fail
    refine (HB.out w1 b1 (by trivial)).mono ?_
    rintro e w2 ⟨⟨i, rfl⟩, b2⟩
    go_wp2
    go_ret2
    exact ⟨rfl, b1.trans (b2.mono b1.size)⟩
end Go.Proofs.Ytphmiifochjemaa
