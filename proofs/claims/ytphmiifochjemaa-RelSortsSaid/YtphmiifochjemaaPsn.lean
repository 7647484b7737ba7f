/- slices.symMergeCmpFunc at rows: where the second side is one row. -/
import Derived.Test.YtphmiifochjemaaPsm
namespace Go.Proofs.Ytphmiifochjemaa
open Go.RowKit

set_option linter.unusedSimpArgs false in
set_option maxRecDepth 100000 in
set_option maxHeartbeats 16000000 in
theorem sym_b (P A : List Hd) (y : Hd) (S : List Hd) (a m b N c : Nat) (tl : List Value) (w0 W : World) (g : Nat) (hP : P.length = a) (hm : a + A.length = m) (hb : m + 1 = b) (hA : 2 ≤ A.length) (hN : (P ++ (A ++ ([y] ++ S))).length = N) (hmax : N ≤ 1000000) (uA : upL hdC A) (h : SrW w0 g tl (P ++ (A ++ ([y] ++ S))) W) :
    Calls Try.prog 42 #[.slice (some ⟨g, 0, none⟩) N c, .int .i64 a, .int .i64 m, .int .i64 b, .func (.func 15) #[] #[]] W (SymP w0 g tl P A [y] S) := by
  have HH := Lib.hid h
  have eg : ∀ args w, (callFunc 15 args).run Try.prog w = .ok (.enter 15 args) w := enters_of Try.func15 (by kernel_rfl) rfl
  have hbN : b ≤ N := by rw [← hN, ← hb, ← hm, ← hP]; simp only [List.length_append, List.length_cons, List.length_nil]; omega
  have HP := Lib.hid hP
  have Hm := Lib.hid hm
  have HU := Lib.hid uA
  have ham : a + 2 ≤ m := by omega
  have hmb : m < b := by omega
  have hone : ((m : Int) - (a : Int) == 1) = false := by simp; omega
  have hone' : ¬ (m : Int) - (a : Int) = 1 := by omega
  have htwo : ((b : Int) - (m : Int) == 1) = true := by simp; omega
  have htwo' : (b : Int) - (m : Int) = 1 := by omega
  have wma : IntKind.i64.wrap ((m : Int) - (a : Int)) = (m : Int) - (a : Int) := by rw [IntKind.wrap_i64]; omega
  clear h hb hP hN hm uA hA
  go_enter Try.func42, Try.ntmps42
  go_wp2
  clear hone hone' htwo htwo' wma
  go_loopw [14, 15] (fun vi vj wr => ∃ (i j : Nat), vi = .int .i64 i ∧ vj = .int .i64 j ∧ a ≤ i ∧ i ≤ j ∧ j ≤ m ∧ Hid (i = a ∨ ∃ t x, i = a + t + 1 ∧ A[t]? = some x ∧ 0 ≤ hdC y x) ∧ Hid (j = m ∨ ∃ t x, j = a + t ∧ A[t]? = some x ∧ hdC y x < 0) ∧ Hid (SrW w0 g tl (P ++ (A ++ ([y] ++ S))) wr)) (fun vi vj _ => (intOf vj).toNat - (intOf vi).toNat)
  case atStart => exact ⟨a, m, rfl, rfl, Nat.le_refl _, by omega, Nat.le_refl _, Lib.hid (.inl rfl), Lib.hid (.inl rfl), HH⟩
  case round =>
    obtain ⟨i, j, rfl, rfl, hmi, hij, hjb, HLo, HHi, HS⟩ := hrel
    by_cases hlt : i < j
    · have hlt' : (i : Int) < (j : Int) := by omega
      obtain ⟨h, hh⟩ : ∃ h : Nat, ((i : Int) + (j : Int)) / 2 = (h : Int) := ⟨(i + j) / 2, by omega⟩
      have hih : i ≤ h := by omega
      have hhj : h < j := by omega
      have hhN : (h : Int) < (N : Int) := by omega
      have hh0 : (0 : Int) ≤ (h : Int) := by omega
      have hmN : (m : Int) < (N : Int) := by omega
      have hm0 : (0 : Int) ≤ (m : Int) := by omega
      obtain ⟨t, ht⟩ : ∃ t, h = a + t := ⟨h - a, by omega⟩
      have htA : t < A.length := by have := Hm.out; omega
      obtain ⟨x, hx⟩ : ∃ x, A[t]? = some x := ⟨A[t], List.getElem?_eq_getElem htA⟩
      have gx : (P ++ (A ++ ([y] ++ S)))[h]? = some x := by rw [get_second P A ([y] ++ S) (t := t) (by have := HP.out; omega) htA]; exact hx
      have gy : (P ++ (A ++ ([y] ++ S)))[m]? = some y := by rw [get_third P A [y] S (t := 0) (by have := HP.out; have := Hm.out; omega) (by simp)]; rfl
      have cy := HS.out.cell gy
      have cx := HS.out.cell gx
      have hglt := HS.out.lt
      have HC := Lib.hid (fun (W' : World) (hb : Below wr.heap.size wr W') => HS.out.cmp (x := y) (y := x) (List.mem_of_getElem? gy) (List.mem_of_getElem? gx) hb)
      have HY := Lib.hid hx
      have Ht := Lib.hid ht
      obtain ⟨z, hz⟩ : ∃ z, hdC y x = z := ⟨_, rfl⟩
      have hz' : rwC y.1 x.1 = z := hz
      have Hz := Lib.hid hz
      simp only [hz'] at HC
      clear hx gy gx ht hz hz'
      by_cases hz0 : z < 0
      · have hz1 : decide (z < 0) = true := decide_eq_true hz0
        go_wp2_with fail
        go_still_tail 9, (by kernel_rfl)
        go_wp2_with (go_at_fn 15; refine (HC.out _ (Below.refl _ _).drew).mono ?_; rintro e w2 ⟨rfl, b2⟩; have HS2 := Lib.hid (HS.out.drew.below b2); clear b2 HC cx cy)
        all_goals first
          | (exfalso; omega)
          | (go_roundw
             case rel => exact ⟨i, h, rfl, rfl, hmi, hih, by omega, HLo, Lib.hid (.inr ⟨t, x, Ht.out, HY.out, by rw [Hz.out]; exact hz0⟩), HS2⟩
             case measure => simp [intOf]; omega)
      · have hz1 : decide (z < 0) = false := decide_eq_false hz0
        go_wp2_with fail
        go_still_tail 9, (by kernel_rfl)
        go_wp2_with (go_at_fn 15; refine (HC.out _ (Below.refl _ _).drew).mono ?_; rintro e w2 ⟨rfl, b2⟩; have HS2 := Lib.hid (HS.out.drew.below b2); clear b2 HC cx cy)
        all_goals first
          | (exfalso; omega)
          | (go_roundw
             case rel => exact ⟨h + 1, j, by go_num, rfl, by omega, by omega, hjb, Lib.hid (.inr ⟨t, x, by have := Ht.out; omega, HY.out, by rw [Hz.out]; omega⟩), HHi, HS2⟩
             case measure => simp [intOf]; omega)
    · have hlt' : ¬ (i : Int) < (j : Int) := by omega
      have hij2 : j = i := by omega
      subst hij2
      obtain ⟨p, hp⟩ : ∃ p, j = a + p := ⟨j - a, by omega⟩
      have hpA : p ≤ A.length := by have := Hm.out; omega
      obtain ⟨A1, hA1⟩ : ∃ A1, A.take p = A1 := ⟨_, rfl⟩
      obtain ⟨A2, hA2⟩ : ∃ A2, A.drop p = A2 := ⟨_, rfl⟩
      have hAA : A = A1 ++ A2 := by rw [← hA1, ← hA2, List.take_append_drop]
      have hlA1 : A1.length = p := by rw [← hA1, List.length_take]; omega
      have HUp : Hid (upL hdC (A1 ++ y :: A2)) := Lib.hid (by
        have u := HU.out
        rw [hAA] at u
        refine up_ins hdC_tot u (up_last hdC_tot (up_app.1 u).1 ?_) (up_first hdC_tot (up_app.1 u).2.1 ?_)
        · rcases HLo.out with h | ⟨t, x, h1, h2, h3⟩
          · left; exact List.eq_nil_of_length_eq_zero (by omega)
          · right
            have : p = t + 1 := by omega
            have ha := hdC_tot.anti x y
            exact ⟨x, by rw [← hA1, this]; exact take_last h2, by omega⟩
        · rcases HHi.out with h | ⟨t, x, h1, h2, h3⟩
          · left; rw [← hA2]; exact List.drop_of_length_le (by have := Hm.out; omega)
          · right
            have : p = t := by omega
            exact ⟨x, by rw [← hA2, this]; exact drop_head h2, by omega⟩)
      have HPm : Hid ((A1 ++ y :: A2).Perm (A ++ [y])) := Lib.hid (by
        rw [hAA, List.append_assoc]
        exact List.Perm.append_left _ (List.perm_append_comm (l₁ := [y]) (l₂ := A2)))
      have HS0 : Hid (SrW w0 g tl (P ++ (A1 ++ (A2 ++ (y :: ([] ++ S))))) wr) := Lib.hid (by have := HS.out; rw [hAA] at this; simpa using this)
      have HlA : Hid (P.length + A1.length = j) := Lib.hid (by have := HP.out; omega)
      have HlAA : Hid (P.length + A1.length + A2.length = m) := Lib.hid (by have := congrArg List.length hAA; have := HP.out; have := Hm.out; simp only [List.length_append] at *; omega)
      clear HLo HHi hp hA1 hA2 hAA hlA1 hpA HS
      go_wp2
      go_loopw [17] (fun vk wx => ∃ (k : Nat) (C1 C2 : List Hd), vk = .int .i64 k ∧ j ≤ k ∧ k ≤ m ∧ Hid (A2 = C1 ++ C2) ∧ Hid (P.length + A1.length + C1.length = k) ∧ Hid (SrW w0 g tl (P ++ (A1 ++ (C1 ++ (y :: (C2 ++ S))))) wx)) (fun vk _ => (intOf vk).toNat)
      case atStart => exact ⟨m, A2, [], rfl, by omega, Nat.le_refl _, Lib.hid (by simp), HlAA, HS0⟩
      case round =>
        obtain ⟨k, C1, C2, rfl, hak, hkm, HC12, HK, HX⟩ := hrel
        clear HS0
        by_cases hkl : j < k
        · have hkl' : (k : Int) > (j : Int) := by omega
          have hkl'' : (j : Int) < (k : Int) := by omega
          obtain ⟨C0, x, hC1⟩ : ∃ C0 x, C1 = C0 ++ [x] := by
            rcases List.eq_nil_or_concat C1 with h | ⟨C0, x, h⟩
            · exfalso
              have h3 := HK.out
              have h4 := HlA.out
              rw [h] at h3
              simp at h3
              omega
            · exact ⟨C0, x, by rw [h, List.concat_eq_append]⟩
          subst hC1
          obtain ⟨rx, vx⟩ := x
          obtain ⟨ry, vy⟩ := y
          obtain ⟨ox, cx', hvx⟩ := srw_slice HX.out (x := (rx, vx)) (by simp)
          obtain ⟨oy, cy', hvy⟩ := srw_slice HX.out (x := (ry, vy)) (by simp)
          simp only at hvx hvy
          subst hvx; subst hvy
          obtain ⟨q, hq⟩ : ∃ q, k = q + 1 := ⟨k - 1, by omega⟩
          subst hq
          have hjq : (P ++ (A1 ++ C0)).length = q := by have := HK.out; simp only [List.length_append, List.length_cons, List.length_nil] at this ⊢; omega
          have el : P ++ (A1 ++ ((C0 ++ [(rx, Value.slice ox rx.length cx')]) ++ ((ry, Value.slice oy ry.length cy') :: (C2 ++ S)))) = (P ++ (A1 ++ C0)) ++ (rx, Value.slice ox rx.length cx') :: ([] ++ (ry, Value.slice oy ry.length cy') :: (C2 ++ S)) := by simp
          have er : P ++ (A1 ++ (C0 ++ ((ry, Value.slice oy ry.length cy') :: (((rx, Value.slice ox rx.length cx') :: C2) ++ S)))) = (P ++ (A1 ++ C0)) ++ (ry, Value.slice oy ry.length cy') :: ([] ++ (rx, Value.slice ox rx.length cx') :: (C2 ++ S)) := by simp
          have hX := HX.out
          rw [el] at hX
          have gx := get_mid (P ++ (A1 ++ C0)) ([] ++ (ry, Value.slice oy ry.length cy') :: (C2 ++ S)) (rx, Value.slice ox rx.length cx') hjq
          have gy : ((P ++ (A1 ++ C0)) ++ (rx, Value.slice ox rx.length cx') :: ([] ++ (ry, Value.slice oy ry.length cy') :: (C2 ++ S)))[q + 1]? = some (ry, Value.slice oy ry.length cy') := by
            rw [← hjq, List.getElem?_append_right (by omega), show (P ++ (A1 ++ C0)).length + 1 - (P ++ (A1 ++ C0)).length = 1 by omega]; rfl
          have hqN' : (q : Int) + 1 < (N : Int) := by omega
          have hqN2 : (q : Int) < (N : Int) := by omega
          have hq0 : (0 : Int) ≤ (q : Int) := by omega
          have hq1 : (0 : Int) ≤ (q : Int) + 1 := by omega
          have zq : (q : Int) + 1 - 1 = (q : Int) := by omega
          have wq : IntKind.i64.wrap (q : Int) = (q : Int) := by rw [IntKind.wrap_i64]; omega
          have cx := hX.cell gx
          have cy := hX.cell gy
          have fx := hX.froz (q + 1)
          have fy := hX.froz q
          obtain ⟨c3, f3⟩ := hX.drew.after (show q + 1 ≠ q by omega) gx (.slice ox rx.length cx')
          obtain ⟨c4, f4⟩ := hX.drew.after (show q ≠ q + 1 by omega) gy (.slice oy ry.length cy')
          have hS5 := (hX.swap' (i := q) (j := q + 1) hjq (by simp only [List.length_nil]; omega)).drew
          rw [← er] at hS5
          have HS5 := Lib.hid hS5
          have hglt2 := hX.lt
          clear hX gx gy hS5 el er
          go_wp2_with fail
          go_region
          clear c3 f3 c4 f4 cx cy fx fy
          go_wp2
          go_roundw
          case rel => exact ⟨q, C0, (rx, Value.slice ox rx.length cx') :: C2, by go_num, by omega, by omega, Lib.hid (by rw [HC12.out]; simp), Lib.hid (by have := hjq; simp only [List.length_append] at this; omega), HS5⟩
          case measure => simp [intOf]
        · have hkl' : ¬ (k : Int) > (j : Int) := by omega
          have hkl'' : ¬ (j : Int) < (k : Int) := by omega
          have hC1 : C1 = [] := List.eq_nil_of_length_eq_zero (by
            have h3 := HK.out
            have h4 := HlA.out
            omega)
          subst hC1
          have HF : Hid (SrW w0 g tl (P ++ ((A1 ++ y :: A2) ++ S)) wr) := Lib.hid (by have := HX.out; rw [HC12.out]; simpa using this)
          go_wp2
          go_end0
          exact ⟨rfl, A1 ++ y :: A2, HPm.out, HUp.out, HF.out⟩
end Go.Proofs.Ytphmiifochjemaa
