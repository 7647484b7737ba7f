/- slices.symMergeCmpFunc at rows: where one side is one row. -/
import Derived.Test.YtphmiifochjemaaPin
import Derived.Test.YtphmiifochjemaaPro
namespace Go.Proofs.Ytphmiifochjemaa
open Go.RowKit

section
variable {α : Type} {c : α → α → Int}
theorem up_last (hc : TotC c) {X : List α} {x : α} (u : upL c X) (h : X = [] ∨ ∃ l, X.getLast? = some l ∧ c l x ≤ 0) : ∀ y ∈ X, c y x ≤ 0 := by
  intro y hy
  rcases h with rfl | ⟨l, hl, h⟩
  · cases hy
  · rcases List.eq_nil_or_concat X with rfl | ⟨X', z, rfl⟩
    · cases hy
    · rw [List.concat_eq_append] at *
      simp at hl
      subst hl
      rcases List.mem_append.1 hy with hy | hy
      · exact hc.trans y z x ((up_app.1 u).2.2 y hy z (by simp)) h
      · rw [List.mem_singleton.1 hy]; exact h
theorem up_first (hc : TotC c) {Y : List α} {x : α} (u : upL c Y) (h : Y = [] ∨ ∃ f, Y.head? = some f ∧ c x f ≤ 0) : ∀ y ∈ Y, c x y ≤ 0 := by
  intro y hy
  rcases h with rfl | ⟨f, hf, h⟩
  · cases hy
  · cases Y with
    | nil => cases hy
    | cons f' Y' =>
      simp at hf
      subst hf
      rcases List.mem_cons.1 hy with rfl | hy
      · exact h
      · exact hc.trans x f' y h ((up_cons.1 u).1 y hy)
end
theorem get_third {α : Type} (P A B S : List α) {i t : Nat} (hi : P.length + A.length + t = i) (ht : t < B.length) : (P ++ (A ++ (B ++ S)))[i]? = B[t]? := by
  subst hi
  rw [List.getElem?_append_right (by omega), List.getElem?_append_right (by omega), List.getElem?_append_left (by omega)]
  congr 1; omega
theorem get_second {α : Type} (P A R : List α) {i t : Nat} (hi : P.length + t = i) (ht : t < A.length) : (P ++ (A ++ R))[i]? = A[t]? := by
  subst hi
  rw [List.getElem?_append_right (by omega), List.getElem?_append_left (by omega)]
  congr 1; omega
theorem take_last {α : Type} {l : List α} {k : Nat} {x : α} (h : l[k]? = some x) : (l.take (k + 1)).getLast? = some x := by
  rw [List.take_add_one, h]; simp
theorem drop_head {α : Type} {l : List α} {k : Nat} {x : α} (h : l[k]? = some x) : (l.drop k).head? = some x := by
  rw [List.head?_drop]; exact h
def SymP (w0 : World) (g : Nat) (tl : List Value) (P A B S : List Hd) (e : Ending) (w' : World) : Prop := e = .returned (.tuple #[]) ∧ ∃ M : List Hd, M.Perm (A ++ B) ∧ upL hdC M ∧ SrW w0 g tl (P ++ (M ++ S)) w'

set_option linter.unusedSimpArgs false in
set_option maxRecDepth 100000 in
set_option maxHeartbeats 16000000 in
theorem sym_a (P : List Hd) (x : Hd) (B S : List Hd) (a m b N c : Nat) (tl : List Value) (w0 W : World) (g : Nat) (hP : P.length = a) (hm : a + 1 = m) (hb : m + B.length = b) (hN : (P ++ ([x] ++ (B ++ S))).length = N) (hmax : N ≤ 1000000) (uB : upL hdC B) (h : SrW w0 g tl (P ++ ([x] ++ (B ++ S))) W) :
    Calls Try.prog 42 #[.slice (some ⟨g, 0, none⟩) N c, .int .i64 a, .int .i64 m, .int .i64 b, .func (.func 15) #[] #[]] W (SymP w0 g tl P [x] B S) := by
  have HH := Lib.hid h
  have eg : ∀ args w, (callFunc 15 args).run Try.prog w = .ok (.enter 15 args) w := enters_of Try.func15 (by kernel_rfl) rfl
  have hbN : b ≤ N := by rw [← hN, ← hb, ← hm, ← hP]; simp only [List.length_append, List.length_cons, List.length_nil]; omega
  have Hb := Lib.hid hb
  have HP := Lib.hid hP
  have Hm := Lib.hid hm
  have HU := Lib.hid uB
  have hone : ((m : Int) - (a : Int) == 1) = true := by simp; omega
  have hone' : (m : Int) - (a : Int) = 1 := by omega
  have ham : a < m := by omega
  have hmb : m ≤ b := by omega
  clear h hb hP hN hm uB
  go_enter Try.func42, Try.ntmps42
  go_wp2
  clear hone hone'
  go_loopw [10, 11] (fun vi vj wr => ∃ (i j : Nat), vi = .int .i64 i ∧ vj = .int .i64 j ∧ m ≤ i ∧ i ≤ j ∧ j ≤ b ∧ Hid (i = m ∨ ∃ t y, i = m + t + 1 ∧ B[t]? = some y ∧ hdC y x < 0) ∧ Hid (j = b ∨ ∃ t y, j = m + t ∧ B[t]? = some y ∧ 0 ≤ hdC y x) ∧ Hid (SrW w0 g tl (P ++ ([x] ++ (B ++ S))) wr)) (fun vi vj _ => (intOf vj).toNat - (intOf vi).toNat)
  case atStart => exact ⟨m, b, rfl, rfl, Nat.le_refl _, hmb, Nat.le_refl _, Lib.hid (.inl rfl), Lib.hid (.inl rfl), HH⟩
  case round =>
    obtain ⟨i, j, rfl, rfl, hmi, hij, hjb, HLo, HHi, HS⟩ := hrel
    by_cases hlt : i < j
    · have hlt' : (i : Int) < (j : Int) := by omega
      obtain ⟨h, hh⟩ : ∃ h : Nat, ((i : Int) + (j : Int)) / 2 = (h : Int) := ⟨(i + j) / 2, by omega⟩
      have hih : i ≤ h := by omega
      have hhj : h < j := by omega
      have hhN : (h : Int) < (N : Int) := by omega
      have hh0 : (0 : Int) ≤ (h : Int) := by omega
      have haN : (a : Int) < (N : Int) := by omega
      have ha0 : (0 : Int) ≤ (a : Int) := by omega
      obtain ⟨t, ht⟩ : ∃ t, h = m + t := ⟨h - m, by omega⟩
      have htB : t < B.length := by have := Hb.out; omega
      obtain ⟨y, hy⟩ : ∃ y, B[t]? = some y := ⟨B[t], List.getElem?_eq_getElem htB⟩
      have gy : (P ++ ([x] ++ (B ++ S)))[h]? = some y := by rw [get_third P [x] B S (t := t) (by have := Hm.out; have := HP.out; simp; omega) htB]; exact hy
      have gx : (P ++ ([x] ++ (B ++ S)))[a]? = some x := by rw [get_second P [x] (B ++ S) (t := 0) (by have := HP.out; omega) (by simp)]; rfl
      have cy := HS.out.cell gy
      have cx := HS.out.cell gx
      have hglt := HS.out.lt
      have HC := Lib.hid (fun (W' : World) (hb : Below wr.heap.size wr W') => HS.out.cmp (x := y) (y := x) (List.mem_of_getElem? gy) (List.mem_of_getElem? gx) hb)
      have HY := Lib.hid hy
      have Ht := Lib.hid ht
      obtain ⟨z, hz⟩ : ∃ z, hdC y x = z := ⟨_, rfl⟩
      have hz' : rwC y.1 x.1 = z := hz
      have Hz := Lib.hid hz
      simp only [hz'] at HC
      clear hy gy gx ht hz hz'
      by_cases hz0 : z < 0
      · have hz1 : decide (z < 0) = true := decide_eq_true hz0
        go_wp2_with fail
        go_still_tail 9, (by kernel_rfl)
        go_wp2_with (go_at_fn 15; refine (HC.out _ (Below.refl _ _).drew).mono ?_; rintro e w2 ⟨rfl, b2⟩; have HS2 := Lib.hid (HS.out.drew.below b2); clear b2 HC cx cy)
        go_roundw
        case rel => exact ⟨h + 1, j, by go_num, rfl, by omega, by omega, hjb, Lib.hid (.inr ⟨t, y, by have := Ht.out; omega, HY.out, by rw [Hz.out]; exact hz0⟩), HHi, HS2⟩
        case measure => simp [intOf]; omega
      · have hz1 : decide (z < 0) = false := decide_eq_false hz0
        go_wp2_with fail
        go_still_tail 9, (by kernel_rfl)
        go_wp2_with (go_at_fn 15; refine (HC.out _ (Below.refl _ _).drew).mono ?_; rintro e w2 ⟨rfl, b2⟩; have HS2 := Lib.hid (HS.out.drew.below b2); clear b2 HC cx cy)
        all_goals first
          | (exfalso; omega)
          | (go_roundw
             case rel => exact ⟨i, h, rfl, rfl, hmi, hih, by omega, HLo, Lib.hid (.inr ⟨t, y, Ht.out, HY.out, by rw [Hz.out]; omega⟩), HS2⟩
             case measure => simp [intOf]; omega)
    · have hlt' : ¬ (i : Int) < (j : Int) := by omega
      have hij2 : j = i := by omega
      subst hij2
      obtain ⟨p, hp⟩ : ∃ p, j = m + p := ⟨j - m, by omega⟩
      have hpB : p ≤ B.length := by have := Hb.out; omega
      obtain ⟨B1, hB1⟩ : ∃ B1, B.take p = B1 := ⟨_, rfl⟩
      obtain ⟨B2, hB2⟩ : ∃ B2, B.drop p = B2 := ⟨_, rfl⟩
      have hBB : B = B1 ++ B2 := by rw [← hB1, ← hB2, List.take_append_drop]
      have hlB1 : B1.length = p := by rw [← hB1, List.length_take]; omega
      have HUp : Hid (upL hdC (B1 ++ x :: B2)) := Lib.hid (by
        have u := HU.out
        rw [hBB] at u
        refine up_ins hdC_tot u (up_last hdC_tot (up_app.1 u).1 ?_) (up_first hdC_tot (up_app.1 u).2.1 ?_)
        · rcases HLo.out with h | ⟨t, y, h1, h2, h3⟩
          · left; exact List.eq_nil_of_length_eq_zero (by omega)
          · right
            have : p = t + 1 := by omega
            exact ⟨y, by rw [← hB1, this]; exact take_last h2, by omega⟩
        · rcases HHi.out with h | ⟨t, y, h1, h2, h3⟩
          · left; rw [← hB2]; exact List.drop_of_length_le (by have := Hb.out; omega)
          · right
            have : p = t := by omega
            have ha := hdC_tot.anti y x
            exact ⟨y, by rw [← hB2, this]; exact drop_head h2, by omega⟩)
      have HPm : Hid ((B1 ++ x :: B2).Perm ([x] ++ B)) := Lib.hid (by rw [hBB]; exact List.perm_middle)
      have HS0 : Hid (SrW w0 g tl (P ++ ([] ++ (x :: (B1 ++ (B2 ++ S))))) wr) := Lib.hid (by have := HS.out; rw [hBB] at this; simpa using this)
      obtain ⟨E, hE⟩ : ∃ E : Nat, (j : Int) - 1 = (E : Int) := ⟨j - 1, by omega⟩
      have hEp : E = a + p := by have := Hm.out; omega
      have wE : IntKind.i64.wrap (E : Int) = (E : Int) := by rw [IntKind.wrap_i64]; omega
      have HEp := Lib.hid hEp
      have HlB := Lib.hid hlB1
      have hEN : E + 1 ≤ N := by omega
      have haE : a ≤ E := by omega
      clear HLo HHi hp hB1 hB2 hBB hEp hlB1 hpB HS
      go_wp2
      go_loopw [13] (fun vk wx => ∃ (k : Nat) (C1 C2 : List Hd), vk = .int .i64 k ∧ a ≤ k ∧ k ≤ E ∧ Hid (B1 = C1 ++ C2) ∧ Hid (P.length + C1.length = k) ∧ Hid (SrW w0 g tl (P ++ (C1 ++ (x :: (C2 ++ (B2 ++ S))))) wx)) (fun vk _ => E - (intOf vk).toNat)
      case atStart => exact ⟨a, [], B1, rfl, Nat.le_refl _, haE, Lib.hid rfl, Lib.hid (by rw [HP.out]; rfl), HS0⟩
      case round =>
        obtain ⟨k, C1, C2, rfl, hak, hkE, HC12, HK, HX⟩ := hrel
        clear HS0
        by_cases hkl : k < E
        · have hkl' : (k : Int) < (E : Int) := by omega
          obtain ⟨y, C3, hC2⟩ : ∃ y C3, C2 = y :: C3 := by
            cases C2 with
            | nil =>
              exfalso
              have h1 := congrArg List.length HC12.out
              have h2 := HlB.out
              have h3 := HK.out
              have h4 := HP.out
              have h5 := HEp.out
              simp at h1
              omega
            | cons y C3 => exact ⟨y, C3, rfl⟩
          subst hC2
          obtain ⟨rx, vx⟩ := x
          obtain ⟨ry, vy⟩ := y
          obtain ⟨ox, cx', hvx⟩ := srw_slice HX.out (x := (rx, vx)) (by simp)
          obtain ⟨oy, cy', hvy⟩ := srw_slice HX.out (x := (ry, vy)) (by simp)
          simp only at hvx hvy
          subst hvx; subst hvy
          have hjk : (P ++ C1).length = k := by have := HK.out; simp only [List.length_append]; exact this
          have el : P ++ (C1 ++ ((rx, Value.slice ox rx.length cx') :: (((ry, Value.slice oy ry.length cy') :: C3) ++ (B2 ++ S)))) = (P ++ C1) ++ (rx, Value.slice ox rx.length cx') :: ([] ++ (ry, Value.slice oy ry.length cy') :: (C3 ++ (B2 ++ S))) := by simp
          have er : P ++ ((C1 ++ [(ry, Value.slice oy ry.length cy')]) ++ ((rx, Value.slice ox rx.length cx') :: (C3 ++ (B2 ++ S)))) = (P ++ C1) ++ (ry, Value.slice oy ry.length cy') :: ([] ++ (rx, Value.slice ox rx.length cx') :: (C3 ++ (B2 ++ S))) := by simp
          have hX := HX.out
          rw [el] at hX
          have gx := get_mid (P ++ C1) ([] ++ (ry, Value.slice oy ry.length cy') :: (C3 ++ (B2 ++ S))) (rx, Value.slice ox rx.length cx') hjk
          have gy : ((P ++ C1) ++ (rx, Value.slice ox rx.length cx') :: ([] ++ (ry, Value.slice oy ry.length cy') :: (C3 ++ (B2 ++ S))))[k + 1]? = some (ry, Value.slice oy ry.length cy') := by
            rw [← hjk, List.getElem?_append_right (by omega), show (P ++ C1).length + 1 - (P ++ C1).length = 1 by omega]; rfl
          have hkN' : (k : Int) + 1 < (N : Int) := by omega
          have hkN2 : (k : Int) < (N : Int) := by omega
          have hk0 : (0 : Int) ≤ (k : Int) := by omega
          have hk1 : (0 : Int) ≤ (k : Int) + 1 := by omega
          have wk : IntKind.i64.wrap ((k : Int) + 1) = (k : Int) + 1 := by rw [IntKind.wrap_i64]; omega
          have cx := hX.cell gx
          have cy := hX.cell gy
          have fx := hX.froz (k + 1)
          have fy := hX.froz k
          obtain ⟨c3, f3⟩ := hX.drew.after (show k ≠ k + 1 by omega) gy (.slice oy ry.length cy')
          obtain ⟨c4, f4⟩ := hX.drew.after (show k + 1 ≠ k by omega) gx (.slice ox rx.length cx')
          have hS5 := (hX.swap (i := k) (j := k + 1) hjk (by simp only [List.length_nil]; omega)).drew
          rw [← er] at hS5
          have HS5 := Lib.hid hS5
          have hglt2 := hX.lt
          clear hX gx gy hS5 el er
          go_wp2_with fail
          go_region
          clear c3 f3 c4 f4 cx cy fx fy
          go_wp2
          go_roundw
          case rel => exact ⟨k + 1, C1 ++ [(ry, Value.slice oy ry.length cy')], C3, by go_num, by omega, hkl, Lib.hid (by rw [HC12.out]; simp), Lib.hid (by have := HK.out; simp only [List.length_append, List.length_cons, List.length_nil]; omega), HS5⟩
          case measure => simp [intOf]; omega
        · have hkl' : ¬ (k : Int) < (E : Int) := by omega
          have hC2 : C2 = [] := List.eq_nil_of_length_eq_zero (by
            have h1 := congrArg List.length HC12.out
            have h2 := HlB.out
            have h3 := HK.out
            have h4 := HP.out
            have h5 := HEp.out
            simp only [List.length_append] at h1
            omega)
          subst hC2
          have HF : Hid (SrW w0 g tl (P ++ ((B1 ++ x :: B2) ++ S)) wr) := Lib.hid (by have := HX.out; rw [HC12.out]; simpa using this)
          go_wp2
          go_end0
          exact ⟨rfl, B1 ++ x :: B2, HPm.out, HUp.out, HF.out⟩
end Go.Proofs.Ytphmiifochjemaa
