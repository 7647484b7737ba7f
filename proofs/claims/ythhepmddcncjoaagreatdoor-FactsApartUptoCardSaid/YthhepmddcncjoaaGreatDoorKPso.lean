/- slices.symMergeCmpFunc at rows: both sides of two rows or more; the whole of it. -/
import Derived.Test.YthhepmddcncjoaaGreatDoorKPin
set_option linter.unusedSimpArgs false
set_option linter.unusedVariables false
namespace Go.Proofs.YthhepmddcncjoaaGreatDoor
open Go.RowKit

def SymC (w0 : World) (g : Nat) (tl : List Value) (N c K : Nat) : Prop := ∀ (P A B S : List Hd) (a m b : Nat) (W : World), P.length = a → a + A.length = m → m + B.length = b → A ≠ [] → B ≠ [] → A.length + B.length < K → (P ++ (A ++ (B ++ S))).length = N → upL hdC A → upL hdC B → SrW w0 g tl (P ++ (A ++ (B ++ S))) W →
    Calls Tryz.prog 123 #[.slice (some ⟨g, 0, none⟩) N c, .int .i64 a, .int .i64 m, .int .i64 b, .func (.func 58) #[] #[]] W (SymP w0 g tl P A B S)
set_option linter.unusedSimpArgs false in
set_option maxRecDepth 100000 in
set_option maxHeartbeats 64000000 in
theorem sym_c (P A B S : List Hd) (a m b N c K : Nat) (tl : List Value) (w0 W : World) (g : Nat) (hP : P.length = a) (hm : a + A.length = m) (hb : m + B.length = b) (hA : 2 ≤ A.length) (hB : 2 ≤ B.length) (hK : A.length + B.length ≤ K) (IH : SymC w0 g tl N c K) (hN : (P ++ (A ++ (B ++ S))).length = N) (hmax : N ≤ 1000000) (uA : upL hdC A) (uB : upL hdC B) (h : SrW w0 g tl (P ++ (A ++ (B ++ S))) W) :
    Calls Tryz.prog 123 #[.slice (some ⟨g, 0, none⟩) N c, .int .i64 a, .int .i64 m, .int .i64 b, .func (.func 58) #[] #[]] W (SymP w0 g tl P A B S) := by
  have HH := Lib.hid h
  have eg : ∀ args w, (callFunc 58 args).run Tryz.prog w = .ok (.enter 58 args) w := enters_of Tryz.func58 (by kernel_rfl) rfl
  have hbN : b ≤ N := by rw [← hN, ← hb, ← hm, ← hP]; simp only [List.length_append]; omega
  have HP := Lib.hid hP
  have Hm := Lib.hid hm
  have Hb := Lib.hid hb
  have HN := Lib.hid hN
  have HUA := Lib.hid uA
  have HUB := Lib.hid uB
  have HIH := Lib.hid IH
  have HK := Lib.hid hK
  have ham : a + 2 ≤ m := by omega
  have hmb : m + 2 ≤ b := by omega
  clear h hb hP hN hm uA uB hA hB IH hK
  have hone : ((m : Int) - (a : Int) == 1) = false := by simp; omega
  have hone' : ¬ (m : Int) - (a : Int) = 1 := by omega
  have htwo : ((b : Int) - (m : Int) == 1) = false := by simp; omega
  have htwo' : ¬ (b : Int) - (m : Int) = 1 := by omega
  have wma : IntKind.i64.wrap ((m : Int) - (a : Int)) = (m : Int) - (a : Int) := by rw [IntKind.wrap_i64]; omega
  have wbm : IntKind.i64.wrap ((b : Int) - (m : Int)) = (b : Int) - (m : Int) := by rw [IntKind.wrap_i64]; omega
  obtain ⟨md, hmd⟩ : ∃ md : Nat, ((a : Int) + (b : Int)) / 2 = (md : Int) := ⟨(a + b) / 2, by omega⟩
  have hmd1 : 2 * md ≤ a + b := by omega
  have hmd2 : a + b ≤ 2 * md + 1 := by omega
  obtain ⟨nn, hnn⟩ : ∃ nn : Nat, (md : Int) + (m : Int) = (nn : Int) := ⟨md + m, by omega⟩
  have wnn : IntKind.i64.wrap (nn : Int) = (nn : Int) := by rw [IntKind.wrap_i64]; omega
  obtain ⟨pp, hpp⟩ : ∃ pp : Nat, (nn : Int) - 1 = (pp : Int) := ⟨nn - 1, by omega⟩
  have wpp : IntKind.i64.wrap (pp : Int) = (pp : Int) := by rw [IntKind.wrap_i64]; omega
  have HQ : (m > md ∧ ∃ s0 : Nat, (nn : Int) - (b : Int) = (s0 : Int)) ∨ m ≤ md := by
    rcases Nat.lt_or_ge md m with h | h
    · exact .inl ⟨h, nn - b, by omega⟩
    · exact .inr h
  rcases HQ with ⟨hq, s0, hs0⟩ | hq
  · have hq' : (m : Int) > (md : Int) := by omega
    have hq2 : (md : Int) < (m : Int) := by omega
    have ws0 : IntKind.i64.wrap (s0 : Int) = (s0 : Int) := by rw [IntKind.wrap_i64]; omega
    have Q1 : a ≤ s0 := by omega
    have Q2 : md ≤ m := by omega
    have Q3 : md ≤ md := Nat.le_refl _
    have Q4 : nn ≤ s0 + b := by omega
    have Q5 : s0 ≤ md := by omega
    have Q6 : s0 = a ∨ s0 + b = nn := by omega
    have Q7 : md = m ∨ md = md := .inr rfl
    have Q6 := Lib.hid Q6
    have Q7 := Lib.hid Q7
    go_enter Tryz.func123, Tryz.ntmps123
    go_wp2
    clear hone hone' htwo htwo' wma wbm hmd ws0 hs0 hq hq' hq2
    obtain ⟨r0, hr0⟩ : ∃ r0, r0 = md := ⟨_, rfl⟩
    have Q2 : r0 ≤ m := by omega
    have Q3 : r0 ≤ md := by omega
    have Q5 : s0 ≤ r0 := by omega
    have Q7 : Hid (r0 = m ∨ r0 = md) := Lib.hid (.inr hr0)
    go_loopw [20, 21] (fun vi vj wr => ∃ (s r : Nat), vi = .int .i64 s ∧ vj = .int .i64 r ∧ s0 ≤ s ∧ s ≤ r ∧ r ≤ r0 ∧ Hid (s = s0 ∨ ∃ t v x y, s = a + t + 1 ∧ nn = s + (m + v) ∧ A[t]? = some x ∧ B[v]? = some y ∧ hdC x y ≤ 0) ∧ Hid (r = r0 ∨ ∃ t v x y, r = a + t ∧ nn = r + (m + v + 1) ∧ A[t]? = some x ∧ B[v]? = some y ∧ hdC y x < 0) ∧ Hid (SrW w0 g tl (P ++ (A ++ (B ++ S))) wr)) (fun vi vj _ => (intOf vj).toNat - (intOf vi).toNat)
    case atStart => exact ⟨s0, r0, rfl, by (rw [hr0]), Nat.le_refl _, Q5, Nat.le_refl _, Lib.hid (.inl rfl), Lib.hid (.inl rfl), HH⟩
    case round =>
      obtain ⟨s, r, rfl, rfl, hs, hsr, hr, HLo, HHi, HS⟩ := hrel
      by_cases hlt : s < r
      · have hlt' : (s : Int) < (r : Int) := by omega
        obtain ⟨h, hh⟩ : ∃ h : Nat, ((s : Int) + (r : Int)) / 2 = (h : Int) := ⟨(s + r) / 2, by omega⟩
        have hsh : s ≤ h := by omega
        have hhr : h < r := by omega
        obtain ⟨u, hu⟩ : ∃ u : Nat, (pp : Int) - (h : Int) = (u : Int) := ⟨pp - h, by omega⟩
        have wu : IntKind.i64.wrap (u : Int) = (u : Int) := by rw [IntKind.wrap_i64]; omega
        have hmu : m ≤ u := by omega
        have hub : u < b := by omega
        have huN : (u : Int) < (N : Int) := by omega
        have hu0 : (0 : Int) ≤ (u : Int) := by omega
        have hhN : (h : Int) < (N : Int) := by omega
        have hh0 : (0 : Int) ≤ (h : Int) := by omega
        obtain ⟨t, ht⟩ : ∃ t, h = a + t := ⟨h - a, by omega⟩
        obtain ⟨v, hv⟩ : ∃ v, u = m + v := ⟨u - m, by omega⟩
        have htA : t < A.length := by have := Hm.out; omega
        have hvB : v < B.length := by have := Hb.out; omega
        obtain ⟨x, hx⟩ : ∃ x, A[t]? = some x := ⟨A[t], List.getElem?_eq_getElem htA⟩
        obtain ⟨y, hy⟩ : ∃ y, B[v]? = some y := ⟨B[v], List.getElem?_eq_getElem hvB⟩
        have gx : (P ++ (A ++ (B ++ S)))[h]? = some x := by rw [get_second P A (B ++ S) (t := t) (by have := HP.out; omega) htA]; exact hx
        have gy : (P ++ (A ++ (B ++ S)))[u]? = some y := by rw [get_third P A B S (t := v) (by have := HP.out; have := Hm.out; omega) hvB]; exact hy
        have cy := HS.out.cell gy
        have cx := HS.out.cell gx
        have hglt := HS.out.lt
        have HC := Lib.hid (fun (W' : World) (hb : Below wr.heap.size wr W') => HS.out.cmp (x := y) (y := x) (List.mem_of_getElem? gy) (List.mem_of_getElem? gx) hb)
        have Hx := Lib.hid hx
        have Hy := Lib.hid hy
        have Ht := Lib.hid ht
        have Hv := Lib.hid hv
        obtain ⟨z, hz⟩ : ∃ z, hdC y x = z := ⟨_, rfl⟩
        have hz' : rwC y.1 x.1 = z := hz
        have Hz := Lib.hid hz
        simp only [hz'] at HC
        clear hx hy gy gx ht hv hz hz'
        by_cases hz0 : z < 0
        · have hz1 : decide (z < 0) = true := decide_eq_true hz0
          go_wp2_with fail
          go_still_tail 11, (by kernel_rfl)
          go_wp2_with (go_at_fn 58; refine (HC.out _ (Below.refl _ _).drew).mono ?_; rintro e w2 ⟨rfl, b2⟩; have HS2 := Lib.hid (HS.out.drew.below b2); clear b2 HC cx cy)
          all_goals first
            | (exfalso; omega)
            | (go_roundw
               case rel => exact ⟨s, h, rfl, rfl, hs, hsh, by omega, HLo, Lib.hid (.inr ⟨t, v, x, y, Ht.out, by have := Ht.out; have := Hv.out; omega, Hx.out, Hy.out, by rw [Hz.out]; exact hz0⟩), HS2⟩
               case measure => simp [intOf]; omega)
        · have hz1 : decide (z < 0) = false := decide_eq_false hz0
          have wh1 : IntKind.i64.wrap ((h : Int) + 1) = (h : Int) + 1 := by rw [IntKind.wrap_i64]; omega
          go_wp2_with fail
          go_still_tail 11, (by kernel_rfl)
          go_wp2_with (go_at_fn 58; refine (HC.out _ (Below.refl _ _).drew).mono ?_; rintro e w2 ⟨rfl, b2⟩; have HS2 := Lib.hid (HS.out.drew.below b2); clear b2 HC cx cy)
          all_goals first
            | (exfalso; omega)
            | (go_roundw
               case rel => exact ⟨h + 1, r, by go_num, rfl, by omega, by omega, hr, Lib.hid (.inr ⟨t, v, x, y, by have := Ht.out; omega, by have := Ht.out; have := Hv.out; omega, Hx.out, Hy.out, by have ha := hdC_tot.anti y x; rw [Hz.out] at ha; omega⟩), HHi, HS2⟩
               case measure => simp [intOf]; omega)
      · have hlt' : ¬ (s : Int) < (r : Int) := by omega
        have hsr2 : r = s := by omega
        subst hsr2
        obtain ⟨en, hen⟩ : ∃ en : Nat, (nn : Int) - (r : Int) = (en : Int) := ⟨nn - r, by omega⟩
        have wen : IntKind.i64.wrap (en : Int) = (en : Int) := by rw [IntKind.wrap_i64]; omega
        have hmen : m ≤ en := by omega
        have henb : en ≤ b := by omega
        have har : a ≤ r := by omega
        have hrm : r ≤ m := by omega
        have hrmd : r ≤ md := by omega
        have hsum : en + r = md + m := by omega
        obtain ⟨A1, hA1⟩ : ∃ A1, A.take (r - a) = A1 := ⟨_, rfl⟩
        obtain ⟨A2, hA2⟩ : ∃ A2, A.drop (r - a) = A2 := ⟨_, rfl⟩
        obtain ⟨B1, hB1⟩ : ∃ B1, B.take (en - m) = B1 := ⟨_, rfl⟩
        obtain ⟨B2, hB2⟩ : ∃ B2, B.drop (en - m) = B2 := ⟨_, rfl⟩
        have hAA : A = A1 ++ A2 := by rw [← hA1, ← hA2, List.take_append_drop]
        have hBB : B = B1 ++ B2 := by rw [← hB1, ← hB2, List.take_append_drop]
        have lA1 : A1.length = r - a := by rw [← hA1, List.length_take]; have := Hm.out; omega
        have lA2 : A2.length = m - r := by rw [← hA2, List.length_drop]; have := Hm.out; omega
        have lB1 : B1.length = en - m := by rw [← hB1, List.length_take]; have := Hb.out; omega
        have lB2 : B2.length = b - en := by rw [← hB2, List.length_drop]; have := Hb.out; omega
        have uAA := HUA.out
        have uBB := HUB.out
        rw [hAA] at uAA
        rw [hBB] at uBB
        obtain ⟨X1, X2⟩ := up_cross hdC_tot uAA uBB (by
          rcases HLo.out with h | ⟨t, v, x, y, h1, h2, h3, h4, h5⟩
          · rcases Q6.out with h6 | h6
            · left; exact List.eq_nil_of_length_eq_zero (by omega)
            · right; left; exact List.eq_nil_of_length_eq_zero (by omega)
          · right; right
            have e1 : r - a = t + 1 := by omega
            have e2 : en - m = v := by omega
            exact ⟨x, y, by rw [← hA1, e1]; exact take_last h3, by rw [← hB2, e2]; exact drop_head h4, h5⟩) (by
          rcases HHi.out with h | ⟨t, v, x, y, h1, h2, h3, h4, h5⟩
          · rcases Q7.out with h6 | h6
            · right; left; exact List.eq_nil_of_length_eq_zero (by omega)
            · left; exact List.eq_nil_of_length_eq_zero (by omega)
          · right; right
            have e1 : r - a = t := by omega
            have e2 : en - m = v + 1 := by omega
            exact ⟨y, x, by rw [← hB1, e2]; exact take_last h4, by rw [← hA2, e1]; exact drop_head h3, by omega⟩)
        have hNN := HN.out
        rw [hAA, hBB] at hNN
        have FIN : Hid (∀ (W : World) (M1 M2 : List Hd), M1.Perm (A1 ++ B1) → upL hdC M1 → M2.Perm (A2 ++ B2) → upL hdC M2 → SrW w0 g tl ((P ++ M1) ++ (M2 ++ S)) W → SymP w0 g tl P A B S (.returned (.tuple #[])) W) := Lib.hid (fun W M1 M2 p1 u1 p2 u2 hS => by
          obtain ⟨f1, f2⟩ := up_four hdC_tot uAA uBB X1 X2 p1 p2 u1 u2
          refine ⟨rfl, M1 ++ M2, by rw [hAA, hBB]; exact f2, f1, ?_⟩
          simpa only [List.append_assoc] using hS)
        have HR1 : Hid (∀ (W : World), SrW w0 g tl (P ++ (A ++ (B ++ S))) W → r < m → m < en → Calls Tryz.prog 154 #[.slice (some ⟨g, 0, none⟩) N c, .int .i64 r, .int .i64 m, .int .i64 en, .func (.func 58) #[] #[]] W fun e w' => e = .returned (.tuple #[]) ∧ SrW w0 g tl (P ++ (A1 ++ (B1 ++ (A2 ++ (B2 ++ S))))) w') := Lib.hid (fun W hS k1 k2 => by
          have hS' : SrW w0 g tl ((P ++ A1) ++ (A2 ++ (B1 ++ (B2 ++ S)))) W := by rw [hAA, hBB] at hS; simpa only [List.append_assoc] using hS
          have := rotate_c (P ++ A1) A2 B1 (B2 ++ S) r m en N c tl w0 W g (.func (.func 58) #[] #[]) (by have := HP.out; rw [List.length_append]; omega) (by omega) (by omega) (by intro h; rw [h] at lA2; simp at lA2; omega) (by intro h; rw [h] at lB1; simp at lB1; omega) (by rw [← hNN]; simp only [List.length_append]; omega) hmax hS'
          simpa only [List.append_assoc] using this)
        have HD : Hid (¬ (r < m ∧ m < en) → P ++ (A ++ (B ++ S)) = P ++ (A1 ++ (B1 ++ (A2 ++ (B2 ++ S))))) := Lib.hid (fun hn => by
          rw [hAA, hBB]
          by_cases h : r < m
          · have : B1 = [] := List.eq_nil_of_length_eq_zero (by omega)
            subst this; simp
          · have : A2 = [] := List.eq_nil_of_length_eq_zero (by omega)
            subst this; simp)
        have HR2 : Hid (∀ (W : World), SrW w0 g tl (P ++ (A1 ++ (B1 ++ (A2 ++ (B2 ++ S))))) W → a < r → r < md → Calls Tryz.prog 123 #[.slice (some ⟨g, 0, none⟩) N c, .int .i64 a, .int .i64 r, .int .i64 md, .func (.func 58) #[] #[]] W (SymP w0 g tl P A1 B1 (A2 ++ (B2 ++ S)))) := Lib.hid (fun W hS k1 k2 =>
          HIH.out P A1 B1 (A2 ++ (B2 ++ S)) a r md W HP.out (by omega) (by omega) (by intro h; rw [h] at lA1; simp at lA1; omega) (by intro h; rw [h] at lB1; simp at lB1; omega) (by have := HK.out; have := Hm.out; have := Hb.out; omega) (by rw [← hNN]; simp only [List.length_append]; omega) (up_app.1 uAA).1 (up_app.1 uBB).1 hS)
        have HR3 : Hid (∀ (W : World) (M1 : List Hd), M1.Perm (A1 ++ B1) → SrW w0 g tl (P ++ (M1 ++ (A2 ++ (B2 ++ S)))) W → md < en → en < b → Calls Tryz.prog 123 #[.slice (some ⟨g, 0, none⟩) N c, .int .i64 md, .int .i64 en, .int .i64 b, .func (.func 58) #[] #[]] W (SymP w0 g tl (P ++ M1) A2 B2 S)) := Lib.hid (fun W M1 pM hS k1 k2 => by
          have lM := pM.length_eq
          rw [List.length_append] at lM
          exact HIH.out (P ++ M1) A2 B2 S md en b W (by have := HP.out; rw [List.length_append]; omega) (by omega) (by omega) (by intro h; rw [h] at lA2; simp at lA2; omega) (by intro h; rw [h] at lB2; simp at lB2; omega) (by have := HK.out; have := Hm.out; have := Hb.out; omega) (by rw [← hNN]; simp only [List.length_append]; omega) (up_app.1 uAA).2.1 (up_app.1 uBB).2.1 (by simpa only [List.append_assoc] using hS))
        have HN2 : Hid (¬ (a < r ∧ r < md) → upL hdC (A1 ++ B1)) := Lib.hid (fun hn => by
          by_cases h : a < r
          · have : B1 = [] := List.eq_nil_of_length_eq_zero (by omega)
            rw [this, List.append_nil]; exact (up_app.1 uAA).1
          · have : A1 = [] := List.eq_nil_of_length_eq_zero (by omega)
            rw [this, List.nil_append]; exact (up_app.1 uBB).1)
        have HN3 : Hid (¬ (md < en ∧ en < b) → upL hdC (A2 ++ B2)) := Lib.hid (fun hn => by
          by_cases h : md < en
          · have : B2 = [] := List.eq_nil_of_length_eq_zero (by omega)
            rw [this, List.append_nil]; exact (up_app.1 uAA).2.1
          · have : A2 = [] := List.eq_nil_of_length_eq_zero (by omega)
            rw [this, List.nil_append]; exact (up_app.1 uBB).2.1)
        clear X1 X2 uAA uBB hNN lA1 lA2 lB1 lB2 hAA hBB hA1 hA2 hB1 hB2 HLo HHi
        by_cases p1 : r < m
        · by_cases p2 : r < md
          · by_cases p3 : a < r
            · by_cases p4 : en < b
              · have i1 : (r : Int) < (m : Int) := by omega
                have j1 : (md : Int) < (en : Int) := by omega
                have i2 : (r : Int) < (md : Int) := by omega
                have j2 : (m : Int) < (en : Int) := by omega
                have i3 : (a : Int) < (r : Int) := by omega
                have i4 : (en : Int) < (b : Int) := by omega
                go_wp2_with fail
                refine (HR1.out _ HS.out (by omega) (by omega)).mono ?_
                rintro e w3 ⟨rfl, hS3⟩
                have HS3 := Lib.hid hS3
                clear hS3
                go_wp2_with fail
                refine (HR2.out _ HS3.out (by omega) (by omega)).mono ?_
                rintro e w4 ⟨rfl, M1, hp1, hu1, hS4⟩
                have HS4 := Lib.hid hS4
                have HP1 := Lib.hid hp1
                have HU1 := Lib.hid hu1
                clear hS4 hp1 hu1
                go_wp2_with fail
                refine (HR3.out _ M1 HP1.out HS4.out (by omega) (by omega)).mono ?_
                rintro e w5 ⟨rfl, M2, hp2, hu2, hS5⟩
                have HS5 := Lib.hid hS5
                have HP2 := Lib.hid hp2
                have HU2 := Lib.hid hu2
                clear hS5 hp2 hu2
                go_wp2
                all_goals go_end0
                all_goals exact FIN.out _ M1 M2 HP1.out HU1.out HP2.out HU2.out HS5.out
              · have i1 : (r : Int) < (m : Int) := by omega
                have j1 : (md : Int) < (en : Int) := by omega
                have i2 : (r : Int) < (md : Int) := by omega
                have j2 : (m : Int) < (en : Int) := by omega
                have i3 : (a : Int) < (r : Int) := by omega
                have i4 : ¬ (en : Int) < (b : Int) := by omega
                go_wp2_with fail
                refine (HR1.out _ HS.out (by omega) (by omega)).mono ?_
                rintro e w3 ⟨rfl, hS3⟩
                have HS3 := Lib.hid hS3
                clear hS3
                go_wp2_with fail
                refine (HR2.out _ HS3.out (by omega) (by omega)).mono ?_
                rintro e w4 ⟨rfl, M1, hp1, hu1, hS4⟩
                have HS4 := Lib.hid hS4
                have HP1 := Lib.hid hp1
                have HU1 := Lib.hid hu1
                clear hS4 hp1 hu1
                have HP2 : Hid ((A2 ++ B2).Perm (A2 ++ B2)) := Lib.hid (List.Perm.refl _)
                have HU2 := Lib.hid (HN3.out (by omega))
                have HS5 : Hid (SrW w0 g tl ((P ++ M1) ++ ((A2 ++ B2) ++ S)) w4) := Lib.hid (by have := HS4.out; simpa only [List.append_assoc] using this)
                go_wp2
                all_goals go_end0
                all_goals exact FIN.out _ M1 (A2 ++ B2) HP1.out HU1.out HP2.out HU2.out HS5.out
            · by_cases p4 : en < b
              · have i1 : (r : Int) < (m : Int) := by omega
                have j1 : (md : Int) < (en : Int) := by omega
                have i2 : (r : Int) < (md : Int) := by omega
                have j2 : (m : Int) < (en : Int) := by omega
                have i3 : ¬ (a : Int) < (r : Int) := by omega
                have i4 : (en : Int) < (b : Int) := by omega
                go_wp2_with fail
                refine (HR1.out _ HS.out (by omega) (by omega)).mono ?_
                rintro e w3 ⟨rfl, hS3⟩
                have HS3 := Lib.hid hS3
                clear hS3
                have HP1 : Hid ((A1 ++ B1).Perm (A1 ++ B1)) := Lib.hid (List.Perm.refl _)
                have HU1 := Lib.hid (HN2.out (by omega))
                have HS4 : Hid (SrW w0 g tl (P ++ ((A1 ++ B1) ++ (A2 ++ (B2 ++ S)))) w3) := Lib.hid (by have := HS3.out; simpa only [List.append_assoc] using this)
                go_wp2_with fail
                refine (HR3.out _ (A1 ++ B1) HP1.out HS4.out (by omega) (by omega)).mono ?_
                rintro e w5 ⟨rfl, M2, hp2, hu2, hS5⟩
                have HS5 := Lib.hid hS5
                have HP2 := Lib.hid hp2
                have HU2 := Lib.hid hu2
                clear hS5 hp2 hu2
                go_wp2
                all_goals go_end0
                all_goals exact FIN.out _ (A1 ++ B1) M2 HP1.out HU1.out HP2.out HU2.out HS5.out
              · have i1 : (r : Int) < (m : Int) := by omega
                have j1 : (md : Int) < (en : Int) := by omega
                have i2 : (r : Int) < (md : Int) := by omega
                have j2 : (m : Int) < (en : Int) := by omega
                have i3 : ¬ (a : Int) < (r : Int) := by omega
                have i4 : ¬ (en : Int) < (b : Int) := by omega
                go_wp2_with fail
                refine (HR1.out _ HS.out (by omega) (by omega)).mono ?_
                rintro e w3 ⟨rfl, hS3⟩
                have HS3 := Lib.hid hS3
                clear hS3
                have HP1 : Hid ((A1 ++ B1).Perm (A1 ++ B1)) := Lib.hid (List.Perm.refl _)
                have HU1 := Lib.hid (HN2.out (by omega))
                have HS4 : Hid (SrW w0 g tl (P ++ ((A1 ++ B1) ++ (A2 ++ (B2 ++ S)))) w3) := Lib.hid (by have := HS3.out; simpa only [List.append_assoc] using this)
                have HP2 : Hid ((A2 ++ B2).Perm (A2 ++ B2)) := Lib.hid (List.Perm.refl _)
                have HU2 := Lib.hid (HN3.out (by omega))
                have HS5 : Hid (SrW w0 g tl ((P ++ (A1 ++ B1)) ++ ((A2 ++ B2) ++ S)) w3) := Lib.hid (by have := HS4.out; simpa only [List.append_assoc] using this)
                go_wp2
                all_goals go_end0
                all_goals exact FIN.out _ (A1 ++ B1) (A2 ++ B2) HP1.out HU1.out HP2.out HU2.out HS5.out
          · by_cases p3 : a < r
            · by_cases p4 : en < b
              · have i1 : (r : Int) < (m : Int) := by omega
                have j1 : (md : Int) < (en : Int) := by omega
                have i2 : ¬ (r : Int) < (md : Int) := by omega
                have j2 : ¬ (m : Int) < (en : Int) := by omega
                have i3 : (a : Int) < (r : Int) := by omega
                have i4 : (en : Int) < (b : Int) := by omega
                have HS3 : Hid (SrW w0 g tl (P ++ (A1 ++ (B1 ++ (A2 ++ (B2 ++ S))))) wr) := Lib.hid (by have := HS.out; rwa [HD.out (by omega)] at this)
                have HP1 : Hid ((A1 ++ B1).Perm (A1 ++ B1)) := Lib.hid (List.Perm.refl _)
                have HU1 := Lib.hid (HN2.out (by omega))
                have HS4 : Hid (SrW w0 g tl (P ++ ((A1 ++ B1) ++ (A2 ++ (B2 ++ S)))) wr) := Lib.hid (by have := HS3.out; simpa only [List.append_assoc] using this)
                go_wp2_with fail
                refine (HR3.out _ (A1 ++ B1) HP1.out HS4.out (by omega) (by omega)).mono ?_
                rintro e w5 ⟨rfl, M2, hp2, hu2, hS5⟩
                have HS5 := Lib.hid hS5
                have HP2 := Lib.hid hp2
                have HU2 := Lib.hid hu2
                clear hS5 hp2 hu2
                go_wp2
                all_goals go_end0
                all_goals exact FIN.out _ (A1 ++ B1) M2 HP1.out HU1.out HP2.out HU2.out HS5.out
              · have i1 : (r : Int) < (m : Int) := by omega
                have j1 : (md : Int) < (en : Int) := by omega
                have i2 : ¬ (r : Int) < (md : Int) := by omega
                have j2 : ¬ (m : Int) < (en : Int) := by omega
                have i3 : (a : Int) < (r : Int) := by omega
                have i4 : ¬ (en : Int) < (b : Int) := by omega
                go_wp2
                have HS3 : Hid (SrW w0 g tl (P ++ (A1 ++ (B1 ++ (A2 ++ (B2 ++ S))))) wr) := Lib.hid (by have := HS.out; rwa [HD.out (by omega)] at this)
                have HP1 : Hid ((A1 ++ B1).Perm (A1 ++ B1)) := Lib.hid (List.Perm.refl _)
                have HU1 := Lib.hid (HN2.out (by omega))
                have HS4 : Hid (SrW w0 g tl (P ++ ((A1 ++ B1) ++ (A2 ++ (B2 ++ S)))) wr) := Lib.hid (by have := HS3.out; simpa only [List.append_assoc] using this)
                have HP2 : Hid ((A2 ++ B2).Perm (A2 ++ B2)) := Lib.hid (List.Perm.refl _)
                have HU2 := Lib.hid (HN3.out (by omega))
                have HS5 : Hid (SrW w0 g tl ((P ++ (A1 ++ B1)) ++ ((A2 ++ B2) ++ S)) wr) := Lib.hid (by have := HS4.out; simpa only [List.append_assoc] using this)
                all_goals go_end0
                all_goals exact FIN.out _ (A1 ++ B1) (A2 ++ B2) HP1.out HU1.out HP2.out HU2.out HS5.out
            · by_cases p4 : en < b
              · have i1 : (r : Int) < (m : Int) := by omega
                have j1 : (md : Int) < (en : Int) := by omega
                have i2 : ¬ (r : Int) < (md : Int) := by omega
                have j2 : ¬ (m : Int) < (en : Int) := by omega
                have i3 : ¬ (a : Int) < (r : Int) := by omega
                have i4 : (en : Int) < (b : Int) := by omega
                have HS3 : Hid (SrW w0 g tl (P ++ (A1 ++ (B1 ++ (A2 ++ (B2 ++ S))))) wr) := Lib.hid (by have := HS.out; rwa [HD.out (by omega)] at this)
                have HP1 : Hid ((A1 ++ B1).Perm (A1 ++ B1)) := Lib.hid (List.Perm.refl _)
                have HU1 := Lib.hid (HN2.out (by omega))
                have HS4 : Hid (SrW w0 g tl (P ++ ((A1 ++ B1) ++ (A2 ++ (B2 ++ S)))) wr) := Lib.hid (by have := HS3.out; simpa only [List.append_assoc] using this)
                go_wp2_with fail
                refine (HR3.out _ (A1 ++ B1) HP1.out HS4.out (by omega) (by omega)).mono ?_
                rintro e w5 ⟨rfl, M2, hp2, hu2, hS5⟩
                have HS5 := Lib.hid hS5
                have HP2 := Lib.hid hp2
                have HU2 := Lib.hid hu2
                clear hS5 hp2 hu2
                go_wp2
                all_goals go_end0
                all_goals exact FIN.out _ (A1 ++ B1) M2 HP1.out HU1.out HP2.out HU2.out HS5.out
              · have i1 : (r : Int) < (m : Int) := by omega
                have j1 : (md : Int) < (en : Int) := by omega
                have i2 : ¬ (r : Int) < (md : Int) := by omega
                have j2 : ¬ (m : Int) < (en : Int) := by omega
                have i3 : ¬ (a : Int) < (r : Int) := by omega
                have i4 : ¬ (en : Int) < (b : Int) := by omega
                go_wp2
                have HS3 : Hid (SrW w0 g tl (P ++ (A1 ++ (B1 ++ (A2 ++ (B2 ++ S))))) wr) := Lib.hid (by have := HS.out; rwa [HD.out (by omega)] at this)
                have HP1 : Hid ((A1 ++ B1).Perm (A1 ++ B1)) := Lib.hid (List.Perm.refl _)
                have HU1 := Lib.hid (HN2.out (by omega))
                have HS4 : Hid (SrW w0 g tl (P ++ ((A1 ++ B1) ++ (A2 ++ (B2 ++ S)))) wr) := Lib.hid (by have := HS3.out; simpa only [List.append_assoc] using this)
                have HP2 : Hid ((A2 ++ B2).Perm (A2 ++ B2)) := Lib.hid (List.Perm.refl _)
                have HU2 := Lib.hid (HN3.out (by omega))
                have HS5 : Hid (SrW w0 g tl ((P ++ (A1 ++ B1)) ++ ((A2 ++ B2) ++ S)) wr) := Lib.hid (by have := HS4.out; simpa only [List.append_assoc] using this)
                all_goals go_end0
                all_goals exact FIN.out _ (A1 ++ B1) (A2 ++ B2) HP1.out HU1.out HP2.out HU2.out HS5.out
        · by_cases p2 : r < md
          · by_cases p3 : a < r
            · by_cases p4 : en < b
              · have i1 : ¬ (r : Int) < (m : Int) := by omega
                have j1 : ¬ (md : Int) < (en : Int) := by omega
                have i2 : (r : Int) < (md : Int) := by omega
                have j2 : (m : Int) < (en : Int) := by omega
                have i3 : (a : Int) < (r : Int) := by omega
                have i4 : (en : Int) < (b : Int) := by omega
                have HS3 : Hid (SrW w0 g tl (P ++ (A1 ++ (B1 ++ (A2 ++ (B2 ++ S))))) wr) := Lib.hid (by have := HS.out; rwa [HD.out (by omega)] at this)
                go_wp2_with fail
                refine (HR2.out _ HS3.out (by omega) (by omega)).mono ?_
                rintro e w4 ⟨rfl, M1, hp1, hu1, hS4⟩
                have HS4 := Lib.hid hS4
                have HP1 := Lib.hid hp1
                have HU1 := Lib.hid hu1
                clear hS4 hp1 hu1
                have HP2 : Hid ((A2 ++ B2).Perm (A2 ++ B2)) := Lib.hid (List.Perm.refl _)
                have HU2 := Lib.hid (HN3.out (by omega))
                have HS5 : Hid (SrW w0 g tl ((P ++ M1) ++ ((A2 ++ B2) ++ S)) w4) := Lib.hid (by have := HS4.out; simpa only [List.append_assoc] using this)
                go_wp2
                all_goals go_end0
                all_goals exact FIN.out _ M1 (A2 ++ B2) HP1.out HU1.out HP2.out HU2.out HS5.out
              · have i1 : ¬ (r : Int) < (m : Int) := by omega
                have j1 : ¬ (md : Int) < (en : Int) := by omega
                have i2 : (r : Int) < (md : Int) := by omega
                have j2 : (m : Int) < (en : Int) := by omega
                have i3 : (a : Int) < (r : Int) := by omega
                have i4 : ¬ (en : Int) < (b : Int) := by omega
                have HS3 : Hid (SrW w0 g tl (P ++ (A1 ++ (B1 ++ (A2 ++ (B2 ++ S))))) wr) := Lib.hid (by have := HS.out; rwa [HD.out (by omega)] at this)
                go_wp2_with fail
                refine (HR2.out _ HS3.out (by omega) (by omega)).mono ?_
                rintro e w4 ⟨rfl, M1, hp1, hu1, hS4⟩
                have HS4 := Lib.hid hS4
                have HP1 := Lib.hid hp1
                have HU1 := Lib.hid hu1
                clear hS4 hp1 hu1
                have HP2 : Hid ((A2 ++ B2).Perm (A2 ++ B2)) := Lib.hid (List.Perm.refl _)
                have HU2 := Lib.hid (HN3.out (by omega))
                have HS5 : Hid (SrW w0 g tl ((P ++ M1) ++ ((A2 ++ B2) ++ S)) w4) := Lib.hid (by have := HS4.out; simpa only [List.append_assoc] using this)
                go_wp2
                all_goals go_end0
                all_goals exact FIN.out _ M1 (A2 ++ B2) HP1.out HU1.out HP2.out HU2.out HS5.out
            · by_cases p4 : en < b
              · have i1 : ¬ (r : Int) < (m : Int) := by omega
                have j1 : ¬ (md : Int) < (en : Int) := by omega
                have i2 : (r : Int) < (md : Int) := by omega
                have j2 : (m : Int) < (en : Int) := by omega
                have i3 : ¬ (a : Int) < (r : Int) := by omega
                have i4 : (en : Int) < (b : Int) := by omega
                go_wp2
                have HS3 : Hid (SrW w0 g tl (P ++ (A1 ++ (B1 ++ (A2 ++ (B2 ++ S))))) wr) := Lib.hid (by have := HS.out; rwa [HD.out (by omega)] at this)
                have HP1 : Hid ((A1 ++ B1).Perm (A1 ++ B1)) := Lib.hid (List.Perm.refl _)
                have HU1 := Lib.hid (HN2.out (by omega))
                have HS4 : Hid (SrW w0 g tl (P ++ ((A1 ++ B1) ++ (A2 ++ (B2 ++ S)))) wr) := Lib.hid (by have := HS3.out; simpa only [List.append_assoc] using this)
                have HP2 : Hid ((A2 ++ B2).Perm (A2 ++ B2)) := Lib.hid (List.Perm.refl _)
                have HU2 := Lib.hid (HN3.out (by omega))
                have HS5 : Hid (SrW w0 g tl ((P ++ (A1 ++ B1)) ++ ((A2 ++ B2) ++ S)) wr) := Lib.hid (by have := HS4.out; simpa only [List.append_assoc] using this)
                all_goals go_end0
                all_goals exact FIN.out _ (A1 ++ B1) (A2 ++ B2) HP1.out HU1.out HP2.out HU2.out HS5.out
              · have i1 : ¬ (r : Int) < (m : Int) := by omega
                have j1 : ¬ (md : Int) < (en : Int) := by omega
                have i2 : (r : Int) < (md : Int) := by omega
                have j2 : (m : Int) < (en : Int) := by omega
                have i3 : ¬ (a : Int) < (r : Int) := by omega
                have i4 : ¬ (en : Int) < (b : Int) := by omega
                go_wp2
                have HS3 : Hid (SrW w0 g tl (P ++ (A1 ++ (B1 ++ (A2 ++ (B2 ++ S))))) wr) := Lib.hid (by have := HS.out; rwa [HD.out (by omega)] at this)
                have HP1 : Hid ((A1 ++ B1).Perm (A1 ++ B1)) := Lib.hid (List.Perm.refl _)
                have HU1 := Lib.hid (HN2.out (by omega))
                have HS4 : Hid (SrW w0 g tl (P ++ ((A1 ++ B1) ++ (A2 ++ (B2 ++ S)))) wr) := Lib.hid (by have := HS3.out; simpa only [List.append_assoc] using this)
                have HP2 : Hid ((A2 ++ B2).Perm (A2 ++ B2)) := Lib.hid (List.Perm.refl _)
                have HU2 := Lib.hid (HN3.out (by omega))
                have HS5 : Hid (SrW w0 g tl ((P ++ (A1 ++ B1)) ++ ((A2 ++ B2) ++ S)) wr) := Lib.hid (by have := HS4.out; simpa only [List.append_assoc] using this)
                all_goals go_end0
                all_goals exact FIN.out _ (A1 ++ B1) (A2 ++ B2) HP1.out HU1.out HP2.out HU2.out HS5.out
          · by_cases p3 : a < r
            · by_cases p4 : en < b
              · have i1 : ¬ (r : Int) < (m : Int) := by omega
                have j1 : ¬ (md : Int) < (en : Int) := by omega
                have i2 : ¬ (r : Int) < (md : Int) := by omega
                have j2 : ¬ (m : Int) < (en : Int) := by omega
                have i3 : (a : Int) < (r : Int) := by omega
                have i4 : (en : Int) < (b : Int) := by omega
                go_wp2
                have HS3 : Hid (SrW w0 g tl (P ++ (A1 ++ (B1 ++ (A2 ++ (B2 ++ S))))) wr) := Lib.hid (by have := HS.out; rwa [HD.out (by omega)] at this)
                have HP1 : Hid ((A1 ++ B1).Perm (A1 ++ B1)) := Lib.hid (List.Perm.refl _)
                have HU1 := Lib.hid (HN2.out (by omega))
                have HS4 : Hid (SrW w0 g tl (P ++ ((A1 ++ B1) ++ (A2 ++ (B2 ++ S)))) wr) := Lib.hid (by have := HS3.out; simpa only [List.append_assoc] using this)
                have HP2 : Hid ((A2 ++ B2).Perm (A2 ++ B2)) := Lib.hid (List.Perm.refl _)
                have HU2 := Lib.hid (HN3.out (by omega))
                have HS5 : Hid (SrW w0 g tl ((P ++ (A1 ++ B1)) ++ ((A2 ++ B2) ++ S)) wr) := Lib.hid (by have := HS4.out; simpa only [List.append_assoc] using this)
                all_goals go_end0
                all_goals exact FIN.out _ (A1 ++ B1) (A2 ++ B2) HP1.out HU1.out HP2.out HU2.out HS5.out
              · have i1 : ¬ (r : Int) < (m : Int) := by omega
                have j1 : ¬ (md : Int) < (en : Int) := by omega
                have i2 : ¬ (r : Int) < (md : Int) := by omega
                have j2 : ¬ (m : Int) < (en : Int) := by omega
                have i3 : (a : Int) < (r : Int) := by omega
                have i4 : ¬ (en : Int) < (b : Int) := by omega
                go_wp2
                have HS3 : Hid (SrW w0 g tl (P ++ (A1 ++ (B1 ++ (A2 ++ (B2 ++ S))))) wr) := Lib.hid (by have := HS.out; rwa [HD.out (by omega)] at this)
                have HP1 : Hid ((A1 ++ B1).Perm (A1 ++ B1)) := Lib.hid (List.Perm.refl _)
                have HU1 := Lib.hid (HN2.out (by omega))
                have HS4 : Hid (SrW w0 g tl (P ++ ((A1 ++ B1) ++ (A2 ++ (B2 ++ S)))) wr) := Lib.hid (by have := HS3.out; simpa only [List.append_assoc] using this)
                have HP2 : Hid ((A2 ++ B2).Perm (A2 ++ B2)) := Lib.hid (List.Perm.refl _)
                have HU2 := Lib.hid (HN3.out (by omega))
                have HS5 : Hid (SrW w0 g tl ((P ++ (A1 ++ B1)) ++ ((A2 ++ B2) ++ S)) wr) := Lib.hid (by have := HS4.out; simpa only [List.append_assoc] using this)
                all_goals go_end0
                all_goals exact FIN.out _ (A1 ++ B1) (A2 ++ B2) HP1.out HU1.out HP2.out HU2.out HS5.out
            · by_cases p4 : en < b
              · have i1 : ¬ (r : Int) < (m : Int) := by omega
                have j1 : ¬ (md : Int) < (en : Int) := by omega
                have i2 : ¬ (r : Int) < (md : Int) := by omega
                have j2 : ¬ (m : Int) < (en : Int) := by omega
                have i3 : ¬ (a : Int) < (r : Int) := by omega
                have i4 : (en : Int) < (b : Int) := by omega
                go_wp2
                have HS3 : Hid (SrW w0 g tl (P ++ (A1 ++ (B1 ++ (A2 ++ (B2 ++ S))))) wr) := Lib.hid (by have := HS.out; rwa [HD.out (by omega)] at this)
                have HP1 : Hid ((A1 ++ B1).Perm (A1 ++ B1)) := Lib.hid (List.Perm.refl _)
                have HU1 := Lib.hid (HN2.out (by omega))
                have HS4 : Hid (SrW w0 g tl (P ++ ((A1 ++ B1) ++ (A2 ++ (B2 ++ S)))) wr) := Lib.hid (by have := HS3.out; simpa only [List.append_assoc] using this)
                have HP2 : Hid ((A2 ++ B2).Perm (A2 ++ B2)) := Lib.hid (List.Perm.refl _)
                have HU2 := Lib.hid (HN3.out (by omega))
                have HS5 : Hid (SrW w0 g tl ((P ++ (A1 ++ B1)) ++ ((A2 ++ B2) ++ S)) wr) := Lib.hid (by have := HS4.out; simpa only [List.append_assoc] using this)
                all_goals go_end0
                all_goals exact FIN.out _ (A1 ++ B1) (A2 ++ B2) HP1.out HU1.out HP2.out HU2.out HS5.out
              · have i1 : ¬ (r : Int) < (m : Int) := by omega
                have j1 : ¬ (md : Int) < (en : Int) := by omega
                have i2 : ¬ (r : Int) < (md : Int) := by omega
                have j2 : ¬ (m : Int) < (en : Int) := by omega
                have i3 : ¬ (a : Int) < (r : Int) := by omega
                have i4 : ¬ (en : Int) < (b : Int) := by omega
                go_wp2
                have HS3 : Hid (SrW w0 g tl (P ++ (A1 ++ (B1 ++ (A2 ++ (B2 ++ S))))) wr) := Lib.hid (by have := HS.out; rwa [HD.out (by omega)] at this)
                have HP1 : Hid ((A1 ++ B1).Perm (A1 ++ B1)) := Lib.hid (List.Perm.refl _)
                have HU1 := Lib.hid (HN2.out (by omega))
                have HS4 : Hid (SrW w0 g tl (P ++ ((A1 ++ B1) ++ (A2 ++ (B2 ++ S)))) wr) := Lib.hid (by have := HS3.out; simpa only [List.append_assoc] using this)
                have HP2 : Hid ((A2 ++ B2).Perm (A2 ++ B2)) := Lib.hid (List.Perm.refl _)
                have HU2 := Lib.hid (HN3.out (by omega))
                have HS5 : Hid (SrW w0 g tl ((P ++ (A1 ++ B1)) ++ ((A2 ++ B2) ++ S)) wr) := Lib.hid (by have := HS4.out; simpa only [List.append_assoc] using this)
                all_goals go_end0
                all_goals exact FIN.out _ (A1 ++ B1) (A2 ++ B2) HP1.out HU1.out HP2.out HU2.out HS5.out
  · have hq' : ¬ (m : Int) > (md : Int) := by omega
    have hq2 : ¬ (md : Int) < (m : Int) := by omega
    go_enter Tryz.func123, Tryz.ntmps123
    go_wp2
    clear hone hone' htwo htwo' wma wbm hmd hq' hq2
    obtain ⟨s0, hs0⟩ : ∃ s0, s0 = a := ⟨_, rfl⟩
    obtain ⟨r0, hr0⟩ : ∃ r0, r0 = m := ⟨_, rfl⟩
    have Q1 : a ≤ s0 := by omega
    have Q2 : r0 ≤ m := by omega
    have Q3 : r0 ≤ md := by omega
    have Q4 : nn ≤ s0 + b := by omega
    have Q5 : s0 ≤ r0 := by omega
    have Q6 : Hid (s0 = a ∨ s0 + b = nn) := Lib.hid (.inl hs0)
    have Q7 : Hid (r0 = m ∨ r0 = md) := Lib.hid (.inl hr0)
    go_loopw [20, 21] (fun vi vj wr => ∃ (s r : Nat), vi = .int .i64 s ∧ vj = .int .i64 r ∧ s0 ≤ s ∧ s ≤ r ∧ r ≤ r0 ∧ Hid (s = s0 ∨ ∃ t v x y, s = a + t + 1 ∧ nn = s + (m + v) ∧ A[t]? = some x ∧ B[v]? = some y ∧ hdC x y ≤ 0) ∧ Hid (r = r0 ∨ ∃ t v x y, r = a + t ∧ nn = r + (m + v + 1) ∧ A[t]? = some x ∧ B[v]? = some y ∧ hdC y x < 0) ∧ Hid (SrW w0 g tl (P ++ (A ++ (B ++ S))) wr)) (fun vi vj _ => (intOf vj).toNat - (intOf vi).toNat)
    case atStart => exact ⟨s0, r0, by (rw [hs0]), by (rw [hr0]), Nat.le_refl _, Q5, Nat.le_refl _, Lib.hid (.inl rfl), Lib.hid (.inl rfl), HH⟩
    case round =>
      obtain ⟨s, r, rfl, rfl, hs, hsr, hr, HLo, HHi, HS⟩ := hrel
      by_cases hlt : s < r
      · have hlt' : (s : Int) < (r : Int) := by omega
        obtain ⟨h, hh⟩ : ∃ h : Nat, ((s : Int) + (r : Int)) / 2 = (h : Int) := ⟨(s + r) / 2, by omega⟩
        have hsh : s ≤ h := by omega
        have hhr : h < r := by omega
        obtain ⟨u, hu⟩ : ∃ u : Nat, (pp : Int) - (h : Int) = (u : Int) := ⟨pp - h, by omega⟩
        have wu : IntKind.i64.wrap (u : Int) = (u : Int) := by rw [IntKind.wrap_i64]; omega
        have hmu : m ≤ u := by omega
        have hub : u < b := by omega
        have huN : (u : Int) < (N : Int) := by omega
        have hu0 : (0 : Int) ≤ (u : Int) := by omega
        have hhN : (h : Int) < (N : Int) := by omega
        have hh0 : (0 : Int) ≤ (h : Int) := by omega
        obtain ⟨t, ht⟩ : ∃ t, h = a + t := ⟨h - a, by omega⟩
        obtain ⟨v, hv⟩ : ∃ v, u = m + v := ⟨u - m, by omega⟩
        have htA : t < A.length := by have := Hm.out; omega
        have hvB : v < B.length := by have := Hb.out; omega
        obtain ⟨x, hx⟩ : ∃ x, A[t]? = some x := ⟨A[t], List.getElem?_eq_getElem htA⟩
        obtain ⟨y, hy⟩ : ∃ y, B[v]? = some y := ⟨B[v], List.getElem?_eq_getElem hvB⟩
        have gx : (P ++ (A ++ (B ++ S)))[h]? = some x := by rw [get_second P A (B ++ S) (t := t) (by have := HP.out; omega) htA]; exact hx
        have gy : (P ++ (A ++ (B ++ S)))[u]? = some y := by rw [get_third P A B S (t := v) (by have := HP.out; have := Hm.out; omega) hvB]; exact hy
        have cy := HS.out.cell gy
        have cx := HS.out.cell gx
        have hglt := HS.out.lt
        have HC := Lib.hid (fun (W' : World) (hb : Below wr.heap.size wr W') => HS.out.cmp (x := y) (y := x) (List.mem_of_getElem? gy) (List.mem_of_getElem? gx) hb)
        have Hx := Lib.hid hx
        have Hy := Lib.hid hy
        have Ht := Lib.hid ht
        have Hv := Lib.hid hv
        obtain ⟨z, hz⟩ : ∃ z, hdC y x = z := ⟨_, rfl⟩
        have hz' : rwC y.1 x.1 = z := hz
        have Hz := Lib.hid hz
        simp only [hz'] at HC
        clear hx hy gy gx ht hv hz hz'
        by_cases hz0 : z < 0
        · have hz1 : decide (z < 0) = true := decide_eq_true hz0
          go_wp2_with fail
          go_still_tail 11, (by kernel_rfl)
          go_wp2_with (go_at_fn 58; refine (HC.out _ (Below.refl _ _).drew).mono ?_; rintro e w2 ⟨rfl, b2⟩; have HS2 := Lib.hid (HS.out.drew.below b2); clear b2 HC cx cy)
          all_goals first
            | (exfalso; omega)
            | (go_roundw
               case rel => exact ⟨s, h, rfl, rfl, hs, hsh, by omega, HLo, Lib.hid (.inr ⟨t, v, x, y, Ht.out, by have := Ht.out; have := Hv.out; omega, Hx.out, Hy.out, by rw [Hz.out]; exact hz0⟩), HS2⟩
               case measure => simp [intOf]; omega)
        · have hz1 : decide (z < 0) = false := decide_eq_false hz0
          have wh1 : IntKind.i64.wrap ((h : Int) + 1) = (h : Int) + 1 := by rw [IntKind.wrap_i64]; omega
          go_wp2_with fail
          go_still_tail 11, (by kernel_rfl)
          go_wp2_with (go_at_fn 58; refine (HC.out _ (Below.refl _ _).drew).mono ?_; rintro e w2 ⟨rfl, b2⟩; have HS2 := Lib.hid (HS.out.drew.below b2); clear b2 HC cx cy)
          all_goals first
            | (exfalso; omega)
            | (go_roundw
               case rel => exact ⟨h + 1, r, by go_num, rfl, by omega, by omega, hr, Lib.hid (.inr ⟨t, v, x, y, by have := Ht.out; omega, by have := Ht.out; have := Hv.out; omega, Hx.out, Hy.out, by have ha := hdC_tot.anti y x; rw [Hz.out] at ha; omega⟩), HHi, HS2⟩
               case measure => simp [intOf]; omega)
      · have hlt' : ¬ (s : Int) < (r : Int) := by omega
        have hsr2 : r = s := by omega
        subst hsr2
        obtain ⟨en, hen⟩ : ∃ en : Nat, (nn : Int) - (r : Int) = (en : Int) := ⟨nn - r, by omega⟩
        have wen : IntKind.i64.wrap (en : Int) = (en : Int) := by rw [IntKind.wrap_i64]; omega
        have hmen : m ≤ en := by omega
        have henb : en ≤ b := by omega
        have har : a ≤ r := by omega
        have hrm : r ≤ m := by omega
        have hrmd : r ≤ md := by omega
        have hsum : en + r = md + m := by omega
        obtain ⟨A1, hA1⟩ : ∃ A1, A.take (r - a) = A1 := ⟨_, rfl⟩
        obtain ⟨A2, hA2⟩ : ∃ A2, A.drop (r - a) = A2 := ⟨_, rfl⟩
        obtain ⟨B1, hB1⟩ : ∃ B1, B.take (en - m) = B1 := ⟨_, rfl⟩
        obtain ⟨B2, hB2⟩ : ∃ B2, B.drop (en - m) = B2 := ⟨_, rfl⟩
        have hAA : A = A1 ++ A2 := by rw [← hA1, ← hA2, List.take_append_drop]
        have hBB : B = B1 ++ B2 := by rw [← hB1, ← hB2, List.take_append_drop]
        have lA1 : A1.length = r - a := by rw [← hA1, List.length_take]; have := Hm.out; omega
        have lA2 : A2.length = m - r := by rw [← hA2, List.length_drop]; have := Hm.out; omega
        have lB1 : B1.length = en - m := by rw [← hB1, List.length_take]; have := Hb.out; omega
        have lB2 : B2.length = b - en := by rw [← hB2, List.length_drop]; have := Hb.out; omega
        have uAA := HUA.out
        have uBB := HUB.out
        rw [hAA] at uAA
        rw [hBB] at uBB
        obtain ⟨X1, X2⟩ := up_cross hdC_tot uAA uBB (by
          rcases HLo.out with h | ⟨t, v, x, y, h1, h2, h3, h4, h5⟩
          · rcases Q6.out with h6 | h6
            · left; exact List.eq_nil_of_length_eq_zero (by omega)
            · right; left; exact List.eq_nil_of_length_eq_zero (by omega)
          · right; right
            have e1 : r - a = t + 1 := by omega
            have e2 : en - m = v := by omega
            exact ⟨x, y, by rw [← hA1, e1]; exact take_last h3, by rw [← hB2, e2]; exact drop_head h4, h5⟩) (by
          rcases HHi.out with h | ⟨t, v, x, y, h1, h2, h3, h4, h5⟩
          · rcases Q7.out with h6 | h6
            · right; left; exact List.eq_nil_of_length_eq_zero (by omega)
            · left; exact List.eq_nil_of_length_eq_zero (by omega)
          · right; right
            have e1 : r - a = t := by omega
            have e2 : en - m = v + 1 := by omega
            exact ⟨y, x, by rw [← hB1, e2]; exact take_last h4, by rw [← hA2, e1]; exact drop_head h3, by omega⟩)
        have hNN := HN.out
        rw [hAA, hBB] at hNN
        have FIN : Hid (∀ (W : World) (M1 M2 : List Hd), M1.Perm (A1 ++ B1) → upL hdC M1 → M2.Perm (A2 ++ B2) → upL hdC M2 → SrW w0 g tl ((P ++ M1) ++ (M2 ++ S)) W → SymP w0 g tl P A B S (.returned (.tuple #[])) W) := Lib.hid (fun W M1 M2 p1 u1 p2 u2 hS => by
          obtain ⟨f1, f2⟩ := up_four hdC_tot uAA uBB X1 X2 p1 p2 u1 u2
          refine ⟨rfl, M1 ++ M2, by rw [hAA, hBB]; exact f2, f1, ?_⟩
          simpa only [List.append_assoc] using hS)
        have HR1 : Hid (∀ (W : World), SrW w0 g tl (P ++ (A ++ (B ++ S))) W → r < m → m < en → Calls Tryz.prog 154 #[.slice (some ⟨g, 0, none⟩) N c, .int .i64 r, .int .i64 m, .int .i64 en, .func (.func 58) #[] #[]] W fun e w' => e = .returned (.tuple #[]) ∧ SrW w0 g tl (P ++ (A1 ++ (B1 ++ (A2 ++ (B2 ++ S))))) w') := Lib.hid (fun W hS k1 k2 => by
          have hS' : SrW w0 g tl ((P ++ A1) ++ (A2 ++ (B1 ++ (B2 ++ S)))) W := by rw [hAA, hBB] at hS; simpa only [List.append_assoc] using hS
          have := rotate_c (P ++ A1) A2 B1 (B2 ++ S) r m en N c tl w0 W g (.func (.func 58) #[] #[]) (by have := HP.out; rw [List.length_append]; omega) (by omega) (by omega) (by intro h; rw [h] at lA2; simp at lA2; omega) (by intro h; rw [h] at lB1; simp at lB1; omega) (by rw [← hNN]; simp only [List.length_append]; omega) hmax hS'
          simpa only [List.append_assoc] using this)
        have HD : Hid (¬ (r < m ∧ m < en) → P ++ (A ++ (B ++ S)) = P ++ (A1 ++ (B1 ++ (A2 ++ (B2 ++ S))))) := Lib.hid (fun hn => by
          rw [hAA, hBB]
          by_cases h : r < m
          · have : B1 = [] := List.eq_nil_of_length_eq_zero (by omega)
            subst this; simp
          · have : A2 = [] := List.eq_nil_of_length_eq_zero (by omega)
            subst this; simp)
        have HR2 : Hid (∀ (W : World), SrW w0 g tl (P ++ (A1 ++ (B1 ++ (A2 ++ (B2 ++ S))))) W → a < r → r < md → Calls Tryz.prog 123 #[.slice (some ⟨g, 0, none⟩) N c, .int .i64 a, .int .i64 r, .int .i64 md, .func (.func 58) #[] #[]] W (SymP w0 g tl P A1 B1 (A2 ++ (B2 ++ S)))) := Lib.hid (fun W hS k1 k2 =>
          HIH.out P A1 B1 (A2 ++ (B2 ++ S)) a r md W HP.out (by omega) (by omega) (by intro h; rw [h] at lA1; simp at lA1; omega) (by intro h; rw [h] at lB1; simp at lB1; omega) (by have := HK.out; have := Hm.out; have := Hb.out; omega) (by rw [← hNN]; simp only [List.length_append]; omega) (up_app.1 uAA).1 (up_app.1 uBB).1 hS)
        have HR3 : Hid (∀ (W : World) (M1 : List Hd), M1.Perm (A1 ++ B1) → SrW w0 g tl (P ++ (M1 ++ (A2 ++ (B2 ++ S)))) W → md < en → en < b → Calls Tryz.prog 123 #[.slice (some ⟨g, 0, none⟩) N c, .int .i64 md, .int .i64 en, .int .i64 b, .func (.func 58) #[] #[]] W (SymP w0 g tl (P ++ M1) A2 B2 S)) := Lib.hid (fun W M1 pM hS k1 k2 => by
          have lM := pM.length_eq
          rw [List.length_append] at lM
          exact HIH.out (P ++ M1) A2 B2 S md en b W (by have := HP.out; rw [List.length_append]; omega) (by omega) (by omega) (by intro h; rw [h] at lA2; simp at lA2; omega) (by intro h; rw [h] at lB2; simp at lB2; omega) (by have := HK.out; have := Hm.out; have := Hb.out; omega) (by rw [← hNN]; simp only [List.length_append]; omega) (up_app.1 uAA).2.1 (up_app.1 uBB).2.1 (by simpa only [List.append_assoc] using hS))
        have HN2 : Hid (¬ (a < r ∧ r < md) → upL hdC (A1 ++ B1)) := Lib.hid (fun hn => by
          by_cases h : a < r
          · have : B1 = [] := List.eq_nil_of_length_eq_zero (by omega)
            rw [this, List.append_nil]; exact (up_app.1 uAA).1
          · have : A1 = [] := List.eq_nil_of_length_eq_zero (by omega)
            rw [this, List.nil_append]; exact (up_app.1 uBB).1)
        have HN3 : Hid (¬ (md < en ∧ en < b) → upL hdC (A2 ++ B2)) := Lib.hid (fun hn => by
          by_cases h : md < en
          · have : B2 = [] := List.eq_nil_of_length_eq_zero (by omega)
            rw [this, List.append_nil]; exact (up_app.1 uAA).2.1
          · have : A2 = [] := List.eq_nil_of_length_eq_zero (by omega)
            rw [this, List.nil_append]; exact (up_app.1 uBB).2.1)
        clear X1 X2 uAA uBB hNN lA1 lA2 lB1 lB2 hAA hBB hA1 hA2 hB1 hB2 HLo HHi
        by_cases p1 : r < m
        · by_cases p2 : r < md
          · by_cases p3 : a < r
            · by_cases p4 : en < b
              · have i1 : (r : Int) < (m : Int) := by omega
                have j1 : (md : Int) < (en : Int) := by omega
                have i2 : (r : Int) < (md : Int) := by omega
                have j2 : (m : Int) < (en : Int) := by omega
                have i3 : (a : Int) < (r : Int) := by omega
                have i4 : (en : Int) < (b : Int) := by omega
                go_wp2_with fail
                refine (HR1.out _ HS.out (by omega) (by omega)).mono ?_
                rintro e w3 ⟨rfl, hS3⟩
                have HS3 := Lib.hid hS3
                clear hS3
                go_wp2_with fail
                refine (HR2.out _ HS3.out (by omega) (by omega)).mono ?_
                rintro e w4 ⟨rfl, M1, hp1, hu1, hS4⟩
                have HS4 := Lib.hid hS4
                have HP1 := Lib.hid hp1
                have HU1 := Lib.hid hu1
                clear hS4 hp1 hu1
                go_wp2_with fail
                refine (HR3.out _ M1 HP1.out HS4.out (by omega) (by omega)).mono ?_
                rintro e w5 ⟨rfl, M2, hp2, hu2, hS5⟩
                have HS5 := Lib.hid hS5
                have HP2 := Lib.hid hp2
                have HU2 := Lib.hid hu2
                clear hS5 hp2 hu2
                go_wp2
                all_goals go_end0
                all_goals exact FIN.out _ M1 M2 HP1.out HU1.out HP2.out HU2.out HS5.out
              · have i1 : (r : Int) < (m : Int) := by omega
                have j1 : (md : Int) < (en : Int) := by omega
                have i2 : (r : Int) < (md : Int) := by omega
                have j2 : (m : Int) < (en : Int) := by omega
                have i3 : (a : Int) < (r : Int) := by omega
                have i4 : ¬ (en : Int) < (b : Int) := by omega
                go_wp2_with fail
                refine (HR1.out _ HS.out (by omega) (by omega)).mono ?_
                rintro e w3 ⟨rfl, hS3⟩
                have HS3 := Lib.hid hS3
                clear hS3
                go_wp2_with fail
                refine (HR2.out _ HS3.out (by omega) (by omega)).mono ?_
                rintro e w4 ⟨rfl, M1, hp1, hu1, hS4⟩
                have HS4 := Lib.hid hS4
                have HP1 := Lib.hid hp1
                have HU1 := Lib.hid hu1
                clear hS4 hp1 hu1
                have HP2 : Hid ((A2 ++ B2).Perm (A2 ++ B2)) := Lib.hid (List.Perm.refl _)
                have HU2 := Lib.hid (HN3.out (by omega))
                have HS5 : Hid (SrW w0 g tl ((P ++ M1) ++ ((A2 ++ B2) ++ S)) w4) := Lib.hid (by have := HS4.out; simpa only [List.append_assoc] using this)
                go_wp2
                all_goals go_end0
                all_goals exact FIN.out _ M1 (A2 ++ B2) HP1.out HU1.out HP2.out HU2.out HS5.out
            · by_cases p4 : en < b
              · have i1 : (r : Int) < (m : Int) := by omega
                have j1 : (md : Int) < (en : Int) := by omega
                have i2 : (r : Int) < (md : Int) := by omega
                have j2 : (m : Int) < (en : Int) := by omega
                have i3 : ¬ (a : Int) < (r : Int) := by omega
                have i4 : (en : Int) < (b : Int) := by omega
                go_wp2_with fail
                refine (HR1.out _ HS.out (by omega) (by omega)).mono ?_
                rintro e w3 ⟨rfl, hS3⟩
                have HS3 := Lib.hid hS3
                clear hS3
                have HP1 : Hid ((A1 ++ B1).Perm (A1 ++ B1)) := Lib.hid (List.Perm.refl _)
                have HU1 := Lib.hid (HN2.out (by omega))
                have HS4 : Hid (SrW w0 g tl (P ++ ((A1 ++ B1) ++ (A2 ++ (B2 ++ S)))) w3) := Lib.hid (by have := HS3.out; simpa only [List.append_assoc] using this)
                go_wp2_with fail
                refine (HR3.out _ (A1 ++ B1) HP1.out HS4.out (by omega) (by omega)).mono ?_
                rintro e w5 ⟨rfl, M2, hp2, hu2, hS5⟩
                have HS5 := Lib.hid hS5
                have HP2 := Lib.hid hp2
                have HU2 := Lib.hid hu2
                clear hS5 hp2 hu2
                go_wp2
                all_goals go_end0
                all_goals exact FIN.out _ (A1 ++ B1) M2 HP1.out HU1.out HP2.out HU2.out HS5.out
              · have i1 : (r : Int) < (m : Int) := by omega
                have j1 : (md : Int) < (en : Int) := by omega
                have i2 : (r : Int) < (md : Int) := by omega
                have j2 : (m : Int) < (en : Int) := by omega
                have i3 : ¬ (a : Int) < (r : Int) := by omega
                have i4 : ¬ (en : Int) < (b : Int) := by omega
                go_wp2_with fail
                refine (HR1.out _ HS.out (by omega) (by omega)).mono ?_
                rintro e w3 ⟨rfl, hS3⟩
                have HS3 := Lib.hid hS3
                clear hS3
                have HP1 : Hid ((A1 ++ B1).Perm (A1 ++ B1)) := Lib.hid (List.Perm.refl _)
                have HU1 := Lib.hid (HN2.out (by omega))
                have HS4 : Hid (SrW w0 g tl (P ++ ((A1 ++ B1) ++ (A2 ++ (B2 ++ S)))) w3) := Lib.hid (by have := HS3.out; simpa only [List.append_assoc] using this)
                have HP2 : Hid ((A2 ++ B2).Perm (A2 ++ B2)) := Lib.hid (List.Perm.refl _)
                have HU2 := Lib.hid (HN3.out (by omega))
                have HS5 : Hid (SrW w0 g tl ((P ++ (A1 ++ B1)) ++ ((A2 ++ B2) ++ S)) w3) := Lib.hid (by have := HS4.out; simpa only [List.append_assoc] using this)
                go_wp2
                all_goals go_end0
                all_goals exact FIN.out _ (A1 ++ B1) (A2 ++ B2) HP1.out HU1.out HP2.out HU2.out HS5.out
          · by_cases p3 : a < r
            · by_cases p4 : en < b
              · have i1 : (r : Int) < (m : Int) := by omega
                have j1 : (md : Int) < (en : Int) := by omega
                have i2 : ¬ (r : Int) < (md : Int) := by omega
                have j2 : ¬ (m : Int) < (en : Int) := by omega
                have i3 : (a : Int) < (r : Int) := by omega
                have i4 : (en : Int) < (b : Int) := by omega
                have HS3 : Hid (SrW w0 g tl (P ++ (A1 ++ (B1 ++ (A2 ++ (B2 ++ S))))) wr) := Lib.hid (by have := HS.out; rwa [HD.out (by omega)] at this)
                have HP1 : Hid ((A1 ++ B1).Perm (A1 ++ B1)) := Lib.hid (List.Perm.refl _)
                have HU1 := Lib.hid (HN2.out (by omega))
                have HS4 : Hid (SrW w0 g tl (P ++ ((A1 ++ B1) ++ (A2 ++ (B2 ++ S)))) wr) := Lib.hid (by have := HS3.out; simpa only [List.append_assoc] using this)
                go_wp2_with fail
                refine (HR3.out _ (A1 ++ B1) HP1.out HS4.out (by omega) (by omega)).mono ?_
                rintro e w5 ⟨rfl, M2, hp2, hu2, hS5⟩
                have HS5 := Lib.hid hS5
                have HP2 := Lib.hid hp2
                have HU2 := Lib.hid hu2
                clear hS5 hp2 hu2
                go_wp2
                all_goals go_end0
                all_goals exact FIN.out _ (A1 ++ B1) M2 HP1.out HU1.out HP2.out HU2.out HS5.out
              · have i1 : (r : Int) < (m : Int) := by omega
                have j1 : (md : Int) < (en : Int) := by omega
                have i2 : ¬ (r : Int) < (md : Int) := by omega
                have j2 : ¬ (m : Int) < (en : Int) := by omega
                have i3 : (a : Int) < (r : Int) := by omega
                have i4 : ¬ (en : Int) < (b : Int) := by omega
                go_wp2
                have HS3 : Hid (SrW w0 g tl (P ++ (A1 ++ (B1 ++ (A2 ++ (B2 ++ S))))) wr) := Lib.hid (by have := HS.out; rwa [HD.out (by omega)] at this)
                have HP1 : Hid ((A1 ++ B1).Perm (A1 ++ B1)) := Lib.hid (List.Perm.refl _)
                have HU1 := Lib.hid (HN2.out (by omega))
                have HS4 : Hid (SrW w0 g tl (P ++ ((A1 ++ B1) ++ (A2 ++ (B2 ++ S)))) wr) := Lib.hid (by have := HS3.out; simpa only [List.append_assoc] using this)
                have HP2 : Hid ((A2 ++ B2).Perm (A2 ++ B2)) := Lib.hid (List.Perm.refl _)
                have HU2 := Lib.hid (HN3.out (by omega))
                have HS5 : Hid (SrW w0 g tl ((P ++ (A1 ++ B1)) ++ ((A2 ++ B2) ++ S)) wr) := Lib.hid (by have := HS4.out; simpa only [List.append_assoc] using this)
                all_goals go_end0
                all_goals exact FIN.out _ (A1 ++ B1) (A2 ++ B2) HP1.out HU1.out HP2.out HU2.out HS5.out
            · by_cases p4 : en < b
              · have i1 : (r : Int) < (m : Int) := by omega
                have j1 : (md : Int) < (en : Int) := by omega
                have i2 : ¬ (r : Int) < (md : Int) := by omega
                have j2 : ¬ (m : Int) < (en : Int) := by omega
                have i3 : ¬ (a : Int) < (r : Int) := by omega
                have i4 : (en : Int) < (b : Int) := by omega
                have HS3 : Hid (SrW w0 g tl (P ++ (A1 ++ (B1 ++ (A2 ++ (B2 ++ S))))) wr) := Lib.hid (by have := HS.out; rwa [HD.out (by omega)] at this)
                have HP1 : Hid ((A1 ++ B1).Perm (A1 ++ B1)) := Lib.hid (List.Perm.refl _)
                have HU1 := Lib.hid (HN2.out (by omega))
                have HS4 : Hid (SrW w0 g tl (P ++ ((A1 ++ B1) ++ (A2 ++ (B2 ++ S)))) wr) := Lib.hid (by have := HS3.out; simpa only [List.append_assoc] using this)
                go_wp2_with fail
                refine (HR3.out _ (A1 ++ B1) HP1.out HS4.out (by omega) (by omega)).mono ?_
                rintro e w5 ⟨rfl, M2, hp2, hu2, hS5⟩
                have HS5 := Lib.hid hS5
                have HP2 := Lib.hid hp2
                have HU2 := Lib.hid hu2
                clear hS5 hp2 hu2
                go_wp2
                all_goals go_end0
                all_goals exact FIN.out _ (A1 ++ B1) M2 HP1.out HU1.out HP2.out HU2.out HS5.out
              · have i1 : (r : Int) < (m : Int) := by omega
                have j1 : (md : Int) < (en : Int) := by omega
                have i2 : ¬ (r : Int) < (md : Int) := by omega
                have j2 : ¬ (m : Int) < (en : Int) := by omega
                have i3 : ¬ (a : Int) < (r : Int) := by omega
                have i4 : ¬ (en : Int) < (b : Int) := by omega
                go_wp2
                have HS3 : Hid (SrW w0 g tl (P ++ (A1 ++ (B1 ++ (A2 ++ (B2 ++ S))))) wr) := Lib.hid (by have := HS.out; rwa [HD.out (by omega)] at this)
                have HP1 : Hid ((A1 ++ B1).Perm (A1 ++ B1)) := Lib.hid (List.Perm.refl _)
                have HU1 := Lib.hid (HN2.out (by omega))
                have HS4 : Hid (SrW w0 g tl (P ++ ((A1 ++ B1) ++ (A2 ++ (B2 ++ S)))) wr) := Lib.hid (by have := HS3.out; simpa only [List.append_assoc] using this)
                have HP2 : Hid ((A2 ++ B2).Perm (A2 ++ B2)) := Lib.hid (List.Perm.refl _)
                have HU2 := Lib.hid (HN3.out (by omega))
                have HS5 : Hid (SrW w0 g tl ((P ++ (A1 ++ B1)) ++ ((A2 ++ B2) ++ S)) wr) := Lib.hid (by have := HS4.out; simpa only [List.append_assoc] using this)
                all_goals go_end0
                all_goals exact FIN.out _ (A1 ++ B1) (A2 ++ B2) HP1.out HU1.out HP2.out HU2.out HS5.out
        · by_cases p2 : r < md
          · by_cases p3 : a < r
            · by_cases p4 : en < b
              · have i1 : ¬ (r : Int) < (m : Int) := by omega
                have j1 : ¬ (md : Int) < (en : Int) := by omega
                have i2 : (r : Int) < (md : Int) := by omega
                have j2 : (m : Int) < (en : Int) := by omega
                have i3 : (a : Int) < (r : Int) := by omega
                have i4 : (en : Int) < (b : Int) := by omega
                have HS3 : Hid (SrW w0 g tl (P ++ (A1 ++ (B1 ++ (A2 ++ (B2 ++ S))))) wr) := Lib.hid (by have := HS.out; rwa [HD.out (by omega)] at this)
                go_wp2_with fail
                refine (HR2.out _ HS3.out (by omega) (by omega)).mono ?_
                rintro e w4 ⟨rfl, M1, hp1, hu1, hS4⟩
                have HS4 := Lib.hid hS4
                have HP1 := Lib.hid hp1
                have HU1 := Lib.hid hu1
                clear hS4 hp1 hu1
                have HP2 : Hid ((A2 ++ B2).Perm (A2 ++ B2)) := Lib.hid (List.Perm.refl _)
                have HU2 := Lib.hid (HN3.out (by omega))
                have HS5 : Hid (SrW w0 g tl ((P ++ M1) ++ ((A2 ++ B2) ++ S)) w4) := Lib.hid (by have := HS4.out; simpa only [List.append_assoc] using this)
                go_wp2
                all_goals go_end0
                all_goals exact FIN.out _ M1 (A2 ++ B2) HP1.out HU1.out HP2.out HU2.out HS5.out
              · have i1 : ¬ (r : Int) < (m : Int) := by omega
                have j1 : ¬ (md : Int) < (en : Int) := by omega
                have i2 : (r : Int) < (md : Int) := by omega
                have j2 : (m : Int) < (en : Int) := by omega
                have i3 : (a : Int) < (r : Int) := by omega
                have i4 : ¬ (en : Int) < (b : Int) := by omega
                have HS3 : Hid (SrW w0 g tl (P ++ (A1 ++ (B1 ++ (A2 ++ (B2 ++ S))))) wr) := Lib.hid (by have := HS.out; rwa [HD.out (by omega)] at this)
                go_wp2_with fail
                refine (HR2.out _ HS3.out (by omega) (by omega)).mono ?_
                rintro e w4 ⟨rfl, M1, hp1, hu1, hS4⟩
                have HS4 := Lib.hid hS4
                have HP1 := Lib.hid hp1
                have HU1 := Lib.hid hu1
                clear hS4 hp1 hu1
                have HP2 : Hid ((A2 ++ B2).Perm (A2 ++ B2)) := Lib.hid (List.Perm.refl _)
                have HU2 := Lib.hid (HN3.out (by omega))
                have HS5 : Hid (SrW w0 g tl ((P ++ M1) ++ ((A2 ++ B2) ++ S)) w4) := Lib.hid (by have := HS4.out; simpa only [List.append_assoc] using this)
                go_wp2
                all_goals go_end0
                all_goals exact FIN.out _ M1 (A2 ++ B2) HP1.out HU1.out HP2.out HU2.out HS5.out
            · by_cases p4 : en < b
              · have i1 : ¬ (r : Int) < (m : Int) := by omega
                have j1 : ¬ (md : Int) < (en : Int) := by omega
                have i2 : (r : Int) < (md : Int) := by omega
                have j2 : (m : Int) < (en : Int) := by omega
                have i3 : ¬ (a : Int) < (r : Int) := by omega
                have i4 : (en : Int) < (b : Int) := by omega
                go_wp2
                have HS3 : Hid (SrW w0 g tl (P ++ (A1 ++ (B1 ++ (A2 ++ (B2 ++ S))))) wr) := Lib.hid (by have := HS.out; rwa [HD.out (by omega)] at this)
                have HP1 : Hid ((A1 ++ B1).Perm (A1 ++ B1)) := Lib.hid (List.Perm.refl _)
                have HU1 := Lib.hid (HN2.out (by omega))
                have HS4 : Hid (SrW w0 g tl (P ++ ((A1 ++ B1) ++ (A2 ++ (B2 ++ S)))) wr) := Lib.hid (by have := HS3.out; simpa only [List.append_assoc] using this)
                have HP2 : Hid ((A2 ++ B2).Perm (A2 ++ B2)) := Lib.hid (List.Perm.refl _)
                have HU2 := Lib.hid (HN3.out (by omega))
                have HS5 : Hid (SrW w0 g tl ((P ++ (A1 ++ B1)) ++ ((A2 ++ B2) ++ S)) wr) := Lib.hid (by have := HS4.out; simpa only [List.append_assoc] using this)
                all_goals go_end0
                all_goals exact FIN.out _ (A1 ++ B1) (A2 ++ B2) HP1.out HU1.out HP2.out HU2.out HS5.out
              · have i1 : ¬ (r : Int) < (m : Int) := by omega
                have j1 : ¬ (md : Int) < (en : Int) := by omega
                have i2 : (r : Int) < (md : Int) := by omega
                have j2 : (m : Int) < (en : Int) := by omega
                have i3 : ¬ (a : Int) < (r : Int) := by omega
                have i4 : ¬ (en : Int) < (b : Int) := by omega
                go_wp2
                have HS3 : Hid (SrW w0 g tl (P ++ (A1 ++ (B1 ++ (A2 ++ (B2 ++ S))))) wr) := Lib.hid (by have := HS.out; rwa [HD.out (by omega)] at this)
                have HP1 : Hid ((A1 ++ B1).Perm (A1 ++ B1)) := Lib.hid (List.Perm.refl _)
                have HU1 := Lib.hid (HN2.out (by omega))
                have HS4 : Hid (SrW w0 g tl (P ++ ((A1 ++ B1) ++ (A2 ++ (B2 ++ S)))) wr) := Lib.hid (by have := HS3.out; simpa only [List.append_assoc] using this)
                have HP2 : Hid ((A2 ++ B2).Perm (A2 ++ B2)) := Lib.hid (List.Perm.refl _)
                have HU2 := Lib.hid (HN3.out (by omega))
                have HS5 : Hid (SrW w0 g tl ((P ++ (A1 ++ B1)) ++ ((A2 ++ B2) ++ S)) wr) := Lib.hid (by have := HS4.out; simpa only [List.append_assoc] using this)
                all_goals go_end0
                all_goals exact FIN.out _ (A1 ++ B1) (A2 ++ B2) HP1.out HU1.out HP2.out HU2.out HS5.out
          · by_cases p3 : a < r
            · by_cases p4 : en < b
              · have i1 : ¬ (r : Int) < (m : Int) := by omega
                have j1 : ¬ (md : Int) < (en : Int) := by omega
                have i2 : ¬ (r : Int) < (md : Int) := by omega
                have j2 : ¬ (m : Int) < (en : Int) := by omega
                have i3 : (a : Int) < (r : Int) := by omega
                have i4 : (en : Int) < (b : Int) := by omega
                go_wp2
                have HS3 : Hid (SrW w0 g tl (P ++ (A1 ++ (B1 ++ (A2 ++ (B2 ++ S))))) wr) := Lib.hid (by have := HS.out; rwa [HD.out (by omega)] at this)
                have HP1 : Hid ((A1 ++ B1).Perm (A1 ++ B1)) := Lib.hid (List.Perm.refl _)
                have HU1 := Lib.hid (HN2.out (by omega))
                have HS4 : Hid (SrW w0 g tl (P ++ ((A1 ++ B1) ++ (A2 ++ (B2 ++ S)))) wr) := Lib.hid (by have := HS3.out; simpa only [List.append_assoc] using this)
                have HP2 : Hid ((A2 ++ B2).Perm (A2 ++ B2)) := Lib.hid (List.Perm.refl _)
                have HU2 := Lib.hid (HN3.out (by omega))
                have HS5 : Hid (SrW w0 g tl ((P ++ (A1 ++ B1)) ++ ((A2 ++ B2) ++ S)) wr) := Lib.hid (by have := HS4.out; simpa only [List.append_assoc] using this)
                all_goals go_end0
                all_goals exact FIN.out _ (A1 ++ B1) (A2 ++ B2) HP1.out HU1.out HP2.out HU2.out HS5.out
              · have i1 : ¬ (r : Int) < (m : Int) := by omega
                have j1 : ¬ (md : Int) < (en : Int) := by omega
                have i2 : ¬ (r : Int) < (md : Int) := by omega
                have j2 : ¬ (m : Int) < (en : Int) := by omega
                have i3 : (a : Int) < (r : Int) := by omega
                have i4 : ¬ (en : Int) < (b : Int) := by omega
                go_wp2
                have HS3 : Hid (SrW w0 g tl (P ++ (A1 ++ (B1 ++ (A2 ++ (B2 ++ S))))) wr) := Lib.hid (by have := HS.out; rwa [HD.out (by omega)] at this)
                have HP1 : Hid ((A1 ++ B1).Perm (A1 ++ B1)) := Lib.hid (List.Perm.refl _)
                have HU1 := Lib.hid (HN2.out (by omega))
                have HS4 : Hid (SrW w0 g tl (P ++ ((A1 ++ B1) ++ (A2 ++ (B2 ++ S)))) wr) := Lib.hid (by have := HS3.out; simpa only [List.append_assoc] using this)
                have HP2 : Hid ((A2 ++ B2).Perm (A2 ++ B2)) := Lib.hid (List.Perm.refl _)
                have HU2 := Lib.hid (HN3.out (by omega))
                have HS5 : Hid (SrW w0 g tl ((P ++ (A1 ++ B1)) ++ ((A2 ++ B2) ++ S)) wr) := Lib.hid (by have := HS4.out; simpa only [List.append_assoc] using this)
                all_goals go_end0
                all_goals exact FIN.out _ (A1 ++ B1) (A2 ++ B2) HP1.out HU1.out HP2.out HU2.out HS5.out
            · by_cases p4 : en < b
              · have i1 : ¬ (r : Int) < (m : Int) := by omega
                have j1 : ¬ (md : Int) < (en : Int) := by omega
                have i2 : ¬ (r : Int) < (md : Int) := by omega
                have j2 : ¬ (m : Int) < (en : Int) := by omega
                have i3 : ¬ (a : Int) < (r : Int) := by omega
                have i4 : (en : Int) < (b : Int) := by omega
                go_wp2
                have HS3 : Hid (SrW w0 g tl (P ++ (A1 ++ (B1 ++ (A2 ++ (B2 ++ S))))) wr) := Lib.hid (by have := HS.out; rwa [HD.out (by omega)] at this)
                have HP1 : Hid ((A1 ++ B1).Perm (A1 ++ B1)) := Lib.hid (List.Perm.refl _)
                have HU1 := Lib.hid (HN2.out (by omega))
                have HS4 : Hid (SrW w0 g tl (P ++ ((A1 ++ B1) ++ (A2 ++ (B2 ++ S)))) wr) := Lib.hid (by have := HS3.out; simpa only [List.append_assoc] using this)
                have HP2 : Hid ((A2 ++ B2).Perm (A2 ++ B2)) := Lib.hid (List.Perm.refl _)
                have HU2 := Lib.hid (HN3.out (by omega))
                have HS5 : Hid (SrW w0 g tl ((P ++ (A1 ++ B1)) ++ ((A2 ++ B2) ++ S)) wr) := Lib.hid (by have := HS4.out; simpa only [List.append_assoc] using this)
                all_goals go_end0
                all_goals exact FIN.out _ (A1 ++ B1) (A2 ++ B2) HP1.out HU1.out HP2.out HU2.out HS5.out
              · have i1 : ¬ (r : Int) < (m : Int) := by omega
                have j1 : ¬ (md : Int) < (en : Int) := by omega
                have i2 : ¬ (r : Int) < (md : Int) := by omega
                have j2 : ¬ (m : Int) < (en : Int) := by omega
                have i3 : ¬ (a : Int) < (r : Int) := by omega
                have i4 : ¬ (en : Int) < (b : Int) := by omega
                go_wp2
                have HS3 : Hid (SrW w0 g tl (P ++ (A1 ++ (B1 ++ (A2 ++ (B2 ++ S))))) wr) := Lib.hid (by have := HS.out; rwa [HD.out (by omega)] at this)
                have HP1 : Hid ((A1 ++ B1).Perm (A1 ++ B1)) := Lib.hid (List.Perm.refl _)
                have HU1 := Lib.hid (HN2.out (by omega))
                have HS4 : Hid (SrW w0 g tl (P ++ ((A1 ++ B1) ++ (A2 ++ (B2 ++ S)))) wr) := Lib.hid (by have := HS3.out; simpa only [List.append_assoc] using this)
                have HP2 : Hid ((A2 ++ B2).Perm (A2 ++ B2)) := Lib.hid (List.Perm.refl _)
                have HU2 := Lib.hid (HN3.out (by omega))
                have HS5 : Hid (SrW w0 g tl ((P ++ (A1 ++ B1)) ++ ((A2 ++ B2) ++ S)) wr) := Lib.hid (by have := HS4.out; simpa only [List.append_assoc] using this)
                all_goals go_end0
                all_goals exact FIN.out _ (A1 ++ B1) (A2 ++ B2) HP1.out HU1.out HP2.out HU2.out HS5.out
theorem sym_all (N c : Nat) (tl : List Value) (w0 : World) (g : Nat) (hmax : N ≤ 1000000) : ∀ K, SymC w0 g tl N c K := by
  intro K
  induction K with
  | zero => intro P A B S a m b W _ _ _ _ _ h; omega
  | succ K ih =>
    intro P A B S a m b W hP hm hb hA hB hK hN uA uB h
    have hA0 : 0 < A.length := List.length_pos_iff.2 hA
    have hB0 : 0 < B.length := List.length_pos_iff.2 hB
    by_cases h1 : A.length = 1
    · obtain ⟨x, rfl⟩ := List.length_eq_one_iff.1 h1
      exact sym_a P x B S a m b N c tl w0 W g hP (by simpa using hm) hb hN hmax uB h
    · by_cases h2 : B.length = 1
      · obtain ⟨y, rfl⟩ := List.length_eq_one_iff.1 h2
        exact sym_b P A y S a m b N c tl w0 W g hP hm (by simpa using hb) (by omega) hN hmax uA h
      · exact sym_c P A B S a m b N c K tl w0 W g hP hm hb (by omega) (by omega) (by omega) ih hN hmax uA uB h
end Go.Proofs.YthhepmddcncjoaaGreatDoor
