/- slices.stableCmpFunc, SortStableFunc at rows. -/
import Derived.Test.YtphmiifochjemaaPso
namespace Go.Proofs.Ytphmiifochjemaa
open Go.RowKit

set_option linter.unusedSimpArgs false in
set_option maxRecDepth 100000 in
set_option maxHeartbeats 16000000 in
theorem stable_c (D : List Hd) (N c : Nat) (tl : List Value) (w0 W : World) (g : Nat) (hN : D.length = N) (hmax : N ≤ 1000000) (h : SrW w0 g tl D W) :
    Calls Try.prog 34 #[.slice (some ⟨g, 0, none⟩) N c, .int .i64 N, .func (.func 15) #[] #[]] W fun e w' => e = .returned (.tuple #[]) ∧ ∃ D', D'.Perm D ∧ upL hdC D' ∧ SrW w0 g tl D' w' := by
  have HH := Lib.hid h
  have HN := Lib.hid hN
  clear h hN
  go_enter Try.func34, Try.ntmps34
  go_wp2
  go_loopw [7, 8] (fun va vb wr => ∃ (a q : Nat) (D1 E : List Hd), va = .int .i64 a ∧ vb = .int .i64 ((a : Int) + 20) ∧ a ≤ N ∧ Hid (a = q * 20) ∧ Hid (D1.length = a) ∧ Hid (blL hdC 20 D1) ∧ Hid ((D1 ++ E).Perm D) ∧ Hid (SrW w0 g tl (D1 ++ E) wr)) (fun va _ _ => N + 1 - (intOf va).toNat)
  case atStart => exact ⟨0, 0, [], D, rfl, rfl, Nat.zero_le _, Lib.hid rfl, Lib.hid rfl, Lib.hid (bl_nil _), Lib.hid (List.Perm.refl _), HH⟩
  case round =>
    obtain ⟨a, q, D1, E, rfl, rfl, haN, Hq, Hl, HBl, HPm, HS⟩ := hrel
    have lE : E.length = N - a := by have h1 := HPm.out.length_eq; have h2 := Hl.out; have h3 := HN.out; rw [List.length_append] at h1; omega
    by_cases hlt : a + 20 ≤ N
    · have hlt' : (a : Int) + 20 ≤ (N : Int) := by omega
      have wa : IntKind.i64.wrap ((a : Int) + 20) = (a : Int) + 20 := by rw [IntKind.wrap_i64]; omega
      have wa2 : IntKind.i64.wrap ((a : Int) + 20 + 20) = (a : Int) + 20 + 20 := by rw [IntKind.wrap_i64]; omega
      have lX : (E.take 20).length = 20 := by rw [List.length_take]; omega
      have HC := Lib.hid (insertion_c D1 (E.take 20) (E.drop 20) a (a + 20) N c tl w0 wr g Hl.out (by omega) (by rw [List.take_append_drop, HPm.out.length_eq]; exact HN.out) hmax (by have := HS.out; rwa [List.take_append_drop]))
      have e20 : ((a + 20 : Nat) : Int) = (a : Int) + 20 := by omega
      rw [e20] at HC
      have HlE := Lib.hid (And.intro lE lX)
      clear lE lX e20
      go_wp2_with fail
      refine HC.out.mono ?_
      rintro e w2 ⟨rfl, X', hp, hu, hS2⟩
      have HS2 := Lib.hid hS2
      have HX := Lib.hid (And.intro hp hu)
      clear hS2 hp hu HC
      go_wp2
      go_roundw
      case rel =>
        have lX' : X'.length = 20 := by rw [HX.out.1.length_eq]; exact HlE.out.2
        refine ⟨a + 20, q + 1, D1 ++ X', E.drop 20, by go_num, by go_num, hlt, Lib.hid (by rw [Hq.out, Nat.add_mul]), Lib.hid (by rw [List.length_append, Hl.out, lX']), Lib.hid (bl_snoc HBl.out (by rw [Hl.out, Hq.out]) HX.out.2), Lib.hid ?_, Lib.hid (by have := HS2.out; simpa only [List.append_assoc] using this)⟩
        refine List.Perm.trans ?_ HPm.out
        rw [List.append_assoc]
        refine List.Perm.append_left D1 ?_
        have := HX.out.1.append_right (E.drop 20)
        rwa [List.take_append_drop] at this
      case measure => simp [intOf]; omega
    · have hlt' : ¬ (a : Int) + 20 ≤ (N : Int) := by omega
      have HC := Lib.hid (insertion_c D1 E [] a N N c tl w0 wr g Hl.out (by omega) (by rw [List.append_nil, HPm.out.length_eq]; exact HN.out) hmax (by have := HS.out; rwa [List.append_nil]))
      clear lE
      go_wp2_with fail
      refine HC.out.mono ?_
      rintro e w2 ⟨rfl, E', hp, hu, hS2⟩
      have HS2 : Hid (SrW w0 g tl (D1 ++ E') w2) := Lib.hid (by rwa [List.append_nil] at hS2)
      have HB2 : Hid (blL hdC 20 (D1 ++ E')) := Lib.hid (bl_snoc HBl.out (by rw [Hl.out, Hq.out]) hu)
      have HP2 : Hid ((D1 ++ E').Perm D) := Lib.hid ((hp.append_left D1).trans HPm.out)
      clear hS2 hp hu HC
      go_wp2
      go_loopw [6, 7, 8, 9] (fun vk va vb vm wr => ∃ (k : Nat) (F : List Hd), vk = .int .i64 k ∧ 20 ≤ k ∧ k ≤ 2 * N + 40 ∧ Hid (blL hdC k F) ∧ Hid (F.Perm D) ∧ Hid (SrW w0 g tl F wr)) (fun vk _ _ _ _ => 3 * N + 41 - (intOf vk).toNat)
      case atStart => exact ⟨20, _, rfl, Nat.le_refl _, by omega, HB2, HP2, HS2⟩
      case round =>
        obtain ⟨k, F, rfl, hk20, hkN, HBF, HPF, HSF⟩ := hrel
        clear HB2 HP2 HS2 HBl HPm HS Hl Hq
        by_cases hkl : k < N
        · have hkl' : (k : Int) < (N : Int) := by omega
          obtain ⟨kk, hkk⟩ : ∃ kk : Nat, 2 * k = kk := ⟨_, rfl⟩
          have z1 : (2 : Int) * (k : Int) = (kk : Int) := by omega
          have z2 : (k : Int) * 2 = (kk : Int) := by omega
          have wkk : IntKind.i64.wrap (kk : Int) = (kk : Int) := by rw [IntKind.wrap_i64]; omega
          go_wp2
          go_loopw [7, 8] (fun va vb wx => ∃ (a q : Nat) (D1 E : List Hd), va = .int .i64 a ∧ vb = .int .i64 ((a : Int) + (kk : Int)) ∧ a ≤ N ∧ Hid (a = q * kk) ∧ Hid (D1.length = a) ∧ Hid (blL hdC kk D1) ∧ Hid (blL hdC k E) ∧ Hid ((D1 ++ E).Perm D) ∧ Hid (SrW w0 g tl (D1 ++ E) wx)) (fun va _ _ => N + 1 - (intOf va).toNat)
          case atStart => exact ⟨0, 0, [], F, rfl, by go_num, Nat.zero_le _, Lib.hid (by omega), Lib.hid rfl, Lib.hid (bl_nil _), HBF, HPF, HSF⟩
          case round =>
            obtain ⟨a, q, D1, E, rfl, rfl, haN, Hq, Hl, HBl, HBE, HPm, HS⟩ := hrel
            have lE : E.length = N - a := by have h1 := HPm.out.length_eq; have h2 := Hl.out; have h3 := HN.out; rw [List.length_append] at h1; omega
            by_cases hlt : a + kk ≤ N
            · have hlt' : (a : Int) + (kk : Int) ≤ (N : Int) := by omega
              have wa2 : IntKind.i64.wrap ((a : Int) + (kk : Int) + (kk : Int)) = (a : Int) + (kk : Int) + (kk : Int) := by rw [IntKind.wrap_i64]; omega
              have wa1 : IntKind.i64.wrap ((a : Int) + (k : Int)) = (a : Int) + (k : Int) := by rw [IntKind.wrap_i64]; omega
              obtain ⟨t1, t2, t3⟩ := bl_two HBE.out
              have lX : (E.take k).length = k := by rw [List.length_take]; omega
              have lY : ((E.drop k).take k).length = k := by rw [List.length_take, List.length_drop]; omega
              have eE : E = E.take k ++ ((E.drop k).take k ++ E.drop kk) := by
                rw [← hkk, show 2 * k = k + k by omega, ← List.drop_drop, List.take_append_drop, List.take_append_drop]
              have HC := Lib.hid (sym_all N c tl w0 g hmax (k + k + 1) D1 (E.take k) ((E.drop k).take k) (E.drop kk) a (a + k) (a + kk) wr Hl.out (by omega) (by omega) (by intro h; rw [h] at lX; simp at lX; omega) (by intro h; rw [h] at lY; simp at lY; omega) (by omega) (by rw [← eE, HPm.out.length_eq]; exact HN.out) t1 t2 (by have := HS.out; rwa [← eE]))
              have e1 : ((a + k : Nat) : Int) = (a : Int) + (k : Int) := by omega
              have e2 : ((a + kk : Nat) : Int) = (a : Int) + (kk : Int) := by omega
              rw [e1, e2] at HC
              have HF := Lib.hid (And.intro lX (And.intro lY (And.intro eE t3)))
              clear lE lX lY eE t1 t2 t3 e1 e2
              go_wp2_with fail
              refine HC.out.mono ?_
              rintro e w3 ⟨rfl, M, hp, hu, hS2⟩
              have HS3 := Lib.hid hS2
              have HX := Lib.hid (And.intro hp hu)
              clear hS2 hp hu HC
              go_wp2
              go_roundw
              case rel =>
                obtain ⟨lX, lY, eE, t3⟩ := HF.out
                have lM : M.length = kk := by rw [HX.out.1.length_eq, List.length_append, lX, lY]; omega
                refine ⟨a + kk, q + 1, D1 ++ M, E.drop kk, by go_num, by go_num, hlt, Lib.hid (by rw [Hq.out, Nat.add_mul]; omega), Lib.hid (by rw [List.length_append, Hl.out, lM]), Lib.hid (bl_snoc HBl.out (by rw [Hl.out, Hq.out]) HX.out.2), Lib.hid (by rw [← hkk]; exact t3), Lib.hid ?_, Lib.hid (by have := HS3.out; simpa only [List.append_assoc] using this)⟩
                refine List.Perm.trans ?_ HPm.out
                rw [List.append_assoc]
                refine List.Perm.append_left D1 ?_
                have := HX.out.1.append_right (E.drop kk)
                rwa [List.append_assoc, ← eE] at this
              case measure => simp [intOf]; omega
            · have hlt' : ¬ (a : Int) + (kk : Int) ≤ (N : Int) := by omega
              have wa1 : IntKind.i64.wrap ((a : Int) + (k : Int)) = (a : Int) + (k : Int) := by rw [IntKind.wrap_i64]; omega
              by_cases hm : a + k < N
              · have hm' : (a : Int) + (k : Int) < (N : Int) := by omega
                obtain ⟨t1, t2, _⟩ := bl_two HBE.out
                have lX : (E.take k).length = k := by rw [List.length_take]; omega
                have lY : (E.drop k).length = N - (a + k) := by rw [List.length_drop]; omega
                rw [List.take_of_length_le (by omega)] at t2
                have eE : E = E.take k ++ (E.drop k ++ []) := by rw [List.append_nil, List.take_append_drop]
                have HC := Lib.hid (sym_all N c tl w0 g hmax (N + N) D1 (E.take k) (E.drop k) [] a (a + k) N wr Hl.out (by omega) (by omega) (by intro h; rw [h] at lX; simp at lX; omega) (by intro h; rw [h] at lY; simp at lY; omega) (by omega) (by rw [← eE, HPm.out.length_eq]; exact HN.out) t1 t2 (by have := HS.out; rwa [← eE]))
                have e1 : ((a + k : Nat) : Int) = (a : Int) + (k : Int) := by omega
                rw [e1] at HC
                clear lE lX lY eE t1 t2 e1
                go_wp2_with fail
                refine HC.out.mono ?_
                rintro e w3 ⟨rfl, M, hp, hu, hS2⟩
                have HS3 : Hid (SrW w0 g tl (D1 ++ M) w3) := Lib.hid (by rwa [List.append_nil] at hS2)
                have HB3 : Hid (blL hdC kk (D1 ++ M)) := Lib.hid (bl_snoc HBl.out (by rw [Hl.out, Hq.out]) hu)
                have HP3 : Hid ((D1 ++ M).Perm D) := Lib.hid (by
                  rw [List.take_append_drop] at hp
                  exact (hp.append_left D1).trans HPm.out)
                clear hS2 hp hu HC
                go_wp2
                go_roundw
                case rel => exact ⟨kk, _, rfl, by omega, by omega, HB3, HP3, HS3⟩
                case measure => simp [intOf]; omega
              · have hm' : ¬ (a : Int) + (k : Int) < (N : Int) := by omega
                have HB3 : Hid (blL hdC kk (D1 ++ E)) := Lib.hid (bl_snoc HBl.out (by rw [Hl.out, Hq.out]) (bl_all HBE.out (by omega)))
                clear lE
                go_wp2
                go_roundw
                case rel => exact ⟨kk, _, rfl, by omega, by omega, HB3, HPm, HS⟩
                case measure => simp [intOf]; omega
        · have hkl' : ¬ (k : Int) < (N : Int) := by omega
          have HU : Hid (upL hdC F) := Lib.hid (bl_all HBF.out (by rw [HPF.out.length_eq, HN.out]; omega))
          go_wp2
          go_end0
          exact ⟨rfl, F, HPF.out, HU.out, HSF.out⟩
set_option maxRecDepth 100000 in
set_option maxHeartbeats 4000000 in
theorem sortStable_c (D : List Hd) (N c : Nat) (tl : List Value) (w0 W : World) (g : Nat) (hN : D.length = N) (hmax : N ≤ 1000000) (h : SrW w0 g tl D W) :
    Calls Try.prog 25 #[.slice (some ⟨g, 0, none⟩) N c, .func (.func 15) #[] #[]] W fun e w' => e = .returned (.tuple #[]) ∧ ∃ D', D'.Perm D ∧ upL hdC D' ∧ SrW w0 g tl D' w' := by
  have HC := Lib.hid (stable_c D N c tl w0 W g hN hmax h)
  clear h hN
  go_enter Try.func25, Try.ntmps25
  go_wp2_with fail
  refine HC.out.mono ?_
  rintro e w2 ⟨rfl, h2⟩
  have H2 := Lib.hid h2
  clear h2
  go_wp2
  go_end0
  exact ⟨rfl, H2.out⟩
end Go.Proofs.Ytphmiifochjemaa
