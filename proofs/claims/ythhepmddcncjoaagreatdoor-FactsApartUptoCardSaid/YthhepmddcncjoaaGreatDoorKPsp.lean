/- slices.stableCmpFunc, SortStableFunc at rows. slices.CompactFunc at rows; rel.Sort. -/
import Derived.Test.YthhepmddcncjoaaGreatDoorKPso
import Derived.Lib.SliceRun
set_option linter.unusedSimpArgs false
set_option linter.unusedVariables false
namespace Go.Proofs.YthhepmddcncjoaaGreatDoor
open Go.RowKit

set_option linter.unusedSimpArgs false in
set_option maxRecDepth 100000 in
set_option maxHeartbeats 16000000 in
theorem stable_c (D : List Hd) (N c : Nat) (tl : List Value) (w0 W : World) (g : Nat) (hN : D.length = N) (hmax : N ≤ 1000000) (h : SrW w0 g tl D W) :
    Calls Tryz.prog 92 #[.slice (some ⟨g, 0, none⟩) N c, .int .i64 N, .func (.func 58) #[] #[]] W fun e w' => e = .returned (.tuple #[]) ∧ ∃ D', D'.Perm D ∧ upL hdC D' ∧ SrW w0 g tl D' w' := by
  have HH := Lib.hid h
  have HN := Lib.hid hN
  clear h hN
  go_enter Tryz.func92, Tryz.ntmps92
  go_wp2
  go_loopw [7, 8] (fun va vb wr => ∃ (a q : Nat) (D1 E : List Hd), va = .int .i64 a ∧ vb = .int .i64 ((a : Int) + 20) ∧ a ≤ N ∧ Hid (a = q * 20) ∧ Hid (D1.length = a) ∧ Hid (blL hdC 20 D1) ∧ Hid ((D1 ++ E).Perm D) ∧ Hid (SrW w0 g tl (D1 ++ E) wr)) (fun va _ _ => N + 1 - (intOf va).toNat)
  case atStart => exact ⟨0, 0, [], D, rfl, rfl, Nat.zero_le _, Lib.hid rfl, Lib.hid rfl, Lib.hid (bl_nil _), Lib.hid (List.Perm.refl _), HH⟩
  case round =>
    obtain ⟨a, q, D1, E, rfl, rfl, haN, Hq, Hl, HBl, HPm, HS⟩ := hrel
    have lE : E.length = N - a := by have h1 := HPm.out.length_eq; have h2 := Hl.out; have h3 := HN.out; rw [List.length_append] at h1; omega
    by_cases hlt : a + 20 ≤ N
    · have hlt' : (a : Int) + 20 ≤ (N : Int) := by omega
      have wa : IntKind.i64.wrap ((a : Int) + 20) = (a : Int) + 20 := by rw [IntKind.wrap_i64]; omega
      have wa2 : IntKind.i64.wrap ((a : Int) + 20 + 20) = (a : Int) + 20 + 20 := by rw [IntKind.wrap_i64]; omega
      have lX : (E.take 20).length = 20 := by rw [List.length_take]; omega
      have HC := Lib.hid (insertion_c D1 (E.take 20) (E.drop 20) a (a + 20) N c tl w0 wr g Hl.out (by omega) (by rw [List.take_append_drop, HPm.out.length_eq]; exact HN.out) hmax (by have := HS.out; rwa [List.take_append_drop]))
      have e20 : ((a + 20 : Nat) : Int) = (a : Int) + 20 := by omega
      rw [e20] at HC
      have HlE := Lib.hid (And.intro lE lX)
      clear lE lX e20
      go_wp2_with fail
      refine HC.out.mono ?_
      rintro e w2 ⟨rfl, X', hp, hu, hS2⟩
      have HS2 := Lib.hid hS2
      have HX := Lib.hid (And.intro hp hu)
      clear hS2 hp hu HC
      go_wp2
      go_roundw
      case rel =>
        have lX' : X'.length = 20 := by rw [HX.out.1.length_eq]; exact HlE.out.2
        refine ⟨a + 20, q + 1, D1 ++ X', E.drop 20, by go_num, by go_num, hlt, Lib.hid (by rw [Hq.out, Nat.add_mul]), Lib.hid (by rw [List.length_append, Hl.out, lX']), Lib.hid (bl_snoc HBl.out (by rw [Hl.out, Hq.out]) HX.out.2), Lib.hid ?_, Lib.hid (by have := HS2.out; simpa only [List.append_assoc] using this)⟩
        refine List.Perm.trans ?_ HPm.out
        rw [List.append_assoc]
        refine List.Perm.append_left D1 ?_
        have := HX.out.1.append_right (E.drop 20)
        rwa [List.take_append_drop] at this
      case measure => simp [intOf]; omega
    · have hlt' : ¬ (a : Int) + 20 ≤ (N : Int) := by omega
      have HC := Lib.hid (insertion_c D1 E [] a N N c tl w0 wr g Hl.out (by omega) (by rw [List.append_nil, HPm.out.length_eq]; exact HN.out) hmax (by have := HS.out; rwa [List.append_nil]))
      clear lE
      go_wp2_with fail
      refine HC.out.mono ?_
      rintro e w2 ⟨rfl, E', hp, hu, hS2⟩
      have HS2 : Hid (SrW w0 g tl (D1 ++ E') w2) := Lib.hid (by rwa [List.append_nil] at hS2)
      have HB2 : Hid (blL hdC 20 (D1 ++ E')) := Lib.hid (bl_snoc HBl.out (by rw [Hl.out, Hq.out]) hu)
      have HP2 : Hid ((D1 ++ E').Perm D) := Lib.hid ((hp.append_left D1).trans HPm.out)
      clear hS2 hp hu HC
      go_wp2
      go_loopw [6, 7, 8, 9] (fun vk va vb vm wr => ∃ (k : Nat) (F : List Hd), vk = .int .i64 k ∧ 20 ≤ k ∧ k ≤ 2 * N + 40 ∧ Hid (blL hdC k F) ∧ Hid (F.Perm D) ∧ Hid (SrW w0 g tl F wr)) (fun vk _ _ _ _ => 3 * N + 41 - (intOf vk).toNat)
      case atStart => exact ⟨20, _, rfl, Nat.le_refl _, by omega, HB2, HP2, HS2⟩
      case round =>
        obtain ⟨k, F, rfl, hk20, hkN, HBF, HPF, HSF⟩ := hrel
        clear HB2 HP2 HS2 HBl HPm HS Hl Hq
        by_cases hkl : k < N
        · have hkl' : (k : Int) < (N : Int) := by omega
          obtain ⟨kk, hkk⟩ : ∃ kk : Nat, 2 * k = kk := ⟨_, rfl⟩
          have z1 : (2 : Int) * (k : Int) = (kk : Int) := by omega
          have z2 : (k : Int) * 2 = (kk : Int) := by omega
          have wkk : IntKind.i64.wrap (kk : Int) = (kk : Int) := by rw [IntKind.wrap_i64]; omega
          go_wp2
          go_loopw [7, 8] (fun va vb wx => ∃ (a q : Nat) (D1 E : List Hd), va = .int .i64 a ∧ vb = .int .i64 ((a : Int) + (kk : Int)) ∧ a ≤ N ∧ Hid (a = q * kk) ∧ Hid (D1.length = a) ∧ Hid (blL hdC kk D1) ∧ Hid (blL hdC k E) ∧ Hid ((D1 ++ E).Perm D) ∧ Hid (SrW w0 g tl (D1 ++ E) wx)) (fun va _ _ => N + 1 - (intOf va).toNat)
          case atStart => exact ⟨0, 0, [], F, rfl, by go_num, Nat.zero_le _, Lib.hid (by omega), Lib.hid rfl, Lib.hid (bl_nil _), HBF, HPF, HSF⟩
          case round =>
            obtain ⟨a, q, D1, E, rfl, rfl, haN, Hq, Hl, HBl, HBE, HPm, HS⟩ := hrel
            have lE : E.length = N - a := by have h1 := HPm.out.length_eq; have h2 := Hl.out; have h3 := HN.out; rw [List.length_append] at h1; omega
            by_cases hlt : a + kk ≤ N
            · have hlt' : (a : Int) + (kk : Int) ≤ (N : Int) := by omega
              have wa2 : IntKind.i64.wrap ((a : Int) + (kk : Int) + (kk : Int)) = (a : Int) + (kk : Int) + (kk : Int) := by rw [IntKind.wrap_i64]; omega
              have wa1 : IntKind.i64.wrap ((a : Int) + (k : Int)) = (a : Int) + (k : Int) := by rw [IntKind.wrap_i64]; omega
              obtain ⟨t1, t2, t3⟩ := bl_two HBE.out
              have lX : (E.take k).length = k := by rw [List.length_take]; omega
              have lY : ((E.drop k).take k).length = k := by rw [List.length_take, List.length_drop]; omega
              have eE : E = E.take k ++ ((E.drop k).take k ++ E.drop kk) := by
                rw [← hkk, show 2 * k = k + k by omega, ← List.drop_drop, List.take_append_drop, List.take_append_drop]
              have HC := Lib.hid (sym_all N c tl w0 g hmax (k + k + 1) D1 (E.take k) ((E.drop k).take k) (E.drop kk) a (a + k) (a + kk) wr Hl.out (by omega) (by omega) (by intro h; rw [h] at lX; simp at lX; omega) (by intro h; rw [h] at lY; simp at lY; omega) (by omega) (by rw [← eE, HPm.out.length_eq]; exact HN.out) t1 t2 (by have := HS.out; rwa [← eE]))
              have e1 : ((a + k : Nat) : Int) = (a : Int) + (k : Int) := by omega
              have e2 : ((a + kk : Nat) : Int) = (a : Int) + (kk : Int) := by omega
              rw [e1, e2] at HC
              have HF := Lib.hid (And.intro lX (And.intro lY (And.intro eE t3)))
              clear lE lX lY eE t1 t2 t3 e1 e2
              go_wp2_with fail
              refine HC.out.mono ?_
              rintro e w3 ⟨rfl, M, hp, hu, hS2⟩
              have HS3 := Lib.hid hS2
              have HX := Lib.hid (And.intro hp hu)
              clear hS2 hp hu HC
              go_wp2
              go_roundw
              case rel =>
                obtain ⟨lX, lY, eE, t3⟩ := HF.out
                have lM : M.length = kk := by rw [HX.out.1.length_eq, List.length_append, lX, lY]; omega
                refine ⟨a + kk, q + 1, D1 ++ M, E.drop kk, by go_num, by go_num, hlt, Lib.hid (by rw [Hq.out, Nat.add_mul]; omega), Lib.hid (by rw [List.length_append, Hl.out, lM]), Lib.hid (bl_snoc HBl.out (by rw [Hl.out, Hq.out]) HX.out.2), Lib.hid (by rw [← hkk]; exact t3), Lib.hid ?_, Lib.hid (by have := HS3.out; simpa only [List.append_assoc] using this)⟩
                refine List.Perm.trans ?_ HPm.out
                rw [List.append_assoc]
                refine List.Perm.append_left D1 ?_
                have := HX.out.1.append_right (E.drop kk)
                rwa [List.append_assoc, ← eE] at this
              case measure => simp [intOf]; omega
            · have hlt' : ¬ (a : Int) + (kk : Int) ≤ (N : Int) := by omega
              have wa1 : IntKind.i64.wrap ((a : Int) + (k : Int)) = (a : Int) + (k : Int) := by rw [IntKind.wrap_i64]; omega
              by_cases hm : a + k < N
              · have hm' : (a : Int) + (k : Int) < (N : Int) := by omega
                obtain ⟨t1, t2, _⟩ := bl_two HBE.out
                have lX : (E.take k).length = k := by rw [List.length_take]; omega
                have lY : (E.drop k).length = N - (a + k) := by rw [List.length_drop]; omega
                rw [List.take_of_length_le (by omega)] at t2
                have eE : E = E.take k ++ (E.drop k ++ []) := by rw [List.append_nil, List.take_append_drop]
                have HC := Lib.hid (sym_all N c tl w0 g hmax (N + N) D1 (E.take k) (E.drop k) [] a (a + k) N wr Hl.out (by omega) (by omega) (by intro h; rw [h] at lX; simp at lX; omega) (by intro h; rw [h] at lY; simp at lY; omega) (by omega) (by rw [← eE, HPm.out.length_eq]; exact HN.out) t1 t2 (by have := HS.out; rwa [← eE]))
                have e1 : ((a + k : Nat) : Int) = (a : Int) + (k : Int) := by omega
                rw [e1] at HC
                clear lE lX lY eE t1 t2 e1
                go_wp2_with fail
                refine HC.out.mono ?_
                rintro e w3 ⟨rfl, M, hp, hu, hS2⟩
                have HS3 : Hid (SrW w0 g tl (D1 ++ M) w3) := Lib.hid (by rwa [List.append_nil] at hS2)
                have HB3 : Hid (blL hdC kk (D1 ++ M)) := Lib.hid (bl_snoc HBl.out (by rw [Hl.out, Hq.out]) hu)
                have HP3 : Hid ((D1 ++ M).Perm D) := Lib.hid (by
                  rw [List.take_append_drop] at hp
                  exact (hp.append_left D1).trans HPm.out)
                clear hS2 hp hu HC
                go_wp2
                go_roundw
                case rel => exact ⟨kk, _, rfl, by omega, by omega, HB3, HP3, HS3⟩
                case measure => simp [intOf]; omega
              · have hm' : ¬ (a : Int) + (k : Int) < (N : Int) := by omega
                have HB3 : Hid (blL hdC kk (D1 ++ E)) := Lib.hid (bl_snoc HBl.out (by rw [Hl.out, Hq.out]) (bl_all HBE.out (by omega)))
                clear lE
                go_wp2
                go_roundw
                case rel => exact ⟨kk, _, rfl, by omega, by omega, HB3, HPm, HS⟩
                case measure => simp [intOf]; omega
        · have hkl' : ¬ (k : Int) < (N : Int) := by omega
          have HU : Hid (upL hdC F) := Lib.hid (bl_all HBF.out (by rw [HPF.out.length_eq, HN.out]; omega))
          go_wp2
          go_end0
          exact ⟨rfl, F, HPF.out, HU.out, HSF.out⟩
set_option maxRecDepth 100000 in
set_option maxHeartbeats 4000000 in
theorem sortStable_c (D : List Hd) (N c : Nat) (tl : List Value) (w0 W : World) (g : Nat) (hN : D.length = N) (hmax : N ≤ 1000000) (h : SrW w0 g tl D W) :
    Calls Tryz.prog 57 #[.slice (some ⟨g, 0, none⟩) N c, .func (.func 58) #[] #[]] W fun e w' => e = .returned (.tuple #[]) ∧ ∃ D', D'.Perm D ∧ upL hdC D' ∧ SrW w0 g tl D' w' := by
  have HC := Lib.hid (stable_c D N c tl w0 W g hN hmax h)
  clear h hN
  go_enter Tryz.func57, Tryz.ntmps57
  go_wp2_with fail
  refine HC.out.mono ?_
  rintro e w2 ⟨rfl, h2⟩
  have H2 := Lib.hid h2
  clear h2
  go_wp2
  go_end0
  exact ⟨rfl, H2.out⟩
end Go.Proofs.YthhepmddcncjoaaGreatDoor
namespace Go.Proofs.YthhepmddcncjoaaGreatDoor
open Go.RowKit

set_option maxRecDepth 100000 in
set_option maxHeartbeats 4000000 in
theorem same_c (a b : Rw) (v u : Value) (w : World) (hv : SlOf w w.heap.size 3 VlC a v) (hu : SlOf w w.heap.size 3 VlC b u) :
    Calls Tryz.prog 60 #[v, u] w fun e w' => e = .returned (.bool (rwC a b == 0)) ∧ Below w.heap.size w w' := by
  have HP := Lib.hid (pcompare_c a b v u w hv hu)
  clear hv hu
  go_enter Tryz.func60, Tryz.ntmps60
  go_wp2_with fail
  refine HP.out.mono ?_
  rintro e w1 ⟨rfl, b1⟩
  go_wp2
  go_ret
  exact ⟨rfl, b1⟩
theorem SrW.same {w0 W : World} {g : Nat} {tl : List Value} {hs : List Hd} (h : SrW w0 g tl hs W) {x y : Hd} (hx : x ∈ hs) (hy : y ∈ hs) {W' : World} (hb : Below W.heap.size W W') :
    Calls Tryz.prog 60 #[x.2, y.2] W' fun e w' => e = .returned (.bool (hdC x y == 0)) ∧ Below W'.heap.size W' w' :=
  same_c x.1 y.1 x.2 y.2 W' (hide_out ((h.below hb).see x hx)) (hide_out ((h.below hb).see y hy))
theorem sets_row {g : Nat} {T : TypeId} : ∀ (vs M A C : List Value) (w : World), vs.length = M.length → w.heap[g]? = some (.cells (A ++ (M ++ C)).toArray T (0, 0)) → (w.setCells g A.length vs).heap[g]? = some (.cells (A ++ (vs ++ C)).toArray T (0, 0))
  | [], M, A, C, w, h, hr => by
    have : M = [] := List.eq_nil_of_length_eq_zero h.symm
    subst this
    exact hr
  | v :: vs, [], A, C, w, h, hr => by simp at h
  | v :: vs, m :: M, A, C, w, h, hr => by
    have h1 : (w.setCell ⟨g, A.length, none⟩ v).heap[g]? = some (.cells ((A ++ [v]) ++ (M ++ C)).toArray T (0, 0)) := by
      rw [set_heap hr]
      congr 2
      rw [List.setIfInBounds_toArray, List.set_append_right _ _ (Nat.le_refl _), Nat.sub_self]
      simp
    have := sets_row vs M (A ++ [v]) C _ (by simpa using h) h1
    rw [List.length_append, List.length_singleton] at this
    rw [World.setCells]
    simpa only [List.append_assoc, List.singleton_append, List.cons_append, List.nil_append] using this
theorem sets_grown (g : Nat) : ∀ (vs : List Value) (o : Nat) (w : World), w.grownBy (w.setCells g o vs) (some g)
  | [], _, w => grown_refl w _
  | v :: vs, o, w => grown_then (grown_set w g o v) (sets_grown g vs (o + 1) _) (fun _ e => .inr e)
/-- The last ones taken out of the row. -/
theorem SrW.cleared {w0 W : World} {g : Nat} {tl : List Value} {K J : List Hd} (h : SrW w0 g tl (K ++ J) W) {k n : Nat} (hk : K.length = k) (hn : J.length = n) (z : Value) : SrW w0 g (List.replicate n z ++ tl) K (W.setCells g k (List.replicate n z)) := by
  subst hk; subst hn
  have hg := sets_grown g (List.replicate J.length z) K.length W
  refine ⟨?_, fun x hx => hide_to (h.see x (by simp [hx])) hg hg.size, grown_then h.b hg (fun j e => .inr e)⟩
  have hr := h.row
  rw [List.map_append, List.append_assoc] at hr
  have := sets_row (List.replicate J.length z) (J.map Prod.snd) (K.map Prod.snd) tl W (by simp) hr
  rw [List.length_map] at this
  exact this
theorem run_at {α : Type} {c : α → α → Int} {D : List α} {k : Nat} {p y : α} (hy : D[k]? = some y) : runL c p (D.drop k) = if c y p = 0 then runL c y (D.drop (k + 1)) else y :: runL c y (D.drop (k + 1)) := by
  have h1 : D.drop k = y :: D.drop (k + 1) := by rw [List.drop_eq_getElem_cons (List.getElem?_eq_some_iff.1 hy).1, (List.getElem?_eq_some_iff.1 hy).2]
  rw [h1, runL]

set_option linter.unusedSimpArgs false in
set_option maxRecDepth 100000 in
set_option maxHeartbeats 16000000 in
theorem compact_c (D : List Hd) (N c : Nat) (tl : List Value) (w0 W : World) (g : Nat) (hN : D.length = N) (hc : N ≤ c) (hNm : N ≤ 1000000) (hcm : c ≤ 9223372036854775807) (h : SrW w0 g tl D W) :
    Calls Tryz.prog 59 #[.slice (some ⟨g, 0, none⟩) N c, .func (.func 60) #[] #[]] W fun e w' => e = .returned (.slice (some ⟨g, 0, none⟩) (compL hdC D).length c) ∧ ∃ tl', SrW w0 g tl' (compL hdC D) w' := by
  have HH := Lib.hid h
  have eg : ∀ args w, (callFunc 60 args).run Tryz.prog w = .ok (.enter 60 args) w := enters_of Tryz.func60 (by kernel_rfl) rfl
  have HN := Lib.hid hN
  clear h
  by_cases h2 : N < 2
  · have h2' : (N : Int) < 2 := by omega
    have HD : Hid (compL hdC D = D) := Lib.hid (by
      match D, hN with
      | [], _ => rfl
      | [x], _ => rfl
      | x :: y :: D, h => simp at h; omega)
    clear hN
    go_enter Tryz.func59, Tryz.ntmps59
    go_wp2
    go_ret
    rw [HD.out, HN.out]
    exact ⟨rfl, tl, HH.out⟩
  · have h2' : ¬ (N : Int) < 2 := by omega
    obtain ⟨x0, hx0⟩ : ∃ x0, D[0]? = some x0 := ⟨D[0], List.getElem?_eq_getElem (by omega)⟩
    have HD0 : Hid (compL hdC D = D.take 1 ++ runL hdC x0 (D.drop 1)) := Lib.hid (by
      cases D with
      | nil => simp at hx0
      | cons y D => simp at hx0; subst hx0; simp [compL])
    have HX0 := Lib.hid hx0
    clear hN hx0
    have zRow : ∀ w : World, (zeroValue 39).run Tryz.prog w = .ok (.slice none 0 0) w := fun w => by kernel_rfl
    go_enter Tryz.func59, Tryz.ntmps59
    go_wp2
    go_loopw [5] (fun vk wr => ∃ (k : Nat) (p : Hd), vk = .int .i64 k ∧ 1 ≤ k ∧ k ≤ N ∧ Hid (D[k - 1]? = some p) ∧ Hid (compL hdC D = D.take k ++ runL hdC p (D.drop k)) ∧ Hid (SrW w0 g tl D wr)) (fun vk _ => N - (intOf vk).toNat)
    case atStart => exact ⟨1, x0, rfl, Nat.le_refl _, by omega, HX0, HD0, HH⟩
    case round =>
      obtain ⟨k, p, rfl, hk1, hkN, Hp, HC, HS⟩ := hrel
      by_cases hlt : k < N
      · have hlt' : (k : Int) < (N : Int) := by omega
        have hk0 : (0 : Int) ≤ (k : Int) := by omega
        obtain ⟨k1, hk⟩ : ∃ k1 : Nat, (k : Int) - 1 = (k1 : Int) := ⟨k - 1, by omega⟩
        have hk1' : k - 1 = k1 := by omega
        rw [hk1'] at Hp
        have wk1 : IntKind.i64.wrap (k1 : Int) = (k1 : Int) := by rw [IntKind.wrap_i64]; omega
        have hk10 : (0 : Int) ≤ (k1 : Int) := by omega
        have hk1N : (k1 : Int) < (N : Int) := by omega
        have hkD : k < D.length := by have := HN.out; omega
        obtain ⟨y, hy⟩ : ∃ y, D[k]? = some y := ⟨D[k], List.getElem?_eq_getElem hkD⟩
        have cy := HS.out.cell hy
        have cp := HS.out.cell Hp.out
        have hglt := HS.out.lt
        have HCm := Lib.hid (fun (W' : World) (hb : Below wr.heap.size wr W') => HS.out.same (x := y) (y := p) (List.mem_of_getElem? hy) (List.mem_of_getElem? Hp.out) hb)
        have Hy := Lib.hid hy
        have Hrun := Lib.hid (run_at (c := hdC) (p := p) hy)
        obtain ⟨z, hz⟩ : ∃ z, hdC y p = z := ⟨_, rfl⟩
        rw [hz] at HCm Hrun
        have Hz := Lib.hid hz
        clear hy hz hk1'
        by_cases hz0 : z = 0
        · have hz1 : (z == 0) = true := by simp [hz0]
          have Hr2 := Lib.hid (HC.out.trans (congrArg (D.take k ++ ·) (Hrun.out.trans (if_pos hz0))))
          have hkc : ¬ c = k := by omega
          have hck : (k : Int) ≤ (c : Int) := by omega
          clear Hrun HC
          subst hz0
          go_wp2_with fail
          go_still_tail 10, (by kernel_rfl)
          go_wp2_with (go_at_fn 60; refine (HCm.out _ (Below.refl _ _).drew).mono ?_; rintro e w2 ⟨rfl, b2⟩; have HS2 := Lib.hid (HS.out.drew.below b2); clear b2 HCm cy cp)
          have HZ0 : Hid (D.drop k = y :: D.drop (k + 1)) := Lib.hid (by rw [List.drop_eq_getElem_cons (List.getElem?_eq_some_iff.1 Hy.out).1, (List.getElem?_eq_some_iff.1 Hy.out).2])
          have HS3 : Hid (SrW w0 g tl (D.take k ++ ([] ++ (y :: D.drop (k + 1)))) w2) := Lib.hid (by have := HS2.out; rw [← HZ0.out, List.nil_append, List.take_append_drop]; exact this)
          go_loopw [5, 7] (fun vk vj wr => ∃ (kk j pz : Nat) (K J Z : List Hd) (z0 : Hd), vk = .int .i64 kk ∧ vj = .int .i64 j ∧ 1 ≤ j ∧ pz + 1 = k + j ∧ kk ≤ pz ∧ pz < N ∧ Hid (K.length = kk) ∧ Hid (K.length + J.length = pz) ∧ Hid (pz + 1 + Z.length = N) ∧ Hid (compL hdC D = K ++ runL hdC z0 Z) ∧ Hid (SrW w0 g tl (K ++ (J ++ (z0 :: Z))) wr)) (fun _ vj _ => N - (intOf vj).toNat)
          case atStart =>
            have l1 : (D.take k).length = k := by rw [List.length_take]; omega
            exact ⟨k, 1, k, D.take k, [], D.drop (k + 1), y, rfl, rfl, Nat.le_refl _, rfl, Nat.le_refl _, hlt, Lib.hid l1, Lib.hid (by rw [l1]; rfl), Lib.hid (by rw [List.length_drop]; have := HN.out; omega), Hr2, HS3⟩
          case round =>
            obtain ⟨kk, j, pz, K, J, Z, z0, rfl, rfl, hj1, hpz, hkp, hpN, HlK, HlJ, HlZ, HCo, HX⟩ := hrel
            clear HS3 HZ0 HS2 Hr2
            have hNk : k ≤ N := by omega
            by_cases hjl : j < N - k
            · have hjl' : (j : Int) < ((N - k : Nat) : Int) := by omega
              have hj0 : (0 : Int) ≤ (j : Int) := by omega
              obtain ⟨j1, hjj⟩ : ∃ j1 : Nat, (j : Int) - 1 = (j1 : Int) := ⟨j - 1, by omega⟩
              have wj1 : IntKind.i64.wrap (j1 : Int) = (j1 : Int) := by rw [IntKind.wrap_i64]; omega
              have hj10 : (0 : Int) ≤ (j1 : Int) := by omega
              have hj1l : (j1 : Int) < ((N - k : Nat) : Int) := by omega
              obtain ⟨z1, Z1, hZ⟩ : ∃ z1 Z1, Z = z1 :: Z1 := by
                cases Z with
                | nil => exfalso; have := HlZ.out; simp at this; omega
                | cons z1 Z1 => exact ⟨z1, Z1, rfl⟩
              subst hZ
              have g1 : (K ++ (J ++ (z0 :: (z1 :: Z1))))[k + j]? = some z1 := by
                rw [← hpz, ← HlJ.out, List.getElem?_append_right (by omega), List.getElem?_append_right (by omega), show K.length + J.length + 1 - K.length - J.length = 1 by omega]; rfl
              have g0 : (K ++ (J ++ (z0 :: (z1 :: Z1))))[k + j1]? = some z0 := by
                rw [show k + j1 = K.length + J.length by have := HlJ.out; omega, List.getElem?_append_right (by omega), List.getElem?_append_right (by omega), show K.length + J.length - K.length - J.length = 0 by omega]; rfl
              obtain ⟨rz, vz⟩ := z1
              obtain ⟨oz, cz, hvz⟩ := srw_slice HX.out (x := (rz, vz)) (by simp)
              simp only at hvz
              subst hvz
              have c1 := HX.out.cell g1
              have c0 := HX.out.cell g0
              have hglt := HX.out.lt
              have HCm := Lib.hid (fun (W' : World) (hb : Below wr.heap.size wr W') => HX.out.same (x := (rz, Value.slice oz rz.length cz)) (y := z0) (List.mem_of_getElem? g1) (List.mem_of_getElem? g0) hb)
              have Hg := Lib.hid (And.intro g1 g0)
              obtain ⟨q, hq⟩ : ∃ q, hdC (rz, Value.slice oz rz.length cz) z0 = q := ⟨_, rfl⟩
              rw [hq] at HCm
              have Hq := Lib.hid hq
              clear g1 g0 hq
              by_cases hq0 : q = 0
              · have hq1 : (q == 0) = true := by simp [hq0]
                have HCo2 : Hid (compL hdC D = K ++ runL hdC (rz, Value.slice oz rz.length cz) Z1) := Lib.hid (by rw [HCo.out, runL, if_pos (by rw [Hq.out]; exact hq0)])
                subst hq0
                go_wp2_with fail
                go_still_tail 10, (by kernel_rfl)
                go_wp2_with (go_at_fn 60; refine (HCm.out _ (Below.refl _ _).drew).mono ?_; rintro e w3 ⟨rfl, b3⟩; have HX2 := Lib.hid (HX.out.drew.below b3); clear b3 HCm c1 c0)
                all_goals first
                  | (exfalso; simp at hq1; done)
                  | (go_roundw
                     case rel => exact ⟨kk, j + 1, pz + 1, K, J ++ [z0], Z1, (rz, Value.slice oz rz.length cz), rfl, by go_num, by omega, by omega, by omega, by omega, HlK, Lib.hid (by have := HlJ.out; simp; omega), Lib.hid (by have := HlZ.out; simp at this; omega), HCo2, Lib.hid (by have := HX2.out; simpa using this)⟩
                     case measure => simp [intOf]; omega)
              · have hq1 : (q == 0) = false := by simp [hq0]
                have HCo2 : Hid (compL hdC D = (K ++ [(rz, Value.slice oz rz.length cz)]) ++ runL hdC (rz, Value.slice oz rz.length cz) Z1) := Lib.hid (by rw [HCo.out, runL, if_neg (by rw [Hq.out]; exact hq0)]; simp)
                have hkN2 : (kk : Int) < (N : Int) := by omega
                have hkk0 : (0 : Int) ≤ (kk : Int) := by omega
                go_wp2_with fail
                go_still_tail 10, (by kernel_rfl)
                go_wp2_with (go_at_fn 60; refine (HCm.out _ (Below.refl _ _).drew).mono ?_; rintro e w3 ⟨rfl, b3⟩; have HX2 := Lib.hid (HX.out.drew.below b3); clear b3 HCm c1 c0; have c1 := HX2.out.cell Hg.out.1; have fk := HX2.out.froz kk; have hglt3 := HX2.out.lt; (obtain ⟨xk, hxk⟩ : ∃ xk, (K ++ (J ++ (z0 :: ((rz, Value.slice oz rz.length cz) :: Z1))))[kk]? = some xk := ⟨_, List.getElem?_eq_getElem (by have := HlK.out; have := HlJ.out; simp; omega)⟩); have ck := HX2.out.cell hxk; have HX3 := Lib.hid (HX2.out.set (i := kk) (x := (rz, Value.slice oz rz.length cz)) (by have := HlK.out; simp; omega) (HX2.out.see _ (by simp))); clear hxk)
                all_goals first
                  | (exfalso; simp at hq1; omega)
                  | (go_roundw
                     case rel =>
                       refine ⟨kk + 1, j + 1, pz + 1, K ++ [(rz, Value.slice oz rz.length cz)], (J ++ [z0]).drop 1, Z1, (rz, Value.slice oz rz.length cz), by go_num, by go_num, by omega, by omega, by omega, by omega, Lib.hid (by have := HlK.out; simp; omega), Lib.hid (by have := HlJ.out; have := HlK.out; simp; omega), Lib.hid (by have := HlZ.out; simp at this; omega), HCo2, Lib.hid ?_⟩
                       have h3 := HX3.out
                       have e : (K ++ (J ++ (z0 :: ((rz, Value.slice oz rz.length cz) :: Z1)))).set kk (rz, Value.slice oz rz.length cz) = (K ++ [(rz, Value.slice oz rz.length cz)]) ++ ((J ++ [z0]).drop 1 ++ ((rz, Value.slice oz rz.length cz) :: Z1)) := by
                         rw [← HlK.out, List.set_append_right _ _ (Nat.le_refl _), Nat.sub_self]
                         cases J with
                         | nil => simp
                         | cons j0 J' => simp
                       rw [e] at h3
                       exact h3
                     case measure => simp [intOf]; omega)
            · have hjl' : ¬ (j : Int) < ((N - k : Nat) : Int) := by omega
              have hZ : Z = [] := List.eq_nil_of_length_eq_zero (by have := HlZ.out; omega)
              subst hZ
              have HK : Hid (compL hdC D = K) := Lib.hid (by rw [HCo.out]; simp [runL])
              have hkc2 : ¬ c = kk := by omega
              have hkkN : kk < N := by omega
              have hkN2 : (kk : Int) ≤ (N : Int) := by omega
              have hkc3 : (kk : Int) ≤ (c : Int) := by omega
              have hkk0 : (0 : Int) ≤ (kk : Int) := by omega
              have hlen : (K ++ (J ++ [z0])).length = N := by have := HlJ.out; have := HlZ.out; simp at *; omega
              have hcl : ∀ ty, (Builtin.clear_ #[41] ty #[.slice (some ⟨g, kk, none⟩) (N - kk) (c - kk)]).run Tryz.prog wr = .ok (.tuple #[]) (wr.setCells g kk (List.replicate (N - kk) (.slice none 0 0))) :=
                fun ty => Lib.run_clear_slice wr _ _ ty _ Tryz.underlying41 zRow rfl rfl g kk _ _ (by omega) (fun t ht => by
                  obtain ⟨x, hx⟩ : ∃ x, (K ++ (J ++ [z0]))[kk + t]? = some x := ⟨_, List.getElem?_eq_getElem (by omega)⟩
                  rw [HX.out.cell hx]; rfl) (fun t ht => HX.out.froz _)
              have HX2 : Hid (SrW w0 g (List.replicate (N - kk) (.slice none 0 0) ++ tl) K (wr.setCells g kk (List.replicate (N - kk) (.slice none 0 0)))) := Lib.hid (HX.out.cleared HlK.out (by have := HlK.out; simp at hlen ⊢; omega) _)
              clear hlen
              go_wp2
              go_ret
              rw [HK.out, HlK.out]
              exact ⟨rfl, _, HX2.out⟩
        · have hz1 : (z == 0) = false := by simp [hz0]
          have Hr2 := Lib.hid (HC.out.trans (congrArg (D.take k ++ ·) (Hrun.out.trans (if_neg hz0))))
          have HC2 : Hid (compL hdC D = D.take (k + 1) ++ runL hdC y (D.drop (k + 1))) := Lib.hid (by rw [Hr2.out, List.take_add_one, Hy.out]; simp)
          clear Hrun HC Hr2
          go_wp2_with fail
          go_still_tail 10, (by kernel_rfl)
          go_wp2_with (go_at_fn 60; refine (HCm.out _ (Below.refl _ _).drew).mono ?_; rintro e w2 ⟨rfl, b2⟩; have HS2 := Lib.hid (HS.out.drew.below b2); clear b2 HCm cy cp)
          all_goals first
            | (exfalso; simp at hz1; omega)
            | (go_roundw
               case rel => exact ⟨k + 1, y, by go_num, by omega, hlt, Hy, HC2, HS2⟩
               case measure => simp [intOf]; omega)
      · have hlt' : ¬ (k : Int) < (N : Int) := by omega
        have HD : Hid (compL hdC D = D) := Lib.hid (by rw [HC.out, List.take_of_length_le (by have := HN.out; omega), List.drop_of_length_le (by have := HN.out; omega)]; simp [runL])
        go_wp2
        go_ret
        rw [HD.out, HN.out]
        exact ⟨rfl, tl, HS.out⟩
theorem comp_map : ∀ (r : List Hd) (p : Hd), (runL hdC p r).map Prod.fst = runL rwC p.1 (r.map Prod.fst)
  | [], _ => rfl
  | y :: r, p => by
    have ih := comp_map r y
    rw [List.map_cons, runL, runL]
    show List.map Prod.fst (if rwC y.1 p.1 = 0 then _ else _) = _
    split
    · exact ih
    · rw [List.map_cons, ih]
theorem comp_map' (l : List Hd) : (compL hdC l).map Prod.fst = compL rwC (l.map Prod.fst) := by
  cases l with
  | nil => rfl
  | cons x r => rw [compL, List.map_cons, List.map_cons, compL, comp_map]
theorem RoR.srw {w W : World} {base g n c : Nat} {hs : List Hd} (h : RoR w base (.slice (some ⟨g, 0, none⟩) n c) hs W) (hn : hs.length = n) : ∃ tl, SrW W g tl hs W ∧ n ≤ c ∧ c ≤ 9223372036854775807 := by
  rcases h.own.2 with ⟨e, _⟩ | ⟨g', cap, cur, e, _, hr, hnc, hcm, hcs, ht⟩
  · cases e
  · cases e
    refine ⟨cur.toList.drop hs.length, ⟨?_, fun x hx => h.see x hx, grown_refl _ _⟩, by omega, by unfold maxLen at hcm; omega⟩
    rw [hr, ← ht, Nat.mul_one, List.take_append_drop, Array.toArray_toList]
theorem SrW.rows {w0 W : World} {g c : Nat} {tl : List Value} {hs : List Hd} (h : SrW w0 g tl hs W) (hc : hs.length ≤ c) (hcm : c ≤ maxLen) : RwsS W W.heap.size (hs.map Prod.fst) (.slice (some ⟨g, 0, none⟩) hs.length c) := by
  refine .inr ⟨⟨g, 0, none⟩, c, by rw [List.length_map], by rw [List.length_map]; exact hc, hcm, fun _ => h.lt, fun i r hr => ?_⟩
  rw [List.getElem?_map] at hr
  cases hx : hs[i]? with
  | none => rw [hx] at hr; cases hr
  | some x =>
    rw [hx] at hr
    cases hr
    refine ⟨[x.2], rfl, ⟨x.2, rfl, hide_out (h.see x (List.mem_of_getElem? hx))⟩, fun j c' hj => ?_⟩
    have hj0 : j = 0 := by have := (List.getElem?_eq_some_iff.1 hj).1; simp at this; omega
    subst hj0
    have e : (⟨g, 0, none⟩ : Addr).add (i * 1 + 0) = ⟨g, i, none⟩ := by unfold Addr.add; split <;> simp_all
    rw [e, h.cell hx]
    simpa using hj
theorem comp_le : ∀ (l : List Hd), (compL hdC l).length ≤ l.length
  | [] => Nat.le_refl _
  | x :: r => by have := run_len (c := hdC) r x; rw [compL, List.length_cons, List.length_cons]; omega

set_option maxRecDepth 100000 in
set_option maxHeartbeats 4000000 in
theorem psort_c (l : List Rw) (v : Value) (w : World) (hv : RwsS w w.heap.size l v) (hn : l.length ≤ 1000000) (hf : ∀ r ∈ l, FitW r) (hcl : ∀ r ∈ l, cleanR r = true) :
    Calls Tryz.prog 29 #[v] w fun e w' => ∃ r, e = .returned r ∧ RwsS w' w'.heap.size (sortL rwC l) r ∧ Below w.heap.size w w' := by
  have HC := Lib.hid (copyRows_c l v w hv hn hf)
  have HL := Lib.hid hcl
  have HN := Lib.hid hn
  obtain ⟨o1, c1, rfl, _⟩ := SlOf.uni hv
  clear hv hf hcl hn
  go_enter Tryz.func29, Tryz.ntmps29
  go_wp2_with fail
  refine HC.out.mono ?_
  rintro e w1 ⟨hs, g, c, rfl, hm, hg, hO⟩
  have hlen : hs.length = l.length := by rw [← hm, List.length_map]
  obtain ⟨tl, hS, hnc, hcm⟩ := hO.srw hlen
  have HS := Lib.hid (sortStable_c hs l.length c tl w1 w1 g hlen HN.out hS)
  have HO := Lib.hid hO.b
  have HM := Lib.hid hm
  have HG := Lib.hid hg
  clear hO hm hg hS HC hlen
  go_wp2_with fail
  refine HS.out.mono ?_
  rintro e w2 ⟨rfl, D, hp, hu, hS2⟩
  have HK := Lib.hid (compact_c D l.length c tl w1 w2 g (by rw [hp.length_eq, ← List.length_map (f := Prod.fst), HM.out]) hnc HN.out hcm hS2)
  have HE : Hid ((compL hdC D).map Prod.fst = sortL rwC l) := Lib.hid (by
    rw [comp_map']
    refine comp_sort rwC_tot (P := fun r => cleanR r = true) rwC_zero HL.out ?_ ?_
    · have := hp.map Prod.fst
      rwa [HM.out] at this
    · exact List.pairwise_map.2 hu)
  have HLe : Hid ((compL hdC D).length ≤ c) := Lib.hid (by
    have h1 := comp_le D
    have h2 : D.length = l.length := by rw [hp.length_eq, ← List.length_map (f := Prod.fst), HM.out]
    omega)
  clear hp hu hS2 HS
  go_wp2_with fail
  refine HK.out.mono ?_
  rintro e w3 ⟨rfl, tl', hS3⟩
  have HR : Hid (RwsS w3 w3.heap.size (sortL rwC l) (.slice (some ⟨g, 0, none⟩) (compL hdC D).length c)) := Lib.hid (by rw [← HE.out]; exact hS3.rows HLe.out (by unfold maxLen; omega))
  have HB : Hid (Below w.heap.size w w3) := Lib.hid (HO.out.grown hS3.b HO.out.size (fun k hk => by cases hk; exact HG.out))
  clear hS3 HK
  go_wp2
  go_ret
  exact ⟨_, rfl, HR.out, HB.out⟩
end Go.Proofs.YthhepmddcncjoaaGreatDoor
