/- soriteslaw05.shown answers true. -/
import Derived.Test.YtbpdfmpfnbdeoaaDoorYsh0
import Derived.Test.YtbpdfmpfnbdeoaaDoorFlow
namespace Go.Proofs.YtbpdfmpfnbdeoaaDoor
open Go.RowKit

theorem drewB {n : Nat} {w w' : World} (h : Below n w.drew w') : Below n w w' := ⟨h.os, h.tape, h.output, h.size, h.block⟩
def slots2 : List (Option Tmp) := [some 11, some 12, some 13, some 14, some 15, some 16, some 17, some 10, some 18, some 19, some 2, some 3]
def facts2 (B : Nat) : List (Value → World → Prop) :=
  [fun v w => SlOf w w.heap.size 6 (DeC w w.heap.size) [twoD] v, fun v _ => v = .agg (xyCells B).toArray, fun v _ => v = .agg (xyCells B).toArray, fun v _ => v = .agg (litCells B).toArray,
   fun v w => ∃ b, v = .slice (some ⟨b, 0, none⟩) 1 1 ∧ w.heap[b]? = some (.cells (litCells B).toArray 45 (0, 0)),
   fun v w => ∃ b, v = .agg (ruCells B b).toArray ∧ w.heap[b]? = some (.cells (litCells B).toArray 45 (0, 0)),
   fun v w => ∃ u, v = .tuple #[u, .int .i64 0] ∧ SlOf w w.heap.size 1 IntC [1, 2] u, fun v w => ∃ u, v = .tuple #[u, .int .i64 0] ∧ SlOf w w.heap.size 1 IntC [1, 2] u,
   fun v w => SlOf w w.heap.size 1 IntC [1, 2] v, fun v _ => v = .int .i64 0, fun v w => SlOf w w.heap.size 1 IntC [1, 2] v, fun v _ => v = .int .i64 0]
theorem facts2_mono (B : Nat) : ∀ p ∈ facts2 B, ∀ v w w', p v w → Below w.heap.size w w' → p v w' := by
  intro p hp v w w' h hb
  unfold facts2 at hp
  simp only [List.mem_cons, List.not_mem_nil, or_false] at hp
  rcases hp with rfl | rfl | rfl | rfl | rfl | rfl | rfl | rfl | rfl | rfl | rfl | rfl
  · exact SlOf.decl h hb hb.size
  · exact h
  · exact h
  · exact h
  · obtain ⟨b, h1, h2⟩ := h; exact ⟨b, h1, (hb.block b (heap_lt h2)).trans h2⟩
  · obtain ⟨b, h1, h2⟩ := h; exact ⟨b, h1, (hb.block b (heap_lt h2)).trans h2⟩
  · obtain ⟨u, h1, h2⟩ := h; exact ⟨u, h1, SlOf.int h2 hb hb.size⟩
  · obtain ⟨u, h1, h2⟩ := h; exact ⟨u, h1, SlOf.int h2 hb hb.size⟩
  · exact SlOf.int h hb hb.size
  · exact h
  · exact SlOf.int h hb hb.size
  · exact h
def vCells (s : ByteArray) : List Value := [.int .i64 1, .string s, .int .i64 0, .slice none 0 0]
def slots3 : List (Option Tmp) := [some 21, some 22, some 23, some 24, some 25, some 26, some 27, some 28, some 29, some 30, some 20, some 31, some 32, some 4, some 5]
def facts3 (B : Nat) : List (Value → World → Prop) :=
  [fun v w => SlOf w w.heap.size 6 (DeC w w.heap.size) [twoD] v, fun v _ => v = .agg (vCells xS).toArray, fun v _ => v = .agg (vCells xS).toArray,
   fun v w => ∃ A, v = .slice (some ⟨A, 0, none⟩) 2 2 ∧ TwoAt w A xS xS, fun v w => ∃ A, v = .agg (xyCells A).toArray ∧ TwoAt w A xS xS,
   fun v _ => v = .agg (xyCells B).toArray, fun v _ => v = .agg (litCells B).toArray,
   fun v w => ∃ b, v = .slice (some ⟨b, 0, none⟩) 1 1 ∧ w.heap[b]? = some (.cells (litCells B).toArray 45 (0, 0)),
   fun v w => ∃ A b, v = .agg (ruCells A b).toArray ∧ TwoAt w A xS xS ∧ w.heap[b]? = some (.cells (litCells B).toArray 45 (0, 0)),
   fun v _ => ∃ u, v = .tuple #[u, .int .i64 53], fun v _ => ∃ u, v = .tuple #[u, .int .i64 53], fun _ _ => True, fun v _ => v = .int .i64 53, fun _ _ => True, fun v _ => v = .int .i64 53]
theorem facts3_mono (B : Nat) : ∀ p ∈ facts3 B, ∀ v w w', p v w → Below w.heap.size w w' → p v w' := by
  intro p hp v w w' h hb
  unfold facts3 at hp
  simp only [List.mem_cons, List.not_mem_nil, or_false] at hp
  rcases hp with rfl | rfl | rfl | rfl | rfl | rfl | rfl | rfl | rfl | rfl | rfl | rfl | rfl | rfl | rfl
  · exact SlOf.decl h hb hb.size
  · exact h
  · exact h
  · obtain ⟨b, h1, h2⟩ := h; exact ⟨b, h1, (hb.block b (heap_lt h2)).trans h2⟩
  · obtain ⟨b, h1, h2⟩ := h; exact ⟨b, h1, (hb.block b (heap_lt h2)).trans h2⟩
  · exact h
  · exact h
  · obtain ⟨b, h1, h2⟩ := h; exact ⟨b, h1, (hb.block b (heap_lt h2)).trans h2⟩
  · obtain ⟨a, b, h1, h2, h3⟩ := h; exact ⟨a, b, h1, (hb.block a (heap_lt h2)).trans h2, (hb.block b (heap_lt h3)).trans h3⟩
  · exact h
  · exact h
  · exact h
  · exact h
  · exact h
  · exact h
set_option maxRecDepth 100000 in
set_option maxHeartbeats 8000000 in
theorem shown5_c (e a b' c d : Addr) (w : World) (E : EnvY e a b' c d w) : Calls Tryd.prog 11 #[] w fun e w' => e = .returned (.bool true) ∧ Below w.heap.size w w' := by
  have HE := Lib.hid E
  clear E
  go_enter Tryd.func11, Tryd.ntmps11
  go_wp2_with fail
  refine (v_c _ _).mono ?_
  rintro e1 w1 ⟨rfl, b1⟩
  go_wp2_with fail
  refine (v_c _ _).mono ?_
  rintro e2 w2 ⟨rfl, b2⟩
  go_wp2_with fail
  have B2 := Lib.hid (b1.trans (b2.mono b1.size))
  clear b1 b2
  obtain ⟨B, hB⟩ : ∃ B, w2.heap.size = B := ⟨_, rfl⟩
  obtain ⟨W3, hW3⟩ : ∃ W3, w2.alloc (.cells #[.int .i64 1, .string ⟨#[120]⟩, .int .i64 0, .slice none 0 0, .int .i64 1, .string ⟨#[121]⟩, .int .i64 0, .slice none 0 0] 43) = W3 := ⟨_, rfl⟩
  obtain ⟨W4, hW4⟩ : ∃ W4, W3.alloc (.cells #[.string ⟨#[112]⟩, .slice (some ⟨B, 0, none⟩) 2 2] 24) = W4 := ⟨_, rfl⟩
  have r3 : TwoAt W3 B xS yS := by unfold TwoAt; rw [← hW3, ← hB]; exact World.alloc_heap_new w2 _
  have z3 : W3.heap.size = B + 1 := by rw [← hW3, ← hB]; simp
  have r4 : TwoAt W4 B xS yS := by unfold TwoAt at *; rw [← hW4]; exact row_more r3 _
  have q4 : W4.heap[B + 1]? = some (.cells (xyCells B).toArray 24 (0, 0)) := by rw [← hW4, ← z3]; exact World.alloc_heap_new W3 _
  have b4 : Below w.heap.size w W4 := by
    rw [← hW4, ← hW3]
    exact (B2.out.alloc B2.out.size _).alloc (by have := B2.out.size; simp; omega) _
  rw [hB, hW3, hW4]
  have R4 := Lib.hid r4
  have Q4 := Lib.hid q4
  have B4 := Lib.hid b4
  clear r3 z3 r4 q4 b4 hW3 hW4 hB
  refine wp_region_any (by kernel_rfl) ?_
  (try (change wpAny _ _ _ _ _ _ _ (World.drew _)))
  refine wpAny_grow slots2 _ _ (facts2 B) (by kernel_rfl) (by kernel_rfl) (by kernel_rfl) (by kernel_rfl) (by kernel_rfl) (facts2_mono B) ⟨?s0, ?s1, ?s2, ?s3, ?s4, ?s5, ?s6, ?s7, ?s8, ?s9, ?s10, ?s11, trivial⟩ ?fin
  case s0 =>
    intro A w' K hb hfar hd hK
    unfold Oper.wp
    go_simp
    refine (two_c w').mono ?_
    rintro e3 w3 ⟨v, rfl, h3, b3⟩
    exact hK _ _ b3 (factG_mk rfl h3)
  case s1 =>
    intro A w' K hb hfar hd hK
    have e1 : A.tmps[1]?.getD undef = .pointer (some ⟨B + 1, 0, none⟩) := hfar 1 (by decide)
    have q := (hb.block _ (heap_lt Q4.out)).trans Q4.out
    have c0 : w'.cell? ⟨B + 1, 0, none⟩ = some (.string pS) := row_cells q 0
    have c1 : w'.cell? ⟨B + 1, 1, none⟩ = some (.slice (some ⟨B, 0, none⟩) 2 2) := row_cells q 1
    unfold Oper.wp
    simp [execOp, e1, c0, c1, go_sem, Result.andThen]
    exact hK _ _ (Below.refl _ _) (factG_mk rfl rfl)
  case s2 =>
    intro A w' K hb hfar hd hK
    have e1 : A.tmps[1]?.getD undef = .pointer (some ⟨B + 1, 0, none⟩) := hfar 1 (by decide)
    have q := (hb.block _ (heap_lt Q4.out)).trans Q4.out
    have c0 : w'.cell? ⟨B + 1, 0, none⟩ = some (.string pS) := row_cells q 0
    have c1 : w'.cell? ⟨B + 1, 1, none⟩ = some (.slice (some ⟨B, 0, none⟩) 2 2) := row_cells q 1
    unfold Oper.wp
    simp [execOp, e1, c0, c1, go_sem, Result.andThen]
    exact hK _ _ (Below.refl _ _) (factG_mk rfl rfl)
  case s3 =>
    intro A w' K hb hfar hd hK
    have e1 : A.tmps[13]?.getD undef = .agg (xyCells B).toArray := hd 2 13 rfl (by kernel_rfl) _ rfl
    unfold xyCells at e1
    unfold Oper.wp
    simp [execOp, e1, go_sem, Result.andThen]
    exact hK _ _ (Below.refl _ _) (factG_mk rfl rfl)
  case s4 =>
    intro A w' K hb hfar hd hK
    have e1 : A.tmps[14]?.getD undef = .agg (litCells B).toArray := hd 3 14 rfl (by kernel_rfl) _ rfl
    unfold litCells xyCells at e1
    unfold Oper.wp
    simp [execOp, e1, go_sem, Result.andThen]
    exact hK _ _ ((Below.refl _ _).alloc (Nat.le_refl _) _) (factG_mk rfl ⟨_, rfl, by first | exact World.alloc_heap_new w' _ | (unfold TwoAt xS; exact World.alloc_heap_new w' _)⟩)
  case s5 =>
    intro A w' K hb hfar hd hK
    have e1 : A.tmps[12]?.getD undef = .agg (xyCells B).toArray := hd 1 12 rfl (by kernel_rfl) _ rfl
    obtain ⟨b, e2, hr⟩ : ∃ b, A.tmps[15]?.getD undef = .slice (some ⟨b, 0, none⟩) 1 1 ∧ w'.heap[b]? = some (.cells (litCells B).toArray 45 (0, 0)) := hd 4 15 rfl (by kernel_rfl) _ rfl
    unfold xyCells at e1
    unfold Oper.wp
    simp [execOp, e1, e2, go_sem, Result.andThen]
    exact hK _ _ (Below.refl _ _) (factG_mk rfl ⟨b, rfl, hr⟩)
  case s6 =>
    intro A w' K hb hfar hd hK
    have e1 : SlOf w' w'.heap.size 6 (DeC w' w'.heap.size) [twoD] (A.tmps[11]?.getD undef) := hd 0 11 rfl (by kernel_rfl) _ rfl
    obtain ⟨b, e2, hr⟩ : ∃ b, A.tmps[16]?.getD undef = .agg (ruCells B b).toArray ∧ w'.heap[b]? = some (.cells (litCells B).toArray 45 (0, 0)) := hd 5 16 rfl (by kernel_rfl) _ rfl
    have hb' := B4.out.trans ((drewB hb).mono B4.out.size)
    have h2 : TwoAt w' B xS yS := (hb.block _ (heap_lt R4.out)).trans R4.out
    have hT := types_c [twoD] (A.tmps[11]?.getD undef) xyR (ruCells B b) e a b' c d w' e1 (xy_ru h2 h2 (by decide) (by decide) hr) xy_len.1 xy_len.2 (HE.out.below hb')
    unfold Oper.wp
    simp [execOp, e2, go_sem, Result.andThen]
    refine hT.mono ?_
    rintro e3 w3 ⟨u, l, k, rfl, h1, h2, b3⟩
    obtain ⟨rfl, rfl⟩ := types_xy h1
    exact hK _ _ b3 (factG_mk rfl ⟨u, rfl, h2⟩)
  case s7 =>
    intro A w' K hb hfar hd hK
    obtain ⟨u, e1, h1⟩ : ∃ u, A.tmps[17]?.getD undef = .tuple #[u, .int .i64 0] ∧ SlOf w' w'.heap.size 1 IntC [1, 2] u := hd 6 17 rfl (by kernel_rfl) _ rfl
    unfold Oper.wp
    simp [execOp, e1, go_sem, Result.andThen]
    exact hK _ _ (Below.refl _ _) (factG_mk rfl ⟨u, rfl, h1⟩)
  case s8 =>
    intro A w' K hb hfar hd hK
    obtain ⟨u, e1, h1⟩ : ∃ u, A.tmps[10]?.getD undef = .tuple #[u, .int .i64 0] ∧ SlOf w' w'.heap.size 1 IntC [1, 2] u := hd 7 10 rfl (by kernel_rfl) _ rfl
    unfold Oper.wp
    simp [execOp, e1, go_sem, Result.andThen]
    exact hK _ _ (Below.refl _ _) (factG_mk rfl h1)
  case s9 =>
    intro A w' K hb hfar hd hK
    obtain ⟨u, e1, h1⟩ : ∃ u, A.tmps[10]?.getD undef = .tuple #[u, .int .i64 0] ∧ SlOf w' w'.heap.size 1 IntC [1, 2] u := hd 7 10 rfl (by kernel_rfl) _ rfl
    unfold Oper.wp
    simp [execOp, e1, go_sem, Result.andThen]
    exact hK _ _ (Below.refl _ _) (factG_mk rfl rfl)
  case s10 =>
    intro A w' K hb hfar hd hK
    have e1 : SlOf w' w'.heap.size 1 IntC [1, 2] (A.tmps[18]?.getD undef) := hd 8 18 rfl (by kernel_rfl) _ rfl
    unfold Oper.wp
    simp [execOp, go_sem, Result.andThen]
    exact hK _ _ (Below.refl _ _) (factG_mk rfl e1)
  case s11 =>
    intro A w' K hb hfar hd hK
    have e1 : A.tmps[19]?.getD undef = .int .i64 0 := hd 9 19 rfl (by kernel_rfl) _ rfl
    unfold Oper.wp
    simp [execOp, e1, go_sem, Result.andThen]
    exact hK _ _ (Below.refl _ _) (factG_mk rfl rfl)
  case fin =>
    intro val w5 hF hb
    have f10 : SlOf w5 w5.heap.size 1 IntC [1, 2] (val 10) := hF 10 2 rfl _ rfl
    have f11 : val 11 = .int .i64 0 := hF 11 3 rfl _ rfl
    have r5 : TwoAt w5 B xS yS := (hb.block _ (heap_lt R4.out)).trans R4.out
    have q5 := (hb.block _ (heap_lt Q4.out)).trans Q4.out
    have B5 := Lib.hid (B4.out.trans ((drewB hb).mono B4.out.size))
    simp only [slots2, putsA, Nat.zero_add, Nat.reduceAdd, f11]
    obtain ⟨v0, e0⟩ : ∃ v, val 0 = v := ⟨_, rfl⟩
    obtain ⟨v1, e1⟩ : ∃ v, val 1 = v := ⟨_, rfl⟩
    obtain ⟨v2, e2⟩ : ∃ v, val 2 = v := ⟨_, rfl⟩
    obtain ⟨v3, e3⟩ : ∃ v, val 3 = v := ⟨_, rfl⟩
    obtain ⟨v4, e4⟩ : ∃ v, val 4 = v := ⟨_, rfl⟩
    obtain ⟨v5, e5⟩ : ∃ v, val 5 = v := ⟨_, rfl⟩
    obtain ⟨v6, e6⟩ : ∃ v, val 6 = v := ⟨_, rfl⟩
    obtain ⟨v7, e7⟩ : ∃ v, val 7 = v := ⟨_, rfl⟩
    obtain ⟨v8, e8⟩ : ∃ v, val 8 = v := ⟨_, rfl⟩
    obtain ⟨v9, e9⟩ : ∃ v, val 9 = v := ⟨_, rfl⟩
    obtain ⟨lv, e10⟩ : ∃ v, val 10 = v := ⟨_, rfl⟩
    rw [e10] at f10
    simp only [e0, e1, e2, e3, e4, e5, e6, e7, e8, e9, e10]
    clear hF hb f11 e0 e1 e2 e3 e4 e5 e6 e7 e8 e9 e10 val
    have F10 := Lib.hid f10
    have R5 := Lib.hid r5
    have Q5 := Lib.hid q5
    clear f10 r5 q5
    go_wp2_with fail
    go_simp
    refine wp_region_any (by kernel_rfl) ?_
    (try (change wpAny _ _ _ _ _ _ _ (World.drew _)))
    refine wpAny_grow slots3 _ _ (facts3 B) (by kernel_rfl) (by kernel_rfl) (by kernel_rfl) (by kernel_rfl) (by kernel_rfl) (facts3_mono B) ⟨?q0, ?q1, ?q2, ?q3, ?q4, ?q5, ?q6, ?q7, ?q8, ?q9, ?q10, ?q11, ?q12, ?q13, ?q14, trivial⟩ ?fin2
    case q0 =>
      intro A w' K hb hfar hd hK
      unfold Oper.wp
      go_simp
      refine (two_c w').mono ?_
      rintro e3 w3 ⟨v, rfl, h3, b3⟩
      exact hK _ _ b3 (factG_mk rfl h3)
    case q1 =>
      intro A w' K hb hfar hd hK
      unfold Oper.wp
      go_simp
      refine (v_c _ w').mono ?_
      rintro e3 w3 ⟨rfl, b3⟩
      exact hK _ _ b3 (factG_mk rfl rfl)
    case q2 =>
      intro A w' K hb hfar hd hK
      unfold Oper.wp
      go_simp
      refine (v_c _ w').mono ?_
      rintro e3 w3 ⟨rfl, b3⟩
      exact hK _ _ b3 (factG_mk rfl rfl)
    case q3 =>
      intro A w' K hb hfar hd hK
      have e1 : A.tmps[22]?.getD undef = .agg (vCells xS).toArray := hd 1 22 rfl (by kernel_rfl) _ rfl
      have e2 : A.tmps[23]?.getD undef = .agg (vCells xS).toArray := hd 2 23 rfl (by kernel_rfl) _ rfl
      unfold vCells at e1 e2
      unfold Oper.wp
      simp [execOp, e1, e2, go_sem, Result.andThen]
      exact hK _ _ ((Below.refl _ _).alloc (Nat.le_refl _) _) (factG_mk rfl ⟨_, rfl, by unfold TwoAt; exact World.alloc_heap_new w' _⟩)
    case q4 =>
      intro A w' K hb hfar hd hK
      obtain ⟨a1, e1, h1⟩ : ∃ a, A.tmps[24]?.getD undef = .slice (some ⟨a, 0, none⟩) 2 2 ∧ TwoAt w' a xS xS := hd 3 24 rfl (by kernel_rfl) _ rfl
      unfold Oper.wp
      simp [execOp, e1, go_sem, Result.andThen]
      exact hK _ _ (Below.refl _ _) (factG_mk rfl ⟨a1, rfl, h1⟩)
    case q5 =>
      intro A w' K hb hfar hd hK
      have e1 : A.tmps[1]?.getD undef = .pointer (some ⟨B + 1, 0, none⟩) := hfar 1 (by decide)
      have q := (hb.block _ (heap_lt Q5.out)).trans Q5.out
      have c0 : w'.cell? ⟨B + 1, 0, none⟩ = some (.string pS) := row_cells q 0
      have c1 : w'.cell? ⟨B + 1, 1, none⟩ = some (.slice (some ⟨B, 0, none⟩) 2 2) := row_cells q 1
      unfold Oper.wp
      simp [execOp, e1, c0, c1, go_sem, Result.andThen]
      exact hK _ _ (Below.refl _ _) (factG_mk rfl rfl)
    case q6 =>
      intro A w' K hb hfar hd hK
      have e1 : A.tmps[26]?.getD undef = .agg (xyCells B).toArray := hd 5 26 rfl (by kernel_rfl) _ rfl
      unfold xyCells at e1
      unfold Oper.wp
      simp [execOp, e1, go_sem, Result.andThen]
      exact hK _ _ (Below.refl _ _) (factG_mk rfl rfl)
    case q7 =>
      intro A w' K hb hfar hd hK
      have e1 : A.tmps[27]?.getD undef = .agg (litCells B).toArray := hd 6 27 rfl (by kernel_rfl) _ rfl
      unfold litCells xyCells at e1
      unfold Oper.wp
      simp [execOp, e1, go_sem, Result.andThen]
      exact hK _ _ ((Below.refl _ _).alloc (Nat.le_refl _) _) (factG_mk rfl ⟨_, rfl, by first | exact World.alloc_heap_new w' _ | (unfold TwoAt xS; exact World.alloc_heap_new w' _)⟩)
    case q8 =>
      intro A w' K hb hfar hd hK
      obtain ⟨a1, e1, h1⟩ : ∃ a, A.tmps[25]?.getD undef = .agg (xyCells a).toArray ∧ TwoAt w' a xS xS := hd 4 25 rfl (by kernel_rfl) _ rfl
      obtain ⟨b, e2, hr⟩ : ∃ b, A.tmps[28]?.getD undef = .slice (some ⟨b, 0, none⟩) 1 1 ∧ w'.heap[b]? = some (.cells (litCells B).toArray 45 (0, 0)) := hd 7 28 rfl (by kernel_rfl) _ rfl
      unfold xyCells at e1
      unfold Oper.wp
      simp [execOp, e1, e2, go_sem, Result.andThen]
      exact hK _ _ (Below.refl _ _) (factG_mk rfl ⟨a1, b, rfl, h1, hr⟩)
    case q9 =>
      intro A w' K hb hfar hd hK
      have e1 : SlOf w' w'.heap.size 6 (DeC w' w'.heap.size) [twoD] (A.tmps[21]?.getD undef) := hd 0 21 rfl (by kernel_rfl) _ rfl
      obtain ⟨a1, b, e2, h1, hr⟩ : ∃ a b, A.tmps[29]?.getD undef = .agg (ruCells a b).toArray ∧ TwoAt w' a xS xS ∧ w'.heap[b]? = some (.cells (litCells B).toArray 45 (0, 0)) := hd 8 29 rfl (by kernel_rfl) _ rfl
      have hb' := B5.out.trans ((drewB hb).mono B5.out.size)
      have h2 : TwoAt w' B xS yS := (hb.block _ (heap_lt R5.out)).trans R5.out
      have hT := types_c [twoD] (A.tmps[21]?.getD undef) xxR (ruCells a1 b) e a b' c d w' e1 (xy_ru h1 h2 (by decide) (by decide) hr) xx_len.1 xx_len.2 (HE.out.below hb')
      unfold Oper.wp
      simp [execOp, e2, go_sem, Result.andThen]
      refine hT.mono ?_
      rintro e3 w3 ⟨u, l, k, rfl, h1, h2, b3⟩
      obtain ⟨rfl, rfl⟩ := types_xx h1
      exact hK _ _ b3 (factG_mk rfl ⟨u, rfl⟩)
    case q10 =>
      intro A w' K hb hfar hd hK
      obtain ⟨u, e1⟩ : ∃ u, A.tmps[30]?.getD undef = .tuple #[u, .int .i64 53] := hd 9 30 rfl (by kernel_rfl) _ rfl
      unfold Oper.wp
      simp [execOp, e1, go_sem, Result.andThen]
      exact hK _ _ (Below.refl _ _) (factG_mk rfl ⟨u, rfl⟩)
    case q11 =>
      intro A w' K hb hfar hd hK
      obtain ⟨u, e1⟩ : ∃ u, A.tmps[20]?.getD undef = .tuple #[u, .int .i64 53] := hd 10 20 rfl (by kernel_rfl) _ rfl
      unfold Oper.wp
      simp [execOp, e1, go_sem, Result.andThen]
      exact hK _ _ (Below.refl _ _) (factG_mk rfl trivial)
    case q12 =>
      intro A w' K hb hfar hd hK
      obtain ⟨u, e1⟩ : ∃ u, A.tmps[20]?.getD undef = .tuple #[u, .int .i64 53] := hd 10 20 rfl (by kernel_rfl) _ rfl
      unfold Oper.wp
      simp [execOp, e1, go_sem, Result.andThen]
      exact hK _ _ (Below.refl _ _) (factG_mk rfl rfl)
    case q13 =>
      intro A w' K hb hfar hd hK
      unfold Oper.wp
      simp [execOp, go_sem, Result.andThen]
      exact hK _ _ (Below.refl _ _) (factG_mk rfl trivial)
    case q14 =>
      intro A w' K hb hfar hd hK
      have e1 : A.tmps[32]?.getD undef = .int .i64 53 := hd 12 32 rfl (by kernel_rfl) _ rfl
      unfold Oper.wp
      simp [execOp, e1, go_sem, Result.andThen]
      exact hK _ _ (Below.refl _ _) (factG_mk rfl rfl)
    case fin2 =>
      intro val w6 hF hb
      have f14 : val 14 = .int .i64 53 := hF 14 5 rfl _ rfl
      have B6 := Lib.hid (B5.out.trans ((drewB hb).mono B5.out.size))
      have h6 : SlOf w6 w6.heap.size 1 IntC [1, 2] lv := SlOf.int F10.out (drewB hb) hb.size
      obtain ⟨Z, hZ⟩ : ∃ Z : Obj, .cells #[.int .i64 1, .int .i64 2] 3 = Z := ⟨_, rfl⟩
      have b7 : Below w6.heap.size w6 (w6.alloc Z) := (Below.refl _ _).alloc (Nat.le_refl _) _
      have h7 : SlOf (w6.alloc Z) (w6.alloc Z).heap.size 1 IntC [1, 2] (.slice (some ⟨w6.heap.size, 0, none⟩) 2 2) := by
        refine sl_cells (l := [(1 : Int), 2]) [[.int .i64 1], [.int .i64 2]] (by rw [← hZ]; exact World.alloc_heap_new w6 _) rfl (by simp) ?_ (by decide)
        intro i x cs hx hc
        match i, hx, hc with
        | 0, hx, hc => simp at hx hc; subst hx hc; exact ⟨rfl, by unfold I64; decide⟩
        | 1, hx, hc => simp at hx hc; subst hx hc; exact ⟨rfl, by unfold I64; decide⟩
        | i + 2, hx, _ => simp at hx
      have HS := Lib.hid (sameInts_c [1, 2] [1, 2] _ _ _ (SlOf.int h6 b7 b7.size) h7)
      have B7 := Lib.hid (B6.out.trans (b7.mono B6.out.size))
      subst hZ
      obtain ⟨o6, k6, rfl, _⟩ := SlOf.uni h6
      simp only [slots3, putsA, Nat.zero_add, Nat.reduceAdd, f14]
      clear hF hb f14 h6 h7 b7
      go_simp
      go_wp2_with fail
      refine HS.out.mono ?_
      rintro e7 w7 ⟨rfl, b7⟩
      have B8 := Lib.hid (B7.out.trans (b7.mono B7.out.size))
      go_wp2
      go_ret
      exact ⟨rfl, B8.out⟩
end Go.Proofs.YtbpdfmpfnbdeoaaDoor
