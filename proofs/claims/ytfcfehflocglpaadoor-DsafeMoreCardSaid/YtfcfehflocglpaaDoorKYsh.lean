/- soriteslaw05.shown answers true. A region that draws its order and makes memory, and whose last operation, which hangs on all others, writes. slices.Contains of numbers. slices.Contains of names, and of numbers. A loop over an iterator that itself moves what the loop's rounds read, and that may yield nothing; appends of whole lists within a fence. -/
import Derived.Test.YtfcfehflocglpaaDoorKYtp
import Derived.Test.YtfcfehflocglpaaDoorKAny
import Derived.Test.YtfcfehflocglpaaDoorKSpr
import Derived.Test.YtfcfehflocglpaaDoorKLaid
import Derived.RangeFuncNested
import Derived.RangeFuncLeaves
import Derived.RangeFuncCalls
import Derived.Maps.OwnIn
namespace Go.Proofs.YtfcfehflocglpaaDoor
open Go.RowKit

theorem drewB {n : Nat} {w w' : World} (h : Below n w.drew w') : Below n w w' := ⟨h.os, h.tape, h.output, h.size, h.block⟩
def slots2 : List (Option Tmp) := [some 11, some 12, some 13, some 14, some 15, some 16, some 17, some 10, some 18, some 19, some 2, some 3]
def facts2 (B : Nat) : List (Value → World → Prop) :=
  [fun v w => SlOf w w.heap.size 6 (DeC w w.heap.size) [twoD] v, fun v _ => v = .agg (xyCells B).toArray, fun v _ => v = .agg (xyCells B).toArray, fun v _ => v = .agg (litCells B).toArray,
   fun v w => ∃ b, v = .slice (some ⟨b, 0, none⟩) 1 1 ∧ w.heap[b]? = some (.cells (litCells B).toArray 45 (0, 0)),
   fun v w => ∃ b, v = .agg (ruCells B b).toArray ∧ w.heap[b]? = some (.cells (litCells B).toArray 45 (0, 0)),
   fun v w => ∃ u, v = .tuple #[u, .int .i64 0] ∧ SlOf w w.heap.size 1 IntC [1, 2] u, fun v w => ∃ u, v = .tuple #[u, .int .i64 0] ∧ SlOf w w.heap.size 1 IntC [1, 2] u,
   fun v w => SlOf w w.heap.size 1 IntC [1, 2] v, fun v _ => v = .int .i64 0, fun v w => SlOf w w.heap.size 1 IntC [1, 2] v, fun v _ => v = .int .i64 0]
theorem facts2_mono (B : Nat) : ∀ p ∈ facts2 B, ∀ v w w', p v w → Below w.heap.size w w' → p v w' := by
  intro p hp v w w' h hb
  unfold facts2 at hp
  simp only [List.mem_cons, List.not_mem_nil, or_false] at hp
  rcases hp with rfl | rfl | rfl | rfl | rfl | rfl | rfl | rfl | rfl | rfl | rfl | rfl
  · exact SlOf.decl h hb hb.size
  · exact h
  · exact h
  · exact h
  · obtain ⟨b, h1, h2⟩ := h; exact ⟨b, h1, (hb.block b (heap_lt h2)).trans h2⟩
  · obtain ⟨b, h1, h2⟩ := h; exact ⟨b, h1, (hb.block b (heap_lt h2)).trans h2⟩
  · obtain ⟨u, h1, h2⟩ := h; exact ⟨u, h1, SlOf.int h2 hb hb.size⟩
  · obtain ⟨u, h1, h2⟩ := h; exact ⟨u, h1, SlOf.int h2 hb hb.size⟩
  · exact SlOf.int h hb hb.size
  · exact h
  · exact SlOf.int h hb hb.size
  · exact h
def vCells (s : ByteArray) : List Value := [.int .i64 1, .string s, .int .i64 0, .slice none 0 0]
def slots3 : List (Option Tmp) := [some 21, some 22, some 23, some 24, some 25, some 26, some 27, some 28, some 29, some 30, some 20, some 31, some 32, some 4, some 5]
def facts3 (B : Nat) : List (Value → World → Prop) :=
  [fun v w => SlOf w w.heap.size 6 (DeC w w.heap.size) [twoD] v, fun v _ => v = .agg (vCells xS).toArray, fun v _ => v = .agg (vCells xS).toArray,
   fun v w => ∃ A, v = .slice (some ⟨A, 0, none⟩) 2 2 ∧ TwoAt w A xS xS, fun v w => ∃ A, v = .agg (xyCells A).toArray ∧ TwoAt w A xS xS,
   fun v _ => v = .agg (xyCells B).toArray, fun v _ => v = .agg (litCells B).toArray,
   fun v w => ∃ b, v = .slice (some ⟨b, 0, none⟩) 1 1 ∧ w.heap[b]? = some (.cells (litCells B).toArray 45 (0, 0)),
   fun v w => ∃ A b, v = .agg (ruCells A b).toArray ∧ TwoAt w A xS xS ∧ w.heap[b]? = some (.cells (litCells B).toArray 45 (0, 0)),
   fun v _ => ∃ u, v = .tuple #[u, .int .i64 53], fun v _ => ∃ u, v = .tuple #[u, .int .i64 53], fun _ _ => True, fun v _ => v = .int .i64 53, fun _ _ => True, fun v _ => v = .int .i64 53]
theorem facts3_mono (B : Nat) : ∀ p ∈ facts3 B, ∀ v w w', p v w → Below w.heap.size w w' → p v w' := by
  intro p hp v w w' h hb
  unfold facts3 at hp
  simp only [List.mem_cons, List.not_mem_nil, or_false] at hp
  rcases hp with rfl | rfl | rfl | rfl | rfl | rfl | rfl | rfl | rfl | rfl | rfl | rfl | rfl | rfl | rfl
  · exact SlOf.decl h hb hb.size
  · exact h
  · exact h
  · obtain ⟨b, h1, h2⟩ := h; exact ⟨b, h1, (hb.block b (heap_lt h2)).trans h2⟩
  · obtain ⟨b, h1, h2⟩ := h; exact ⟨b, h1, (hb.block b (heap_lt h2)).trans h2⟩
  · exact h
  · exact h
  · obtain ⟨b, h1, h2⟩ := h; exact ⟨b, h1, (hb.block b (heap_lt h2)).trans h2⟩
  · obtain ⟨a, b, h1, h2, h3⟩ := h; exact ⟨a, b, h1, (hb.block a (heap_lt h2)).trans h2, (hb.block b (heap_lt h3)).trans h3⟩
  · exact h
  · exact h
  · exact h
  · exact h
  · exact h
  · exact h
set_option maxRecDepth 100000 in
set_option maxHeartbeats 8000000 in
theorem shown5_c (e a b' c d : Addr) (w : World) (E : EnvY e a b' c d w) : Calls Tryd.prog 11 #[] w fun e w' => e = .returned (.bool true) ∧ Below w.heap.size w w' := by
  have HE := Lib.hid E
  clear E
  go_enter Tryd.func11, Tryd.ntmps11
  go_wp2_with fail
  refine (v_c _ _).mono ?_
  rintro e1 w1 ⟨rfl, b1⟩
  go_wp2_with fail
  refine (v_c _ _).mono ?_
  rintro e2 w2 ⟨rfl, b2⟩
  go_wp2_with fail
  have B2 := Lib.hid (b1.trans (b2.mono b1.size))
  clear b1 b2
  obtain ⟨B, hB⟩ : ∃ B, w2.heap.size = B := ⟨_, rfl⟩
  obtain ⟨W3, hW3⟩ : ∃ W3, w2.alloc (.cells #[.int .i64 1, .string ⟨#[120]⟩, .int .i64 0, .slice none 0 0, .int .i64 1, .string ⟨#[121]⟩, .int .i64 0, .slice none 0 0] 43) = W3 := ⟨_, rfl⟩
  obtain ⟨W4, hW4⟩ : ∃ W4, W3.alloc (.cells #[.string ⟨#[112]⟩, .slice (some ⟨B, 0, none⟩) 2 2] 24) = W4 := ⟨_, rfl⟩
  have r3 : TwoAt W3 B xS yS := by unfold TwoAt; rw [← hW3, ← hB]; exact World.alloc_heap_new w2 _
  have z3 : W3.heap.size = B + 1 := by rw [← hW3, ← hB]; simp
  have r4 : TwoAt W4 B xS yS := by unfold TwoAt at *; rw [← hW4]; exact row_more r3 _
  have q4 : W4.heap[B + 1]? = some (.cells (xyCells B).toArray 24 (0, 0)) := by rw [← hW4, ← z3]; exact World.alloc_heap_new W3 _
  have b4 : Below w.heap.size w W4 := by
    rw [← hW4, ← hW3]
    exact (B2.out.alloc B2.out.size _).alloc (by have := B2.out.size; simp; omega) _
  rw [hB, hW3, hW4]
  have R4 := Lib.hid r4
  have Q4 := Lib.hid q4
  have B4 := Lib.hid b4
  clear r3 z3 r4 q4 b4 hW3 hW4 hB
  refine wp_region_any (by kernel_rfl) ?_
  (try (change wpAny _ _ _ _ _ _ _ (World.drew _)))
  refine wpAny_grow slots2 _ _ (facts2 B) (by kernel_rfl) (by kernel_rfl) (by kernel_rfl) (by kernel_rfl) (by kernel_rfl) (facts2_mono B) ⟨?s0, ?s1, ?s2, ?s3, ?s4, ?s5, ?s6, ?s7, ?s8, ?s9, ?s10, ?s11, trivial⟩ ?fin
  case s0 =>
    intro A w' K hb hfar hd hK
    unfold Oper.wp
    go_simp
    refine (two_c w').mono ?_
    rintro e3 w3 ⟨v, rfl, h3, b3⟩
    exact hK _ _ b3 (factG_mk rfl h3)
  case s1 =>
    intro A w' K hb hfar hd hK
    have e1 : A.tmps[1]?.getD undef = .pointer (some ⟨B + 1, 0, none⟩) := hfar 1 (by decide)
    have q := (hb.block _ (heap_lt Q4.out)).trans Q4.out
    have c0 : w'.cell? ⟨B + 1, 0, none⟩ = some (.string pS) := row_cells q 0
    have c1 : w'.cell? ⟨B + 1, 1, none⟩ = some (.slice (some ⟨B, 0, none⟩) 2 2) := row_cells q 1
    unfold Oper.wp
    simp [execOp, e1, c0, c1, go_sem, Result.andThen]
    exact hK _ _ (Below.refl _ _) (factG_mk rfl rfl)
  case s2 =>
    intro A w' K hb hfar hd hK
    have e1 : A.tmps[1]?.getD undef = .pointer (some ⟨B + 1, 0, none⟩) := hfar 1 (by decide)
    have q := (hb.block _ (heap_lt Q4.out)).trans Q4.out
    have c0 : w'.cell? ⟨B + 1, 0, none⟩ = some (.string pS) := row_cells q 0
    have c1 : w'.cell? ⟨B + 1, 1, none⟩ = some (.slice (some ⟨B, 0, none⟩) 2 2) := row_cells q 1
    unfold Oper.wp
    simp [execOp, e1, c0, c1, go_sem, Result.andThen]
    exact hK _ _ (Below.refl _ _) (factG_mk rfl rfl)
  case s3 =>
    intro A w' K hb hfar hd hK
    have e1 : A.tmps[13]?.getD undef = .agg (xyCells B).toArray := hd 2 13 rfl (by kernel_rfl) _ rfl
    unfold xyCells at e1
    unfold Oper.wp
    simp [execOp, e1, go_sem, Result.andThen]
    exact hK _ _ (Below.refl _ _) (factG_mk rfl rfl)
  case s4 =>
    intro A w' K hb hfar hd hK
    have e1 : A.tmps[14]?.getD undef = .agg (litCells B).toArray := hd 3 14 rfl (by kernel_rfl) _ rfl
    unfold litCells xyCells at e1
    unfold Oper.wp
    simp [execOp, e1, go_sem, Result.andThen]
    exact hK _ _ ((Below.refl _ _).alloc (Nat.le_refl _) _) (factG_mk rfl ⟨_, rfl, by first | exact World.alloc_heap_new w' _ | (unfold TwoAt xS; exact World.alloc_heap_new w' _)⟩)
  case s5 =>
    intro A w' K hb hfar hd hK
    have e1 : A.tmps[12]?.getD undef = .agg (xyCells B).toArray := hd 1 12 rfl (by kernel_rfl) _ rfl
    obtain ⟨b, e2, hr⟩ : ∃ b, A.tmps[15]?.getD undef = .slice (some ⟨b, 0, none⟩) 1 1 ∧ w'.heap[b]? = some (.cells (litCells B).toArray 45 (0, 0)) := hd 4 15 rfl (by kernel_rfl) _ rfl
    unfold xyCells at e1
    unfold Oper.wp
    simp [execOp, e1, e2, go_sem, Result.andThen]
    exact hK _ _ (Below.refl _ _) (factG_mk rfl ⟨b, rfl, hr⟩)
  case s6 =>
    intro A w' K hb hfar hd hK
    have e1 : SlOf w' w'.heap.size 6 (DeC w' w'.heap.size) [twoD] (A.tmps[11]?.getD undef) := hd 0 11 rfl (by kernel_rfl) _ rfl
    obtain ⟨b, e2, hr⟩ : ∃ b, A.tmps[16]?.getD undef = .agg (ruCells B b).toArray ∧ w'.heap[b]? = some (.cells (litCells B).toArray 45 (0, 0)) := hd 5 16 rfl (by kernel_rfl) _ rfl
    have hb' := B4.out.trans ((drewB hb).mono B4.out.size)
    have h2 : TwoAt w' B xS yS := (hb.block _ (heap_lt R4.out)).trans R4.out
    have hT := types_c [twoD] (A.tmps[11]?.getD undef) xyR (ruCells B b) e a b' c d w' e1 (xy_ru h2 h2 (by decide) (by decide) hr) xy_len.1 xy_len.2 (HE.out.below hb')
    unfold Oper.wp
    simp [execOp, e2, go_sem, Result.andThen]
    refine hT.mono ?_
    rintro e3 w3 ⟨u, l, k, rfl, h1, h2, b3⟩
    obtain ⟨rfl, rfl⟩ := types_xy h1
    exact hK _ _ b3 (factG_mk rfl ⟨u, rfl, h2⟩)
  case s7 =>
    intro A w' K hb hfar hd hK
    obtain ⟨u, e1, h1⟩ : ∃ u, A.tmps[17]?.getD undef = .tuple #[u, .int .i64 0] ∧ SlOf w' w'.heap.size 1 IntC [1, 2] u := hd 6 17 rfl (by kernel_rfl) _ rfl
    unfold Oper.wp
    simp [execOp, e1, go_sem, Result.andThen]
    exact hK _ _ (Below.refl _ _) (factG_mk rfl ⟨u, rfl, h1⟩)
  case s8 =>
    intro A w' K hb hfar hd hK
    obtain ⟨u, e1, h1⟩ : ∃ u, A.tmps[10]?.getD undef = .tuple #[u, .int .i64 0] ∧ SlOf w' w'.heap.size 1 IntC [1, 2] u := hd 7 10 rfl (by kernel_rfl) _ rfl
    unfold Oper.wp
    simp [execOp, e1, go_sem, Result.andThen]
    exact hK _ _ (Below.refl _ _) (factG_mk rfl h1)
  case s9 =>
    intro A w' K hb hfar hd hK
    obtain ⟨u, e1, h1⟩ : ∃ u, A.tmps[10]?.getD undef = .tuple #[u, .int .i64 0] ∧ SlOf w' w'.heap.size 1 IntC [1, 2] u := hd 7 10 rfl (by kernel_rfl) _ rfl
    unfold Oper.wp
    simp [execOp, e1, go_sem, Result.andThen]
    exact hK _ _ (Below.refl _ _) (factG_mk rfl rfl)
  case s10 =>
    intro A w' K hb hfar hd hK
    have e1 : SlOf w' w'.heap.size 1 IntC [1, 2] (A.tmps[18]?.getD undef) := hd 8 18 rfl (by kernel_rfl) _ rfl
    unfold Oper.wp
    simp [execOp, go_sem, Result.andThen]
    exact hK _ _ (Below.refl _ _) (factG_mk rfl e1)
  case s11 =>
    intro A w' K hb hfar hd hK
    have e1 : A.tmps[19]?.getD undef = .int .i64 0 := hd 9 19 rfl (by kernel_rfl) _ rfl
    unfold Oper.wp
    simp [execOp, e1, go_sem, Result.andThen]
    exact hK _ _ (Below.refl _ _) (factG_mk rfl rfl)
  case fin =>
    intro val w5 hF hb
    have f10 : SlOf w5 w5.heap.size 1 IntC [1, 2] (val 10) := hF 10 2 rfl _ rfl
    have f11 : val 11 = .int .i64 0 := hF 11 3 rfl _ rfl
    have r5 : TwoAt w5 B xS yS := (hb.block _ (heap_lt R4.out)).trans R4.out
    have q5 := (hb.block _ (heap_lt Q4.out)).trans Q4.out
    have B5 := Lib.hid (B4.out.trans ((drewB hb).mono B4.out.size))
    simp only [slots2, putsA, Nat.zero_add, Nat.reduceAdd, f11]
    obtain ⟨v0, e0⟩ : ∃ v, val 0 = v := ⟨_, rfl⟩
    obtain ⟨v1, e1⟩ : ∃ v, val 1 = v := ⟨_, rfl⟩
    obtain ⟨v2, e2⟩ : ∃ v, val 2 = v := ⟨_, rfl⟩
    obtain ⟨v3, e3⟩ : ∃ v, val 3 = v := ⟨_, rfl⟩
    obtain ⟨v4, e4⟩ : ∃ v, val 4 = v := ⟨_, rfl⟩
    obtain ⟨v5, e5⟩ : ∃ v, val 5 = v := ⟨_, rfl⟩
    obtain ⟨v6, e6⟩ : ∃ v, val 6 = v := ⟨_, rfl⟩
    obtain ⟨v7, e7⟩ : ∃ v, val 7 = v := ⟨_, rfl⟩
    obtain ⟨v8, e8⟩ : ∃ v, val 8 = v := ⟨_, rfl⟩
    obtain ⟨v9, e9⟩ : ∃ v, val 9 = v := ⟨_, rfl⟩
    obtain ⟨lv, e10⟩ : ∃ v, val 10 = v := ⟨_, rfl⟩
    rw [e10] at f10
    simp only [e0, e1, e2, e3, e4, e5, e6, e7, e8, e9, e10]
    clear hF hb f11 e0 e1 e2 e3 e4 e5 e6 e7 e8 e9 e10 val
    have F10 := Lib.hid f10
    have R5 := Lib.hid r5
    have Q5 := Lib.hid q5
    clear f10 r5 q5
    go_wp2_with fail
    go_simp
    refine wp_region_any (by kernel_rfl) ?_
    (try (change wpAny _ _ _ _ _ _ _ (World.drew _)))
    refine wpAny_grow slots3 _ _ (facts3 B) (by kernel_rfl) (by kernel_rfl) (by kernel_rfl) (by kernel_rfl) (by kernel_rfl) (facts3_mono B) ⟨?q0, ?q1, ?q2, ?q3, ?q4, ?q5, ?q6, ?q7, ?q8, ?q9, ?q10, ?q11, ?q12, ?q13, ?q14, trivial⟩ ?fin2
    case q0 =>
      intro A w' K hb hfar hd hK
      unfold Oper.wp
      go_simp
      refine (two_c w').mono ?_
      rintro e3 w3 ⟨v, rfl, h3, b3⟩
      exact hK _ _ b3 (factG_mk rfl h3)
    case q1 =>
      intro A w' K hb hfar hd hK
      unfold Oper.wp
      go_simp
      refine (v_c _ w').mono ?_
      rintro e3 w3 ⟨rfl, b3⟩
      exact hK _ _ b3 (factG_mk rfl rfl)
    case q2 =>
      intro A w' K hb hfar hd hK
      unfold Oper.wp
      go_simp
      refine (v_c _ w').mono ?_
      rintro e3 w3 ⟨rfl, b3⟩
      exact hK _ _ b3 (factG_mk rfl rfl)
    case q3 =>
      intro A w' K hb hfar hd hK
      have e1 : A.tmps[22]?.getD undef = .agg (vCells xS).toArray := hd 1 22 rfl (by kernel_rfl) _ rfl
      have e2 : A.tmps[23]?.getD undef = .agg (vCells xS).toArray := hd 2 23 rfl (by kernel_rfl) _ rfl
      unfold vCells at e1 e2
      unfold Oper.wp
      simp [execOp, e1, e2, go_sem, Result.andThen]
      exact hK _ _ ((Below.refl _ _).alloc (Nat.le_refl _) _) (factG_mk rfl ⟨_, rfl, by unfold TwoAt; exact World.alloc_heap_new w' _⟩)
    case q4 =>
      intro A w' K hb hfar hd hK
      obtain ⟨a1, e1, h1⟩ : ∃ a, A.tmps[24]?.getD undef = .slice (some ⟨a, 0, none⟩) 2 2 ∧ TwoAt w' a xS xS := hd 3 24 rfl (by kernel_rfl) _ rfl
      unfold Oper.wp
      simp [execOp, e1, go_sem, Result.andThen]
      exact hK _ _ (Below.refl _ _) (factG_mk rfl ⟨a1, rfl, h1⟩)
    case q5 =>
      intro A w' K hb hfar hd hK
      have e1 : A.tmps[1]?.getD undef = .pointer (some ⟨B + 1, 0, none⟩) := hfar 1 (by decide)
      have q := (hb.block _ (heap_lt Q5.out)).trans Q5.out
      have c0 : w'.cell? ⟨B + 1, 0, none⟩ = some (.string pS) := row_cells q 0
      have c1 : w'.cell? ⟨B + 1, 1, none⟩ = some (.slice (some ⟨B, 0, none⟩) 2 2) := row_cells q 1
      unfold Oper.wp
      simp [execOp, e1, c0, c1, go_sem, Result.andThen]
      exact hK _ _ (Below.refl _ _) (factG_mk rfl rfl)
    case q6 =>
      intro A w' K hb hfar hd hK
      have e1 : A.tmps[26]?.getD undef = .agg (xyCells B).toArray := hd 5 26 rfl (by kernel_rfl) _ rfl
      unfold xyCells at e1
      unfold Oper.wp
      simp [execOp, e1, go_sem, Result.andThen]
      exact hK _ _ (Below.refl _ _) (factG_mk rfl rfl)
    case q7 =>
      intro A w' K hb hfar hd hK
      have e1 : A.tmps[27]?.getD undef = .agg (litCells B).toArray := hd 6 27 rfl (by kernel_rfl) _ rfl
      unfold litCells xyCells at e1
      unfold Oper.wp
      simp [execOp, e1, go_sem, Result.andThen]
      exact hK _ _ ((Below.refl _ _).alloc (Nat.le_refl _) _) (factG_mk rfl ⟨_, rfl, by first | exact World.alloc_heap_new w' _ | (unfold TwoAt xS; exact World.alloc_heap_new w' _)⟩)
    case q8 =>
      intro A w' K hb hfar hd hK
      obtain ⟨a1, e1, h1⟩ : ∃ a, A.tmps[25]?.getD undef = .agg (xyCells a).toArray ∧ TwoAt w' a xS xS := hd 4 25 rfl (by kernel_rfl) _ rfl
      obtain ⟨b, e2, hr⟩ : ∃ b, A.tmps[28]?.getD undef = .slice (some ⟨b, 0, none⟩) 1 1 ∧ w'.heap[b]? = some (.cells (litCells B).toArray 45 (0, 0)) := hd 7 28 rfl (by kernel_rfl) _ rfl
      unfold xyCells at e1
      unfold Oper.wp
      simp [execOp, e1, e2, go_sem, Result.andThen]
      exact hK _ _ (Below.refl _ _) (factG_mk rfl ⟨a1, b, rfl, h1, hr⟩)
    case q9 =>
      intro A w' K hb hfar hd hK
      have e1 : SlOf w' w'.heap.size 6 (DeC w' w'.heap.size) [twoD] (A.tmps[21]?.getD undef) := hd 0 21 rfl (by kernel_rfl) _ rfl
      obtain ⟨a1, b, e2, h1, hr⟩ : ∃ a b, A.tmps[29]?.getD undef = .agg (ruCells a b).toArray ∧ TwoAt w' a xS xS ∧ w'.heap[b]? = some (.cells (litCells B).toArray 45 (0, 0)) := hd 8 29 rfl (by kernel_rfl) _ rfl
      have hb' := B5.out.trans ((drewB hb).mono B5.out.size)
      have h2 : TwoAt w' B xS yS := (hb.block _ (heap_lt R5.out)).trans R5.out
      have hT := types_c [twoD] (A.tmps[21]?.getD undef) xxR (ruCells a1 b) e a b' c d w' e1 (xy_ru h1 h2 (by decide) (by decide) hr) xx_len.1 xx_len.2 (HE.out.below hb')
      unfold Oper.wp
      simp [execOp, e2, go_sem, Result.andThen]
      refine hT.mono ?_
      rintro e3 w3 ⟨u, l, k, rfl, h1, h2, b3⟩
      obtain ⟨rfl, rfl⟩ := types_xx h1
      exact hK _ _ b3 (factG_mk rfl ⟨u, rfl⟩)
    case q10 =>
      intro A w' K hb hfar hd hK
      obtain ⟨u, e1⟩ : ∃ u, A.tmps[30]?.getD undef = .tuple #[u, .int .i64 53] := hd 9 30 rfl (by kernel_rfl) _ rfl
      unfold Oper.wp
      simp [execOp, e1, go_sem, Result.andThen]
      exact hK _ _ (Below.refl _ _) (factG_mk rfl ⟨u, rfl⟩)
    case q11 =>
      intro A w' K hb hfar hd hK
      obtain ⟨u, e1⟩ : ∃ u, A.tmps[20]?.getD undef = .tuple #[u, .int .i64 53] := hd 10 20 rfl (by kernel_rfl) _ rfl
      unfold Oper.wp
      simp [execOp, e1, go_sem, Result.andThen]
      exact hK _ _ (Below.refl _ _) (factG_mk rfl trivial)
    case q12 =>
      intro A w' K hb hfar hd hK
      obtain ⟨u, e1⟩ : ∃ u, A.tmps[20]?.getD undef = .tuple #[u, .int .i64 53] := hd 10 20 rfl (by kernel_rfl) _ rfl
      unfold Oper.wp
      simp [execOp, e1, go_sem, Result.andThen]
      exact hK _ _ (Below.refl _ _) (factG_mk rfl rfl)
    case q13 =>
      intro A w' K hb hfar hd hK
      unfold Oper.wp
      simp [execOp, go_sem, Result.andThen]
      exact hK _ _ (Below.refl _ _) (factG_mk rfl trivial)
    case q14 =>
      intro A w' K hb hfar hd hK
      have e1 : A.tmps[32]?.getD undef = .int .i64 53 := hd 12 32 rfl (by kernel_rfl) _ rfl
      unfold Oper.wp
      simp [execOp, e1, go_sem, Result.andThen]
      exact hK _ _ (Below.refl _ _) (factG_mk rfl rfl)
    case fin2 =>
      intro val w6 hF hb
      have f14 : val 14 = .int .i64 53 := hF 14 5 rfl _ rfl
      have B6 := Lib.hid (B5.out.trans ((drewB hb).mono B5.out.size))
      have h6 : SlOf w6 w6.heap.size 1 IntC [1, 2] lv := SlOf.int F10.out (drewB hb) hb.size
      obtain ⟨Z, hZ⟩ : ∃ Z : Obj, .cells #[.int .i64 1, .int .i64 2] 3 = Z := ⟨_, rfl⟩
      have b7 : Below w6.heap.size w6 (w6.alloc Z) := (Below.refl _ _).alloc (Nat.le_refl _) _
      have h7 : SlOf (w6.alloc Z) (w6.alloc Z).heap.size 1 IntC [1, 2] (.slice (some ⟨w6.heap.size, 0, none⟩) 2 2) := by
        refine sl_cells (l := [(1 : Int), 2]) [[.int .i64 1], [.int .i64 2]] (by rw [← hZ]; exact World.alloc_heap_new w6 _) rfl (by simp) ?_ (by decide)
        intro i x cs hx hc
        match i, hx, hc with
        | 0, hx, hc => simp at hx hc; subst hx hc; exact ⟨rfl, by unfold I64; decide⟩
        | 1, hx, hc => simp at hx hc; subst hx hc; exact ⟨rfl, by unfold I64; decide⟩
        | i + 2, hx, _ => simp at hx
      have HS := Lib.hid (sameInts_c [1, 2] [1, 2] _ _ _ (SlOf.int h6 b7 b7.size) h7)
      have B7 := Lib.hid (B6.out.trans (b7.mono B6.out.size))
      subst hZ
      obtain ⟨o6, k6, rfl, _⟩ := SlOf.uni h6
      simp only [slots3, putsA, Nat.zero_add, Nat.reduceAdd, f14]
      clear hF hb f14 h6 h7 b7
      go_simp
      go_wp2_with fail
      refine HS.out.mono ?_
      rintro e7 w7 ⟨rfl, b7⟩
      have B8 := Lib.hid (B7.out.trans (b7.mono B7.out.size))
      go_wp2
      go_ret
      exact ⟨rfl, B8.out⟩
end Go.Proofs.YtfcfehflocglpaaDoor
namespace Go.Proofs.YtfcfehflocglpaaDoor
open Go.RowKit

/-- Each operation but the last has one behind it that hangs on it. -/
def succOk (ops : Array Oper) (n : Nat) (succ : List Nat) : Bool := (List.range n).all fun i => match succ[i]? with
  | some s => decide (i < s) && decide (s ≤ n) && (match ops[s]? with | some o => depG o i | none => false)
  | none => false
/-- What is asked of the last one. -/
def LStep (P : Program) (Q : Exit → Act → World → Prop) (slots : List (Option Tmp)) (Rs : List (Value → World → Prop)) (a0 : Act) (w0 : World) (i : Nat) (o : Oper) (Fin : (Nat → Value) → World → Prop) : Prop :=
  ∀ (A : Act) (w : World) (val : Nat → Value) (K : Act → World → Prop), Below w0.heap.size w0 w → (∀ s, (some s) ∉ slots → A.tmps[s]?.getD undef = a0.tmps[s]?.getD undef) →
    (∀ j s, slots[j]? = some (some s) → depG o j = true → factG Rs j (A.tmps[s]?.getD undef) w ∧ A.tmps[s]?.getD undef = val j) → (∀ j s, slots[j]? = some (some s) → j < i → factG Rs j (val j) w) →
    (∀ v w', Fin (updV val i v) w' → K (A.put o.dst v) w') → o.wp P A w K Q
theorem wpAny_last {P : Program} {ops : Array Oper} {Q : Exit → Act → World → Prop} (n : Nat) (succ : List Nat) (slots : List (Option Tmp)) (a0 : Act) (w0 : World) (Rs : List (Value → World → Prop)) (hn : ops.size = n + 1) (hsucc : succOk ops n succ = true) (hdst : ops.toList.map (·.dst) = slots) (hok : slotsOk slots = true) (Fin : (Nat → Value) → World → Prop)
    (hac : (ops.toList.zipIdx.all fun q => q.1.after.all fun e => !Region.binds .any e || decide (e.on < q.2)) = true) (hg : (ops.toList.all fun o => o.guard.isNone) = true)
    (hsz : (slots.all fun d => match d with | none => true | some s => decide (s < a0.tmps.size)) = true)
    (mono : ∀ p ∈ Rs, ∀ v w w', p v w → Below w.heap.size w w' → p v w') (hst : AllG (GStep P Q slots Rs a0 w0) 0 (ops.toList.take n))
    (hlast : ∀ (o : Oper), ops[n]? = some o → LStep P Q slots Rs a0 w0 n o Fin)
    (fin : ∀ (val : Nat → Value) (w : World), Fin val w → Q .normal (putsA slots val 0 a0) w) : wpAny P .any ops Q ops.size (Array.replicate ops.size false) a0 w0 := by
  have hat : ∀ (i : Nat) (o : Oper), ops[i]? = some o → ops.toList[i]? = some o := fun i o h => (Array.getElem?_toList ..).trans h
  have hlen : slots.length = ops.size := by rw [← hdst]; simp
  have hD : ∀ (i : Nat) (o : Oper), ops[i]? = some o → o.dst = slotG slots i := by
    intro i o h
    unfold slotG
    rw [← hdst, List.getElem?_map, hat i o h]
    rfl
  have hS : ∀ (i : Nat), i < ops.size → slots[i]? = some (slotG slots i) := by
    intro i hi
    unfold slotG
    rw [List.getElem?_eq_getElem (by omega)]
    rfl
  have hne : ∀ i j, i < ops.size → j < ops.size → j ≠ i → slotG slots j ≠ slotG slots i ∨ slotG slots i = none := by
    intro i j hi hj hji
    unfold slotsOk at hok
    have h1 := List.all_eq_true.1 hok i (List.mem_range.2 (by omega))
    have h2 := List.all_eq_true.1 h1 j (List.mem_range.2 (by omega))
    simp only [Bool.or_eq_true, decide_eq_true_eq, beq_iff_eq, Option.isNone_iff_eq_none] at h2
    rcases h2 with (h2 | h2) | h2
    · exact absurd h2 hji
    · exact .inl h2
    · exact .inr h2
  have hlt : ∀ (j : Nat) (s : Tmp), slots[j]? = some (some s) → s < a0.tmps.size := fun j s h => by
    have := List.all_eq_true.1 hsz _ (List.mem_of_getElem? h)
    simpa using this
  have repF : ∀ j, (Array.replicate ops.size false).getD j false = false := by
    intro j
    simp [Array.getD_eq_getD_getElem?, Array.getElem?_replicate]
    split <;> simp
  refine wpAny_flow (slotG slots) hD hne ?_ ?_ a0 (fun l val w => (∀ (i : Nat) (o : Oper), ops[i]? = some o → l.getD i false = true → ∀ e ∈ o.after, Region.binds .any e = true → l.getD e.on false = true) ∧ (l.getD n false = false → Below w0.heap.size w0 w ∧ ∀ j s, slots[j]? = some (some s) → l.getD j false = true → factG Rs j (val j) w) ∧ (l.getD n false = true → Fin val w)) ?_ ?_ w0 (fun _ => undef) ⟨?_, fun _ => ⟨Below.refl _ _, ?_⟩, ?_⟩
  · intro i o h e he hbn
    have hm : (o, i) ∈ ops.toList.zipIdx := List.mem_zipIdx_iff_getElem?.2 (hat i o h)
    have := List.all_eq_true.1 hac _ hm
    have := Array.all_eq_true_iff_forall_mem.1 this e he
    rw [hbn] at this
    simpa using this
  · intro i o h
    have := List.all_eq_true.1 hg o (List.mem_of_getElem? (hat i o h))
    simpa using this
  · rintro l val w i o ⟨hC, hN, hFin⟩ hl ho hf hd A K hA hK
    have hi : i < ops.size := (Array.getElem?_eq_some_iff.1 ho).1
    have ev : ∀ (B : Act) (s : Tmp), B.tmps[s]?.getD undef = B.eval (.tmp s) := fun B s => by rw [← Array.getD_eq_getD_getElem?]; rfl
    have hCl : ∀ (k : Nat) (o' : Oper), ops[k]? = some o' → (l.setIfInBounds i true).getD k false = true → ∀ e ∈ o'.after, Region.binds .any e = true → (l.setIfInBounds i true).getD e.on false = true := by
      intro k o' hk hkd e he hbn
      have h1 : l.getD e.on false = true := by
        by_cases ek : k = i
        · subst ek
          rw [ho] at hk
          cases hk
          exact hd e he hbn
        · rw [getD_set ek] at hkd
          exact hC k o' hk hkd e he hbn
      by_cases ee : e.on = i
      · rw [ee]; exact getD_same (by omega)
      · rw [getD_set ee]; exact h1
    have far : ∀ s, (some s) ∉ slots → A.tmps[s]?.getD undef = a0.tmps[s]?.getD undef := by
      intro s hs
      rw [ev, ev, hA]
      refine actsL_far _ _ fun j hj e => hs ?_
      rw [← e]
      exact List.mem_of_getElem? (hS j (List.mem_range.1 hj))
    -- what all hangs on has run, if the last one may
    have all : (∀ (o' : Oper), ops[n]? = some o' → ∀ e ∈ o'.after, Region.binds .any e = true → l.getD e.on false = true) → ∀ d k, k + d + 1 = n → l.getD k false = true := by
      intro hr d
      induction d using Nat.strongRecOn with
      | _ d ih =>
        intro k hk
        unfold succOk at hsucc
        have h1 := List.all_eq_true.1 hsucc k (List.mem_range.2 (by omega))
        cases hs : succ[k]? with
        | none => rw [hs] at h1; cases h1
        | some s =>
          rw [hs] at h1
          simp only [Bool.and_eq_true, decide_eq_true_eq] at h1
          obtain ⟨⟨h2, h3⟩, h4⟩ := h1
          cases hos : ops[s]? with
          | none => rw [hos] at h4; cases h4
          | some o' =>
            rw [hos] at h4
            by_cases hsn : s = n
            · subst hsn
              exact depG_of h4 (hr o' hos)
            · have hsd := ih (n - 1 - s) (by omega) s (by omega)
              exact depG_of h4 (hC s o' hos hsd)
    have hnf : l.getD n false = false := by
      cases hh : l.getD n false with
      | false => rfl
      | true =>
        exfalso
        by_cases e : i = n
        · subst e; rw [hf] at hh; cases hh
        · have := all (fun o' ho' => hC n o' ho' hh) (n - 1 - i) i (by omega)
          rw [hf] at this
          cases this
    obtain ⟨hb, hF⟩ := hN hnf
    have near : ∀ j s, slots[j]? = some (some s) → depG o j = true → factG Rs j (A.tmps[s]?.getD undef) w ∧ A.tmps[s]?.getD undef = val j := by
      intro j s hj hdep
      have hjl := depG_of hdep hd
      have hjs : j < ops.size := by rw [← hlen]; exact (List.getElem?_eq_some_iff.1 hj).1
      have hsl : slotG slots j = some s := by unfold slotG; rw [hj]; rfl
      rw [ev, hA, actsL_eval hjl hsl _ _ (List.mem_range.2 hjs) List.nodup_range (fun k hk hkj e => ?_) (hlt j s hj)]
      · exact ⟨hF j s hj hjl, rfl⟩
      · rcases hne j k hjs (List.mem_range.1 hk) hkj with h | h
        · exact h (e.trans hsl.symm)
        · rw [hsl] at h; cases h
    by_cases e : i = n
    · subst e
      refine hlast o ho A w val K hb far near (fun j s hj hjn => ?_) fun v w' hR => hK v w' ⟨hCl, fun h => ?_, fun _ => ?_⟩
      · have hjs : j < ops.size := by rw [← hlen]; exact (List.getElem?_eq_some_iff.1 hj).1
        exact hF j s hj (all (fun o' ho' => by rw [ho] at ho'; cases ho'; exact hd) (i - 1 - j) j (by omega))
      · rw [getD_same (by omega)] at h; cases h
      · exact hR
    · have ht : (ops.toList.take n)[i]? = some o := by rw [List.getElem?_take_of_lt (by omega)]; exact hat i o ho
      have hs := hst.at ht
      rw [Nat.zero_add] at hs
      refine hs A w K hb far (fun j s hj hdep => (near j s hj hdep).1) fun v w' hb' hR => hK v w' ⟨hCl, fun _ => ⟨hb.trans (hb'.mono hb.size), fun j s hj hjl => ?_⟩, fun h => ?_⟩
      · by_cases e : j = i
        · subst e; rw [updV_same]; exact hR
        · rw [getD_set e] at hjl
          rw [updV_other _ _ e]
          exact fun p hp => mono p (List.mem_of_getElem? hp) _ _ _ (hF j s hj hjl p hp) hb'
      · rw [getD_set (Ne.symm e), hnf] at h
        cases h
  · rintro l val w ⟨_, _, hFin⟩ hall
    have h1 : ∀ i, i < slots.length → slots[i]? = some (slotG slots (0 + i)) := fun i hi => by rw [Nat.zero_add]; exact hS i (by omega)
    have h2 : ∀ i, i < slots.length → l.getD (0 + i) false = true := fun i hi => by rw [Nat.zero_add]; exact hall i (by omega)
    have e : (List.range slots.length).map (0 + ·) = List.range ops.size := by rw [hlen]; simp
    have := puts_all (D := slotG slots) (l := l) (val := val) slots 0 a0 h1 h2
    rw [e] at this
    rw [this]
    exact fin val w (hFin (hall n (by omega)))
  · intro i o _ h
    rw [repF] at h
    cases h
  · intro j s hj h
    rw [repF] at h
    cases h
  · intro h
    rw [repF] at h
    cases h
end Go.Proofs.YtfcfehflocglpaaDoor
namespace Go.Proofs.YtfcfehflocglpaaDoor
open Go.RowKit

/-- Is a number in a list? -/
def memI (l : List Int) (s : Int) : Bool := l.any fun x => s == x
theorem memI_no {l : List Int} {s : Int} (h : ∀ x ∈ l, (s == x) = false) : memI l s = false := by
  unfold memI
  rw [List.any_eq_false]
  exact fun x hx => by rw [h x hx]; decide
theorem memI_yes {l : List Int} {s x : Int} (hx : x ∈ l) (h : (s == x) = true) : memI l s = true := by
  unfold memI
  rw [List.any_eq_true]
  exact ⟨x, hx, h⟩
set_option maxRecDepth 100000 in
set_option maxHeartbeats 4000000 in
theorem indexI_c (l : List Int) (s : Int) (v : Value) (w : World) (hv : SlOf w w.heap.size 1 IntC l v) :
    Calls Tryd.prog 114 #[v, .int .i64 s] w fun e w' => (∃ k : Int, e = .returned (.int .i64 k) ∧ (0 ≤ k ↔ memI l s = true)) ∧ w' = w := by
  obtain ⟨o1, k1, rfl, _, hk1, S1⟩ := SlOf.open hv
  have hB0 : Below w.heap.size w w := Below.refl _ _
  clear hv
  go_enter Tryd.func114, Tryd.ntmps114
  go_wp2
  go_loopw [8] (fun i wr => ∃ k : Nat, k ≤ l.length ∧ i = .int .i64 k ∧ (∀ x ∈ l.take k, (s == x) = false) ∧ wr = w) (fun i _ => l.length - (intOf i).toNat)
  case atStart => exact ⟨0, Nat.zero_le _, rfl, fun x h => by simp at h, rfl⟩
  case round =>
    obtain ⟨k, hk, rfl, ha, rfl⟩ := hrel
    have Ha := Lib.hid ha
    clear ha
    by_cases hlt : k < l.length
    · have hlt' : (k : Int) < (l.length : Int) := by omega
      have hk0 : (0 : Int) ≤ (k : Int) := by omega
      obtain ⟨x, hx⟩ : ∃ x, l[k]? = some x := ⟨l[k], List.getElem?_eq_getElem hlt⟩
      obtain ⟨p, rfl, hp, hsz, c0⟩ := int_at S1 hB0 hx
      cases hxy : (s == x) with
      | true =>
        have Hq : Hid (memI l s = true) := Lib.hid (memI_yes (List.mem_of_getElem? hx) hxy)
        clear hx
        go_wp2
        go_ret
        exact ⟨⟨_, rfl, ⟨fun _ => Hq.out, fun _ => hk0⟩⟩, rfl⟩
      | false =>
        have Hz : Hid (∀ y ∈ l.take (k + 1), (s == y) = false) := Lib.hid fun y hy => by
          rw [List.take_add_one, hx] at hy
          rcases List.mem_append.1 hy with hy | hy
          · exact Ha.out y hy
          · obtain rfl : y = x := by simpa using hy
            exact hxy
        clear hx
        go_wp2
        go_roundw
        case rel => exact ⟨k + 1, hlt, by go_num, Hz.out, by trivial⟩
        case measure => simp [intOf]; omega
    · have hlt' : ¬ (k : Int) < (l.length : Int) := by omega
      have Hq : Hid (memI l s = false) := Lib.hid (by have h := Ha.out; rw [List.take_of_length_le (by omega)] at h; exact memI_no h)
      go_wp2
      go_ret
      exact ⟨⟨_, rfl, ⟨fun h => absurd h (by decide), fun h => by rw [Hq.out] at h; cases h⟩⟩, rfl⟩
set_option maxRecDepth 100000 in
set_option maxHeartbeats 4000000 in
theorem containsI_c (l : List Int) (s : Int) (v : Value) (w : World) (hv : SlOf w w.heap.size 1 IntC l v) :
    Calls Tryd.prog 81 #[v, .int .i64 s] w fun e w' => e = .returned (.bool (memI l s)) ∧ w' = w := by
  have HI := Lib.hid (indexI_c l s v w hv)
  go_enter Tryd.func81, Tryd.ntmps81
  go_wp2_with fail
  refine HI.out.mono ?_
  rintro e w1 ⟨⟨k, rfl, hk⟩, rfl⟩
  by_cases h0 : (0 : Int) ≤ k
  · have Hq := Lib.hid (hk.1 h0)
    have h0' : decide ((0 : Int) ≤ k) = true := by simp [h0]
    clear hk
    go_wp2
    go_ret
    exact ⟨by rw [Hq.out]; rfl, rfl⟩
  · have Hq : Hid (memI l s = false) := Lib.hid (Bool.eq_false_iff.2 fun h => h0 (hk.2 h))
    have h0' : decide ((0 : Int) ≤ k) = false := by simp [h0]
    clear hk
    go_wp2
    go_ret
    exact ⟨by rw [Hq.out]; rfl, rfl⟩
end Go.Proofs.YtfcfehflocglpaaDoor
namespace Go.Proofs.YtfcfehflocglpaaDoor
open Go.RowKit

/-- Is a name in a list? -/
def memB (l : List ByteArray) (s : ByteArray) : Bool := l.any fun x => s.toList == x.toList
theorem memB_no {l : List ByteArray} {s : ByteArray} (h : ∀ x ∈ l, (s.toList == x.toList) = false) : memB l s = false := by
  unfold memB
  rw [List.any_eq_false]
  exact fun x hx => by rw [h x hx]; decide
theorem memB_yes {l : List ByteArray} {s x : ByteArray} (hx : x ∈ l) (h : (s.toList == x.toList) = true) : memB l s = true := by
  unfold memB
  rw [List.any_eq_true]
  exact ⟨x, hx, h⟩
set_option maxRecDepth 100000 in
set_option maxHeartbeats 4000000 in
theorem index_c (l : List ByteArray) (s : ByteArray) (v : Value) (w : World) (hv : SlOf w w.heap.size 1 StrC l v) :
    Calls Tryd.prog 137 #[v, .string s] w fun e w' => (∃ k : Int, e = .returned (.int .i64 k) ∧ (0 ≤ k ↔ memB l s = true)) ∧ w' = w := by
  obtain ⟨o1, k1, rfl, _, hk1, S1⟩ := SlOf.open hv
  have hB0 : Below w.heap.size w w := Below.refl _ _
  clear hv
  go_enter Tryd.func137, Tryd.ntmps137
  go_wp2
  go_loopw [8] (fun i wr => ∃ k : Nat, k ≤ l.length ∧ i = .int .i64 k ∧ (∀ x ∈ l.take k, (s.toList == x.toList) = false) ∧ wr = w) (fun i _ => l.length - (intOf i).toNat)
  case atStart => exact ⟨0, Nat.zero_le _, rfl, fun x h => by simp at h, rfl⟩
  case round =>
    obtain ⟨k, hk, rfl, ha, rfl⟩ := hrel
    have Ha := Lib.hid ha
    clear ha
    by_cases hlt : k < l.length
    · have hlt' : (k : Int) < (l.length : Int) := by omega
      have hk0 : (0 : Int) ≤ (k : Int) := by omega
      obtain ⟨x, hx⟩ : ∃ x, l[k]? = some x := ⟨l[k], List.getElem?_eq_getElem hlt⟩
      obtain ⟨p, rfl, hp, hsz, c0⟩ := str_at S1 hB0 hx
      cases hxy : (s.toList == x.toList) with
      | true =>
        have Hq : Hid (memB l s = true) := Lib.hid (memB_yes (List.mem_of_getElem? hx) hxy)
        clear hx
        go_wp2
        go_ret
        exact ⟨⟨_, rfl, ⟨fun _ => Hq.out, fun _ => hk0⟩⟩, rfl⟩
      | false =>
        have Hz : Hid (∀ y ∈ l.take (k + 1), (s.toList == y.toList) = false) := Lib.hid fun y hy => by
          rw [List.take_add_one, hx] at hy
          rcases List.mem_append.1 hy with hy | hy
          · exact Ha.out y hy
          · obtain rfl : y = x := by simpa using hy
            exact hxy
        clear hx
        go_wp2
        go_roundw
        case rel => exact ⟨k + 1, hlt, by go_num, Hz.out, by trivial⟩
        case measure => simp [intOf]; omega
    · have hlt' : ¬ (k : Int) < (l.length : Int) := by omega
      have Hq : Hid (memB l s = false) := Lib.hid (by have h := Ha.out; rw [List.take_of_length_le (by omega)] at h; exact memB_no h)
      go_wp2
      go_ret
      exact ⟨⟨_, rfl, ⟨fun h => absurd h (by decide), fun h => by rw [Hq.out] at h; cases h⟩⟩, rfl⟩
set_option maxRecDepth 100000 in
set_option maxHeartbeats 4000000 in
theorem contains_c (l : List ByteArray) (s : ByteArray) (v : Value) (w : World) (hv : SlOf w w.heap.size 1 StrC l v) :
    Calls Tryd.prog 129 #[v, .string s] w fun e w' => e = .returned (.bool (memB l s)) ∧ w' = w := by
  have HI := Lib.hid (index_c l s v w hv)
  go_enter Tryd.func129, Tryd.ntmps129
  go_wp2_with fail
  refine HI.out.mono ?_
  rintro e w1 ⟨⟨k, rfl, hk⟩, rfl⟩
  by_cases h0 : (0 : Int) ≤ k
  · have Hq := Lib.hid (hk.1 h0)
    have h0' : decide ((0 : Int) ≤ k) = true := by simp [h0]
    clear hk
    go_wp2
    go_ret
    exact ⟨by rw [Hq.out]; rfl, rfl⟩
  · have Hq : Hid (memB l s = false) := Lib.hid (Bool.eq_false_iff.2 fun h => h0 (hk.2 h))
    have h0' : decide ((0 : Int) ≤ k) = false := by simp [h0]
    clear hk
    go_wp2
    go_ret
    exact ⟨by rw [Hq.out]; rfl, rfl⟩
end Go.Proofs.YtfcfehflocglpaaDoor
namespace Go.Proofs.YtfcfehflocglpaaDoor
open Go.RowKit

/-- A block of no cells becomes another such. -/
def Put (B : Nat) (W W' : World) : Prop := ∃ (l : Nat) (o o' : Obj), B ≤ l ∧ W.heap[l]? = some o ∧ o.isCells = false ∧ o'.isCells = false ∧ W' = W.putObj l o'
/-- What stays however the loop's own blocks turn. -/
def Firm (B : Nat) (S : World → Prop) : Prop := ∀ W W', Put B W W' → S W → S W'
def roundEnd (B : Nat) (W : World) (S : World → Prop) (X : Code → World → Prop) : Exit → Act → World → Prop
  | .normal, _, W' => KeepsFrom B W W' ∧ S W'
  | .ret, _, W' => KeepsFrom B W W' ∧ X .ret W'
  | .exit id, _, W' => KeepsFrom B W W' ∧ X (.exit id) W'
  | .goto t, _, W' => KeepsFrom B W W' ∧ X (.goto t) W'
  | .panic _, _, _ => False
  | .outgrown, _, _ => False

/-- An iterator that may yield nothing: it yields at A's states, goes on from B's by T, ends from them by E; a round that says no more ends it in X. -/
def Moves2 {α : Type} (F : Fence) (n : Nat) (P : Program) (gf : Nat) (args : Nat → Array Value) (enc : α → Array Value) (G : α → World → Prop) (T : α → World → α → World → Prop) (E : α → World → World → Prop) (x0 : α) : Prop :=
  ∀ (l : Nat) (A B : α → World → Prop) (X Z : World → Prop) (W : World),
    (∀ x W1, A x W1 → YieldAt F (n - 1) P l (enc x) W1 fun e W' => (e = .returned (.bool true) ∧ B x W') ∨ (e = .returned (.bool false) ∧ X W')) →
    (∀ x W1, B x W1 → G x W1 ∧ (∀ x' W2, T x W1 x' W2 → A x' W2) ∧ (∀ W2, E x W1 W2 → Z W2)) →
    B x0 W → CallsIn F n P gf (args l) W fun e W' => (∃ v, e = .returned v) ∧ (X W' ∨ Z W')
theorem range_moves2 {α : Type} {F : Fence} {n : Nat} {P : Program} {g : Operand} {ps : Array Tmp} {assign body : Code} {Q : Exit → Act → World → Prop} {a : Act} {w : World}
    (hro : F.round = none) (h1 : 1 ≤ n) {gf : Nat} {bd lb : Array Value} (hg : a.eval g = .func (.func gf) bd lb) (hFg : F.fn gf) (eg : ∀ args w, (callFunc gf args).run P w = .ok (.enter gf args) w)
    {enc : α → Array Value} {G : α → World → Prop} {T : α → World → α → World → Prop} {E : α → World → World → Prop} {x0 : α}
    (hit : Moves2 F (n - 1) P gf (fun l => bd ++ #[.func (.yield l) #[] #[]] ++ lb) enc G T E x0) (hps : ∀ x, (enc x).size = ps.size)
    (A B : α → World → Prop) (X : Code → World → Prop) (Z : World → Prop) (M : α → Act → World → Prop)
    (fB : ∀ x, Firm w.heap.size (B x)) (fX : ∀ c, Firm w.heap.size (X c)) (fZ : Firm w.heap.size Z) (fM : ∀ x a', Firm w.heap.size (M x a'))
    (h0 : ∀ o o', B x0 ((w.alloc o).alloc o'))
    (hB : ∀ x W1, B x W1 → G x W1 ∧ (∀ x' W2, T x W1 x' W2 → KeepsFrom w.heap.size W1 W2 ∧ A x' W2) ∧ (∀ W2, E x W1 W2 → KeepsFrom w.heap.size W1 W2 ∧ Z W2))
    (hassign : ∀ (l : Nat) (x : α) (W : World), A x W → assign.wpIn (F.inRound l) (n - 1 - 1) P (Exit.then (fun a' W' => KeepsFrom w.heap.size W W' ∧ M x a' W') (fun _ _ _ => False)) { tmps := (ps.zip (enc x)).foldl (fun t (p, v) => t.setIfInBounds p v) a.tmps, defers := [] } W)
    (hbody : ∀ (l : Nat) (x : α) (a' : Act) (W : World), M x a' W → body.wpIn (F.inRound l) (n - 1 - 1) P (roundEnd w.heap.size W (B x) X) a' W)
    (hdone : ∀ (D : Nat) (W : World), w.heap.size ≤ D → Z W → W.heap[D]? = some (.deferred (some [])) → Q .normal { a with defers := { target := .collected D, args := #[] } :: a.defers } W)
    (hstop : ∀ (D : Nat) (c : Code) (W : World), w.heap.size ≤ D → X c W → W.heap[D]? = some (.deferred (some [])) → c.wpIn F n P Q { a with defers := { target := .collected D, args := #[] } :: a.defers } W) :
    (Code.rangeFunc g ps assign body).wpIn F n P Q a w := by
  refine wpIn_rangeFunc fun fn hfn => ?_
  rw [hro]
  let rec_ : LoopState → Option Code → Loop := fun st pe => { state := st, pending := pe, fn, tmps := a.tmps, params := ps, assign, body, defers := w.heap.size }
  obtain ⟨W1, hW1⟩ : ∃ W1, (w.alloc (.deferred (some []))).alloc (.loop (rec_ .ready none)) = W1 := ⟨_, rfl⟩
  have h01 : B x0 W1 := by rw [← hW1]; exact h0 _ _
  have hl1 : ((w.alloc (.deferred (some []))).alloc (.loop (rec_ .ready none))).heap[w.heap.size + 1]? = some (.loop (rec_ .ready none)) := by
    have := World.alloc_heap_new (w.alloc (.deferred (some []))) (.loop (rec_ .ready none))
    rwa [World.size_alloc] at this
  have hd1 : ((w.alloc (.deferred (some []))).alloc (.loop (rec_ .ready none))).heap[w.heap.size]? = some (.deferred (some [])) :=
    (Below.heap_alloc _ _ _ (by simp)).trans (World.alloc_heap_new w _)
  rw [hW1] at hl1 hd1
  refine ⟨w.heap.size + 1, [{ target := .collected w.heap.size, args := #[] }], W1, { target := .fn (.func gf) lb, args := bd ++ #[.func (.yield (w.heap.size + 1)) #[] #[]] }, W1, gf, bd ++ #[.func (.yield (w.heap.size + 1)) #[] #[]] ++ lb, W1,
    by rw [← hW1]; exact run_enterLoop_outer _ _ _ _ _, ?_, ?_, ?_, fun _ => h1, ?_⟩
  · simp only [resolve, hg]
    simp [go_sem]
  · intro f' hf'
    simp [Target.leads] at hf'
    subst hf'
    exact hFg
  · simp [invoke, go_sem, eg]
  · refine (hit (w.heap.size + 1)
      (fun x W => A x W ∧ W.heap[w.heap.size + 1]? = some (.loop (rec_ .ready none)) ∧ W.heap[w.heap.size]? = some (.deferred (some [])))
      (fun x W => B x W ∧ W.heap[w.heap.size + 1]? = some (.loop (rec_ .ready none)) ∧ W.heap[w.heap.size]? = some (.deferred (some [])))
      (fun W => ∃ c, X c W ∧ W.heap[w.heap.size + 1]? = some (.loop (rec_ .done (some c))) ∧ W.heap[w.heap.size]? = some (.deferred (some [])))
      (fun W => Z W ∧ W.heap[w.heap.size + 1]? = some (.loop (rec_ .ready none)) ∧ W.heap[w.heap.size]? = some (.deferred (some [])))
      W1 ?_ ?_ ⟨h01, hl1, hd1⟩).mono ?_
    · rintro x W ⟨hA, hl, hd⟩
      have hy := run_yield (P := P) (args := enc x) hl (hps x)
      refine ⟨fn, _, assign, body, hy, roundIn_of_wpIn hfn (wpIn_mono (hassign (w.heap.size + 1) x W hA) ?_)⟩
      rintro e a' W2 hp
      cases e with
      | normal =>
        obtain ⟨hk, hM⟩ := hp
        have hl2 := hk.same _ _ (by omega) hl rfl
        have hd2 := hk.same _ _ (Nat.le_refl _) hd rfl
        have hlt := (Array.getElem?_eq_some_iff.1 hl2).1
        refine ⟨_, run_beginRound hl2 rfl, ?_⟩
        have hl3 : (W2.putObj (w.heap.size + 1) (.loop { rec_ .ready none with state := .busy })).heap[w.heap.size + 1]? = some (.loop { rec_ .ready none with state := .busy }) := World.putObj_heap_same hlt
        have hd3 : (W2.putObj (w.heap.size + 1) (.loop { rec_ .ready none with state := .busy })).heap[w.heap.size]? = some (.deferred (some [])) := (World.putObj_heap_other (by omega)).trans hd2
        refine wpIn_mono (hbody (w.heap.size + 1) x a' _ (fM x a' W2 _ ⟨_, _, _, by omega, hl2, rfl, rfl, rfl⟩ hM)) ?_
        have fin : ∀ (jump : Option Code) (W4 : World), KeepsFrom w.heap.size (W2.putObj (w.heap.size + 1) (.loop { rec_ .ready none with state := .busy })) W4 →
            (Instr.endRound (w.heap.size + 1) jump).run P W4 = .ok (.bool jump.isNone) (W4.putObj (w.heap.size + 1) (.loop (rec_ (if jump.isNone then .ready else .done) jump))) ∧
            Put w.heap.size W4 (W4.putObj (w.heap.size + 1) (.loop (rec_ (if jump.isNone then .ready else .done) jump))) ∧
            (W4.putObj (w.heap.size + 1) (.loop (rec_ (if jump.isNone then .ready else .done) jump))).heap[w.heap.size + 1]? = some (.loop (rec_ (if jump.isNone then .ready else .done) jump)) ∧
            (W4.putObj (w.heap.size + 1) (.loop (rec_ (if jump.isNone then .ready else .done) jump))).heap[w.heap.size]? = some (.deferred (some [])) := fun jump W4 hk4 => by
          have hl4 := hk4.same _ _ (by omega) hl3 rfl
          exact ⟨run_endRound (P := P) jump hl4, ⟨_, _, _, by omega, hl4, rfl, rfl, rfl⟩, World.putObj_heap_same (Array.getElem?_eq_some_iff.1 hl4).1, (World.putObj_heap_other (by omega)).trans (hk4.same _ _ (Nat.le_refl _) hd3 rfl)⟩
        rintro e a3 W4 hp
        cases e with
        | normal =>
          obtain ⟨r1, r2, r3, r4⟩ := fin none W4 hp.1
          exact ⟨_, _, r1, .inl ⟨rfl, fB x _ _ r2 hp.2, r3, r4⟩⟩
        | ret =>
          obtain ⟨r1, r2, r3, r4⟩ := fin (some .ret) W4 hp.1
          exact ⟨_, _, r1, .inr ⟨rfl, .ret, fX _ _ _ r2 hp.2, r3, r4⟩⟩
        | exit id =>
          obtain ⟨r1, r2, r3, r4⟩ := fin (some (.exit id)) W4 hp.1
          exact ⟨_, _, r1, .inr ⟨rfl, .exit id, fX _ _ _ r2 hp.2, r3, r4⟩⟩
        | goto t =>
          obtain ⟨r1, r2, r3, r4⟩ := fin (some (.goto t)) W4 hp.1
          exact ⟨_, _, r1, .inr ⟨rfl, .goto t, fX _ _ _ r2 hp.2, r3, r4⟩⟩
        | panic ch => exact hp.elim
        | outgrown => exact hp.elim
      | ret => exact hp.elim
      | exit id => exact hp.elim
      | goto t => exact hp.elim
      | panic ch => exact hp.elim
      | outgrown => exact hp.elim
    · rintro x W ⟨hb, hl, hd⟩
      obtain ⟨h2, h3, h4⟩ := hB x W hb
      refine ⟨h2, fun x' W2 ht => ?_, fun W2 he => ?_⟩
      · obtain ⟨k, hA⟩ := h3 x' W2 ht
        exact ⟨hA, k.same _ _ (by omega) hl rfl, k.same _ _ (Nat.le_refl _) hd rfl⟩
      · obtain ⟨k, hZ⟩ := h4 W2 he
        exact ⟨hZ, k.same _ _ (by omega) hl rfl, k.same _ _ (Nat.le_refl _) hd rfl⟩
    · rintro e W2 ⟨⟨v, rfl⟩, (⟨c, hX, hl, hd⟩ | ⟨hZ, hl, hd⟩)⟩
      · exact ⟨some c, _, run_endLoop (P := P) hl (by simp [rec_]), hstop _ c _ (Nat.le_refl _) (fX c _ _ ⟨_, _, _, by omega, hl, rfl, rfl, rfl⟩ hX) ((World.putObj_heap_other (by omega)).trans hd)⟩
      · exact ⟨none, _, run_endLoop (P := P) hl (by simp [rec_]), hdone _ _ (Nat.le_refl _) (fZ _ _ ⟨_, _, _, by omega, hl, rfl, rfl, rfl⟩ hZ) ((World.putObj_heap_other (by omega)).trans hd)⟩


section
variable {P : Program} {F : Fence} {nF : Nat} (w : World)
theorem wpListIn_append_any {ops : Array Oper} {rest : List Oper} {o : Oper} {a : Act} {Q : Exit → Act → World → Prop} (hgd : o.guard = none) (s x : Operand) (t : TypeId)
    (ho : o.op = .call { callee := .builtin .append, args := #[s, x], argTypes := #[t, t] })
    (base : Nat) (e : TypeId) (i : TypeInfo) (z : Value) (size bytes : Nat) (ht : P.underlying t = some (.slice e)) (hi : P.info? e = some i) (hz : i.zero = some z)
    (hsize : i.size = size) (hby : i.bytes = bytes) (hzs : z.cells.size = size) (hsz : 0 < size)
    (v : Value) (n : Nat) (xs : List Value) (hs : a.eval s = v) (hown : w.ownsRow base e size v n xs) (u : Value) (m : Nat) (news : List Value) (hx : a.eval x = u) (hu : Spread w size u m news)
    (h63 : n + m ≤ maxLen) (hbytes : (n + m) * bytes ≤ 140737488355328) (hbase : base ≤ w.heap.size)
    (h : ∀ v' w', w'.ownsRow base e size v' (n + m) (xs ++ news) → w.grownBy w' v.ownBlock → (v'.ownBlock = v.ownBlock ∨ v'.ownBlock = some w.heap.size) → wpListIn F nF P ops Q rest (a.put o.dst v') w') : wpListIn F nF P ops Q (o :: rest) a w := by
  refine wpListIn_plain hgd fun K hK => ?_
  obtain ⟨v', w', hr, h2, h3, h4⟩ := run_append_any (P := P) w base t o.type e i z size bytes ht hi hz hsize hby hzs hsz v n xs hown u m news hu h63 hbytes hbase
  unfold Oper.wpIn
  refine ⟨by simp [Oper.about, ho, resolve, Target.leads, Sem.run_pure], ?_⟩
  rw [Oper.semAt_plain F _ _ (by rw [ho]; intro c hc'; cases hc')]
  simp [execOp, ho, resolve, invoke, builtin, hs, hx, hr, Result.andThen]
  exact hK _ _ (h v' w' h2 h3 h4)
end
/-- A slice just built. -/
theorem own_built {W : World} {T : TypeId} {b z n : Nat} {cs : List Value} (h : W.heap[b]? = some (.cells cs.toArray T (0, 0))) (hz : cs.length = n * z) (hn : n ≤ maxLen) (base : Nat) (hb : base ≤ b) : W.ownsRow base T z (.slice (some ⟨b, 0, none⟩) n n) n cs :=
  ⟨hz, .inr ⟨b, n, cs.toArray, rfl, hb, h, Nat.le_refl _, hn, by simp [hz], by rw [List.take_of_length_le (by simp [hz])]⟩⟩
theorem put_cell {B : Nat} {W W' : World} (h : Put B W W') {p : Addr} {c : Value} (hc : W.cell? p = some c) : W'.cell? p = some c := by
  obtain ⟨l, o, o', _, ho, h1, h2, rfl⟩ := h
  obtain ⟨x, hx, hxc⟩ := cells_of_cell hc
  have hne : p.block ≠ l := fun e => by rw [e, ho] at hx; cases hx; rw [h1] at hxc; cases hxc
  exact (World.cell?_of_block (World.putObj_heap_other hne)).trans hc
theorem put_block {B : Nat} {W W' : World} (h : Put B W W') {i : Nat} {o : Obj} (ho : W.heap[i]? = some o) (hc : o.isCells = true ∨ i < B) : W'.heap[i]? = some o := by
  obtain ⟨l, x, y, hl, hx, h1, h2, rfl⟩ := h
  have hne : i ≠ l := by
    rcases hc with hc | hc
    · rintro rfl
      rw [ho] at hx; cases hx; rw [h1] at hc; cases hc
    · omega
  exact (World.putObj_heap_other hne).trans ho
theorem put_bel {B n : Nat} {w W W' : World} (h : Put B W W') (hb : Below n w W) (hn : n ≤ B) : Below n w W' := by
  obtain ⟨l, x, y, hl, hx, h1, h2, rfl⟩ := h
  exact ⟨hb.os, hb.tape, hb.output, by simpa using hb.size, fun i hi => (World.putObj_heap_other (by omega)).trans (hb.block i hi)⟩
theorem put_sz {B : Nat} {W W' : World} (h : Put B W W') : W'.heap.size = W.heap.size := by
  obtain ⟨l, x, y, hl, hx, h1, h2, rfl⟩ := h
  simp
/-- Lists of cells that stay where they are. -/
theorem sl_cellsTo {α : Type} {W W' : World} {B B' z : Nat} {R : α → List Value → Prop} {l : List α} {v : Value} (h : SlOf W B z R l v) (hk : ∀ p c, W.cell? p = some c → W'.cell? p = some c) (hB : B ≤ B') : SlOf W' B' z R l v := by
  rcases h with h | ⟨a, cap, h1, h2, h3, h4, h5⟩
  · exact .inl h
  · refine .inr ⟨a, cap, h1, h2, h3, fun h => Nat.lt_of_lt_of_le (h4 h) hB, fun i x hx => ?_⟩
    obtain ⟨cs, c1, c2, c3⟩ := h5 i x hx
    exact ⟨cs, c1, c2, fun j c hj => hk _ _ (c3 j c hj)⟩
end Go.Proofs.YtfcfehflocglpaaDoor
