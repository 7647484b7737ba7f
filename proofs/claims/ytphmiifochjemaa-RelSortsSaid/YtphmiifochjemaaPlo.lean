/- rel.leastOf: the least row of two lists that rise. -/
import Derived.Test.YtphmiifochjemaaPin
import Derived.Test.YtphmiifochjemaaSt2
namespace Go.Proofs.Ytphmiifochjemaa
open Go.RowKit

theorem cellNew (w : World) (T : TypeId) (cs : Array Value) (j : Nat) (c : Value) (hj : cs[j]? = some c) : (w.alloc (.cells cs T)).cell? ⟨w.heap.size, j, none⟩ = some c := by
  rw [(row_cell (World.alloc_heap_new w (.cells cs T)) j).1]; exact hj
theorem far2 {W : World} {n : Nat} {u v c : Value} {p : Addr} (hp : p.block < n) (h : W.cell? p = some c) : ((W.setCell ⟨n, 0, none⟩ u).setCell ⟨n, 1, none⟩ v).cell? p = some c := by
  rw [World.cell?_setCell_other _ _ _ _ (by rintro rfl; exact Nat.lt_irrefl _ hp), World.cell?_setCell_other _ _ _ _ (by rintro rfl; exact Nat.lt_irrefl _ hp)]; exact h
theorem set2_row {W : World} {n : Nat} {u v a b : Value} {T : TypeId} (h : W.heap[n]? = some (.cells #[a, b] T (0, 0))) : ((W.setCell ⟨n, 0, none⟩ u).setCell ⟨n, 1, none⟩ v).heap[n]? = some (.cells #[u, v] T (0, 0)) := by
  rw [set_heap (set_heap h u)]; rfl
/-- Rows in a slice, and what lies behind them. -/
def HsS (w : World) (B : Nat) (l : List Hd) (v : Value) : Prop := SlOf w B 1 HdC l v ∧ ∀ x ∈ l, SlOf w B 3 VlC x.1 x.2
theorem HsS.below {w w' : World} {B B' : Nat} {l : List Hd} {v : Value} (h : HsS w B l v) (hb : Below B w w') (hB : B ≤ B') : HsS w' B' l v :=
  ⟨SlOf.more (SlOf.below h.1 hb fun _ _ _ h => h) hB fun _ _ _ h => h, fun x hx => VlS.more (VlS.below (h.2 x hx) hb) hB⟩
theorem HsS.rows {w : World} {B : Nat} {l : List Rw} {v : Value} (h : RwsS w B l v) : ∃ hs : List Hd, hs.map Prod.fst = l ∧ HsS w B hs v := by
  obtain ⟨hs, h1, h2, h3⟩ := rws_heads h
  exact ⟨hs, h1, h2, h3⟩

set_option linter.unusedSimpArgs false in
set_option maxRecDepth 100000 in
set_option maxHeartbeats 8000000 in
theorem leastOf_c (a b : List Hd) (v u : Value) (p q : Bool) (x : Hd) (r : List ((Bool × Bool) × Hd)) (w : World) (hv : HsS w w.heap.size a v) (hu : HsS w w.heap.size b u) (hbo : bothL hdC a b = ((p, q), x) :: r) :
    Calls Try.prog 32 #[v, u] w fun e w' => e = .returned (.tuple #[.agg #[.bool p, .bool q], x.2]) ∧ Below w.heap.size w w' := by
  have HV := Lib.hid hv
  have HU := Lib.hid hu
  obtain ⟨o1, c1, rfl, hc1, hm1, S1⟩ := SlOf.open hv.1
  obtain ⟨o2, c2, rfl, hc2, hm2, S2⟩ := SlOf.open hu.1
  clear hv hu
  have slo : ∀ y ∈ a ++ b, ∃ o c, y.2 = .slice o y.1.length c := fun y hy => by
    rcases List.mem_append.1 hy with h | h
    · obtain ⟨o, c, e, _⟩ := SlOf.uni (HV.out.2 y h); exact ⟨o, c, e⟩
    · obtain ⟨o, c, e, _⟩ := SlOf.uni (HU.out.2 y h); exact ⟨o, c, e⟩
  cases a with
  | nil =>
    cases b with
    | nil => rw [both_nil] at hbo; cases hbo
    | cons y b =>
      rw [both_nil] at hbo
      simp only [List.map_cons, List.cons.injEq, Prod.mk.injEq] at hbo
      obtain ⟨⟨⟨rfl, rfl⟩, rfl⟩, _⟩ := hbo
      obtain ⟨ad, rfl, had, c0⟩ := hd_at S2 (Below.refl _ _) (show (y :: b)[0]? = some y from rfl)
      have ea : ad.add 0 = ad := by unfold Addr.add; simp
      rw [ea] at c0
      obtain ⟨oy, cy, hy⟩ := slo y (by simp)
      rw [hy] at c0 ⊢
      have hl : (0 : Int) < ((y :: b).length : Int) := by simp
      obtain ⟨L, hL⟩ : ∃ L, (y :: b).length = L := ⟨_, rfl⟩
      rw [hL] at hl ⊢
      clear hL hy ea slo
      go_enter Try.func32, Try.ntmps32
      go_wp2
      go_region
      go_wp2
      have h0 := cellNew w 42 #[.bool false, .bool true] 0 _ rfl
      have h1 := cellNew w 42 #[.bool false, .bool true] 1 _ rfl
      refine bodyPost_ret (v := .tuple #[.agg #[.bool false, .bool true], .slice oy y.1.length cy]) (by simp [results, Try.results32, go_sem, h0, h1]) rfl ?_
      exact ⟨rfl, ((Below.refl _ _).alloc (Nat.le_refl _) _).drew⟩
  | cons x0 a =>
    obtain ⟨ad, rfl, had, c0⟩ := hd_at S1 (Below.refl _ _) (show (x0 :: a)[0]? = some x0 from rfl)
    have ea : ad.add 0 = ad := by unfold Addr.add; simp
    rw [ea] at c0
    obtain ⟨ox, cx, hx⟩ := slo x0 (by simp)
    have hl : (0 : Int) < ((x0 :: a).length : Int) := by simp
    have hne : (((x0 :: a).length : Int) == 0) = false := by rw [List.length_cons]; simp; omega
    cases b with
    | nil =>
      rw [both_nil'] at hbo
      simp only [List.map_cons, List.cons.injEq, Prod.mk.injEq] at hbo
      obtain ⟨⟨⟨rfl, rfl⟩, rfl⟩, _⟩ := hbo
      rw [hx] at c0 ⊢
      obtain ⟨L, hL⟩ : ∃ L, (x0 :: a).length = L := ⟨_, rfl⟩
      rw [hL] at hl hne ⊢
      have hL0 : ¬ L = 0 := by omega
      clear hL hx ea slo
      go_enter Try.func32, Try.ntmps32
      go_wp2
      go_region
      go_wp2
      have h0 := cellNew w 42 #[.bool true, .bool false] 0 _ rfl
      have h1 := cellNew w 42 #[.bool true, .bool false] 1 _ rfl
      refine bodyPost_ret (v := .tuple #[.agg #[.bool true, .bool false], .slice ox x0.1.length cx]) (by simp [results, Try.results32, go_sem, h0, h1]) rfl ?_
      exact ⟨rfl, ((Below.refl _ _).alloc (Nat.le_refl _) _).drew⟩
    | cons y b =>
      obtain ⟨bd, rfl, hbd, d0⟩ := hd_at S2 (Below.refl _ _) (show (y :: b)[0]? = some y from rfl)
      have eb : bd.add 0 = bd := by unfold Addr.add; simp
      rw [eb] at d0
      obtain ⟨oy, cy, hy⟩ := slo y (by simp)
      have hl2 : (0 : Int) < ((y :: b).length : Int) := by simp
      have hne2 : (((y :: b).length : Int) == 0) = false := by rw [List.length_cons]; simp; omega
      have HC := Lib.hid (fun (W : World) (hb : Below w.heap.size w W) => pcompare_c x0.1 y.1 x0.2 y.2 W (VlS.past (HV.out.2 x0 (by simp)) hb) (VlS.past (HU.out.2 y (by simp)) hb))
      obtain ⟨z, hz⟩ : ∃ z, rwC x0.1 y.1 = z := ⟨_, rfl⟩
      have hz' : hdC x0 y = z := hz
      rw [hz] at HC
      have hb3 : (z > 0 ∧ p = false ∧ q = true ∧ x = y) ∨ (z = 0 ∧ p = true ∧ q = true ∧ x = x0) ∨ (z < 0 ∧ p = true ∧ q = false ∧ x = x0) := by
        rcases Int.lt_trichotomy z 0 with h | h | h
        · rw [both_lt (by rw [hz']; exact h)] at hbo
          simp only [List.cons.injEq, Prod.mk.injEq] at hbo
          obtain ⟨⟨⟨rfl, rfl⟩, rfl⟩, _⟩ := hbo
          exact .inr (.inr ⟨h, rfl, rfl, rfl⟩)
        · rw [both_eq (by rw [hz']; exact h)] at hbo
          simp only [List.cons.injEq, Prod.mk.injEq] at hbo
          obtain ⟨⟨⟨rfl, rfl⟩, rfl⟩, _⟩ := hbo
          exact .inr (.inl ⟨h, rfl, rfl, rfl⟩)
        · rw [both_gt (by rw [hz']; exact h)] at hbo
          simp only [List.cons.injEq, Prod.mk.injEq] at hbo
          obtain ⟨⟨⟨rfl, rfl⟩, rfl⟩, _⟩ := hbo
          exact .inl ⟨h, rfl, rfl, rfl⟩
      have hx' := hx
      have hy' := hy
      obtain ⟨L, hL⟩ : ∃ L, (x0 :: a).length = L := ⟨_, rfl⟩
      rw [hL] at hl hne ⊢
      obtain ⟨M, hM⟩ : ∃ M, (y :: b).length = M := ⟨_, rfl⟩
      rw [hM] at hl2 hne2 ⊢
      have hLp : 0 < L := by omega
      have hMp : 0 < M := by omega
      have hL0 : ¬ L = 0 := by omega
      have hM0 : ¬ M = 0 := by omega
      rw [hx] at c0 HC
      rw [hy] at d0 HC
      obtain ⟨W1, hW1⟩ : ∃ W1, w.alloc (.cells #[.bool false, .bool false] 42) = W1 := ⟨_, rfl⟩
      have HW : Hid (Below w.heap.size w W1.drew ∧ W1.heap[w.heap.size]? = some (.cells #[.bool false, .bool false] 42 (0, 0)) ∧ W1.heap.size = w.heap.size + 1) := Lib.hid (by
        rw [← hW1]
        exact ⟨((Below.refl _ _).alloc (Nat.le_refl _) _).drew, World.alloc_heap_new w _, by simp⟩)
      have HE := Lib.hid hW1
      have a0 : W1.cell? ad = some (.slice ox x0.1.length cx) := (HW.out.1.cell had).trans c0
      have e0 : W1.cell? bd = some (.slice oy y.1.length cy) := (HW.out.1.cell hbd).trans d0
      have la : ad.block < W1.heap.size := by rw [HW.out.2.2]; omega
      have lb : bd.block < W1.heap.size := by rw [HW.out.2.2]; omega
      clear hL hM ea eb slo hz hz' hbo hW1
      rcases hb3 with ⟨hzz, rfl, rfl, rfl⟩ | ⟨hzz, rfl, rfl, rfl⟩ | ⟨hzz, rfl, rfl, rfl⟩
      all_goals
        first | rw [hx'] | rw [hy']
        clear hx hy hx' hy'
        go_enter Try.func32, Try.ntmps32
        go_wp2
        rw [HE.out]
        go_still_tail 6, (by kernel_rfl)
        go_wp2_with (go_at_call 15; refine (HC.out _ HW.out.1).mono ?_; rintro e w2 ⟨rfl, b2⟩; have hr2 := (b2.block _ (show w.heap.size < W1.heap.size by rw [HW.out.2.2]; omega)).trans HW.out.2.1; have hB2 := HW.out.1.trans (b2.mono (show w.heap.size ≤ W1.heap.size by rw [HW.out.2.2]; omega)); have c02 := (hB2.cell had).trans c0; have d02 := (hB2.cell hbd).trans d0; have k0 := (row_cell hr2 0).1; have k1 := (row_cell hr2 1).1; have f0 := (row_cell hr2 0).2; have f1 := (row_cell hr2 1).2; have hlt2 := heapLt hr2; have HR2 := Lib.hid hr2; have HB2 := Lib.hid hB2; clear b2 hr2 hB2)
      · have hz1 : decide (z > 0) = true := decide_eq_true hzz
        have q1 := far2 (u := .bool false) (v := .bool true) hbd d02
        have HR3 : Hid (((w2.setCell ⟨w.heap.size, 0, none⟩ (.bool false)).setCell ⟨w.heap.size, 1, none⟩ (.bool true)).drew.heap[w.heap.size]? = some (.cells #[.bool false, .bool true] 42 (0, 0))) := Lib.hid (set2_row HR2.out)
        have HB3 : Hid (Below w.heap.size w ((w2.setCell ⟨w.heap.size, 0, none⟩ (.bool false)).setCell ⟨w.heap.size, 1, none⟩ (.bool true)).drew) := Lib.hid (((HB2.out.setCell (p := ⟨w.heap.size, 0, none⟩) (Nat.le_refl _) _).setCell (p := ⟨w.heap.size, 1, none⟩) (Nat.le_refl _) _).drew)
        go_wp2
        go_region
        go_wp2
        have h0 := (row_cell HR3.out 0).1
        have h1 := (row_cell HR3.out 1).1
        refine bodyPost_ret (v := .tuple #[.agg #[.bool false, .bool true], .slice oy x.1.length cy]) (by simp [results, Try.results32, go_sem, h0, h1]) rfl ?_
        exact ⟨rfl, HB3.out⟩
      · have hz1 : decide (z > 0) = false := decide_eq_false (by omega)
        have hz2 : (z == 0) = true := by simp [hzz]
        have q1 := far2 (u := .bool true) (v := .bool true) had c02
        have HR3 : Hid (((w2.setCell ⟨w.heap.size, 0, none⟩ (.bool true)).setCell ⟨w.heap.size, 1, none⟩ (.bool true)).drew.heap[w.heap.size]? = some (.cells #[.bool true, .bool true] 42 (0, 0))) := Lib.hid (set2_row HR2.out)
        have HB3 : Hid (Below w.heap.size w ((w2.setCell ⟨w.heap.size, 0, none⟩ (.bool true)).setCell ⟨w.heap.size, 1, none⟩ (.bool true)).drew) := Lib.hid (((HB2.out.setCell (p := ⟨w.heap.size, 0, none⟩) (Nat.le_refl _) _).setCell (p := ⟨w.heap.size, 1, none⟩) (Nat.le_refl _) _).drew)
        go_wp2
        go_region
        go_wp2
        have h0 := (row_cell HR3.out 0).1
        have h1 := (row_cell HR3.out 1).1
        refine bodyPost_ret (v := .tuple #[.agg #[.bool true, .bool true], .slice ox x.1.length cx]) (by simp [results, Try.results32, go_sem, h0, h1]) rfl ?_
        exact ⟨rfl, HB3.out⟩
      · have hz1 : decide (z > 0) = false := decide_eq_false (by omega)
        have hz2 : (z == 0) = false := by simp; omega
        have q1 := far2 (u := .bool true) (v := .bool false) had c02
        have HR3 : Hid (((w2.setCell ⟨w.heap.size, 0, none⟩ (.bool true)).setCell ⟨w.heap.size, 1, none⟩ (.bool false)).drew.heap[w.heap.size]? = some (.cells #[.bool true, .bool false] 42 (0, 0))) := Lib.hid (set2_row HR2.out)
        have HB3 : Hid (Below w.heap.size w ((w2.setCell ⟨w.heap.size, 0, none⟩ (.bool true)).setCell ⟨w.heap.size, 1, none⟩ (.bool false)).drew) := Lib.hid (((HB2.out.setCell (p := ⟨w.heap.size, 0, none⟩) (Nat.le_refl _) _).setCell (p := ⟨w.heap.size, 1, none⟩) (Nat.le_refl _) _).drew)
        go_wp2
        go_region
        go_wp2
        have h0 := (row_cell HR3.out 0).1
        have h1 := (row_cell HR3.out 1).1
        refine bodyPost_ret (v := .tuple #[.agg #[.bool true, .bool false], .slice ox x.1.length cx]) (by simp [results, Try.results32, go_sem, h0, h1]) rfl ?_
        exact ⟨rfl, HB3.out⟩
end Go.Proofs.Ytphmiifochjemaa
