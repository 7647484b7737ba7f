/- soritesref03.ShowTerm. -/
import Derived.Test.YthjfkngfgomkbaaGreatDoorTrright3
import Derived.Test.YthjfkngfgomkbaaGreatDoorTlen
import Derived.Test.YthjfkngfgomkbaaGreatDoorOne
import Derived.Test.YthjfkngfgomkbaaGreatDoorRef
import Derived.Deep.RegionHeld3
namespace Go.Proofs.YthjfkngfgomkbaaGreatDoor
open Go.RowKit

/-! ### Texts of at most one thousand bytes -/
inductive S1k : Tm → Prop where
  | mk (op : Int) (s : ByteArray) (n : Int) (l : List Tm) : s.size ≤ 1000 → (∀ (i : Nat) (t : Tm), l[i]? = some t → S1k t) → S1k (.mk op s n l)
theorem S1k.s {t : Tm} (h : S1k t) : t.s.size ≤ 1000 := by cases h with | mk _ _ _ _ h _ => exact h
theorem S1k.l {t : Tm} (h : S1k t) : ∀ u ∈ t.l, S1k u := by
  cases h with
  | mk _ _ _ l _ h2 =>
    intro u hu
    obtain ⟨i, hi⟩ := List.mem_iff_getElem?.1 hu
    exact h2 i u hi
theorem foldS_each {α : Type} {f : α → Int → Int} : ∀ (l : List α) (left : Int), 0 ≤ foldS f l left → ∀ x ∈ l, ∃ left', 0 ≤ left' ∧ 0 ≤ f x left'
  | [], _, _, x, hx => by simp at hx
  | a :: l, left, h, x, hx => by
    have h0 : 0 ≤ left := by
      rcases Int.lt_or_le left 0 with h3 | h3
      · rw [foldS_neg f _ h3] at h; exact h
      · exact h3
    have ha := foldS_nonneg h0 h
    rw [foldS_step h0] at h
    rcases List.mem_cons.1 hx with rfl | hx
    · exact ⟨left, h0, ha⟩
    · exact foldS_each l _ h x hx
theorem size_1k (t : Tm) : ∀ left : Int, 0 ≤ sizeT t left → S1k t := by
  induction t using Tm.rec (motive_2 := fun l => ∀ x ∈ l, ∀ left : Int, 0 ≤ sizeT x left → S1k x) with
  | mk op s n l ih =>
    intro left h
    rw [sizeT_mk] at h
    split at h
    · omega
    · rename_i hs
      refine .mk op s n l (by omega) (fun i t ht => ?_)
      obtain ⟨left', _, h2⟩ := foldS_each l _ h t (List.mem_of_getElem? ht)
      exact ih t (List.mem_of_getElem? ht) left' h2
  | nil x hx => simp at hx
  | cons t ts ih ihs x hx left h =>
    rcases List.mem_cons.1 hx with rfl | hx
    · exact ih left h
    · exact ihs x hx left h
def A1k (a : Am) : Prop := ∀ t ∈ a.l, S1k t
def L1k (l : Lt) : Prop := A1k l.a ∧ S1k l.x ∧ S1k l.y
def R1k (r : Ru) : Prop := A1k r.head ∧ ∀ l ∈ r.body, L1k l
theorem sizeA_1k {a : Am} {left : Int} (h : 0 ≤ sizeA a left) : A1k a := by
  unfold sizeA at h
  split at h
  · omega
  · rw [sizeTs_fold] at h
    intro t ht
    obtain ⟨left', _, h2⟩ := foldS_each a.l _ h t ht
    exact size_1k t left' h2
theorem sizeL_1k {l : Lt} {left : Int} (h : 0 ≤ sizeL1 l left) : L1k l := by
  unfold sizeL1 at h
  split at h
  · omega
  · split at h
    · omega
    · rename_i h1 h2
      exact ⟨sizeA_1k (left := left - 1) (by omega), size_1k _ (sizeA l.a (left - 1)) (by omega), size_1k _ _ h⟩
theorem sizeR_1k {r : Ru} {left : Int} (h : 0 ≤ sizeR r left) : R1k r := by
  unfold sizeR at h
  have ha : 0 ≤ sizeA r.head (left - 1) := by
    rcases Int.lt_or_le (sizeA r.head (left - 1)) 0 with h3 | h3
    · rw [foldS_neg sizeL1 _ h3] at h; exact h
    · exact h3
  refine ⟨sizeA_1k ha, fun l hl => ?_⟩
  obtain ⟨left', _, h2⟩ := foldS_each r.body _ h l hl
  exact sizeL_1k h2
theorem small_1k {p : Pg} (h : smallP p = true) : ∀ r ∈ p.rules, R1k r := by
  unfold smallP at h
  simp only [Bool.and_eq_true, decide_eq_true_eq] at h
  intro r hr
  obtain ⟨left', _, h2⟩ := foldS_each p.rules _ h.1.1.2 r hr
  exact sizeR_1k h2

/-! ### ShowTerm -/
theorem app5 (A B : List UInt8) (c : UInt8) : Value.string ((⟨#[40]⟩ : ByteArray) ++ ⟨A.toArray⟩ ++ ⟨#[32, c, 32]⟩ ++ ⟨B.toArray⟩ ++ ⟨#[41]⟩) = .string ⟨([40] ++ A ++ [32] ++ [c] ++ [32] ++ B ++ [41]).toArray⟩ := by
  simp only [ByteArray.mk_append_mk]
  simp
theorem eta' (s : ByteArray) : (⟨s.data.toList.toArray⟩ : ByteArray) = s := by cases s; simp
/-- Two terms in a slice, and the slice in a box. -/
def PairS (w : World) (p : Addr) (v x0 x1 x2 x3 y0 y1 y2 y3 : Value) (W : World) : Prop :=
  W.cell? ⟨w.heap.size, 3, none⟩ = some v ∧ W.cell? p = some x0 ∧ W.cell? ⟨p.block, p.off + 1, none⟩ = some x1 ∧ W.cell? ⟨p.block, p.off + 2, none⟩ = some x2 ∧ W.cell? ⟨p.block, p.off + 3, none⟩ = some x3 ∧
    W.cell? ⟨p.block, p.off + 4, none⟩ = some y0 ∧ W.cell? ⟨p.block, p.off + 4 + 1, none⟩ = some y1 ∧ W.cell? ⟨p.block, p.off + 4 + 2, none⟩ = some y2 ∧ W.cell? ⟨p.block, p.off + 4 + 3, none⟩ = some y3 ∧ Below w.heap.size w W ∧ w.heap.size < W.heap.size
theorem PairS.kept {w W w1 : World} {p : Addr} {v x0 x1 x2 x3 y0 y1 y2 y3 : Value} (h : PairS w p v x0 x1 x2 x3 y0 y1 y2 y3 W) (hp : p.block < w.heap.size) (b : Below W.heap.size W w1) : PairS w p v x0 x1 x2 x3 y0 y1 y2 y3 w1 := by
  obtain ⟨h0, h1, h2, h3, h4, h5, h6, h7, h8, h9, hz⟩ := h
  have hp' : p.block < W.heap.size := by omega
  exact ⟨(b.cell (p := ⟨w.heap.size, 3, none⟩) hz).trans h0, (b.cell hp').trans h1, (b.cell (p := ⟨p.block, p.off + 1, none⟩) hp').trans h2, (b.cell (p := ⟨p.block, p.off + 2, none⟩) hp').trans h3, (b.cell (p := ⟨p.block, p.off + 3, none⟩) hp').trans h4,
    (b.cell (p := ⟨p.block, p.off + 4, none⟩) hp').trans h5, (b.cell (p := ⟨p.block, p.off + 4 + 1, none⟩) hp').trans h6, (b.cell (p := ⟨p.block, p.off + 4 + 2, none⟩) hp').trans h7, (b.cell (p := ⟨p.block, p.off + 4 + 3, none⟩) hp').trans h8, h9.trans (b.mono (by omega)), Nat.lt_of_lt_of_le hz b.size⟩

set_option maxRecDepth 100000 in
set_option maxHeartbeats 8000000 in
theorem rshowTerm_c : ∀ (h : Nat) (t : Tm) (w : World) (cs : List Value), rightT h t = true → S1k t → (showT h t).length ≤ 10000000 → TmC w w.heap.size t cs →
    Calls Tryz.prog 68 #[.agg cs.toArray] w fun e w' => e = .returned (.string ⟨(showT h t).toArray⟩) ∧ Below w.heap.size w w' := by
  intro h
  induction h with
  | zero => intro t w cs hr; unfold rightT at hr; cases hr
  | succ h ih =>
    intro t w cs hr hk hl hc
    have h64 := hc.n64.n
    have hs1 := hk.s
    have hkl := hk.l
    rcases rightT_cases hr with ⟨h1, h2, h3, h4⟩ | ⟨h1, h2, h3⟩ | ⟨h1, h2, h3⟩ | ⟨h1, h2, h3, h4⟩ | ⟨h1, h2, h3, x, y, h4, hx, hy⟩
    · have Hz : Hid (showT (h + 1) t = t.s.data.toList) := Lib.hid (showT1 h1)
      obtain ⟨p1, q1, rfl, _, _, _, t1⟩ := hc.look
      clear hc t1 hl hr hk h64 hkl ih
      have A0 : Hid (∀ o, Below w.heap.size w (w.alloc o)) := Lib.hid fun o => (Below.refl _ _).alloc (Nat.le_refl _) _
      go_enter Tryz.func68, Tryz.ntmps68
      go_wp2
      go_ret
      exact ⟨by rw [Hz.out, eta']; rfl, A0.out _⟩
    · have Hz : Hid (showT (h + 1) t = Lib.itoa t.n) := Lib.hid (showT2 h1)
      obtain ⟨p1, q1, rfl, _, _, _, t1⟩ := hc.look
      have HN := Lib.hid (fun w => refNum_c t.n h64.1 h64.2 w)
      clear hc t1 hl hr hk h64 hkl ih
      have A0 : Hid (∀ o, Below w.heap.size w (w.alloc o)) := Lib.hid fun o => (Below.refl _ _).alloc (Nat.le_refl _) _
      go_enter Tryz.func68, Tryz.ntmps68
      go_wp2_with fail
      refine (HN.out _).mono ?_
      rintro e w1 ⟨rfl, b1⟩
      go_wp2
      go_ret
      exact ⟨by rw [Hz.out]; rfl, (A0.out _).trans (b1.mono (by simp))⟩
    · have Hz : Hid (showT (h + 1) t = quoteL t.s.data.toList) := Lib.hid (showT3 h1)
      obtain ⟨p1, q1, rfl, _, _, _, t1⟩ := hc.look
      have HN := Lib.hid (fun w => refQuote_c t.s (by omega) w)
      clear hc t1 hl hr hk h64 hkl ih
      have A0 : Hid (∀ o, Below w.heap.size w (w.alloc o)) := Lib.hid fun o => (Below.refl _ _).alloc (Nat.le_refl _) _
      go_enter Tryz.func68, Tryz.ntmps68
      go_wp2_with fail
      refine (HN.out _).mono ?_
      rintro e w1 ⟨rfl, b1⟩
      go_wp2
      go_ret
      exact ⟨by rw [Hz.out]; rfl, (A0.out _).trans (b1.mono (by simp))⟩
    · have Hz : Hid (showT (h + 1) t = [95]) := Lib.hid (showT4 h1)
      obtain ⟨p1, q1, rfl, _, _, _, t1⟩ := hc.look
      clear hc t1 hl hr hk h64 hkl ih
      have A0 : Hid (∀ o, Below w.heap.size w (w.alloc o)) := Lib.hid fun o => (Below.refl _ _).alloc (Nat.le_refl _) _
      go_enter Tryz.func68, Tryz.ntmps68
      go_wp2
      go_ret
      exact ⟨by rw [Hz.out]; rfl, A0.out _⟩
    · obtain ⟨op, s, n, l⟩ := t
      simp only [Tm.op_mk, Tm.l_mk] at h1 h4 hkl
      subst h4
      have Hz : Hid (showT (h + 1) (.mk op s n [x, y]) = [40] ++ showT h x ++ [32] ++ [sgnT op] ++ [32] ++ showT h y ++ [41]) := Lib.hid (by
        have := showT5 (h := h) (t := .mk op s n [x, y]) h1 rfl []
        rw [List.append_nil] at this
        rw [this]
        simp)
      have hlen : (showT h x).length + (showT h y).length + 5 ≤ 10000000 := by
        have := hl
        rw [Hz.out] at this
        simp only [List.length_append, List.length_cons, List.length_nil] at this
        omega
      have IX := Lib.hid (fun (W : World) (cs : List Value) (hx2 : TmC W W.heap.size x cs) => ih x W cs hx (hkl x (by simp)) (by omega) hx2)
      have IY := Lib.hid (fun (W : World) (cs : List Value) (hy2 : TmC W W.heap.size y cs) => ih y W cs hy (hkl y (by simp)) (by omega) hy2)
      clear hl hr hk h64 hkl ih hx hy h2 h3 hs1
      obtain ⟨p1, q1, rfl, _, hz, _, t1⟩ := hc.look
      simp only [Tm.op_mk, Tm.s_mk, Tm.n_mk, Tm.l_mk] at hz t1 ⊢
      obtain ⟨o1, cap1, e1, hc1, hm1, S1⟩ := SlOf.open t1
      cases e1
      obtain ⟨a, p3, q3, rfl, ha, Hc, c0, c1, c2, c3⟩ := tm_at S1 (Below.refl _ _) (show [x, y][0]? = some x from rfl)
      obtain ⟨a', p4, q4, e2, ha', Hd, d0, d1, d2, d3⟩ := tm_at S1 (Below.refl _ _) (show [x, y][1]? = some y from rfl)
      cases e2
      simp only [Nat.zero_mul, Nat.one_mul] at c0 c1 c2 c3 d0 d1 d2 d3
      have ea : a.add 0 = a := by unfold Addr.add; simp
      rw [ea] at c0 c1 c2 c3
      have e4 : a.add 4 = ⟨a.block, a.off + 4, none⟩ := by unfold Addr.add; simp
      simp only [e4] at d0 d1 d2 d3
      clear ea e4 ha'
      have A0 : Hid (Below w.heap.size w (w.alloc (.cells #[.int .i64 op, .string s, .int .i64 n, .slice (some a) [x, y].length q1] 79))) := Lib.hid ((Below.refl _ _).alloc (Nat.le_refl _) _)
      have hP : Hid (PairS w a (.slice (some a) 2 q1) (.int .i64 x.op) (.string x.s) (.int .i64 x.n) (.slice p3 x.l.length q3) (.int .i64 y.op) (.string y.s) (.int .i64 y.n) (.slice p4 y.l.length q4) (w.alloc (.cells #[.int .i64 op, .string s, .int .i64 n, .slice (some a) [x, y].length q1] 79))) := Lib.hid
        ⟨by go_simp, (A0.out.cell ha).trans c0, (A0.out.cell (p := ⟨a.block, a.off + 1, none⟩) ha).trans c1, (A0.out.cell (p := ⟨a.block, a.off + 2, none⟩) ha).trans c2, (A0.out.cell (p := ⟨a.block, a.off + 3, none⟩) ha).trans c3,
          (A0.out.cell (p := ⟨a.block, a.off + 4, none⟩) ha).trans d0, (A0.out.cell (p := ⟨a.block, a.off + 4 + 1, none⟩) ha).trans d1, (A0.out.cell (p := ⟨a.block, a.off + 4 + 2, none⟩) ha).trans d2, (A0.out.cell (p := ⟨a.block, a.off + 4 + 3, none⟩) ha).trans d3, A0.out, by simp⟩
      have HX : Hid (∀ W, PairS w a (.slice (some a) 2 q1) (.int .i64 x.op) (.string x.s) (.int .i64 x.n) (.slice p3 x.l.length q3) (.int .i64 y.op) (.string y.s) (.int .i64 y.n) (.slice p4 y.l.length q4) W → Calls Tryz.prog 68 #[.agg #[.int .i64 x.op, .string x.s, .int .i64 x.n, .slice p3 x.l.length q3]] W fun e w' => e = .returned (.string ⟨(showT h x).toArray⟩) ∧ PairS w a (.slice (some a) 2 q1) (.int .i64 x.op) (.string x.s) (.int .i64 x.n) (.slice p3 x.l.length q3) (.int .i64 y.op) (.string y.s) (.int .i64 y.n) (.slice p4 y.l.length q4) w') :=
        Lib.hid fun W hS => (IX.out W _ ((Hc.out.under hS.2.2.2.2.2.2.2.2.2.1).more hS.2.2.2.2.2.2.2.2.2.1.size)).mono (by rintro e w1 ⟨rfl, b1⟩; exact ⟨rfl, hS.kept ha b1⟩)
      have HY : Hid (∀ W, PairS w a (.slice (some a) 2 q1) (.int .i64 x.op) (.string x.s) (.int .i64 x.n) (.slice p3 x.l.length q3) (.int .i64 y.op) (.string y.s) (.int .i64 y.n) (.slice p4 y.l.length q4) W → Calls Tryz.prog 68 #[.agg #[.int .i64 y.op, .string y.s, .int .i64 y.n, .slice p4 y.l.length q4]] W fun e w' => e = .returned (.string ⟨(showT h y).toArray⟩) ∧ PairS w a (.slice (some a) 2 q1) (.int .i64 x.op) (.string x.s) (.int .i64 x.n) (.slice p3 x.l.length q3) (.int .i64 y.op) (.string y.s) (.int .i64 y.n) (.slice p4 y.l.length q4) w') :=
        Lib.hid fun W hS => (IY.out W _ ((Hd.out.under hS.2.2.2.2.2.2.2.2.2.1).more hS.2.2.2.2.2.2.2.2.2.1.size)).mono (by rintro e w1 ⟨rfl, b1⟩; exact ⟨rfl, hS.kept ha b1⟩)
      have hS := hP.out.kept ha ((Below.refl _ _).drew)
      obtain ⟨A, hA⟩ : ∃ A, showT h x = A := ⟨_, rfl⟩
      obtain ⟨B, hB⟩ : ∃ B, showT h y = B := ⟨_, rfl⟩
      rw [hA, hB] at Hz hlen
      rw [hA] at HX
      rw [hB] at HY
      have g1 : ¬ 9223372036854775807 < 1 + A.length := by omega
      have g2 : ¬ 9223372036854775807 < 1 + A.length + 3 := by omega
      have g3 : ¬ 9223372036854775807 < 1 + A.length + 3 + B.length := by omega
      have g4 : ¬ 9223372036854775807 < 1 + A.length + 3 + B.length + 1 := by omega
      clear c0 c1 c2 c3 d0 d1 d2 d3 hc t1 S1 IX IY Hc Hd hP hA hB hlen
      rcases h1 with rfl | rfl | rfl
      all_goals
        go_enter Tryz.func68, Tryz.ntmps68
        go_wp2
        go_region_held3 (fun W => W.cell? ⟨w.heap.size, 3, none⟩ = some (.slice (some a) 2 q1) ∧ W.cell? a = some (.int .i64 x.op) ∧ W.cell? ⟨a.block, a.off + 1, none⟩ = some (.string x.s) ∧ W.cell? ⟨a.block, a.off + 2, none⟩ = some (.int .i64 x.n) ∧ W.cell? ⟨a.block, a.off + 3, none⟩ = some (.slice p3 x.l.length q3) ∧ W.cell? ⟨a.block, a.off + 4, none⟩ = some (.int .i64 y.op) ∧ W.cell? ⟨a.block, a.off + 4 + 1, none⟩ = some (.string y.s) ∧ W.cell? ⟨a.block, a.off + 4 + 2, none⟩ = some (.int .i64 y.n) ∧ W.cell? ⟨a.block, a.off + 4 + 3, none⟩ = some (.slice p4 y.l.length q4) ∧ Below w.heap.size w W ∧ w.heap.size < W.heap.size) (first | exact hk | exact hS) (first | (go_at_call 68; (with_reducible refine (HX.out _ ?_).mono ?_); (next => first | exact hk | exact hS); rintro e w4 ⟨rfl, hk⟩; have hk2 := hk; obtain ⟨x0, x1, x2, x3, x4, x5, x6, x7, x8, _, _⟩ := hk2) | (go_at_call 68; (with_reducible refine (HY.out _ ?_).mono ?_); (next => first | exact hk | exact hS); rintro e w4 ⟨rfl, hk⟩; have hk2 := hk; obtain ⟨x0, x1, x2, x3, x4, x5, x6, x7, x8, _, _⟩ := hk2))
        all_goals
          go_wp2
          go_ret
          exact ⟨by rw [Hz.out]; exact congrArg Ending.returned (app5 A B _), hk.2.2.2.2.2.2.2.2.2.1⟩
end Go.Proofs.YthjfkngfgomkbaaGreatDoor
