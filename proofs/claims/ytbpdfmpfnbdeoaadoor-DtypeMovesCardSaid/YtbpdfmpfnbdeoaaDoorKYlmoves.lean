/- The law DtypeMoves. -/
import Derived.Test.YtbpdfmpfnbdeoaaDoorKYsh
import Derived.Test.YtbpdfmpfnbdeoaaDoorKLaid
import Derived.Deep.RegionHeld3
import Derived.Test.YtbpdfmpfnbdeoaaDoorKChain
import Derived.Test.YtbpdfmpfnbdeoaaDoorKFlowG
import Derived.Test.YtbpdfmpfnbdeoaaDoorKYmv
namespace Go.Proofs.YtbpdfmpfnbdeoaaDoor
open Go.RowKit

theorem evG (A : Act) (s : Tmp) : A.eval (.tmp s) = A.tmps[s]?.getD undef := by rw [← Array.getD_eq_getD_getElem?]; rfl
def rowR (h : ByteArray) (v u : Value) (l : Int) : Array Value := #[.string h, v, u, .int .i64 l]
/-- A field of a box written. -/
theorem box_set {w : World} {q : Nat} {h : ByteArray} {v u : Value} {l : Int} {T : TypeId} (hr : w.heap[q]? = some (.cells (rowR h v u l) T (0, 0))) (x : Value) : (w.setCell ⟨q, 2, none⟩ x).heap[q]? = some (.cells (rowR h v x l) T (0, 0)) := set_row hr 2 x
theorem setCell_grown (w : World) (q k : Nat) (x : Value) : w.grownBy (w.setCell ⟨q, k, none⟩ x) (some q) := ⟨rfl, rfl, rfl, by simp [World.setCell], fun i _ hne => Below.heap_setCell w ⟨q, k, none⟩ x i (fun e => hne (by rw [e]))⟩
theorem row_frozen {w : World} {b : Nat} {cs : Array Value} {T : TypeId} (h : w.heap[b]? = some (.cells cs T (0, 0))) (i : Nat) : w.frozen? ⟨b, i, none⟩ = false := by unfold World.frozen?; rw [h]; simp
def slots5 : List (Option Tmp) := [some 47, some 48, some 49, some 50, some 51, some 52, some 53, some 54, none]
def facts5 (b q : Nat) (v : Value) (n : Nat) : List (Value → Prop) :=
  [fun x => x = .pointer (some ⟨b, 2, none⟩), fun x => x = v, fun x => x = .int .i64 (n : Int), fun _ => True, fun x => x = .pointer (some ⟨b, 2, none⟩), fun x => x = v, fun _ => True, fun x => x = .pointer (some ⟨q, 2, none⟩)]
def state5 (N q n : Nat) (xs : List Value) (h : ByteArray) (v u : Value) (ln : Int) : Nat → (Nat → Value) → World → Prop
  | 0, _, w => w.heap[q]? = some (.cells (rowR h v u ln) 27 (0, 0))
  | 1, val, w => w.heap[q]? = some (.cells (rowR h v u ln) 27 (0, 0)) ∧ w.ownsRow N 45 11 (val 3) 0 []
  | 2, val, w => w.heap[q]? = some (.cells (rowR h v u ln) 27 (0, 0)) ∧ w.ownsRow N 45 11 (val 6) n xs
  | _, val, w => w.heap[q]? = some (.cells (rowR h v (val 6) ln) 27 (0, 0)) ∧ w.ownsRow N 45 11 (val 6) n xs
def slots6 : List (Option Tmp) := [some 55, some 56, some 57, some 58, some 59, some 60, some 61, some 62, some 63, none]
def slots7 : List (Option Tmp) := [some 64, some 65, some 66, some 67, some 68, some 69, some 70, some 71, some 72, none]
def facts6 (b q : Nat) (ov bv : Value) (m n : Nat) (src dst : Addr) (L : Array Value) : List (Value → Prop) :=
  [fun x => x = .pointer (some ⟨q, 2, none⟩), fun x => x = ov, fun x => x = .int .i64 (m : Int), fun x => x = .pointer (some ⟨b, 2, none⟩), fun x => x = bv, fun x => x = .int .i64 (n : Int), fun x => x = .pointer (some src), fun x => x = .agg L, fun x => x = .pointer (some dst)]
def state6 (N : Nat) (v : Value) (n : Nat) (xs ys : List Value) : Nat → (Nat → Value) → World → Prop
  | 0, _, w => w.ownsRow N 45 11 v n xs
  | _, _, w => w.ownsRow N 45 11 v n ys
def slots19 : List (Option Tmp) := [some 142, some 143, some 144, some 145, some 146, some 147, some 148, some 149, some 150, some 151, some 152, some 153, some 154, some 155, some 156, some 157, some 158, some 159, some 160, some 161, some 162, some 163, some 164, some 165, some 166, some 167, some 168, some 169, some 170]
def facts19 (X A Y B : Value) (k : Nat) (px pa : Addr) (s : ByteArray) (t : Int) : List (Value → World → Prop) :=
  [fun v _ => v = X, fun v _ => v = A, fun v _ => v = X, fun v _ => v = .int .i64 (k : Int), fun v _ => v = .pointer (some px), fun v _ => v = .string s, fun v _ => v = .int .i64 t,
   fun v _ => v = Y, fun v _ => v = B, fun v _ => v = X, fun v _ => v = .int .i64 (k : Int), fun v _ => v = .pointer (some px), fun v _ => v = .string s, fun v _ => v = .int .i64 t,
   fun v _ => v = .bool false, fun v _ => v = .bool false, fun v _ => v = A, fun v _ => v = .int .i64 (k : Int), fun v _ => v = .pointer (some pa), fun v _ => v = .int .i64 t, fun v _ => v = .bool (t != 1), fun v _ => v = .bool (t != 1),
   fun v _ => (t != 1) = true → v = A, fun v _ => (t != 1) = true → v = .int .i64 (k : Int), fun v _ => (t != 1) = true → v = .pointer (some pa), fun v _ => (t != 1) = true → v = .int .i64 t, fun v _ => (t != 1) = true → v = .bool (t != 2), fun v _ => v = .bool false, fun v _ => v = .bool false]
theorem facts19_mono (X A Y B : Value) (k : Nat) (px pa : Addr) (s : ByteArray) (t : Int) : ∀ p ∈ facts19 X A Y B k px pa s t, ∀ v w w', p v w → Below w.heap.size w w' → p v w' := by
  intro p hp v w w' h hb
  unfold facts19 at hp
  simp only [List.mem_cons, List.not_mem_nil, or_false] at hp
  rcases hp with rfl | rfl | rfl | rfl | rfl | rfl | rfl | rfl | rfl | rfl | rfl | rfl | rfl | rfl | rfl | rfl | rfl | rfl | rfl | rfl | rfl | rfl | rfl | rfl | rfl | rfl | rfl | rfl | rfl <;> exact h
set_option maxRecDepth 100000 in
set_option maxHeartbeats 8000000 in
theorem dtypeMoves_c (v : Value) (ds : List De) (r : Ru) (i k : Int) (e a b c d : Addr) (w : World) (cs : List Value) (hd : SlOf w w.heap.size 6 (DeC w w.heap.size) ds v) (hr : RuC w w.heap.size r cs)
    (_ : -9223372036854775808 ≤ i) (_ : i ≤ 9223372036854775807) (_ : -9223372036854775808 ≤ k) (_ : k ≤ 9223372036854775807) (E : EnvY e a b c d w) :
    Calls Tryd.prog 5 #[v, .agg cs.toArray, .int .i64 i, .int .i64 k] w fun e w' => e = .returned (.bool true) ∧ Below w.heap.size w w' := by
  have HR := Lib.hid hr
  have HD := Lib.hid hd
  have HE := Lib.hid E
  have hb0 : ∀ C : Obj, Below w.heap.size w (w.alloc C) := fun C => (Below.refl _ _).alloc (Nat.le_refl _) _
  have HB0 := Lib.hid hb0
  have HH := Lib.hid (fun (W : World) (hb : Below w.heap.size w W) => shown5_c e a b c d W (E.below hb))
  have HS := Lib.hid (fun (W : World) (hb : Below w.heap.size w W) => small5_c ds v r cs W (SlOf.decl hd hb hb.size) ((hr.below hb).more hb.size))
  obtain ⟨od, kd, rfl, _⟩ := SlOf.uni hd
  obtain ⟨p1, q1, r1, s1, rfl, _, _, H2⟩ := hr.look
  obtain ⟨o2, cap2, e2, hc2, hm2, _⟩ := SlOf.open H2
  cases e2
  have HBd := Lib.hid H2
  clear hd hr E H2 hb0
  go_enter Tryd.func5, Tryd.ntmps5
  go_wp2_with fail
  refine (HH.out _ (HB0.out _)).mono ?_
  rintro e1 w1 ⟨rfl, b1⟩
  have r1' : w1.heap[w.heap.size]? = some (.cells #[.string r.head.rel, .slice p1 r.head.l.length q1, .slice r1 r.body.length s1, .int .i64 r.line] 27 (0, 0)) := (b1.block _ (by simp)).trans (World.alloc_heap_new w _)
  have x0 := row_cells r1' 0
  have x1 := row_cells r1' 1
  have x2 := row_cells r1' 2
  have x3 := row_cells r1' 3
  simp at x0 x1 x2 x3
  have hz1 : w.heap.size < w1.heap.size := by have := b1.size; simp at this; omega
  have B1 := Lib.hid ((HB0.out _).trans (b1.mono (by simp)))
  clear b1
  go_wp2_with fail
  refine (HS.out _ B1.out).mono ?_
  rintro e2 w2 ⟨rfl, b2⟩
  have r2' := (b2.block _ hz1).trans r1'
  have y0 : w2.cell? ⟨w.heap.size, 0, none⟩ = some (.string r.head.rel) := row_cells r2' 0
  have y1 : w2.cell? ⟨w.heap.size, 1, none⟩ = some (.slice p1 r.head.l.length q1) := row_cells r2' 1
  have y2 : w2.cell? ⟨w.heap.size, 2, none⟩ = some (.slice r1 r.body.length s1) := row_cells r2' 2
  have y3 : w2.cell? ⟨w.heap.size, 3, none⟩ = some (.int .i64 r.line) := row_cells r2' 3
  have hz2 : w.heap.size < w2.heap.size := by have := b2.size; omega
  have B2 := Lib.hid (B1.out.trans (b2.mono B1.out.size))
  have R2 := Lib.hid r2'
  clear x0 x1 x2 x3 b2 r1' r2'
  cases hs : smallP ⟨ds, [r]⟩ with
  | false =>
    clear hs
    go_wp2
    go_ret
    exact ⟨rfl, B2.out⟩
  | true =>
  have HT := Lib.hid (small_terms hs r (List.mem_cons_self ..))
  clear hs
  by_cases hi0 : i < 0
  · go_wp2
    go_ret
    exact ⟨rfl, B2.out⟩
  by_cases hk0 : k < 0
  · go_wp2
    go_ret
    exact ⟨rfl, B2.out⟩
  obtain ⟨m, rfl⟩ := Int.eq_ofNat_of_zero_le (show 0 ≤ i by omega)
  obtain ⟨n, rfl⟩ := Int.eq_ofNat_of_zero_le (show 0 ≤ k by omega)
  by_cases hi1 : r.body.length ≤ m
  · have hi1' : (r.body.length : Int) ≤ (m : Int) := by omega
    go_wp2
    go_ret
    exact ⟨rfl, B2.out⟩
  by_cases hk1 : r.body.length ≤ n
  · have hi1' : ¬ (r.body.length : Int) ≤ (m : Int) := by omega
    have hk1' : (r.body.length : Int) ≤ (n : Int) := by omega
    go_wp2
    go_ret
    exact ⟨rfl, B2.out⟩
  have hi1' : ¬ (r.body.length : Int) ≤ (m : Int) := by omega
  have hk1' : ¬ (r.body.length : Int) ≤ (n : Int) := by omega
  have hlen : r.body.length ≤ 2000 := Nat.le_trans (body_len r) HT.out.1
  go_wp2_with fail
  obtain ⟨i0, hi, hz0, hz1', hz2'⟩ := info_parts info_lit
  have mB : i0.bytes * r.body.length ≤ 281474976710656 := by rw [hz2']; omega
  obtain ⟨q, hq⟩ : ∃ q, w2.heap.size = q := ⟨_, rfl⟩
  obtain ⟨W3, hW3⟩ : ∃ W3, w2.alloc (.cells #[.string r.head.rel, .slice p1 r.head.l.length q1, .slice r1 r.body.length s1, .int .i64 r.line] 27) = W3 := ⟨_, rfl⟩
  have z3 : W3.heap.size = q + 1 := by rw [← hW3, ← hq]; simp
  have q3 : W3.heap[q]? = some (.cells (rowR r.head.rel (.slice p1 r.head.l.length q1) (.slice r1 r.body.length s1) r.line) 27 (0, 0)) := by rw [← hW3, ← hq]; exact World.alloc_heap_new w2 _
  have n3 : W3.heap[w.heap.size]? = some (.cells (rowR r.head.rel (.slice p1 r.head.l.length q1) (.slice r1 r.body.length s1) r.line) 27 (0, 0)) := by rw [← hW3]; exact row_more R2.out _
  have b3 : Below w.heap.size w W3 := by rw [← hW3]; exact B2.out.alloc B2.out.size _
  rw [hq, hW3]
  have hqn : w.heap.size < q := by rw [← hq]; exact hz2
  have B3 := Lib.hid b3
  have Q3 := Lib.hid q3
  have N3 := Lib.hid n3
  obtain ⟨xs, hlaid, hsp⟩ := sl_laid HBd.out lt_one
  have HL := Lib.hid hlaid
  have HSp := Lib.hid hsp
  clear hlaid hsp q3 n3 b3 hW3 y0 y1 y2 y3 hq
  refine wp_region_any (by kernel_rfl) ?_
  (try (change wpAny _ _ _ _ _ _ _ (World.drew _)))
  refine wpAny_chain slots5 [3, 6, 8] _ _ (facts5 w.heap.size q (.slice r1 r.body.length s1) r.body.length) (state5 W3.heap.size q r.body.length xs r.head.rel (.slice p1 r.head.l.length q1) (.slice r1 r.body.length s1) r.line) (fun b => b = q)
    (by kernel_rfl) (by kernel_rfl) (by kernel_rfl) (by kernel_rfl) (by kernel_rfl) (by decide) (by decide) ?indep Q3.out
    ⟨.p rfl ?s0, .p rfl ?s1, .p rfl ?s2, .c 0 rfl rfl ?s3, .p rfl ?s4, .p rfl ?s5, .c 1 rfl (by kernel_rfl) ?s6, .p rfl ?s7, .c 2 rfl (by kernel_rfl) ?s8, trivial⟩ ?fin
  case indep =>
    intro k val val' w' h hs
    match k, hs with
    | 0, hs => exact hs
    | 1, hs => exact ⟨hs.1, by rw [← h 3 (by decide)]; exact hs.2⟩
    | 2, hs => exact ⟨hs.1, by rw [← h 6 (by decide)]; exact hs.2⟩
    | k + 3, hs => exact ⟨by rw [← h 6 (by decide)]; exact hs.1, by rw [← h 6 (by decide)]; exact hs.2⟩
  case s0 =>
    intro A w' K hb hfar hd hK
    have e1 : A.tmps[5]?.getD undef = .pointer (some ⟨w.heap.size, 0, none⟩) := hfar 5 (by decide)
    unfold Oper.wp
    simp [execOp, e1, go_sem, Result.andThen]
    exact hK _ (factV_mk rfl rfl)
  case s4 =>
    intro A w' K hb hfar hd hK
    have e1 : A.tmps[5]?.getD undef = .pointer (some ⟨w.heap.size, 0, none⟩) := hfar 5 (by decide)
    unfold Oper.wp
    simp [execOp, e1, go_sem, Result.andThen]
    exact hK _ (factV_mk rfl rfl)
  case s7 =>
    intro A w' K hb hfar hd hK
    have e1 : A.tmps[10]?.getD undef = .pointer (some ⟨q, 0, none⟩) := hfar 10 (by decide)
    unfold Oper.wp
    simp [execOp, e1, go_sem, Result.andThen]
    exact hK _ (factV_mk rfl rfl)
  case s1 =>
    intro A w' K hb hfar hd hK
    have e1 : A.tmps[47]?.getD undef = .pointer (some ⟨w.heap.size, 2, none⟩) := hd 0 47 rfl (by kernel_rfl) _ rfl
    have c2 : w'.cell? ⟨w.heap.size, 2, none⟩ = some (.slice r1 r.body.length s1) := row_cells ((hb.block _ (heap_lt N3.out) (by omega)).trans N3.out) 2
    unfold Oper.wp
    simp [execOp, e1, c2, go_sem, Result.andThen]
    exact hK _ (factV_mk rfl rfl)
  case s5 =>
    intro A w' K hb hfar hd hK
    have e1 : A.tmps[51]?.getD undef = .pointer (some ⟨w.heap.size, 2, none⟩) := hd 4 51 rfl (by kernel_rfl) _ rfl
    have c2 : w'.cell? ⟨w.heap.size, 2, none⟩ = some (.slice r1 r.body.length s1) := row_cells ((hb.block _ (heap_lt N3.out) (by omega)).trans N3.out) 2
    unfold Oper.wp
    simp [execOp, e1, c2, go_sem, Result.andThen]
    exact hK _ (factV_mk rfl rfl)
  case s2 =>
    intro A w' K hb hfar hd hK
    have e1 : A.tmps[48]?.getD undef = .slice r1 r.body.length s1 := hd 1 48 rfl (by kernel_rfl) _ rfl
    unfold Oper.wp
    simp [execOp, e1, go_sem, Result.andThen]
    exact hK _ (factV_mk rfl rfl)
  case s3 =>
    intro A w' val K hb hfar hd hs hK
    have e1 : A.tmps[49]?.getD undef = .int .i64 (r.body.length : Int) := (hd 2 49 rfl (by kernel_rfl)).1 _ rfl
    refine wp_make_any w' _ _ 25 rfl W3.heap.size 45 i0 _ 11 Tryd.underlying25 hi hz0 hz1' .i64 .i64 r.body.length rfl ((evG _ _).trans e1) mB (by unfold maxLen; omega) hb.size fun w3 hown hg => ?_
    refine hK _ _ (hb.grown hg (fun b h => by cases h)) (factV_mk rfl trivial) ⟨(hg.block q (by have := heap_lt hs; exact this) (by simp)).trans hs, by rw [updV_same]; exact hown⟩
  case s6 =>
    intro A w' val K hb hfar hd hs hK
    have e0 := (hd 3 50 rfl (by kernel_rfl)).2
    have e1 : A.tmps[52]?.getD undef = .slice r1 r.body.length s1 := (hd 5 52 rfl (by kernel_rfl)).1 _ rfl
    obtain ⟨hs1, hs2⟩ := hs
    have hsp : Spread w' 11 (.slice r1 r.body.length s1) r.body.length xs := by
      rcases HSp.out with h | ⟨ad, c, h1, h2, h3, h4⟩
      · exact .inl h
      · refine .inr ⟨ad, c, h1, h2, fun j u hu => ?_, h4⟩
        have hc := h3 j u hu
        have hlt := World.block_lt_of_cell? _ _ hc
        have hb4 := B3.out.block (ad.add j).block (by rw [addBlock]; rw [addBlock] at hlt; exact hlt)
        exact (World.cell?_of_block ((hb.block _ (by show (ad.add j).block < W3.heap.size; omega) (by show (ad.add j).block ≠ q; omega)).trans hb4)).trans hc
    refine wp_append_any w' _ _ 25 rfl W3.heap.size 45 i0 _ 11 160 Tryd.underlying25 hi hz0 hz1' hz2' rfl (by decide) (val 3) 0 [] ((evG _ _).trans e0) hs2 (.slice r1 r.body.length s1) r.body.length xs ((evG _ _).trans e1) hsp (by unfold maxLen; omega) (by omega) hb.size fun v' w3 hown hg hat => ?_
    rw [Nat.zero_add, List.nil_append] at hown
    refine hK _ _ (hb.grown hg (fun b h => .inl (hs2.lt b h).1)) (factV_mk rfl trivial) ⟨(hg.block q (heap_lt hs1) (fun e => by have := (hs2.lt q e.symm).1; have := heap_lt Q3.out; omega)).trans hs1, by rw [updV_same]; exact hown⟩
  case s8 =>
    intro A w' val K hb hfar hd hs hK
    have e0 : A.tmps[54]?.getD undef = .pointer (some ⟨q, 2, none⟩) := (hd 7 54 rfl (by kernel_rfl)).1 _ rfl
    have e1 := (hd 6 53 rfl (by kernel_rfl)).2
    obtain ⟨hs1, hs2⟩ := hs
    obtain ⟨ob, kb, eb⟩ := own_shape hs2
    rw [eb] at e1
    have c2 : w'.cell? ⟨q, 2, none⟩ = some (.slice r1 r.body.length s1) := row_cells hs1 2
    have f2 := row_frozen hs1 2
    have hl := heap_lt hs1
    unfold Oper.wp
    simp [execOp, e0, e1, c2, f2, hl, go_sem, Result.andThen]
    exact hK undef _ (hb.grown (setCell_grown _ _ _ _) (fun b h => by cases h; exact .inr rfl)) (fun p hp => by cases hp) ⟨by rw [updV_other _ _ (by decide), eb]; exact box_set hs1 _, by rw [updV_other _ _ (by decide)]; exact ownsRow_setCell_other hs2 (fun e => by have := (hs2.lt q e).1; have := heap_lt Q3.out; omega) _⟩
  case fin =>
    intro val w4 hF hb hs
    obtain ⟨hs1, hs2⟩ := hs
    obtain ⟨g, cap, eg⟩ : ∃ g cap, val 6 = .slice (some ⟨g, 0, none⟩) r.body.length cap := by
      rcases hs2.2 with ⟨_, h0⟩ | ⟨g, cap, cur, hv, _⟩
      · omega
      · exact ⟨g, cap, hv⟩
    rw [eg] at hs1 hs2
    have hgq : q < g := by have := (own_at hs2).2.2.2; omega
    have N4 := (hb.block _ (heap_lt N3.out) (by omega)).trans N3.out
    have B4 : Below w.heap.size w w4 := B3.out.trans ⟨hb.os, hb.tape, hb.output, hb.size, fun i hi => hb.block i (Nat.lt_trans hi (heap_lt N3.out)) (by omega)⟩
    obtain ⟨ra, rfl⟩ : ∃ ra, r1 = some ra := by
      rcases HBd.out with ⟨h, h2⟩ | ⟨a, cap, h, _⟩
      · rw [h2] at hi1; simp at hi1
      · cases h; exact ⟨a, rfl⟩
    obtain ⟨xm, hxm⟩ : ∃ x, r.body[m]? = some x := ⟨r.body[m]'(by omega), List.getElem?_eq_getElem (by omega)⟩
    obtain ⟨xn, hxn⟩ : ∃ x, r.body[n]? = some x := ⟨r.body[n]'(by omega), List.getElem?_eq_getElem (by omega)⟩
    have elemAt : ∀ (k : Nat) (x : Lt), r.body[k]? = some x → ∃ o0 k0 o1 k1 o2 k2, LtC w w.heap.size x [.int .i64 x.op, .string x.a.rel, .slice o0 x.a.l.length k0, .int .i64 x.x.op, .string x.x.s, .int .i64 x.x.n, .slice o1 x.x.l.length k1, .int .i64 x.y.op, .string x.y.s, .int .i64 x.y.n, .slice o2 x.y.l.length k2] ∧ ra.block < w.heap.size ∧ CellsAt w ra (k * 11) [.int .i64 x.op, .string x.a.rel, .slice o0 x.a.l.length k0, .int .i64 x.x.op, .string x.x.s, .int .i64 x.x.n, .slice o1 x.x.l.length k1, .int .i64 x.y.op, .string x.y.s, .int .i64 x.y.n, .slice o2 x.y.l.length k2] := by
      intro k x hx
      rcases HBd.out with ⟨h, h2⟩ | ⟨a, cap, h, _, _, h3, h4⟩
      · cases h
      · cases h
        obtain ⟨cs, c1, c2, c3⟩ := h4 k x hx
        obtain ⟨o0, k0, o1, k1, o2, k2, e, _⟩ := c2.look
        subst e
        exact ⟨o0, k0, o1, k1, o2, k2, c2, h3 (by rintro h; rw [h] at hx; simp at hx), c3⟩
    obtain ⟨mo0, mk0, mo1, mk1, mo2, mk2, lm2, lm3, lm4⟩ := elemAt m xm hxm
    obtain ⟨no0, nk0, no1, nk1, no2, nk2, ln2, ln3, ln4⟩ := elemAt n xn hxn
    have hm0 : (0 : Int) ≤ (m : Int) := by omega
    have hn0 : (0 : Int) ≤ (n : Int) := by omega
    have hm1 : (m : Int) < (r.body.length : Int) := by omega
    have hn1 : (n : Int) < (r.body.length : Int) := by omega
    have hgn : w.heap.size < W3.heap.size := by have := heap_lt Q3.out; omega
    have hgg : W3.heap.size ≤ g := (own_at hs2).2.2.2
    have Nq := Lib.hid hs1
    have Nn := Lib.hid N4
    have HCn := Lib.hid (fun (w' : World) (hb' : Kp (fun b => b = g) w4.drew w') => (fun j c hj => (World.cell?_of_block ((hb'.block _ (by show (ra.add (n * 11 + j)).block < w4.heap.size; rw [addBlock]; have := B4.size; omega) (by show ¬ (ra.add (n * 11 + j)).block = g; rw [addBlock]; omega)).trans (B4.block _ (by rw [addBlock]; exact ln3)))).trans (ln4 j c hj) : CellsAt w' ra (n * 11) [.int .i64 xn.op, .string xn.a.rel, .slice no0 xn.a.l.length nk0, .int .i64 xn.x.op, .string xn.x.s, .int .i64 xn.x.n, .slice no1 xn.x.l.length nk1, .int .i64 xn.y.op, .string xn.y.s, .int .i64 xn.y.n, .slice no2 xn.y.l.length nk2]))
    have Hown := Lib.hid hs2
    have B4' := Lib.hid B4
    simp only [slots5, putsA, Nat.zero_add, Nat.reduceAdd, eg]
    clear hF hb hs1 hs2 N4 B4 eg
    go_simp
    go_wp2_with fail
    go_simp
    refine wp_region_any (by kernel_rfl) ?_
    (try (change wpAny _ _ _ _ _ _ _ (World.drew _)))
    refine wpAny_chain slots6 [9] _ _ (facts6 w.heap.size q (.slice (some ⟨g, 0, none⟩) r.body.length cap) (.slice (some ra) r.body.length s1) m n (ra.add (n * 11)) ⟨g, m * 11, none⟩ #[.int .i64 xn.op, .string xn.a.rel, .slice no0 xn.a.l.length nk0, .int .i64 xn.x.op, .string xn.x.s, .int .i64 xn.x.n, .slice no1 xn.x.l.length nk1, .int .i64 xn.y.op, .string xn.y.s, .int .i64 xn.y.n, .slice no2 xn.y.l.length nk2]) (state6 W3.heap.size (.slice (some ⟨g, 0, none⟩) r.body.length cap) r.body.length xs (putAt xs (m * 11) [.int .i64 xn.op, .string xn.a.rel, .slice no0 xn.a.l.length nk0, .int .i64 xn.x.op, .string xn.x.s, .int .i64 xn.x.n, .slice no1 xn.x.l.length nk1, .int .i64 xn.y.op, .string xn.y.s, .int .i64 xn.y.n, .slice no2 xn.y.l.length nk2])) (fun b => b = g)
      (by kernel_rfl) (by kernel_rfl) (by kernel_rfl) (by kernel_rfl) (by kernel_rfl) (by decide) (by decide) ?indep6 Hown.out
      ⟨.p rfl ?t0, .p rfl ?t1, .p rfl ?t2, .p rfl ?t3, .p rfl ?t4, .p rfl ?t5, .p rfl ?t6, .p rfl ?t7, .p rfl ?t8, .c 0 rfl rfl ?t9, trivial⟩ ?fin6
    case indep6 =>
      intro k val val' w' h hs
      match k, hs with
      | 0, hs => exact hs
      | k + 1, hs => exact hs
    case t0 =>
      intro A w' K hb hfar hd hK
      have e1 : A.tmps[10]?.getD undef = .pointer (some ⟨q, 0, none⟩) := hfar 10 (by decide)
      unfold Oper.wp
      simp [execOp, e1, go_sem, Result.andThen]
      exact hK _ (factV_mk rfl rfl)
    case t1 =>
      intro A w' K hb hfar hd hK
      have e1 : A.tmps[55]?.getD undef = .pointer (some ⟨q, 2, none⟩) := hd 0 55 rfl (by kernel_rfl) _ rfl
      have c2 : w'.cell? ⟨q, 2, none⟩ = some (.slice (some ⟨g, 0, none⟩) r.body.length cap) := row_cells ((hb.block _ (heap_lt Nq.out) (by omega)).trans Nq.out) 2
      unfold Oper.wp
      simp [execOp, e1, c2, go_sem, Result.andThen]
      exact hK _ (factV_mk rfl rfl)
    case t2 =>
      intro A w' K hb hfar hd hK
      have e1 : A.tmps[2]?.getD undef = .int .i64 (m : Int) := hfar 2 (by decide)
      unfold Oper.wp
      simp [execOp, e1, go_sem, Result.andThen]
      exact hK _ (factV_mk rfl rfl)
    case t3 =>
      intro A w' K hb hfar hd hK
      have e1 : A.tmps[5]?.getD undef = .pointer (some ⟨w.heap.size, 0, none⟩) := hfar 5 (by decide)
      unfold Oper.wp
      simp [execOp, e1, go_sem, Result.andThen]
      exact hK _ (factV_mk rfl rfl)
    case t4 =>
      intro A w' K hb hfar hd hK
      have e1 : A.tmps[58]?.getD undef = .pointer (some ⟨w.heap.size, 2, none⟩) := hd 3 58 rfl (by kernel_rfl) _ rfl
      have c2 : w'.cell? ⟨w.heap.size, 2, none⟩ = some (.slice (some ra) r.body.length s1) := row_cells ((hb.block _ (heap_lt Nn.out) (by omega)).trans Nn.out) 2
      unfold Oper.wp
      simp [execOp, e1, c2, go_sem, Result.andThen]
      exact hK _ (factV_mk rfl rfl)
    case t5 =>
      intro A w' K hb hfar hd hK
      have e1 : A.tmps[3]?.getD undef = .int .i64 (n : Int) := hfar 3 (by decide)
      unfold Oper.wp
      simp [execOp, e1, go_sem, Result.andThen]
      exact hK _ (factV_mk rfl rfl)
    case t6 =>
      intro A w' K hb hfar hd hK
      have e1 : A.tmps[59]?.getD undef = .slice (some ra) r.body.length s1 := hd 4 59 rfl (by kernel_rfl) _ rfl
      have e2 : A.tmps[60]?.getD undef = .int .i64 (n : Int) := hd 5 60 rfl (by kernel_rfl) _ rfl
      unfold Oper.wp
      simp [execOp, e1, e2, hn0, hn1, go_sem, Result.andThen]
      exact hK _ (factV_mk rfl rfl)
    case t7 =>
      intro A w' K hb hfar hd hK
      have e1 : A.tmps[61]?.getD undef = .pointer (some (ra.add (n * 11))) := hd 6 61 rfl (by kernel_rfl) _ rfl
      have hcs : CellsAt w' ra (n * 11) [.int .i64 xn.op, .string xn.a.rel, .slice no0 xn.a.l.length nk0, .int .i64 xn.x.op, .string xn.x.s, .int .i64 xn.x.n, .slice no1 xn.x.l.length nk1, .int .i64 xn.y.op, .string xn.y.s, .int .i64 xn.y.n, .slice no2 xn.y.l.length nk2] := HCn.out w' hb
      obtain ⟨c0, c1, c2, c3, c4, c5, c6, c7, c8, c9, c10⟩ := hcs.n11
      unfold Oper.wp
      simp [execOp, e1, c0, c1, c2, c3, c4, c5, c6, c7, c8, c9, c10, go_sem, Result.andThen]
      exact hK _ (factV_mk rfl rfl)
    case t8 =>
      intro A w' K hb hfar hd hK
      have e1 : A.tmps[56]?.getD undef = .slice (some ⟨g, 0, none⟩) r.body.length cap := hd 1 56 rfl (by kernel_rfl) _ rfl
      have e2 : A.tmps[57]?.getD undef = .int .i64 (m : Int) := hd 2 57 rfl (by kernel_rfl) _ rfl
      unfold Oper.wp
      simp [execOp, e1, e2, hm0, hm1, go_sem, Result.andThen]
      exact hK _ (factV_mk rfl rfl)
    case t9 =>
      intro A w' val K hb hfar hd hs hK
      have e1 : A.tmps[63]?.getD undef = .pointer (some ⟨g, m * 11, none⟩) := (hd 8 63 rfl (by kernel_rfl)).1 _ rfl
      have e2 : A.tmps[62]?.getD undef = .agg #[.int .i64 xn.op, .string xn.a.rel, .slice no0 xn.a.l.length nk0, .int .i64 xn.x.op, .string xn.x.s, .int .i64 xn.x.n, .slice no1 xn.x.l.length nk1, .int .i64 xn.y.op, .string xn.y.s, .int .i64 xn.y.n, .slice no2 xn.y.l.length nk2] := (hd 7 62 rfl (by kernel_rfl)).1 _ rfl
      have hc0 : ∀ t, t < 11 → ∃ u, w'.cell? ⟨g, m * 11 + t, none⟩ = some u := fun t ht => ⟨_, (own_at hs).1 (m * 11 + t) _ (List.getElem?_eq_getElem (by have := hs.1; omega))⟩
      obtain ⟨u0, k0⟩ := hc0 0 (by omega)
      obtain ⟨u1, k1⟩ := hc0 1 (by omega)
      obtain ⟨u2, k2⟩ := hc0 2 (by omega)
      obtain ⟨u3, k3⟩ := hc0 3 (by omega)
      obtain ⟨u4, k4⟩ := hc0 4 (by omega)
      obtain ⟨u5, k5⟩ := hc0 5 (by omega)
      obtain ⟨u6, k6⟩ := hc0 6 (by omega)
      obtain ⟨u7, k7⟩ := hc0 7 (by omega)
      obtain ⟨u8, k8⟩ := hc0 8 (by omega)
      obtain ⟨u9, k9⟩ := hc0 9 (by omega)
      obtain ⟨u10, k10⟩ := hc0 10 (by omega)
      have f0 := (own_at hs).2.1 (m * 11)
      have f1 := (own_at hs).2.1 (m * 11 + 1)
      have f2 := (own_at hs).2.1 (m * 11 + 2)
      have f3 := (own_at hs).2.1 (m * 11 + 3)
      have f4 := (own_at hs).2.1 (m * 11 + 4)
      have f5 := (own_at hs).2.1 (m * 11 + 5)
      have f6 := (own_at hs).2.1 (m * 11 + 6)
      have f7 := (own_at hs).2.1 (m * 11 + 7)
      have f8 := (own_at hs).2.1 (m * 11 + 8)
      have f9 := (own_at hs).2.1 (m * 11 + 9)
      have f10 := (own_at hs).2.1 (m * 11 + 10)
      rw [Nat.add_zero] at k0
      have hgl := (own_at hs).2.2.1
      unfold Oper.wp
      simp [execOp, e1, e2, k0, f0, k1, f1, k2, f2, k3, f3, k4, f4, k5, f5, k6, f6, k7, f7, k8, f8, k9, f9, k10, f10, hgl, go_sem, Result.andThen]
      have hput := own_put hs (k := m * 11) (news := [.int .i64 xn.op, .string xn.a.rel, .slice no0 xn.a.l.length nk0, .int .i64 xn.x.op, .string xn.x.s, .int .i64 xn.x.n, .slice no1 xn.x.l.length nk1, .int .i64 xn.y.op, .string xn.y.s, .int .i64 xn.y.n, .slice no2 xn.y.l.length nk2]) (by have := hs.1; simp only [List.length_cons, List.length_nil]; omega)
      have hgr := (setC_grown (b := g) [.int .i64 xn.op, .string xn.a.rel, .slice no0 xn.a.l.length nk0, .int .i64 xn.x.op, .string xn.x.s, .int .i64 xn.x.n, .slice no1 xn.x.l.length nk1, .int .i64 xn.y.op, .string xn.y.s, .int .i64 xn.y.n, .slice no2 xn.y.l.length nk2] (m * 11) w').1
      simp only [setC, Nat.add_assoc, Nat.reduceAdd] at hput hgr
      exact hK undef _ (hb.grown hgr (fun b h => by cases h; exact .inr rfl)) (fun p hp => by cases hp) hput
    case fin6 =>
      intro val2 w5 hF hb hs
      have hs' : w5.ownsRow W3.heap.size 45 11 (.slice (some ⟨g, 0, none⟩) r.body.length cap) r.body.length (putAt xs (m * 11) [.int .i64 xn.op, .string xn.a.rel, .slice no0 xn.a.l.length nk0, .int .i64 xn.x.op, .string xn.x.s, .int .i64 xn.x.n, .slice no1 xn.x.l.length nk1, .int .i64 xn.y.op, .string xn.y.s, .int .i64 xn.y.n, .slice no2 xn.y.l.length nk2]) := hs
      have Nq5 := Lib.hid ((hb.block _ (heap_lt Nq.out) (by omega)).trans Nq.out)
      have Nn5 := Lib.hid ((hb.block _ (heap_lt Nn.out) (by omega)).trans Nn.out)
      have B5 := Lib.hid (B4'.out.trans (⟨hb.os, hb.tape, hb.output, hb.size, fun i hi => hb.block i (Nat.lt_of_lt_of_le hi B4'.out.size) (by omega)⟩ : Below w.heap.size w4 w5))
      have HCm := Lib.hid (fun (w' : World) (hb' : Kp (fun b => b = g) w5.drew w') => (fun j c hj => (World.cell?_of_block ((hb'.block _ (by show (ra.add (m * 11 + j)).block < w5.heap.size; rw [addBlock]; have := B5.out.size; omega) (by show ¬ (ra.add (m * 11 + j)).block = g; rw [addBlock]; omega)).trans (B5.out.block _ (by rw [addBlock]; exact lm3)))).trans (lm4 j c hj) : CellsAt w' ra (m * 11) [.int .i64 xm.op, .string xm.a.rel, .slice mo0 xm.a.l.length mk0, .int .i64 xm.x.op, .string xm.x.s, .int .i64 xm.x.n, .slice mo1 xm.x.l.length mk1, .int .i64 xm.y.op, .string xm.y.s, .int .i64 xm.y.n, .slice mo2 xm.y.l.length mk2]))
      have Hown5 := Lib.hid hs'
      simp only [slots6, putsA, Nat.zero_add, Nat.reduceAdd]
      clear hF hb hs hs' Hown Nq Nn HCn
      go_simp
      go_wp2_with fail
      go_simp
      refine wp_region_any (by kernel_rfl) ?_
      (try (change wpAny _ _ _ _ _ _ _ (World.drew _)))
      refine wpAny_chain slots7 [9] _ _ (facts6 w.heap.size q (.slice (some ⟨g, 0, none⟩) r.body.length cap) (.slice (some ra) r.body.length s1) n m (ra.add (m * 11)) ⟨g, n * 11, none⟩ #[.int .i64 xm.op, .string xm.a.rel, .slice mo0 xm.a.l.length mk0, .int .i64 xm.x.op, .string xm.x.s, .int .i64 xm.x.n, .slice mo1 xm.x.l.length mk1, .int .i64 xm.y.op, .string xm.y.s, .int .i64 xm.y.n, .slice mo2 xm.y.l.length mk2]) (state6 W3.heap.size (.slice (some ⟨g, 0, none⟩) r.body.length cap) r.body.length (putAt xs (m * 11) [.int .i64 xn.op, .string xn.a.rel, .slice no0 xn.a.l.length nk0, .int .i64 xn.x.op, .string xn.x.s, .int .i64 xn.x.n, .slice no1 xn.x.l.length nk1, .int .i64 xn.y.op, .string xn.y.s, .int .i64 xn.y.n, .slice no2 xn.y.l.length nk2]) (putAt (putAt xs (m * 11) [.int .i64 xn.op, .string xn.a.rel, .slice no0 xn.a.l.length nk0, .int .i64 xn.x.op, .string xn.x.s, .int .i64 xn.x.n, .slice no1 xn.x.l.length nk1, .int .i64 xn.y.op, .string xn.y.s, .int .i64 xn.y.n, .slice no2 xn.y.l.length nk2]) (n * 11) [.int .i64 xm.op, .string xm.a.rel, .slice mo0 xm.a.l.length mk0, .int .i64 xm.x.op, .string xm.x.s, .int .i64 xm.x.n, .slice mo1 xm.x.l.length mk1, .int .i64 xm.y.op, .string xm.y.s, .int .i64 xm.y.n, .slice mo2 xm.y.l.length mk2])) (fun b => b = g)
        (by kernel_rfl) (by kernel_rfl) (by kernel_rfl) (by kernel_rfl) (by kernel_rfl) (by decide) (by decide) ?indep7 Hown5.out
        ⟨.p rfl ?y0, .p rfl ?y1, .p rfl ?y2, .p rfl ?y3, .p rfl ?y4, .p rfl ?y5, .p rfl ?y6, .p rfl ?y7, .p rfl ?y8, .c 0 rfl rfl ?y9, trivial⟩ ?fin7
      case indep7 =>
        intro k val val' w' h hs
        match k, hs with
        | 0, hs => exact hs
        | k + 1, hs => exact hs
      case y0 =>
        intro A w' K hb hfar hd hK
        have e1 : A.tmps[10]?.getD undef = .pointer (some ⟨q, 0, none⟩) := hfar 10 (by decide)
        unfold Oper.wp
        simp [execOp, e1, go_sem, Result.andThen]
        exact hK _ (factV_mk rfl rfl)
      case y1 =>
        intro A w' K hb hfar hd hK
        have e1 : A.tmps[64]?.getD undef = .pointer (some ⟨q, 2, none⟩) := hd 0 64 rfl (by kernel_rfl) _ rfl
        have c2 : w'.cell? ⟨q, 2, none⟩ = some (.slice (some ⟨g, 0, none⟩) r.body.length cap) := row_cells ((hb.block _ (heap_lt Nq5.out) (by omega)).trans Nq5.out) 2
        unfold Oper.wp
        simp [execOp, e1, c2, go_sem, Result.andThen]
        exact hK _ (factV_mk rfl rfl)
      case y2 =>
        intro A w' K hb hfar hd hK
        have e1 : A.tmps[3]?.getD undef = .int .i64 (n : Int) := hfar 3 (by decide)
        unfold Oper.wp
        simp [execOp, e1, go_sem, Result.andThen]
        exact hK _ (factV_mk rfl rfl)
      case y3 =>
        intro A w' K hb hfar hd hK
        have e1 : A.tmps[5]?.getD undef = .pointer (some ⟨w.heap.size, 0, none⟩) := hfar 5 (by decide)
        unfold Oper.wp
        simp [execOp, e1, go_sem, Result.andThen]
        exact hK _ (factV_mk rfl rfl)
      case y4 =>
        intro A w' K hb hfar hd hK
        have e1 : A.tmps[67]?.getD undef = .pointer (some ⟨w.heap.size, 2, none⟩) := hd 3 67 rfl (by kernel_rfl) _ rfl
        have c2 : w'.cell? ⟨w.heap.size, 2, none⟩ = some (.slice (some ra) r.body.length s1) := row_cells ((hb.block _ (heap_lt Nn5.out) (by omega)).trans Nn5.out) 2
        unfold Oper.wp
        simp [execOp, e1, c2, go_sem, Result.andThen]
        exact hK _ (factV_mk rfl rfl)
      case y5 =>
        intro A w' K hb hfar hd hK
        have e1 : A.tmps[2]?.getD undef = .int .i64 (m : Int) := hfar 2 (by decide)
        unfold Oper.wp
        simp [execOp, e1, go_sem, Result.andThen]
        exact hK _ (factV_mk rfl rfl)
      case y6 =>
        intro A w' K hb hfar hd hK
        have e1 : A.tmps[68]?.getD undef = .slice (some ra) r.body.length s1 := hd 4 68 rfl (by kernel_rfl) _ rfl
        have e2 : A.tmps[69]?.getD undef = .int .i64 (m : Int) := hd 5 69 rfl (by kernel_rfl) _ rfl
        unfold Oper.wp
        simp [execOp, e1, e2, hm0, hm1, go_sem, Result.andThen]
        exact hK _ (factV_mk rfl rfl)
      case y7 =>
        intro A w' K hb hfar hd hK
        have e1 : A.tmps[70]?.getD undef = .pointer (some (ra.add (m * 11))) := hd 6 70 rfl (by kernel_rfl) _ rfl
        have hcs : CellsAt w' ra (m * 11) [.int .i64 xm.op, .string xm.a.rel, .slice mo0 xm.a.l.length mk0, .int .i64 xm.x.op, .string xm.x.s, .int .i64 xm.x.n, .slice mo1 xm.x.l.length mk1, .int .i64 xm.y.op, .string xm.y.s, .int .i64 xm.y.n, .slice mo2 xm.y.l.length mk2] := HCm.out w' hb
        obtain ⟨c0, c1, c2, c3, c4, c5, c6, c7, c8, c9, c10⟩ := hcs.n11
        unfold Oper.wp
        simp [execOp, e1, c0, c1, c2, c3, c4, c5, c6, c7, c8, c9, c10, go_sem, Result.andThen]
        exact hK _ (factV_mk rfl rfl)
      case y8 =>
        intro A w' K hb hfar hd hK
        have e1 : A.tmps[65]?.getD undef = .slice (some ⟨g, 0, none⟩) r.body.length cap := hd 1 65 rfl (by kernel_rfl) _ rfl
        have e2 : A.tmps[66]?.getD undef = .int .i64 (n : Int) := hd 2 66 rfl (by kernel_rfl) _ rfl
        unfold Oper.wp
        simp [execOp, e1, e2, hn0, hn1, go_sem, Result.andThen]
        exact hK _ (factV_mk rfl rfl)
      case y9 =>
        intro A w' val K hb hfar hd hs hK
        have e1 : A.tmps[72]?.getD undef = .pointer (some ⟨g, n * 11, none⟩) := (hd 8 72 rfl (by kernel_rfl)).1 _ rfl
        have e2 : A.tmps[71]?.getD undef = .agg #[.int .i64 xm.op, .string xm.a.rel, .slice mo0 xm.a.l.length mk0, .int .i64 xm.x.op, .string xm.x.s, .int .i64 xm.x.n, .slice mo1 xm.x.l.length mk1, .int .i64 xm.y.op, .string xm.y.s, .int .i64 xm.y.n, .slice mo2 xm.y.l.length mk2] := (hd 7 71 rfl (by kernel_rfl)).1 _ rfl
        have hc0 : ∀ t, t < 11 → ∃ u, w'.cell? ⟨g, n * 11 + t, none⟩ = some u := fun t ht => ⟨_, (own_at hs).1 (n * 11 + t) _ (List.getElem?_eq_getElem (by have := hs.1; omega))⟩
        obtain ⟨u0, k0⟩ := hc0 0 (by omega)
        obtain ⟨u1, k1⟩ := hc0 1 (by omega)
        obtain ⟨u2, k2⟩ := hc0 2 (by omega)
        obtain ⟨u3, k3⟩ := hc0 3 (by omega)
        obtain ⟨u4, k4⟩ := hc0 4 (by omega)
        obtain ⟨u5, k5⟩ := hc0 5 (by omega)
        obtain ⟨u6, k6⟩ := hc0 6 (by omega)
        obtain ⟨u7, k7⟩ := hc0 7 (by omega)
        obtain ⟨u8, k8⟩ := hc0 8 (by omega)
        obtain ⟨u9, k9⟩ := hc0 9 (by omega)
        obtain ⟨u10, k10⟩ := hc0 10 (by omega)
        have f0 := (own_at hs).2.1 (n * 11)
        have f1 := (own_at hs).2.1 (n * 11 + 1)
        have f2 := (own_at hs).2.1 (n * 11 + 2)
        have f3 := (own_at hs).2.1 (n * 11 + 3)
        have f4 := (own_at hs).2.1 (n * 11 + 4)
        have f5 := (own_at hs).2.1 (n * 11 + 5)
        have f6 := (own_at hs).2.1 (n * 11 + 6)
        have f7 := (own_at hs).2.1 (n * 11 + 7)
        have f8 := (own_at hs).2.1 (n * 11 + 8)
        have f9 := (own_at hs).2.1 (n * 11 + 9)
        have f10 := (own_at hs).2.1 (n * 11 + 10)
        rw [Nat.add_zero] at k0
        have hgl := (own_at hs).2.2.1
        unfold Oper.wp
        simp [execOp, e1, e2, k0, f0, k1, f1, k2, f2, k3, f3, k4, f4, k5, f5, k6, f6, k7, f7, k8, f8, k9, f9, k10, f10, hgl, go_sem, Result.andThen]
        have hput := own_put hs (k := n * 11) (news := [.int .i64 xm.op, .string xm.a.rel, .slice mo0 xm.a.l.length mk0, .int .i64 xm.x.op, .string xm.x.s, .int .i64 xm.x.n, .slice mo1 xm.x.l.length mk1, .int .i64 xm.y.op, .string xm.y.s, .int .i64 xm.y.n, .slice mo2 xm.y.l.length mk2]) (by have := hs.1; simp only [List.length_cons, List.length_nil]; omega)
        have hgr := (setC_grown (b := g) [.int .i64 xm.op, .string xm.a.rel, .slice mo0 xm.a.l.length mk0, .int .i64 xm.x.op, .string xm.x.s, .int .i64 xm.x.n, .slice mo1 xm.x.l.length mk1, .int .i64 xm.y.op, .string xm.y.s, .int .i64 xm.y.n, .slice mo2 xm.y.l.length mk2] (n * 11) w').1
        simp only [setC, Nat.add_assoc, Nat.reduceAdd] at hput hgr
        exact hK undef _ (hb.grown hgr (fun b h => by cases h; exact .inr rfl)) (fun p hp => by cases hp) hput
      case fin7 =>
        intro val3 w6 hF hb hs
        have hs' : w6.ownsRow W3.heap.size 45 11 (.slice (some ⟨g, 0, none⟩) r.body.length cap) r.body.length (putAt (putAt xs (m * 11) [.int .i64 xn.op, .string xn.a.rel, .slice no0 xn.a.l.length nk0, .int .i64 xn.x.op, .string xn.x.s, .int .i64 xn.x.n, .slice no1 xn.x.l.length nk1, .int .i64 xn.y.op, .string xn.y.s, .int .i64 xn.y.n, .slice no2 xn.y.l.length nk2]) (n * 11) [.int .i64 xm.op, .string xm.a.rel, .slice mo0 xm.a.l.length mk0, .int .i64 xm.x.op, .string xm.x.s, .int .i64 xm.x.n, .slice mo1 xm.x.l.length mk1, .int .i64 xm.y.op, .string xm.y.s, .int .i64 xm.y.n, .slice mo2 xm.y.l.length mk2]) := hs
        have rq := (hb.block _ (heap_lt Nq5.out) (by omega)).trans Nq5.out
        have rn := (hb.block _ (heap_lt Nn5.out) (by omega)).trans Nn5.out
        have B6 : Below w.heap.size w w6 := B5.out.trans (⟨hb.os, hb.tape, hb.output, hb.size, fun i hi => hb.block i (Nat.lt_of_lt_of_le hi B5.out.size) (by omega)⟩ : Below w.heap.size w5 w6)
        have HLs : Laid 11 (LtC w6 w6.heap.size) ((r.body.set m xn).set n xm) (putAt (putAt xs (m * 11) [.int .i64 xn.op, .string xn.a.rel, .slice no0 xn.a.l.length nk0, .int .i64 xn.x.op, .string xn.x.s, .int .i64 xn.x.n, .slice no1 xn.x.l.length nk1, .int .i64 xn.y.op, .string xn.y.s, .int .i64 xn.y.n, .slice no2 xn.y.l.length nk2]) (n * 11) [.int .i64 xm.op, .string xm.a.rel, .slice mo0 xm.a.l.length mk0, .int .i64 xm.x.op, .string xm.x.s, .int .i64 xm.x.n, .slice mo1 xm.x.l.length mk1, .int .i64 xm.y.op, .string xm.y.s, .int .i64 xm.y.n, .slice mo2 xm.y.l.length mk2]) :=
          ((HL.out.set (by omega) rfl ln2).set (by rw [List.length_set]; omega) rfl lm2).mono fun x cs h => (h.below B6).more B6.size
        have HSl : SlOf w6 w6.heap.size 11 (LtC w6 w6.heap.size) ((r.body.set m xn).set n xm) (.slice (some ⟨g, 0, none⟩) r.body.length cap) := sl_own0 (by rw [List.length_set, List.length_set]; exact hs') HLs
        simp only [slots7, putsA, Nat.zero_add, Nat.reduceAdd]
        clear hF hb hs hs' HLs Hown5 Nq5 Nn5 HCm lm2 lm3 lm4 ln2 ln3 ln4
        go_simp
        have z6 : w.heap.size < w6.heap.size := heap_lt rn
        have zq6 : q < w6.heap.size := heap_lt rq
        obtain ⟨r', hr'⟩ : ∃ r' : Ru, (⟨r.head, (r.body.set m xn).set n xm, r.line⟩ : Ru) = r' := ⟨_, rfl⟩
        have hmem : ∀ x, x ∈ r'.body ↔ x ∈ r.body := fun x => by rw [← hr']; exact swap_mem hxm hxn x
        have hhead : r'.head = r.head := by rw [← hr']
        have hblen : r'.body.length = r.body.length := by rw [← hr']; show ((r.body.set m xn).set n xm).length = _; rw [List.length_set, List.length_set]
        have htl : (termsR r').length = (termsR r).length := by rw [← hr']; exact terms_swap hxm hxn
        have HRU : RuC w6 w6.heap.size r' [.string r.head.rel, .slice p1 r.head.l.length q1, .slice (some ⟨g, 0, none⟩) r.body.length cap, .int .i64 r.line] := by
          obtain ⟨_, _, _, _, e, hI, hA, _⟩ := HR.out.look
          cases e
          rw [← hr']
          exact ⟨_, _, rfl, hI, (hA.below B6).more B6.size, HSl⟩
        obtain ⟨hsub, hsub'⟩ := sub_moved hhead hmem
        obtain ⟨hrr, hrp⟩ := right_moved (ds := ds) hhead hblen hmem
        have HE6 := HE.out.below B6
        have hfew : (termsR r).length ≤ 1000000 := Nat.le_trans HT.out.1 (by decide)
        have hfew' : (termsR r').length ≤ 1000000 := by rw [htl]; exact hfew
        have hsz : ∀ t ∈ termsR r, t.s.size ≤ 1000000 := fun t ht => Nat.le_trans (HT.out.2 t ht) (by decide)
        have hsz' : ∀ t ∈ termsR r', t.s.size ≤ 1000000 := fun t ht => hsz t (hsub.terms t ht)
        have HT1 := Lib.hid (types_c ds _ r _ e a b c d w6 (SlOf.decl HD.out B6 B6.size) ((HR.out.below B6).more B6.size) hfew hsz HE6)
        have HT2 := Lib.hid (fun (W : World) (hb : Below w6.heap.size w6 W) => types_c ds _ r' _ e a b c d W (SlOf.decl HD.out (B6.trans (hb.mono B6.size)) (Nat.le_trans B6.size hb.size)) ((HRU.below hb).more hb.size) hfew' hsz' (HE6.below hb))
        have HV1 := Lib.hid (fun (W : World) (hb : Below w6.heap.size w6 W) => vars_c r _ e W ((HR.out.below (B6.trans (hb.mono B6.size))).more (Nat.le_trans B6.size hb.size)) hfew hsz (HE6.below hb).tr)
        have HV2 := Lib.hid (fun (W : World) (hb : Below w6.heap.size w6 W) => vars_c r' _ e W ((HRU.below hb).more hb.size) hfew' hsz' (HE6.below hb).tr)
        have Hsub := Lib.hid hsub
        have Hsub' := Lib.hid hsub'
        have Hrr := Lib.hid hrr
        have Hrp := Lib.hid hrp
        have HB6 := Lib.hid B6
        have Rq := Lib.hid rq
        have Rn := Lib.hid rn
        have c0 : w6.cell? ⟨w.heap.size, 0, none⟩ = some (.string r.head.rel) := row_cells rn 0
        have c1 : w6.cell? ⟨w.heap.size, 1, none⟩ = some (.slice p1 r.head.l.length q1) := row_cells rn 1
        have c2 : w6.cell? ⟨w.heap.size, 2, none⟩ = some (.slice (some ra) r.body.length s1) := row_cells rn 2
        have c3 : w6.cell? ⟨w.heap.size, 3, none⟩ = some (.int .i64 r.line) := row_cells rn 3
        clear hmem hhead hblen htl HRU hsub hsub' hrr hrp HE6 hfew hfew' hsz hsz' B6 rq rn HSl hr'
        go_wp2_with fail
        refine HT1.out.mono ?_
        rintro e7 w7 ⟨v7, l7, ke, rfl, hA7, hS7, b7⟩
        have rq7 := (b7.block _ zq6).trans Rq.out
        have d0 : w7.cell? ⟨q, 0, none⟩ = some (.string r.head.rel) := row_cells rq7 0
        have d1 : w7.cell? ⟨q, 1, none⟩ = some (.slice p1 r.head.l.length q1) := row_cells rq7 1
        have d2 : w7.cell? ⟨q, 2, none⟩ = some (.slice (some ⟨g, 0, none⟩) r.body.length cap) := row_cells rq7 2
        have d3 : w7.cell? ⟨q, 3, none⟩ = some (.int .i64 r.line) := row_cells rq7 3
        have zq7 : q < w7.heap.size := heap_lt rq7
        have C7 := Lib.hid b7
        have S7 := Lib.hid hS7
        have A7 := Lib.hid hA7
        clear c0 c1 c2 c3 b7 hS7 hA7 rq7
        go_wp2_with fail
        refine (HT2.out _ C7.out).mono ?_
        rintro e8 w8 ⟨v8, l8, kf, rfl, hA8, hS8, b8⟩
        obtain ⟨tm1, tm2⟩ := types_moved Hsub'.out Hsub.out Hrp.out.symm A7.out hA8
        have C8 := Lib.hid (C7.out.trans (b8.mono C7.out.size))
        have S8 := Lib.hid hS8
        have S78 := Lib.hid (SlOf.int S7.out b8 b8.size)
        have A8 := Lib.hid hA8
        have B8 := Lib.hid (HB6.out.trans (C8.out.mono HB6.out.size))
        clear d0 d1 d2 d3 b8 hS8 hA8
        by_cases k51 : ke = 51
        · rcases tm1 (.inl k51) with h | h
          · subst h; subst k51
            go_wp2
            go_ret
            exact ⟨rfl, B8.out⟩
          · subst h; subst k51
            go_wp2
            go_ret
            exact ⟨rfl, B8.out⟩
        by_cases k52 : ke = 52
        · rcases tm1 (.inr k52) with h | h
          · subst h; subst k52
            go_wp2
            go_ret
            exact ⟨rfl, B8.out⟩
          · subst h; subst k52
            go_wp2
            go_ret
            exact ⟨rfl, B8.out⟩
        obtain rfl := tm2 (by omega)
        have k51' : (ke == 51) = false := by simpa using k51
        have k52' : (ke == 52) = false := by simpa using k52
        have rn8 := (C8.out.block _ z6).trans Rn.out
        have c0 : w8.cell? ⟨w.heap.size, 0, none⟩ = some (.string r.head.rel) := row_cells rn8 0
        have c1 : w8.cell? ⟨w.heap.size, 1, none⟩ = some (.slice p1 r.head.l.length q1) := row_cells rn8 1
        have c2 : w8.cell? ⟨w.heap.size, 2, none⟩ = some (.slice (some ra) r.body.length s1) := row_cells rn8 2
        have c3 : w8.cell? ⟨w.heap.size, 3, none⟩ = some (.int .i64 r.line) := row_cells rn8 3
        have z8 : w.heap.size < w8.heap.size := heap_lt rn8
        clear tm1 tm2 rn8
        go_wp2_with fail
        refine (HV1.out _ C8.out).mono ?_
        rintro e9 w9 ⟨v9, rfl, hS9, b9⟩
        have C9 := Lib.hid (C8.out.trans (b9.mono C8.out.size))
        have rq9 := (C9.out.block _ zq6).trans Rq.out
        have d0 : w9.cell? ⟨q, 0, none⟩ = some (.string r.head.rel) := row_cells rq9 0
        have d1 : w9.cell? ⟨q, 1, none⟩ = some (.slice p1 r.head.l.length q1) := row_cells rq9 1
        have d2 : w9.cell? ⟨q, 2, none⟩ = some (.slice (some ⟨g, 0, none⟩) r.body.length cap) := row_cells rq9 2
        have d3 : w9.cell? ⟨q, 3, none⟩ = some (.int .i64 r.line) := row_cells rq9 3
        have zq9 : q < w9.heap.size := heap_lt rq9
        have S9 := Lib.hid hS9
        have T7 := Lib.hid (SlOf.int S78.out b9 b9.size)
        have T8 := Lib.hid (SlOf.int S8.out b9 b9.size)
        clear c0 c1 c2 c3 b9 hS9 rq9 S78 S8
        go_wp2_with fail
        refine (HV2.out _ C9.out).mono ?_
        rintro e10 w10 ⟨v10, rfl, hS10, b10⟩
        have C10 := Lib.hid (C9.out.trans (b10.mono C9.out.size))
        have B10 := Lib.hid (HB6.out.trans (C10.out.mono HB6.out.size))
        have U7 := SlOf.int T7.out b10 b10.size
        have U8 := SlOf.int T8.out b10 b10.size
        have U9 := SlOf.str S9.out b10 b10.size
        have hvl := varsA_len Hrr.out Hsub.out Hsub'.out
        obtain ⟨oa, ka, rfl, _, _, SA⟩ := SlOf.open U7
        obtain ⟨ob, kb, rfl, _, _, SB⟩ := SlOf.open U8
        obtain ⟨ox, kx, rfl, _, _, SX⟩ := SlOf.open U9
        obtain ⟨oy, ky, rfl, _, _, SY⟩ := SlOf.open hS10
        have HU7 := Lib.hid U7
        have HU8 := Lib.hid U8
        have HU9 := Lib.hid U9
        have HU10 := Lib.hid hS10
        clear d0 d1 d2 d3 b10 hS10 U7 U8 U9 T7 T8 S9
        have hxy : (((varsA r).length : Int) != ((varsA r').length : Int)) = false := by simp; omega
        have hA0 : ke = 0 → l7.length = (varsA r).length ∧ l8.length = (varsA r').length := by
          rintro rfl
          rw [varsA_ok A7.out.right, varsA_ok A8.out.right]
          exact ⟨A7.out.len, A8.out.len⟩
        have HA0 := Lib.hid hA0
        clear hA0
        cases hk : (ke == 0) with
        | false =>
          go_wp2_with fail
          go_loopw [17] (fun i wr => i = .int .i64 0 ∧ Below w.heap.size w wr) (fun _ _ => 0)
          case atStart => exact ⟨rfl, B10.out⟩
          case round =>
            obtain ⟨rfl, hB⟩ := hrel
            by_cases hx0 : (0 : Int) < ((varsA r).length : Int)
            · go_wp2
              go_ret
              exact ⟨rfl, hB⟩
            · go_wp2
              go_ret
              exact ⟨rfl, hB⟩
        | true =>
          obtain rfl : ke = 0 := by simpa using hk
          obtain ⟨h1, h2⟩ := HA0.out rfl
          have h1' : ((l7.length : Int) != ((varsA r).length : Int)) = false := by simp [h1]
          have h2' : ((l8.length : Int) != ((varsA r').length : Int)) = false := by simp [h2]
          have H12 := Lib.hid (And.intro h1 h2)
          clear hk h1 h2
          go_wp2_with fail
          go_loopw [17] (fun i wr => ∃ k : Nat, k ≤ (varsA r).length ∧ i = .int .i64 (k : Int) ∧ Below w10.heap.size w10 wr) (fun i _ => (varsA r).length - (intOf i).toNat)
          case atStart => exact ⟨0, Nat.zero_le _, rfl, Below.refl _ _⟩
          case round =>
            obtain ⟨k, hk, rfl, hB⟩ := hrel
            by_cases hlt : k < (varsA r).length
            · have hlt' : (k : Int) < ((varsA r).length : Int) := by omega
              obtain ⟨s, hs⟩ : ∃ s, (varsA r)[k]? = some s := ⟨_, List.getElem?_eq_getElem hlt⟩
              have hsA : (varsV (termsR r))[k]? = some s := by rw [← varsA_ok A7.out.right]; exact hs
              have hty := typed_ty A7.out (List.mem_of_getElem? hsA)
              have hat := types_at A7.out hsA
              have heq := (types_sub Hsub'.out A7.out A8.out (List.mem_of_getElem? hsA)).1
              rw [← varsA_ok A7.out.right] at hty hat heq
              rw [← varsA_ok A8.out.right] at heq
              obtain ⟨t, ht⟩ : ∃ t, typedV (varsA r) l7 s = t := ⟨_, rfl⟩
              rw [ht] at hty hat heq
              obtain ⟨px, rfl, hpx, hsz, x0⟩ := str_at SX hB hs
              obtain ⟨pa, rfl, hpa, _, y0⟩ := int_at SA hB hat
              have HT7 := Lib.hid (fun (W : World) (hb : Below wr.heap.size wr W) => typed_c (varsA r) l7 _ _ s W (SlOf.str HU9.out (hB.trans (hb.mono hB.size)) (Nat.le_trans hB.size hb.size)) (SlOf.int HU7.out (hB.trans (hb.mono hB.size)) (Nat.le_trans hB.size hb.size)))
              have HT8 := Lib.hid (fun (W : World) (hb : Below wr.heap.size wr W) => typed_c (varsA r') l8 _ _ s W (SlOf.str HU10.out (hB.trans (hb.mono hB.size)) (Nat.le_trans hB.size hb.size)) (SlOf.int HU8.out (hB.trans (hb.mono hB.size)) (Nat.le_trans hB.size hb.size)))
              rw [ht] at HT7
              rw [← heq] at HT8
              rw [hvl] at HT8
              have hla : (k : Int) < (l7.length : Int) := by have := H12.out.1; omega
              have hkn : (0 : Int) ≤ (k : Int) := by omega
              have HB := Lib.hid hB
              have Zx := Lib.hid (World.block_lt_of_cell? _ _ x0)
              have Zy := Lib.hid (World.block_lt_of_cell? _ _ y0)
              clear hs hsA hat heq hB ht
              have X0 := Lib.hid x0
              have Y0 := Lib.hid y0
              have Hty := Lib.hid hty
              clear x0 y0 hty
              go_wp2_with fail
              refine wp_region_any (by kernel_rfl) ?_
              (try (change wpAny _ _ _ _ _ _ _ (World.drew _)))
              refine wpAny_growG slots19 _ _ (facts19 (.slice (some px) (varsA r).length kx) (.slice (some pa) l7.length ka) (.slice oy (varsA r).length ky) (.slice ob l8.length kb) k (px.add k) (pa.add k) s t) (by kernel_rfl) (by kernel_rfl) (by kernel_rfl) (by kernel_rfl) (facts19_mono _ _ _ _ _ _ _ _ _)
                ⟨gs_plain rfl ?s0, gs_plain rfl ?s1, gs_plain rfl ?s2, gs_plain rfl ?s3, gs_plain rfl ?s4, gs_plain rfl ?s5, gs_plain rfl ?s6, gs_plain rfl ?s7, gs_plain rfl ?s8, gs_plain rfl ?s9, gs_plain rfl ?s10, gs_plain rfl ?s11, gs_plain rfl ?s12, gs_plain rfl ?s13, gs_plain rfl ?s14, gs_plain rfl ?s15,
                 gs_guard 15 157 false false rfl rfl rfl (by kernel_rfl) (fun v w h => h _ rfl) (fun _ => ?s16) (fun h => absurd rfl h), gs_guard 15 157 false false rfl rfl rfl (by kernel_rfl) (fun v w h => h _ rfl) (fun _ => ?s17) (fun h => absurd rfl h), gs_guard 15 157 false false rfl rfl rfl (by kernel_rfl) (fun v w h => h _ rfl) (fun _ => ?s18) (fun h => absurd rfl h), gs_guard 15 157 false false rfl rfl rfl (by kernel_rfl) (fun v w h => h _ rfl) (fun _ => ?s19) (fun h => absurd rfl h), gs_guard 15 157 false false rfl rfl rfl (by kernel_rfl) (fun v w h => h _ rfl) (fun _ => ?s20) (fun h => absurd rfl h), gs_guard 15 157 false false rfl rfl rfl (by kernel_rfl) (fun v w h => h _ rfl) (fun _ => ?s21) (fun h => absurd rfl h),
                 gs_guard 21 163 true (t != 1) rfl rfl rfl (by kernel_rfl) (fun v w h => h _ rfl) (fun h1 => ?s22) (fun h v w => factG_mk rfl fun e => absurd e h), gs_guard 21 163 true (t != 1) rfl rfl rfl (by kernel_rfl) (fun v w h => h _ rfl) (fun h1 => ?s23) (fun h v w => factG_mk rfl fun e => absurd e h), gs_guard 21 163 true (t != 1) rfl rfl rfl (by kernel_rfl) (fun v w h => h _ rfl) (fun h1 => ?s24) (fun h v w => factG_mk rfl fun e => absurd e h), gs_guard 21 163 true (t != 1) rfl rfl rfl (by kernel_rfl) (fun v w h => h _ rfl) (fun h1 => ?s25) (fun h v w => factG_mk rfl fun e => absurd e h), gs_guard 21 163 true (t != 1) rfl rfl rfl (by kernel_rfl) (fun v w h => h _ rfl) (fun h1 => ?s26) (fun h v w => factG_mk rfl fun e => absurd e h),
                 gs_guard 15 157 false false rfl rfl rfl (by kernel_rfl) (fun v w h => h _ rfl) (fun _ => ?s27) (fun h => absurd rfl h), gs_plain rfl ?s28, trivial⟩ ?finr
              case s0 =>
                intro A w' K hb hfar hd hK
                have e1 : A.tmps[15]?.getD undef = .slice (some px) (varsA r).length kx := hfar 15 (by decide)
                unfold Oper.wp
                simp [execOp, e1, go_sem, Result.andThen]
                exact hK _ _ (Below.refl _ _) (factG_mk rfl rfl)
              case s1 =>
                intro A w' K hb hfar hd hK
                have e1 : A.tmps[11]?.getD undef = .slice (some pa) l7.length ka := hfar 11 (by decide)
                unfold Oper.wp
                simp [execOp, e1, go_sem, Result.andThen]
                exact hK _ _ (Below.refl _ _) (factG_mk rfl rfl)
              case s2 =>
                intro A w' K hb hfar hd hK
                have e1 : A.tmps[15]?.getD undef = .slice (some px) (varsA r).length kx := hfar 15 (by decide)
                unfold Oper.wp
                simp [execOp, e1, go_sem, Result.andThen]
                exact hK _ _ (Below.refl _ _) (factG_mk rfl rfl)
              case s3 =>
                intro A w' K hb hfar hd hK
                have e1 : A.tmps[17]?.getD undef = .int .i64 (k : Int) := hfar 17 (by decide)
                unfold Oper.wp
                simp [execOp, e1, go_sem, Result.andThen]
                exact hK _ _ (Below.refl _ _) (factG_mk rfl rfl)
              case s4 =>
                intro A w' K hb hfar hd hK
                have e1 : A.tmps[144]?.getD undef = .slice (some px) (varsA r).length kx := hd 2 144 rfl (by kernel_rfl) _ rfl
                have e2 : A.tmps[145]?.getD undef = .int .i64 (k : Int) := hd 3 145 rfl (by kernel_rfl) _ rfl
                unfold Oper.wp
                simp [execOp, e1, e2, hkn, hlt', go_sem, Result.andThen]
                exact hK _ _ (Below.refl _ _) (factG_mk rfl rfl)
              case s5 =>
                intro A w' K hb hfar hd hK
                have e1 : A.tmps[146]?.getD undef = .pointer (some (px.add k)) := hd 4 146 rfl (by kernel_rfl) _ rfl
                have c0 : w'.cell? (px.add k) = some (.string s) := (World.cell?_of_block (hb.block _ Zx.out)).trans X0.out
                unfold Oper.wp
                simp [execOp, e1, c0, go_sem, Result.andThen]
                exact hK _ _ (Below.refl _ _) (factG_mk rfl rfl)
              case s6 =>
                intro A w' K hb hfar hd hK
                have e1 : A.tmps[142]?.getD undef = .slice (some px) (varsA r).length kx := hd 0 142 rfl (by kernel_rfl) _ rfl
                have e2 : A.tmps[143]?.getD undef = .slice (some pa) l7.length ka := hd 1 143 rfl (by kernel_rfl) _ rfl
                have e3 : A.tmps[147]?.getD undef = .string s := hd 5 147 rfl (by kernel_rfl) _ rfl
                unfold Oper.wp
                simp [execOp, e1, e2, e3, go_sem, Result.andThen]
                refine (HT7.out w' (drewB hb)).mono ?_
                rintro e3 w3 ⟨rfl, b3⟩
                exact hK _ _ b3 (factG_mk rfl rfl)
              case s7 =>
                intro A w' K hb hfar hd hK
                have e1 : A.tmps[16]?.getD undef = .slice oy (varsA r).length ky := hfar 16 (by decide)
                unfold Oper.wp
                simp [execOp, e1, go_sem, Result.andThen]
                exact hK _ _ (Below.refl _ _) (factG_mk rfl rfl)
              case s8 =>
                intro A w' K hb hfar hd hK
                have e1 : A.tmps[13]?.getD undef = .slice ob l8.length kb := hfar 13 (by decide)
                unfold Oper.wp
                simp [execOp, e1, go_sem, Result.andThen]
                exact hK _ _ (Below.refl _ _) (factG_mk rfl rfl)
              case s9 =>
                intro A w' K hb hfar hd hK
                have e1 : A.tmps[15]?.getD undef = .slice (some px) (varsA r).length kx := hfar 15 (by decide)
                unfold Oper.wp
                simp [execOp, e1, go_sem, Result.andThen]
                exact hK _ _ (Below.refl _ _) (factG_mk rfl rfl)
              case s10 =>
                intro A w' K hb hfar hd hK
                have e1 : A.tmps[17]?.getD undef = .int .i64 (k : Int) := hfar 17 (by decide)
                unfold Oper.wp
                simp [execOp, e1, go_sem, Result.andThen]
                exact hK _ _ (Below.refl _ _) (factG_mk rfl rfl)
              case s11 =>
                intro A w' K hb hfar hd hK
                have e1 : A.tmps[151]?.getD undef = .slice (some px) (varsA r).length kx := hd 9 151 rfl (by kernel_rfl) _ rfl
                have e2 : A.tmps[152]?.getD undef = .int .i64 (k : Int) := hd 10 152 rfl (by kernel_rfl) _ rfl
                unfold Oper.wp
                simp [execOp, e1, e2, hkn, hlt', go_sem, Result.andThen]
                exact hK _ _ (Below.refl _ _) (factG_mk rfl rfl)
              case s12 =>
                intro A w' K hb hfar hd hK
                have e1 : A.tmps[153]?.getD undef = .pointer (some (px.add k)) := hd 11 153 rfl (by kernel_rfl) _ rfl
                have c0 : w'.cell? (px.add k) = some (.string s) := (World.cell?_of_block (hb.block _ Zx.out)).trans X0.out
                unfold Oper.wp
                simp [execOp, e1, c0, go_sem, Result.andThen]
                exact hK _ _ (Below.refl _ _) (factG_mk rfl rfl)
              case s13 =>
                intro A w' K hb hfar hd hK
                have e1 : A.tmps[149]?.getD undef = .slice oy (varsA r).length ky := hd 7 149 rfl (by kernel_rfl) _ rfl
                have e2 : A.tmps[150]?.getD undef = .slice ob l8.length kb := hd 8 150 rfl (by kernel_rfl) _ rfl
                have e3 : A.tmps[154]?.getD undef = .string s := hd 12 154 rfl (by kernel_rfl) _ rfl
                unfold Oper.wp
                simp [execOp, e1, e2, e3, go_sem, Result.andThen]
                refine (HT8.out w' (drewB hb)).mono ?_
                rintro e3 w3 ⟨rfl, b3⟩
                exact hK _ _ b3 (factG_mk rfl rfl)
              case s14 =>
                intro A w' K hb hfar hd hK
                have e1 : A.tmps[148]?.getD undef = .int .i64 t := hd 6 148 rfl (by kernel_rfl) _ rfl
                have e2 : A.tmps[155]?.getD undef = .int .i64 t := hd 13 155 rfl (by kernel_rfl) _ rfl
                unfold Oper.wp
                simp [execOp, e1, e2, go_sem, Result.andThen]
                exact hK _ _ (Below.refl _ _) (factG_mk rfl rfl)
              case s15 =>
                intro A w' K hb hfar hd hK
                have e1 : A.tmps[156]?.getD undef = .bool false := hd 14 156 rfl (by kernel_rfl) _ rfl
                unfold Oper.wp
                simp [execOp, e1, go_sem, Result.andThen]
                exact hK _ _ (Below.refl _ _) (factG_mk rfl rfl)
              case s16 =>
                intro A w' K hb hfar hd hK
                have e1 : A.tmps[11]?.getD undef = .slice (some pa) l7.length ka := hfar 11 (by decide)
                unfold Oper.wp
                simp [execOp, e1, go_sem, Result.andThen]
                exact hK _ _ (Below.refl _ _) (factG_mk rfl rfl)
              case s17 =>
                intro A w' K hb hfar hd hK
                have e1 : A.tmps[17]?.getD undef = .int .i64 (k : Int) := hfar 17 (by decide)
                unfold Oper.wp
                simp [execOp, e1, go_sem, Result.andThen]
                exact hK _ _ (Below.refl _ _) (factG_mk rfl rfl)
              case s18 =>
                intro A w' K hb hfar hd hK
                have e1 : A.tmps[158]?.getD undef = .slice (some pa) l7.length ka := hd 16 158 rfl (by kernel_rfl) _ rfl
                have e2 : A.tmps[159]?.getD undef = .int .i64 (k : Int) := hd 17 159 rfl (by kernel_rfl) _ rfl
                unfold Oper.wp
                simp [execOp, e1, e2, hkn, hla, go_sem, Result.andThen]
                exact hK _ _ (Below.refl _ _) (factG_mk rfl rfl)
              case s19 =>
                intro A w' K hb hfar hd hK
                have e1 : A.tmps[160]?.getD undef = .pointer (some (pa.add k)) := hd 18 160 rfl (by kernel_rfl) _ rfl
                have c0 : w'.cell? (pa.add k) = some (.int .i64 t) := (World.cell?_of_block (hb.block _ Zy.out)).trans Y0.out
                unfold Oper.wp
                simp [execOp, e1, c0, go_sem, Result.andThen]
                exact hK _ _ (Below.refl _ _) (factG_mk rfl rfl)
              case s20 =>
                intro A w' K hb hfar hd hK
                have e1 : A.tmps[161]?.getD undef = .int .i64 t := hd 19 161 rfl (by kernel_rfl) _ rfl
                unfold Oper.wp
                simp [execOp, e1, go_sem, Result.andThen]
                exact hK _ _ (Below.refl _ _) (factG_mk rfl rfl)
              case s21 =>
                intro A w' K hb hfar hd hK
                have e1 : A.tmps[162]?.getD undef = .bool (t != 1) := hd 20 162 rfl (by kernel_rfl) _ rfl
                unfold Oper.wp
                simp [execOp, e1, go_sem, Result.andThen]
                exact hK _ _ (Below.refl _ _) (factG_mk rfl rfl)
              case s22 =>
                intro A w' K hb hfar hd hK
                have e1 : A.tmps[11]?.getD undef = .slice (some pa) l7.length ka := hfar 11 (by decide)
                unfold Oper.wp
                simp [execOp, e1, go_sem, Result.andThen]
                exact hK _ _ (Below.refl _ _) (factG_mk rfl (fun _ => rfl))
              case s23 =>
                intro A w' K hb hfar hd hK
                have e1 : A.tmps[17]?.getD undef = .int .i64 (k : Int) := hfar 17 (by decide)
                unfold Oper.wp
                simp [execOp, e1, go_sem, Result.andThen]
                exact hK _ _ (Below.refl _ _) (factG_mk rfl (fun _ => rfl))
              case s24 =>
                intro A w' K hb hfar hd hK
                have e1 : A.tmps[164]?.getD undef = .slice (some pa) l7.length ka := (hd 22 164 rfl (by kernel_rfl) _ rfl) h1
                have e2 : A.tmps[165]?.getD undef = .int .i64 (k : Int) := (hd 23 165 rfl (by kernel_rfl) _ rfl) h1
                unfold Oper.wp
                simp [execOp, e1, e2, hkn, hla, go_sem, Result.andThen]
                exact hK _ _ (Below.refl _ _) (factG_mk rfl (fun _ => rfl))
              case s25 =>
                intro A w' K hb hfar hd hK
                have e1 : A.tmps[166]?.getD undef = .pointer (some (pa.add k)) := (hd 24 166 rfl (by kernel_rfl) _ rfl) h1
                have c0 : w'.cell? (pa.add k) = some (.int .i64 t) := (World.cell?_of_block (hb.block _ Zy.out)).trans Y0.out
                unfold Oper.wp
                simp [execOp, e1, c0, go_sem, Result.andThen]
                exact hK _ _ (Below.refl _ _) (factG_mk rfl (fun _ => rfl))
              case s26 =>
                intro A w' K hb hfar hd hK
                have e1 : A.tmps[167]?.getD undef = .int .i64 t := (hd 25 167 rfl (by kernel_rfl) _ rfl) h1
                unfold Oper.wp
                simp [execOp, e1, go_sem, Result.andThen]
                exact hK _ _ (Below.refl _ _) (factG_mk rfl (fun _ => rfl))
              case s27 =>
                intro A w' K hb hfar hd hK
                have e1 : A.tmps[163]?.getD undef = .bool (t != 1) := hd 21 163 rfl (by kernel_rfl) _ rfl
                have e2 := hd 26 168 rfl (by kernel_rfl) _ rfl
                rcases Hty.out with ht | ht
                · rw [ht] at e1
                  have e1 : A.tmps[163]?.getD undef = .bool false := e1
                  unfold Oper.wp
                  simp [execOp, e1, go_sem, Result.andThen]
                  exact hK _ _ (Below.refl _ _) (factG_mk rfl rfl)
                · have e2 := e2 (by rw [ht]; rfl)
                  rw [ht] at e1 e2
                  have e1 : A.tmps[163]?.getD undef = .bool true := e1
                  have e2 : A.tmps[168]?.getD undef = .bool false := e2
                  unfold Oper.wp
                  simp [execOp, e1, e2, go_sem, Result.andThen]
                  exact hK _ _ (Below.refl _ _) (factG_mk rfl rfl)
              case s28 =>
                intro A w' K hb hfar hd hK
                have e1 : A.tmps[157]?.getD undef = .bool false := hd 15 157 rfl (by kernel_rfl) _ rfl
                have e2 : A.tmps[169]?.getD undef = .bool false := hd 27 169 rfl (by kernel_rfl) _ rfl
                unfold Oper.wp
                simp [execOp, e1, e2, go_sem, Result.andThen]
                exact hK _ _ (Below.refl _ _) (factG_mk rfl rfl)
              case finr =>
                intro val w11 hF hb
                have e28 : val 28 = .bool false := hF 28 170 rfl _ rfl
                have HB11 := Lib.hid (HB.out.trans ((drewB hb).mono HB.out.size))
                clear hF hb
                simp only [slots19, putsA, Nat.zero_add, Nat.reduceAdd, e28]
                simp only [Act.put, List.setIfInBounds_toArray, List.set_cons_zero, List.set_cons_succ]
                go_wp2
                go_roundw
                case rel => exact ⟨k + 1, hlt, by go_num, HB11.out⟩
                case measure => simp [intOf]; omega
            · have hlt' : ¬ (k : Int) < ((varsA r).length : Int) := by omega
              go_wp2
              go_ret
              exact ⟨rfl, B10.out.trans (hB.mono B10.out.size)⟩
end Go.Proofs.YtbpdfmpfnbdeoaaDoor
