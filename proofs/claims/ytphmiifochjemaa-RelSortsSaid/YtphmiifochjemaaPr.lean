/- rel.pairs: two lists gone through at once, as far as both have places: at three instances. -/
import Derived.Test.YtphmiifochjemaaPc
import Derived.Test.YtphmiifochjemaaOwn
import Derived.Test.YtphmiifochjemaaRng
import Derived.Test.YtphmiifochjemaaRst
import Derived.LoopIn
import Derived.OwnWalkIn
namespace Go.Proofs.Ytphmiifochjemaa
open Go.RowKit

attribute [local go_sem] Oper.semAt_some

theorem heapLt {W : World} {b : Nat} {o : Obj} (h : W.heap[b]? = some o) : b < W.heap.size := (Array.getElem?_eq_some_iff.1 h).1
instance : Inhabited Vl := ⟨⟨false, 0, ⟨#[]⟩⟩⟩
/-- A row's cell, whatever lies behind it. -/
def HdC (x : Rw × Value) (cs : List Value) : Prop := cs = [x.2]
theorem hd_at {w wr : World} {B : Nat} {l : List (Rw × Value)} {o : Option Addr} {k : Nat} {x : Rw × Value} (S : Hid (SlIn w B 1 HdC l o)) (hB : Below B w wr) (ht : l[k]? = some x) :
    ∃ a, o = some a ∧ a.block < B ∧ wr.cell? (a.add k) = some x.2 := by
  obtain ⟨a, cs, rfl, ha, _, rfl, h2⟩ := S.out k x ht
  have := (h2.below ha hB).n1
  rw [Nat.mul_one] at this
  exact ⟨a, rfl, ha, this⟩
theorem intB_at {w wr : World} {B : Nat} {l : List Int} {o : Option Addr} {k : Nat} {t : Int} (S : Hid (SlIn w B 1 IntC l o)) (hB : Below B w wr) (ht : l[k]? = some t) :
    ∃ a, o = some a ∧ a.block < B ∧ I64 t ∧ wr.cell? (a.add k) = some (.int .i64 t) := by
  obtain ⟨a, cs, rfl, ha, _, ⟨rfl, hz⟩, h2⟩ := S.out k t ht
  have := (h2.below ha hB).n1
  rw [Nat.mul_one] at this
  exact ⟨a, rfl, ha, hz, this⟩
/-- The two boxes. -/
structure PrG (w0 : World) (v u : Value) (T1 T2 : TypeId) (B1 B2 : Nat) (W : World) : Prop where
  b : Below w0.heap.size w0 W
  one : W.heap[B1]? = some (.cells #[v] T1 (0, 0))
  two : W.heap[B2]? = some (.cells #[u] T2 (0, 0))
def PrT {α β : Type} (a : List α) (b : List β) (x : Nat × α × β) (W : World) (x' : Nat × α × β) (W' : World) : Prop := x'.1 = x.1 + 1 ∧ a[x.1]? = some x'.2.1 ∧ b[x.1]? = some x'.2.2 ∧ Below W.heap.size W W'
def PrE {α β : Type} (a : List α) (b : List β) (x : Nat × α × β) (W W' : World) : Prop := (x.1 = a.length ∨ x.1 = b.length) ∧ Below W.heap.size W W'

/-! ### pairs at sorites/api.Val, sorites/api.Val -/
abbrev PeV (x : Nat × Vl × Vl) : Array Value := #[.agg #[.bool x.2.1.sym, .int .i64 x.2.1.n, .string x.2.1.s], .agg #[.bool x.2.2.sym, .int .i64 x.2.2.n, .string x.2.2.s]]
theorem pairsV_in (n : Nat) (o1 : Option Addr) (n1 c1 : Nat) (o2 : Option Addr) (n2 c2 : Nat) (w : World) :
    CallsIn Fence.wide n Try.prog 35 #[.slice o1 n1 c1, .slice o2 n2 c2] w fun e w' => e = .returned (.func (.func 43) #[] #[.pointer (some ⟨w.heap.size, 0, none⟩), .pointer (some ⟨w.heap.size + 1, 0, none⟩)]) ∧ w' = (w.alloc (.cells #[.slice o1 n1 c1] 23)).alloc (.cells #[.slice o2 n2 c2] 23) := by
  refine callsIn_of_wp Try.func35 rfl trivial ?_ rfl
  simp only [Try.ntmps35, List.size_toArray, List.length_cons, List.length_nil, Nat.reduceAdd, Nat.reduceSub, Array.replicate_succ, Array.replicate_zero, List.push_toArray, List.append_toArray, List.nil_append, List.cons_append]
  gi_wp2
  go_ret
  exact ⟨rfl, rfl⟩
set_option linter.unusedSimpArgs false in
set_option maxRecDepth 100000 in
set_option maxHeartbeats 4000000 in
theorem pairsV_moves (n : Nat) (hn : 1 ≤ n) (a : List Vl) (b : List Vl) (v u : Value) (w0 : World) (B1 B2 : Nat) (hv : SlOf w0 w0.heap.size 3 VlC a v) (hu : SlOf w0 w0.heap.size 3 VlC b u) :
    Moves2 Fence.wide n Try.prog 43 (fun l => #[] ++ #[.func (.yield l) #[] #[]] ++ #[.pointer (some ⟨B1, 0, none⟩), .pointer (some ⟨B2, 0, none⟩)]) PeV (fun x W => PrG w0 v u 23 23 B1 B2 W ∧ x.1 ≤ a.length ∧ x.1 ≤ b.length) (PrT a b) (PrE a b) (0, default, default) := by
  intro lp A B X Z W hY hB h0
  obtain ⟨o1, cap1, rfl, hc1, hm1, S1⟩ := SlOf.open hv
  obtain ⟨o2, cap2, rfl, hc2, hm2, S2⟩ := SlOf.open hu
  have HY := Lib.hid hY
  have HB := Lib.hid hB
  have HB0 := Lib.hid h0
  obtain ⟨⟨⟨hb0, hr1, hr2⟩, _, _⟩, _, _⟩ := hB _ W h0
  have c1 : W.cell? ⟨B1, 0, none⟩ = some (.slice o1 a.length cap1) := (row_cell hr1 0).1
  have c2 : W.cell? ⟨B2, 0, none⟩ = some (.slice o2 b.length cap2) := (row_cell hr2 0).1
  have l1 := heapLt hr1
  have l2 := heapLt hr2
  clear hY hB hv hu hb0 hr1 hr2 h0
  simp only [List.append_toArray, List.cons_append, List.nil_append, List.append_nil]
  obtain ⟨N, hN⟩ : ∃ N : Nat, min (a.length : Int) (b.length : Int) = (N : Int) := ⟨min a.length b.length, by omega⟩
  have hNa : N ≤ a.length := by omega
  have hNb : N ≤ b.length := by omega
  have HN : Hid (N = a.length ∨ N = b.length) := Lib.hid (by omega)
  refine callsIn_of_wp Try.func43 rfl trivial ?_ rfl
  simp only [Try.ntmps43, List.size_toArray, List.length_cons, List.length_nil, Nat.reduceAdd, Nat.reduceSub, Array.replicate_succ, Array.replicate_zero, List.push_toArray, List.append_toArray, List.nil_append, List.cons_append]
  gi_wp2
  all_goals
    clear c1 c2 l1 l2
    gi_loopw [10] (fun i wr => ∃ (k : Nat) (x : Nat × Vl × Vl), k ≤ N ∧ i = .int .i64 k ∧ x.1 = k ∧ B x wr) (fun i _ => N - (intOf i).toNat)
    case atStart => exact ⟨0, _, Nat.zero_le _, rfl, rfl, HB0.out⟩
    case round =>
      obtain ⟨k, x, hk, rfl, hx1, hBx⟩ := hrel
      obtain ⟨⟨⟨hb, hr1, hr2⟩, _, _⟩, hT, hE⟩ := HB.out x wr hBx
      have hbs := hb.size
      by_cases hlt : k < N
      · have hlt' : (k : Int) < (N : Int) := by omega
        have hk0 : (0 : Int) ≤ (k : Int) := by omega
        have hlta : (k : Int) < (a.length : Int) := by omega
        have hltb : (k : Int) < (b.length : Int) := by omega
        obtain ⟨y, hy⟩ : ∃ y, a[k]? = some y := ⟨a[k], List.getElem?_eq_getElem (by omega)⟩
        obtain ⟨z, hz⟩ : ∃ z, b[k]? = some z := ⟨b[k], List.getElem?_eq_getElem (by omega)⟩
        obtain ⟨pc, rfl, hpc, _, _, c0, c1, c2⟩ := vl_at S1 hb hy
        have hlc : (pc.add (k * 3)).block < wr.heap.size := by rw [addBlock]; omega
        obtain ⟨pd, rfl, hpd, _, _, d0, d1, d2⟩ := vl_at S2 hb hz
        have hld : (pd.add (k * 3)).block < wr.heap.size := by rw [addBlock]; omega
        have hA := hT (k + 1, y, z) wr.drew ⟨by show k + 1 = x.1 + 1; omega, by rw [hx1]; exact hy, by rw [hx1]; exact hz, (Below.refl _ _).drew⟩
        obtain ⟨fn, tmps, assign, body, hyl, hR⟩ := HY.out _ _ hA
        have x1 : wr.cell? ⟨B1, 0, none⟩ = some (.slice (some pc) a.length cap1) := (row_cell hr1 0).1
        have x2 : wr.cell? ⟨B2, 0, none⟩ = some (.slice (some pd) b.length cap2) := (row_cell hr2 0).1
        have l1 := heapLt hr1
        have l2 := heapLt hr2
        clear hA hT hE hb hr1 hr2 hBx hy hz
        gi_wp2_with fail
        refine region_still_wide 9 (by kernel_rfl) (by kernel_rfl) ?_
        simp only [List.take_succ_cons, List.take_zero, List.drop_succ_cons, List.drop_zero]
        repeat still_step
        refine wpStill_nil ?_
        gi_wp2_with fail
        refine hR.mono ?_
        rintro e W1 (⟨rfl, hB1⟩ | ⟨rfl, hX1⟩)
        · have HB1 := Lib.hid hB1
          clear hR hB1 hyl
          gi_wp2
          go_roundw
          case rel => exact ⟨k + 1, _, hlt, by go_num, rfl, HB1.out⟩
          case measure => simp [intOf]; omega
        · have HX := Lib.hid hX1
          clear hR hX1 hyl
          gi_wp2
          refine bodyPost_ret (results_none rfl _ _ _) rfl ?_
          exact ⟨⟨_, rfl⟩, .inl HX.out⟩
      · have HZ := Lib.hid (hE wr ⟨by rw [hx1]; have := HN.out; omega, Below.refl _ _⟩)
        clear hT hE hb hr1 hr2 hBx
        first
          | (have hl' : ¬ (k : Int) < (b.length : Int) := by omega
             gi_wp2
             go_end0
             exact ⟨⟨_, rfl⟩, .inr HZ.out⟩)
          | (have hl' : ¬ (k : Int) < (a.length : Int) := by omega
             gi_wp2
             go_end0
             exact ⟨⟨_, rfl⟩, .inr HZ.out⟩)

/-! ### pairs at []sorites/api.Val, []sorites/api.Val -/
abbrev PeR (x : Nat × (Rw × Value) × (Rw × Value)) : Array Value := #[x.2.1.2, x.2.2.2]
theorem pairsR_in (n : Nat) (o1 : Option Addr) (n1 c1 : Nat) (o2 : Option Addr) (n2 c2 : Nat) (w : World) :
    CallsIn Fence.wide n Try.prog 30 #[.slice o1 n1 c1, .slice o2 n2 c2] w fun e w' => e = .returned (.func (.func 39) #[] #[.pointer (some ⟨w.heap.size, 0, none⟩), .pointer (some ⟨w.heap.size + 1, 0, none⟩)]) ∧ w' = (w.alloc (.cells #[.slice o1 n1 c1] 22)).alloc (.cells #[.slice o2 n2 c2] 22) := by
  refine callsIn_of_wp Try.func30 rfl trivial ?_ rfl
  simp only [Try.ntmps30, List.size_toArray, List.length_cons, List.length_nil, Nat.reduceAdd, Nat.reduceSub, Array.replicate_succ, Array.replicate_zero, List.push_toArray, List.append_toArray, List.nil_append, List.cons_append]
  gi_wp2
  go_ret
  exact ⟨rfl, rfl⟩
set_option linter.unusedSimpArgs false in
set_option maxRecDepth 100000 in
set_option maxHeartbeats 4000000 in
theorem pairsR_moves (n : Nat) (hn : 1 ≤ n) (a : List (Rw × Value)) (b : List (Rw × Value)) (v u : Value) (w0 : World) (B1 B2 : Nat) (hv : SlOf w0 w0.heap.size 1 HdC a v) (hu : SlOf w0 w0.heap.size 1 HdC b u) :
    Moves2 Fence.wide n Try.prog 39 (fun l => #[] ++ #[.func (.yield l) #[] #[]] ++ #[.pointer (some ⟨B1, 0, none⟩), .pointer (some ⟨B2, 0, none⟩)]) PeR (fun x W => PrG w0 v u 22 22 B1 B2 W ∧ x.1 ≤ a.length ∧ x.1 ≤ b.length) (PrT a b) (PrE a b) (0, default, default) := by
  intro lp A B X Z W hY hB h0
  obtain ⟨o1, cap1, rfl, hc1, hm1, S1⟩ := SlOf.open hv
  obtain ⟨o2, cap2, rfl, hc2, hm2, S2⟩ := SlOf.open hu
  have HY := Lib.hid hY
  have HB := Lib.hid hB
  have HB0 := Lib.hid h0
  obtain ⟨⟨⟨hb0, hr1, hr2⟩, _, _⟩, _, _⟩ := hB _ W h0
  have c1 : W.cell? ⟨B1, 0, none⟩ = some (.slice o1 a.length cap1) := (row_cell hr1 0).1
  have c2 : W.cell? ⟨B2, 0, none⟩ = some (.slice o2 b.length cap2) := (row_cell hr2 0).1
  have l1 := heapLt hr1
  have l2 := heapLt hr2
  clear hY hB hv hu hb0 hr1 hr2 h0
  simp only [List.append_toArray, List.cons_append, List.nil_append, List.append_nil]
  obtain ⟨N, hN⟩ : ∃ N : Nat, min (a.length : Int) (b.length : Int) = (N : Int) := ⟨min a.length b.length, by omega⟩
  have hNa : N ≤ a.length := by omega
  have hNb : N ≤ b.length := by omega
  have HN : Hid (N = a.length ∨ N = b.length) := Lib.hid (by omega)
  refine callsIn_of_wp Try.func39 rfl trivial ?_ rfl
  simp only [Try.ntmps39, List.size_toArray, List.length_cons, List.length_nil, Nat.reduceAdd, Nat.reduceSub, Array.replicate_succ, Array.replicate_zero, List.push_toArray, List.append_toArray, List.nil_append, List.cons_append]
  gi_wp2
  all_goals
    clear c1 c2 l1 l2
    gi_loopw [10] (fun i wr => ∃ (k : Nat) (x : Nat × (Rw × Value) × (Rw × Value)), k ≤ N ∧ i = .int .i64 k ∧ x.1 = k ∧ B x wr) (fun i _ => N - (intOf i).toNat)
    case atStart => exact ⟨0, _, Nat.zero_le _, rfl, rfl, HB0.out⟩
    case round =>
      obtain ⟨k, x, hk, rfl, hx1, hBx⟩ := hrel
      obtain ⟨⟨⟨hb, hr1, hr2⟩, _, _⟩, hT, hE⟩ := HB.out x wr hBx
      have hbs := hb.size
      by_cases hlt : k < N
      · have hlt' : (k : Int) < (N : Int) := by omega
        have hk0 : (0 : Int) ≤ (k : Int) := by omega
        have hlta : (k : Int) < (a.length : Int) := by omega
        have hltb : (k : Int) < (b.length : Int) := by omega
        obtain ⟨y, hy⟩ : ∃ y, a[k]? = some y := ⟨a[k], List.getElem?_eq_getElem (by omega)⟩
        obtain ⟨z, hz⟩ : ∃ z, b[k]? = some z := ⟨b[k], List.getElem?_eq_getElem (by omega)⟩
        obtain ⟨pc, rfl, hpc, c0⟩ := hd_at S1 hb hy
        have hlc : (pc.add k).block < wr.heap.size := by rw [addBlock]; omega
        obtain ⟨pd, rfl, hpd, d0⟩ := hd_at S2 hb hz
        have hld : (pd.add k).block < wr.heap.size := by rw [addBlock]; omega
        have hA := hT (k + 1, y, z) wr.drew ⟨by show k + 1 = x.1 + 1; omega, by rw [hx1]; exact hy, by rw [hx1]; exact hz, (Below.refl _ _).drew⟩
        obtain ⟨fn, tmps, assign, body, hyl, hR⟩ := HY.out _ _ hA
        have x1 : wr.cell? ⟨B1, 0, none⟩ = some (.slice (some pc) a.length cap1) := (row_cell hr1 0).1
        have x2 : wr.cell? ⟨B2, 0, none⟩ = some (.slice (some pd) b.length cap2) := (row_cell hr2 0).1
        have l1 := heapLt hr1
        have l2 := heapLt hr2
        clear hA hT hE hb hr1 hr2 hBx hy hz
        gi_wp2_with fail
        refine region_still_wide 9 (by kernel_rfl) (by kernel_rfl) ?_
        simp only [List.take_succ_cons, List.take_zero, List.drop_succ_cons, List.drop_zero]
        repeat still_step
        refine wpStill_nil ?_
        gi_wp2_with fail
        refine hR.mono ?_
        rintro e W1 (⟨rfl, hB1⟩ | ⟨rfl, hX1⟩)
        · have HB1 := Lib.hid hB1
          clear hR hB1 hyl
          gi_wp2
          go_roundw
          case rel => exact ⟨k + 1, _, hlt, by go_num, rfl, HB1.out⟩
          case measure => simp [intOf]; omega
        · have HX := Lib.hid hX1
          clear hR hX1 hyl
          gi_wp2
          refine bodyPost_ret (results_none rfl _ _ _) rfl ?_
          exact ⟨⟨_, rfl⟩, .inl HX.out⟩
      · have HZ := Lib.hid (hE wr ⟨by rw [hx1]; have := HN.out; omega, Below.refl _ _⟩)
        clear hT hE hb hr1 hr2 hBx
        first
          | (have hl' : ¬ (k : Int) < (b.length : Int) := by omega
             gi_wp2
             go_end0
             exact ⟨⟨_, rfl⟩, .inr HZ.out⟩)
          | (have hl' : ¬ (k : Int) < (a.length : Int) := by omega
             gi_wp2
             go_end0
             exact ⟨⟨_, rfl⟩, .inr HZ.out⟩)

end Go.Proofs.Ytphmiifochjemaa
