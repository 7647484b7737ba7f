/- cmp.Compare of numbers and texts, rel.compareVals. rel.pairs: two lists gone through at once, as far as both have places: at three instances. rel.compareLists, rel.Compare. What a list holds as cells; a world with a block hidden; rows of one's own whose values lie elsewhere. soritesref08.Rise, In, Put, Sort. -/
import Derived.Test.YthhepmddcncjoaaGreatDoorKRng
import Derived.Test.YthhepmddcncjoaaGreatDoorKAny
import Derived.LoopIn
import Derived.OwnWalkIn
import Derived.Shelf.Abstract
import Derived.OwnWalk
import Derived.WalkSpells
set_option linter.unusedSimpArgs false
set_option linter.unusedVariables false
namespace Go.Proofs.YthhepmddcncjoaaGreatDoor
open Go.RowKit

set_option maxRecDepth 100000 in
set_option maxHeartbeats 4000000 in
theorem cmpInt_c (a b : Int) (w : World) : Calls Tryz.prog 125 #[.int .i64 a, .int .i64 b] w fun e w' => e = .returned (.int .i64 (intC a b)) ∧ Below w.heap.size w w' := by
  have Hz : Hid (intC a b = if a < b then -1 else if b < a then 1 else 0) := Lib.hid rfl
  by_cases h1 : a < b
  · have Hz2 := Lib.hid (Hz.out.trans (if_pos h1))
    go_enter Tryz.func125, Tryz.ntmps125
    go_wp2
    go_ret
    exact ⟨retI' Hz2.out.symm, Below.refl _ _⟩
  · by_cases h2 : b < a
    · have Hz2 := Lib.hid (Hz.out.trans ((if_neg h1).trans (if_pos h2)))
      go_enter Tryz.func125, Tryz.ntmps125
      go_wp2
      go_ret
      exact ⟨retI' Hz2.out.symm, Below.refl _ _⟩
    · have Hz2 := Lib.hid (Hz.out.trans ((if_neg h1).trans (if_neg h2)))
      go_enter Tryz.func125, Tryz.ntmps125
      go_wp2
      go_ret
      exact ⟨retI' Hz2.out.symm, Below.refl _ _⟩
set_option maxRecDepth 100000 in
set_option maxHeartbeats 4000000 in
theorem cmpI64_c (a b : Int) (w : World) : Calls Tryz.prog 127 #[.int .i64 a, .int .i64 b] w fun e w' => e = .returned (.int .i64 (intC a b)) ∧ Below w.heap.size w w' := by
  have Hz : Hid (intC a b = if a < b then -1 else if b < a then 1 else 0) := Lib.hid rfl
  by_cases h1 : a < b
  · have Hz2 := Lib.hid (Hz.out.trans (if_pos h1))
    go_enter Tryz.func127, Tryz.ntmps127
    go_wp2
    go_ret
    exact ⟨retI' Hz2.out.symm, Below.refl _ _⟩
  · by_cases h2 : b < a
    · have Hz2 := Lib.hid (Hz.out.trans ((if_neg h1).trans (if_pos h2)))
      go_enter Tryz.func127, Tryz.ntmps127
      go_wp2
      go_ret
      exact ⟨retI' Hz2.out.symm, Below.refl _ _⟩
    · have Hz2 := Lib.hid (Hz.out.trans ((if_neg h1).trans (if_neg h2)))
      go_enter Tryz.func127, Tryz.ntmps127
      go_wp2
      go_ret
      exact ⟨retI' Hz2.out.symm, Below.refl _ _⟩
theorem bytes_lex : ∀ (x y : List UInt8), lexC byteC x y = if Op.bytesLess x y = true then -1 else if (!x == y) = true then 1 else 0
  | [], [] => by simp [lexC, Op.bytesLess]
  | [], _ :: _ => by simp [lexC, Op.bytesLess]
  | _ :: _, [] => by simp [lexC, Op.bytesLess]
  | a :: x, b :: y => by
    have ih := bytes_lex x y
    unfold lexC Op.bytesLess
    rw [ih]
    unfold byteC
    by_cases h1 : a < b
    · simp [h1]
    · by_cases h2 : b < a
      · have hne : a ≠ b := by rintro rfl; exact h1 h2
        simp [h1, h2, hne]
      · have he : a = b := by
          simp only [UInt8.lt_iff_toNat_lt] at h1 h2
          exact UInt8.toNat_inj.1 (by omega)
        subst he
        simp [h1]
set_option maxRecDepth 100000 in
set_option maxHeartbeats 4000000 in
theorem cmpStr_c (a b : ByteArray) (w : World) : Calls Tryz.prog 126 #[.string a, .string b] w fun e w' => e = .returned (.int .i64 (textC a b)) ∧ Below w.heap.size w w' := by
  have Hz : Hid (textC a b = if Op.bytesLess a.toList b.toList = true then -1 else if (!a.toList == b.toList) = true then 1 else 0) := Lib.hid (by
    rw [Lib.toList_data, Lib.toList_data]
    exact bytes_lex _ _)
  cases h1 : Op.bytesLess a.toList b.toList with
  | true =>
    have Hz2 := Lib.hid (Hz.out.trans (if_pos h1))
    go_enter Tryz.func126, Tryz.ntmps126
    go_wp2
    go_ret
    exact ⟨retI' Hz2.out.symm, Below.refl _ _⟩
  | false =>
    have h1' : ¬ Op.bytesLess a.toList b.toList = true := by rw [h1]; simp
    cases h2 : (!a.toList == b.toList) with
    | true =>
      have Hz2 := Lib.hid (Hz.out.trans ((if_neg h1').trans (if_pos h2)))
      clear h1'
      go_enter Tryz.func126, Tryz.ntmps126
      go_wp2
      go_ret
      exact ⟨retI' Hz2.out.symm, Below.refl _ _⟩
    | false =>
      have Hz2 := Lib.hid (Hz.out.trans ((if_neg h1').trans (if_neg (by rw [h2]; simp))))
      clear h1'
      go_enter Tryz.func126, Tryz.ntmps126
      go_wp2
      go_ret
      exact ⟨retI' Hz2.out.symm, Below.refl _ _⟩
/-- A value's cells, as an aggregate. -/
abbrev vlV (x : Vl) : Value := .agg #[.bool x.sym, .int .i64 x.n, .string x.s]
set_option maxRecDepth 100000 in
set_option maxHeartbeats 4000000 in
theorem pvals_c (a b : Vl) (w : World) : Calls Tryz.prog 94 #[.agg #[.bool a.sym, .int .i64 a.n, .string a.s], .agg #[.bool b.sym, .int .i64 b.n, .string b.s]] w fun e w' => e = .returned (.int .i64 (vlC a b)) ∧ Below w.heap.size w w' := by
  obtain ⟨sa, na, ta⟩ := a
  obtain ⟨sb, nb, tb⟩ := b
  have HT := Lib.hid (fun w => cmpStr_c ta tb w)
  have HN := Lib.hid (fun w => cmpI64_c na nb w)
  have HB0 : Hid (∀ (x y : Obj), Below w.heap.size w ((w.alloc x).alloc y)) := Lib.hid fun x y => ((Below.refl _ _).alloc (Nat.le_refl _) x).alloc (by simp) y
  have HZ : Hid (vlC ⟨sa, na, ta⟩ ⟨sb, nb, tb⟩ = if (sa != sb) = true then (if sb = true then -1 else 1) else if sa = true then textC ta tb else intC na nb) := Lib.hid rfl
  simp only
  cases sa with
  | false =>
    cases sb with
    | false =>
      have Hz : Hid (vlC ⟨false, na, ta⟩ ⟨false, nb, tb⟩ = intC na nb) := Lib.hid (by rw [HZ.out]; simp)
      go_enter Tryz.func94, Tryz.ntmps94
      go_wp2_with fail
      refine (HN.out _).mono ?_
      rintro e w1 ⟨rfl, b1⟩
      go_wp2
      go_ret
      exact ⟨retI' Hz.out.symm, (HB0.out _ _).trans (b1.mono (by simp; omega))⟩
    | true =>
      have Hz : Hid (vlC ⟨false, na, ta⟩ ⟨true, nb, tb⟩ = -1) := Lib.hid (by rw [HZ.out]; simp)
      go_enter Tryz.func94, Tryz.ntmps94
      go_wp2
      go_ret
      exact ⟨retI' Hz.out.symm, HB0.out _ _⟩
  | true =>
    cases sb with
    | false =>
      have Hz : Hid (vlC ⟨true, na, ta⟩ ⟨false, nb, tb⟩ = 1) := Lib.hid (by rw [HZ.out]; simp)
      go_enter Tryz.func94, Tryz.ntmps94
      go_wp2
      go_ret
      exact ⟨retI' Hz.out.symm, HB0.out _ _⟩
    | true =>
      have Hz : Hid (vlC ⟨true, na, ta⟩ ⟨true, nb, tb⟩ = textC ta tb) := Lib.hid (by rw [HZ.out]; simp)
      go_enter Tryz.func94, Tryz.ntmps94
      go_wp2_with fail
      refine (HT.out _).mono ?_
      rintro e w1 ⟨rfl, b1⟩
      go_wp2
      go_ret
      exact ⟨retI' Hz.out.symm, (HB0.out _ _).trans (b1.mono (by simp; omega))⟩
end Go.Proofs.YthhepmddcncjoaaGreatDoor
namespace Go.Proofs.YthhepmddcncjoaaGreatDoor
open Go.RowKit

attribute [local go_sem] Oper.semAt_some

theorem heapLt {W : World} {b : Nat} {o : Obj} (h : W.heap[b]? = some o) : b < W.heap.size := (Array.getElem?_eq_some_iff.1 h).1
instance : Inhabited Vl := ⟨⟨false, 0, ⟨#[]⟩⟩⟩
/-- A row's cell, whatever lies behind it. -/
def HdC (x : Rw × Value) (cs : List Value) : Prop := cs = [x.2]
theorem hd_at {w wr : World} {B : Nat} {l : List (Rw × Value)} {o : Option Addr} {k : Nat} {x : Rw × Value} (S : Hid (SlIn w B 1 HdC l o)) (hB : Below B w wr) (ht : l[k]? = some x) :
    ∃ a, o = some a ∧ a.block < B ∧ wr.cell? (a.add k) = some x.2 := by
  obtain ⟨a, cs, rfl, ha, _, rfl, h2⟩ := S.out k x ht
  have := (h2.below ha hB).n1
  rw [Nat.mul_one] at this
  exact ⟨a, rfl, ha, this⟩
theorem intB_at {w wr : World} {B : Nat} {l : List Int} {o : Option Addr} {k : Nat} {t : Int} (S : Hid (SlIn w B 1 IntC l o)) (hB : Below B w wr) (ht : l[k]? = some t) :
    ∃ a, o = some a ∧ a.block < B ∧ I64 t ∧ wr.cell? (a.add k) = some (.int .i64 t) := by
  obtain ⟨a, cs, rfl, ha, _, ⟨rfl, hz⟩, h2⟩ := S.out k t ht
  have := (h2.below ha hB).n1
  rw [Nat.mul_one] at this
  exact ⟨a, rfl, ha, hz, this⟩
/-- The two boxes. -/
structure PrG (w0 : World) (v u : Value) (T1 T2 : TypeId) (B1 B2 : Nat) (W : World) : Prop where
  b : Below w0.heap.size w0 W
  one : W.heap[B1]? = some (.cells #[v] T1 (0, 0))
  two : W.heap[B2]? = some (.cells #[u] T2 (0, 0))
def PrT {α β : Type} (a : List α) (b : List β) (x : Nat × α × β) (W : World) (x' : Nat × α × β) (W' : World) : Prop := x'.1 = x.1 + 1 ∧ a[x.1]? = some x'.2.1 ∧ b[x.1]? = some x'.2.2 ∧ Below W.heap.size W W'
def PrE {α β : Type} (a : List α) (b : List β) (x : Nat × α × β) (W W' : World) : Prop := (x.1 = a.length ∨ x.1 = b.length) ∧ Below W.heap.size W W'

/-! ### pairs at sorites/api.Val, sorites/api.Val -/
abbrev PeV (x : Nat × Vl × Vl) : Array Value := #[.agg #[.bool x.2.1.sym, .int .i64 x.2.1.n, .string x.2.1.s], .agg #[.bool x.2.2.sym, .int .i64 x.2.2.n, .string x.2.2.s]]
theorem pairsV_in (n : Nat) (o1 : Option Addr) (n1 c1 : Nat) (o2 : Option Addr) (n2 c2 : Nat) (w : World) :
    CallsIn Fence.wide n Tryz.prog 124 #[.slice o1 n1 c1, .slice o2 n2 c2] w fun e w' => e = .returned (.func (.func 155) #[] #[.pointer (some ⟨w.heap.size, 0, none⟩), .pointer (some ⟨w.heap.size + 1, 0, none⟩)]) ∧ w' = (w.alloc (.cells #[.slice o1 n1 c1] 39)).alloc (.cells #[.slice o2 n2 c2] 39) := by
  refine callsIn_of_wp Tryz.func124 rfl trivial ?_ rfl
  simp only [Tryz.ntmps124, List.size_toArray, List.length_cons, List.length_nil, Nat.reduceAdd, Nat.reduceSub, Array.replicate_succ, Array.replicate_zero, List.push_toArray, List.append_toArray, List.nil_append, List.cons_append]
  gi_wp2
  go_ret
  exact ⟨rfl, rfl⟩
set_option linter.unusedSimpArgs false in
set_option maxRecDepth 100000 in
set_option maxHeartbeats 4000000 in
theorem pairsV_moves (n : Nat) (hn : 1 ≤ n) (a : List Vl) (b : List Vl) (v u : Value) (w0 : World) (B1 B2 : Nat) (hv : SlOf w0 w0.heap.size 3 VlC a v) (hu : SlOf w0 w0.heap.size 3 VlC b u) :
    Moves2 Fence.wide n Tryz.prog 155 (fun l => #[] ++ #[.func (.yield l) #[] #[]] ++ #[.pointer (some ⟨B1, 0, none⟩), .pointer (some ⟨B2, 0, none⟩)]) PeV (fun x W => PrG w0 v u 39 39 B1 B2 W ∧ x.1 ≤ a.length ∧ x.1 ≤ b.length) (PrT a b) (PrE a b) (0, default, default) := by
  intro lp A B X Z W hY hB h0
  obtain ⟨o1, cap1, rfl, hc1, hm1, S1⟩ := SlOf.open hv
  obtain ⟨o2, cap2, rfl, hc2, hm2, S2⟩ := SlOf.open hu
  have HY := Lib.hid hY
  have HB := Lib.hid hB
  have HB0 := Lib.hid h0
  obtain ⟨⟨⟨hb0, hr1, hr2⟩, _, _⟩, _, _⟩ := hB _ W h0
  have c1 : W.cell? ⟨B1, 0, none⟩ = some (.slice o1 a.length cap1) := (row_cell hr1 0).1
  have c2 : W.cell? ⟨B2, 0, none⟩ = some (.slice o2 b.length cap2) := (row_cell hr2 0).1
  have l1 := heapLt hr1
  have l2 := heapLt hr2
  clear hY hB hv hu hb0 hr1 hr2 h0
  simp only [List.append_toArray, List.cons_append, List.nil_append, List.append_nil]
  obtain ⟨N, hN⟩ : ∃ N : Nat, min (a.length : Int) (b.length : Int) = (N : Int) := ⟨min a.length b.length, by omega⟩
  have hNa : N ≤ a.length := by omega
  have hNb : N ≤ b.length := by omega
  have HN : Hid (N = a.length ∨ N = b.length) := Lib.hid (by omega)
  refine callsIn_of_wp Tryz.func155 rfl trivial ?_ rfl
  simp only [Tryz.ntmps155, List.size_toArray, List.length_cons, List.length_nil, Nat.reduceAdd, Nat.reduceSub, Array.replicate_succ, Array.replicate_zero, List.push_toArray, List.append_toArray, List.nil_append, List.cons_append]
  gi_wp2
  all_goals
    clear c1 c2 l1 l2
    gi_loopw [10] (fun i wr => ∃ (k : Nat) (x : Nat × Vl × Vl), k ≤ N ∧ i = .int .i64 k ∧ x.1 = k ∧ B x wr) (fun i _ => N - (intOf i).toNat)
    case atStart => exact ⟨0, _, Nat.zero_le _, rfl, rfl, HB0.out⟩
    case round =>
      obtain ⟨k, x, hk, rfl, hx1, hBx⟩ := hrel
      obtain ⟨⟨⟨hb, hr1, hr2⟩, _, _⟩, hT, hE⟩ := HB.out x wr hBx
      have hbs := hb.size
      by_cases hlt : k < N
      · have hlt' : (k : Int) < (N : Int) := by omega
        have hk0 : (0 : Int) ≤ (k : Int) := by omega
        have hlta : (k : Int) < (a.length : Int) := by omega
        have hltb : (k : Int) < (b.length : Int) := by omega
        obtain ⟨y, hy⟩ : ∃ y, a[k]? = some y := ⟨a[k], List.getElem?_eq_getElem (by omega)⟩
        obtain ⟨z, hz⟩ : ∃ z, b[k]? = some z := ⟨b[k], List.getElem?_eq_getElem (by omega)⟩
        obtain ⟨pc, rfl, hpc, _, _, c0, c1, c2⟩ := vl_at S1 hb hy
        have hlc : (pc.add (k * 3)).block < wr.heap.size := by rw [addBlock]; omega
        obtain ⟨pd, rfl, hpd, _, _, d0, d1, d2⟩ := vl_at S2 hb hz
        have hld : (pd.add (k * 3)).block < wr.heap.size := by rw [addBlock]; omega
        have hA := hT (k + 1, y, z) wr.drew ⟨by show k + 1 = x.1 + 1; omega, by rw [hx1]; exact hy, by rw [hx1]; exact hz, (Below.refl _ _).drew⟩
        obtain ⟨fn, tmps, assign, body, hyl, hR⟩ := HY.out _ _ hA
        have x1 : wr.cell? ⟨B1, 0, none⟩ = some (.slice (some pc) a.length cap1) := (row_cell hr1 0).1
        have x2 : wr.cell? ⟨B2, 0, none⟩ = some (.slice (some pd) b.length cap2) := (row_cell hr2 0).1
        have l1 := heapLt hr1
        have l2 := heapLt hr2
        clear hA hT hE hb hr1 hr2 hBx hy hz
        gi_wp2_with fail
        refine region_still_wide 9 (by kernel_rfl) (by kernel_rfl) ?_
        simp only [List.take_succ_cons, List.take_zero, List.drop_succ_cons, List.drop_zero]
        repeat still_step
        refine wpStill_nil ?_
        gi_wp2_with fail
        refine hR.mono ?_
        rintro e W1 (⟨rfl, hB1⟩ | ⟨rfl, hX1⟩)
        · have HB1 := Lib.hid hB1
          clear hR hB1 hyl
          gi_wp2
          go_roundw
          case rel => exact ⟨k + 1, _, hlt, by go_num, rfl, HB1.out⟩
          case measure => simp [intOf]; omega
        · have HX := Lib.hid hX1
          clear hR hX1 hyl
          gi_wp2
          refine bodyPost_ret (results_none rfl _ _ _) rfl ?_
          exact ⟨⟨_, rfl⟩, .inl HX.out⟩
      · have HZ := Lib.hid (hE wr ⟨by rw [hx1]; have := HN.out; omega, Below.refl _ _⟩)
        clear hT hE hb hr1 hr2 hBx
        first
          | (have hl' : ¬ (k : Int) < (N : Int) := by omega
             gi_wp2
             go_end0
             exact ⟨⟨_, rfl⟩, .inr HZ.out⟩)
          | (have hl' : ¬ (k : Int) < (b.length : Int) := by omega
             gi_wp2
             go_end0
             exact ⟨⟨_, rfl⟩, .inr HZ.out⟩)
          | (have hl' : ¬ (k : Int) < (a.length : Int) := by omega
             gi_wp2
             go_end0
             exact ⟨⟨_, rfl⟩, .inr HZ.out⟩)

/-! ### pairs at []sorites/api.Val, []sorites/api.Val -/
abbrev PeR (x : Nat × (Rw × Value) × (Rw × Value)) : Array Value := #[x.2.1.2, x.2.2.2]
theorem pairsR_in (n : Nat) (o1 : Option Addr) (n1 c1 : Nat) (o2 : Option Addr) (n2 c2 : Nat) (w : World) :
    CallsIn Fence.wide n Tryz.prog 105 #[.slice o1 n1 c1, .slice o2 n2 c2] w fun e w' => e = .returned (.func (.func 140) #[] #[.pointer (some ⟨w.heap.size, 0, none⟩), .pointer (some ⟨w.heap.size + 1, 0, none⟩)]) ∧ w' = (w.alloc (.cells #[.slice o1 n1 c1] 41)).alloc (.cells #[.slice o2 n2 c2] 41) := by
  refine callsIn_of_wp Tryz.func105 rfl trivial ?_ rfl
  simp only [Tryz.ntmps105, List.size_toArray, List.length_cons, List.length_nil, Nat.reduceAdd, Nat.reduceSub, Array.replicate_succ, Array.replicate_zero, List.push_toArray, List.append_toArray, List.nil_append, List.cons_append]
  gi_wp2
  go_ret
  exact ⟨rfl, rfl⟩
set_option linter.unusedSimpArgs false in
set_option maxRecDepth 100000 in
set_option maxHeartbeats 4000000 in
theorem pairsR_moves (n : Nat) (hn : 1 ≤ n) (a : List (Rw × Value)) (b : List (Rw × Value)) (v u : Value) (w0 : World) (B1 B2 : Nat) (hv : SlOf w0 w0.heap.size 1 HdC a v) (hu : SlOf w0 w0.heap.size 1 HdC b u) :
    Moves2 Fence.wide n Tryz.prog 140 (fun l => #[] ++ #[.func (.yield l) #[] #[]] ++ #[.pointer (some ⟨B1, 0, none⟩), .pointer (some ⟨B2, 0, none⟩)]) PeR (fun x W => PrG w0 v u 41 41 B1 B2 W ∧ x.1 ≤ a.length ∧ x.1 ≤ b.length) (PrT a b) (PrE a b) (0, default, default) := by
  intro lp A B X Z W hY hB h0
  obtain ⟨o1, cap1, rfl, hc1, hm1, S1⟩ := SlOf.open hv
  obtain ⟨o2, cap2, rfl, hc2, hm2, S2⟩ := SlOf.open hu
  have HY := Lib.hid hY
  have HB := Lib.hid hB
  have HB0 := Lib.hid h0
  obtain ⟨⟨⟨hb0, hr1, hr2⟩, _, _⟩, _, _⟩ := hB _ W h0
  have c1 : W.cell? ⟨B1, 0, none⟩ = some (.slice o1 a.length cap1) := (row_cell hr1 0).1
  have c2 : W.cell? ⟨B2, 0, none⟩ = some (.slice o2 b.length cap2) := (row_cell hr2 0).1
  have l1 := heapLt hr1
  have l2 := heapLt hr2
  clear hY hB hv hu hb0 hr1 hr2 h0
  simp only [List.append_toArray, List.cons_append, List.nil_append, List.append_nil]
  obtain ⟨N, hN⟩ : ∃ N : Nat, min (a.length : Int) (b.length : Int) = (N : Int) := ⟨min a.length b.length, by omega⟩
  have hNa : N ≤ a.length := by omega
  have hNb : N ≤ b.length := by omega
  have HN : Hid (N = a.length ∨ N = b.length) := Lib.hid (by omega)
  refine callsIn_of_wp Tryz.func140 rfl trivial ?_ rfl
  simp only [Tryz.ntmps140, List.size_toArray, List.length_cons, List.length_nil, Nat.reduceAdd, Nat.reduceSub, Array.replicate_succ, Array.replicate_zero, List.push_toArray, List.append_toArray, List.nil_append, List.cons_append]
  gi_wp2
  all_goals
    clear c1 c2 l1 l2
    gi_loopw [10] (fun i wr => ∃ (k : Nat) (x : Nat × (Rw × Value) × (Rw × Value)), k ≤ N ∧ i = .int .i64 k ∧ x.1 = k ∧ B x wr) (fun i _ => N - (intOf i).toNat)
    case atStart => exact ⟨0, _, Nat.zero_le _, rfl, rfl, HB0.out⟩
    case round =>
      obtain ⟨k, x, hk, rfl, hx1, hBx⟩ := hrel
      obtain ⟨⟨⟨hb, hr1, hr2⟩, _, _⟩, hT, hE⟩ := HB.out x wr hBx
      have hbs := hb.size
      by_cases hlt : k < N
      · have hlt' : (k : Int) < (N : Int) := by omega
        have hk0 : (0 : Int) ≤ (k : Int) := by omega
        have hlta : (k : Int) < (a.length : Int) := by omega
        have hltb : (k : Int) < (b.length : Int) := by omega
        obtain ⟨y, hy⟩ : ∃ y, a[k]? = some y := ⟨a[k], List.getElem?_eq_getElem (by omega)⟩
        obtain ⟨z, hz⟩ : ∃ z, b[k]? = some z := ⟨b[k], List.getElem?_eq_getElem (by omega)⟩
        obtain ⟨pc, rfl, hpc, c0⟩ := hd_at S1 hb hy
        have hlc : (pc.add k).block < wr.heap.size := by rw [addBlock]; omega
        obtain ⟨pd, rfl, hpd, d0⟩ := hd_at S2 hb hz
        have hld : (pd.add k).block < wr.heap.size := by rw [addBlock]; omega
        have hA := hT (k + 1, y, z) wr.drew ⟨by show k + 1 = x.1 + 1; omega, by rw [hx1]; exact hy, by rw [hx1]; exact hz, (Below.refl _ _).drew⟩
        obtain ⟨fn, tmps, assign, body, hyl, hR⟩ := HY.out _ _ hA
        have x1 : wr.cell? ⟨B1, 0, none⟩ = some (.slice (some pc) a.length cap1) := (row_cell hr1 0).1
        have x2 : wr.cell? ⟨B2, 0, none⟩ = some (.slice (some pd) b.length cap2) := (row_cell hr2 0).1
        have l1 := heapLt hr1
        have l2 := heapLt hr2
        clear hA hT hE hb hr1 hr2 hBx hy hz
        gi_wp2_with fail
        refine region_still_wide 9 (by kernel_rfl) (by kernel_rfl) ?_
        simp only [List.take_succ_cons, List.take_zero, List.drop_succ_cons, List.drop_zero]
        repeat still_step
        refine wpStill_nil ?_
        gi_wp2_with fail
        refine hR.mono ?_
        rintro e W1 (⟨rfl, hB1⟩ | ⟨rfl, hX1⟩)
        · have HB1 := Lib.hid hB1
          clear hR hB1 hyl
          gi_wp2
          go_roundw
          case rel => exact ⟨k + 1, _, hlt, by go_num, rfl, HB1.out⟩
          case measure => simp [intOf]; omega
        · have HX := Lib.hid hX1
          clear hR hX1 hyl
          gi_wp2
          refine bodyPost_ret (results_none rfl _ _ _) rfl ?_
          exact ⟨⟨_, rfl⟩, .inl HX.out⟩
      · have HZ := Lib.hid (hE wr ⟨by rw [hx1]; have := HN.out; omega, Below.refl _ _⟩)
        clear hT hE hb hr1 hr2 hBx
        first
          | (have hl' : ¬ (k : Int) < (N : Int) := by omega
             gi_wp2
             go_end0
             exact ⟨⟨_, rfl⟩, .inr HZ.out⟩)
          | (have hl' : ¬ (k : Int) < (b.length : Int) := by omega
             gi_wp2
             go_end0
             exact ⟨⟨_, rfl⟩, .inr HZ.out⟩)
          | (have hl' : ¬ (k : Int) < (a.length : Int) := by omega
             gi_wp2
             go_end0
             exact ⟨⟨_, rfl⟩, .inr HZ.out⟩)

end Go.Proofs.YthhepmddcncjoaaGreatDoor
namespace Go.Proofs.YthhepmddcncjoaaGreatDoor
open Go.RowKit Go.Shelf

attribute [local go_sem] Oper.semAt_some

theorem keepsB {W W' : World} (h : Below W.heap.size W W') (B : Nat) : KeepsFrom B W W' := KeepsFrom.of_grownBy (row := none) ⟨h.os, h.tape, h.output, h.size, fun k hk _ => h.block k hk⟩ (fun j e => by cases e)
theorem results_cell1 {P : Program} {fn : Func} {p : Tmp} {ty : TypeId} (h : fn.results = #[.cell p ty]) (tmps : Array Value) (w : World) (b : Nat) (v : Value) (hp : tmps.getD p undef = .pointer (some ⟨b, 0, none⟩)) (hr : (loadVar ty ⟨b, 0, none⟩).run P w = .ok v w) :
    (results fn tmps).run P w = .ok v w := by
  have hp' : tmps[p]?.getD undef = .pointer (some ⟨b, 0, none⟩) := by simpa using hp
  simp [results, h, hp', asAddr, hr, Sem.run_bind, Result.andThen]
theorem newRow {W : World} {b : Nat} {o : Obj} (hb : W.heap.size = b) : (W.alloc o).heap[b]? = some o := by subst hb; exact World.alloc_heap_new W o
theorem row_more {W : World} {b : Nat} {o : Obj} (h : W.heap[b]? = some o) (o' : Obj) : (W.alloc o').heap[b]? = some o := (Below.heap_alloc _ _ _ (heapLt h)).trans h
theorem setRow {W : World} {b : Nat} {T : TypeId} {u v : Value} (h : W.heap[b]? = some (.cells #[u] T (0, 0))) : (W.setCell ⟨b, 0, none⟩ v).heap[b]? = some (.cells #[v] T (0, 0)) := set_heap h v
theorem setOther {W : World} {b k : Nat} {v : Value} (hne : k ≠ b) : (W.setCell ⟨b, 0, none⟩ v).heap[k]? = W.heap[k]? := by
  simp [World.setCell, Array.getElem?_modify]
  intro e; exact absurd e.symm hne

theorem load_int {W : World} {b : Nat} {v : Value} (h : W.cell? ⟨b, 0, none⟩ = some v) : (loadVar 3 ⟨b, 0, none⟩).run Tryz.prog W = .ok v W := by
  have ha : ∀ w : World, (isAgg 3).run Tryz.prog w = .ok false w := fun w => by kernel_rfl
  have hl : b < W.heap.size := World.block_lt_of_cell? _ _ h
  unfold loadVar
  go_simp
theorem load_bool {W : World} {b : Nat} {v : Value} (h : W.cell? ⟨b, 0, none⟩ = some v) : (loadVar 4 ⟨b, 0, none⟩).run Tryz.prog W = .ok v W := by
  have ha : ∀ w : World, (isAgg 4).run Tryz.prog w = .ok false w := fun w => by kernel_rfl
  have hl : b < W.heap.size := World.block_lt_of_cell? _ _ h
  unfold loadVar
  go_simp
/-- The call ends: one mark is taken in, and the result is read from its cell. -/
theorem leave_cell {F : Fence} {n : Nat} {P : Program} {fn : Func} {p : Tmp} {ty : TypeId} (hres : fn.results = #[.cell p ty]) {R : Ending → World → Prop} {tmps : Array Value} {D b : Nat} {W : World} {v : Value} {T : TypeId} (hd : W.heap[D]? = some (.deferred (some [])))
    (hp : tmps.getD p undef = .pointer (some ⟨b, 0, none⟩)) (hv : W.heap[b]? = some (.cells #[v] T (0, 0))) (hload : ∀ W' : World, W'.cell? ⟨b, 0, none⟩ = some v → (loadVar ty ⟨b, 0, none⟩).run P W' = .ok v W')
    (hR : R (.returned v) (W.putObj D (.deferred none))) : bodyPostM F n P fn R Exit.ret { tmps := tmps, defers := [{ target := .collected D, args := #[] }] } W := by
  have hne : b ≠ D := fun e => by rw [e, hd] at hv; cases hv
  have hv2 : (W.putObj D (.deferred none)).heap[b]? = some (.cells #[v] T (0, 0)) := (World.putObj_heap_other hne).trans hv
  exact ⟨by simp, .inl ⟨_, _, rfl, run_takeDeferred hd, ⟨_, results_cell1 hres _ _ b v hp (hload _ (row_cell hv2 0).1), hR⟩⟩⟩
theorem put_gone {n D : Nat} {w W : World} (h : Below n w W) (hn : n ≤ D) : Below n w (W.putObj D (.deferred none)) :=
  ⟨h.os, h.tape, h.output, by simpa using h.size, fun i hi => (World.putObj_heap_other (by omega)).trans (h.block i hi)⟩
/-- What stands while two rows are gone through. -/
structure ClI (a b : Rw) (v u : Value) (w : World) (k : Nat) (W : World) : Prop where
  g : PrG w v u 39 39 (w.heap.size + 2) (w.heap.size + 2 + 1) W
  f : W.heap[w.heap.size]? = some (.cells #[.func (.func 94) #[] #[]] 168 (0, 0))
  r : W.heap[w.heap.size + 1]? = some (.cells #[.int .i64 0] 3 (0, 0))
  la : k ≤ a.length
  lb : k ≤ b.length
  e : rwC a b = lexC vlC (a.drop k) (b.drop k)
theorem PrG.put {w0 : World} {v u : Value} {T1 T2 : TypeId} {B1 B2 : Nat} {W W' : World} {B : Nat} (h : PrG w0 v u T1 T2 B1 B2 W) (hp : Put B W W') (hB : w0.heap.size ≤ B) : PrG w0 v u T1 T2 B1 B2 W' :=
  ⟨put_bel hp h.b hB, put_block hp h.one (.inl rfl), put_block hp h.two (.inl rfl)⟩
theorem PrG.below {w0 : World} {v u : Value} {T1 T2 : TypeId} {B1 B2 : Nat} {W W' : World} (h : PrG w0 v u T1 T2 B1 B2 W) (hb : Below W.heap.size W W') : PrG w0 v u T1 T2 B1 B2 W' :=
  ⟨h.b.trans (hb.mono h.b.size), (hb.block _ (heapLt h.one)).trans h.one, (hb.block _ (heapLt h.two)).trans h.two⟩
theorem ClI.put {a b : Rw} {v u : Value} {w : World} {k : Nat} {W W' : World} {B : Nat} (h : ClI a b v u w k W) (hp : Put B W W') (hB : w.heap.size ≤ B) : ClI a b v u w k W' :=
  ⟨h.g.put hp hB, put_block hp h.f (.inl rfl), put_block hp h.r (.inl rfl), h.la, h.lb, h.e⟩
theorem ClI.below {a b : Rw} {v u : Value} {w : World} {k : Nat} {W W' : World} (h : ClI a b v u w k W) (hb : Below W.heap.size W W') : ClI a b v u w k W' :=
  ⟨h.g.below hb, (hb.block _ (heapLt h.f)).trans h.f, (hb.block _ (heapLt h.r)).trans h.r, h.la, h.lb, h.e⟩

set_option linter.unusedSimpArgs false in
set_option maxRecDepth 100000 in
set_option maxHeartbeats 8000000 in
theorem pcl_c (a b : Rw) (v u : Value) (w : World) (hv : SlOf w w.heap.size 3 VlC a v) (hu : SlOf w w.heap.size 3 VlC b u) :
    Calls Tryz.prog 93 #[v, u, .func (.func 94) #[] #[]] w fun e w' => e = .returned (.int .i64 (rwC a b)) ∧ Below w.heap.size w w' := by
  refine callsIn_wide (n := 8).1 ?_
  have HV := Lib.hid hv
  have HU := Lib.hid hu
  obtain ⟨o1, cap1, rfl, hc1, hm1, S1⟩ := SlOf.open hv
  obtain ⟨o2, cap2, rfl, hc2, hm2, S2⟩ := SlOf.open hu
  obtain ⟨n0, hn0⟩ : ∃ n0, w.heap.size = n0 := ⟨_, rfl⟩
  have ec : ∀ args w, (callFunc 94 args).run Tryz.prog w = .ok (.enter 94 args) w := enters_of Tryz.func94 (by kernel_rfl) rfl
  clear hv hu
  refine callsIn_of_wp_marks Tryz.func93 rfl trivial ?_ rfl
  simp only [Tryz.ntmps93, List.size_toArray, List.length_cons, List.length_nil, Nat.reduceAdd, Nat.reduceSub, Array.replicate_succ, Array.replicate_zero, List.push_toArray, List.append_toArray, List.nil_append, List.cons_append]
  gi_wp2_with fail
  refine ⟨trivial, (pairsV_in 7 _ _ _ _ _ _ _).mono ?_⟩
  rintro e WL ⟨rfl, hWL⟩
  have hsz : WL.heap.size = n0 + 4 := by rw [hWL]; simp; omega
  have hI0 : ClI a b (.slice o1 a.length cap1) (.slice o2 b.length cap2) w 0 WL := by
    refine ⟨⟨?_, ?_, ?_⟩, ?_, ?_, Nat.zero_le _, Nat.zero_le _, rfl⟩
    · rw [hWL]
      exact ((((Below.refl _ w).alloc (Nat.le_refl _) _).alloc (by simp) _).alloc (by simp; omega) _).alloc (by simp; omega) _
    · rw [hWL]
      exact row_more (newRow (by simp)) _
    · rw [hWL]
      exact newRow (by simp)
    · rw [hWL]
      exact row_more (row_more (row_more (newRow rfl) _) _) _
    · rw [hWL]
      exact row_more (row_more (newRow (by simp)) _) _
  have HI0 := Lib.hid hI0
  have Hn0 := Lib.hid hn0
  have Hs := Lib.hid hsz
  have e4 : ((w.alloc (.cells #[.func (.func 94) #[] #[]] 168)).alloc (.cells #[.int .i64 0] 3)).heap.size = n0 + 2 := by simp; omega
  rw [e4]
  clear hI0 hsz e4 hWL
  gi_wp2_with fail
  refine range_moves2 rfl (by omega) (gf := 155) (bd := #[]) (lb := #[.pointer (some ⟨n0 + 2, 0, none⟩), .pointer (some ⟨n0 + 2 + 1, 0, none⟩)]) rfl trivial (enters_of Tryz.func155 (by kernel_rfl) rfl)
    (pairsV_moves 7 (by omega) a b _ _ w (n0 + 2) (n0 + 2 + 1) HV.out HU.out) (fun _ => rfl)
    (fun x W => ∃ j, x.1 = j + 1 ∧ ClI a b (.slice o1 a.length cap1) (.slice o2 b.length cap2) w j W ∧ a[j]? = some x.2.1 ∧ b[j]? = some x.2.2)
    (fun x W => ClI a b (.slice o1 a.length cap1) (.slice o2 b.length cap2) w x.1 W)
    (fun c W => c = .ret ∧ Below n0 w W ∧ W.heap[n0 + 1]? = some (.cells #[.int .i64 (rwC a b)] 3 (0, 0)))
    (fun W => ∃ k, (k = a.length ∨ k = b.length) ∧ ClI a b (.slice o1 a.length cap1) (.slice o2 b.length cap2) w k W)
    (fun x a' W => ∃ j m, x.1 = j + 1 ∧ n0 + 4 ≤ m ∧ ClI a b (.slice o1 a.length cap1) (.slice o2 b.length cap2) w j W ∧ a[j]? = some x.2.1 ∧ b[j]? = some x.2.2 ∧
      W.heap[m]? = some (.cells #[.bool x.2.1.sym, .int .i64 x.2.1.n, .string x.2.1.s] 51 (0, 0)) ∧ W.heap[m + 1]? = some (.cells #[.bool x.2.2.sym, .int .i64 x.2.2.n, .string x.2.2.s] 51 (0, 0)) ∧
      a' = { tmps := #[.slice o1 a.length cap1, .slice o2 b.length cap2, .func (.func 94) #[] #[], undef, undef, .pointer (some ⟨n0, 0, none⟩), .pointer (some ⟨n0 + 1, 0, none⟩), .pointer (some ⟨m, 0, none⟩), .pointer (some ⟨m + 1, 0, none⟩), undef, .slice o1 a.length cap1, .slice o2 b.length cap2,
        .func (.func 155) #[] #[.pointer (some ⟨n0 + 2, 0, none⟩), .pointer (some ⟨n0 + 2 + 1, 0, none⟩)], .agg #[.bool x.2.1.sym, .int .i64 x.2.1.n, .string x.2.1.s], .agg #[.bool x.2.2.sym, .int .i64 x.2.2.n, .string x.2.2.s], undef, undef, undef, undef, undef, undef, undef, undef, undef, undef, undef, undef], defers := [] })
    ?fB ?fX ?fZ ?fM ?h0 ?hB ?assign ?body ?done ?stop
  case fB =>
    rintro x W W' hp hI
    exact hI.put hp (by rw [Hs.out, Hn0.out]; omega)
  case fX =>
    rintro c W W' hp ⟨h1, h2, h3⟩
    exact ⟨h1, put_bel hp h2 (by rw [Hs.out]; omega), put_block hp h3 (.inl rfl)⟩
  case fZ =>
    rintro W W' hp ⟨k, h1, hI⟩
    exact ⟨k, h1, hI.put hp (by rw [Hs.out, Hn0.out]; omega)⟩
  case fM =>
    rintro x a' W W' hp ⟨j, m, h1, h2, h3, h4, h5, h6, h7, h8⟩
    exact ⟨j, m, h1, h2, h3.put hp (by rw [Hs.out, Hn0.out]; omega), h4, h5, put_block hp h6 (.inl rfl), put_block hp h7 (.inl rfl), h8⟩
  case h0 =>
    intro o o'
    exact HI0.out.below (((Below.refl _ _).alloc (Nat.le_refl _) _).alloc (by simp) _)
  case hB =>
    rintro x W1 hI
    have hg := hI.g
    rw [Hn0.out] at hg
    refine ⟨⟨hg, hI.la, hI.lb⟩, ?_, ?_⟩
    · rintro x' W2 ⟨t1, t2, t3, t4⟩
      exact ⟨keepsB t4 _, x.1, t1, hI.below t4, t2, t3⟩
    · rintro W2 ⟨t1, t2⟩
      exact ⟨keepsB t2 _, x.1, t1, hI.below t2⟩
  case assign =>
    rintro l x W ⟨j, h1, h2, h3, h4⟩
    obtain ⟨xk, xa, xb⟩ := x
    simp only at h1 h3 h4
    have hb := ((Below.refl W.heap.size W).alloc (Nat.le_refl _) (.cells #[.bool xa.sym, .int .i64 xa.n, .string xa.s] 51)).alloc (by simp) (.cells #[.bool xb.sym, .int .i64 xb.n, .string xb.s] 51)
    have H2 := Lib.hid (h2.below hb)
    have HK := Lib.hid (keepsB hb WL.heap.size)
    have hm : n0 + 4 ≤ W.heap.size := by
      have := heapLt h2.g.two
      rw [Hn0.out] at this
      omega
    have Hr1 := Lib.hid (row_more (World.alloc_heap_new W (.cells #[.bool xa.sym, .int .i64 xa.n, .string xa.s] 51)) (.cells #[.bool xb.sym, .int .i64 xb.n, .string xb.s] 51))
    have Hr2 := Lib.hid (newRow (W := W.alloc (.cells #[.bool xa.sym, .int .i64 xa.n, .string xa.s] 51)) (o := .cells #[.bool xb.sym, .int .i64 xb.n, .string xb.s] 51) (b := W.heap.size + 1) (by simp))
    clear h2 hb
    gi_wp2
    exact ⟨HK.out, j, W.heap.size, h1, hm, H2.out, h3, h4, Hr1.out, Hr2.out, by trivial⟩
  case body =>
    rintro l x a' W ⟨j, m, h1, h2, h3, h4, h5, h6, h7, rfl⟩
    obtain ⟨xk, xa, xb⟩ := x
    simp only at h1 h4 h5 h6 h7
    subst h1
    have H3 := Lib.hid h3
    have f0 := (row_cell h3.f 0).1
    have a0 : W.cell? ⟨m, 0, none⟩ = some (.bool xa.sym) := (row_cell h6 0).1
    have a1 : W.cell? ⟨m, 1, none⟩ = some (.int .i64 xa.n) := (row_cell h6 1).1
    have a2 : W.cell? ⟨m, 2, none⟩ = some (.string xa.s) := (row_cell h6 2).1
    have b0 : W.cell? ⟨m + 1, 0, none⟩ = some (.bool xb.sym) := (row_cell h7 0).1
    have b1 : W.cell? ⟨m + 1, 1, none⟩ = some (.int .i64 xb.n) := (row_cell h7 1).1
    have b2 : W.cell? ⟨m + 1, 2, none⟩ = some (.string xb.s) := (row_cell h7 2).1
    have l0 := heapLt h3.f
    have l1 := heapLt h6
    have l2 := heapLt h7
    rw [Hn0.out] at f0 l0
    have HVC := Lib.hid (pvals_c xa xb W)
    have Hst := Lib.hid (h3.e.trans (lex_at (c := vlC) h4 h5))
    have hja : j < a.length := (List.getElem?_eq_some_iff.1 h4).1
    have hjb : j < b.length := (List.getElem?_eq_some_iff.1 h5).1
    obtain ⟨z, hz⟩ : ∃ z, vlC xa xb = z := ⟨_, rfl⟩
    rw [hz] at HVC Hst
    clear h3 h4 h5 h6 h7 hz
    gi_wp2_with fail
    refine ⟨trivial, (CallsIn.inRound l (callsIn_wide.2 HVC.out)).mono ?_⟩
    rintro e w1 ⟨rfl, b1'⟩
    have H31 := Lib.hid (H3.out.below b1')
    have HK1 : Hid (KeepsFrom WL.heap.size W w1) := Lib.hid (keepsB b1' _)
    have r1 := (row_cell H31.out.r 0)
    have lr := heapLt H31.out.r
    rw [Hn0.out] at r1 lr
    obtain ⟨r1, r2⟩ := r1
    clear b1'
    by_cases hz0 : z = 0
    · subst hz0
      have Hz2 := Lib.hid (Hst.out.trans (if_pos rfl))
      have HE : Hid (ClI a b (.slice o1 a.length cap1) (.slice o2 b.length cap2) w (j + 1) w1) := Lib.hid ⟨H31.out.g, H31.out.f, H31.out.r, hja, hjb, Hz2.out⟩
      gi_wp2
      exact ⟨HK1.out, HE.out⟩
    · have Hz2 := Lib.hid (Hst.out.trans (if_neg hz0))
      have hz' : (z != 0) = true := by simpa using hz0
      have hrw : rwC a b = z := Hz2.out
      have HX : Hid (KeepsFrom WL.heap.size W (w1.setCell ⟨n0 + 1, 0, none⟩ (.int .i64 z)) ∧ Below n0 w (w1.setCell ⟨n0 + 1, 0, none⟩ (.int .i64 z)) ∧ (w1.setCell ⟨n0 + 1, 0, none⟩ (.int .i64 z)).heap[n0 + 1]? = some (.cells #[.int .i64 z] 3 (0, 0))) := Lib.hid (by
        have hr := H31.out.r
        rw [Hn0.out] at hr
        have hb := H31.out.g.b
        rw [Hn0.out] at hb
        refine ⟨HK1.out.trans (KeepsFrom.of_grownBy (grown_set w1 (n0 + 1) 0 (.int .i64 z)) (fun j e => by have := Option.some.inj e; have := Hs.out; omega)), hb.setCell (by show n0 ≤ n0 + 1; omega) _, setRow hr⟩)
      clear hrw
      gi_wp2
      exact ⟨HX.out.1, rfl, HX.out.2.1, by rw [Hz2.out]; exact HX.out.2.2⟩
  case done =>
    rintro D W hD ⟨k, hk, hI⟩ hd
    have HI := Lib.hid hI
    have Hd := Lib.hid hd
    have Hk : Hid (rwC a b = intC a.length b.length) := Lib.hid (by
      have hla := hI.la
      have hlb := hI.lb
      rw [hI.e]
      unfold intC
      rcases Nat.lt_trichotomy a.length b.length with h | h | h
      · rw [if_pos (by omega), lex_lo (by omega) (by omega)]
      · rw [if_neg (by omega), if_neg (by omega), lex_no (by omega) (by omega)]
      · rw [if_neg (by omega), if_pos (by omega), lex_hi (by omega) (by omega)])
    have HC := Lib.hid (cmpInt_c a.length b.length W)
    have hDl : D < W.heap.size := heapLt hd
    have HD := Lib.hid hD
    clear hI hd hk hD
    gi_wp2_with fail
    refine ⟨trivial, (callsIn_wide.2 HC.out).mono ?_⟩
    rintro e w1 ⟨rfl, b1⟩
    have H1 := Lib.hid (HI.out.below b1)
    have hr := H1.out.r
    rw [Hn0.out] at hr
    have r1 := (row_cell hr 0).1
    have r2 := (row_cell hr 0).2
    have lr := heapLt hr
    have Hr := Lib.hid hr
    have Hd1 : Hid (w1.heap[D]? = some (.deferred (some []))) := Lib.hid ((b1.block D hDl).trans Hd.out)
    have HB1 : Hid (Below n0 w w1) := Lib.hid (by have := H1.out.g.b; rwa [Hn0.out] at this)
    have hne : n0 + 1 ≠ D := by have := Hs.out; have := HD.out; omega
    clear b1 hr
    gi_wp2
    refine leave_cell rfl (b := n0 + 1) (T := 3) (v := .int .i64 (intC a.length b.length)) ((setOther (fun e => hne e.symm)).trans Hd1.out) rfl (setRow Hr.out) (fun _ h => load_int h) ?_
    exact ⟨by rw [Hk.out], by rw [Hn0.out]; exact put_gone (HB1.out.setCell (by show n0 ≤ n0 + 1; omega) _) (by have := Hs.out; have := HD.out; omega)⟩
  case stop =>
    rintro D c W hD ⟨rfl, h2, h3⟩ hd
    gi_wp2
    refine leave_cell rfl (b := n0 + 1) (T := 3) hd rfl h3 (fun _ h => load_int h) ?_
    exact ⟨rfl, by rw [Hn0.out]; exact put_gone h2 (by have := Hs.out; omega)⟩
set_option maxRecDepth 100000 in
set_option maxHeartbeats 4000000 in
theorem pcompare_c (a b : Rw) (v u : Value) (w : World) (hv : SlOf w w.heap.size 3 VlC a v) (hu : SlOf w w.heap.size 3 VlC b u) :
    Calls Tryz.prog 58 #[v, u] w fun e w' => e = .returned (.int .i64 (rwC a b)) ∧ Below w.heap.size w w' := by
  have HP := Lib.hid (pcl_c a b v u w hv hu)
  clear hv hu
  go_enter Tryz.func58, Tryz.ntmps58
  go_wp2_with fail
  refine HP.out.mono ?_
  rintro e w1 ⟨rfl, b1⟩
  go_wp2
  go_ret
  exact ⟨rfl, b1⟩
end Go.Proofs.YthhepmddcncjoaaGreatDoor
namespace Go.Proofs.YthhepmddcncjoaaGreatDoor
open Go.RowKit

def Laid {α : Type} (z : Nat) (L : α → List Value → Prop) (acc : List α) (xs : List Value) : Prop :=
  xs.length = acc.length * z ∧ ∀ i x, acc[i]? = some x → ∃ cs, cs.length = z ∧ L x cs ∧ ∀ j c, cs[j]? = some c → xs[i * z + j]? = some c
theorem Laid.nil {α : Type} {z : Nat} {L : α → List Value → Prop} : Laid z L [] [] := ⟨by simp, fun i x h => by simp at h⟩
theorem Laid.app {α : Type} {z : Nat} {L : α → List Value → Prop} {l m : List α} {xs ys : List Value} (h : Laid z L l xs) (k : Laid z L m ys) : Laid z L (l ++ m) (xs ++ ys) := by
  refine ⟨by rw [List.length_append, List.length_append, h.1, k.1, Nat.add_mul], fun i x hx => ?_⟩
  rcases Nat.lt_or_ge i l.length with hi | hi
  · rw [List.getElem?_append_left hi] at hx
    obtain ⟨cs, c1, c2, c3⟩ := h.2 i x hx
    refine ⟨cs, c1, c2, fun j c hj => ?_⟩
    have := c3 j c hj
    rw [List.getElem?_append_left (List.getElem?_eq_some_iff.1 this).1]
    exact this
  · rw [List.getElem?_append_right hi] at hx
    obtain ⟨cs, c1, c2, c3⟩ := k.2 _ x hx
    refine ⟨cs, c1, c2, fun j c hj => ?_⟩
    have := c3 j c hj
    have e : i * z + j - xs.length = (i - l.length) * z + j := by
      rw [h.1, Nat.sub_mul]
      have : l.length * z ≤ i * z := Nat.mul_le_mul_right _ hi
      omega
    rw [List.getElem?_append_right (by rw [h.1]; have : l.length * z ≤ i * z := Nat.mul_le_mul_right _ hi; omega), e]
    exact this
theorem Laid.one {α : Type} {z : Nat} {L : α → List Value → Prop} {x : α} {cs : List Value} (hz : cs.length = z) (h : L x cs) : Laid z L [x] cs := by
  refine ⟨by simp [hz], fun i y hy => ?_⟩
  cases i with
  | zero =>
    obtain rfl : x = y := by simpa using hy
    exact ⟨cs, hz, h, fun j c hj => by rw [Nat.zero_mul, Nat.zero_add]; exact hj⟩
  | succ i => simp at hy
theorem Laid.snoc {α : Type} {z : Nat} {L : α → List Value → Prop} {acc : List α} {xs : List Value} {x : α} {cs : List Value} (h : Laid z L acc xs) (hz : cs.length = z) (hx : L x cs) : Laid z L (acc ++ [x]) (xs ++ cs) := h.app (.one hz hx)
theorem Laid.mono {α : Type} {z : Nat} {L L' : α → List Value → Prop} {acc : List α} {xs : List Value} (h : Laid z L acc xs) (hL : ∀ x cs, L x cs → L' x cs) : Laid z L' acc xs :=
  ⟨h.1, fun i x hx => let ⟨cs, a, b, c⟩ := h.2 i x hx; ⟨cs, a, hL x cs b, c⟩⟩
theorem sl_laid {α : Type} {w : World} {B z : Nat} {R : α → List Value → Prop} {l : List α} {v : Value} (h : SlOf w B z R l v) (h1 : ∀ x cs, R x cs → ∀ u ∈ cs, u.oneCell' = true) : ∃ xs, Laid z R l xs ∧ Spread w z v l.length xs := by
  rcases h with ⟨rfl, rfl⟩ | ⟨a, cap, rfl, _, _, _, h5⟩
  · exact ⟨[], Laid.nil, .inl ⟨rfl, rfl, rfl⟩⟩
  · have key : ∀ k, k ≤ l.length → ∃ xs, Laid z R (l.take k) xs ∧ (∀ j u, xs[j]? = some u → w.cell? (a.add j) = some u) ∧ ∀ u ∈ xs, u.oneCell' = true := by
      intro k
      induction k with
      | zero => intro _; exact ⟨[], by simpa using Laid.nil, fun j u hu => by simp at hu, fun u hu => by simp at hu⟩
      | succ k ih =>
        intro hk
        obtain ⟨xs, e1, e2, e3⟩ := ih (by omega)
        have hx : l[k]? = some l[k] := List.getElem?_eq_getElem (by omega)
        obtain ⟨cs, c1, c2, c3⟩ := h5 k _ hx
        have hl : xs.length = k * z := by rw [e1.1, List.length_take, Nat.min_eq_left (by omega)]
        refine ⟨xs ++ cs, ?_, fun j u hu => ?_, fun u hu => ?_⟩
        · rw [List.take_add_one, hx]
          exact e1.snoc c1 c2
        · rcases Nat.lt_or_ge j xs.length with hj | hj
          · rw [List.getElem?_append_left hj] at hu
            exact e2 j u hu
          · rw [List.getElem?_append_right hj] at hu
            have := c3 _ u hu
            rw [← hl, Nat.add_sub_cancel' hj] at this
            exact this
        · rcases List.mem_append.1 hu with hu | hu
          · exact e3 u hu
          · exact h1 _ _ c2 u hu
    obtain ⟨xs, e1, e2, e3⟩ := key l.length (Nat.le_refl _)
    rw [List.take_length] at e1
    exact ⟨xs, e1, .inr ⟨a, cap, rfl, e1.1, e2, e3⟩⟩
theorem sl_own0 {α : Type} {w : World} {base : Nat} {e : TypeId} {z : Nat} {v : Value} {xs : List Value} {acc : List α} {P : α → List Value → Prop} (h : w.ownsRow base e z v acc.length xs) (hl : Laid z P acc xs) : SlOf w w.heap.size z P acc v := by
  rcases h.2 with ⟨rfl, h0⟩ | ⟨g, cap, cur, hv, hb, hg, hn, hc, hcur, ht⟩
  · exact .inl ⟨rfl, List.eq_nil_of_length_eq_zero h0⟩
  · refine .inr ⟨⟨g, 0, none⟩, cap, hv, hn, hc, fun _ => (Array.getElem?_eq_some_iff.1 hg).1, fun i x hx => ?_⟩
    obtain ⟨cs, hz, hP, hcs⟩ := hl.2 i x hx
    exact ⟨cs, hz, hP, fun j c hj => h.cells (g := g) (by rw [hv]; rfl) (i * z + j) c (hcs j c hj)⟩
def hide (b : Nat) (w : World) : World := { w with heap := w.heap.mapIdx fun i o => if i = b then .cells #[] 0 else o }
theorem hide_heap (b : Nat) (w : World) (k : Nat) : (hide b w).heap[k]? = (w.heap[k]?).map fun o => if k = b then .cells #[] 0 else o := by simp [hide]
theorem hide_size (b : Nat) (w : World) : (hide b w).heap.size = w.heap.size := by simp [hide]
theorem hide_other {b k : Nat} (w : World) (h : k ≠ b) : (hide b w).heap[k]? = w.heap[k]? := by
  rw [hide_heap]
  cases hw : w.heap[k]? with
  | none => rfl
  | some o => rw [Option.map_some, if_neg h]
theorem hide_cell {b : Nat} {w : World} {p : Addr} {v : Value} : (hide b w).cell? p = some v ↔ p.block ≠ b ∧ w.cell? p = some v := by
  by_cases hp : p.block = b
  · constructor
    · intro h
      exfalso
      unfold World.cell? at h
      rw [hide_heap] at h
      cases hw : w.heap[p.block]? with
      | none => rw [hw] at h; simp at h
      | some o => rw [hw, Option.map_some, if_pos hp] at h; simp at h
    · rintro ⟨h, _⟩
      exact absurd hp h
  · rw [World.cell?_of_block (hide_other w hp)]
    exact ⟨fun h => ⟨hp, h⟩, fun h => h.2⟩
/-- The world with a slice's own block hidden. -/
def hideV (v : Value) (w : World) : World :=
  match v.ownBlock with
  | some g => hide g w
  | none => w
theorem hideV_cell {v : Value} {w : World} {p : Addr} {c : Value} : (hideV v w).cell? p = some c ↔ some p.block ≠ v.ownBlock ∧ w.cell? p = some c := by
  unfold hideV
  cases v.ownBlock with
  | none => simp
  | some g =>
    simp only
    rw [hide_cell]
    exact ⟨fun h => ⟨fun e => h.1 (Option.some.inj e), h.2⟩, fun h => ⟨fun e => h.1 (by rw [e]), h.2⟩⟩
theorem hideV_nil (w : World) : hideV (.slice none 0 0) w = w := rfl

theorem vl_one (x : Vl) (cs : List Value) (h : VlC x cs) : ∀ u ∈ cs, u.oneCell' = true := by
  obtain ⟨rfl, _, _⟩ := h
  intro y hy
  simp only [List.mem_cons, List.mem_nil_iff, or_false] at hy
  rcases hy with rfl | rfl | rfl <;> rfl
theorem own_hide {W : World} {base e size n : Nat} {u v : Value} {xs : List Value} (h : W.ownsRow base e size u n xs) (hv : ∀ g, v.ownBlock = some g → g < base) : (hideV v W).ownsRow base e size u n xs := by
  refine ⟨h.1, ?_⟩
  rcases h.2 with h2 | ⟨g, cap, cur, e1, e2, e3, e4⟩
  · exact .inl h2
  · refine .inr ⟨g, cap, cur, e1, e2, ?_, e4⟩
    unfold hideV
    cases hb : v.ownBlock with
    | none => exact e3
    | some k => exact (hide_other W (by have := hv k hb; omega)).trans e3
theorem hideV_size (v : Value) (w : World) : (hideV v w).heap.size = w.heap.size := by
  unfold hideV
  cases v.ownBlock with
  | none => rfl
  | some g => exact hide_size g w
/-- What is seen apart from one row stays so, when that row and nothing else has turned. -/
theorem see_grown {α : Type} {W W' : World} {v v' : Value} {B B' z : Nat} {R : α → List Value → Prop} {l : List α} {u : Value} (h : SlOf (hideV v W) B z R l u) (hg : W.grownBy W' v.ownBlock) (hv : v'.ownBlock = v.ownBlock ∨ v'.ownBlock = some W.heap.size) (hB : B ≤ B') : SlOf (hideV v' W') B' z R l u := by
  refine sl_cellsTo h (fun p c hc => ?_) hB
  obtain ⟨h1, h2⟩ := hideV_cell.1 hc
  have hlt := World.block_lt_of_cell? _ _ h2
  refine hideV_cell.2 ⟨fun e => ?_, (World.cell?_of_block (hg.block _ hlt (fun e => h1 e))).trans h2⟩
  rcases hv with hv | hv
  · rw [hv] at e; exact h1 e
  · rw [hv] at e; have := Option.some.inj e; omega
theorem see_below {α : Type} {W W' : World} {v : Value} {B B' z : Nat} {R : α → List Value → Prop} {l : List α} {u : Value} (h : SlOf (hideV v W) B z R l u) (hb : Below W.heap.size W W') (hB : B ≤ B') : SlOf (hideV v W') B' z R l u :=
  sl_cellsTo h (fun p c hc => by
    obtain ⟨h1, h2⟩ := hideV_cell.1 hc
    exact hideV_cell.2 ⟨h1, (hb.cell (World.block_lt_of_cell? _ _ h2)).trans h2⟩) hB
theorem see_out {α : Type} {W : World} {v : Value} {B z : Nat} {R : α → List Value → Prop} {l : List α} {u : Value} (h : SlOf (hideV v W) B z R l u) : SlOf W B z R l u :=
  sl_cellsTo h (fun p c hc => (hideV_cell.1 hc).2) (Nat.le_refl _)
/-- Rows of one's own, whose values lie elsewhere. -/
structure RoR (w : World) (base : Nat) (v : Value) (hs : List (Rw × Value)) (W : World) : Prop where
  own : W.ownsRow base 39 1 v hs.length (hs.map Prod.snd)
  see : ∀ x ∈ hs, SlOf (hideV v W) W.heap.size 3 VlC x.1 x.2
  b : Below base w W
theorem RoR.below {w W W' : World} {base : Nat} {v : Value} {hs : List (Rw × Value)} (h : RoR w base v hs W) (hb : Below W.heap.size W W') (hB : base ≤ W.heap.size) : RoR w base v hs W' :=
  ⟨own_past h.own hb, fun x hx => see_below (h.see x hx) hb hb.size, h.b.trans (hb.mono hB)⟩
theorem RoR.rows {w W : World} {base : Nat} {v : Value} {hs : List (Rw × Value)} (h : RoR w base v hs W) : RwsS W W.heap.size (hs.map Prod.fst) v := by
  have h1 : SlOf W W.heap.size 1 HdC hs v := sl_own0 h.own ⟨by simp, fun i x hx => ⟨[x.2], rfl, rfl, fun j c hj => by
    have hj0 : j = 0 := by have := (List.getElem?_eq_some_iff.1 hj).1; simp at this; omega
    subst hj0
    rw [Nat.mul_one, Nat.add_zero, List.getElem?_map, hx]
    simpa using hj⟩⟩
  rcases h1 with ⟨rfl, rfl⟩ | ⟨a, cap, e1, e2, e3, e4, e5⟩
  · exact .inl ⟨rfl, rfl⟩
  · refine .inr ⟨a, cap, by rw [List.length_map]; exact e1, by rw [List.length_map]; exact e2, e3, fun hne => e4 (by rintro rfl; exact hne rfl), fun i r hr => ?_⟩
    rw [List.getElem?_map] at hr
    cases hx : hs[i]? with
    | none => rw [hx] at hr; cases hr
    | some x =>
      rw [hx] at hr
      cases hr
      obtain ⟨cs, c1, c2, c3⟩ := e5 i x hx
      exact ⟨cs, c1, ⟨x.2, c2, see_out (h.see x (List.mem_of_getElem? hx))⟩, c3⟩
/-- A row of one's own put behind them. -/
theorem RoR.snoc {w W W' : World} {base : Nat} {v v' : Value} {hs : List (Rw × Value)} {r : Rw} {u : Value} (h : RoR w base v hs W) (hg : W.grownBy W' v.ownBlock) (hv : v'.ownBlock = v.ownBlock ∨ v'.ownBlock = some W.heap.size)
    (hu : SlOf (hideV v W) W.heap.size 3 VlC r u) (ho : W'.ownsRow base 39 1 v' (hs.length + 1) (hs.map Prod.snd ++ [u])) (hB : base ≤ W.heap.size) : RoR w base v' (hs ++ [(r, u)]) W' := by
  refine ⟨by simpa using ho, fun x hx => ?_, ?_⟩
  · rcases List.mem_append.1 hx with hx | hx
    · exact see_grown (h.see x hx) hg hv hg.size
    · rw [List.mem_singleton.1 hx]
      exact see_grown hu hg hv hg.size
  · exact h.b.grown hg hB (fun k hk => (h.own.lt k hk).1)
end Go.Proofs.YthhepmddcncjoaaGreatDoor
namespace Go.Proofs.YthhepmddcncjoaaGreatDoor
open Go.RowKit

theorem infoRow : (Tryz.prog.info? 39).map (fun i => (i.zero, i.size, i.bytes)) = some (some (.slice none 0 0), 1, 24) := by kernel_rfl
theorem one_row (v : Value) (h : v.oneCell' = true) : ∀ u ∈ [v], u.oneCell' = true := by
  intro u hu
  rw [List.mem_singleton.1 hu]
  exact h
theorem own_lt {w : World} {base e size n : Nat} {v : Value} {xs : List Value} (h : w.ownsRow base e size v n xs) {b : Nat} (hb : b < base) : v.ownBlock ≠ some b := by
  intro he
  have := (h.lt b he).1
  omega
theorem take_snoc {α : Type} {l : List α} {k : Nat} {x : α} (h : l[k]? = some x) : l.take (k + 1) = l.take k ++ [x] := by
  rw [List.take_add_one, h]
  simp
theorem drop_cons' {α : Type} {l : List α} {k : Nat} {x : α} (h : l[k]? = some x) : l.drop k = x :: l.drop (k + 1) := by
  rw [List.drop_eq_getElem_cons (List.getElem?_eq_some_iff.1 h).1, (List.getElem?_eq_some_iff.1 h).2]
section
variable {α : Type} {c : α → α → Int}
theorem rise_drop {l : List α} {k : Nat} {x y : α} (hx : l[k]? = some x) (hy : l[k + 1]? = some y) : riseL c (l.drop k) = (decide (c x y < 0) && riseL c (l.drop (k + 1))) := by
  rw [drop_cons' hx, drop_cons' hy]; rfl
theorem rise_last {l : List α} {k : Nat} (h : l.length ≤ k + 1) : riseL c (l.drop k) = true := by
  cases hd : l.drop k with
  | nil => rfl
  | cons a m =>
    have h1 := congrArg List.length hd
    rw [List.length_drop, List.length_cons] at h1
    have : m = [] := List.eq_nil_of_length_eq_zero (by omega)
    rw [this]; rfl
theorem in_drop {l : List α} {k : Nat} {x t : α} (hx : l[k]? = some x) : inL c (l.drop k) t = (decide (c x t = 0) || inL c (l.drop (k + 1)) t) := by
  rw [drop_cons' hx]; rfl
theorem putL_cons (x : α) (m : List α) (t : α) : putL c (x :: m) t = if c x t < 0 then x :: putL c m t else if c x t = 0 then x :: m else t :: x :: m := rfl
theorem newL_cons (x : α) (m : List α) (t : α) : newL c (x :: m) t = if c x t < 0 then newL c m t else if c x t = 0 then false else true := rfl
theorem put_lt {l : List α} {k : Nat} {x t : α} (hx : l[k]? = some x) (h : c x t < 0) : l.take k ++ putL c (l.drop k) t = l.take (k + 1) ++ putL c (l.drop (k + 1)) t ∧ newL c (l.drop k) t = newL c (l.drop (k + 1)) t := by
  rw [drop_cons' hx, take_snoc hx, putL_cons, newL_cons, if_pos h, if_pos h]
  exact ⟨by simp, rfl⟩
theorem put_eq {l : List α} {k : Nat} {x t : α} (hx : l[k]? = some x) (h : c x t = 0) : putL c (l.drop k) t = l.drop k ∧ newL c (l.drop k) t = false := by
  have h0 : ¬ c x t < 0 := by omega
  rw [drop_cons' hx, putL_cons, newL_cons, if_neg h0, if_neg h0, if_pos h, if_pos h]
  exact ⟨rfl, rfl⟩
theorem put_gt {l : List α} {k : Nat} {x t : α} (hx : l[k]? = some x) (h1 : ¬ c x t < 0) (h2 : ¬ c x t = 0) : putL c (l.drop k) t = [t] ++ l.drop k ∧ newL c (l.drop k) t = true := by
  rw [drop_cons' hx, putL_cons, newL_cons, if_neg h1, if_neg h1, if_neg h2, if_neg h2]
  exact ⟨rfl, rfl⟩
theorem put_end {l : List α} {k : Nat} {t : α} (h : l.length ≤ k) : putL c (l.drop k) t = [t] ++ l.drop k ∧ newL c (l.drop k) t = true := by
  rw [List.drop_of_length_le h]
  exact ⟨rfl, rfl⟩
end

theorem held2' {W w1 : World} (b : Below W.heap.size W.drew w1) {p q : Addr} {v0 v1 : Value} (hp : p.block < W.heap.size) (hq : q.block < W.heap.size)
    (h : W.cell? p = some v0 ∧ W.cell? q = some v1) : w1.cell? p = some v0 ∧ w1.cell? q = some v1 := ⟨(b.cell hp).trans h.1, (b.cell hq).trans h.2⟩

set_option maxRecDepth 100000 in
set_option maxHeartbeats 4000000 in
theorem rrise_c (l : List Rw) (v : Value) (w : World) (h1 : RwsS w w.heap.size l v) :
    Calls Tryz.prog 69 #[v] w fun e w' => e = .returned (.bool (riseL rwC l)) ∧ Below w.heap.size w w' := by
  obtain ⟨o1, cap1, rfl, hc1, hm1, S1⟩ := SlOf.open h1
  clear h1
  go_enter Tryz.func69, Tryz.ntmps69
  go_wp2
  go_loopw [3] (fun i wr => ∃ k : Nat, i = .int .i64 ((k : Int) + 1) ∧ (k = 0 ∨ k < l.length) ∧ riseL rwC l = riseL rwC (l.drop k) ∧ Below w.heap.size w wr) (fun i _ => l.length - (intOf i).toNat)
  case atStart => exact ⟨0, rfl, .inl rfl, rfl, Below.refl _ _⟩
  case round =>
    obtain ⟨k, rfl, hk, hr, hB⟩ := hrel
    have Hr := Lib.hid hr
    clear hr
    by_cases hlt : k + 1 < l.length
    · have hlt' : (k : Int) + 1 < (l.length : Int) := by omega
      have hlt2 : (k : Int) < (l.length : Int) := by omega
      have hk0 : (0 : Int) ≤ (k : Int) := by omega
      have hk1 : (0 : Int) ≤ (k : Int) + 1 := by omega
      obtain ⟨x, hx⟩ : ∃ x, l[k]? = some x := ⟨l[k], List.getElem?_eq_getElem (by omega)⟩
      obtain ⟨y, hy⟩ : ∃ y, l[k + 1]? = some y := ⟨l[k + 1], List.getElem?_eq_getElem hlt⟩
      obtain ⟨a, p3, q3, rfl, ha, Hx, c0, _⟩ := rw_at S1 hB hx
      obtain ⟨a', p4, q4, e2, _, Hy, d0, _⟩ := rw_at S1 hB hy
      cases e2
      have hBs := hB.size
      have hal : (a.add k).block < wr.heap.size := by rw [addBlock]; omega
      have hal2 : (a.add (k + 1)).block < wr.heap.size := by rw [addBlock]; omega
      have ea : a.add (k + 1) = ⟨a.block, a.off + (k + 1), none⟩ := by unfold Addr.add; simp
      rw [ea] at d0 hal2
      have Hst := Lib.hid (Hr.out.trans (rise_drop (c := rwC) hx hy))
      clear ea
      clear hx hy
      have HI := Lib.hid (fun (W : World) (hb : Below wr.heap.size wr W) => rcompare_c x y _ _ W (VlS.past Hx.out hb) (VlS.past Hy.out hb))
      obtain ⟨z, hz⟩ : ∃ z, rwC x y = z := ⟨_, rfl⟩
      rw [hz] at HI Hst
      clear hz
      have u1 : IntKind.i64.wrap ((k : Int) + 1 - 1) = (k : Int) := by rw [show (k : Int) + 1 - 1 = k by omega]; exact IntWalk.i64_in _ (by omega)
      have u0 : IntKind.i64.wrap (k : Int) = (k : Int) := IntWalk.i64_in _ (by omega)
      have u2 : IntKind.i64.wrap ((k : Int) + 1) = (k : Int) + 1 := IntWalk.i64_in _ (by omega)
      have u3 : ((k : Int) + 1).toNat = k + 1 := by omega
      go_wp2
      go_region_held3 (fun w' => w'.cell? (a.add k) = some (.slice p3 x.length q3) ∧ w'.cell? ⟨a.block, a.off + (k + 1), none⟩ = some (.slice p4 y.length q4)) (first | exact ⟨c0, d0⟩ | exact hk) (first | (go_at_call 101; have hh := HI.out wr.drew ((Below.refl wr.heap.size wr).drew); refine hh.mono ?_; rintro e w1 ⟨rfl, b1⟩; have hk := held2' (q := ⟨a.block, a.off + (k + 1), none⟩) b1 hal hal2 ⟨c0, d0⟩))
      have hB3 := hB.trans ((((Below.refl _ wr).drew).trans (b1.mono (by show _ ≤ wr.heap.size; omega))).mono hBs)
      by_cases h0 : (0 : Int) ≤ z
      · have Hz : Hid (riseL rwC l = false) := Lib.hid (Hst.out.trans (by rw [decide_eq_false (by omega)]; rfl))
        go_wp2
        go_ret
        exact ⟨by rw [Hz.out]; rfl, hB3⟩
      · have Hz := Lib.hid (Hst.out.trans (by rw [decide_eq_true (show z < 0 by omega), Bool.true_and]))
        go_wp2
        go_roundw
        case rel => exact ⟨k + 1, by go_num, .inr hlt, Hz.out, hB3⟩
        case measure => simp [intOf]; omega
    · have hlt' : ¬ (k : Int) + 1 < (l.length : Int) := by omega
      have Hz : Hid (riseL rwC l = true) := Lib.hid (by rw [Hr.out, rise_last (by omega)])
      go_wp2
      go_ret
      exact ⟨by rw [Hz.out]; rfl, hB⟩

end Go.Proofs.YthhepmddcncjoaaGreatDoor
