/- Sets gone through one by one: slices.Values; cover.eachBelow. -/
import Derived.Test.YtiljpacmkmmlcaaWd
import Derived.Test.YtiljpacmkmmlcaaRng
import Derived.Test.YtiljpacmkmmlcaaRst
import Derived.LoopIn
import Derived.OwnWalkIn
import Derived.Shelf.Abstract
set_option linter.unusedSimpArgs false
set_option linter.unusedVariables false
namespace Go.Proofs.Ytiljpacmkmmlcaa
open Go.RowKit Go.Shelf

attribute [local go_sem] Oper.semAt_some

theorem heapLt {W : World} {b : Nat} {o : Obj} (h : W.heap[b]? = some o) : b < W.heap.size := (Array.getElem?_eq_some_iff.1 h).1
theorem keepsB {W W' : World} (h : Below W.heap.size W W') (B : Nat) : KeepsFrom B W W' := KeepsFrom.of_grownBy (row := none) ⟨h.os, h.tape, h.output, h.size, fun k hk _ => h.block k hk⟩ (fun j e => by cases e)
theorem newRow {W : World} {b : Nat} {o : Obj} (hb : W.heap.size = b) : (W.alloc o).heap[b]? = some o := by subst hb; exact World.alloc_heap_new W o
theorem row_more {W : World} {b : Nat} {o : Obj} (h : W.heap[b]? = some o) (o' : Obj) : (W.alloc o').heap[b]? = some o := (Below.heap_alloc _ _ _ (heapLt h)).trans h
theorem setRow {W : World} {b : Nat} {T : TypeId} {u v : Value} (h : W.heap[b]? = some (.cells #[u] T (0, 0))) : (W.setCell ⟨b, 0, none⟩ v).heap[b]? = some (.cells #[v] T (0, 0)) := set_heap h v
theorem setOther {W : World} {b k : Nat} {v : Value} (hne : k ≠ b) : (W.setCell ⟨b, 0, none⟩ v).heap[k]? = W.heap[k]? := by
  simp [World.setCell, Array.getElem?_modify]
  intro e; exact absurd e.symm hne
theorem put_gone {n D : Nat} {w W : World} (h : Below n w W) (hn : n ≤ D) : Below n w (W.putObj D (.deferred none)) :=
  ⟨h.os, h.tape, h.output, by simpa using h.size, fun i hi => (World.putObj_heap_other (by omega)).trans (h.block i hi)⟩

/-- What a walk over sets reads: they lie where they lay; its box. -/
structure OnG (w0 : World) (v : Value) (B1 : Nat) (W : World) : Prop where
  b : Below w0.heap.size w0 W
  one : W.heap[B1]? = some (.cells #[v] 44 (0, 0))
theorem OnG.put {w0 : World} {v : Value} {B1 : Nat} {W W' : World} {B : Nat} (h : OnG w0 v B1 W) (hp : Put B W W') (hB : w0.heap.size ≤ B) : OnG w0 v B1 W' :=
  ⟨put_bel hp h.b hB, put_block hp h.one (.inl rfl)⟩
theorem OnG.below {w0 : World} {v : Value} {B1 : Nat} {W W' : World} (h : OnG w0 v B1 W) (hb : Below W.heap.size W W') : OnG w0 v B1 W' :=
  ⟨h.b.trans (hb.mono h.b.size), (hb.block _ (heapLt h.one)).trans h.one⟩
/-- All of them: how many have come, and the last one. -/
abbrev OnV (x : Nat × Nat) : Array Value := #[.int .u64 (x.2 : Int)]
def OnT (ms : List Nat) (x : Nat × Nat) (W : World) (x' : Nat × Nat) (W' : World) : Prop := x'.1 = x.1 + 1 ∧ ms[x.1]? = some x'.2 ∧ Below W.heap.size W W'
def OnE (ms : List Nat) (x : Nat × Nat) (W W' : World) : Prop := x.1 = ms.length ∧ Below W.heap.size W W'
theorem values_in (n : Nat) (o1 : Option Addr) (n1 c1 : Nat) (w : World) :
    CallsIn Fence.wide n Try.prog 34 #[.slice o1 n1 c1] w fun e w' => e = .returned (.func (.func 41) #[] #[.pointer (some ⟨w.heap.size, 0, none⟩)]) ∧ w' = w.alloc (.cells #[.slice o1 n1 c1] 44) := by
  refine callsIn_of_wp Try.func34 rfl trivial ?_ rfl
  simp only [Try.ntmps34, List.size_toArray, List.length_cons, List.length_nil, Nat.reduceAdd, Nat.reduceSub, Array.replicate_succ, Array.replicate_zero, List.push_toArray, List.append_toArray, List.nil_append, List.cons_append]
  gi_wp2
  go_ret
  exact ⟨rfl, rfl⟩
theorem each_in (n : Nat) (o1 : Option Addr) (n1 c1 : Nat) (t : Nat) (w : World) :
    CallsIn Fence.wide n Try.prog 43 #[.slice o1 n1 c1, .int .u64 (t : Int)] w fun e w' => e = .returned (.func (.func 44) #[] #[.pointer (some ⟨w.heap.size, 0, none⟩), .pointer (some ⟨w.heap.size + 1, 0, none⟩)]) ∧ w' = (w.alloc (.cells #[.slice o1 n1 c1] 44)).alloc (.cells #[.int .u64 (t : Int)] 54) := by
  refine callsIn_of_wp Try.func43 rfl trivial ?_ rfl
  simp only [Try.ntmps43, List.size_toArray, List.length_cons, List.length_nil, Nat.reduceAdd, Nat.reduceSub, Array.replicate_succ, Array.replicate_zero, List.push_toArray, List.append_toArray, List.nil_append, List.cons_append]
  gi_wp2
  go_ret
  exact ⟨rfl, rfl⟩
set_option linter.unusedSimpArgs false in
set_option maxRecDepth 100000 in
set_option maxHeartbeats 4000000 in
theorem values_moves (n : Nat) (hn : 1 ≤ n) (ms : List Nat) (v : Value) (w0 : World) (B1 : Nat) (hv : MsS w0 w0.heap.size ms v) :
    Moves2 Fence.wide n Try.prog 41 (fun l => #[] ++ #[.func (.yield l) #[] #[]] ++ #[.pointer (some ⟨B1, 0, none⟩)]) OnV (fun x W => OnG w0 v B1 W ∧ x.1 ≤ ms.length) (OnT ms) (OnE ms) (0, 0) := by
  intro lp A B X Z W hY hB h0
  obtain ⟨o1, cap1, rfl, hc1, hm1, S1⟩ := SlOf.open hv
  have HY := Lib.hid hY
  have HB := Lib.hid hB
  have HB0 := Lib.hid h0
  obtain ⟨⟨⟨hb0, hr1⟩, _⟩, _, _⟩ := hB _ W h0
  have c1 : W.cell? ⟨B1, 0, none⟩ = some (.slice o1 ms.length cap1) := (row_cell hr1 0).1
  have l1 := heapLt hr1
  clear hY hB hv hb0 hr1 h0
  simp only [List.append_toArray, List.cons_append, List.nil_append, List.append_nil]
  refine callsIn_of_wp Try.func41 rfl trivial ?_ rfl
  simp only [Try.ntmps41, List.size_toArray, List.length_cons, List.length_nil, Nat.reduceAdd, Nat.reduceSub, Array.replicate_succ, Array.replicate_zero, List.push_toArray, List.append_toArray, List.nil_append, List.cons_append]
  gi_wp2
  clear c1 l1
  gi_loopw [7] (fun i wr => ∃ (k : Nat) (x : Nat × Nat), k ≤ ms.length ∧ i = .int .i64 k ∧ x.1 = k ∧ B x wr) (fun i _ => ms.length - (intOf i).toNat)
  case atStart => exact ⟨0, _, Nat.zero_le _, rfl, rfl, HB0.out⟩
  case round =>
    obtain ⟨k, x, hk, rfl, hx1, hBx⟩ := hrel
    obtain ⟨⟨⟨hb, hr1⟩, _⟩, hT, hE⟩ := HB.out x wr hBx
    have hbs := hb.size
    by_cases hlt : k < ms.length
    · have hlt' : (k : Int) < (ms.length : Int) := by omega
      have hk0 : (0 : Int) ≤ (k : Int) := by omega
      obtain ⟨y, hy⟩ : ∃ y, ms[k]? = some y := ⟨ms[k], List.getElem?_eq_getElem (by omega)⟩
      obtain ⟨pc, rfl, hpc, _, c0⟩ := u64_at S1 hb hy
      have hlc : (pc.add k).block < wr.heap.size := by rw [addBlock]; omega
      have hA := hT (k + 1, y) wr ⟨by show k + 1 = x.1 + 1; omega, by rw [hx1]; exact hy, Below.refl _ _⟩
      obtain ⟨fn, tmps, assign, body, hyl, hR⟩ := HY.out _ _ hA
      clear hA hT hE hb hr1 hBx hy
      gi_wp2
      refine hR.mono ?_
      rintro e W1 (⟨rfl, hB1⟩ | ⟨rfl, hX1⟩)
      · have HB1 := Lib.hid hB1
        clear hR hB1 hyl
        gi_wp2
        go_roundw
        case rel => exact ⟨k + 1, _, hlt, by go_num, rfl, HB1.out⟩
        case measure => simp [intOf]; omega
      · have HX := Lib.hid hX1
        clear hR hX1 hyl
        gi_wp2
        refine bodyPost_ret (results_none rfl _ _ _) rfl ?_
        exact ⟨⟨_, rfl⟩, .inl HX.out⟩
    · have HZ := Lib.hid (hE wr ⟨by rw [hx1]; omega, Below.refl _ _⟩)
      clear hT hE hb hr1 hBx
      have hl' : ¬ (k : Int) < (ms.length : Int) := by omega
      gi_wp2
      go_end0
      exact ⟨⟨_, rfl⟩, .inr HZ.out⟩
end Go.Proofs.Ytiljpacmkmmlcaa
