/- cover.eachBelow's iterator. -/
import Derived.Test.YtiljpacmkmmlcaaWe
set_option linter.unusedSimpArgs false
set_option linter.unusedVariables false
namespace Go.Proofs.Ytiljpacmkmmlcaa
open Go.RowKit Go.Shelf

attribute [local go_sem] Oper.semAt_some

/-- Those from i on, up to j, are not below t. -/
def NoB (ms : List Nat) (t i j : Nat) : Prop := ∀ q y, i ≤ q → q < j → ms[q]? = some y → belowN y t = false
def EaT (ms : List Nat) (t : Nat) (x : Nat × Nat) (W : World) (x' : Nat × Nat) (W' : World) : Prop := ∃ j, x.1 ≤ j ∧ x'.1 = j + 1 ∧ ms[j]? = some x'.2 ∧ belowN x'.2 t = true ∧ NoB ms t x.1 j ∧ Below W.heap.size W W'
def EaE (ms : List Nat) (t : Nat) (x : Nat × Nat) (W W' : World) : Prop := NoB ms t x.1 ms.length ∧ Below W.heap.size W W'
theorem NoB.next {ms : List Nat} {t i j y : Nat} (h : NoB ms t i j) (hy : ms[j]? = some y) (hb : belowN y t = false) : NoB ms t i (j + 1) := by
  intro q z h1 h2 h3
  by_cases e : q = j
  · subst e
    rw [hy] at h3
    cases h3
    exact hb
  · exact h q z h1 (by omega) h3
structure EaG (w0 : World) (v : Value) (t B1 B2 : Nat) (W : World) : Prop where
  g : OnG w0 v B1 W
  two : W.heap[B2]? = some (.cells #[.int .u64 (t : Int)] 54 (0, 0))
theorem EaG.put {w0 : World} {v : Value} {t B1 B2 : Nat} {W W' : World} {B : Nat} (h : EaG w0 v t B1 B2 W) (hp : Put B W W') (hB : w0.heap.size ≤ B) : EaG w0 v t B1 B2 W' :=
  ⟨h.g.put hp hB, put_block hp h.two (.inl rfl)⟩
theorem EaG.below {w0 : World} {v : Value} {t B1 B2 : Nat} {W W' : World} (h : EaG w0 v t B1 B2 W) (hb : Below W.heap.size W W') : EaG w0 v t B1 B2 W' :=
  ⟨h.g.below hb, (hb.block _ (heapLt h.two)).trans h.two⟩
set_option linter.unusedSimpArgs false in
set_option maxRecDepth 100000 in
set_option maxHeartbeats 4000000 in
theorem each_moves (n : Nat) (hn : 1 ≤ n) (ms : List Nat) (t : Nat) (ht : t < 256) (v : Value) (w0 : World) (B1 B2 : Nat) (hv : MsS w0 w0.heap.size ms v) :
    Moves2 Fence.wide n Try.prog 44 (fun l => #[] ++ #[.func (.yield l) #[] #[]] ++ #[.pointer (some ⟨B1, 0, none⟩), .pointer (some ⟨B2, 0, none⟩)]) OnV (fun x W => EaG w0 v t B1 B2 W ∧ x.1 ≤ ms.length) (EaT ms t) (EaE ms t) (0, 0) := by
  intro lp A B X Z W hY hB h0
  obtain ⟨o1, cap1, rfl, hc1, hm1, S1⟩ := SlOf.open hv
  have HY := Lib.hid hY
  have HB := Lib.hid hB
  have HB0 := Lib.hid h0
  obtain ⟨⟨⟨⟨hb0, hr1⟩, _⟩, _⟩, _, _⟩ := hB _ W h0
  have c1 : W.cell? ⟨B1, 0, none⟩ = some (.slice o1 ms.length cap1) := (row_cell hr1 0).1
  have l1 := heapLt hr1
  clear hY hB hv hb0 hr1 h0
  simp only [List.append_toArray, List.cons_append, List.nil_append, List.append_nil]
  refine callsIn_of_wp Try.func44 rfl trivial ?_ rfl
  simp only [Try.ntmps44, List.size_toArray, List.length_cons, List.length_nil, Nat.reduceAdd, Nat.reduceSub, Array.replicate_succ, Array.replicate_zero, List.push_toArray, List.append_toArray, List.nil_append, List.cons_append]
  gi_wp2
  clear c1 l1
  gi_loopw [8] (fun i wr => ∃ (k : Nat) (x : Nat × Nat), k ≤ ms.length ∧ i = .int .i64 k ∧ x.1 ≤ k ∧ Hid (NoB ms t x.1 k) ∧ B x wr) (fun i _ => ms.length - (intOf i).toNat)
  case atStart => exact ⟨0, _, Nat.zero_le _, rfl, Nat.le_refl _, Lib.hid (fun q y h1 h2 => by omega), HB0.out⟩
  case round =>
    obtain ⟨k, x, hk, rfl, hx1, HN, hBx⟩ := hrel
    obtain ⟨⟨⟨⟨hb, hr1⟩, hr2⟩, _⟩, hT, hE⟩ := HB.out x wr hBx
    have hbs := hb.size
    by_cases hlt : k < ms.length
    · have hlt' : (k : Int) < (ms.length : Int) := by omega
      have hk0 : (0 : Int) ≤ (k : Int) := by omega
      obtain ⟨y, hy⟩ : ∃ y, ms[k]? = some y := ⟨ms[k], List.getElem?_eq_getElem (by omega)⟩
      obtain ⟨pc, rfl, hpc, h256, c0⟩ := u64_at S1 hb hy
      have hlc : (pc.add k).block < wr.heap.size := by rw [addBlock]; omega
      have x2 : wr.cell? ⟨B2, 0, none⟩ = some (.int .u64 (t : Int)) := (row_cell hr2 0).1
      have l2 := heapLt hr2
      have HC := Lib.hid (fun W => isBelow_c y t W h256 ht)
      cases hbl : belowN y t with
      | false =>
        have HN2 := Lib.hid (HN.out.next hy hbl)
        have HBx := Lib.hid hBx
        have HCC : Hid (∀ W, Calls Try.prog 45 #[.int .u64 (y : Int), .int .u64 (t : Int)] W fun e w' => e = .returned (.bool false) ∧ w' = W) := Lib.hid (fun W => (HC.out W).mono fun e w' h => by rw [hbl] at h; exact h)
        clear hT hE hb hr1 hr2 hBx hy HC hbl
        gi_wp2_with fail
        refine ⟨trivial, (callsIn_wide.2 (HCC.out _)).mono ?_⟩
        rintro e W1 ⟨rfl, rfl⟩
        gi_wp2
        refine ⟨fun _ h => (by cases h), ?_⟩
        gi_wp2
        go_roundw
        case rel => exact ⟨k + 1, x, hlt, by go_num, by omega, HN2, HBx.out⟩
        case measure => simp [intOf]; omega
      | true =>
        have HCC : Hid (∀ W, Calls Try.prog 45 #[.int .u64 (y : Int), .int .u64 (t : Int)] W fun e w' => e = .returned (.bool true) ∧ w' = W) := Lib.hid (fun W => (HC.out W).mono fun e w' h => by rw [hbl] at h; exact h)
        have hA := hT (k + 1, y) wr ⟨k, hx1, rfl, hy, hbl, HN.out, Below.refl _ _⟩
        obtain ⟨fn, tmps, assign, body, hyl, hR⟩ := HY.out _ _ hA
        clear hA hT hE hb hr1 hr2 hBx hy HC hbl
        gi_wp2_with fail
        refine ⟨trivial, (callsIn_wide.2 (HCC.out _)).mono ?_⟩
        rintro e W1 ⟨rfl, rfl⟩
        gi_wp2
        refine hR.mono ?_
        rintro e W1 (⟨rfl, hB1⟩ | ⟨rfl, hX1⟩)
        · have HB1 := Lib.hid hB1
          clear hR hB1 hyl
          gi_wp2
          go_roundw
          case rel => exact ⟨k + 1, _, hlt, by go_num, Nat.le_refl _, Lib.hid (fun q y h1 h2 => by simp at h1; omega), HB1.out⟩
          case measure => simp [intOf]; omega
        · have HX := Lib.hid hX1
          clear hR hX1 hyl
          gi_wp2
          refine bodyPost_ret (results_none rfl _ _ _) rfl ?_
          exact ⟨⟨_, rfl⟩, .inl HX.out⟩
    · obtain rfl : k = ms.length := by omega
      have HZ := Lib.hid (hE wr ⟨HN.out, Below.refl _ _⟩)
      clear hT hE hb hr1 hr2 hBx
      have hl' : ¬ (ms.length : Int) < (ms.length : Int) := by omega
      gi_wp2
      go_end0
      exact ⟨⟨_, rfl⟩, .inr HZ.out⟩
end Go.Proofs.Ytiljpacmkmmlcaa
