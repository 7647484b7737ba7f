/- dtree.hasShape of a term of two parts; hasShape, whole. -/
import Derived.Test.YtbpdfmpfnbdeoaaDoorTshape
namespace Go.Proofs.YtbpdfmpfnbdeoaaDoor
open Go.RowKit

theorem two_of {l : List Tm} (h : l.length = 2) : ∃ x y, l = [x, y] := by
  match l, h with
  | [x, y], _ => exact ⟨x, y, rfl⟩
def twoRec : List Tm → Bool
  | [a, b] => recB a && recB b
  | _ => false
theorem not_two {l : List Tm} (h : l.length ≠ 2) : twoRec l = false := by
  match l, h with
  | [], _ => rfl
  | [_], _ => rfl
  | [_, _], h => exact absurd rfl h
  | _ :: _ :: _ :: _, _ => rfl
theorem shapeB_two {op : Int} {s : ByteArray} {n : Int} {l : List Tm} (h : twoB op = true) : shapeB (.mk op s n l) = (s.toList.isEmpty && (n == 0) && twoRec l) := by
  have h' : twoB (Tm.mk op s n l).op = true := h
  unfold shapeB
  rw [if_pos h']
  match l with
  | [] => rfl
  | [_] => rfl
  | [_, _] => rfl
  | _ :: _ :: _ :: _ => rfl

set_option maxRecDepth 100000 in
set_option maxHeartbeats 4000000 in
theorem shape_two (op : Int) (s : ByteArray) (n : Int) (l : List Tm) (hop : op = 5 ∨ op = 6 ∨ op = 7) (w : World) (cs : List Value) (hc : TmC w w.heap.size (.mk op s n l) cs) :
    Calls Tryd.prog 133 #[.agg cs.toArray] w fun e w' => e = .returned (.bool (shapeB (.mk op s n l))) ∧ Below w.heap.size w w' := by
  obtain ⟨p1, q1, rfl, _, hz, _, t1⟩ := hc.look
  simp only [Tm.op_mk, Tm.s_mk, Tm.n_mk, Tm.l_mk] at hz t1 ⊢
  have ht2 : twoB op = true := by rcases hop with rfl | rfl | rfl <;> rfl
  have hs0 := shapeB_two (s := s) (n := n) (l := l) ht2
  clear hc ht2
  have A0 : Hid (Below w.heap.size w (w.alloc (.cells #[.int .i64 op, .string s, .int .i64 n, .slice p1 l.length q1] 43))) := Lib.hid ((Below.refl _ _).alloc (Nat.le_refl _) _)
  by_cases h0 : s.toList = []
  · obtain ⟨bn, hbn⟩ : ∃ b, (n == 0) = b := ⟨_, rfl⟩
    cases bn with
    | false =>
      have Hz : Hid (shapeB (.mk op s n l) = false) := Lib.hid (by rw [hs0, hbn]; simp)
      clear hs0
      rcases hop with rfl | rfl | rfl
      all_goals
        go_enter Tryd.func133, Tryd.ntmps133
        go_wp2
        go_ret
        exact ⟨by rw [Hz.out]; rfl, A0.out⟩
    | true =>
      obtain ⟨bl, hbl⟩ : ∃ b, ((l.length : Int) == 2) = b := ⟨_, rfl⟩
      cases bl with
      | false =>
        have hl2 : l.length ≠ 2 := by intro h; rw [h] at hbl; simp at hbl
        have Hz : Hid (shapeB (.mk op s n l) = false) := Lib.hid (by
          rw [hs0, not_two hl2, Bool.and_false])
        clear hs0
        rcases hop with rfl | rfl | rfl
        all_goals
          go_enter Tryd.func133, Tryd.ntmps133
          go_wp2
          go_ret
          exact ⟨by rw [Hz.out]; rfl, A0.out⟩
      | true =>
        have hl2 : l.length = 2 := by
          have : (l.length : Int) = 2 := by simpa using hbl
          omega
        obtain ⟨x, y, rfl⟩ := two_of hl2
        have Hz : Hid (shapeB (.mk op s n [x, y]) = (recB x && recB y)) := Lib.hid (by rw [hs0, h0, hbn]; rfl)
        obtain ⟨o1, cap1, e1, hc1, hm1, S1⟩ := SlOf.open t1
        cases e1
        obtain ⟨a, p3, q3, rfl, ha, Hc, c0, c1, c2, c3⟩ := tm_at S1 (Below.refl _ _) (show [x, y][0]? = some x from rfl)
        obtain ⟨a', p4, q4, e2, ha', Hd, d0, d1, d2, d3⟩ := tm_at S1 (Below.refl _ _) (show [x, y][1]? = some y from rfl)
        cases e2
        have hal : (a.add (0 * 4)).block < w.heap.size := by rw [addBlock]; omega
        have hal' : (a.add (1 * 4)).block < w.heap.size := by rw [addBlock]; omega
        simp only [Nat.zero_mul, Nat.one_mul] at c0 c1 c2 c3 d0 d1 d2 d3 hal hal'
        have ea : a.add 0 = a := by unfold Addr.add; simp
        rw [ea] at c0 c1 c2 c3 hal
        have e4 : a.add 4 = ⟨a.block, a.off + 4, none⟩ := by unfold Addr.add; simp
        simp only [e4] at d0 d1 d2 d3 hal'
        clear ea e4
        have HX := Lib.hid (fun (W : World) (hb : Below w.heap.size w W) => rec_c x W _ ((Hc.out.under hb).more hb.size))
        have HY := Lib.hid (fun (W : World) (hb : Below w.heap.size w W) => rec_c y W _ ((Hd.out.under hb).more hb.size))
        clear hs0 t1 S1 Hc Hd
        rcases hop with rfl | rfl | rfl
        all_goals
          go_enter Tryd.func133, Tryd.ntmps133
          go_wp2_with fail
          refine (HX.out _ A0.out).mono ?_
          rintro e w1 ⟨rfl, b1⟩
          have B1 := A0.out.trans (b1.mono (by simp))
          obtain ⟨hc, hf⟩ := kept b1
          have hz1 : w.heap.size < w1.heap.size := by have := b1.size; simp at this; omega
          have K := fun (p : Addr) (hp : p.block < w.heap.size) => B1.cell (p := p) hp
          have f0 := (K ⟨a.block, a.off + 4, none⟩ hal').trans d0
          have f1 := (K ⟨a.block, a.off + 4 + 1, none⟩ hal').trans d1
          have f2 := (K ⟨a.block, a.off + 4 + 2, none⟩ hal').trans d2
          have f3 := (K ⟨a.block, a.off + 4 + 3, none⟩ hal').trans d3
          clear K
          cases hx : recB x with
          | false =>
            have Hz1 := Lib.hid (Hz.out.trans (by rw [hx]; rfl : _ = false))
            clear hx
            go_wp2
            go_ret
            exact ⟨by rw [Hz1.out]; rfl, B1⟩
          | true =>
            have Hz1 := Lib.hid (Hz.out.trans (by rw [hx]; rfl : _ = recB y))
            clear hx
            go_wp2_with fail
            refine (HY.out _ B1).mono ?_
            rintro e w2 ⟨rfl, b2⟩
            go_wp2
            go_ret
            exact ⟨by rw [Hz1.out]; rfl, B1.trans (b2.mono (by omega))⟩
  · have Hz : Hid (shapeB (.mk op s n l) = false) := Lib.hid (by rw [hs0]; simp [h0])
    clear hs0
    rcases hop with rfl | rfl | rfl
    all_goals
      go_enter Tryd.func133, Tryd.ntmps133
      go_wp2
      go_ret
      exact ⟨by rw [Hz.out]; rfl, A0.out⟩

theorem tshape_c (t : Tm) (w : World) (cs : List Value) (hc : TmC w w.heap.size t cs) :
    Calls Tryd.prog 133 #[.agg cs.toArray] w fun e w' => e = .returned (.bool (shapeB t)) ∧ Below w.heap.size w w' := by
  obtain ⟨op, s, n, l⟩ := t
  cases h : twoB op with
  | false => exact shape_leaf op s n l h w cs hc
  | true => exact shape_two op s n l (by unfold twoB at h; simp at h; omega) w cs hc
end Go.Proofs.YtbpdfmpfnbdeoaaDoor
