/- size, sizeAtom, sizeRule, long, Small of the laws of layer 3. -/
import Derived.Test.YtbpdfmpfnbdeoaaDoorTlook
import Derived.BigQuiet
import Derived.Deep.QuietTactic
namespace Go.Proofs.YtbpdfmpfnbdeoaaDoor
open Go.RowKit

def SizeAt (t : Tm) : Prop := ∀ (left : Int) (w : World) (cs : List Value), 0 ≤ left → left ≤ 1000000 → TmC w w.heap.size t cs →
    Calls Tryd.prog 77 #[.agg cs.toArray, .int .i64 left] w fun e w' => e = .returned (.int .i64 (sizeT t left)) ∧ Below w.heap.size w w'

set_option maxRecDepth 100000 in
set_option maxHeartbeats 4000000 in
theorem size_c (t : Tm) : SizeAt t := by
  induction t using Tm.rec (motive_2 := fun l => ∀ t ∈ l, SizeAt t) with
  | nil x hx => simp at hx
  | cons t ts ih ihs x hx =>
    rcases List.mem_cons.1 hx with rfl | hx
    · exact ih
    · exact ihs x hx
  | mk op s n l ih =>
    intro left w cs hl0 hl1 hc
    obtain ⟨p1, q1, rfl, _, hz, _, t1⟩ := hc.look
    have Hs := Lib.hid (sizeT_mk op s n l left)
    simp only [Tm.op_mk, Tm.s_mk, Tm.n_mk, Tm.l_mk] at Hs t1 hz ⊢
    unfold maxLen at hz
    obtain ⟨o1, cap1, e1, hc1, hm1, S1⟩ := SlOf.open t1
    cases e1
    have IH := Lib.hid ih
    clear hc t1 ih
    have HB0 : Hid (∀ (x : Obj), Below w.heap.size w (w.alloc x)) := Lib.hid fun x => (Below.refl _ _).alloc (Nat.le_refl _) _
    by_cases hbig : 1000 < s.size
    · have Hz : Hid (sizeT (.mk op s n l) left = -1) := Lib.hid (by rw [Hs.out, if_pos hbig])
      have hbig' : (1000 : Int) < (s.size : Int) := by omega
      go_enter Tryd.func77, Tryd.ntmps77
      go_wp2
      go_ret
      exact ⟨retI (by rw [Hz.out]), HB0.out _⟩
    · have Hz : Hid (sizeT (.mk op s n l) left = foldS sizeT l (left - 1)) := Lib.hid (by rw [Hs.out, if_neg hbig])
      have hbig' : ¬ (1000 : Int) < (s.size : Int) := by omega
      clear Hs
      go_enter Tryd.func77, Tryd.ntmps77
      go_wp2
      go_loopw [1, 5] (fun lv i wr => ∃ (k : Nat) (L : Int), k ≤ l.length ∧ i = .int .i64 k ∧ lv = .int .i64 L ∧ -1 ≤ L ∧ L ≤ 1000000 ∧ foldS sizeT l (left - 1) = foldS sizeT (l.drop k) L ∧ Below (w.heap.size + 1) (w.alloc (.cells #[.int .i64 op, .string s, .int .i64 n, .slice p1 l.length q1] 43)) wr) (fun _ i _ => l.length - (intOf i).toNat)
      case atStart => exact ⟨0, left - 1, Nat.zero_le _, rfl, rfl, by omega, by omega, rfl, Below.refl _ _⟩
      case round =>
        obtain ⟨k, L, hk, rfl, rfl, hL0, hL1, hr, hB2⟩ := hrel
        have hB : Below w.heap.size w wr := (HB0.out _).trans (hB2.mono (by omega))
        have Hr := Lib.hid hr
        clear hr
        have hBs := hB2.size
        simp only [World.size_alloc] at hBs
        have hz0 : w.heap.size < wr.heap.size := by omega
        have x0 : wr.cell? ⟨w.heap.size, 3, none⟩ = some (.slice p1 l.length q1) := (hB2.cell (p := ⟨w.heap.size, 3, none⟩) (by show w.heap.size < _; omega)).trans (by go_simp)
        by_cases hlt : k < l.length
        · have hlt' : (k : Int) < (l.length : Int) := by omega
          by_cases hL : 0 ≤ L
          · obtain ⟨xe, ht⟩ : ∃ xe, l[k]? = some xe := ⟨l[k], List.getElem?_eq_getElem hlt⟩
            obtain ⟨a, p3, q3, rfl, ha, Hc, c0, c1, c2, c3⟩ := tm_at S1 hB ht
            have hal : (a.add (k * 4)).block < wr.heap.size := by rw [addBlock]; omega
            have Hst := Lib.hid (Hr.out.trans (foldS_drop (f := sizeT) ht hL))
            have Hm := Lib.hid (List.mem_of_getElem? ht)
            clear ht
            go_wp2_with fail
            refine (IH.out xe Hm.out L _ [_, _, _, _] hL (by omega) Hc.out).mono ?_
            rintro e w1 ⟨rfl, b1⟩
            have hB3 := hB2.trans (b1.mono (by omega))
            have lo := sizeT_lo xe L hL
            obtain ⟨L2, hL2⟩ : ∃ L2, sizeT xe L = L2 := ⟨_, rfl⟩
            rw [hL2] at lo ⊢
            have Hst2 : Hid _ := Lib.hid (Hst.out.trans (by rw [hL2]))
            clear hL2
            go_wp2
            go_roundw
            case rel => exact ⟨k + 1, L2, hlt, by go_num, rfl, lo.1, by omega, Hst2.out, hB3⟩
            case measure => simp [intOf]; omega
          · have Hz2 := Lib.hid (Hr.out.trans (foldS_neg sizeT (l.drop k) (by omega)))
            go_wp2
            (go_ret; exact ⟨retI (by rw [Hz.out, Hz2.out]), hB⟩)
        · have hlt' : ¬ (k : Int) < (l.length : Int) := by omega
          have Hz2 : Hid (foldS sizeT l (left - 1) = L) := Lib.hid (by rw [Hr.out, List.drop_of_length_le (by omega)]; rfl)
          go_wp2
          (go_ret; exact ⟨retI (by rw [Hz.out, Hz2.out]), hB⟩)

set_option maxRecDepth 100000 in
set_option maxHeartbeats 4000000 in
theorem sizeAtom_c (t : Am) (left : Int) (w : World) (cs : List Value) (hl0 : -1 ≤ left) (hl1 : left ≤ 1000000) (hc : AmC w w.heap.size t cs) :
    Calls Tryd.prog 76 #[.agg cs.toArray, .int .i64 left] w fun e w' => e = .returned (.int .i64 (sizeA t left)) ∧ Below w.heap.size w w' := by
  obtain ⟨p1, q1, rfl, hz, t1⟩ := hc.look
  unfold maxLen at hz
  obtain ⟨o1, cap1, e1, hc1, hm1, S1⟩ := SlOf.open t1
  cases e1
  clear hc t1
  have HB0 : Hid (∀ (x : Obj), Below w.heap.size w (w.alloc x)) := Lib.hid fun x => (Below.refl _ _).alloc (Nat.le_refl _) _
  by_cases hbig : 1000 < t.rel.size
  · have Hz : Hid (sizeA t left = -1) := Lib.hid (by unfold sizeA; rw [if_pos hbig])
    have hbig' : (1000 : Int) < (t.rel.size : Int) := by omega
    go_enter Tryd.func76, Tryd.ntmps76
    go_wp2
    go_ret
    exact ⟨retI (by rw [Hz.out]), HB0.out _⟩
  · have Hz : Hid (sizeA t left = foldS sizeT t.l left) := Lib.hid (by unfold sizeA; rw [if_neg hbig, sizeTs_fold])
    have hbig' : ¬ (1000 : Int) < (t.rel.size : Int) := by omega
    go_enter Tryd.func76, Tryd.ntmps76
    go_wp2
    go_loopw [1, 5] (fun lv i wr => ∃ (k : Nat) (L : Int), k ≤ t.l.length ∧ i = .int .i64 k ∧ lv = .int .i64 L ∧ -1 ≤ L ∧ L ≤ 1000000 ∧ foldS sizeT t.l (left) = foldS sizeT (t.l.drop k) L ∧ Below (w.heap.size + 1) (w.alloc (.cells #[.string t.rel, .slice p1 t.l.length q1] 24)) wr) (fun _ i _ => t.l.length - (intOf i).toNat)
    case atStart => exact ⟨0, left, Nat.zero_le _, rfl, rfl, by omega, by omega, rfl, Below.refl _ _⟩
    case round =>
      obtain ⟨k, L, hk, rfl, rfl, hL0, hL1, hr, hB2⟩ := hrel
      have hB : Below w.heap.size w wr := (HB0.out _).trans (hB2.mono (by omega))
      have Hr := Lib.hid hr
      clear hr
      have hBs := hB2.size
      simp only [World.size_alloc] at hBs
      have hz0 : w.heap.size < wr.heap.size := by omega
      have x0 : wr.cell? ⟨w.heap.size, 1, none⟩ = some (.slice p1 t.l.length q1) := (hB2.cell (p := ⟨w.heap.size, 1, none⟩) (by show w.heap.size < _; omega)).trans (by go_simp)
      by_cases hlt : k < t.l.length
      · have hlt' : (k : Int) < (t.l.length : Int) := by omega
        by_cases hL : 0 ≤ L
        · obtain ⟨xe, ht⟩ : ∃ xe, t.l[k]? = some xe := ⟨t.l[k], List.getElem?_eq_getElem hlt⟩
          obtain ⟨a, p3, q3, rfl, ha, Hc, c0, c1, c2, c3⟩ := tm_at S1 hB ht
          have hal : (a.add (k * 4)).block < wr.heap.size := by rw [addBlock]; omega
          have Hst := Lib.hid (Hr.out.trans (foldS_drop (f := sizeT) ht hL))
          have Hm := Lib.hid (List.mem_of_getElem? ht)
          clear ht
          go_wp2_with fail
          refine (size_c xe L _ [_, _, _, _] hL hL1 Hc.out).mono ?_
          rintro e w1 ⟨rfl, b1⟩
          have hB3 := hB2.trans (b1.mono (by omega))
          have lo := sizeT_lo xe L hL
          obtain ⟨L2, hL2⟩ : ∃ L2, sizeT xe L = L2 := ⟨_, rfl⟩
          rw [hL2] at lo ⊢
          have Hst2 : Hid _ := Lib.hid (Hst.out.trans (by rw [hL2]))
          clear hL2
          go_wp2
          go_roundw
          case rel => exact ⟨k + 1, L2, hlt, by go_num, rfl, lo.1, by omega, Hst2.out, hB3⟩
          case measure => simp [intOf]; omega
        · have Hz2 := Lib.hid (Hr.out.trans (foldS_neg sizeT (t.l.drop k) (by omega)))
          go_wp2
          (go_ret; exact ⟨retI (by rw [Hz.out, Hz2.out]), hB⟩)
      · have hlt' : ¬ (k : Int) < (t.l.length : Int) := by omega
        have Hz2 : Hid (foldS sizeT t.l (left) = L) := Lib.hid (by rw [Hr.out, List.drop_of_length_le (by omega)]; rfl)
        go_wp2
        (go_ret; exact ⟨retI (by rw [Hz.out, Hz2.out]), hB⟩)

set_option maxRecDepth 100000 in
set_option maxHeartbeats 4000000 in
theorem sizeRule_c (t : Ru) (left : Int) (w : World) (cs : List Value) (hl0 : 0 ≤ left) (hl1 : left ≤ 1000000) (hc : RuC w w.heap.size t cs) :
    Calls Tryd.prog 50 #[.agg cs.toArray, .int .i64 left] w fun e w' => e = .returned (.int .i64 (sizeR t left)) ∧ Below w.heap.size w w' := by
  obtain ⟨p1, q1, r1, s1, rfl, _, a1, t1⟩ := hc.look
  obtain ⟨o1, cap1, e1, hc1, hm1, S1⟩ := SlOf.open t1
  cases e1
  have HB0 : Hid (∀ (x : Obj), Below w.heap.size w (w.alloc x)) := Lib.hid fun x => (Below.refl _ _).alloc (Nat.le_refl _) _
  have HH := Lib.hid (fun (W : World) (hb : Below w.heap.size w W) => sizeAtom_c t.head (left - 1) W [_, _] (by omega) (by omega) ((a1.below hb).more hb.size))
  clear hc t1 a1
  have lo0 := sizeA_lo t.head (left - 1) (by omega)
  obtain ⟨A0, hA0⟩ : ∃ A0, sizeA t.head (left - 1) = A0 := ⟨_, rfl⟩
  have Hz : Hid (sizeR t left = foldS sizeL1 t.body A0) := Lib.hid (by unfold sizeR; rw [hA0])
  rw [hA0] at lo0 HH
  clear hA0
  go_enter Tryd.func50, Tryd.ntmps50
  go_wp2_with fail
  refine (HH.out _ (HB0.out _)).mono ?_
  rintro e w0 ⟨rfl, b0⟩
  have b0' := b0.mono (show w.heap.size + 1 ≤ _ by simp)
  go_wp2
  go_loopw [1, 5] (fun lv i wr => ∃ (k : Nat) (L : Int), k ≤ t.body.length ∧ i = .int .i64 k ∧ lv = .int .i64 L ∧ -1 ≤ L ∧ L ≤ 1000000 ∧ foldS sizeL1 t.body (A0) = foldS sizeL1 (t.body.drop k) L ∧ Below (w.heap.size + 1) (w.alloc (.cells #[.string t.head.rel, .slice p1 t.head.l.length q1, .slice r1 t.body.length s1, .int .i64 t.line] 27)) wr) (fun _ i _ => t.body.length - (intOf i).toNat)
  case atStart => exact ⟨0, A0, Nat.zero_le _, rfl, rfl, by omega, by omega, rfl, b0'⟩
  case round =>
    obtain ⟨k, L, hk, rfl, rfl, hL0, hL1, hr, hB2⟩ := hrel
    have hB : Below w.heap.size w wr := (HB0.out _).trans (hB2.mono (by omega))
    have Hr := Lib.hid hr
    clear hr
    have hBs := hB2.size
    simp only [World.size_alloc] at hBs
    have hz0 : w.heap.size < wr.heap.size := by omega
    have x0 : wr.cell? ⟨w.heap.size, 2, none⟩ = some (.slice r1 t.body.length s1) := (hB2.cell (p := ⟨w.heap.size, 2, none⟩) (by show w.heap.size < _; omega)).trans (by go_simp)
    by_cases hlt : k < t.body.length
    · have hlt' : (k : Int) < (t.body.length : Int) := by omega
      by_cases hL : 0 ≤ L
      · obtain ⟨xe, ht⟩ : ∃ xe, t.body[k]? = some xe := ⟨t.body[k], List.getElem?_eq_getElem hlt⟩
        obtain ⟨a, p3, q3, p4, q4, p5, q5, rfl, ha, Hc, c0, c1, c2, c3, c4, c5, c6, c7, c8, c9, c10⟩ := lt_at S1 hB ht
        have hal : (a.add (k * 11)).block < wr.heap.size := by rw [addBlock]; omega
        have Hst := Lib.hid (Hr.out.trans (foldS_drop (f := sizeL1) ht hL))
        have Hm := Lib.hid (List.mem_of_getElem? ht)
        clear ht
        obtain ⟨_, _, _, _, _, _, e1, _, La, Lx, Ly⟩ := Hc.out.look
        cases e1
        have HA := Lib.hid (fun (l : Int) (h0 : -1 ≤ l) (h1 : l ≤ 1000000) => sizeAtom_c xe.a l wr [_, _] h0 h1 La)
        have HX := Lib.hid (fun (l : Int) (W : World) (hb : Below wr.heap.size wr W) (h0 : 0 ≤ l) (h1 : l ≤ 1000000) => size_c xe.x l W [_, _, _, _] h0 h1 ((Lx.under hb).more hb.size))
        have HY := Lib.hid (fun (l : Int) (W : World) (hb : Below wr.heap.size wr W) (h0 : 0 ≤ l) (h1 : l ≤ 1000000) => size_c xe.y l W [_, _, _, _] h0 h1 ((Ly.under hb).more hb.size))
        clear La Lx Ly
        have lo := sizeL1_lo xe L hL
        have lo1 := sizeA_lo xe.a (L - 1) (by omega)
        obtain ⟨A1, hA1⟩ : ∃ A1, sizeA xe.a (L - 1) = A1 := ⟨_, rfl⟩
        have hs1 : sizeL1 xe L = if A1 < 0 then A1 else if sizeT xe.x A1 < 0 then sizeT xe.x A1 else sizeT xe.y (sizeT xe.x A1) := by unfold sizeL1; rw [hA1]
        go_wp2_with fail
        refine (HA.out _ (by omega) (by omega)).mono ?_
        rw [hA1]
        rw [hA1] at lo1
        rintro e w1 ⟨rfl, b1⟩
        obtain ⟨kc, kf⟩ := (⟨fun p h => b1.cell (p := p) h, fun p h => b1.frozen (p := p) h⟩ : (∀ p : Addr, p.block < _ → w1.cell? p = _) ∧ (∀ p : Addr, p.block < _ → w1.frozen? p = _))
        have g0 := (kc ⟨w.heap.size, 2, none⟩ hz0).trans x0
        have f3 := (kc ⟨(a.add (k * 11)).block, (a.add (k * 11)).off + 3, none⟩ hal).trans c3
        have f4 := (kc ⟨(a.add (k * 11)).block, (a.add (k * 11)).off + 4, none⟩ hal).trans c4
        have f5 := (kc ⟨(a.add (k * 11)).block, (a.add (k * 11)).off + 5, none⟩ hal).trans c5
        have f6 := (kc ⟨(a.add (k * 11)).block, (a.add (k * 11)).off + 6, none⟩ hal).trans c6
        have f7 := (kc ⟨(a.add (k * 11)).block, (a.add (k * 11)).off + 7, none⟩ hal).trans c7
        have f8 := (kc ⟨(a.add (k * 11)).block, (a.add (k * 11)).off + 8, none⟩ hal).trans c8
        have f9 := (kc ⟨(a.add (k * 11)).block, (a.add (k * 11)).off + 9, none⟩ hal).trans c9
        have f10 := (kc ⟨(a.add (k * 11)).block, (a.add (k * 11)).off + 10, none⟩ hal).trans c10
        have hB3 := hB2.trans (b1.mono (by omega))
        have hk1 := b1.size
        clear kc kf hA1
        by_cases n1 : A1 < 0
        · have n1' : ¬ 0 ≤ A1 := by omega
          have Hst2 : Hid _ := Lib.hid (Hst.out.trans (by rw [hs1, if_pos n1]))
          clear hs1
          go_wp2
          go_roundw
          case rel => exact ⟨k + 1, A1, hlt, by go_num, rfl, lo1.1, by omega, Hst2.out, hB3⟩
          case measure => simp [intOf]; omega
        · have n1' : 0 ≤ A1 := by omega
          rw [if_neg n1] at hs1
          have lo2 := sizeT_lo xe.x A1 n1'
          obtain ⟨A2, hA2⟩ : ∃ A2, sizeT xe.x A1 = A2 := ⟨_, rfl⟩
          rw [hA2] at hs1 lo2
          have Hs1 := Lib.hid hs1
          have HA2 := Lib.hid hA2
          clear hs1 hA2
          go_wp2_with fail
          refine (HX.out _ _ b1 n1' (by omega)).mono ?_
          rw [HA2.out]
          rintro e w2 ⟨rfl, b2⟩
          have b12 := b1.trans (b2.mono hk1)
          obtain ⟨kc, kf⟩ := (⟨fun p h => b12.cell (p := p) h, fun p h => b12.frozen (p := p) h⟩ : (∀ p : Addr, p.block < _ → w2.cell? p = _) ∧ (∀ p : Addr, p.block < _ → w2.frozen? p = _))
          have u0 := (kc ⟨w.heap.size, 2, none⟩ hz0).trans x0
          have u7 := (kc ⟨(a.add (k * 11)).block, (a.add (k * 11)).off + 7, none⟩ hal).trans c7
          have u8 := (kc ⟨(a.add (k * 11)).block, (a.add (k * 11)).off + 8, none⟩ hal).trans c8
          have u9 := (kc ⟨(a.add (k * 11)).block, (a.add (k * 11)).off + 9, none⟩ hal).trans c9
          have u10 := (kc ⟨(a.add (k * 11)).block, (a.add (k * 11)).off + 10, none⟩ hal).trans c10
          have hB4 := hB2.trans (b12.mono (by omega))
          clear kc kf
          by_cases n2 : A2 < 0
          · have n2' : ¬ 0 ≤ A2 := by omega
            have Hst2 : Hid _ := Lib.hid (Hst.out.trans (by rw [Hs1.out, if_pos n2]))
            go_wp2
            go_roundw
            case rel => exact ⟨k + 1, A2, hlt, by go_num, rfl, lo2.1, by omega, Hst2.out, hB4⟩
            case measure => simp [intOf]; omega
          · have n2' : 0 ≤ A2 := by omega
            have lo3 := sizeT_lo xe.y A2 n2'
            have Hst2 : Hid _ := Lib.hid (Hst.out.trans (by rw [Hs1.out, if_neg n2]))
            go_wp2_with fail
            refine (HY.out _ _ b12 n2' (by omega)).mono ?_
            rintro e w3 ⟨rfl, b3⟩
            have hk2 := b12.size
            have hB5 := hB2.trans ((b12.trans (b3.mono hk2)).mono (by omega))
            go_wp2
            go_roundw
            case rel => exact ⟨k + 1, _, hlt, by go_num, rfl, lo3.1, by omega, Hst2.out, hB5⟩
            case measure => simp [intOf]; omega
      · have Hz2 := Lib.hid (Hr.out.trans (foldS_neg sizeL1 (t.body.drop k) (by omega)))
        go_wp2
        (go_ret; exact ⟨retI (by rw [Hz.out, Hz2.out]), hB⟩)
    · have hlt' : ¬ (k : Int) < (t.body.length : Int) := by omega
      have Hz2 : Hid (foldS sizeL1 t.body (A0) = L) := Lib.hid (by rw [Hr.out, List.drop_of_length_le (by omega)]; rfl)
      go_wp2
      (go_ret; exact ⟨retI (by rw [Hz.out, Hz2.out]), hB⟩)

end Go.Proofs.YtbpdfmpfnbdeoaaDoor
