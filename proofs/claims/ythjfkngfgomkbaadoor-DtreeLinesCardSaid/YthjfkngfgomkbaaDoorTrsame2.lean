/- soritesref03: SameAtom, SameLit, SameRule. -/
import Derived.Test.YthjfkngfgomkbaaDoorTrsame
import Derived.Test.YthjfkngfgomkbaaDoorTlook
namespace Go.Proofs.YthjfkngfgomkbaaDoor
open Go.RowKit

set_option maxRecDepth 100000 in
set_option maxHeartbeats 4000000 in
theorem rsameAtom_c (t u : Am) (w : World) (cs ds : List Value) (hc : AmC w w.heap.size t cs) (hd : AmC w w.heap.size u ds) :
    Calls Tryd.prog 48 #[.agg cs.toArray, .agg ds.toArray] w fun e w' => e = .returned (.bool (sameA t u)) ∧ Below w.heap.size w w' := by
  obtain ⟨p1, q1, rfl, _, t1⟩ := hc.look
  obtain ⟨p2, q2, rfl, _, t2⟩ := hd.look
  obtain ⟨o1, cap1, e1, hc1, hm1, S1⟩ := SlOf.open t1
  obtain ⟨o2, cap2, e2, hc2, hm2, S2⟩ := SlOf.open t2
  cases e1
  cases e2
  clear hc hd t1 t2
  have HB0 : Hid (∀ (x y : Obj), Below w.heap.size w ((w.alloc x).alloc y)) := Lib.hid fun x y => ((Below.refl _ _).alloc (Nat.le_refl _) _).alloc (by simp) _
  obtain ⟨b1, hb1⟩ : ∃ b, (!t.rel.toList == u.rel.toList) = b := ⟨_, rfl⟩
  obtain ⟨b2, hb2⟩ : ∃ b, ((t.l.length : Int) != (u.l.length : Int)) = b := ⟨_, rfl⟩
  have Hs : Hid (sameA t u = (!b1 && allS sameT t.l u.l)) := Lib.hid (by unfold sameA; rw [sameTs_all, ← hb1, Bool.not_not])
  cases b1 with
  | true =>
    go_enter Tryd.func48, Tryd.ntmps48
    go_wp2
    go_ret
    exact ⟨by rw [Hs.out]; rfl, HB0.out _ _⟩
  | false =>
    cases b2 with
    | true =>
      have Hz : Hid (sameA t u = false) := Lib.hid (by rw [Hs.out, allS_len (f := sameT) (l := t.l) (m := u.l) (by intro h; rw [h] at hb2; simp at hb2)]; rfl)
      go_enter Tryd.func48, Tryd.ntmps48
      go_wp2
      go_ret
      exact ⟨by rw [Hz.out]; rfl, HB0.out _ _⟩
    | false =>
      have Hz : Hid (sameA t u = allS sameT t.l u.l) := Lib.hid (by rw [Hs.out]; rfl)
      have Hlen : Hid (t.l.length = u.l.length) := Lib.hid (by
        have : (t.l.length : Int) = u.l.length := by simpa using hb2
        omega)
      clear Hs
      go_enter Tryd.func48, Tryd.ntmps48
      go_wp2
      go_loopw [5] (fun i wr => ∃ k : Nat, k ≤ t.l.length ∧ i = .int .i64 k ∧ allS sameT t.l u.l = allS sameT (t.l.drop k) (u.l.drop k) ∧ Below (w.heap.size + 2) ((w.alloc (.cells #[.string t.rel, .slice p1 t.l.length q1] 36)).alloc (.cells #[.string u.rel, .slice p2 u.l.length q2] 36)) wr) (fun i _ => t.l.length - (intOf i).toNat)
      case atStart => exact ⟨0, Nat.zero_le _, rfl, rfl, Below.refl _ _⟩
      case round =>
        obtain ⟨k, hk, rfl, hr, hB2⟩ := hrel
        have hB : Below w.heap.size w wr := (HB0.out _ _).trans (hB2.mono (by omega))
        have Hr := Lib.hid hr
        clear hr
        have hBs := hB2.size
        simp only [World.size_alloc] at hBs
        have hz0 : w.heap.size < wr.heap.size := by omega
        have hz1 : w.heap.size + 1 < wr.heap.size := by omega
        have x0 : wr.cell? ⟨w.heap.size, 1, none⟩ = some (.slice p1 t.l.length q1) := (hB2.cell (p := ⟨w.heap.size, 1, none⟩) (by show w.heap.size < _; omega)).trans (by go_simp)
        have y0 : wr.cell? ⟨w.heap.size + 1, 1, none⟩ = some (.slice p2 u.l.length q2) := (hB2.cell (p := ⟨w.heap.size + 1, 1, none⟩) (by show w.heap.size + 1 < _; omega)).trans (by go_simp)
        by_cases hlt : k < t.l.length
        · have hlt' : (k : Int) < (t.l.length : Int) := by omega
          have hlt2 : k < u.l.length := by have := Hlen.out; omega
          obtain ⟨xe, ht⟩ : ∃ xe, t.l[k]? = some xe := ⟨t.l[k], List.getElem?_eq_getElem hlt⟩
          obtain ⟨ye, hv⟩ : ∃ ye, u.l[k]? = some ye := ⟨u.l[k], List.getElem?_eq_getElem hlt2⟩
          obtain ⟨a, o0a, k0a, rfl, ha, Hc, c0, c1, c2, c3⟩ := tm_at S1 hB ht
          obtain ⟨b, o0b, k0b, rfl, hb, Hd, d0, d1, d2, d3⟩ := tm_at S2 hB hv
          have hal : (a.add (k * 4)).block < wr.heap.size := by rw [addBlock]; omega
          have hbl : (b.add (k * 4)).block < wr.heap.size := by rw [addBlock]; omega
          have Hst := Lib.hid (allS_drop (f := sameT) ht hv)
          clear ht hv
          have HI := Lib.hid (fun (W : World) (hb : Below wr.heap.size wr W) => rsameTerm_c xe ye W _ _ ((Hc.out.under hb).more hb.size) ((Hd.out.under hb).more hb.size))
          go_wp2_with fail
          go_region_held3 (fun w' => w'.cell? ⟨w.heap.size, 1, none⟩ = some (.slice (some a) t.l.length q1) ∧ w'.cell? ⟨w.heap.size + 1, 1, none⟩ = some (.slice (some b) u.l.length q2) ∧ w'.cell? (a.add (k * 4)) = some (.int .i64 xe.op) ∧ w'.cell? ⟨(a.add (k * 4)).block, (a.add (k * 4)).off + 1, none⟩ = some (.string xe.s) ∧ w'.cell? ⟨(a.add (k * 4)).block, (a.add (k * 4)).off + 2, none⟩ = some (.int .i64 xe.n) ∧ w'.cell? ⟨(a.add (k * 4)).block, (a.add (k * 4)).off + 3, none⟩ = some (.slice o0a xe.l.length k0a) ∧ w'.cell? (b.add (k * 4)) = some (.int .i64 ye.op) ∧ w'.cell? ⟨(b.add (k * 4)).block, (b.add (k * 4)).off + 1, none⟩ = some (.string ye.s) ∧ w'.cell? ⟨(b.add (k * 4)).block, (b.add (k * 4)).off + 2, none⟩ = some (.int .i64 ye.n) ∧ w'.cell? ⟨(b.add (k * 4)).block, (b.add (k * 4)).off + 3, none⟩ = some (.slice o0b ye.l.length k0b)) (first | exact ⟨x0, y0, c0, c1, c2, c3, d0, d1, d2, d3⟩ | exact hk) ((go_at_call 67; refine (HI.out _ ((Below.refl _ _).drew)).mono ?_; rintro e w1 ⟨rfl, b1⟩; have hk := held44 b1 hz0 hz1 hal hbl ⟨x0, y0, c0, c1, c2, c3, d0, d1, d2, d3⟩))
          have hB3 := hB2.trans (((Below.refl _ wr).drew).trans (b1.mono (by show _ ≤ wr.heap.size; omega)))
          cases hs : sameT xe ye
          · have Hz2 := Lib.hid (Hr.out.trans (Hst.out.trans (by rw [hs, Bool.false_and])))
            clear hs
            go_wp2
            go_ret
            exact ⟨by rw [Hz.out, Hz2.out]; rfl, (HB0.out _ _).trans (hB3.mono (by omega))⟩
          · have Hz2 := Lib.hid (Hr.out.trans (Hst.out.trans (by rw [hs, Bool.true_and])))
            clear hs
            go_wp2
            go_roundw
            case rel => exact ⟨k + 1, hlt, by go_num, Hz2.out, hB3⟩
            case measure => simp [intOf]; omega
        · have hlt' : ¬ (k : Int) < (t.l.length : Int) := by omega
          have Hz2 := Lib.hid (allS_end (f := sameT) (l := t.l) (m := u.l) (k := k) (by omega) (by have := Hlen.out; omega))
          go_wp2
          go_ret
          exact ⟨by rw [Hz.out, Hr.out, Hz2.out]; rfl, hB⟩

set_option maxRecDepth 100000 in
set_option maxHeartbeats 4000000 in
theorem rsameLit_c (t u : Lt) (w : World) (cs ds : List Value) (hc : LtC w w.heap.size t cs) (hd : LtC w w.heap.size u ds) :
    Calls Tryd.prog 49 #[.agg cs.toArray, .agg ds.toArray] w fun e w' => e = .returned (.bool (sameL t u)) ∧ Below w.heap.size w w' := by
  obtain ⟨p1, q1, r1, s1, x1, y1, rfl, _, a1, t1, v1⟩ := hc.look
  obtain ⟨p2, q2, r2, s2, x2, y2, rfl, _, a2, t2, v2⟩ := hd.look
  have HA := Lib.hid (fun (W : World) (hb : Below w.heap.size w W) => rsameAtom_c t.a u.a W _ _ ((a1.below hb).more hb.size) ((a2.below hb).more hb.size))
  have HX := Lib.hid (fun (W : World) (hb : Below w.heap.size w W) => rsameTerm_c t.x u.x W _ _ ((t1.under hb).more hb.size) ((t2.under hb).more hb.size))
  have HY := Lib.hid (fun (W : World) (hb : Below w.heap.size w W) => rsameTerm_c t.y u.y W _ _ ((v1.under hb).more hb.size) ((v2.under hb).more hb.size))
  clear hc hd a1 a2 t1 t2 v1 v2
  obtain ⟨b0, hb0⟩ : ∃ b, (t.op == u.op) = b := ⟨_, rfl⟩
  obtain ⟨bx, hbx⟩ : ∃ b, sameT t.x u.x = b := ⟨_, rfl⟩
  obtain ⟨by', hby⟩ : ∃ b, sameT t.y u.y = b := ⟨_, rfl⟩
  obtain ⟨ba, hba⟩ : ∃ b, sameA t.a u.a = b := ⟨_, rfl⟩
  have Hz : Hid (sameL t u = (b0 && ba && bx && by')) := Lib.hid (by unfold sameL; rw [hb0, hbx, hby, hba])
  rw [hbx] at HX
  rw [hby] at HY
  rw [hba] at HA
  clear hbx hby hba
  go_enter Tryd.func49, Tryd.ntmps49
  go_wp2_with fail
  refine (HX.out _ (((Below.refl _ _).alloc (Nat.le_refl _) _).alloc (by simp) _)).mono ?_
  rintro e w1 ⟨rfl, b1⟩
  have B1 : Below w.heap.size w w1 := (((Below.refl _ _).alloc (Nat.le_refl _) _).alloc (by simp) _).trans (b1.mono (by simp; omega))
  obtain ⟨hc, hf⟩ := (⟨fun b o h => b1.cell (p := ⟨b, o, none⟩) h, fun b o h => b1.frozen (p := ⟨b, o, none⟩) h⟩ : (∀ b o, b < _ → w1.cell? ⟨b, o, none⟩ = _) ∧ (∀ b o, b < _ → w1.frozen? ⟨b, o, none⟩ = _))
  have hz1 : w.heap.size + 1 < w1.heap.size := by have := b1.size; simp at this; omega
  have hz0 : w.heap.size < w1.heap.size := by omega
  go_wp2_with fail
  refine (HY.out _ B1).mono ?_
  rintro e w2 ⟨rfl, b2⟩
  have B2 : Below w.heap.size w w2 := B1.trans (b2.mono (by omega))
  obtain ⟨hc2, hf2⟩ := (⟨fun b o h => b2.cell (p := ⟨b, o, none⟩) h, fun b o h => b2.frozen (p := ⟨b, o, none⟩) h⟩ : (∀ b o, b < w1.heap.size → w2.cell? ⟨b, o, none⟩ = w1.cell? ⟨b, o, none⟩) ∧ (∀ b o, b < w1.heap.size → w2.frozen? ⟨b, o, none⟩ = w1.frozen? ⟨b, o, none⟩))
  have hz3 : w.heap.size + 1 < w2.heap.size := by have := b2.size; omega
  have hz4 : w.heap.size < w2.heap.size := by omega
  go_wp2_with fail
  refine (HA.out _ B2).mono ?_
  rintro e w3 ⟨rfl, b3⟩
  obtain ⟨hc3, hf3⟩ := (⟨fun b o h => b3.cell (p := ⟨b, o, none⟩) h, fun b o h => b3.frozen (p := ⟨b, o, none⟩) h⟩ : (∀ b o, b < w2.heap.size → w3.cell? ⟨b, o, none⟩ = w2.cell? ⟨b, o, none⟩) ∧ (∀ b o, b < w2.heap.size → w3.frozen? ⟨b, o, none⟩ = w2.frozen? ⟨b, o, none⟩))
  have B3 : Below w.heap.size w w3 := B2.trans (b3.mono (by omega))
  cases b0 <;> cases bx <;> cases by' <;> cases ba
  all_goals
    go_wp2
    go_ret
    exact ⟨by rw [Hz.out]; rfl, B3⟩

set_option maxRecDepth 100000 in
set_option maxHeartbeats 4000000 in
theorem rsameRule_c (t u : Ru) (w : World) (cs ds : List Value) (hc : RuC w w.heap.size t cs) (hd : RuC w w.heap.size u ds) :
    Calls Tryd.prog 29 #[.agg cs.toArray, .agg ds.toArray] w fun e w' => e = .returned (.bool (sameR t u)) ∧ Below w.heap.size w w' := by
  obtain ⟨p1, q1, r1, s1, rfl, _, a1, t1⟩ := hc.look
  obtain ⟨p2, q2, r2, s2, rfl, _, a2, t2⟩ := hd.look
  obtain ⟨o1, cap1, e1, hc1, hm1, S1⟩ := SlOf.open t1
  obtain ⟨o2, cap2, e2, hc2, hm2, S2⟩ := SlOf.open t2
  cases e1
  cases e2
  have HA := Lib.hid (fun (W : World) (hb : Below w.heap.size w W) => rsameAtom_c t.head u.head W _ _ ((a1.below hb).more hb.size) ((a2.below hb).more hb.size))
  clear hc hd t1 t2 a1 a2
  have HB0 : Hid (∀ (x y : Obj), Below w.heap.size w ((w.alloc x).alloc y)) := Lib.hid fun x y => ((Below.refl _ _).alloc (Nat.le_refl _) _).alloc (by simp) _
  obtain ⟨b2, hb2⟩ : ∃ b, ((t.body.length : Int) != (u.body.length : Int)) = b := ⟨_, rfl⟩
  go_enter Tryd.func29, Tryd.ntmps29
  go_wp2_with fail
  refine (HA.out _ (HB0.out _ _)).mono ?_
  rintro e w0 ⟨rfl, b0⟩
  obtain ⟨hc, hf⟩ := (⟨fun b o h => b0.cell (p := ⟨b, o, none⟩) h, fun b o h => b0.frozen (p := ⟨b, o, none⟩) h⟩ : (∀ b o, b < _ → w0.cell? ⟨b, o, none⟩ = _) ∧ (∀ b o, b < _ → w0.frozen? ⟨b, o, none⟩ = _))
  have b0' := b0.mono (show w.heap.size + 2 ≤ _ by simp)
  have hy1 : w.heap.size + 1 < w0.heap.size := by have := b0.size; simp at this; omega
  have hy0 : w.heap.size < w0.heap.size := by omega
  cases h1 : sameA t.head u.head with
  | false =>
    have Hz : Hid (sameR t u = false) := Lib.hid (by unfold sameR; rw [h1]; rfl)
    clear h1
    go_wp2
    go_ret
    exact ⟨by rw [Hz.out]; rfl, (HB0.out _ _).trans (b0'.mono (by omega))⟩
  | true =>
    cases b2 with
    | true =>
      have Hz : Hid (sameR t u = false) := Lib.hid (by unfold sameR; rw [allS_len (f := sameL) (l := t.body) (m := u.body) (by intro h; rw [h] at hb2; simp at hb2), Bool.and_false])
      clear h1
      go_wp2
      go_ret
      exact ⟨by rw [Hz.out]; rfl, (HB0.out _ _).trans (b0'.mono (by omega))⟩
    | false =>
      have Hz : Hid (sameR t u = allS sameL t.body u.body) := Lib.hid (by unfold sameR; rw [h1]; rfl)
      have Hlen : Hid (t.body.length = u.body.length) := Lib.hid (by
        have : (t.body.length : Int) = u.body.length := by simpa using hb2
        omega)
      clear h1
      go_wp2
      go_loopw [6] (fun i wr => ∃ k : Nat, k ≤ t.body.length ∧ i = .int .i64 k ∧ allS sameL t.body u.body = allS sameL (t.body.drop k) (u.body.drop k) ∧ Below (w.heap.size + 2) ((w.alloc (.cells #[.string t.head.rel, .slice p1 t.head.l.length q1, .slice r1 t.body.length s1, .int .i64 t.line] 39)).alloc (.cells #[.string u.head.rel, .slice p2 u.head.l.length q2, .slice r2 u.body.length s2, .int .i64 u.line] 39)) wr) (fun i _ => t.body.length - (intOf i).toNat)
      case atStart => exact ⟨0, Nat.zero_le _, rfl, rfl, b0'⟩
      case round =>
        obtain ⟨k, hk, rfl, hr, hB2⟩ := hrel
        have hB : Below w.heap.size w wr := (HB0.out _ _).trans (hB2.mono (by omega))
        have Hr := Lib.hid hr
        clear hr
        have hBs := hB2.size
        simp only [World.size_alloc] at hBs
        have hz0 : w.heap.size < wr.heap.size := by omega
        have hz1 : w.heap.size + 1 < wr.heap.size := by omega
        have x0 : wr.cell? ⟨w.heap.size, 2, none⟩ = some (.slice r1 t.body.length s1) := (hB2.cell (p := ⟨w.heap.size, 2, none⟩) (by show w.heap.size < _; omega)).trans (by go_simp)
        have y0 : wr.cell? ⟨w.heap.size + 1, 2, none⟩ = some (.slice r2 u.body.length s2) := (hB2.cell (p := ⟨w.heap.size + 1, 2, none⟩) (by show w.heap.size + 1 < _; omega)).trans (by go_simp)
        by_cases hlt : k < t.body.length
        · have hlt' : (k : Int) < (t.body.length : Int) := by omega
          have hlt2 : k < u.body.length := by have := Hlen.out; omega
          obtain ⟨xe, ht⟩ : ∃ xe, t.body[k]? = some xe := ⟨t.body[k], List.getElem?_eq_getElem hlt⟩
          obtain ⟨ye, hv⟩ : ∃ ye, u.body[k]? = some ye := ⟨u.body[k], List.getElem?_eq_getElem hlt2⟩
          obtain ⟨a, o0a, k0a, o1a, k1a, o2a, k2a, rfl, ha, Hc, c0, c1, c2, c3, c4, c5, c6, c7, c8, c9, c10⟩ := lt_at S1 hB ht
          obtain ⟨b, o0b, k0b, o1b, k1b, o2b, k2b, rfl, hb, Hd, d0, d1, d2, d3, d4, d5, d6, d7, d8, d9, d10⟩ := lt_at S2 hB hv
          have hal : (a.add (k * 11)).block < wr.heap.size := by rw [addBlock]; omega
          have hbl : (b.add (k * 11)).block < wr.heap.size := by rw [addBlock]; omega
          have Hst := Lib.hid (allS_drop (f := sameL) ht hv)
          clear ht hv
          have HI := Lib.hid (fun (W : World) (hb : Below wr.heap.size wr W) => rsameLit_c xe ye W _ _ ((Hc.out.below hb).more hb.size) ((Hd.out.below hb).more hb.size))
          go_wp2_with fail
          go_region_held3 (fun w' => w'.cell? ⟨w.heap.size, 2, none⟩ = some (.slice (some a) t.body.length s1) ∧ w'.cell? ⟨w.heap.size + 1, 2, none⟩ = some (.slice (some b) u.body.length s2) ∧ w'.cell? (a.add (k * 11)) = some (.int .i64 xe.op) ∧ w'.cell? ⟨(a.add (k * 11)).block, (a.add (k * 11)).off + 1, none⟩ = some (.string xe.a.rel) ∧ w'.cell? ⟨(a.add (k * 11)).block, (a.add (k * 11)).off + 2, none⟩ = some (.slice o0a xe.a.l.length k0a) ∧ w'.cell? ⟨(a.add (k * 11)).block, (a.add (k * 11)).off + 3, none⟩ = some (.int .i64 xe.x.op) ∧ w'.cell? ⟨(a.add (k * 11)).block, (a.add (k * 11)).off + 4, none⟩ = some (.string xe.x.s) ∧ w'.cell? ⟨(a.add (k * 11)).block, (a.add (k * 11)).off + 5, none⟩ = some (.int .i64 xe.x.n) ∧ w'.cell? ⟨(a.add (k * 11)).block, (a.add (k * 11)).off + 6, none⟩ = some (.slice o1a xe.x.l.length k1a) ∧ w'.cell? ⟨(a.add (k * 11)).block, (a.add (k * 11)).off + 7, none⟩ = some (.int .i64 xe.y.op) ∧ w'.cell? ⟨(a.add (k * 11)).block, (a.add (k * 11)).off + 8, none⟩ = some (.string xe.y.s) ∧ w'.cell? ⟨(a.add (k * 11)).block, (a.add (k * 11)).off + 9, none⟩ = some (.int .i64 xe.y.n) ∧ w'.cell? ⟨(a.add (k * 11)).block, (a.add (k * 11)).off + 10, none⟩ = some (.slice o2a xe.y.l.length k2a) ∧ w'.cell? (b.add (k * 11)) = some (.int .i64 ye.op) ∧ w'.cell? ⟨(b.add (k * 11)).block, (b.add (k * 11)).off + 1, none⟩ = some (.string ye.a.rel) ∧ w'.cell? ⟨(b.add (k * 11)).block, (b.add (k * 11)).off + 2, none⟩ = some (.slice o0b ye.a.l.length k0b) ∧ w'.cell? ⟨(b.add (k * 11)).block, (b.add (k * 11)).off + 3, none⟩ = some (.int .i64 ye.x.op) ∧ w'.cell? ⟨(b.add (k * 11)).block, (b.add (k * 11)).off + 4, none⟩ = some (.string ye.x.s) ∧ w'.cell? ⟨(b.add (k * 11)).block, (b.add (k * 11)).off + 5, none⟩ = some (.int .i64 ye.x.n) ∧ w'.cell? ⟨(b.add (k * 11)).block, (b.add (k * 11)).off + 6, none⟩ = some (.slice o1b ye.x.l.length k1b) ∧ w'.cell? ⟨(b.add (k * 11)).block, (b.add (k * 11)).off + 7, none⟩ = some (.int .i64 ye.y.op) ∧ w'.cell? ⟨(b.add (k * 11)).block, (b.add (k * 11)).off + 8, none⟩ = some (.string ye.y.s) ∧ w'.cell? ⟨(b.add (k * 11)).block, (b.add (k * 11)).off + 9, none⟩ = some (.int .i64 ye.y.n) ∧ w'.cell? ⟨(b.add (k * 11)).block, (b.add (k * 11)).off + 10, none⟩ = some (.slice o2b ye.y.l.length k2b)) (first | exact ⟨x0, y0, c0, c1, c2, c3, c4, c5, c6, c7, c8, c9, c10, d0, d1, d2, d3, d4, d5, d6, d7, d8, d9, d10⟩ | exact hk) ((go_at_call 49; refine (HI.out _ ((Below.refl _ _).drew)).mono ?_; rintro e w1 ⟨rfl, b1⟩; have hk := held11 b1 hz0 hz1 hal hbl ⟨x0, y0, c0, c1, c2, c3, c4, c5, c6, c7, c8, c9, c10, d0, d1, d2, d3, d4, d5, d6, d7, d8, d9, d10⟩))
          have hB3 := hB2.trans (((Below.refl _ wr).drew).trans (b1.mono (by show _ ≤ wr.heap.size; omega)))
          cases hs : sameL xe ye
          · have Hz2 := Lib.hid (Hr.out.trans (Hst.out.trans (by rw [hs, Bool.false_and])))
            clear hs
            go_wp2
            go_ret
            exact ⟨by rw [Hz.out, Hz2.out]; rfl, (HB0.out _ _).trans (hB3.mono (by omega))⟩
          · have Hz2 := Lib.hid (Hr.out.trans (Hst.out.trans (by rw [hs, Bool.true_and])))
            clear hs
            go_wp2
            go_roundw
            case rel => exact ⟨k + 1, hlt, by go_num, Hz2.out, hB3⟩
            case measure => simp [intOf]; omega
        · have hlt' : ¬ (k : Int) < (t.body.length : Int) := by omega
          have Hz2 := Lib.hid (allS_end (f := sameL) (l := t.body) (m := u.body) (k := k) (by omega) (by have := Hlen.out; omega))
          go_wp2
          go_ret
          exact ⟨by rw [Hz.out, Hr.out, Hz2.out]; rfl, hB⟩
end Go.Proofs.YthjfkngfgomkbaaDoor
