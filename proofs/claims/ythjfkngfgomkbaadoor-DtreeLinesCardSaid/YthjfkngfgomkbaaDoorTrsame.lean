/- soritesref03.SameTerm: are two terms the same? -/
import Derived.Test.YthjfkngfgomkbaaDoorTsp
import Derived.BigQuiet
import Derived.Deep.QuietTactic
import Derived.Deep.RegionHeld3
namespace Go.Proofs.YthjfkngfgomkbaaDoor
open Go.RowKit

def RSameTermAt (t : Tm) : Prop := ∀ (u : Tm) (w : World) (cs ds : List Value), TmC w w.heap.size t cs → TmC w w.heap.size u ds →
    Calls Tryd.prog 67 #[.agg cs.toArray, .agg ds.toArray] w fun e w' => e = .returned (.bool (sameT t u)) ∧ Below w.heap.size w w'

theorem held10 {W w1 : World} (b : Below W.heap.size W.drew w1) {x y : Nat} {i j : Nat} {p q : Addr} {v0 v1 v2 v3 v4 v5 v6 v7 v8 v9 : Value} (hx : x < W.heap.size) (hy : y < W.heap.size) (hp : p.block < W.heap.size) (hq : q.block < W.heap.size)
    (h : W.cell? ⟨x, i, none⟩ = some v0 ∧ W.cell? ⟨y, j, none⟩ = some v1 ∧ W.cell? p = some v2 ∧ W.cell? ⟨p.block, p.off + 1, none⟩ = some v3 ∧ W.cell? ⟨p.block, p.off + 2, none⟩ = some v4 ∧ W.cell? ⟨p.block, p.off + 3, none⟩ = some v5 ∧ W.cell? q = some v6 ∧ W.cell? ⟨q.block, q.off + 1, none⟩ = some v7 ∧ W.cell? ⟨q.block, q.off + 2, none⟩ = some v8 ∧ W.cell? ⟨q.block, q.off + 3, none⟩ = some v9) :
    w1.cell? ⟨x, i, none⟩ = some v0 ∧ w1.cell? ⟨y, j, none⟩ = some v1 ∧ w1.cell? p = some v2 ∧ w1.cell? ⟨p.block, p.off + 1, none⟩ = some v3 ∧ w1.cell? ⟨p.block, p.off + 2, none⟩ = some v4 ∧ w1.cell? ⟨p.block, p.off + 3, none⟩ = some v5 ∧ w1.cell? q = some v6 ∧ w1.cell? ⟨q.block, q.off + 1, none⟩ = some v7 ∧ w1.cell? ⟨q.block, q.off + 2, none⟩ = some v8 ∧ w1.cell? ⟨q.block, q.off + 3, none⟩ = some v9 := by
  obtain ⟨h0, h1, h2, h3, h4, h5, h6, h7, h8, h9⟩ := h
  exact ⟨(b.cell (p := ⟨x, i, none⟩) hx).trans h0, (b.cell (p := ⟨y, j, none⟩) hy).trans h1, (b.cell hp).trans h2, (b.cell (p := ⟨p.block, p.off + 1, none⟩) hp).trans h3, (b.cell (p := ⟨p.block, p.off + 2, none⟩) hp).trans h4, (b.cell (p := ⟨p.block, p.off + 3, none⟩) hp).trans h5, (b.cell hq).trans h6, (b.cell (p := ⟨q.block, q.off + 1, none⟩) hq).trans h7, (b.cell (p := ⟨q.block, q.off + 2, none⟩) hq).trans h8, (b.cell (p := ⟨q.block, q.off + 3, none⟩) hq).trans h9⟩

set_option maxRecDepth 100000 in
set_option maxHeartbeats 4000000 in
theorem rsameTerm_c (t : Tm) : RSameTermAt t := by
  induction t using Tm.rec (motive_2 := fun l => ∀ t ∈ l, RSameTermAt t) with
  | nil x hx => simp at hx
  | cons t ts ih ihs x hx =>
    rcases List.mem_cons.1 hx with rfl | hx
    · exact ih
    · exact ihs x hx
  | mk op s n l ih =>
    intro u w cs ds hc hd
    obtain ⟨p1, q1, rfl, _, _, _, t1⟩ := hc.look
    obtain ⟨p2, q2, rfl, _, _, _, t2⟩ := hd.look
    have Hs := Lib.hid (sameT_eq (.mk op s n l) u)
    simp only [Tm.op_mk, Tm.s_mk, Tm.n_mk, Tm.l_mk] at Hs t1 ⊢
    obtain ⟨o1, cap1, e1, hc1, hm1, S1⟩ := SlOf.open t1
    obtain ⟨o2, cap2, e2, hc2, hm2, S2⟩ := SlOf.open t2
    cases e1
    cases e2
    have IH := Lib.hid ih
    clear hc hd t1 t2 ih
    obtain ⟨b1, hb1⟩ : ∃ b, (op != u.op) = b := ⟨_, rfl⟩
    obtain ⟨b2, hb2⟩ : ∃ b, (!s.toList == u.s.toList) = b := ⟨_, rfl⟩
    obtain ⟨b3, hb3⟩ : ∃ b, (n != u.n) = b := ⟨_, rfl⟩
    obtain ⟨b4, hb4⟩ : ∃ b, ((l.length : Int) != (u.l.length : Int)) = b := ⟨_, rfl⟩
    have hB0 : ∀ (x y : Obj), Below w.heap.size w ((w.alloc x).alloc y) := fun x y => ((Below.refl _ _).alloc (Nat.le_refl _) _).alloc (by simp) _
    have HB0 := Lib.hid hB0
    clear hB0
    cases b1 with
    | true =>
      have Hz : Hid (sameT (.mk op s n l) u = false) := Lib.hid (by rw [Hs.out, show (op == u.op) = false by simpa using hb1]; rfl)
      go_enter Tryd.func67, Tryd.ntmps67
      go_wp2
      go_ret
      exact ⟨by rw [Hz.out]; rfl, HB0.out _ _⟩
    | false =>
      cases b2 with
      | true =>
        have Hz : Hid (sameT (.mk op s n l) u = false) := Lib.hid (by rw [Hs.out, show (s.toList == u.s.toList) = false by simpa using hb2]; simp)
        go_enter Tryd.func67, Tryd.ntmps67
        go_wp2
        go_ret
        exact ⟨by rw [Hz.out]; rfl, HB0.out _ _⟩
      | false =>
        cases b3 with
        | true =>
          have Hz : Hid (sameT (.mk op s n l) u = false) := Lib.hid (by rw [Hs.out, show (n == u.n) = false by simpa using hb3]; simp)
          go_enter Tryd.func67, Tryd.ntmps67
          go_wp2
          go_ret
          exact ⟨by rw [Hz.out]; rfl, HB0.out _ _⟩
        | false =>
          cases b4 with
          | true =>
            have Hz : Hid (sameT (.mk op s n l) u = false) := Lib.hid (by rw [Hs.out, allS_len (f := sameT) (l := l) (m := u.l) (by intro h; rw [h] at hb4; simp at hb4)]; simp)
            go_enter Tryd.func67, Tryd.ntmps67
            go_wp2
            go_ret
            exact ⟨by rw [Hz.out]; rfl, HB0.out _ _⟩
          | false =>
            have Hz : Hid (sameT (.mk op s n l) u = allS sameT l u.l) := Lib.hid (by rw [Hs.out, show (op == u.op) = true by simpa using hb1, show (s.toList == u.s.toList) = true by simpa using hb2, show (n == u.n) = true by simpa using hb3]; rfl)
            have hlen : l.length = u.l.length := by have : (l.length : Int) = u.l.length := by simpa using hb4
                                                    omega
            have Hlen := Lib.hid hlen
            clear hlen
            go_enter Tryd.func67, Tryd.ntmps67
            go_wp2
            go_loopw [5] (fun i wr => ∃ k : Nat, k ≤ l.length ∧ i = .int .i64 k ∧ allS sameT l u.l = allS sameT (l.drop k) (u.l.drop k) ∧ Below (w.heap.size + 2) ((w.alloc (.cells #[.int .i64 op, .string s, .int .i64 n, .slice p1 l.length q1] 67)).alloc (.cells #[.int .i64 u.op, .string u.s, .int .i64 u.n, .slice p2 u.l.length q2] 67)) wr) (fun i _ => l.length - (intOf i).toNat)
            case atStart => exact ⟨0, Nat.zero_le _, rfl, rfl, Below.refl _ _⟩
            case round =>
              obtain ⟨k, hk, rfl, hr, hB2⟩ := hrel
              have hB : Below w.heap.size w wr := (HB0.out _ _).trans (hB2.mono (by omega))
              have Hr := Lib.hid hr
              clear hr
              have hBs := hB2.size
              simp only [World.size_alloc] at hBs
              have x0 : wr.cell? ⟨w.heap.size, 3, none⟩ = some (.slice p1 l.length q1) := (hB2.cell (p := ⟨w.heap.size, 3, none⟩) (by show w.heap.size < _; omega)).trans (by go_simp)
              have y0 : wr.cell? ⟨w.heap.size + 1, 3, none⟩ = some (.slice p2 u.l.length q2) := (hB2.cell (p := ⟨w.heap.size + 1, 3, none⟩) (by show w.heap.size + 1 < _; omega)).trans (by go_simp)
              by_cases hlt : k < l.length
              · have hlt' : (k : Int) < (l.length : Int) := by omega
                have hlt2 : k < u.l.length := by have := Hlen.out; omega
                obtain ⟨t, ht⟩ : ∃ t, l[k]? = some t := ⟨l[k], List.getElem?_eq_getElem hlt⟩
                obtain ⟨v, hv⟩ : ∃ v, u.l[k]? = some v := ⟨u.l[k], List.getElem?_eq_getElem hlt2⟩
                obtain ⟨a, p3, q3, rfl, ha, Hc, c0, c1, c2, c3⟩ := tm_at S1 hB ht
                obtain ⟨b, p4, q4, rfl, hb, Hd, d0, d1, d2, d3⟩ := tm_at S2 hB hv
                have Hst := Lib.hid (allS_drop (f := sameT) ht hv)
                have Ht := Lib.hid (List.mem_of_getElem? ht)
                clear ht hv
                have HI := Lib.hid (fun (W : World) (hb : Below wr.heap.size wr W) => IH.out t Ht.out v W _ _ ((Hc.out.under hb).more hb.size) ((Hd.out.under hb).more hb.size))
                go_wp2_with fail
                have hz0 : w.heap.size < wr.heap.size := by omega
                have hz1 : w.heap.size + 1 < wr.heap.size := by omega
                have hal : (a.add (k * 4)).block < wr.heap.size := by rw [addBlock]; omega
                have hbl : (b.add (k * 4)).block < wr.heap.size := by rw [addBlock]; omega
                go_region_held3 (fun w' => w'.cell? ⟨w.heap.size, 3, none⟩ = some (.slice (some a) l.length q1) ∧ w'.cell? ⟨w.heap.size + 1, 3, none⟩ = some (.slice (some b) u.l.length q2) ∧ w'.cell? (a.add (k * 4)) = some (.int .i64 t.op) ∧ w'.cell? ⟨(a.add (k * 4)).block, (a.add (k * 4)).off + 1, none⟩ = some (.string t.s) ∧ w'.cell? ⟨(a.add (k * 4)).block, (a.add (k * 4)).off + 2, none⟩ = some (.int .i64 t.n) ∧ w'.cell? ⟨(a.add (k * 4)).block, (a.add (k * 4)).off + 3, none⟩ = some (.slice p3 t.l.length q3) ∧ w'.cell? (b.add (k * 4)) = some (.int .i64 v.op) ∧ w'.cell? ⟨(b.add (k * 4)).block, (b.add (k * 4)).off + 1, none⟩ = some (.string v.s) ∧ w'.cell? ⟨(b.add (k * 4)).block, (b.add (k * 4)).off + 2, none⟩ = some (.int .i64 v.n) ∧ w'.cell? ⟨(b.add (k * 4)).block, (b.add (k * 4)).off + 3, none⟩ = some (.slice p4 v.l.length q4)) (first | exact ⟨x0, y0, c0, c1, c2, c3, d0, d1, d2, d3⟩ | exact hk) ((go_at_call 67; refine (HI.out _ ((Below.refl _ _).drew)).mono ?_; rintro e w1 ⟨rfl, b1⟩; have hk := held10 b1 hz0 hz1 hal hbl ⟨x0, y0, c0, c1, c2, c3, d0, d1, d2, d3⟩))
                have hB3 := hB2.trans (((Below.refl _ wr).drew).trans (b1.mono (by show _ ≤ wr.heap.size; omega)))
                cases hs : sameT t v
                · have Hz2 := Lib.hid (Hr.out.trans (Hst.out.trans (by rw [hs, Bool.false_and])))
                  clear hs
                  go_wp2
                  go_ret
                  exact ⟨by rw [Hz.out, Hz2.out]; rfl, (HB0.out _ _).trans (hB3.mono (by omega))⟩
                · have Hz2 := Lib.hid (Hr.out.trans (Hst.out.trans (by rw [hs, Bool.true_and])))
                  clear hs
                  go_wp2
                  go_roundw
                  case rel => exact ⟨k + 1, hlt, by go_num, Hz2.out, hB3⟩
                  case measure => simp [intOf]; omega
              · have hlt' : ¬ (k : Int) < (l.length : Int) := by omega
                have Hz2 := Lib.hid (allS_end (f := sameT) (l := l) (m := u.l) (k := k) (by omega) (by have := Hlen.out; omega))
                go_wp2
                go_ret
                exact ⟨by rw [Hz.out, Hr.out, Hz2.out]; rfl, hB⟩
end Go.Proofs.YthjfkngfgomkbaaDoor
