/- soritesref08.Minus, Same. -/
import Derived.Test.YtphmiifochjemaaRel8d
namespace Go.Proofs.Ytphmiifochjemaa
open Go.RowKit

theorem minus_le (a b : List Rw) : (minusL rwC a b).length ≤ a.length := List.length_filter_le _ _

set_option maxRecDepth 100000 in
set_option maxHeartbeats 4000000 in
theorem rsame_c (a b : List Rw) (v u : Value) (w : World) (h1 : RwsS w w.heap.size a v) (h2 : RwsS w w.heap.size b u) :
    Calls Try.prog 11 #[v, u] w fun e w' => e = .returned (.bool (sameWs a b)) ∧ Below w.heap.size w w' := by
  obtain ⟨o1, cap1, rfl, hc1, hm1, S1⟩ := SlOf.open h1
  obtain ⟨o2, cap2, rfl, hc2, hm2, S2⟩ := SlOf.open h2
  clear h1 h2
  obtain ⟨bl, hbl⟩ : ∃ x, ((a.length : Int) != (b.length : Int)) = x := ⟨_, rfl⟩
  cases bl with
  | true =>
    have Hz : Hid (sameWs a b = false) := Lib.hid (allS_len (by intro h; rw [h] at hbl; simp at hbl))
    go_enter Try.func11, Try.ntmps11
    go_wp2
    go_ret
    exact ⟨by rw [Hz.out]; rfl, Below.refl _ _⟩
  | false =>
  have hlen : a.length = b.length := by have : (a.length : Int) = b.length := by simpa using hbl
                                        omega
  have HLEN := Lib.hid hlen
  clear hlen
  go_enter Try.func11, Try.ntmps11
  go_wp2
  go_loopw [5] (fun i wr => ∃ k : Nat, k ≤ a.length ∧ i = .int .i64 k ∧ sameWs a b = allS sameW (a.drop k) (b.drop k) ∧ Below w.heap.size w wr) (fun i _ => a.length - (intOf i).toNat)
  case atStart => exact ⟨0, Nat.zero_le _, rfl, rfl, Below.refl _ _⟩
  case round =>
    obtain ⟨k, hk, rfl, hr, hB⟩ := hrel
    have Hr := Lib.hid hr
    clear hr
    by_cases hlt : k < a.length
    · have hlt' : (k : Int) < (a.length : Int) := by omega
      have hlt2 : (k : Int) < (b.length : Int) := by have := HLEN.out; omega
      have hk0 : (0 : Int) ≤ (k : Int) := by omega
      obtain ⟨x, hx⟩ : ∃ x, a[k]? = some x := ⟨a[k], List.getElem?_eq_getElem hlt⟩
      obtain ⟨y, hy⟩ : ∃ y, b[k]? = some y := ⟨b[k], List.getElem?_eq_getElem (by have := HLEN.out; omega)⟩
      obtain ⟨p, p3, q3, rfl, hp, Hx, c0, _⟩ := rw_at S1 hB hx
      obtain ⟨q, p4, q4, rfl, hq, Hy, d0, _⟩ := rw_at S2 hB hy
      have hBs := hB.size
      have hpl : (p.add k).block < wr.heap.size := by rw [addBlock]; omega
      have hql : (q.add k).block < wr.heap.size := by rw [addBlock]; omega
      have Hst := Lib.hid (Hr.out.trans (allS_drop (f := sameW) hx hy))
      clear hx hy
      obtain ⟨bw, hbw⟩ : ∃ z, ((x.length : Int) != (y.length : Int)) = z := ⟨_, rfl⟩
      cases bw with
      | true =>
        have Hz : Hid (sameWs a b = false) := Lib.hid (by
          have : sameW x y = false := allS_len (by intro h; rw [h] at hbw; simp at hbw)
          rw [Hst.out, this]; rfl)
        go_wp2
        go_quiet (fail)
        go_wp2
        go_ret
        exact ⟨by rw [Hz.out]; rfl, below_drewN hB _⟩
      | false =>
        have hxy : x.length = y.length := by have : (x.length : Int) = y.length := by simpa using hbw
                                             omega
        have HXY := Lib.hid hxy
        clear hxy
        have HS0 : Hid (sameW x y = allS sameV (x.drop 0) (y.drop 0)) := Lib.hid rfl
        obtain ⟨ox, cx, ex, hcx, hmx, SX⟩ := SlOf.open Hx.out
        cases ex
        obtain ⟨oy, cy, ey, hcy, hmy, SY⟩ := SlOf.open Hy.out
        cases ey
        obtain ⟨W1, rfl⟩ : ∃ W1, W1 = wr := ⟨_, rfl⟩
        go_wp2
        go_quiet (fail)
        go_wp2
        go_loopw [6] (fun i wx => ∃ j : Nat, j ≤ x.length ∧ i = .int .i64 j ∧ sameW x y = allS sameV (x.drop j) (y.drop j) ∧ Below W1.heap.size W1 wx) (fun i _ => x.length - (intOf i).toNat)
        case atStart => exact ⟨0, Nat.zero_le _, rfl, HS0.out, below_drewN (Below.refl _ _) _⟩
        case round =>
          obtain ⟨j, hj, rfl, hs, hB2⟩ := hrel
          have Hs := Lib.hid hs
          clear hs
          have hB2s := hB2.size
          have cc0 := (hB2.cell hpl).trans c0
          have dd0 := (hB2.cell hql).trans d0
          have hpl2 := Nat.lt_of_lt_of_le hpl hB2s
          have hql2 := Nat.lt_of_lt_of_le hql hB2s
          by_cases hjt : j < x.length
          · have hjt' : (j : Int) < (x.length : Int) := by omega
            have hjt2 : (j : Int) < (y.length : Int) := by have := HXY.out; omega
            have hj0 : (0 : Int) ≤ (j : Int) := by omega
            obtain ⟨xv, hxv⟩ : ∃ z, x[j]? = some z := ⟨x[j], List.getElem?_eq_getElem hjt⟩
            obtain ⟨yv, hyv⟩ : ∃ z, y[j]? = some z := ⟨y[j], List.getElem?_eq_getElem (by have := HXY.out; omega)⟩
            obtain ⟨px, rfl, hpx, _, _, x0, x1, x2⟩ := vl_at SX hB2 hxv
            obtain ⟨py, rfl, hpy, _, _, y0, y1, y2⟩ := vl_at SY hB2 hyv
            have hpxl : (px.add (j * 3)).block < W1.heap.size := by rw [addBlock]; omega
            have hpyl : (py.add (j * 3)).block < W1.heap.size := by rw [addBlock]; omega
            have hpx2 := Nat.lt_of_lt_of_le hpxl hB2s
            have hpy2 := Nat.lt_of_lt_of_le hpyl hB2s
            have Hst2 := Lib.hid (Hs.out.trans (allS_drop (f := sameV) hxv hyv))
            clear hxv hyv
            by_cases hv : sameV xv yv = true
            · have Hs2 := Lib.hid (Hst2.out.trans (by rw [hv, Bool.true_and]))
              obtain rfl := (sameV_iff _ _).1 hv
              clear hv
              go_wp2
              go_quiet (fail)
              go_wp2
              go_roundw
              case rel => exact ⟨j + 1, hjt, by go_num, Hs2.out, below_drewN hB2 _⟩
              case measure => simp [intOf]; omega
            · have Hz : Hid (sameWs a b = false) := Lib.hid (by
                have h1 : sameV xv yv = false := by simpa using hv
                rw [Hst.out, Hst2.out, h1]; rfl)
              have hne : ¬ (xv.sym = yv.sym ∧ xv.n = yv.n ∧ xv.s.toList = yv.s.toList) := fun h => hv (by unfold sameV; rw [h.1, h.2.1, h.2.2]; simp)
              clear hv
              obtain ⟨sx, nx, tx⟩ := xv
              obtain ⟨sy, ny, ty⟩ := yv
              simp only at x0 x1 x2 y0 y1 y2 hne
              clear Hst2
              by_cases hsy : sx = sy
              · subst hsy
                by_cases hn : nx = ny
                · subst hn
                  have ht : (tx.toList == ty.toList) = false := by
                    rw [beq_eq_false_iff_ne]
                    intro h
                    exact hne ⟨rfl, rfl, h⟩
                  clear hne
                  go_wp2
                  go_quiet (fail)
                  go_wp2
                  go_ret
                  exact ⟨by rw [Hz.out]; rfl, below_drewN (hB.trans (hB2.mono hBs)) _⟩
                · have hn' : (nx == ny) = false := by simpa using hn
                  clear hne
                  go_wp2
                  go_quiet (fail)
                  go_wp2
                  go_ret
                  exact ⟨by rw [Hz.out]; rfl, below_drewN (hB.trans (hB2.mono hBs)) _⟩
              · clear hne
                cases sx <;> cases sy
                · exact absurd rfl hsy
                · go_wp2
                  go_quiet (fail)
                  go_wp2
                  go_ret
                  exact ⟨by rw [Hz.out]; rfl, below_drewN (hB.trans (hB2.mono hBs)) _⟩
                · go_wp2
                  go_quiet (fail)
                  go_wp2
                  go_ret
                  exact ⟨by rw [Hz.out]; rfl, below_drewN (hB.trans (hB2.mono hBs)) _⟩
                · exact absurd rfl hsy
          · have hjt' : ¬ (j : Int) < (x.length : Int) := by omega
            have Hz2 := Lib.hid (Hs.out.trans (allS_end (f := sameV) (l := x) (m := y) (k := j) (by omega) (by have := HXY.out; omega)))
            have Hz3 := Lib.hid (Hst.out.trans (by rw [Hz2.out, Bool.true_and]))
            go_wp2
            go_roundw
            case rel => exact ⟨k + 1, hlt, by go_num, Hz3.out, hB.trans (hB2.mono hBs)⟩
            case measure => simp [intOf]; omega
    · have hlt' : ¬ (k : Int) < (a.length : Int) := by omega
      have Hz2 := Lib.hid (Hr.out.trans (allS_end (f := sameW) (l := a) (m := b) (k := k) (by omega) (by have := HLEN.out; omega)))
      go_wp2
      go_ret
      exact ⟨by rw [Hz2.out]; rfl, hB⟩
end Go.Proofs.Ytphmiifochjemaa
