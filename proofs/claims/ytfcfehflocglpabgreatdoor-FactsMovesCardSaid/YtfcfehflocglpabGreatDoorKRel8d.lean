/- soritesref08.Sort, Add, Has, Union, Minus. soritesref08.Minus, Same. soritesref09.Same of two readings of the same rows. soriteslaw10.FactsMoves. -/
import Derived.Test.YtfcfehflocglpabGreatDoorKPri
import Derived.Test.YtfcfehflocglpabGreatDoorKFR
set_option linter.unusedSimpArgs false
set_option linter.unusedVariables false
namespace Go.Proofs.YtfcfehflocglpabGreatDoor
open Go.RowKit

theorem put_len1 (l : List Rw) (t : Rw) : (putL rwC l t).length ≤ l.length + 1 := by
  rw [put_len]
  split <;> omega
theorem fold_step {l : List Rw} {k : Nat} {x : Rw} (a : List Rw) (h : l[k]? = some x) : (l.take (k + 1)).foldl (putL rwC) a = putL rwC ((l.take k).foldl (putL rwC) a) x := by
  rw [take_snoc h, List.foldl_append]
  rfl
theorem minus_step {a b : List Rw} {k : Nat} {x : Rw} (h : a[k]? = some x) : minusL rwC (a.take (k + 1)) b = minusL rwC (a.take k) b ++ (if inL rwC b x = true then [] else [x]) := by
  unfold minusL
  rw [take_snoc h, List.filter_append, List.filter_cons, List.filter_nil]
  cases inL rwC b x <;> rfl

set_option maxRecDepth 100000 in
set_option maxHeartbeats 4000000 in
theorem rsort_c (l : List Rw) (v : Value) (w : World) (hl : l.length ≤ 1000000) (h1 : RwsS w w.heap.size l v) :
    Calls Tryz.prog 33 #[v] w fun e w' => ∃ r, e = .returned r ∧ RwsS w' w'.heap.size (sortL rwC l) r ∧ Below w.heap.size w w' := by
  obtain ⟨o1, cap1, rfl, hc1, hm1, S1⟩ := SlOf.open h1
  have HL := Lib.hid hl
  clear h1 hl
  go_enter Tryz.func33, Tryz.ntmps33
  go_wp2
  go_loopw [3, 4] (fun ov i wr => ∃ (k : Nat) (L : List Rw), k ≤ l.length ∧ i = .int .i64 k ∧ RwsS wr wr.heap.size L ov ∧ L = (l.take k).foldl (putL rwC) [] ∧ L.length ≤ k ∧ Below w.heap.size w wr) (fun _ i _ => l.length - (intOf i).toNat)
  case atStart => exact ⟨0, [], Nat.zero_le _, rfl, .inl ⟨rfl, rfl⟩, rfl, Nat.le_refl _, Below.refl _ _⟩
  case round =>
    obtain ⟨k, L, hk, rfl, hS, hL, hLn, hB⟩ := hrel
    have HS := Lib.hid hS
    have HLE := Lib.hid hL
    clear hS hL
    by_cases hlt : k < l.length
    · have hlt' : (k : Int) < (l.length : Int) := by omega
      obtain ⟨x, hx⟩ : ∃ x, l[k]? = some x := ⟨l[k], List.getElem?_eq_getElem hlt⟩
      obtain ⟨a, p3, q3, rfl, ha, Hx, c0, _⟩ := rw_at S1 hB hx
      have hBs := hB.size
      have hal : (a.add k).block < wr.heap.size := by rw [addBlock]; omega
      have HP := Lib.hid (rput_c L x _ _ wr (by have := HL.out; omega) HS.out Hx.out)
      have HL2 := Lib.hid (fold_step [] hx)
      clear hx
      go_wp2_with fail
      refine HP.out.mono ?_
      rintro e w1 ⟨r, rfl, hS1, b1⟩
      have HS1 := Lib.hid hS1
      have hB3 := hB.trans (b1.mono hBs)
      clear hS1
      go_wp2
      go_roundw
      case rel => exact ⟨k + 1, putL rwC L x, hlt, by go_num, HS1.out, by rw [HL2.out, HLE.out], by have := put_len1 L x; omega, hB3⟩
      case measure => simp [intOf]; omega
    · have hlt' : ¬ (k : Int) < (l.length : Int) := by omega
      have He : Hid (L = sortL rwC l) := Lib.hid (by rw [HLE.out, List.take_of_length_le (by omega)]; rfl)
      go_wp2
      go_ret
      exact ⟨_, rfl, by rw [← He.out]; exact HS.out, hB⟩

end Go.Proofs.YtfcfehflocglpabGreatDoor
namespace Go.Proofs.YtfcfehflocglpabGreatDoor
open Go.RowKit

theorem minus_le (a b : List Rw) : (minusL rwC a b).length ≤ a.length := List.length_filter_le _ _

set_option maxRecDepth 100000 in
set_option maxHeartbeats 4000000 in
theorem rsame_c (a b : List Rw) (v u : Value) (w : World) (h1 : RwsS w w.heap.size a v) (h2 : RwsS w w.heap.size b u) :
    Calls Tryz.prog 34 #[v, u] w fun e w' => e = .returned (.bool (sameWs a b)) ∧ Below w.heap.size w w' := by
  obtain ⟨o1, cap1, rfl, hc1, hm1, S1⟩ := SlOf.open h1
  obtain ⟨o2, cap2, rfl, hc2, hm2, S2⟩ := SlOf.open h2
  clear h1 h2
  obtain ⟨bl, hbl⟩ : ∃ x, ((a.length : Int) != (b.length : Int)) = x := ⟨_, rfl⟩
  cases bl with
  | true =>
    have Hz : Hid (sameWs a b = false) := Lib.hid (allS_len (by intro h; rw [h] at hbl; simp at hbl))
    go_enter Tryz.func34, Tryz.ntmps34
    go_wp2
    go_ret
    exact ⟨by rw [Hz.out]; rfl, Below.refl _ _⟩
  | false =>
  have hlen : a.length = b.length := by have : (a.length : Int) = b.length := by simpa using hbl
                                        omega
  have HLEN := Lib.hid hlen
  clear hlen
  go_enter Tryz.func34, Tryz.ntmps34
  go_wp2
  go_loopw [5] (fun i wr => ∃ k : Nat, k ≤ a.length ∧ i = .int .i64 k ∧ sameWs a b = allS sameW (a.drop k) (b.drop k) ∧ Below w.heap.size w wr) (fun i _ => a.length - (intOf i).toNat)
  case atStart => exact ⟨0, Nat.zero_le _, rfl, rfl, Below.refl _ _⟩
  case round =>
    obtain ⟨k, hk, rfl, hr, hB⟩ := hrel
    have Hr := Lib.hid hr
    clear hr
    by_cases hlt : k < a.length
    · have hlt' : (k : Int) < (a.length : Int) := by omega
      have hlt2 : (k : Int) < (b.length : Int) := by have := HLEN.out; omega
      have hk0 : (0 : Int) ≤ (k : Int) := by omega
      obtain ⟨x, hx⟩ : ∃ x, a[k]? = some x := ⟨a[k], List.getElem?_eq_getElem hlt⟩
      obtain ⟨y, hy⟩ : ∃ y, b[k]? = some y := ⟨b[k], List.getElem?_eq_getElem (by have := HLEN.out; omega)⟩
      obtain ⟨p, p3, q3, rfl, hp, Hx, c0, _⟩ := rw_at S1 hB hx
      obtain ⟨q, p4, q4, rfl, hq, Hy, d0, _⟩ := rw_at S2 hB hy
      have hBs := hB.size
      have hpl : (p.add k).block < wr.heap.size := by rw [addBlock]; omega
      have hql : (q.add k).block < wr.heap.size := by rw [addBlock]; omega
      have Hst := Lib.hid (Hr.out.trans (allS_drop (f := sameW) hx hy))
      clear hx hy
      obtain ⟨bw, hbw⟩ : ∃ z, ((x.length : Int) != (y.length : Int)) = z := ⟨_, rfl⟩
      cases bw with
      | true =>
        have Hz : Hid (sameWs a b = false) := Lib.hid (by
          have : sameW x y = false := allS_len (by intro h; rw [h] at hbw; simp at hbw)
          rw [Hst.out, this]; rfl)
        go_wp2
        go_quiet (fail)
        go_wp2
        go_ret
        exact ⟨by rw [Hz.out]; rfl, below_drewN hB _⟩
      | false =>
        have hxy : x.length = y.length := by have : (x.length : Int) = y.length := by simpa using hbw
                                             omega
        have HXY := Lib.hid hxy
        clear hxy
        have HS0 : Hid (sameW x y = allS sameV (x.drop 0) (y.drop 0)) := Lib.hid rfl
        obtain ⟨ox, cx, ex, hcx, hmx, SX⟩ := SlOf.open Hx.out
        cases ex
        obtain ⟨oy, cy, ey, hcy, hmy, SY⟩ := SlOf.open Hy.out
        cases ey
        obtain ⟨W1, rfl⟩ : ∃ W1, W1 = wr := ⟨_, rfl⟩
        go_wp2
        go_quiet (fail)
        go_wp2
        go_loopw [6] (fun i wx => ∃ j : Nat, j ≤ x.length ∧ i = .int .i64 j ∧ sameW x y = allS sameV (x.drop j) (y.drop j) ∧ Below W1.heap.size W1 wx) (fun i _ => x.length - (intOf i).toNat)
        case atStart => exact ⟨0, Nat.zero_le _, rfl, HS0.out, below_drewN (Below.refl _ _) _⟩
        case round =>
          obtain ⟨j, hj, rfl, hs, hB2⟩ := hrel
          have Hs := Lib.hid hs
          clear hs
          have hB2s := hB2.size
          have cc0 := (hB2.cell hpl).trans c0
          have dd0 := (hB2.cell hql).trans d0
          have hpl2 := Nat.lt_of_lt_of_le hpl hB2s
          have hql2 := Nat.lt_of_lt_of_le hql hB2s
          by_cases hjt : j < x.length
          · have hjt' : (j : Int) < (x.length : Int) := by omega
            have hjt2 : (j : Int) < (y.length : Int) := by have := HXY.out; omega
            have hj0 : (0 : Int) ≤ (j : Int) := by omega
            obtain ⟨xv, hxv⟩ : ∃ z, x[j]? = some z := ⟨x[j], List.getElem?_eq_getElem hjt⟩
            obtain ⟨yv, hyv⟩ : ∃ z, y[j]? = some z := ⟨y[j], List.getElem?_eq_getElem (by have := HXY.out; omega)⟩
            obtain ⟨px, rfl, hpx, _, _, x0, x1, x2⟩ := vl_at SX hB2 hxv
            obtain ⟨py, rfl, hpy, _, _, y0, y1, y2⟩ := vl_at SY hB2 hyv
            have hpxl : (px.add (j * 3)).block < W1.heap.size := by rw [addBlock]; omega
            have hpyl : (py.add (j * 3)).block < W1.heap.size := by rw [addBlock]; omega
            have hpx2 := Nat.lt_of_lt_of_le hpxl hB2s
            have hpy2 := Nat.lt_of_lt_of_le hpyl hB2s
            have Hst2 := Lib.hid (Hs.out.trans (allS_drop (f := sameV) hxv hyv))
            clear hxv hyv
            by_cases hv : sameV xv yv = true
            · have Hs2 := Lib.hid (Hst2.out.trans (by rw [hv, Bool.true_and]))
              obtain rfl := (sameV_iff _ _).1 hv
              clear hv
              go_wp2
              go_quiet (fail)
              go_wp2
              go_roundw
              case rel => exact ⟨j + 1, hjt, by go_num, Hs2.out, below_drewN hB2 _⟩
              case measure => simp [intOf]; omega
            · have Hz : Hid (sameWs a b = false) := Lib.hid (by
                have h1 : sameV xv yv = false := by simpa using hv
                rw [Hst.out, Hst2.out, h1]; rfl)
              have hne : ¬ (xv.sym = yv.sym ∧ xv.n = yv.n ∧ xv.s.toList = yv.s.toList) := fun h => hv (by unfold sameV; rw [h.1, h.2.1, h.2.2]; simp)
              clear hv
              obtain ⟨sx, nx, tx⟩ := xv
              obtain ⟨sy, ny, ty⟩ := yv
              simp only at x0 x1 x2 y0 y1 y2 hne
              clear Hst2
              by_cases hsy : sx = sy
              · subst hsy
                by_cases hn : nx = ny
                · subst hn
                  have ht : (tx.toList == ty.toList) = false := by
                    rw [beq_eq_false_iff_ne]
                    intro h
                    exact hne ⟨rfl, rfl, h⟩
                  clear hne
                  go_wp2
                  go_quiet (fail)
                  go_wp2
                  go_ret
                  exact ⟨by rw [Hz.out]; rfl, below_drewN (hB.trans (hB2.mono hBs)) _⟩
                · have hn' : (nx == ny) = false := by simpa using hn
                  clear hne
                  go_wp2
                  go_quiet (fail)
                  go_wp2
                  go_ret
                  exact ⟨by rw [Hz.out]; rfl, below_drewN (hB.trans (hB2.mono hBs)) _⟩
              · clear hne
                cases sx <;> cases sy
                · exact absurd rfl hsy
                · go_wp2
                  go_quiet (fail)
                  go_wp2
                  go_ret
                  exact ⟨by rw [Hz.out]; rfl, below_drewN (hB.trans (hB2.mono hBs)) _⟩
                · go_wp2
                  go_quiet (fail)
                  go_wp2
                  go_ret
                  exact ⟨by rw [Hz.out]; rfl, below_drewN (hB.trans (hB2.mono hBs)) _⟩
                · exact absurd rfl hsy
          · have hjt' : ¬ (j : Int) < (x.length : Int) := by omega
            have Hz2 := Lib.hid (Hs.out.trans (allS_end (f := sameV) (l := x) (m := y) (k := j) (by omega) (by have := HXY.out; omega)))
            have Hz3 := Lib.hid (Hst.out.trans (by rw [Hz2.out, Bool.true_and]))
            go_wp2
            go_roundw
            case rel => exact ⟨k + 1, hlt, by go_num, Hz3.out, hB.trans (hB2.mono hBs)⟩
            case measure => simp [intOf]; omega
    · have hlt' : ¬ (k : Int) < (a.length : Int) := by omega
      have Hz2 := Lib.hid (Hr.out.trans (allS_end (f := sameW) (l := a) (m := b) (k := k) (by omega) (by have := HLEN.out; omega)))
      go_wp2
      go_ret
      exact ⟨by rw [Hz2.out]; rfl, hB⟩
end Go.Proofs.YtfcfehflocglpabGreatDoor
namespace Go.Proofs.YtfcfehflocglpabGreatDoor
open Go.RowKit

theorem rws_at {w wr : World} {l : List (List Rw)} {o : Option Addr} {k : Nat} {x : List Rw} (S : Hid (SlIn w w.heap.size 1 (RwsC w w.heap.size) l o)) (hB : Below w.heap.size w wr) (ht : l[k]? = some x) :
    ∃ a o' cap', o = some a ∧ a.block < w.heap.size ∧ RwsS wr wr.heap.size x (.slice o' x.length cap') ∧ wr.cell? (a.add k) = some (.slice o' x.length cap') := by
  obtain ⟨a, cs, rfl, ha, _, ⟨v, rfl, h1⟩, h2⟩ := S.out k x ht
  obtain ⟨o', cap', rfl, _⟩ := SlOf.uni h1
  have h3 := (h2.below ha hB).n1
  rw [Nat.mul_one] at h3
  exact ⟨a, o', cap', rfl, ha, SlOf.more (SlOf.below h1 hB fun _ _ _ h => RwC.below h hB) hB.size fun _ _ _ h => RwC.more h hB.size, h3⟩
set_option maxRecDepth 100000 in
set_option maxHeartbeats 4000000 in
theorem same09_c (l : List (List Rw)) (v u : Value) (w : World) (h1 : SlOf w w.heap.size 1 (RwsC w w.heap.size) l v) (h2 : SlOf w w.heap.size 1 (RwsC w w.heap.size) l u) :
    Calls Tryz.prog 15 #[v, u] w fun e w' => e = .returned (.bool true) ∧ Below w.heap.size w w' := by
  obtain ⟨o1, cap1, rfl, hc1, hm1, S1⟩ := SlOf.open h1
  obtain ⟨o2, cap2, rfl, hc2, hm2, S2⟩ := SlOf.open h2
  clear h1 h2
  go_enter Tryz.func15, Tryz.ntmps15
  go_wp2
  go_loopw [5] (fun i wr => ∃ k : Nat, k ≤ l.length ∧ i = .int .i64 (k : Int) ∧ Below w.heap.size w wr) (fun i _ => l.length - (intOf i).toNat)
  case atStart => exact ⟨0, Nat.zero_le _, rfl, Below.refl _ _⟩
  case round =>
    obtain ⟨k, hk, rfl, hB⟩ := hrel
    by_cases hlt : k < l.length
    · have hlt' : (k : Int) < (l.length : Int) := by omega
      have hk0 : (0 : Int) ≤ (k : Int) := by omega
      obtain ⟨x, hx⟩ : ∃ x, l[k]? = some x := ⟨l[k], List.getElem?_eq_getElem hlt⟩
      obtain ⟨a1, p1, q1, rfl, ha1, R1, c1⟩ := rws_at S1 hB hx
      obtain ⟨a2, p2, q2, rfl, ha2, R2, c2⟩ := rws_at S2 hB hx
      have hBs := hB.size
      have hS : ∀ W', Below wr.heap.size wr.drew W' → W'.cell? (a1.add k) = some (.slice p1 x.length q1) ∧ W'.cell? (a2.add k) = some (.slice p2 x.length q2) ∧ Below wr.heap.size wr.drew W' := fun W' h =>
        ⟨(h.cell (by rw [addBlock]; omega)).trans c1, (h.cell (by rw [addBlock]; omega)).trans c2, h⟩
      have hS0 := hS wr.drew (Below.refl _ _)
      have HC : Hid (∀ W', Below wr.heap.size wr.drew W' → Calls Tryz.prog 34 #[.slice p1 x.length q1, .slice p2 x.length q2] W' fun e w' => e = .returned (.bool true) ∧ Below wr.heap.size wr.drew w') := Lib.hid fun W' h => by
        have hb2 : Below wr.heap.size wr W' := drewB h
        have hm := fun {y : List Rw} {z : Value} (R : RwsS wr wr.heap.size y z) => (SlOf.more (SlOf.below R hb2 fun _ _ _ h => RwC.below h hb2) hb2.size fun _ _ _ h => RwC.more h hb2.size : RwsS W' W'.heap.size y z)
        refine (rsame_c x x _ _ W' (hm R1) (hm R2)).mono ?_
        rintro e w' ⟨rfl, b⟩
        exact ⟨by rw [(sameWs_iff x x).2 rfl], h.trans (b.mono h.size)⟩
      have HB := Lib.hid hB
      have HK := Lib.hid hS
      clear hx R1 R2 c1 c2 hS
      go_wp2_with fail
      go_region_held3 (fun w' => w'.cell? (a1.add k) = some (.slice p1 x.length q1) ∧ w'.cell? (a2.add k) = some (.slice p2 x.length q2) ∧ Below wr.heap.size wr.drew w') (first | exact hk1 | exact hS0)
        (first | (go_at_call 34; refine (HC.out _ hS0.2.2).mono ?_; rintro e1 w1 ⟨rfl, b1⟩; have hk1 := HK.out _ b1))
      all_goals
        have HB1 := Lib.hid (HB.out.trans ((drewB hk1.2.2).mono HB.out.size))
        clear hk1 hS0
        go_wp2
        go_roundw
        case rel => exact ⟨k + 1, by omega, by go_num, HB1.out⟩
        case measure => simp [intOf]; omega
    · have hlt' : ¬ (k : Int) < (l.length : Int) := by omega
      go_wp2
      go_ret
      exact ⟨rfl, hB⟩
end Go.Proofs.YtfcfehflocglpabGreatDoor
namespace Go.Proofs.YtfcfehflocglpabGreatDoor
open Go.RowKit

theorem RwsC.below {w w' : World} {B : Nat} {l : List Rw} {cs : List Value} (h : RwsC w B l cs) (hb : Below B w w') : RwsC w' B l cs := by
  obtain ⟨u, e, h⟩ := h
  exact ⟨u, e, SlOf.below h hb fun _ _ _ h => RwC.below h hb⟩
theorem RwsC.more {w : World} {B B' : Nat} {l : List Rw} {cs : List Value} (h : RwsC w B l cs) (hB : B ≤ B') : RwsC w B' l cs := by
  obtain ⟨u, e, h⟩ := h
  exact ⟨u, e, SlOf.more h hB fun _ _ _ h => RwC.more h hB⟩
theorem rows_past {w w' : World} {l : List (List Rw)} {v : Value} (h : SlOf w w.heap.size 1 (RwsC w w.heap.size) l v) (hb : Below w.heap.size w w') : SlOf w' w'.heap.size 1 (RwsC w' w'.heap.size) l v :=
  SlOf.more (SlOf.below h hb fun _ _ _ h => RwsC.below h hb) hb.size fun _ _ _ h => RwsC.more h hb.size
theorem ReadR.ok {n0 N : Nat} {w W : World} {acc : List (Nat × Rw)} {e : Ending} (h : ReadR n0 N w true (.inr acc) e W) : ∃ v, e = .returned (.tuple #[v, .int .i64 0, .int .i64 0]) ∧ Below n0 w W ∧ SlOf W W.heap.size 1 (RwsC W W.heap.size) (sortedQ N acc) v := by
  cases h with
  | tree h1 h2 => cases h1
  | bad h1 h2 h3 => cases h2
  | good h1 h2 h3 h4 => cases h2; exact ⟨_, rfl, h3, h4⟩
theorem stream_bad {ds : List De} {l : List (List UInt8)} {i : Nat} {e : Int} (h : streamQ ds l = .inl (i, e)) : e ≠ 0 := by
  unfold streamQ at h
  cases hl : linesQ ds l.dropLast 0 with
  | inl q =>
    rw [hl] at h
    cases h
    have := (linesQ_bad ds _ _ _ _ hl).2.2
    unfold bad4 at this
    omega
  | inr r =>
    rw [hl] at h
    simp only [] at h
    split at h
    · cases h
    · cases h; decide
theorem moves_bad (ds : List De) (b : Bool) (u t : List UInt8) (hno : ¬ (b = true ∧ ∃ r1 r2, streamQ ds (cutB 10 u) = .inr r1 ∧ streamQ ds (cutB 10 t) = .inr r2)) :
    (errOf b (streamQ ds (cutB 10 u)) = 0 ∧ errOf b (streamQ ds (cutB 10 t)) ≠ 0) ∨
    (errOf b (streamQ ds (cutB 10 u)) ≠ 0 ∧ errOf b (streamQ ds (cutB 10 u)) ≠ 92 ∧ errOf b (streamQ ds (cutB 10 (t ++ u ++ t))) ≠ 0 ∧ errOf b (streamQ ds (cutB 10 (u ++ t))) = errOf b (streamQ ds (cutB 10 u))) ∨
    errOf b (streamQ ds (cutB 10 u)) = 92 ∨ errOf b (streamQ ds (cutB 10 u)) = 30 := by
  cases b with
  | false =>
    refine .inr (.inr (.inr ?_))
    cases streamQ ds (cutB 10 u) <;> rfl
  | true =>
    cases hs : streamQ ds (cutB 10 u) with
    | inr r1 =>
      refine .inl ⟨rfl, ?_⟩
      cases ht : streamQ ds (cutB 10 t) with
      | inr r2 => exact absurd ⟨rfl, r1, r2, hs, ht⟩ hno
      | inl q => exact stream_bad ht
    | inl q =>
      obtain ⟨i, e⟩ := q
      by_cases he : e = 92
      · exact .inr (.inr (.inl he))
      refine .inr (.inl ⟨stream_bad hs, he, ?_, by rw [stream_head hs he]⟩)
      cases ht : streamQ ds (cutB 10 t) with
      | inr r2 =>
        obtain ⟨j, hj, _⟩ := (stream_app (t := u ++ t) ht).2 i e (stream_head hs he)
        rw [List.append_assoc, hj]
        exact stream_bad hs
      | inl q =>
        obtain ⟨i', e'⟩ := q
        by_cases he' : e' = 92
        · subst he'
          obtain ⟨j, e2, h2⟩ := stream_open (s := t ++ u) ht
          rw [h2]
          exact stream_bad h2
        · rw [List.append_assoc, stream_head ht he']
          exact stream_bad ht
theorem clean_of {ds : List De} {l : List UInt8} {acc : List (Nat × Rw)} (h : streamQ ds (cutB 10 l) = .inr acc) : CleanQ acc := fun x hx => fitR_clean ((streamQ_fit h).2 x hx).2
theorem moves_good {ds : List De} {u t : List UInt8} {r1 r2 : List (Nat × Rw)} (h1 : streamQ ds (cutB 10 u) = .inr r1) (h2 : streamQ ds (cutB 10 t) = .inr r2) (n : Nat) :
    streamQ ds (cutB 10 (u ++ t)) = .inr (r1 ++ r2) ∧ streamQ ds (cutB 10 (t ++ u ++ t)) = .inr (r2 ++ (r1 ++ r2)) ∧ sortedQ n (r2 ++ (r1 ++ r2)) = sortedQ n (r1 ++ r2) := by
  have h3 := (stream_app (t := t) h1).1 r2 h2
  have h4 := (stream_app (t := u ++ t) h2).1 _ h3
  rw [← List.append_assoc t u t] at h4
  exact ⟨h3, h4, sorted_set (clean_of h4) (clean_of h3) fun x => by simp only [List.mem_append]; exact ⟨fun h => h.elim .inr id, .inr⟩⟩
set_option maxRecDepth 100000 in
set_option maxHeartbeats 4000000 in
theorem factsMoves_c (p : Pg) (s t : ByteArray) (a b : Addr) (m : Int) (w : World) (cs : List Value) (hp : PgC w w.heap.size p cs) (hs : s.size ≤ maxLen) (ht : t.size ≤ maxLen) (E : FEnv a b m w) :
    Calls Tryz.prog 7 #[.agg cs.toArray, .string s, .string t] w fun e w' => e = .returned (.bool true) ∧ Below w.heap.size w w' := by
  have HH := Lib.hid (fun (W : World) (hb : Below w.heap.size w W) => shown10_c a b m W (E.below hb))
  have HP := Lib.hid (fun (W : World) (hb : Below w.heap.size w W) => small_c p W cs ((hp.below hb).more hb.size))
  have HR := Lib.hid (fun (x : ByteArray) (hx : x.size ≤ 1000000) (W : World) (hb : Below w.heap.size w W) => read_c p x a b m W cs ((hp.below hb).more hb.size) hx (E.below hb))
  obtain ⟨p1, q1, r1, s1, rfl, _, _⟩ := hp.look
  unfold maxLen at hs ht
  clear hp E
  have HB0 : Hid (∀ (x : Obj), Below w.heap.size w (w.alloc x)) := Lib.hid fun x => (Below.refl _ _).alloc (Nat.le_refl _) _
  have K0 : Hid (Below (w.heap.size + 1) (w.alloc (.cells #[.slice p1 p.decls.length q1, .slice r1 p.rules.length s1] 25)) (w.alloc (.cells #[.slice p1 p.decls.length q1, .slice r1 p.rules.length s1] 25))) := Lib.hid (Below.refl _ _)
  go_enter Tryz.func7, Tryz.ntmps7
  go_wp2_with fail
  refine (HH.out _ (HB0.out _)).mono ?_
  rintro e w1 ⟨rfl, b1⟩
  have K1 := Lib.hid (b1.mono (show w.heap.size + 1 ≤ _ by simp))
  have B1 := (HB0.out _).trans (K1.out.mono (by omega))
  obtain ⟨hc1, hf1⟩ := boxk w.heap.size b1 (by simp)
  have hz1 : w.heap.size < w1.heap.size := by have := b1.size; simp at this; omega
  clear b1
  go_wp2_with fail
  refine (HP.out _ B1).mono ?_
  rintro e w2 ⟨rfl, b2⟩
  have K2 := Lib.hid (K1.out.trans (b2.mono (by omega)))
  have B2 := (HB0.out _).trans (K2.out.mono (by omega))
  have hz2 : w.heap.size < w2.heap.size := by have := b2.size; omega
  clear hc1 hf1 B1 b2
  have x0 : w2.cell? ⟨w.heap.size, 0, none⟩ = some (.slice p1 p.decls.length q1) := (K2.out.cell (p := ⟨w.heap.size, 0, none⟩) (by show w.heap.size < _; omega)).trans (by go_simp)
  have x1 : w2.cell? ⟨w.heap.size, 1, none⟩ = some (.slice r1 p.rules.length s1) := (K2.out.cell (p := ⟨w.heap.size, 1, none⟩) (by show w.heap.size < _; omega)).trans (by go_simp)
  cases hsp : smallP p with
  | false =>
    rw [show smallI p = 0 by unfold smallI; rw [hsp]; rfl]
    clear hsp
    go_wp2
    go_ret
    exact ⟨rfl, B2⟩
  | true =>
    rw [show smallI p = 1 by unfold smallI; rw [hsp]; rfl]
    clear hsp
    go_wp2_with fail
    have hSz : (cutF s).size ≤ 1000 := cutF_size s
    have hTz : (cutF t).size ≤ 1000 := cutF_size t
    obtain ⟨S, hS⟩ : ∃ u, cutF s = u := ⟨_, rfl⟩
    obtain ⟨T, hT⟩ : ∃ T, cutF t = T := ⟨_, rfl⟩
    rw [hS] at hSz
    rw [hT] at hTz
    rw [show s.extract 0 (min (s.size : Int) 1000).toNat = S from hS, show t.extract 0 (min (t.size : Int) 1000).toNat = T from hT]
    clear hS hT hs ht
    have hSTl : (S ++ T).data.toList = S.data.toList ++ T.data.toList := by simp
    have hTSTl : (T ++ S ++ T).data.toList = T.data.toList ++ S.data.toList ++ T.data.toList := by simp
    have HR1 := Lib.hid (HR.out S (by omega))
    have HR2 := Lib.hid (HR.out T (by omega))
    have HR3 := Lib.hid (HR.out (S ++ T) (by rw [ByteArray.size_append]; omega))
    have HR4 := Lib.hid (HR.out (T ++ S ++ T) (by rw [ByteArray.size_append, ByteArray.size_append]; omega))
    rw [hSTl] at HR3
    rw [hTSTl] at HR4
    clear HR hSTl hTSTl
    have hl1 : S.size + T.size ≤ 2000 := by omega
    have hl2 : (T ++ S).size ≤ 2000 := by rw [ByteArray.size_append]; omega
    have HX := Lib.hid (fun (W : World) (hb : Below w2.heap.size w2 W) => (⟨(hb.cell (p := ⟨w.heap.size, 0, none⟩) hz2).trans x0, (hb.cell (p := ⟨w.heap.size, 1, none⟩) hz2).trans x1⟩ : W.cell? ⟨w.heap.size, 0, none⟩ = some (.slice p1 p.decls.length q1) ∧ W.cell? ⟨w.heap.size, 1, none⟩ = some (.slice r1 p.rules.length s1)))
    clear x0 x1
    have HB2 := Lib.hid B2
    clear B2
    by_cases hg : rightP p = true ∧ ∃ r1 r2, streamQ p.decls (cutB 10 S.data.toList) = .inr r1 ∧ streamQ p.decls (cutB 10 T.data.toList) = .inr r2
    · obtain ⟨hr, acc1, acc2, g1, g2⟩ := hg
      obtain ⟨g3, g4, g5⟩ := moves_good g1 g2 p.decls.length
      rw [hr, g1] at HR1
      rw [hr, g2] at HR2
      rw [hr, g3] at HR3
      rw [hr, g4] at HR4
      have HG := Lib.hid g5
      clear hr g1 g2 g3 g4 g5
      refine (HR1.out w2 HB2.out).mono ?_
      intro e w3 h3
      obtain ⟨v3, rfl, b3, _⟩ := h3.ok
      have B3 := Lib.hid b3
      have D3 := Lib.hid (HB2.out.trans (b3.mono HB2.out.size))
      obtain ⟨y0, y1⟩ := HX.out w3 B3.out
      clear b3
      go_wp2_with fail
      refine (HR2.out w3 D3.out).mono ?_
      intro e w4 h4
      obtain ⟨v4, rfl, b4, _⟩ := h4.ok
      have B4 := Lib.hid (B3.out.trans (b4.mono B3.out.size))
      have D4 := Lib.hid (D3.out.trans (b4.mono D3.out.size))
      obtain ⟨z0, z1⟩ := HX.out w4 B4.out
      clear b4 y0 y1
      go_wp2_with fail
      refine (HR3.out w4 D4.out).mono ?_
      intro e w5 h5
      obtain ⟨v5, rfl, b5, G5⟩ := h5.ok
      have B5 := Lib.hid (B4.out.trans (b5.mono B4.out.size))
      have D5 := Lib.hid (D4.out.trans (b5.mono D4.out.size))
      obtain ⟨y0, y1⟩ := HX.out w5 B5.out
      have G5 := Lib.hid G5
      clear b5 z0 z1
      go_wp2_with fail
      refine (HR4.out w5 D5.out).mono ?_
      intro e w6 h6
      obtain ⟨v6, rfl, b6, G6⟩ := h6.ok
      have D6 := Lib.hid (D5.out.trans (b6.mono D5.out.size))
      rw [HG.out] at G6
      have HS := Lib.hid (same09_c _ v5 v6 w6 (rows_past G5.out b6) G6)
      clear b6 G6 y0 y1 h3 h4 h5 h6
      go_wp2_with fail
      refine HS.out.mono ?_
      rintro e w7 ⟨rfl, b7⟩
      have D7 := Lib.hid (D6.out.trans (b7.mono D6.out.size))
      clear b7
      go_wp2
      go_ret
      exact ⟨rfl, D7.out⟩
    · have hM := moves_bad p.decls (rightP p) S.data.toList T.data.toList hg
      clear hg
      refine (HR1.out w2 HB2.out).mono ?_
      intro e w3 h3
      obtain ⟨v3, rfl, b3⟩ := h3.flat
      have B3 := Lib.hid b3
      have D3 := Lib.hid (HB2.out.trans (b3.mono HB2.out.size))
      obtain ⟨y0, y1⟩ := HX.out w3 B3.out
      obtain ⟨e1, he1⟩ : ∃ i, errOf (rightP p) (streamQ p.decls (cutB 10 S.data.toList)) = i := ⟨_, rfl⟩
      obtain ⟨i1, hi1⟩ : ∃ i, lineOf (rightP p) (streamQ p.decls (cutB 10 S.data.toList)) = i := ⟨_, rfl⟩
      rw [he1] at hM
      rw [he1, hi1]
      have HM := Lib.hid hM
      clear b3 h3 hM he1 hi1
      go_wp2_with fail
      refine (HR2.out w3 D3.out).mono ?_
      intro e w4 h4
      obtain ⟨v4, rfl, b4⟩ := h4.flat
      have B4 := Lib.hid (B3.out.trans (b4.mono B3.out.size))
      have D4 := Lib.hid (D3.out.trans (b4.mono D3.out.size))
      obtain ⟨z0, z1⟩ := HX.out w4 B4.out
      obtain ⟨e2, he2⟩ : ∃ i, errOf (rightP p) (streamQ p.decls (cutB 10 T.data.toList)) = i := ⟨_, rfl⟩
      obtain ⟨i2, hi2⟩ : ∃ i, lineOf (rightP p) (streamQ p.decls (cutB 10 T.data.toList)) = i := ⟨_, rfl⟩
      rw [he2] at HM
      rw [he2, hi2]
      clear b4 h4 he2 hi2 y0 y1
      go_wp2_with fail
      refine (HR3.out w4 D4.out).mono ?_
      intro e w5 h5
      obtain ⟨v5, rfl, b5⟩ := h5.flat
      have B5 := Lib.hid (B4.out.trans (b5.mono B4.out.size))
      have D5 := Lib.hid (D4.out.trans (b5.mono D4.out.size))
      obtain ⟨y0, y1⟩ := HX.out w5 B5.out
      obtain ⟨e3, he3⟩ : ∃ i, errOf (rightP p) (streamQ p.decls (cutB 10 (S.data.toList ++ T.data.toList))) = i := ⟨_, rfl⟩
      obtain ⟨i3, hi3⟩ : ∃ i, lineOf (rightP p) (streamQ p.decls (cutB 10 (S.data.toList ++ T.data.toList))) = i := ⟨_, rfl⟩
      rw [he3] at HM
      rw [he3, hi3]
      clear b5 h5 he3 hi3 z0 z1
      go_wp2_with fail
      refine (HR4.out w5 D5.out).mono ?_
      intro e w6 h6
      obtain ⟨v6, rfl, b6⟩ := h6.flat
      have D6 := Lib.hid (D5.out.trans (b6.mono D5.out.size))
      obtain ⟨e4, he4⟩ : ∃ i, errOf (rightP p) (streamQ p.decls (cutB 10 (T.data.toList ++ S.data.toList ++ T.data.toList))) = i := ⟨_, rfl⟩
      obtain ⟨i4, hi4⟩ : ∃ i, lineOf (rightP p) (streamQ p.decls (cutB 10 (T.data.toList ++ S.data.toList ++ T.data.toList))) = i := ⟨_, rfl⟩
      rw [he4] at HM
      rw [he4, hi4]
      clear b6 h6 he4 hi4 y0 y1 HR1 HR2 HR3 HR4 HX
      rcases HM.out with ⟨rfl, k1⟩ | ⟨k1, k2, k3, rfl⟩ | rfl | rfl
      · have k1' : (e2 != 0) = true := (by simpa using k1)
        clear k1
        go_wp2
        go_ret
        exact ⟨rfl, D6.out⟩
      · have k1' : (e3 != 0) = true := (by simpa using k1)
        have k1'' : (e3 == 0) = false := (by simpa using k1)
        have k2' : (e3 != 92) = true := (by simpa using k2)
        have k3' : (e4 != 0) = true := (by simpa using k3)
        clear k1 k2 k3
        go_wp2
        go_ret
        exact ⟨rfl, D6.out⟩
      · obtain ⟨hb, hhb⟩ : ∃ z, (e4 != 0) = z := ⟨_, rfl⟩
        cases hb
        all_goals
          go_wp2
          go_ret
          exact ⟨rfl, D6.out⟩
      · obtain ⟨hb, hhb⟩ : ∃ z, (e4 != 0) = z := ⟨_, rfl⟩
        obtain ⟨gb, hgb⟩ : ∃ z, (e3 == 30) = z := ⟨_, rfl⟩
        cases hb <;> cases gb
        all_goals
          go_wp2
          go_ret
          exact ⟨rfl, D6.out⟩
end Go.Proofs.YtfcfehflocglpabGreatDoor
