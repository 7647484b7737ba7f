/- soritesref08.Match. -/
import Derived.Test.YtgfhgejgdgfjnaaRel8e
namespace Go.Proofs.Ytgfhgejgdgfjnaa
open Go.RowKit

def atM (r : Rw) (c : Int) (x : Vl) : Bool := decide (0 ≤ c) && (match r[c.toNat]? with | some y => decide (vlC y x = 0) | none => false)
def fitsM (cols : List Int) (vals : List Vl) (r : Rw) : Bool := (cols.zip vals).all fun p => atM r p.1 p.2
def matchL (l : List Rw) (cols : List Int) (vals : List Vl) : List Rw := l.filter (fitsM cols vals)
theorem match_step {l : List Rw} {cols : List Int} {vals : List Vl} {k : Nat} {x : Rw} (h : l[k]? = some x) : matchL (l.take (k + 1)) cols vals = matchL (l.take k) cols vals ++ (if fitsM cols vals x = true then [x] else []) := by
  unfold matchL
  rw [take_snoc h, List.filter_append, List.filter_cons, List.filter_nil]
theorem match_le (l : List Rw) (cols : List Int) (vals : List Vl) : (matchL l cols vals).length ≤ l.length := List.length_filter_le _ _
theorem fits_step {cols : List Int} {vals : List Vl} {r : Rw} {j : Nat} {c : Int} {x : Vl} (hc : cols[j]? = some c) (hx : vals[j]? = some x) (bk : Bool) :
    (bk && ((cols.zip vals).drop j).all fun p => atM r p.1 p.2) = ((bk && atM r c x) && ((cols.zip vals).drop (j + 1)).all fun p => atM r p.1 p.2) := by
  have h : (cols.zip vals)[j]? = some (c, x) := by simp [List.getElem?_zip_eq_some, hc, hx]
  rw [drop_cons' h, List.all_cons, Bool.and_assoc]
theorem fits_end {cols : List Int} {vals : List Vl} {r : Rw} {j : Nat} (h : cols.length ≤ j ∨ vals.length ≤ j) (bk : Bool) : (bk && ((cols.zip vals).drop j).all fun p => atM r p.1 p.2) = bk := by
  rw [List.drop_of_length_le (by rw [List.length_zip]; omega)]
  simp
theorem held133 {W w1 : World} (b : Below W.heap.size W.drew w1) {o p q : Addr} {t v0 v1 v2 u0 u1 u2 : Value} (ho : o.block < W.heap.size) (hp : p.block < W.heap.size) (hq : q.block < W.heap.size)
    (h : W.cell? o = some t ∧ W.cell? p = some v0 ∧ W.cell? ⟨p.block, p.off + 1, none⟩ = some v1 ∧ W.cell? ⟨p.block, p.off + 2, none⟩ = some v2 ∧ W.cell? q = some u0 ∧ W.cell? ⟨q.block, q.off + 1, none⟩ = some u1 ∧ W.cell? ⟨q.block, q.off + 2, none⟩ = some u2) :
    w1.cell? o = some t ∧ w1.cell? p = some v0 ∧ w1.cell? ⟨p.block, p.off + 1, none⟩ = some v1 ∧ w1.cell? ⟨p.block, p.off + 2, none⟩ = some v2 ∧ w1.cell? q = some u0 ∧ w1.cell? ⟨q.block, q.off + 1, none⟩ = some u1 ∧ w1.cell? ⟨q.block, q.off + 2, none⟩ = some u2 := by
  obtain ⟨h9, h0, h1, h2, h3, h4, h5⟩ := h
  exact ⟨(b.cell ho).trans h9, (b.cell hp).trans h0, (b.cell (p := ⟨p.block, p.off + 1, none⟩) hp).trans h1, (b.cell (p := ⟨p.block, p.off + 2, none⟩) hp).trans h2, (b.cell hq).trans h3, (b.cell (p := ⟨q.block, q.off + 1, none⟩) hq).trans h4, (b.cell (p := ⟨q.block, q.off + 2, none⟩) hq).trans h5⟩

set_option maxRecDepth 100000 in
set_option maxHeartbeats 8000000 in
theorem rmatch_c (l : List Rw) (cols : List Int) (vals : List Vl) (v cv u : Value) (w : World) (hl : l.length ≤ 1000000) (h1 : RwsS w w.heap.size l v) (hc : SlOf w w.heap.size 1 IntC cols cv) (h2 : SlOf w w.heap.size 3 VlC vals u) :
    Calls Try.prog 29 #[v, cv, u] w fun e w' => ∃ r, e = .returned r ∧ RwsS w' w'.heap.size (matchL l cols vals) r ∧ Below w.heap.size w w' := by
  obtain ⟨i0, hi, hz0, hz1, hz2⟩ := info_parts infoRow
  obtain ⟨o1, cap1, rfl, hc1, hm1, S1⟩ := SlOf.open h1
  obtain ⟨o2, cap2, rfl, hc2, hm2, S2⟩ := SlOf.open hc
  obtain ⟨o3, cap3, rfl, hc3, hm3, S3⟩ := SlOf.open h2
  have HL := Lib.hid hl
  clear h1 h2 hc hl
  go_enter Try.func29, Try.ntmps29
  go_wp2
  go_loopw [7, 8] (fun ov i wr => ∃ k : Nat, k ≤ l.length ∧ i = .int .i64 k ∧ OutR w wr ov (matchL (l.take k) cols vals)) (fun _ i _ => l.length - (intOf i).toNat)
  case atStart => exact ⟨0, Nat.zero_le _, rfl, Owned.nil _ _ _ _ _, Below.refl _ _⟩
  case round =>
    obtain ⟨k, hk, rfl, hO⟩ := hrel
    have hB := hO.2
    have hBs := hB.size
    have HO := Lib.hid hO
    clear hO
    by_cases hlt : k < l.length
    · have hlt' : (k : Int) < (l.length : Int) := by omega
      have hk0 : (0 : Int) ≤ (k : Int) := by omega
      obtain ⟨x, hx⟩ : ∃ x, l[k]? = some x := ⟨l[k], List.getElem?_eq_getElem hlt⟩
      obtain ⟨p, p3, q3, rfl, ha, Hx, c0, Hr⟩ := rw_at S1 hB hx
      have hal : (p.add k).block < wr.heap.size := by rw [addBlock]; omega
      have HM := Lib.hid (match_step (cols := cols) (vals := vals) hx)
      clear hx
      obtain ⟨ox, cx, ex, hcx, hmx, SX⟩ := SlOf.open Hx.out
      cases ex
      obtain ⟨W1, rfl⟩ : ∃ W1, W1 = wr := ⟨_, rfl⟩
      have HF : Hid (fitsM cols vals x = (true && ((cols.zip vals).drop 0).all fun p => atM x p.1 p.2)) := Lib.hid rfl
      go_wp2
      go_loopw [9, 10] (fun kv i wx => ∃ (j : Nat) (bk : Bool), j ≤ cols.length ∧ j ≤ vals.length ∧ i = .int .i64 j ∧ kv = .bool bk ∧ fitsM cols vals x = (bk && ((cols.zip vals).drop j).all fun p => atM x p.1 p.2) ∧ Below W1.heap.size W1 wx) (fun _ i _ => cols.length - (intOf i).toNat)
      case atStart => exact ⟨0, true, Nat.zero_le _, Nat.zero_le _, rfl, rfl, HF.out, Below.refl _ _⟩
      case round =>
        obtain ⟨j, bk, hj1, hj2, rfl, rfl, hf, hB2⟩ := hrel
        have Hf := Lib.hid hf
        clear hf
        have hB2s := hB2.size
        have cc0 := (hB2.cell hal).trans c0
        have hal2 := Nat.lt_of_lt_of_le hal hB2s
        have hBw : Below w.heap.size w wr := hB.trans (hB2.mono hBs)
        by_cases ht1 : j < cols.length
        · have ht1' : (j : Int) < (cols.length : Int) := by omega
          by_cases ht2 : j < vals.length
          · have ht2' : (j : Int) < (vals.length : Int) := by omega
            have hj0 : (0 : Int) ≤ (j : Int) := by omega
            obtain ⟨c, hcj⟩ : ∃ c, cols[j]? = some c := ⟨cols[j], List.getElem?_eq_getElem ht1⟩
            obtain ⟨z, hzj⟩ : ∃ z, vals[j]? = some z := ⟨vals[j], List.getElem?_eq_getElem ht2⟩
            obtain ⟨pc, rfl, hpc, _, e0⟩ := int_at S2 hBw hcj
            obtain ⟨pz, rfl, hpz, _, hzs, z0, z1, z2⟩ := vl_at S3 hBw hzj
            have hpcl : (pc.add j).block < wr.heap.size := by rw [addBlock]; omega
            have hpzl : (pz.add (j * 3)).block < wr.heap.size := by rw [addBlock]; omega
            have Hst := Lib.hid (Hf.out.trans (fits_step hcj hzj bk))
            clear hcj hzj
            cases bk with
            | false =>
              have Hs2 := Lib.hid (Hst.out.trans (by rw [Bool.false_and] : _ = (false && ((cols.zip vals).drop (j + 1)).all fun p => atM x p.1 p.2)))
              go_wp2
              go_quiet (fail)
              go_wp2
              go_roundw
              case rel => exact ⟨j + 1, false, ht1, ht2, by go_num, rfl, Hs2.out, below_drewN hB2 _⟩
              case measure => simp [intOf]; omega
            | true =>
            by_cases hc0 : 0 ≤ c
            · obtain ⟨n, rfl⟩ := Int.eq_ofNat_of_zero_le hc0
              by_cases hn : n < x.length
              · have hn' : (n : Int) < (x.length : Int) := by omega
                obtain ⟨y, hy⟩ : ∃ y, x[n]? = some y := ⟨x[n], List.getElem?_eq_getElem hn⟩
                obtain ⟨py, rfl, hpy, _, hys, y0, y1, y2⟩ := vl_at SX hB2 hy
                have hpyl : (py.add (n * 3)).block < wr.heap.size := by rw [addBlock]; omega
                have HA : Hid (atM x (n : Int) z = decide (vlC y z = 0)) := Lib.hid (by unfold atM; rw [decide_eq_true hc0, Int.toNat_natCast, hy]; rfl)
                clear hy
                have HV := Lib.hid (fun w => rvals_c y z hys hzs w)
                obtain ⟨m, hm⟩ : ∃ m, vlC y z = m := ⟨_, rfl⟩
                rw [hm] at HA HV
                clear hm
                have hS := And.intro cc0 (And.intro y0 (And.intro y1 (And.intro y2 (And.intro z0 (And.intro z1 z2)))))
                go_wp2
                go_region_held3 (fun w' => w'.cell? (p.add k) = some (.slice (some py) x.length q3) ∧ w'.cell? (py.add (n * 3)) = some (.bool y.sym) ∧ w'.cell? ⟨(py.add (n * 3)).block, (py.add (n * 3)).off + 1, none⟩ = some (.int .i64 y.n) ∧ w'.cell? ⟨(py.add (n * 3)).block, (py.add (n * 3)).off + 2, none⟩ = some (.string y.s) ∧ w'.cell? (pz.add (j * 3)) = some (.bool z.sym) ∧ w'.cell? ⟨(pz.add (j * 3)).block, (pz.add (j * 3)).off + 1, none⟩ = some (.int .i64 z.n) ∧ w'.cell? ⟨(pz.add (j * 3)).block, (pz.add (j * 3)).off + 2, none⟩ = some (.string z.s)) (first | exact hS | exact hk) (first | (go_at_call 34; refine (HV.out _).mono ?_; rintro e w1 ⟨rfl, b1⟩; have hk := held133 b1 hal2 hpyl hpzl hS))
                have hB3 := hB2.trans ((((Below.refl _ wr).drew).trans (b1.mono (by show _ ≤ wr.heap.size; omega))).mono hB2s)
                go_wp2
                go_roundw
                case rel => exact ⟨j + 1, (m == 0), ht1, ht2, by go_num, by first | rfl | simp, by rw [Hst.out, HA.out, Bool.true_and]; rfl, hB3⟩
                case measure => simp [intOf]; omega
              · have hn' : ¬ (n : Int) < (x.length : Int) := by omega
                have gd1 : decide ((0 : Int) ≤ (n : Int)) = true := decide_eq_true hc0
                have gd2 : decide ((n : Int) < (x.length : Int)) = false := decide_eq_false hn'
                have gd3 : decide (n < x.length) = false := decide_eq_false hn
                have HA : Hid (atM x (n : Int) z = false) := Lib.hid (by unfold atM; rw [Int.toNat_natCast, List.getElem?_eq_none (by omega)]; simp)
                have Hs2 := Lib.hid (Hst.out.trans (by rw [HA.out, Bool.and_false] : _ = (false && ((cols.zip vals).drop (j + 1)).all fun p => atM x p.1 p.2)))
                go_wp2
                go_quiet (fail)
                go_wp2
                go_roundw
                case rel => exact ⟨j + 1, false, ht1, ht2, by go_num, rfl, Hs2.out, below_drewN hB2 _⟩
                case measure => simp [intOf]; omega
            · have gd1 : decide ((0 : Int) ≤ c) = false := decide_eq_false hc0
              have HA : Hid (atM x c z = false) := Lib.hid (by unfold atM; rw [decide_eq_false hc0]; rfl)
              have Hs2 := Lib.hid (Hst.out.trans (by rw [HA.out, Bool.and_false] : _ = (false && ((cols.zip vals).drop (j + 1)).all fun p => atM x p.1 p.2)))
              go_wp2
              go_quiet (fail)
              go_wp2
              go_roundw
              case rel => exact ⟨j + 1, false, ht1, ht2, by go_num, rfl, Hs2.out, below_drewN hB2 _⟩
              case measure => simp [intOf]; omega
          · have ht2' : ¬ (j : Int) < (vals.length : Int) := by omega
            have Hs2 := Lib.hid (Hf.out.trans (fits_end (.inr (by omega)) bk))
            have HO1 := Lib.hid (HO.out.past hB2)
            cases bk with
            | false =>
              go_wp2
              go_roundw
              case rel =>
                refine ⟨k + 1, hlt, by go_num, ?_⟩
                rw [HM.out, Hs2.out]
                simp only [Bool.false_eq_true, if_false, List.append_nil]
                exact HO1.out
              case measure => simp [intOf]; omega
            | true =>
              have hlen : (matchL (l.take k) cols vals).length ≤ 1000000 := by
                have h1 := match_le (l.take k) cols vals
                have h2 := HL.out
                rw [List.length_take] at h1
                omega
              obtain ⟨css, hcl, hce, hown⟩ := HO1.out.1
              obtain ⟨N, hN⟩ : ∃ N, (matchL (l.take k) cols vals).length = N := ⟨_, rfl⟩
              rw [hN] at hown hlen
              have HNN := Lib.hid hN
              have HCE := Lib.hid (And.intro hcl hce)
              have HOWN := Lib.hid hown
              have HS1 : Hid (N + 1 ≤ maxLen) := Lib.hid (by unfold maxLen; omega)
              have HS2 : Hid ((N + 1) * 24 ≤ 140737488355328) := Lib.hid (by omega)
              clear hcl hce hown hlen hN
              go_wp2_with (at_builtin; refine wpList_append_own _ rfl (.tmp 64) (.tmp 69) 23 rfl w.heap.size 22 i0 _ 1 24 Try.underlying23 hi hz0 hz1 hz2 rfl (by decide) _ N _ rfl (HOWN.out.alloc _) _ 1 1 [.slice p3 x.length q3] rfl rfl (news_new _ _ _ _ rfl) (one_row _ rfl) HS1.out HS2.out (by simp; omega) ?_; intro v' w3 hown' hgrow _; obtain ⟨g', cap', rfl, hgb⟩ := own_form hown' (Nat.succ_pos _); have HG3 := Lib.hid (grown_via' hgrow); have HOWN3 := Lib.hid hown'; clear hgrow hown')
              go_wp2
              go_roundw
              case rel =>
                refine ⟨k + 1, hlt, by go_num, ?_⟩
                rw [HM.out, Hs2.out]
                exact HO1.out.snoc HCE.out.1 HCE.out.2 Hr.out HG3.out (by rw [HNN.out]; exact HOWN3.out)
              case measure => simp [intOf]; omega
        · have ht1' : ¬ (j : Int) < (cols.length : Int) := by omega
          have Hs2 := Lib.hid (Hf.out.trans (fits_end (.inl (by omega)) bk))
          have HO1 := Lib.hid (HO.out.past hB2)
          cases bk with
          | false =>
            go_wp2
            go_roundw
            case rel =>
              refine ⟨k + 1, hlt, by go_num, ?_⟩
              rw [HM.out, Hs2.out]
              simp only [Bool.false_eq_true, if_false, List.append_nil]
              exact HO1.out
            case measure => simp [intOf]; omega
          | true =>
            have hlen : (matchL (l.take k) cols vals).length ≤ 1000000 := by
              have h1 := match_le (l.take k) cols vals
              have h2 := HL.out
              rw [List.length_take] at h1
              omega
            obtain ⟨css, hcl, hce, hown⟩ := HO1.out.1
            obtain ⟨N, hN⟩ : ∃ N, (matchL (l.take k) cols vals).length = N := ⟨_, rfl⟩
            rw [hN] at hown hlen
            have HNN := Lib.hid hN
            have HCE := Lib.hid (And.intro hcl hce)
            have HOWN := Lib.hid hown
            have HS1 : Hid (N + 1 ≤ maxLen) := Lib.hid (by unfold maxLen; omega)
            have HS2 : Hid ((N + 1) * 24 ≤ 140737488355328) := Lib.hid (by omega)
            clear hcl hce hown hlen hN
            go_wp2_with (at_builtin; refine wpList_append_own _ rfl (.tmp 64) (.tmp 69) 23 rfl w.heap.size 22 i0 _ 1 24 Try.underlying23 hi hz0 hz1 hz2 rfl (by decide) _ N _ rfl (HOWN.out.alloc _) _ 1 1 [.slice p3 x.length q3] rfl rfl (news_new _ _ _ _ rfl) (one_row _ rfl) HS1.out HS2.out (by simp; omega) ?_; intro v' w3 hown' hgrow _; obtain ⟨g', cap', rfl, hgb⟩ := own_form hown' (Nat.succ_pos _); have HG3 := Lib.hid (grown_via' hgrow); have HOWN3 := Lib.hid hown'; clear hgrow hown')
            go_wp2
            go_roundw
            case rel =>
              refine ⟨k + 1, hlt, by go_num, ?_⟩
              rw [HM.out, Hs2.out]
              exact HO1.out.snoc HCE.out.1 HCE.out.2 Hr.out HG3.out (by rw [HNN.out]; exact HOWN3.out)
            case measure => simp [intOf]; omega
    · have hlt' : ¬ (k : Int) < (l.length : Int) := by omega
      have hO := HO.out
      rw [List.take_of_length_le (by omega)] at hO
      have HO2 := Lib.hid hO
      clear hO
      go_wp2
      go_ret
      exact ⟨_, rfl, HO2.out.rows, HO2.out.2⟩
end Go.Proofs.Ytgfhgejgdgfjnaa
