/- soritesref05.Types. soritesref05.Check. soritesref05.Check's walk, and the law DtypeChecks. -/
import Derived.Test.YtbpdfmpfnbdeoaaGreatDoorKYrt5
import Derived.Deep.LoopGhost
import Derived.Test.YtbpdfmpfnbdeoaaGreatDoorKYtp
import Derived.Test.YtbpdfmpfnbdeoaaGreatDoorKYrv2
import Derived.Test.YtbpdfmpfnbdeoaaGreatDoorKYplc
import Derived.Deep.RegionHeld3
namespace Go.Proofs.YtbpdfmpfnbdeoaaGreatDoor
open Go.RowKit

/-- How the reference's Types answers. -/
def RTypesR (ds : List De) (r : Ru) (n0 : Nat) (w : World) (e : Ending) (w' : World) : Prop :=
  ∃ v l k, e = .returned (.tuple #[v, .int .i64 k]) ∧ RefT ds r l k ∧ SlOf w' w'.heap.size 1 IntC l v ∧ Below n0 w w'
theorem rtypesR_nil {ds : List De} {r : Ru} {n0 : Nat} {w w' : World} {k : Int} (h : RefT ds r [] k) (hb : Below n0 w w') : RTypesR ds r n0 w (.returned (.tuple #[.slice none 0 0, .int .i64 k])) w' := ⟨_, _, _, rfl, h, .inl ⟨rfl, rfl⟩, hb⟩
set_option maxRecDepth 100000 in
set_option maxHeartbeats 16000000 in
theorem rtypes_c (ds : List De) (v : Value) (r : Ru) (cs : List Value) (w : World) (hd : SlOf w w.heap.size 6 (DeC w w.heap.size) ds v) (hc : RuC w w.heap.size r cs) (hlen : (termsR r).length ≤ 1000000) :
    Calls Tryz.prog 35 #[v, .agg cs.toArray] w (RTypesR ds r w.heap.size w) := by
  obtain ⟨o0, k0, o1, k1, rfl, _, hh, hbd⟩ := hc.look
  obtain ⟨od, kd, rfl, _⟩ := SlOf.uni hd
  obtain ⟨o2, k2, e2, hc1, hm1, S1⟩ := SlOf.open hbd
  cases e2
  obtain ⟨C, hC⟩ : ∃ C : Obj, .cells #[.string r.head.rel, .slice o0 r.head.l.length k0, .slice o1 r.body.length k1, .int .i64 r.line] 37 = C := ⟨_, rfl⟩
  have b1 : Below w.heap.size w (w.alloc C) := (Below.refl _ _).alloc (Nat.le_refl _) _
  have b2 : Below w.heap.size w ((w.alloc C).alloc C) := b1.alloc (by simp) _
  have HSL : SlOf ((w.alloc C).alloc C) ((w.alloc C).alloc C).heap.size 4 (RuC ((w.alloc C).alloc C) ((w.alloc C).alloc C).heap.size) [r] (.slice (some ⟨w.heap.size + 1, 0, none⟩) 1 1) := by
    have := rule_slice (w.alloc C) r ((hc.below b1).more b1.size)
    rw [hC] at this
    simpa using this
  have HR := Lib.hid (rright_c ⟨ds, [r]⟩ _ [.slice od ds.length kd, .slice (some ⟨w.heap.size + 1, 0, none⟩) 1 1] ⟨_, _, rfl, SlOf.decl hd b2 b2.size, HSL⟩)
  have B2 := Lib.hid b2
  have HD := Lib.hid hd
  have HC := Lib.hid hc
  have HH := Lib.hid hh
  have HLn := Lib.hid hlen
  subst hC
  clear hd hc hlen b1 b2 HSL hh hbd
  go_enter Tryz.func35, Tryz.ntmps35
  go_wp2_with fail
  refine HR.out.mono ?_
  rintro e3 w3 ⟨rfl, b3⟩
  have hz2 : w.heap.size + 2 ≤ w3.heap.size := by have := b3.size; simpa using this
  have r3 : w3.heap[w.heap.size]? = some (.cells #[.string r.head.rel, .slice o0 r.head.l.length k0, .slice o1 r.body.length k1, .int .i64 r.line] 37 (0, 0)) := by
    rw [b3.block _ (by simp; omega)]
    rw [Below.heap_alloc _ _ _ (by simp)]
    exact World.alloc_heap_new w _
  have B3 := Lib.hid (B2.out.trans (b3.mono B2.out.size))
  clear b3
  cases hr : rightP ⟨ds, [r]⟩ with
  | false =>
    have Ha := Lib.hid (RefT.tree hr)
    clear hr
    go_wp2
    go_ret2
    exact rtypesR_nil Ha.out B3.out
  | true =>
  have HRt := Lib.hid hr
  clear hr
  have R3 := Lib.hid r3
  have x0 : w3.cell? ⟨w.heap.size, 0, none⟩ = some (.string r.head.rel) := row_cells R3.out 0
  have x1 : w3.cell? ⟨w.heap.size, 1, none⟩ = some (.slice o0 r.head.l.length k0) := row_cells R3.out 1
  have hl3 : w.heap.size < w3.heap.size := by omega
  have HK := Lib.hid (rknown_c ds _ r.head w3 _ (SlOf.decl HD.out B3.out B3.out.size) ((HH.out.below B3.out).more B3.out.size))
  clear r3
  go_wp2_with fail
  refine HK.out.mono ?_
  rintro e4 w4 ⟨rfl, b4⟩
  have B4 := Lib.hid (B3.out.trans (b4.mono B3.out.size))
  have R4 := Lib.hid ((b4.block _ hl3).trans R3.out)
  obtain ⟨c0, hc0⟩ : ∃ c, badA ds r.head = c := ⟨_, rfl⟩
  rw [hc0]
  have HC0 : Hid (chkK ds r 0 = c0) := Lib.hid ((chkK_zero ds r).trans hc0)
  clear b4 HK x0 x1 hc0
  go_wp2
  go_loopw [7, 8] (fun ev iv wr => ∃ (k : Nat), k ≤ r.body.length ∧ iv = .int .i64 k ∧ ev = .int .i64 (atE (chkK ds r k)) ∧ Below w4.heap.size w4 wr) (fun _ iv _ => r.body.length - (intOf iv).toNat)
  case atStart => exact ⟨0, Nat.zero_le _, rfl, by rw [HC0.out], Below.refl _ _⟩
  case round =>
    obtain ⟨k, hk, rfl, rfl, hB⟩ := hrel
    have hBw : Below w.heap.size w wr := B4.out.trans (hB.mono B4.out.size)
    have qr := (hB.block w.heap.size (heap_lt R4.out)).trans R4.out
    have hz0 : w.heap.size < wr.heap.size := heap_lt qr
    have y2 : wr.cell? ⟨w.heap.size, 2, none⟩ = some (.slice o1 r.body.length k1) := row_cells qr 2
    have HB := Lib.hid hB
    have HBw := Lib.hid hBw
    have QR := Lib.hid qr
    obtain ⟨c, hcc⟩ : ∃ c, chkK ds r k = c := ⟨_, rfl⟩
    have HCk := Lib.hid hcc
    rw [hcc]
    clear hB hBw qr hcc
    by_cases hgo : k < r.body.length ∧ c = 0
    · obtain ⟨hlt, rfl⟩ := hgo
      have hlt3 : (k : Int) < (r.body.length : Int) := by omega
      have hk0 : (0 : Int) ≤ (k : Int) := by omega
      have ec : (atE 0 == 0) = true := rfl
      obtain ⟨t, ht⟩ : ∃ t, r.body[k]? = some t := ⟨_, List.getElem?_eq_getElem hlt⟩
      have Hst := Lib.hid (chkK_step ht HCk.out)
      have HLr := Lib.hid (right_lits (right_ru HRt.out) t (List.mem_of_getElem? ht))
      obtain ⟨a, p0, q0, p1, q1, p2, q2, rfl, ha, Hc, d0, d1, d2, d3, d4, d5, d6, d7, d8, d9, d10⟩ := lt_at S1 HBw.out ht
      have hal : (a.add (k * 11)).block < wr.heap.size := by rw [addBlock]; omega
      obtain ⟨_, _, _, _, _, _, ecs, _, hAm, _, _⟩ := Hc.out.look
      simp only [List.cons.injEq, Value.slice.injEq, true_and, and_true] at ecs
      obtain ⟨⟨rfl, rfl⟩, ⟨rfl, rfl⟩, rfl, rfl⟩ := ecs
      have HKn := Lib.hid (fun (W : World) (hb : Below wr.heap.size wr W) => rknown_c ds _ t.a W _ (SlOf.decl HD.out (HBw.out.trans (hb.mono HBw.out.size)) (Nat.le_trans HBw.out.size hb.size)) ((hAm.below hb).more hb.size))
      clear ht hAm
      by_cases hop : t.op < 3
      · have Hz : Hid (chkK ds r (k + 1) = badA ds t.a) := Lib.hid (by
          rw [Hst.out, if_neg]
          intro h
          have := duo_op h
          omega)
        go_wp2_with fail
        refine (HKn.out _ (Below.refl _ _)).mono ?_
        rintro e5 w5 ⟨rfl, b5⟩
        have HB5 := Lib.hid (HB.out.trans (b5.mono HB.out.size))
        clear b5 d0 d1 d2 d3 d4 d5 d6 d7 d8 d9 d10
        go_wp2
        go_roundw
        case rel => exact ⟨k + 1, hlt, by go_num, by rw [Hz.out], HB5.out⟩
        case measure => simp [intOf]; omega
      · by_cases hop6 : 6 < t.op
        · have Hz : Hid (chkK ds r (k + 1) = badA ds t.a) := Lib.hid (by
            rw [Hst.out, if_neg]
            intro h
            have := duo_op h
            omega)
          go_wp2_with fail
          refine (HKn.out _ (Below.refl _ _)).mono ?_
          rintro e5 w5 ⟨rfl, b5⟩
          have HB5 := Lib.hid (HB.out.trans (b5.mono HB.out.size))
          clear b5 d0 d1 d2 d3 d4 d5 d6 d7 d8 d9 d10
          go_wp2
          go_roundw
          case rel => exact ⟨k + 1, hlt, by go_num, by rw [Hz.out], HB5.out⟩
          case measure => simp [intOf]; omega
        · have Hz : Hid (chkK ds r (k + 1) = 0) := Lib.hid (by
            rw [Hst.out, if_pos]
            unfold duoB
            simp only [Bool.or_eq_true, beq_iff_eq]
            omega)
          go_wp2
          go_roundw
          case rel => exact ⟨k + 1, hlt, by go_num, by rw [Hz.out], HB.out⟩
          case measure => simp [intOf]; omega
    · by_cases hc0 : c = 0
      · subst hc0
        have hlt3 : ¬ (k : Int) < (r.body.length : Int) := by omega
        obtain rfl : k = r.body.length := by omega
        have HCH : Hid (chkA ds (atomsR r) = 0) := Lib.hid ((chkK_all ds r).symm.trans HCk.out)
        have ec : (atE 0 != 0) = false := rfl
        have HV := Lib.hid (vars5_c r wr _ ((HC.out.below HBw.out).more HBw.out.size) HLn.out)
        have z0 : wr.cell? ⟨w.heap.size, 0, none⟩ = some (.string r.head.rel) := row_cells QR.out 0
        have z1 : wr.cell? ⟨w.heap.size, 1, none⟩ = some (.slice o0 r.head.l.length k0) := row_cells QR.out 1
        have z3 : wr.cell? ⟨w.heap.size, 3, none⟩ = some (.int .i64 r.line) := row_cells QR.out 3
        go_wp2_with fail
        refine HV.out.mono ?_
        rintro e5 w5 ⟨vv, rfl, hS5, b5⟩
        have B5 := Lib.hid (HBw.out.trans (b5.mono HBw.out.size))
        have R5 := Lib.hid ((b5.block _ (heap_lt QR.out)).trans QR.out)
        rw [show varsA r = varsV (termsR r) from if_pos (right_ru HRt.out)] at hS5
        obtain ⟨vs, hvs⟩ : ∃ vs, varsV (termsR r) = vs := ⟨_, rfl⟩
        have Hvs := Lib.hid hvs
        have hvl : vs.length ≤ 1000000 := by rw [← hvs]; exact Nat.le_trans (varsV_len _) HLn.out
        have Hvl := Lib.hid hvl
        rw [hvs] at hS5
        have HS5 := Lib.hid hS5
        obtain ⟨ov, kv, rfl, _⟩ := SlOf.uni hS5
        obtain ⟨i0, hi, hy0, hy1, hy2⟩ := info_parts info_int
        have Kb : Hid (i0.bytes * vs.length ≤ 281474976710656) := Lib.hid (by rw [hy2]; omega)
        have Km : Hid (vs.length ≤ maxLen) := Lib.hid (by unfold maxLen; omega)
        obtain ⟨B, hBe⟩ : ∃ B, w5.heap.size = B := ⟨_, rfl⟩
        have HBe := Lib.hid hBe
        clear hS5 b5 HV z0 z1 z3 y2 hvs hvl
        go_wp2_with (first | (at_make; refine wpList_make_full _ rfl _ _ 39 rfl B 3 i0 _ 1 Tryz.underlying39 hi hy0 hy1 .i64 .i64 _ _ vs.length rfl rfl rfl rfl Kb.out Km.out (by rw [hBe]; exact Nat.le_refl _) ?_; rw [hBe]; intro w6 hown6 hg6; have O6 := Lib.hid hown6; have G6 := Lib.hid hg6; clear hown6 hg6))
        have hb6 : Below B w5 w6 := (Below.refl _ _).grown G6.out (by rw [hBe]; exact Nat.le_refl _) (fun q hq => by cases hq)
        have hmc : (madeCells (Value.int .i64 0).cells (vs.length * 1)).toList = (List.replicate vs.length (0 : Int)).map (Value.int .i64) := by
          rw [Nat.mul_one, List.map_replicate]
          exact toList_madeCells_one _ _
        have hT6 : TyS B B w6 vs (.slice ov vs.length kv) (List.replicate vs.length 0) := by
          have h1 := O6.out
          rw [hmc] at h1
          refine ⟨SlOf.str HS5.out (by rw [HBe.out]; exact hb6) (by rw [HBe.out]; exact Nat.le_refl _), by rw [List.length_replicate]; exact h1, List.length_replicate, by have := G6.out.size; omega⟩
        have B6 := Lib.hid (B5.out.trans (hb6.mono (by rw [← hBe]; exact B5.out.size)))
        have HB56 := Lib.hid hb6
        have hw5 : w.heap.size < B := by rw [← hBe]; exact heap_lt R5.out
        have R6 := Lib.hid ((hb6.block _ hw5).trans R5.out)
        have HT6 := Lib.hid hT6
        have Hin : Hid (∀ W, Kp (fun b => b = B) w6 W → Below B w5 W) := Lib.hid fun W hk => HB56.out.trans (hk.below (by have := HB56.out.size; omega) fun i hi e => by omega)
        have HLH : Hid (∀ (W : World) (ts : List Int), Kp (fun b => b = B) w6 W → ts.length = vs.length → TyS B B W vs (.slice ov vs.length kv) ts → Calls Tryz.prog 65 #[.slice od ds.length kd, .agg #[.string r.head.rel, .slice o0 r.head.l.length k0], .slice ov vs.length kv, .slice (some ⟨B, 0, none⟩) vs.length vs.length] W (LrnR (jR ds r) vs (AllF vs (plc ds r.head)) ts B B (.slice ov vs.length kv) W)) := Lib.hid fun W ts hk hl hT => by
          have hb := B5.out.trans ((Hin.out W hk).mono (by rw [← hBe]; exact B5.out.size))
          have := rlearnHead_c ds r HRt.out HCH.out (.slice ov vs.length kv) (.slice od ds.length kd) B B ts W _ (SlOf.decl HD.out hb (by omega)) ((HH.out.below hb).more (by omega)) (by rw [Hvs.out]; exact hT)
          rw [Hvs.out, hl] at this
          exact this
        have HLL : Hid (∀ (W : World) (t : Lt) (cs : List Value) (ts : List Int), t ∈ r.body → Kp (fun b => b = B) w6 W → ts.length = vs.length → LtC W B t cs → TyS B B W vs (.slice ov vs.length kv) ts → SndT (jR ds r) vs ts → Calls Tryz.prog 66 #[.slice od ds.length kd, .agg cs.toArray, .slice ov vs.length kv, .slice (some ⟨B, 0, none⟩) vs.length vs.length] W (LrnR (jR ds r) vs (LitN ds vs t) ts B B (.slice ov vs.length kv) W)) := Lib.hid fun W t cs ts ht hk hl hc hT hS => by
          have hb := B5.out.trans ((Hin.out W hk).mono (by rw [← hBe]; exact B5.out.size))
          have := rlearnLit_c ds r HRt.out HCH.out (.slice ov vs.length kv) (.slice od ds.length kd) B B t ht ts W cs (SlOf.decl HD.out hb (by omega)) hc (by rw [Hvs.out]; exact hT) (by rw [Hvs.out]; exact hS)
          rw [Hvs.out, hl] at this
          exact this
        have HFR : Hid (∀ (W : World) (ts : List Int), Kp (fun b => b = B) w6 W → ts.length = vs.length → TyS B B W vs (.slice ov vs.length kv) ts → Calls Tryz.prog 67 #[.slice od ds.length kd, .agg #[.string r.head.rel, .slice o0 r.head.l.length k0, .slice o1 r.body.length k1, .int .i64 r.line], .slice ov vs.length kv, .slice (some ⟨B, 0, none⟩) vs.length vs.length] W fun e w' => e = .returned (.bool (fitsRB ds vs ts r)) ∧ Below W.heap.size W w') := Lib.hid fun W ts hk hl hT => by
          have hb := B5.out.trans ((Hin.out W hk).mono (by rw [← hBe]; exact B5.out.size))
          have := rfitsRule_c vs (.slice ov vs.length kv) B B ds (.slice od ds.length kd) r ts W _ (SlOf.decl HD.out hb (by omega)) ((HC.out.below hb).more (by omega)) hT (right_ru HRt.out) HCH.out (by rw [← Hvs.out]; exact vars_in (right_ru HRt.out))
          rw [hl] at this
          exact this
        have HSL1 : Hid (SlIn w w.heap.size 11 (LtC w w.heap.size) r.body o1) := S1
        have HRk : Hid (∀ W, Kp (fun b => b = B) w6 W → W.heap[w.heap.size]? = some (.cells #[.string r.head.rel, .slice o0 r.head.l.length k0, .slice o1 r.body.length k1, .int .i64 r.line] 37 (0, 0))) := Lib.hid fun W hk => (hk.block _ (heap_lt R6.out) (by omega)).trans R6.out
        have HBk : Hid (∀ W, Kp (fun b => b = B) w6 W → Below w.heap.size w W) := Lib.hid fun W hk => B5.out.trans ((Hin.out W hk).mono (by rw [← hBe]; exact B5.out.size))
        clear hb6 hmc hT6 HR HC
        go_wp2_with fail
        go_loopg [11] (vs.length + 1) (fun q mv wr => ∃ (ts : List Int) (m : Bool), mv = .bool m ∧ ts.length = vs.length ∧ TyS B B wr vs (.slice ov vs.length kv) ts ∧ SndT (jR ds r) vs ts ∧ (m = false → StillR ds r vs ts) ∧ Kp (fun b => b = B) w6 wr ∧ zerosL ts + (if m then 1 else 0) ≤ q)
        case atStart => exact ⟨_, true, rfl, List.length_replicate, HT6.out, snd_zeros, fun h => (by cases h), Kp.refl _ _, by have := zeros_le (List.replicate vs.length (0 : Int)); rw [List.length_replicate] at this; simp; omega⟩
        case round =>
          obtain ⟨ts, m, rfl, htl, hTs, hSn, hSt, hKw, hq⟩ := hrel
          have HTs := Lib.hid hTs
          have HSn := Lib.hid hSn
          have HKw := Lib.hid hKw
          have Htl := Lib.hid htl
          have Hq := Lib.hid hq
          have qr := HRk.out _ hKw
          have g0 : wr.cell? ⟨w.heap.size, 0, none⟩ = some (.string r.head.rel) := row_cells qr 0
          have g1 : wr.cell? ⟨w.heap.size, 1, none⟩ = some (.slice o0 r.head.l.length k0) := row_cells qr 1
          have g2 : wr.cell? ⟨w.heap.size, 2, none⟩ = some (.slice o1 r.body.length k1) := row_cells qr 2
          have g3 : wr.cell? ⟨w.heap.size, 3, none⟩ = some (.int .i64 r.line) := row_cells qr 3
          have hzr : w.heap.size < wr.heap.size := heap_lt qr
          clear hTs hSn hKw htl hq qr
          cases m with
          | true =>
            have HCA := Lib.hid (HLH.out wr ts HKw.out Htl.out HTs.out)
            clear hSt
            go_wp2_with fail
            refine HCA.out.mono ?_
            rintro e7 w7 ⟨ts7, m7, rfl, hL7, hT7, hK7⟩
            have HL7 := Lib.hid hL7
            have HT7 := Lib.hid hT7
            have HK7 := Lib.hid (HKw.out.trans hK7)
            clear hL7 hT7 hK7 HCA g0 g1 g2 g3
            go_wp2
            go_loopw [11, 12] (fun mv iv wx => ∃ (ts2 : List Int) (m2 : Bool) (j : Nat), j ≤ r.body.length ∧ iv = .int .i64 j ∧ mv = .bool m2 ∧ Lrn (jR ds r) vs (fun t => AllF vs (plc ds r.head) t ∧ ∀ l ∈ r.body.take j, LitN ds vs l t) ts ts2 m2 ∧ TyS B B wx vs (.slice ov vs.length kv) ts2 ∧ Kp (fun b => b = B) w6 wx) (fun _ iv _ => r.body.length - (intOf iv).toNat)
            case atStart => exact ⟨ts7, m7, 0, Nat.zero_le _, rfl, rfl, HL7.out.mono fun h => ⟨h, by simp⟩, HT7.out, HK7.out⟩
            case round =>
              obtain ⟨ts2, m2, j, hj, rfl, rfl, hL2, hT2, hK2⟩ := hrel
              have HL2 := Lib.hid hL2
              have HT2 := Lib.hid hT2
              have HK2 := Lib.hid hK2
              have qr := HRk.out _ hK2
              have g2 : wr.cell? ⟨w.heap.size, 2, none⟩ = some (.slice o1 r.body.length k1) := row_cells qr 2
              have hzr : w.heap.size < wr.heap.size := heap_lt qr
              clear hL2 hT2 hK2 qr
              by_cases hlt : j < r.body.length
              · have hlt3 : (j : Int) < (r.body.length : Int) := by omega
                obtain ⟨t, ht⟩ : ∃ t, r.body[j]? = some t := ⟨_, List.getElem?_eq_getElem hlt⟩
                obtain ⟨a, p0, q0, p1, q1, p2, q2, rfl, ha, Hc, d0, d1, d2, d3, d4, d5, d6, d7, d8, d9, d10⟩ := lt_in HSL1 (HBk.out _ HK2.out) ht
                have hal : (a.add (j * 11)).block < wr.heap.size := by rw [addBlock]; omega
                have HCL := Lib.hid (HLL.out wr t _ ts2 (List.mem_of_getElem? ht) HK2.out (HL2.out.len.trans Htl.out) (Hc.out.more (by omega)) HT2.out (HL2.out.snd HSn.out))
                have Ht := Lib.hid ht
                clear ht
                go_wp2_with fail
                refine HCL.out.mono ?_
                rintro e8 w8 ⟨ts8, m8, rfl, hL8, hT8, hK8⟩
                have hx : Lrn (jR ds r) vs (fun t => AllF vs (plc ds r.head) t ∧ ∀ l ∈ r.body.take (j + 1), LitN ds vs l t) ts ts8 (m2 || m8) := (HL2.out.comp hL8).mono fun h => ⟨h.1.1, takes_all Ht.out h.1.2 h.2⟩
                have HL8 := Lib.hid hx
                have HT8 := Lib.hid hT8
                have HK8 := Lib.hid (HK2.out.trans hK8)
                clear hL8 hT8 hK8 HCL hx d0 d1 d2 d3 d4 d5 d6 d7 d8 d9 d10
                cases m2 with
                | true =>
                  go_wp2
                  go_roundw
                  case rel => exact ⟨ts8, true, j + 1, hlt, by go_num, rfl, HL8.out, HT8.out, HK8.out⟩
                  case measure => simp [intOf]; omega
                | false =>
                  go_wp2
                  go_roundw
                  case rel => exact ⟨ts8, m8, j + 1, hlt, by go_num, rfl, HL8.out, HT8.out, HK8.out⟩
                  case measure => simp [intOf]; omega
              · have hlt3 : ¬ (j : Int) < (r.body.length : Int) := by omega
                obtain rfl : j = r.body.length := by omega
                go_wp2
                go_roundg (zerosL ts2 + (if m2 then 1 else 0))
                case measure =>
                  have hq := Hq.out
                  simp only [if_true] at hq
                  cases m2 with
                  | true => have := HL2.out.less rfl; simp; omega
                  | false => have := (HL2.out.still rfl).1; subst this; simp; omega
                case rel =>
                  refine ⟨ts2, m2, rfl, HL2.out.len.trans Htl.out, HT2.out, HL2.out.snd HSn.out, fun hm => ?_, HK2.out, Nat.le_refl _⟩
                  obtain ⟨e, h1, h2⟩ := HL2.out.still hm
                  rw [e]
                  exact still_of h1 fun l hl => h2 l (by rw [List.take_of_length_le (Nat.le_refl _)]; exact hl)
          | false =>
            have HSt := Lib.hid (hSt rfl)
            clear hSt
            go_wp2
            go_loopw [14] (fun iv wx => ∃ (j : Nat), j ≤ ts.length ∧ iv = .int .i64 j ∧ (∀ x ∈ ts.take j, x ≠ 0) ∧ wx = wr) (fun iv _ => ts.length - (intOf iv).toNat)
            case atStart => exact ⟨0, Nat.zero_le _, rfl, by simp, rfl⟩
            case round =>
              obtain ⟨j, hj, rfl, hnz, rfl⟩ := hrel
              have Hnz := Lib.hid hnz
              clear hnz
              by_cases hlt : j < ts.length
              · have hltv : j < vs.length := by have := Htl.out; omega
                have hvl := Hvl.out
                have hlt3 : (j : Int) < (vs.length : Int) := by omega
                have hj0 : (0 : Int) ≤ (j : Int) := by omega
                obtain ⟨x, hx⟩ : ∃ x, ts[j]? = some x := ⟨_, List.getElem?_eq_getElem hlt⟩
                have c0 := HTs.out.cell hx
                have hgl : B < wr.heap.size := HTs.out.row.2
                by_cases h0 : x = 0
                · subst h0
                  have Ha : Hid (RefT ds r [] 53) := Lib.hid (RefT.unk (ts := ts) HRt.out HCH.out (by rw [Hvs.out]; exact Htl.out) (by rw [Hvs.out]; exact HSn.out) (by rw [Hvs.out]; exact HSt.out) (List.mem_of_getElem? hx))
                  clear hx
                  go_wp2
                  go_ret2
                  exact rtypesR_nil Ha.out (HBk.out _ HKw.out)
                · have hb0 : (x == 0) = false := by simpa using h0
                  have Hst : Hid (∀ y ∈ ts.take (j + 1), y ≠ 0) := Lib.hid (takes_all (P := fun y : Int => y ≠ 0) hx Hnz.out h0)
                  clear hx
                  go_wp2
                  go_roundw
                  case rel => exact ⟨j + 1, hlt, by go_num, Hst.out, trivial⟩
                  case measure => simp [intOf]; omega
              · obtain rfl : j = ts.length := by omega
                have hlt3 : ¬ ((ts.length : Nat) : Int) < (vs.length : Int) := by have := Htl.out; omega
                have hn0 : 0 ∉ ts := fun h => Hnz.out 0 (by rw [List.take_of_length_le (Nat.le_refl _)]; exact h) rfl
                have Hn0 := Lib.hid hn0
                have HCF := Lib.hid (HFR.out wr ts HKw.out Htl.out HTs.out)
                obtain ⟨b, hb⟩ : ∃ b, fitsRB ds vs ts r = b := ⟨_, rfl⟩
                have Hb := Lib.hid hb
                rw [hb] at HCF
                clear hn0 hb
                go_wp2_with fail
                refine HCF.out.mono ?_
                rintro e9 w9 ⟨rfl, b9⟩
                have HB9 := Lib.hid ((HBk.out _ HKw.out).trans (b9.mono (HBk.out _ HKw.out).size))
                have HT9 := Lib.hid (HTs.out.kept b9)
                clear b9 HCF g0 g1 g2 g3
                cases b with
                | false =>
                  have Ha : Hid (RefT ds r [] 53) := Lib.hid (RefT.bad (ts := ts) HRt.out HCH.out (by rw [Hvs.out]; exact Htl.out) (by rw [Hvs.out]; exact HSn.out) (by rw [Hvs.out]; exact HSt.out) Hn0.out (by rw [Hvs.out, ← fitsRB_iff, Hb.out]; decide))
                  go_wp2
                  go_ret2
                  exact rtypesR_nil Ha.out HB9.out
                | true =>
                  have Ha : Hid (RefT ds r ts 0) := Lib.hid (RefT.good HRt.out HCH.out (by rw [Hvs.out]; exact Htl.out) (by rw [Hvs.out]; exact HSn.out) (by rw [Hvs.out]; exact HSt.out) Hn0.out (by rw [Hvs.out, ← fitsRB_iff, Hb.out]))
                  go_wp2
                  go_ret2
                  refine ⟨_, _, _, rfl, Ha.out, ?_, HB9.out⟩
                  have hO := HT9.out.own
                  rw [Htl.out] at hO
                  refine sl_row (l := ts) (f := Value.int .i64) (T := 3) (base := B) (by rw [Htl.out]; exact hO) (fun n hn => ⟨rfl, ?_⟩)
                  obtain ⟨i, hi'⟩ := List.mem_iff_getElem?.1 hn
                  have hil := (List.getElem?_eq_some_iff.1 hi').1
                  have := jR_12 HRt.out _ _ (HSn.out i (vs[i]'(by have := Htl.out; omega)) n (List.getElem?_eq_getElem (by have := Htl.out; omega)) hi' (fun e => Hn0.out (e ▸ hn)))
                  unfold I64
                  omega
      · have ec : (atE c == 0) = false := by rw [atE_zero]; simpa using hc0
        have ec2 : (atE c != 0) = true := by unfold bne; rw [ec]; rfl
        have Ha : Hid (RefT ds r [] (atE c)) := Lib.hid (by
          have h := chkK_stop (ds := ds) (r := r) (k := k) (by rw [HCk.out]; exact hc0)
          rw [HCk.out] at h
          have := RefT.atom HRt.out (by rw [h]; exact hc0)
          rwa [h] at this)
        by_cases hlt : k < r.body.length
        · have hlt3 : (k : Int) < (r.body.length : Int) := by omega
          go_wp2
          go_ret2
          exact rtypesR_nil Ha.out HBw.out
        · have hlt3 : ¬ (k : Int) < (r.body.length : Int) := by omega
          go_wp2
          go_ret2
          exact rtypesR_nil Ha.out HBw.out
end Go.Proofs.YtbpdfmpfnbdeoaaGreatDoor
namespace Go.Proofs.YtbpdfmpfnbdeoaaGreatDoor
open Go.RowKit

/-- What the reference's Check answers. -/
inductive RefCh (p : Pg) : Int → Int → Prop
  | tree : rightP p = false → RefCh p 0 30
  | twice {i : Nat} {d : De} : rightP p = true → p.decls[i]? = some d → findY d.rel p.decls ≠ some i → NoTw p.decls i → RefCh p d.line 50
  | rule {k : Nat} {r : Ru} {l : List Int} {e : Int} : rightP p = true → NoTw p.decls p.decls.length → p.rules[k]? = some r → (∀ (j : Nat) (r' : Ru), j < k → p.rules[j]? = some r' → ∃ l, RefT p.decls r' l 0) → RefT p.decls r l e → e ≠ 0 → RefCh p r.line e
  | ok : rightP p = true → NoTw p.decls p.decls.length → (∀ r ∈ p.rules, ∃ l, RefT p.decls r l 0) → RefCh p 0 0
theorem notw_le {ds : List De} {i : Nat} {d : De} (hd : ds[i]? = some d) (hf : findY d.rel ds ≠ some i) {k : Nat} (h : NoTw ds k) : k ≤ i := by
  rcases Nat.lt_or_ge i k with hlt | hge
  · exact absurd (h i d hlt hd) hf
  · exact hge
theorem refch_same {p : Pg} {ln e ln' e' : Int} (h : ChA p ln e) (h' : RefCh p ln' e') : ln = ln' ∧ e = e' := by
  cases h with
  | tree h1 =>
    cases h' with
    | tree => exact ⟨rfl, rfl⟩
    | twice g1 => rw [h1] at g1; cases g1
    | rule g1 => rw [h1] at g1; cases g1
    | ok g1 => rw [h1] at g1; cases g1
  | @twice i d h1 h2 h3 h4 =>
    have hil := (List.getElem?_eq_some_iff.1 h2).1
    cases h' with
    | tree g1 => rw [h1] at g1; cases g1
    | @twice j d' g1 g2 g3 g4 =>
      have a := notw_le h2 h3 g4
      have b := notw_le g2 g3 h4
      obtain rfl : i = j := by omega
      rw [h2] at g2
      cases g2
      exact ⟨rfl, rfl⟩
    | rule g1 g2 => have := notw_le h2 h3 g2; omega
    | ok g1 g2 => have := notw_le h2 h3 g2; omega
  | @rule k r l e h1 h2 h3 h4 h5 h6 =>
    cases h' with
    | tree g1 => rw [h1] at g1; cases g1
    | twice g1 g2 g3 g4 =>
      have := notw_le g2 g3 h2
      have := (List.getElem?_eq_some_iff.1 g2).1
      omega
    | @rule k' r' l' e' g1 g2 g3 g4 g5 g6 =>
      rcases Nat.lt_trichotomy k k' with hlt | rfl | hgt
      · obtain ⟨m, hm⟩ := g4 k r hlt h3
        exact absurd (ref_same h5 hm).2 h6
      · rw [h3] at g3
        cases g3
        exact ⟨rfl, (ref_same h5 g5).2⟩
      · obtain ⟨m, hm⟩ := h4 k' r' hgt g3
        exact absurd (ref_same hm g5).2.symm g6
    | ok g1 g2 g3 =>
      obtain ⟨m, hm⟩ := g3 r (List.mem_of_getElem? h3)
      exact absurd (ref_same h5 hm).2 h6
  | ok h1 h2 h3 =>
    cases h' with
    | tree g1 => rw [h1] at g1; cases g1
    | twice g1 g2 g3 g4 =>
      have := notw_le g2 g3 h2
      have := (List.getElem?_eq_some_iff.1 g2).1
      omega
    | rule g1 g2 g3 g4 g5 g6 =>
      obtain ⟨m, hm⟩ := h3 _ (List.mem_of_getElem? g3)
      exact absurd (ref_same hm g5).2.symm g6
    | ok => exact ⟨rfl, rfl⟩
end Go.Proofs.YtbpdfmpfnbdeoaaGreatDoor
namespace Go.Proofs.YtbpdfmpfnbdeoaaGreatDoor
open Go.RowKit

set_option maxRecDepth 100000 in
set_option maxHeartbeats 16000000 in
theorem rcheck_c (p : Pg) (cs : List Value) (w : World) (hp : PgC w w.heap.size p cs) (hf : FewP p) :
    Calls Tryz.prog 10 #[.agg cs.toArray] w fun e w' => ∃ ln k, e = .returned (.tuple #[.int .i64 ln, .int .i64 k]) ∧ RefCh p ln k ∧ Below w.heap.size w w' := by
  obtain ⟨p1, q1, r1, s1, rfl, H1, H2⟩ := hp.look
  obtain ⟨o1, k1, e1, hc1, hm1, S1⟩ := SlOf.open H1
  cases e1
  obtain ⟨o2, k2, e2, hc2, hm2, S2⟩ := SlOf.open H2
  cases e2
  have hb0 : ∀ C : Obj, Below w.heap.size w (w.alloc C) := fun C => (Below.refl _ _).alloc (Nat.le_refl _) _
  have HB0 := Lib.hid hb0
  have HD := Lib.hid H1
  have HF := Lib.hid hf
  have HRI := Lib.hid (fun C : Obj => rright_c p (w.alloc C) _ ((hp.below (hb0 C)).more (hb0 C).size))
  clear H1 H2 hp hb0 hf
  go_enter Tryz.func10, Tryz.ntmps10
  go_wp2_with fail
  refine (HRI.out _).mono ?_
  rintro e1 w1 ⟨rfl, b1⟩
  have R1 := Lib.hid ((b1.block w.heap.size (by simp)).trans (World.alloc_heap_new w _))
  have B1 := Lib.hid ((HB0.out _).trans (b1.mono (by simp)))
  clear b1 HRI
  cases hr : rightP p with
  | false =>
    have Ha := Lib.hid (RefCh.tree hr)
    clear hr
    go_wp2
    go_ret2
    exact ⟨_, _, rfl, Ha.out, B1.out⟩
  | true =>
  have HR := Lib.hid hr
  clear hr
  go_wp2
  go_loopw [5] (fun i wr => ∃ k : Nat, k ≤ p.decls.length ∧ i = .int .i64 k ∧ NoTw p.decls k ∧ Below w1.heap.size w1 wr) (fun i _ => p.decls.length - (intOf i).toNat)
  case atStart => exact ⟨0, Nat.zero_le _, rfl, fun i d h => absurd h (Nat.not_lt_zero _), Below.refl _ _⟩
  case round =>
    obtain ⟨k, hk, rfl, hn, hB2⟩ := hrel
    have HBw := Lib.hid (B1.out.trans (hB2.mono B1.out.size))
    have qr := (hB2.block w.heap.size (heap_lt R1.out)).trans R1.out
    have hz0 : w.heap.size < wr.heap.size := heap_lt qr
    have Hn := Lib.hid hn
    have HB2 := Lib.hid hB2
    have x0 : wr.cell? ⟨w.heap.size, 0, none⟩ = some (.slice p1 p.decls.length q1) := row_cells qr 0
    have x1 : wr.cell? ⟨w.heap.size, 1, none⟩ = some (.slice r1 p.rules.length s1) := row_cells qr 1
    have QR := Lib.hid qr
    clear hn hB2 qr
    by_cases hlt : k < p.decls.length
    · have hlt' : (k : Int) < (p.decls.length : Int) := by omega
      have hk0 : (0 : Int) ≤ (k : Int) := by omega
      obtain ⟨xe, ht⟩ : ∃ xe, p.decls[k]? = some xe := ⟨p.decls[k], List.getElem?_eq_getElem hlt⟩
      obtain ⟨j, hj, hjk⟩ := find_le ht
      obtain ⟨ad, a3, b3, a4, b4, rfl, ha, Hc, c0, c1, c2, c3, c4, c5⟩ := de_at S1 HBw.out ht
      have hal : (ad.add (k * 6)).block < wr.heap.size := by rw [addBlock]; omega
      have Ht := Lib.hid ht
      have Hj := Lib.hid hj
      have HFd := Lib.hid (fun (W : World) (hb : Below wr.heap.size wr W) => find5_c xe.rel p.decls _ W (SlOf.decl HD.out (HBw.out.trans (hb.mono HBw.out.size)) (Nat.le_trans HBw.out.size hb.size)))
      rw [Hj.out, findV_some] at HFd
      have hS0 : wr.drew.cell? ⟨w.heap.size, 0, none⟩ = some (.slice (some ad) p.decls.length q1) ∧ wr.drew.cell? (ad.add (k * 6)) = some (.string xe.rel) ∧ wr.drew.cell? ⟨(ad.add (k * 6)).block, (ad.add (k * 6)).off + 5, none⟩ = some (.int .i64 xe.line) ∧ Below wr.heap.size wr.drew wr.drew := ⟨x0, c0, c5, Below.refl _ _⟩
      have HKp : Hid (∀ W : World, Below wr.heap.size wr.drew W → W.cell? ⟨w.heap.size, 0, none⟩ = some (.slice (some ad) p.decls.length q1) ∧ W.cell? (ad.add (k * 6)) = some (.string xe.rel) ∧ W.cell? ⟨(ad.add (k * 6)).block, (ad.add (k * 6)).off + 5, none⟩ = some (.int .i64 xe.line) ∧ Below wr.heap.size wr.drew W) := Lib.hid fun W hW =>
        have q : ∀ p : Addr, p.block < wr.heap.size → W.cell? p = wr.drew.cell? p := fun p h1 => World.cell?_of_block (hW.block _ h1)
        ⟨(q _ hz0).trans x0, (q _ hal).trans c0, (q ⟨(ad.add (k * 6)).block, (ad.add (k * 6)).off + 5, none⟩ hal).trans c5, hW⟩
      clear ht hj
      go_wp2_with fail
      go_region_held3 (fun W => W.cell? ⟨w.heap.size, 0, none⟩ = some (.slice (some ad) p.decls.length q1) ∧ W.cell? (ad.add (k * 6)) = some (.string xe.rel) ∧ W.cell? ⟨(ad.add (k * 6)).block, (ad.add (k * 6)).off + 5, none⟩ = some (.int .i64 xe.line) ∧ Below wr.heap.size wr.drew W) (first | exact hk1 | exact hS0)
        ((go_at_call 34; refine (HFd.out _ (Below.refl _ _).drew).mono ?_; rintro e3 w3 ⟨rfl, b3'⟩; have hk1 := HKp.out _ b3'))
      obtain ⟨y0, _, y5, b3'⟩ := hk1
      have HB3 := Lib.hid (HB2.out.trans ((drewB b3').mono HB2.out.size))
      have hz3 : w.heap.size < w3.heap.size := by have := b3'.size; simp at this; omega
      have hal3 : (ad.add (k * 6)).block < w3.heap.size := by have := b3'.size; simp at this; omega
      clear b3' x0 x1 c0 c1 c2 c3 c4 c5
      by_cases hjlt : j < k
      · have hne : ((j : Int) != (k : Int)) = true := by simp; omega
        have Hf : Hid (findY xe.rel p.decls ≠ some k) := Lib.hid (by rw [Hj.out]; intro h; have := Option.some.inj h; omega)
        go_wp2
        go_ret2
        exact ⟨_, _, rfl, .twice HR.out Ht.out Hf.out Hn.out, B1.out.trans (HB3.out.mono B1.out.size)⟩
      · obtain rfl : j = k := by omega
        have hne : ((j : Int) != (j : Int)) = false := by simp
        have Hn2 : Hid (NoTw p.decls (j + 1)) := Lib.hid fun i d hi hd => by
          rcases Nat.lt_or_ge i j with h | h
          · exact Hn.out i d h hd
          · obtain rfl : i = j := by omega
            rw [Ht.out] at hd
            cases hd
            exact Hj.out
        go_wp2
        go_roundw
        case rel => exact ⟨j + 1, hlt, by go_num, Hn2.out, HB3.out⟩
        case measure => simp [intOf]; omega
    · have hlt' : ¬ (k : Int) < (p.decls.length : Int) := by omega
      obtain rfl : k = p.decls.length := by omega
      go_wp2_with fail
      go_loopw [8] (fun i wv => ∃ k : Nat, k ≤ p.rules.length ∧ i = .int .i64 k ∧ (∀ (j : Nat) (r' : Ru), j < k → p.rules[j]? = some r' → ∃ l, RefT p.decls r' l 0) ∧ Below w1.heap.size w1 wv) (fun i _ => p.rules.length - (intOf i).toNat)
      case atStart => exact ⟨0, Nat.zero_le _, rfl, fun j r' h => absurd h (Nat.not_lt_zero _), HB2.out⟩
      case round =>
        obtain ⟨k, hk2, rfl, hg, hC2⟩ := hrel
        have HCw := Lib.hid (B1.out.trans (hC2.mono B1.out.size))
        have qr := (hC2.block w.heap.size (heap_lt R1.out)).trans R1.out
        have hz0 : w.heap.size < wr.heap.size := heap_lt qr
        have x0 : wr.cell? ⟨w.heap.size, 0, none⟩ = some (.slice p1 p.decls.length q1) := row_cells qr 0
        have x1 : wr.cell? ⟨w.heap.size, 1, none⟩ = some (.slice r1 p.rules.length s1) := row_cells qr 1
        have Hg := Lib.hid hg
        have HC2 := Lib.hid hC2
        clear hg hC2 qr
        by_cases hlt2 : k < p.rules.length
        · have hlt2' : (k : Int) < (p.rules.length : Int) := by omega
          have hk0 : (0 : Int) ≤ (k : Int) := by omega
          obtain ⟨xe, ht⟩ : ∃ xe, p.rules[k]? = some xe := ⟨p.rules[k], List.getElem?_eq_getElem hlt2⟩
          obtain ⟨ad, a3, b3, a4, b4, rfl, ha, Hc, c0, c1, c2, c3⟩ := ru_at S2 HCw.out ht
          have hal : (ad.add (k * 4)).block < wr.heap.size := by rw [addBlock]; omega
          have Ht := Lib.hid ht
          have Hm := Lib.hid (List.mem_of_getElem? ht)
          have HT := Lib.hid (fun (W : World) (hb : Below wr.heap.size wr W) => rtypes_c p.decls _ xe _ W (SlOf.decl HD.out (HCw.out.trans (hb.mono HCw.out.size)) (Nat.le_trans HCw.out.size hb.size)) ((Hc.out.below hb).more hb.size) (HF.out xe Hm.out).1)
          have hS0 : wr.drew.cell? ⟨w.heap.size, 0, none⟩ = some (.slice p1 p.decls.length q1) ∧ wr.drew.cell? ⟨w.heap.size, 1, none⟩ = some (.slice (some ad) p.rules.length s1) ∧ wr.drew.cell? (ad.add (k * 4)) = some (.string xe.head.rel) ∧ wr.drew.cell? ⟨(ad.add (k * 4)).block, (ad.add (k * 4)).off + 1, none⟩ = some (.slice a3 xe.head.l.length b3) ∧ wr.drew.cell? ⟨(ad.add (k * 4)).block, (ad.add (k * 4)).off + 2, none⟩ = some (.slice a4 xe.body.length b4) ∧ wr.drew.cell? ⟨(ad.add (k * 4)).block, (ad.add (k * 4)).off + 3, none⟩ = some (.int .i64 xe.line) ∧ Below wr.heap.size wr.drew wr.drew := ⟨x0, x1, c0, c1, c2, c3, Below.refl _ _⟩
          have HKp : Hid (∀ W : World, Below wr.heap.size wr.drew W → W.cell? ⟨w.heap.size, 0, none⟩ = some (.slice p1 p.decls.length q1) ∧ W.cell? ⟨w.heap.size, 1, none⟩ = some (.slice (some ad) p.rules.length s1) ∧ W.cell? (ad.add (k * 4)) = some (.string xe.head.rel) ∧ W.cell? ⟨(ad.add (k * 4)).block, (ad.add (k * 4)).off + 1, none⟩ = some (.slice a3 xe.head.l.length b3) ∧ W.cell? ⟨(ad.add (k * 4)).block, (ad.add (k * 4)).off + 2, none⟩ = some (.slice a4 xe.body.length b4) ∧ W.cell? ⟨(ad.add (k * 4)).block, (ad.add (k * 4)).off + 3, none⟩ = some (.int .i64 xe.line) ∧ Below wr.heap.size wr.drew W) := Lib.hid fun W hW =>
            have q : ∀ p : Addr, p.block < wr.heap.size → W.cell? p = wr.drew.cell? p := fun p h1 => World.cell?_of_block (hW.block _ h1)
            ⟨(q _ hz0).trans x0, (q _ hz0).trans x1, (q _ hal).trans c0, (q ⟨(ad.add (k * 4)).block, (ad.add (k * 4)).off + 1, none⟩ hal).trans c1, (q ⟨(ad.add (k * 4)).block, (ad.add (k * 4)).off + 2, none⟩ hal).trans c2, (q ⟨(ad.add (k * 4)).block, (ad.add (k * 4)).off + 3, none⟩ hal).trans c3, hW⟩
          clear ht
          go_wp2_with fail
          go_region_held3 (fun W => W.cell? ⟨w.heap.size, 0, none⟩ = some (.slice p1 p.decls.length q1) ∧ W.cell? ⟨w.heap.size, 1, none⟩ = some (.slice (some ad) p.rules.length s1) ∧ W.cell? (ad.add (k * 4)) = some (.string xe.head.rel) ∧ W.cell? ⟨(ad.add (k * 4)).block, (ad.add (k * 4)).off + 1, none⟩ = some (.slice a3 xe.head.l.length b3) ∧ W.cell? ⟨(ad.add (k * 4)).block, (ad.add (k * 4)).off + 2, none⟩ = some (.slice a4 xe.body.length b4) ∧ W.cell? ⟨(ad.add (k * 4)).block, (ad.add (k * 4)).off + 3, none⟩ = some (.int .i64 xe.line) ∧ Below wr.heap.size wr.drew W) (first | exact hk1 | exact hS0)
            ((go_at_call 35; refine (HT.out _ (Below.refl _ _).drew).mono ?_; rintro e3 w3 ⟨v3, l3, n3, rfl, hA3, hS3, b3'⟩; have hk1 := HKp.out _ b3'))
          obtain ⟨y0, y1, _, _, _, y3, b3'⟩ := hk1
          have HB3 := Lib.hid (HC2.out.trans ((drewB b3').mono HC2.out.size))
          have hz3 : w.heap.size < w3.heap.size := by have := b3'.size; simp at this; omega
          have hal3 : (ad.add (k * 4)).block < w3.heap.size := by have := b3'.size; simp at this; omega
          have HA := Lib.hid hA3
          clear b3' x0 x1 c0 c1 c2 c3 hA3 hS3
          by_cases hn0 : n3 = 0
          · subst hn0
            have Hg2 : Hid (∀ (j : Nat) (r' : Ru), j < k + 1 → p.rules[j]? = some r' → ∃ l, RefT p.decls r' l 0) := Lib.hid fun j r' hj hr' => by
              rcases Nat.lt_or_ge j k with h | h
              · exact Hg.out j r' h hr'
              · obtain rfl : j = k := by omega
                rw [Ht.out] at hr'
                cases hr'
                exact ⟨l3, HA.out⟩
            go_wp2
            go_roundw
            case rel => exact ⟨k + 1, hlt2, by go_num, Hg2.out, HB3.out⟩
            case measure => simp [intOf]; omega
          · have hne : (n3 != 0) = true := by simpa using hn0
            have Hn0 := Lib.hid hn0
            clear hn0
            go_wp2
            go_ret2
            exact ⟨_, _, rfl, .rule HR.out Hn.out Ht.out Hg.out HA.out Hn0.out, B1.out.trans (HB3.out.mono B1.out.size)⟩
        · have hlt2' : ¬ (k : Int) < (p.rules.length : Int) := by omega
          have Hall : Hid (∀ r ∈ p.rules, ∃ l, RefT p.decls r l 0) := Lib.hid fun r hr => by
            obtain ⟨j, hj, e⟩ := List.getElem_of_mem hr
            exact Hg.out j r (by omega) (by rw [List.getElem?_eq_getElem hj, e])
          go_wp2
          go_ret2
          exact ⟨_, _, rfl, .ok HR.out Hn.out Hall.out, HCw.out⟩
theorem few_small' {p : Pg} (h : smallP p = true) : FewP p := fun r hr => ⟨Nat.le_trans (small_terms h r hr).1 (by decide), fun t ht => Nat.le_trans ((small_terms h r hr).2 t ht) (by decide)⟩
set_option maxRecDepth 100000 in
set_option maxHeartbeats 8000000 in
theorem dtypeChecks_c (p : Pg) (e a b c d : Addr) (w : World) (cs : List Value) (hp : PgC w w.heap.size p cs) (E : EnvY e a b c d w) :
    Calls Tryz.prog 3 #[.agg cs.toArray] w fun e w' => e = .returned (.bool true) ∧ Below w.heap.size w w' := by
  have HP := Lib.hid hp
  have HE := Lib.hid E
  have hb0 : ∀ C : Obj, Below w.heap.size w (w.alloc C) := fun C => (Below.refl _ _).alloc (Nat.le_refl _) _
  have HB0 := Lib.hid hb0
  have HH := Lib.hid (fun (W : World) (hb : Below w.heap.size w W) => shown5_c e a b c d W (E.below hb))
  have HS := Lib.hid (fun (W : World) (hb : Below w.heap.size w W) => small_c p W cs ((hp.below hb).more hb.size))
  obtain ⟨p1, q1, r1, s1, rfl, _, _⟩ := hp.look
  clear hp E hb0
  go_enter Tryz.func3, Tryz.ntmps3
  go_wp2_with fail
  refine (HH.out _ (HB0.out _)).mono ?_
  rintro e1 w1 ⟨rfl, b1⟩
  have R1 := Lib.hid ((b1.block w.heap.size (by simp)).trans (World.alloc_heap_new w _))
  have B1 := Lib.hid ((HB0.out _).trans (b1.mono (by simp)))
  have x0 := row_cells R1.out 0
  have x1 := row_cells R1.out 1
  simp at x0 x1
  have hz1 : w.heap.size < w1.heap.size := heap_lt R1.out
  clear b1
  go_wp2_with fail
  refine (HS.out _ B1.out).mono ?_
  rintro e2 w2 ⟨rfl, b2⟩
  have R2 := Lib.hid ((b2.block w.heap.size hz1).trans R1.out)
  have B2 := Lib.hid (B1.out.trans (b2.mono B1.out.size))
  have y0 := row_cells R2.out 0
  have y1 := row_cells R2.out 1
  simp at y0 y1
  have hz2 : w.heap.size < w2.heap.size := heap_lt R2.out
  clear b2 x0 x1
  unfold smallI
  cases hs : smallP p with
  | false =>
    clear hs
    go_wp2
    go_ret
    exact ⟨rfl, B2.out⟩
  | true =>
  have HF := Lib.hid (few_small' hs)
  clear hs
  have HC1 := Lib.hid (check_c p _ e a b c d w2 ((HP.out.below B2.out).more B2.out.size) HF.out (HE.out.below B2.out))
  have HC2 := Lib.hid (fun (W : World) (hb : Below w.heap.size w W) => rcheck_c p _ W ((HP.out.below hb).more hb.size) HF.out)
  go_wp2_with fail
  refine HC1.out.mono ?_
  rintro e3 w3 ⟨ln3, k3, rfl, hA3, b3⟩
  have R3 := Lib.hid ((b3.block w.heap.size hz2).trans R2.out)
  have B3 := Lib.hid (B2.out.trans (b3.mono B2.out.size))
  have HA3 := Lib.hid hA3
  have z0 := row_cells R3.out 0
  have z1 := row_cells R3.out 1
  simp at z0 z1
  have hz3 : w.heap.size < w3.heap.size := heap_lt R3.out
  clear b3 y0 y1 hA3 HC1
  have HCC := Lib.hid (HC2.out w3 B3.out)
  go_wp2_with fail
  refine HCC.out.mono ?_
  rintro e4 w4 ⟨ln4, k4, rfl, hA4, b4⟩
  obtain ⟨rfl, rfl⟩ := refch_same HA3.out hA4
  have B4 := Lib.hid (B3.out.trans (b4.mono B3.out.size))
  have e1' : (ln3 == ln3) = true := by simp
  have e2' : (k3 == k3) = true := by simp
  clear b4 z0 z1 hA4 HCC
  go_wp2
  go_ret
  exact ⟨rfl, B4.out⟩
end Go.Proofs.YtbpdfmpfnbdeoaaGreatDoor
