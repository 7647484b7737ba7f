/- dsafe.steps: the walk. dsafe: what parts hold lies below a bound, in blocks that hold a string. dsafe.steps; what stands in walkThrough while parts come. dsafe.walkThrough: the states of the range over the parts. -/
import Derived.Test.YtfcfehflocglpaaDoorKZdl
import Derived.Test.YtfcfehflocglpaaDoorKYsh
import Derived.Test.YtfcfehflocglpaaDoorKZw2
namespace Go.Proofs.YtfcfehflocglpaaDoor
open Go.RowKit

attribute [local go_sem] Oper.semAt_some

set_option maxRecDepth 1000000 in
theorem idx_f (W : World) : (Instr.index 150 (.agg #[.bool false, .bool true]) (.int .i64 0)).run Tryd.prog W = .ok (.bool false) W := by
  have u := Tryd.underlying150
  have z := Tryd.sizeOf4
  have a := Tryd.isAgg4
  simp [Instr.index, run_underlying u, z, a, go_sem]
set_option maxRecDepth 1000000 in
theorem idx_t (W : World) : (Instr.index 150 (.agg #[.bool false, .bool true]) (.int .i64 1)).run Tryd.prog W = .ok (.bool true) W := by
  have u := Tryd.underlying150
  have z := Tryd.sizeOf4
  have a := Tryd.isAgg4
  simp [Instr.index, run_underlying u, z, a, go_sem]
theorem add_add (a : Addr) (i j : Nat) : (a.add i).add j = a.add (i + j) := by
  unfold Addr.add
  by_cases hi : i = 0
  · subst hi; simp
  · by_cases hj : j = 0
    · subst hj; simp
    · rw [if_neg hi, if_neg hj, if_neg (by omega)]
      simp [Nat.add_assoc]
set_option linter.unusedSimpArgs false in
set_option maxRecDepth 100000 in
set_option maxHeartbeats 16000000 in
theorem steps_moves (n : Nat) (hn : 1 ≤ n) (S Bp Bb M : Nat) (v0 : Value) (l0 : List Pt) (B0 : Bd) (hf : FewP' l0) :
    Moves2 Fence.wide n Tryd.prog 101 (fun l => #[] ++ #[.func (.yield l) #[] #[]] ++ #[.pointer (some ⟨Bp, 0, none⟩), .pointer (some ⟨Bb, 0, none⟩)]) (fun x : SX => #[.agg x.cs.toArray]) (SG S Bp Bb M v0 l0) (ST S Bp Bb M v0 l0) (SE M) (sx0 l0 v0 B0) := by
  intro lp A B X Z W hY hB h0
  have HY := Lib.hid hY
  have HB := Lib.hid hB
  have HF := Lib.hid hf
  obtain ⟨hg0, _, _⟩ := hB _ W h0
  have c0 : W.cell? ⟨Bp, 0, none⟩ = some v0 := row_cells hg0.bx.p 0
  have l0' := heap_lt hg0.bx.p
  have HCl := Lib.hid (callsIn_wide (n := n - 1).2 (clone_left hg0.left (by have := hf.n; show l0.length ≤ _; omega)))
  have H0 := Lib.hid h0
  have hsh : ∃ o k c, v0 = .slice o k c := by obtain ⟨_, xs, h1, _⟩ := hg0.left; obtain ⟨o, c, e⟩ := own_shape h1; exact ⟨o, _, c, e⟩
  obtain ⟨ov, kv, cv, rfl⟩ := hsh
  have HG0 := Lib.hid hg0
  clear hY hB h0 hg0 hf
  simp only [List.append_toArray, List.cons_append, List.nil_append, List.append_nil]
  refine callsIn_of_wp Tryd.func101 rfl trivial ?_ rfl
  simp only [Tryd.ntmps101, List.size_toArray, List.length_cons, List.length_nil, Nat.reduceAdd, Nat.reduceSub, Array.replicate_succ, Array.replicate_zero, List.push_toArray, List.append_toArray, List.nil_append, List.cons_append]
  gi_wp2_with fail
  refine scopeW ?_
  gi_wp2_with fail
  refine ⟨trivial, HCl.out.mono ?_⟩
  rintro e1 w1 ⟨u, rfl, hL1, b1, hu⟩
  have HS1 : Hid (SH S Bp Bb M (.slice ov kv cv) l0 (sx0 l0 (.slice ov kv cv) B0) W u w1) := Lib.hid ⟨HG0.out.bx.below b1, HG0.out.m.below b1, hL1, fun p hp => hp, HG0.out.few, (Fr.refl _ _ _).below b1, fun g hg => .inr (hu g hg)⟩
  clear b1 hL1 hu HCl
  gi_wp2_with fail
  refine wpIn_label ?_
  gi_wp2_with fail
  gi_loopw [4, 5] (fun lv dv wr => ∃ (x : SX) (W1 : World), B x W1 ∧ SH S Bp Bb M (.slice ov kv cv) l0 x W1 lv wr ∧ dv = .int .i64 (x.nxt.done + 1 : Nat)) (fun lv _ _ => lenV lv)
  case atStart => exact ⟨_, W, H0.out, HS1.out, rfl⟩
  case round =>
    obtain ⟨x, W1, hBx, hS, rfl⟩ := hrel
    have HBx := Lib.hid hBx
    have HS := Lib.hid hS
    obtain ⟨_, xs, hown, hlaid⟩ := hS.left
    obtain ⟨ol, cl, rfl⟩ := own_shape hown
    obtain ⟨Z, hZ⟩ : ∃ Z, x.nxt = Z := ⟨_, rfl⟩
    obtain ⟨wo, hwo⟩ : ∃ wo, wo = wr := ⟨_, rfl⟩
    subst hwo
    rw [hZ] at HS
    obtain ⟨dn, hdn⟩ : ∃ dn : Int, ((x.nxt.done + 1 : Nat) : Int) = dn := ⟨_, rfl⟩
    rw [hdn]
    try rw [hZ]
    have HDn := Lib.hid hdn
    have HZe := Lib.hid hZ
    clear hBx hS hown hlaid hdn hZ
    gi_wp2_with fail
    gi_loopw [4, 15] (fun lv kv wq => ∃ j : Nat, j ≤ 2 ∧ lv = .slice ol Z.left.length cl ∧ kv = .int .i64 j ∧ (1 ≤ j → pickZ Z.B false Z.left = none) ∧ (2 ≤ j → pickZ Z.B true Z.left = none) ∧ Below wo.heap.size wo wq) (fun _ kv _ => 2 - (intOf kv).toNat)
    case atStart => exact ⟨0, by omega, rfl, rfl, fun h => by omega, fun h => by omega, Below.refl _ _⟩
    case round =>
      obtain ⟨wq, hwq⟩ : ∃ wq, wq = wr := ⟨_, rfl⟩
      subst hwq
      obtain ⟨j, hj, rfl, rfl, hp0, hp1, hBq⟩ := hrel
      have HBq := Lib.hid hBq
      by_cases h2 : j = 2
      · subst h2
        have a1 := next_none (hp0 (by omega)) (hp1 (by omega))
        have a2 := HS.out.below hBq
        have hSE : SE M x W1 wq := ⟨(by rw [HZe.out]; exact a1), a2.m, a2.fr⟩
        have HZ := Lib.hid ((HB.out x W1 HBx.out).2.2 _ hSE)
        clear hSE hBq a1 a2
        gi_wp2_with fail
        rw [Exit.noGoto_ret]
        refine bodyPost_ret (results_none rfl _ _ _) rfl ?_
        exact ⟨⟨_, rfl⟩, .inr HZ.out⟩
      · obtain ⟨b, hjb⟩ : ∃ b : Bool, j = (if b = true then 1 else 0) := ⟨j == 1, by rcases (show j = 0 ∨ j = 1 by omega) with rfl | rfl <;> rfl⟩
        have hx : ∀ W, (Instr.index 150 (.agg #[.bool false, .bool true]) (.int .i64 (j : Int))).run Tryd.prog W = .ok (.bool b) W := fun W => by
          subst hjb
          cases b
          · exact idx_f W
          · exact idx_t W
        have HP0 : Hid (b = true → pickZ Z.B false Z.left = none) := Lib.hid (fun h => hp0 (by rw [hjb, if_pos h]; exact Nat.le_refl _))
        have HPn : Hid (pickZ Z.B b Z.left = none → (1 ≤ j + 1 → pickZ Z.B false Z.left = none) ∧ (2 ≤ j + 1 → pickZ Z.B true Z.left = none)) := Lib.hid (fun h => by
          cases b with
          | false => exact ⟨fun _ => h, fun h2 => by rw [hjb] at h2; simp at h2⟩
          | true => exact ⟨fun _ => hp0 (by rw [hjb]; decide), fun _ => h⟩)
        have hj2 : (j : Int) < 2 := by omega
        have wj : IntKind.i64.wrap ((j : Int) + 1) = (j : Int) + 1 := by rw [IntKind.wrap_i64]; omega
        have hj1 : j ≤ 1 := by omega
        clear hp0 hp1 hBq hjb h2 hj
        gi_wp2_with fail
        gi_loopw [4, 20] (fun lv iv wp' => ∃ m : Nat, m ≤ Z.left.length ∧ lv = .slice ol Z.left.length cl ∧ iv = .int .i64 m ∧ (∀ (j : Nat) (p : Pt), j < m → Z.left[j]? = some p → candZ Z.B b p = false) ∧ Below wo.heap.size wo wp') (fun _ iv _ => Z.left.length - (intOf iv).toNat)
        case atStart => exact ⟨0, Nat.zero_le _, rfl, rfl, fun j p h => absurd h (Nat.not_lt_zero _), HBq.out⟩
        case round =>
          obtain ⟨wp', hwp⟩ : ∃ wp', wp' = wr := ⟨_, rfl⟩
          subst hwp
          obtain ⟨m, hm, rfl, rfl, hno, hBp⟩ := hrel
          have Hno := Lib.hid hno
          have HSp := Lib.hid (HS.out.below hBp)
          have HBp := Lib.hid hBp
          clear hno hBp
          have hZl : Z.left.length ≤ 2000 := by
            have h1 := HSp.out.few
            rw [HZe.out] at h1
            have h2 := HF.out.n
            omega
          by_cases hlt : m < Z.left.length
          · have hlt' : (m : Int) < (Z.left.length : Int) := by omega
            have hm0 : (0 : Int) ≤ (m : Int) := by omega
            have wm : IntKind.i64.wrap ((m : Int) + 1) = (m : Int) + 1 := by rw [IntKind.wrap_i64]; omega
            obtain ⟨p, hp⟩ : ∃ p, Z.left[m]? = some p := ⟨Z.left[m], List.getElem?_eq_getElem hlt⟩
            obtain ⟨a, cap, cs, hv, ha, hpt, hcells⟩ := left_at (show LeftOk S wp' (.slice ol Z.left.length cl) Z.left from by have := HSp.out.left; rw [HZe.out] at this; exact this) hp
            cases hv
            obtain ⟨o0, k0, o1, k1, o2, k2, o3, k3, o4, k4, o5, k5, o6, k6, o7, k7, e17, _⟩ := hpt.look
            have Hpt := Lib.hid hpt
            have Hp := Lib.hid hp
            have E17 := Lib.hid e17
            have HL17 : Hid (∀ (j : Nat) (c : Value), ([.int .i64 (p.place : Int), .int .i64 p.lit.op, .string p.lit.a.rel, .slice o0 p.lit.a.l.length k0, .int .i64 p.lit.x.op, .string p.lit.x.s, .int .i64 p.lit.x.n, .slice o1 p.lit.x.l.length k1, .int .i64 p.lit.y.op, .string p.lit.y.s, .int .i64 p.lit.y.n, .slice o2 p.lit.y.l.length k2, .slice o3 p.x.length k3, .slice o4 p.y.length k4, .slice o5 p.a.length k5, .slice o6 p.rk.length k6, .slice o7 p.ou.length k7] : List Value)[j]? = some c → wp'.cell? ((a.add (m * 17)).add j) = some c) := Lib.hid fun j c hj => by rw [add_add]; exact hcells j c (by rw [e17]; exact hj)
            obtain ⟨WA, hWA⟩ : ∃ W, wp'.alloc (.cells #[.int .i64 (p.place : Int), .int .i64 p.lit.op, .string p.lit.a.rel, .slice o0 p.lit.a.l.length k0, .int .i64 p.lit.x.op, .string p.lit.x.s, .int .i64 p.lit.x.n, .slice o1 p.lit.x.l.length k1, .int .i64 p.lit.y.op, .string p.lit.y.s, .int .i64 p.lit.y.n, .slice o2 p.lit.y.l.length k2, .slice o3 p.x.length k3, .slice o4 p.y.length k4, .slice o5 p.a.length k5, .slice o6 p.rk.length k6, .slice o7 p.ou.length k7] 122) = W := ⟨_, rfl⟩
            have HR : Hid (WA.heap[wp'.heap.size]? = some (.cells cs.toArray 122 (0, 0))) := Lib.hid (by rw [← hWA, e17]; exact World.alloc_heap_new wp' _)
            have hbA : Below wp'.heap.size wp' WA := by rw [← hWA]; exact (Below.refl _ _).alloc (Nat.le_refl _) _
            have HSA := Lib.hid (HSp.out.below hbA)
            have HBA := Lib.hid (HBp.out.trans (hbA.mono HBp.out.size))
            have HptA := Lib.hid (hpt.cells (fun q c hc => (World.cell?_of_block (hbA.block _ (World.block_lt_of_cell? _ _ hc))).trans hc) (Nat.le_refl _))
            have hWA' := Lib.hid hWA
            clear hp hpt hcells hbA hWA e17
            have hcb := HSp.out.bx.b
            have cb : wp'.cell? ⟨Bb, 0, none⟩ = some (.map (some M)) := row_cells hcb 0
            have lb := heap_lt hcb
            have hcase : (p.lit.op == 1) = b ∨ (p.lit.op == 1) = !b := by cases (p.lit.op == 1) <;> cases b <;> simp
            rcases hcase with hop | hop
            · obtain ⟨nm, cm, hnm, hmap⟩ := HSA.out.m
              rw [HZe.out] at hmap hnm
              have HMA := Lib.hid hmap
              have HNm := Lib.hid hnm
              have HRd := Lib.hid (isReady_c p cs M nm cm Z.B WA (HptA.out.cells (fun _ _ h => h) HSA.out.left.1) hmap)
              clear hmap hnm hcb
              gi_wp2_with (refine wpListIn_load17 (by simp [Region.wanted]) (.tmp 23) rfl (a.add (m * 17)) (by simp [Act.eval, Act.put]) rfl HL17.out ?_)
              have e17a : (#[.int .i64 (p.place : Int), .int .i64 p.lit.op, .string p.lit.a.rel, .slice o0 p.lit.a.l.length k0, .int .i64 p.lit.x.op, .string p.lit.x.s, .int .i64 p.lit.x.n, .slice o1 p.lit.x.l.length k1, .int .i64 p.lit.y.op, .string p.lit.y.s, .int .i64 p.lit.y.n, .slice o2 p.lit.y.l.length k2, .slice o3 p.x.length k3, .slice o4 p.y.length k4, .slice o5 p.a.length k5, .slice o6 p.rk.length k6, .slice o7 p.ou.length k7] : Array Value) = cs.toArray := by rw [E17.out]
              rw [hWA'.out, e17a]
              obtain ⟨bx, hbx⟩ : ∃ k, wp'.heap.size = k := ⟨_, rfl⟩
              have HRx : Hid (WA.heap[bx]? = some (.cells cs.toArray 122 (0, 0))) := Lib.hid (by rw [← hbx]; exact HR.out)
              rw [hbx]
              clear hWA' e17a cb lb HL17 HR hbx
              refine ⟨trivial, (callsIn_wide.2 HRd.out).mono ?_⟩
              rintro e10 w10 ⟨rfl, b10⟩
              have HS10 := Lib.hid (HSA.out.below b10)
              have HB10 := Lib.hid (HBA.out.trans (b10.mono HBA.out.size))
              have HRx10 := Lib.hid ((b10.block _ (heap_lt HRx.out)).trans HRx.out)
              have Hpt10 := Lib.hid (HptA.out.cells (fun q c hc => (World.cell?_of_block (b10.block _ (World.block_lt_of_cell? _ _ hc))).trans hc) (Nat.le_refl _))
              clear b10 HRd
              cases hrd : readyZ Z.B p with
              | false =>
                have HC : Hid (candZ Z.B b p = false) := Lib.hid (by unfold candZ; rw [hrd, Bool.and_false])
                have HBB := HB10.out
                clear hrd
                gi_wp2
                go_roundw
                case rel => exact ⟨m + 1, by omega, rfl, by go_num, fun j q hj hq => by
                  by_cases e : j = m
                  · subst e
                    rw [Hp.out] at hq
                    cases hq
                    exact HC.out
                  · exact Hno.out j q (by omega) hq, HBB⟩
                case measure => simp [intOf]; omega
              | true =>
                have HC : Hid (candZ Z.B b p = true) := Lib.hid (by unfold candZ; rw [hrd, hop, beq_self_eq_true]; rfl)
                have hnx : nextZ x.nxt = some m := by rw [HZe.out]; exact next_b HP0.out (pick_some Hp.out HC.out Hno.out)
                have hT : ST S Bp Bb M (.slice ov kv cv) l0 x W1 ⟨x.nxt, some (m, p), .slice (some a) Z.left.length cl, cs, bx⟩ w10 := HS10.out.found hnx (by rw [HZe.out]; exact Hp.out) HRx10.out Hpt10.out
                have hA := (HB.out x W1 HBx.out).2.1 _ w10 hT
                obtain ⟨fn, tmps, assign, body, hyl, hR⟩ := HY.out _ _ hA
                have HX1 := Lib.hid hA
                have hl17 : cs.length = 17 := Hpt10.out.len
                clear hrd hT hA hnx
                try simp only at hR
                gi_wp2_with (refine wpListIn_load17 (by simp [Region.wanted]) (.tmp 9) rfl ⟨bx, 0, none⟩ (by simp [Act.eval, Act.put]) hl17 (row_at HRx10.out) ?_)
                refine hR.mono ?_
                rintro e W5 (⟨rfl, hB5⟩ | ⟨rfl, hX5⟩)
                · have G5 := Lib.hid (HB.out _ W5 hB5).1
                  have HB5 := Lib.hid hB5
                  obtain ⟨n5, c5, hn5, hmap5⟩ := G5.out.m
                  have hrow5 : W5.heap[bx]? = some (.cells cs.toArray 122 (0, 0)) := (G5.out.box m p rfl).1
                  have hpt5 : PtC W5 S p cs := (G5.out.box m p rfl).2.1
                  obtain ⟨g, cap, xs, hv5, hown5, hlaid5, hone5⟩ := LeftOk.open (show LeftOk S W5 (.slice (some a) Z.left.length cl) Z.left from by have := G5.out.left; simp only [HZe.out] at this; exact this) Hp.out
                  cases hv5
                  have hcb5 := row_cells G5.out.bx.b 0
                  have hlb5 := heap_lt G5.out.bx.b
                  have HMap5 := Lib.hid hmap5
                  have HRow5 := Lib.hid hrow5
                  have HPt5 := Lib.hid hpt5
                  have HOwn5 := Lib.hid hown5
                  have HLaid5 := Lib.hid hlaid5
                  have HOne5 := Lib.hid hone5
                  have hdn1 : x.nxt.done + 1 ≤ 1000000 := by
                    have h1 := G5.out.few
                    have h2 := HF.out.n
                    simp only at h1
                    omega
                  have HNn5 : Hid (n5 + wtZ Z.left ≤ 1000000) := Lib.hid (by have := hn5; simp only [HZe.out] at this; exact this)
                  have hwt : wtP p ≤ wtZ Z.left := by have := wtZ_erase _ _ _ Hp.out; omega
                  have hbw := binds_wt p
                  clear hR hB5 hyl hmap5 hrow5 hpt5 hown5 hlaid5 hone5 hn5
                  gi_wp2_with fail
                  refine wpIn_wide.2 ?_
                  refine wp_region_any (by kernel_rfl) ?_
                  (try (change wpAny _ _ _ _ _ _ _ (World.drew _)))
                  refine wpAny_last 4 [4, 2, 4, 4] slotsQ _ _ (factsQ M (x.nxt.done + 1) cs p) (by kernel_rfl) (by kernel_rfl) (by kernel_rfl) (by kernel_rfl)
                    (fun _ W => ∃ wm c', Below W5.heap.size W5 wm ∧ wm.grownBy W (some M) ∧ MapI Tryd.prog W 9 3 M (n5 + (bindsZ p).length) (addZ dn x.nxt.B (bindsZ p)) c')
                    (by kernel_rfl) (by kernel_rfl) (by kernel_rfl) (factsQ_mono _ _ _ _) ⟨?s0, ?s1, ?s2, ?s3, trivial⟩ ?last ?fin
                  case s0 =>
                    intro A' w' K hb hfar hd hK
                    have e2 : A'.tmps[2]?.getD undef = .pointer (some ⟨Bb, 0, none⟩) := hfar 2 (by decide)
                    have cc : w'.cell? ⟨Bb, 0, none⟩ = some (.map (some M)) := (World.cell?_of_block (hb.block _ hlb5)).trans hcb5
                    unfold Oper.wp
                    simp [execOp, e2, cc, go_sem, Result.andThen]
                    exact hK _ _ (Below.refl _ _) (factG_mk rfl rfl)
                  case s1 =>
                    intro A' w' K hb hfar hd hK
                    have e9 : A'.tmps[9]?.getD undef = .pointer (some ⟨bx, 0, none⟩) := hfar 9 (by decide)
                    exact wp_load17 (.tmp 9) rfl ⟨bx, 0, none⟩ (by simpa [Act.eval] using e9) hl17 (row_at ((hb.block _ (heap_lt HRow5.out)).trans HRow5.out)) (hK _ _ (Below.refl _ _) (factG_mk rfl rfl))
                  case s2 =>
                    intro A' w' K hb hfar hd hK
                    have e42 : A'.tmps[42]?.getD undef = .agg cs.toArray := hd 1 42 rfl (by kernel_rfl) _ rfl
                    have hp' : PtC w' w'.heap.size p cs := HPt5.out.cells (fun q c hc => (World.cell?_of_block (hb.block _ (World.block_lt_of_cell? _ _ hc))).trans hc) (Nat.le_trans G5.out.left.1 hb.size)
                    unfold Oper.wp
                    simp [execOp, e42, go_sem, Result.andThen]
                    refine (binds_c p cs w' hp' (by unfold wtP at hwt; have := HNn5.out; omega)).mono ?_
                    rintro e3 w3 ⟨u, rfl, hu, b3⟩
                    exact hK _ _ b3 (factG_mk rfl hu)
                  case s3 =>
                    intro A' w' K hb hfar hd hK
                    have e5 : A'.tmps[5]?.getD undef = .int .i64 dn := hfar 5 (by decide)
                    unfold Oper.wp
                    simp [execOp, e5, go_sem, Result.andThen]
                    exact hK _ _ (Below.refl _ _) (factG_mk rfl (by rw [HDn.out]))
                  case last =>
                    rintro o ho
                    cases ho
                    intro A' w' val K hb hfar hd hF hK
                    have e41 : A'.tmps[41]?.getD undef = .map (some M) := (hd 0 41 rfl (by kernel_rfl)).1 _ rfl
                    obtain ⟨u43, e43⟩ : ∃ u, A'.tmps[43]?.getD undef = u := ⟨_, rfl⟩
                    have hu : SlOf w' w'.heap.size 1 StrC (bindsZ p) (A'.tmps[43]?.getD undef) := (hd 2 43 rfl (by kernel_rfl)).1 _ rfl
                    rw [e43] at hu
                    have e44 : A'.tmps[44]?.getD undef = .int .i64 ((x.nxt.done + 1 : Nat) : Int) := (hd 3 44 rfl (by kernel_rfl)).1 _ rfl
                    rw [HDn.out] at e44
                    have hb5 : Below W5.heap.size W5 w' := ((Below.refl _ W5).drew).trans hb
                    have hadd := add_c (bindsZ p) u43 (x.nxt.done + 1) (Nat.succ_pos _) hdn1 M n5 c5 x.nxt.B w' (by have := HNn5.out; omega) hu (HMap5.out.below hb5 HMap5.out.lt)
                    rw [HDn.out] at hadd
                    unfold Oper.wp
                    simp [execOp, e41, e43, e44, go_sem, Result.andThen]
                    refine hadd.mono ?_
                    rintro e3 w3 ⟨rfl, ⟨c3, hm3⟩, hg3⟩
                    exact hK _ _ ⟨w', c3, hb5, hg3, hm3⟩
                  case fin =>
                    rintro val W6 ⟨wm, c6, hbm, hgm, hm6⟩
                    have hL6 := (G5.out.left.below hbm).map (HMap5.out.below hbm HMap5.out.lt) hgm
                    have hmp : MapI Tryd.prog wm 9 3 M n5 x.nxt.B c5 := HMap5.out.below hbm HMap5.out.lt
                    have hown6 : W6.ownsRow 0 122 17 (.slice (some ⟨g, 0, none⟩) Z.left.length cl) Z.left.length xs := (own_below HOwn5.out hbm).kept hgm (.inr (fun e => row_map hmp (own_below HOwn5.out hbm) e.symm))
                    have hlaid6 : Laid 17 (PtC (hidO (.slice (some ⟨g, 0, none⟩) Z.left.length cl) W6) S) Z.left xs := HLaid5.out.mono fun q cs hx => hx.cells (fun p c hc => by
                      obtain ⟨k1, k2⟩ := hidO_cell hc
                      exact cell_hidO (mapI_cells hmp hgm ((World.cell?_of_block (hbm.block _ (World.block_lt_of_cell? _ _ k2))).trans k2)) k1) (Nat.le_refl _)
                    have hdel := delete_c 0 g Z.left.length cl m xs W6 hown6 hlt HOne5.out
                    rw [show ((m + 1 : Nat) : Int) = (m : Int) + 1 from by push_cast; rfl] at hdel
                    have HDel := Lib.hid (callsIn_wide (n := n - 1).2 hdel)
                    have HBm := Lib.hid hbm
                    have HGm := Lib.hid hgm
                    have HM6 := Lib.hid hm6
                    have HOwn6 := Lib.hid hown6
                    have HLaid6 := Lib.hid hlaid6
                    have HS6 := Lib.hid hL6.1
                    simp only [slotsQ, putsA, Nat.zero_add, Nat.reduceAdd]
                    generalize val 0 = v41
                    generalize val 1 = v42
                    generalize val 2 = v43
                    generalize val 3 = v44
                    generalize val 4 = v45
                    clear hbm hgm hm6 hL6 hmp hown6 hlaid6 hdel val
                    go_simp
                    gi_wp2_with fail
                    refine ⟨trivial, HDel.out.mono ?_⟩
                    rintro e8 w8 ⟨rfl, ho8, hg8⟩
                    have HSH := Lib.hid (G5.out.again (v' := .slice (some ⟨g, 0, none⟩) (Z.left.length - 1) cl) (n' := n5 + (bindsZ p).length) (c' := c6) rfl (by simp only [HZe.out]; exact Hp.out) HBm.out HGm.out (by have := HM6.out; rw [← HDn.out] at this; exact this)
                      (by simp only [HZe.out]; have h1 := wtZ_erase _ _ _ Hp.out; have h2 := HNn5.out; omega) HS6.out (by simp only [HZe.out]; exact HOwn6.out) (by simp only [HZe.out]; exact HLaid6.out) rfl (by simp only [HZe.out]; exact ho8) hg8)
                    clear ho8 hg8
                    have hwd : IntKind.i64.wrap (dn + 1) = dn + 1 := by rw [IntKind.wrap_i64]; have := HDn.out; omega
                    have Hwd := Lib.hid hwd
                    clear hwd
                    gi_wp2
                    refine ⟨⟨_, W5, HB5.out, HSH.out, ?_⟩, by simp [lenV]; omega⟩
                    have h1 : wrap64 (dn + 1) = dn + 1 := by first | exact Hwd.out | (rw [← IntKind.wrap_i64]; exact Hwd.out) | (have := HDn.out; unfold wrap64; omega)
                    rw [h1, ← HDn.out]
                    rfl
                · have HX := Lib.hid hX5
                  clear hR hX5 hyl
                  gi_wp2
                  rw [Exit.noGoto_ret]
                  refine bodyPost_ret (results_none rfl _ _ _) rfl ?_
                  exact ⟨⟨_, rfl⟩, .inl HX.out⟩
            · have HC : Hid (candZ Z.B b p = false) := Lib.hid (by unfold candZ; rw [hop]; cases b <;> rfl)
              have HBB := HBA.out
              rw [← hWA'.out] at HBB
              gi_wp2_with (refine wpListIn_load17 (by simp [Region.wanted]) (.tmp 23) rfl (a.add (m * 17)) (by simp [Act.eval, Act.put]) rfl HL17.out ?_)
              refine ⟨trivial, ?_⟩
              gi_wp2
              go_roundw
              case rel => exact ⟨m + 1, by omega, rfl, by go_num, fun j q hj hq => by
                by_cases e : j = m
                · subst e
                  rw [Hp.out] at hq
                  cases hq
                  exact HC.out
                · exact Hno.out j q (by omega) hq, HBB⟩
              case measure => simp [intOf]; omega
          · have HNn := Lib.hid (HPn.out (pick_none fun j p hj => Hno.out j p (by have := (List.getElem?_eq_some_iff.1 hj).1; omega) hj))
            have hlt' : ¬ (m : Int) < (Z.left.length : Int) := by omega
            gi_wp2
            exact ⟨⟨j + 1, by omega, rfl, by go_num, HNn.out.1, HNn.out.2, HBp.out⟩, by simp [intOf]; omega⟩
end Go.Proofs.YtfcfehflocglpaaDoor
namespace Go.Proofs.YtfcfehflocglpaaDoor
open Go.RowKit

/-- A cell is kept, if it lies below B and in a block that holds a string. -/
def KeepS (B : Nat) (w w' : World) : Prop := ∀ p c, w.cell? p = some c → p.block < B → (∃ (q : Addr) (s : ByteArray), q.block = p.block ∧ w.cell? q = some (.string s)) → w'.cell? p = some c
theorem TmC.cellsS {w w' : World} {B : Nat} {t : Tm} {cs : List Value} (h : TmC w B t cs) (hk : KeepS B w w') : TmC w' B t cs := by
  induction h with
  | nil op s n h1 h2 h3 => exact .nil op s n h1 h2 h3
  | row op s n l a cap cs h1 h2 h3 h4 h5 h6 h7 h8 ih =>
    refine .row op s n l a cap cs h1 h2 h3 h4 h5 h6 ih fun i x hx => ⟨(h8 i x hx).1, fun j c hc => ?_⟩
    have hne : l ≠ [] := fun e => by rw [e] at hx; simp at hx
    obtain ⟨v, e, _⟩ := (h7 i x hx).parts
    exact hk _ _ ((h8 i x hx).2 j c hc) (by rw [addBlock]; exact h6 hne) ⟨a.add (i * 4 + 1), x.s, by rw [addBlock, addBlock], (h8 i x hx).2 1 _ (by rw [e]; rfl)⟩
theorem SlOf.cellsS {α : Type} {w w' : World} {B z : Nat} {R R' : α → List Value → Prop} {l : List α} {v : Value} (h : SlOf w B z R l v) (hk : KeepS B w w') (hs : ∀ x cs, R x cs → ∃ (j : Nat) (s : ByteArray), cs[j]? = some (.string s)) (hR : ∀ x ∈ l, ∀ cs, R x cs → R' x cs) : SlOf w' B z R' l v := by
  rcases h with h | ⟨a, cap, h1, h2, h3, h4, h5⟩
  · exact .inl h
  · refine .inr ⟨a, cap, h1, h2, h3, h4, fun i x hx => ?_⟩
    obtain ⟨cs, c1, c2, c3⟩ := h5 i x hx
    have hne : l ≠ [] := fun e => by rw [e] at hx; simp at hx
    obtain ⟨k, s, hk0⟩ := hs x cs c2
    exact ⟨cs, c1, hR x (List.mem_of_getElem? hx) cs c2, fun j c hj => hk _ _ (c3 j c hj) (by rw [addBlock]; exact h4 hne) ⟨a.add (i * z + k), s, by rw [addBlock, addBlock], c3 k _ hk0⟩⟩
theorem LtC.cellsS {w w' : World} {B : Nat} {t : Lt} {cs : List Value} (h : LtC w B t cs) (hk : KeepS B w w') : LtC w' B t cs := by
  obtain ⟨ca, cx, cy, h1, h2, ⟨v, g1, g2, g3⟩, h4, h5⟩ := h
  exact ⟨ca, cx, cy, h1, h2, ⟨v, g1, g2, g3.cellsS hk (fun x cs hx => by obtain ⟨v, e, _⟩ := hx.parts; exact ⟨1, _, by rw [e]; rfl⟩) fun _ _ _ h => h.cellsS hk⟩, h4.cellsS hk, h5.cellsS hk⟩
theorem PtC.cellsS {w w' : World} {B : Nat} {t : Pt} {cs : List Value} (h : PtC w B t cs) (hk : KeepS B w w') : PtC w' B t cs := by
  obtain ⟨cl, vx, vy, va, vr, vo, h0, h1, h2, h3, h4, h5, h6⟩ := h
  have st : ∀ {l : List ByteArray} {v : Value}, SlOf w B 1 StrC l v → SlOf w' B 1 StrC l v := fun h => h.cellsS hk (fun x cs hx => ⟨0, x, by rw [hx.1]; rfl⟩) fun _ _ _ h => h
  exact ⟨cl, vx, vy, va, vr, vo, h0, h1.cellsS hk, st h2, st h3, st h4, st h5, st h6⟩
/-- What a round of the caller's keeps: all below S but its box nb; above it all but blocks of numbers. -/
structure KeepW (S nb : Nat) (W W' : World) : Prop where
  os : W'.os = W.os
  tape : W'.tape = W.tape
  output : W'.output = W.output
  size : W.heap.size ≤ W'.heap.size
  k : ∀ (b : Nat) (o : Obj), W.heap[b]? = some o → b ≠ nb → (b < S ∨ ∀ cs fr, o ≠ .cells cs 3 fr) → W'.heap[b]? = some o
theorem KeepW.refl (S nb : Nat) (W : World) : KeepW S nb W W := ⟨rfl, rfl, rfl, Nat.le_refl _, fun _ _ h _ _ => h⟩
theorem KeepW.trans {S nb : Nat} {a b c : World} (h : KeepW S nb a b) (k : KeepW S nb b c) : KeepW S nb a c := ⟨k.os.trans h.os, k.tape.trans h.tape, k.output.trans h.output, Nat.le_trans h.size k.size, fun i o hi hn ho => k.k i o (h.k i o hi hn ho) hn ho⟩
theorem KeepW.below {S nb : Nat} {W W' : World} (h : Below W.heap.size W W') : KeepW S nb W W' := ⟨h.os, h.tape, h.output, h.size, fun b _ hb _ _ => (h.block b (heap_lt hb)).trans hb⟩
theorem KeepW.box {S nb : Nat} {W W' : World} (h : W.grownBy W' (some nb)) : KeepW S nb W W' := ⟨h.os, h.tape, h.output, h.size, fun b _ hb hn _ => (h.block b (heap_lt hb) (fun e => hn (Option.some.inj e))).trans hb⟩
theorem KeepW.row {S nb base n : Nat} {v : Value} {xs : List Value} {W W' : World} (ho : W.ownsRow base 3 1 v n xs) (hS : S ≤ base) (h : W.grownBy W' v.ownBlock) : KeepW S nb W W' := ⟨h.os, h.tape, h.output, h.size, fun b o hb _ hk => (h.block b (heap_lt hb) (fun e => by
  rcases ho.2 with ⟨rfl, _⟩ | ⟨g, cap, cur, rfl, hg, hr, _⟩
  · cases e
  · obtain rfl : b = g := by simpa [Value.ownBlock] using e
    rw [hr] at hb
    cases hb
    rcases hk with hk | hk
    · omega
    · exact hk _ _ rfl)).trans hb⟩
theorem KeepW.set {S nb : Nat} {W : World} {i : Nat} {u : Value} : KeepW S nb W (W.setCell ⟨nb, i, none⟩ u) := .box (grown_set nb i u)
theorem cell_obj {w : World} {p : Addr} {c : Value} (h : w.cell? p = some c) : ∃ (cs : Array Value) (T : TypeId) (fr : Nat × Nat), w.heap[p.block]? = some (.cells cs T fr) ∧ cs[p.off]? = some c := by
  unfold World.cell? at h
  split at h
  · rename_i cs T fr e
    split at h
    · cases h
    · exact ⟨cs, T, fr, e, h⟩
  · cases h
theorem KeepW.s {S nb : Nat} {W W' : World} (h : KeepW S nb W W') {cs : Array Value} {T : TypeId} {fr : Nat × Nat} (hb : W.heap[nb]? = some (.cells cs T fr)) (hn : ∀ c ∈ cs.toList, ∀ s, c ≠ .string s) : KeepS S W W' := by
  intro p c hc hp ⟨q, s, hq, hs⟩
  have hne : p.block ≠ nb := fun e => by
    obtain ⟨cs', T', fr', h1, h2⟩ := cell_obj hs
    rw [hq, e, hb] at h1
    cases h1
    exact hn _ (by rw [Array.mem_toList_iff]; exact Array.mem_of_getElem? h2) s rfl
  obtain ⟨cs', T', fr', h1, h2⟩ := cell_obj hc
  exact (World.cell?_of_block ((h.k _ _ h1 hne (.inl hp)).trans h1.symm)).trans hc
theorem LeftOk.keepW {S nb : Nat} {W W' : World} {v : Value} {l : List Pt} (h : LeftOk S W v l) (hk : KeepW S nb W W') {cs : Array Value} {T : TypeId} {fr : Nat × Nat} (hb : W.heap[nb]? = some (.cells cs T fr)) (hT : T ≠ 122) (hn : ∀ c ∈ cs.toList, ∀ s, c ≠ .string s) : LeftOk S W' v l := by
  obtain ⟨hS, xs, h1, h2⟩ := h
  refine ⟨Nat.le_trans hS hk.size, xs, ⟨h1.1, h1.2.imp id fun ⟨g, cap, cur, e1, e2, e3, e4⟩ => ⟨g, cap, cur, e1, e2, hk.k _ _ e3 (fun e => by subst e; rw [hb] at e3; cases e3; exact hT rfl) (.inr fun cs fr e => by cases e), e4⟩⟩, h2.mono fun x cs hx => hx.cellsS ?_⟩
  intro p c hc hp ⟨q, s, hq, hs⟩
  obtain ⟨k1, k2⟩ := hidO_cell hc
  exact cell_hidO (hk.s hb hn p c k2 hp ⟨q, s, hq, (hidO_cell hs).2⟩) k1
theorem SG.keepW {S Bp Bb M : Nat} {v0 : Value} {l0 : List Pt} {x : SX} {nb : Nat} {W W' : World} (h : SG S Bp Bb M v0 l0 x W) (hk : KeepW S nb W W') {cs : Array Value} (hb : W.heap[nb]? = some (.cells cs 95 (0, 0))) (hn : ∀ c ∈ cs.toList, ∀ s, c ≠ .string s) : SG S Bp Bb M v0 l0 x W' := by
  have hc : ∀ {b : Nat} {cs' : Array Value} {T : TypeId}, T ≠ 3 → T ≠ 95 → W.heap[b]? = some (.cells cs' T (0, 0)) → W'.heap[b]? = some (.cells cs' T (0, 0)) := fun {b cs' T} h1 h2 h3 =>
    hk.k _ _ h3 (fun e => by subst e; rw [hb] at h3; cases h3; exact h2 rfl) (.inr fun cs fr e => by cases e; exact h1 rfl)
  refine ⟨⟨hc (by decide) (by decide) h.bx.p, hc (by decide) (by decide) h.bx.b⟩, ?_, h.left.keepW hk hb (by decide) hn, h.sub, h.few, fun i p hi => ?_⟩
  · obtain ⟨n, c, h1, D, ⟨es, clock, h2, h3⟩, h4⟩ := h.m
    exact ⟨n, c, h1, D, ⟨es, clock, hk.k _ _ h2 (fun e => by subst e; rw [hb] at h2; cases h2) (.inr fun cs fr e => by cases e), h3⟩, h4⟩
  · obtain ⟨h1, h2, h3⟩ := h.box i p hi
    exact ⟨hc (by decide) (by decide) h1, h2.cellsS (hk.s hb hn), h3⟩
end Go.Proofs.YtfcfehflocglpaaDoor
namespace Go.Proofs.YtfcfehflocglpaaDoor
open Go.RowKit

theorem steps_in (n : Nat) (o : Option Addr) (k c M : Nat) (w : World) :
    CallsIn Fence.wide n Tryd.prog 78 #[.slice o k c, .map (some M)] w fun e w' => e = .returned (.func (.func 101) #[] #[.pointer (some ⟨w.heap.size, 0, none⟩), .pointer (some ⟨w.heap.size + 1, 0, none⟩)]) ∧ w' = (w.alloc (.cells #[.slice o k c] 119)).alloc (.cells #[.map (some M)] 93) := by
  refine callsIn_of_wp Tryd.func78 rfl trivial ?_ rfl
  simp only [Tryd.ntmps78, List.size_toArray, List.length_cons, List.length_nil, Nat.reduceAdd, Nat.reduceSub, Array.replicate_succ, Array.replicate_zero, List.push_toArray, List.append_toArray, List.nil_append, List.cons_append]
  gi_wp2
  go_ret
  exact ⟨rfl, rfl⟩
/-- What walkThrough has gathered. -/
structure WkI (nb M base : Nat) (l : List (Pt × Bd)) (W : World) : Prop where
  row : ∃ v, W.heap[nb]? = some (.cells #[v, .map (some M), .bool (l.any fun x => inventsZ x.2 x.1)] 95 (0, 0)) ∧ W.ownsRow base 3 1 v l.length (l.map fun x => .int .i64 (x.1.place : Int))
theorem WkI.step {nb M base : Nat} {l : List (Pt × Bd)} {W W' : World} (h : WkI nb M base l W) (hk : ∀ (b : Nat) (cs : Array Value) (T : TypeId), W.heap[b]? = some (.cells cs T (0, 0)) → T = 3 ∨ T = 95 → W'.heap[b]? = some (.cells cs T (0, 0))) : WkI nb M base l W' := by
  obtain ⟨v, h1, h2⟩ := h.row
  exact ⟨v, hk _ _ _ h1 (.inr rfl), h2.1, h2.2.imp id fun ⟨g, cap, cur, e1, e2, e3, e4⟩ => ⟨g, cap, cur, e1, e2, hk _ _ _ e3 (.inl rfl), e4⟩⟩
theorem WkI.below {nb M base : Nat} {l : List (Pt × Bd)} {W W' : World} (h : WkI nb M base l W) (hb : Below W.heap.size W W') : WkI nb M base l W' :=
  h.step fun _ _ _ hc _ => (hb.block _ (heap_lt hc)).trans hc
theorem WkI.put {nb M base B : Nat} {l : List (Pt × Bd)} {W W' : World} (h : WkI nb M base l W) (hp : Put B W W') : WkI nb M base l W' :=
  h.step fun _ _ _ hc _ => put_block hp hc (.inl rfl)
/-- A block of cells that are no parts is kept while a part is gone through. -/
theorem fr_block {S M n c : Nat} {xv : Value} {W W' : World} {s : Bd} {ls : List Pt} (hf : Fr M xv W W') (hm : MapI Tryd.prog W 9 3 M n s c) (hl : LeftOk S W xv ls) {b : Nat} {cs : Array Value} {T : TypeId} (hc : W.heap[b]? = some (.cells cs T (0, 0))) (hT : T ≠ 122) : W'.heap[b]? = some (.cells cs T (0, 0)) := by
  obtain ⟨_, xs, h1, _⟩ := hl
  exact (hf.block b (heap_lt hc) (mapI_obj hm hc) (row_obj h1 hc hT)).trans hc
theorem WkI.fr {S nb M base n c : Nat} {l : List (Pt × Bd)} {xv : Value} {W W' : World} {s : Bd} {ls : List Pt} (h : WkI nb M base l W) (hf : Fr M xv W W') (hm : MapI Tryd.prog W 9 3 M n s c) (hl : LeftOk S W xv ls) : WkI nb M base l W' :=
  h.step fun _ _ _ hc hT => fr_block hf hm hl hc (by rcases hT with rfl | rfl <;> decide)
/-- What walkThrough lays down first: the rule, its two answers. -/
structure FxI (n0 : Nat) (w : World) (rc : List Value) (W : World) : Prop where
  b : Below n0 w W
  rule : W.heap[n0]? = some (.cells rc.toArray 27 (0, 0))
  wk : W.heap[n0 + 1]? = some (.cells #[.slice none 0 0, .map none, .bool false] 95 (0, 0))
  er : W.heap[n0 + 2]? = some (.cells #[.nilIface] 80 (0, 0))
theorem FxI.below {n0 : Nat} {w W W' : World} {rc : List Value} (h : FxI n0 w rc W) (hb : Below W.heap.size W W') : FxI n0 w rc W' :=
  ⟨h.b.trans (hb.mono (by have := heap_lt h.rule; omega)), (hb.block _ (heap_lt h.rule)).trans h.rule, (hb.block _ (heap_lt h.wk)).trans h.wk, (hb.block _ (heap_lt h.er)).trans h.er⟩
theorem FxI.put {n0 B : Nat} {w W W' : World} {rc : List Value} (h : FxI n0 w rc W) (hp : Put B W W') (hB : n0 ≤ B) : FxI n0 w rc W' :=
  ⟨put_bel hp h.b hB, put_block hp h.rule (.inl rfl), put_block hp h.wk (.inl rfl), put_block hp h.er (.inl rfl)⟩
theorem FxI.fr {S n0 M n c : Nat} {w W W' : World} {rc : List Value} {xv : Value} {s : Bd} {ls : List Pt} (h : FxI n0 w rc W) (hf : Fr M xv W W') (hm : MapI Tryd.prog W 9 3 M n s c) (hl : LeftOk S W xv ls) (hM : n0 ≤ M) (ho : ∀ g, xv.ownBlock = some g → n0 ≤ g) : FxI n0 w rc W' := by
  refine ⟨⟨hf.os.trans h.b.os, hf.tape.trans h.b.tape, hf.output.trans h.b.output, Nat.le_trans h.b.size hf.size, fun i hi => ?_⟩, fr_block hf hm hl h.rule (by decide), fr_block hf hm hl h.wk (by decide), fr_block hf hm hl h.er (by decide)⟩
  have hl0 := heap_lt h.rule
  exact (hf.block i (by omega) (by omega) (fun e => by have := ho _ e; omega)).trans (h.b.block i hi)
/-- The own order and its box have turned. -/
theorem FxI.grown {n0 : Nat} {w W W' : World} {rc : List Value} {k : Option Nat} (h : FxI n0 w rc W) (hg : W.grownBy W' k) (hk : ∀ i, k = some i → n0 + 3 ≤ i) : FxI n0 w rc W' := by
  have hl0 := heap_lt h.er
  have e : ∀ i, i < n0 + 3 → W'.heap[i]? = W.heap[i]? := fun i hi => hg.block i (by omega) (fun e => by have := hk i e.symm; omega)
  exact ⟨⟨hg.os.trans h.b.os, hg.tape.trans h.b.tape, hg.output.trans h.b.output, Nat.le_trans h.b.size hg.size, fun i hi => (e i (by omega)).trans (h.b.block i hi)⟩, (e _ (by omega)).trans h.rule, (e _ (by omega)).trans h.wk, (e _ (by omega)).trans h.er⟩
theorem row3 {W : World} {b : Nat} {T : TypeId} {c0 c1 c2 : Value} (h : W.heap[b]? = some (.cells #[c0, c1, c2] T (0, 0))) :
    (W.cell? ⟨b, 0, none⟩ = some c0 ∧ W.cell? ⟨b, 1, none⟩ = some c1 ∧ W.cell? ⟨b, 2, none⟩ = some c2) ∧ W.frozen? ⟨b, 0, none⟩ = false ∧ W.frozen? ⟨b, 1, none⟩ = false ∧ W.frozen? ⟨b, 2, none⟩ = false :=
  ⟨⟨row_cells h 0, row_cells h 1, row_cells h 2⟩, frz_row h 0, frz_row h 1, frz_row h 2⟩
theorem set_oth {W : World} {b k : Nat} {i : Nat} {v : Value} (hne : k ≠ b) : (W.setCell ⟨b, i, none⟩ v).heap[k]? = W.heap[k]? := Below.heap_setCell W ⟨b, i, none⟩ v k hne
/-- Both answers are stored. -/
theorem setW {w W : World} {n b b2 : Nat} {T1 T2 : TypeId} {z0 z1 z2 z3 : Value} (c0 c1 c2 c3 : Value) (hb : Below n w W) (h1 : n ≤ b) (h2 : n ≤ b2) (h : W.heap[b]? = some (.cells #[z0, z1, z2] T1 (0, 0))) (k : W.heap[b2]? = some (.cells #[z3] T2 (0, 0))) (hne : b ≠ b2) :
    ((((W.setCell ⟨b, 0, none⟩ c0).setCell ⟨b, 1, none⟩ c1).setCell ⟨b, 2, none⟩ c2).setCell ⟨b2, 0, none⟩ c3).heap[b]? = some (.cells #[c0, c1, c2] T1 (0, 0)) ∧
    ((((W.setCell ⟨b, 0, none⟩ c0).setCell ⟨b, 1, none⟩ c1).setCell ⟨b, 2, none⟩ c2).setCell ⟨b2, 0, none⟩ c3).heap[b2]? = some (.cells #[c3] T2 (0, 0)) ∧
    Below n w ((((W.setCell ⟨b, 0, none⟩ c0).setCell ⟨b, 1, none⟩ c1).setCell ⟨b, 2, none⟩ c2).setCell ⟨b2, 0, none⟩ c3) := by
  have e1 := rowSet (rowSet (rowSet h 0 c0) 1 c1) 2 c2
  have e2 : (((W.setCell ⟨b, 0, none⟩ c0).setCell ⟨b, 1, none⟩ c1).setCell ⟨b, 2, none⟩ c2).heap[b2]? = some (.cells #[z3] T2 (0, 0)) := (set_oth (Ne.symm hne)).trans ((set_oth (Ne.symm hne)).trans ((set_oth (Ne.symm hne)).trans k))
  exact ⟨(set_oth hne).trans (by simpa using e1), by simpa using rowSet e2 0 c3, (((hb.setCell (p := ⟨b, 0, none⟩) h1 _).setCell (p := ⟨b, 1, none⟩) h1 _).setCell (p := ⟨b, 2, none⟩) h1 _).setCell (p := ⟨b2, 0, none⟩) h2 _⟩
theorem setW' {w W : World} {n b b2 : Nat} {T1 T2 : TypeId} {z0 z1 z2 z3 : Value} (c0 c1 c2 c3 : Value) (hb : Below n w W) (h1 : n ≤ b) (h2 : n ≤ b2) (h : W.heap[b]? = some (.cells #[z0, z1, z2] T1 (0, 0))) (k : W.heap[b2]? = some (.cells #[z3] T2 (0, 0))) (hne : b ≠ b2) :
    ((((W.setCell ⟨b2, 0, none⟩ c3).setCell ⟨b, 0, none⟩ c0).setCell ⟨b, 1, none⟩ c1).setCell ⟨b, 2, none⟩ c2).heap[b]? = some (.cells #[c0, c1, c2] T1 (0, 0)) ∧
    ((((W.setCell ⟨b2, 0, none⟩ c3).setCell ⟨b, 0, none⟩ c0).setCell ⟨b, 1, none⟩ c1).setCell ⟨b, 2, none⟩ c2).heap[b2]? = some (.cells #[c3] T2 (0, 0)) ∧
    Below n w ((((W.setCell ⟨b2, 0, none⟩ c3).setCell ⟨b, 0, none⟩ c0).setCell ⟨b, 1, none⟩ c1).setCell ⟨b, 2, none⟩ c2) := by
  have e0 : (W.setCell ⟨b2, 0, none⟩ c3).heap[b]? = some (.cells #[z0, z1, z2] T1 (0, 0)) := (set_oth hne).trans h
  have e1 := rowSet (rowSet (rowSet e0 0 c0) 1 c1) 2 c2
  have e2 : (W.setCell ⟨b2, 0, none⟩ c3).heap[b2]? = some (.cells #[c3] T2 (0, 0)) := by simpa using rowSet k 0 c3
  exact ⟨by simpa using e1, (set_oth (Ne.symm hne)).trans ((set_oth (Ne.symm hne)).trans ((set_oth (Ne.symm hne)).trans e2)), (((hb.setCell (p := ⟨b2, 0, none⟩) h2 _).setCell (p := ⟨b, 0, none⟩) h1 _).setCell (p := ⟨b, 1, none⟩) h1 _).setCell (p := ⟨b, 2, none⟩) h1 _⟩
/-- The search is over. -/
theorem walk_over {r : Ru} {l : List (Pt × Bd)} {t : ZS} (h : seqZ l.length (zs0 r) = (l, t)) (hn : nextZ t = none) (hl : l.length ≤ r.body.length) : walkZ r = (l, t) := by
  obtain ⟨j, hj⟩ := Nat.exists_eq_add_of_le hl
  unfold walkZ
  rw [hj]
  exact seqZ_stop _ j _ _ _ h (goZ_none hn)
theorem seq_done : ∀ (k : Nat) (s t : ZS) (l : List (Pt × Bd)), seqZ k s = (l, t) → t.done = s.done + l.length
  | 0, s, t, l, h => by cases h; rfl
  | k + 1, s, t, l, h => by
    rw [seqZ] at h
    cases hs : goZ s with
    | none => rw [hs] at h; cases h; rfl
    | some q =>
      obtain ⟨q, v⟩ := q
      rw [hs] at h
      simp only at h
      cases h
      have h1 := seq_done k v _ _ rfl
      have h2 : v.done = s.done + 1 := by
        unfold goZ at hs
        cases hn : nextZ s with
        | none => rw [hn] at hs; cases hs
        | some i =>
          rw [hn] at hs
          simp only [Option.bind_some] at hs
          cases hp : s.left[i]? with
          | none => rw [hp] at hs; cases hs
          | some p => rw [hp] at hs; cases hs; rfl
      rw [List.length_cons]
      omega
end Go.Proofs.YtfcfehflocglpaaDoor
namespace Go.Proofs.YtfcfehflocglpaaDoor
open Go.RowKit

theorem LeftOk.put {S B : Nat} {W W' : World} {v : Value} {l : List Pt} (h : LeftOk S W v l) (hp : Put B W W') : LeftOk S W' v l := by
  obtain ⟨hS, xs, h1, h2⟩ := h
  refine ⟨Nat.le_trans hS (by rw [put_sz hp]; omega), xs, ⟨h1.1, h1.2.imp id fun ⟨g, cap, cur, e1, e2, e3, e4⟩ => ⟨g, cap, cur, e1, e2, put_block hp e3 (.inl rfl), e4⟩⟩, h2.mono fun x cs hx => hx.cells (fun p c hc => ?_) (Nat.le_refl _)⟩
  obtain ⟨k1, k2⟩ := hidO_cell hc
  exact cell_hidO (put_cell hp k2) k1
theorem mapI_put {P : Program} {B M n c : Nat} {kT eT : TypeId} {f : Bd} {W W' : World} (h : MapI P W kT eT M n f c) (hp : Put B W W') (hM : M < B) : MapI P W' kT eT M n f c := by
  obtain ⟨D, ⟨es, clock, h2, h3⟩, h4⟩ := h
  exact ⟨D, ⟨es, clock, put_block hp h2 (.inr hM), h3⟩, h4⟩
theorem SG.put {S Bp Bb M B : Nat} {v0 : Value} {l0 : List Pt} {x : SX} {W W' : World} (h : SG S Bp Bb M v0 l0 x W) (hp : Put B W W') (hM : M < B) : SG S Bp Bb M v0 l0 x W' := by
  refine ⟨⟨put_block hp h.bx.p (.inl rfl), put_block hp h.bx.b (.inl rfl)⟩, ?_, h.left.put hp, h.sub, h.few, fun i p hi => ?_⟩
  · obtain ⟨n, c, h1, h2⟩ := h.m
    exact ⟨n, c, h1, mapI_put h2 hp hM⟩
  · obtain ⟨h1, h2, h3⟩ := h.box i p hi
    exact ⟨put_block hp h1 (.inl rfl), h2.cells (fun p c hc => put_cell hp hc) (Nat.le_refl _), h3⟩
theorem SG.below {S Bp Bb M : Nat} {v0 : Value} {l0 : List Pt} {x : SX} {W W' : World} (h : SG S Bp Bb M v0 l0 x W) (hb : Below W.heap.size W W') : SG S Bp Bb M v0 l0 x W' :=
  ⟨h.bx.below hb, h.m.below hb, h.left.below hb, h.sub, h.few, fun i p hi => by
    obtain ⟨h1, h2, h3⟩ := h.box i p hi
    exact ⟨(hb.block _ (heap_lt h1)).trans h1, h2.cells (fun q c hc => (World.cell?_of_block (hb.block _ (World.block_lt_of_cell? _ _ hc))).trans hc) (Nat.le_refl _), h3⟩⟩
theorem fr_keeps {S M B : Nat} {xv : Value} {W W' : World} {ls : List Pt} (hf : Fr M xv W W') (hM : M < B) (hl : LeftOk S W xv ls) : KeepsFrom B W W' := by
  refine ⟨hf.size, fun k o hk ho hc => (hf.block k (heap_lt ho) (by omega) (fun e => ?_)).trans ho⟩
  obtain ⟨_, xs, h1, _⟩ := hl
  rcases h1.2 with ⟨rfl, _⟩ | ⟨g, cap, cur, rfl, _, hg, _⟩
  · cases e
  · obtain rfl : g = k := by simpa [Value.ownBlock] using e
    rw [hg] at ho
    cases ho
    cases hc
/-- A part has come, and has not been taken down yet. -/
structure ASt (r : Ru) (S n0 Bp M nb base : Nat) (v0 : Value) (w : World) (rc : List Value) (x : SX) (W : World) : Prop where
  g : SG S Bp (Bp + 1) M v0 (partsZ r) x W
  own : ∀ g, x.v.ownBlock = some g → n0 ≤ g
  ch : ∃ i p, x.ch = some (i, p)
  l : ∃ l, seqZ l.length (zs0 r) = (l, x.st) ∧ WkI nb M base l W
  fx : FxI n0 w rc W
  sz : base ≤ W.heap.size
/-- It has been taken down, or none has come. -/
structure BSt (r : Ru) (S n0 Bp M nb base : Nat) (v0 : Value) (w : World) (rc : List Value) (x : SX) (W : World) : Prop where
  g : SG S Bp (Bp + 1) M v0 (partsZ r) x W
  own : ∀ g, x.v.ownBlock = some g → n0 ≤ g
  l : ∃ l, seqZ l.length (zs0 r) = (l, x.nxt) ∧ WkI nb M base l W
  fx : FxI n0 w rc W
  sz : base ≤ W.heap.size
structure ZSt (r : Ru) (n0 M nb base : Nat) (w : World) (rc : List Value) (W : World) : Prop where
  l : WkI nb M base (walkZ r).1 W
  m : mapOk W M (walkZ r).2
  fx : FxI n0 w rc W
section
variable {r : Ru} {S n0 Bp M nb base B : Nat} {v0 : Value} {w : World} {rc : List Value} {x : SX} {W W' : World}
theorem ASt.put (h : ASt r S n0 Bp M nb base v0 w rc x W) (hp : Put B W W') (hM : M < B) (hn : n0 ≤ B) : ASt r S n0 Bp M nb base v0 w rc x W' := by
  obtain ⟨l, h1, h2⟩ := h.l
  exact ⟨h.g.put hp hM, h.own, h.ch, ⟨l, h1, h2.put hp⟩, h.fx.put hp hn, by rw [put_sz hp]; exact h.sz⟩
theorem ASt.below (h : ASt r S n0 Bp M nb base v0 w rc x W) (hb : Below W.heap.size W W') : ASt r S n0 Bp M nb base v0 w rc x W' := by
  obtain ⟨l, h1, h2⟩ := h.l
  exact ⟨h.g.below hb, h.own, h.ch, ⟨l, h1, h2.below hb⟩, h.fx.below hb, Nat.le_trans h.sz hb.size⟩
theorem BSt.put (h : BSt r S n0 Bp M nb base v0 w rc x W) (hp : Put B W W') (hM : M < B) (hn : n0 ≤ B) : BSt r S n0 Bp M nb base v0 w rc x W' := by
  obtain ⟨l, h1, h2⟩ := h.l
  exact ⟨h.g.put hp hM, h.own, ⟨l, h1, h2.put hp⟩, h.fx.put hp hn, by rw [put_sz hp]; exact h.sz⟩
theorem BSt.below (h : BSt r S n0 Bp M nb base v0 w rc x W) (hb : Below W.heap.size W W') : BSt r S n0 Bp M nb base v0 w rc x W' := by
  obtain ⟨l, h1, h2⟩ := h.l
  exact ⟨h.g.below hb, h.own, ⟨l, h1, h2.below hb⟩, h.fx.below hb, Nat.le_trans h.sz hb.size⟩
theorem ZSt.put (h : ZSt r n0 M nb base w rc W) (hp : Put B W W') (hM : M < B) (hn : n0 ≤ B) : ZSt r n0 M nb base w rc W' := by
  obtain ⟨n, c, h1, h2⟩ := h.m
  exact ⟨h.l.put hp, ⟨n, c, h1, mapI_put h2 hp hM⟩, h.fx.put hp hn⟩
theorem BSt.nextA {x' : SX} (h : BSt r S n0 Bp M nb base v0 w rc x W) (ht : ST S Bp (Bp + 1) M v0 (partsZ r) x W x' W') (hM : n0 ≤ M) (hw : n0 ≤ W.heap.size) : ASt r S n0 Bp M nb base v0 w rc x' W' := by
  obtain ⟨l, h1, h2⟩ := h.l
  obtain ⟨n, c, _, hm⟩ := h.g.m
  refine ⟨ht.g, fun g hg => ?_, ht.ch, ⟨l, by rw [ht.st]; exact h1, h2.fr ht.fr hm h.g.left⟩, h.fx.fr ht.fr hm h.g.left hM h.own, Nat.le_trans h.sz ht.fr.size⟩
  rcases ht.new g hg with e | e
  · exact h.own g e
  · omega
theorem SG.done_le (h : SG S Bp (Bp + 1) M v0 (partsZ r) x W) : x.nxt.done ≤ r.body.length := by
  have h1 := h.few
  have h2 : (partsZ r).length = r.body.length := by unfold partsZ; rw [List.length_mapIdx]
  unfold SX.nxt
  cases hc : x.ch with
  | none => simp only; omega
  | some q =>
    obtain ⟨i, p⟩ := q
    obtain ⟨_, _, _, h3⟩ := h.box i p hc
    have h4 := (List.getElem?_eq_some_iff.1 h3).1
    show x.st.done + 1 ≤ r.body.length
    omega
theorem BSt.over (h : BSt r S n0 Bp M nb base v0 w rc x W) (he : SE M x W W') (hM : n0 ≤ M) : ZSt r n0 M nb base w rc W' := by
  obtain ⟨l, h1, h2⟩ := h.l
  obtain ⟨n, c, _, hm⟩ := h.g.m
  have hl : l.length ≤ r.body.length := by
    have h3 := seq_done _ _ _ _ h1
    have h4 := h.g.done_le
    have h5 : (zs0 r).done = 0 := rfl
    omega
  have hz := walk_over h1 he.no hl
  refine ⟨by rw [hz]; exact h2.fr he.fr hm h.g.left, by rw [hz]; exact he.m, h.fx.fr he.fr hm h.g.left hM h.own⟩
end
theorem KeepW.keeps {S nb B : Nat} {W W' : World} (h : KeepW S nb W W') {cs : Array Value} {T : TypeId} {fr : Nat × Nat} (hb : W.heap[nb]? = some (.cells cs T fr)) : KeepsFrom B W W' :=
  ⟨h.size, fun k o _ ho hc => h.k k o ho (fun e => by subst e; rw [hb] at ho; cases ho; cases hc) (.inr fun cs fr e => by subst e; cases hc)⟩
theorem FxI.keepW {S nb n0 : Nat} {w W W' : World} {rc : List Value} (h : FxI n0 w rc W) (hk : KeepW S nb W W') (hn : n0 + 3 ≤ nb) (hS : nb < S) : FxI n0 w rc W' := by
  have e : ∀ i o, i < n0 + 3 → W.heap[i]? = some o → W'.heap[i]? = some o := fun i o hi ho => hk.k i o ho (by omega) (.inl (by omega))
  have hl0 := heap_lt h.er
  refine ⟨⟨hk.os.trans h.b.os, hk.tape.trans h.b.tape, hk.output.trans h.b.output, Nat.le_trans h.b.size hk.size, fun i hi => ?_⟩, e _ _ (by omega) h.rule, e _ _ (by omega) h.wk, e _ _ (by omega) h.er⟩
  have h1 : W.heap[i]? = some W.heap[i] := Array.getElem?_eq_getElem (by omega)
  exact (e i _ (by omega) h1).trans (h1.symm.trans (h.b.block i hi))
theorem ASt.took {r : Ru} {S n0 Bp M nb base : Nat} {v0 : Value} {w : World} {rc : List Value} {x : SX} {W W' : World} (h : ASt r S n0 Bp M nb base v0 w rc x W) {i : Nat} {p : Pt} (hx : x.ch = some (i, p)) {l : List (Pt × Bd)} (hl : seqZ l.length (zs0 r) = (l, x.st)) (hk : KeepW S nb W W')
    {cs : Array Value} (hb : W.heap[nb]? = some (.cells cs 95 (0, 0))) (hn : ∀ c ∈ cs.toList, ∀ s, c ≠ .string s) (hn0 : n0 + 3 ≤ nb) (hS : nb < S) (hr : WkI nb M base (l ++ [(p, x.st.B)]) W') : BSt r S n0 Bp M nb base v0 w rc x W' := by
  obtain ⟨_, _, h3, h4⟩ := h.g.box i p hx
  have e : x.nxt = x.st.step i p := by unfold SX.nxt; rw [hx]
  refine ⟨h.g.keepW hk hb hn, h.own, ⟨l ++ [(p, x.st.B)], ?_, hr⟩, h.fx.keepW hk hn0 hS, Nat.le_trans h.sz hk.size⟩
  rw [e, List.length_append, List.length_singleton]
  exact seqZ_snoc _ _ _ _ _ _ hl rfl (goZ_some h3 h4)
theorem ASt.few {r : Ru} {S n0 Bp M nb base : Nat} {v0 : Value} {w : World} {rc : List Value} {x : SX} {W : World} (h : ASt r S n0 Bp M nb base v0 w rc x W) {l : List (Pt × Bd)} (hl : seqZ l.length (zs0 r) = (l, x.st)) : l.length ≤ (partsZ r).length := by
  have h3 := seq_done _ _ _ _ hl
  have h4 := h.g.few
  have h5 : (zs0 r).done = 0 := rfl
  omega
/-- Nothing has come yet. -/
theorem BSt.start {r : Ru} {S n0 Bp M nb base : Nat} {v0 : Value} {w : World} {rc : List Value} {W : World} (hp : FewP' (partsZ r)) (h1 : SBoxes Bp (Bp + 1) M v0 W) (h2 : MapI Tryd.prog W 9 3 M 0 (fun _ => 0) 0) (h3 : LeftOk S W v0 (partsZ r)) (h4 : ∀ g, v0.ownBlock = some g → n0 ≤ g)
    (h5 : W.heap[nb]? = some (.cells #[.slice none 0 0, .map (some M), .bool false] 95 (0, 0))) (h6 : FxI n0 w rc W) (h7 : base ≤ W.heap.size) : BSt r S n0 Bp M nb base v0 w rc (sx0 (partsZ r) v0 (fun _ => 0)) W :=
  ⟨⟨h1, ⟨0, 0, by have := hp.w; show 0 + wtZ (partsZ r) ≤ 1000000; omega, h2⟩, h3, fun p hp => hp, by show 0 + (partsZ r).length = _; omega, fun i p h => by cases h⟩, h4, ⟨[], rfl, ⟨.slice none 0 0, h5, World.ownsRow_nil _ _ _ _⟩⟩, h6, h7⟩
theorem WkI.mk' {nb M base : Nat} {l : List (Pt × Bd)} {p : Pt} {B : Bd} {W : World} {v5 : Value} {bn : Bool} (h : W.heap[nb]? = some (.cells #[v5, .map (some M), .bool bn] 95 (0, 0))) (hb : ((l.any fun x => inventsZ x.2 x.1) || inventsZ B p) = bn)
    (ho : W.ownsRow base 3 1 v5 (l.length + 1) ((l.map fun x => Value.int .i64 (x.1.place : Int)) ++ [.int .i64 (p.place : Int)])) : WkI nb M base (l ++ [(p, B)]) W := by
  refine ⟨v5, ?_, ?_⟩
  · rw [List.any_append, List.any_cons, List.any_nil, Bool.or_false, hb]
    exact h
  · rw [List.length_append, List.map_append]
    exact ho
def markL (ds : List Nat) : List Deferred := ds.map fun D => { target := .collected D, args := #[] }
structure MksW (B : Nat) (ds : List Nat) (W : World) : Prop where
  nd : ds.Nodup
  at_ : ∀ D ∈ ds, B ≤ D ∧ W.heap[D]? = some (.deferred (some []))
/-- All marks are taken in. -/
theorem leave_marks {F : Fence} {n : Nat} {P : Program} {fn : Func} {tmps : Array Value} {R : Ending → World → Prop} {B : Nat} {S : World → Prop} (hS : Firm B S) :
    ∀ (ds : List Nat) (W : World), MksW B ds W → S W → (∀ W', S W' → LeavesIn F n P fn tmps R [] .returning W') → LeavesInM F n P fn tmps R (markL ds) .returning W
  | [], W, _, hs, h => h W hs
  | D :: ds, W, hm, hs, h => by
    have hd := hm.at_ D (List.mem_cons_self ..)
    have hnd := List.nodup_cons.1 hm.nd
    refine ⟨by simp, .inl ⟨D, _, rfl, run_takeDeferred hd.2, leave_marks hS ds _ ⟨hnd.2, fun E hE => ?_⟩ (hS _ _ ⟨D, _, _, hd.1, hd.2, rfl, rfl, rfl⟩ hs) h⟩⟩
    have hE' := hm.at_ E (List.mem_cons_of_mem _ hE)
    exact ⟨hE'.1, (World.putObj_heap_other (by rintro rfl; exact hnd.1 hE)).trans hE'.2⟩
/-- What walkThrough answers lies in its two boxes. -/
structure FinI (n0 : Nat) (w : World) (c0 c1 c2 c3 : Value) (W : World) : Prop where
  b : Below n0 w W
  wk : W.heap[n0 + 1]? = some (.cells #[c0, c1, c2] 95 (0, 0))
  er : W.heap[n0 + 1 + 1]? = some (.cells #[c3] 80 (0, 0))
theorem FinI.put {n0 B : Nat} {w W W' : World} {c0 c1 c2 c3 : Value} (h : FinI n0 w c0 c1 c2 c3 W) (hp : Put B W W') (hB : n0 ≤ B) : FinI n0 w c0 c1 c2 c3 W' :=
  ⟨put_bel hp h.b hB, put_block hp h.wk (.inl rfl), put_block hp h.er (.inl rfl)⟩
theorem FinI.of {n0 : Nat} {w W : World} {rc : List Value} (h : FxI n0 w rc W) (c0 c1 c2 c3 : Value) : FinI n0 w c0 c1 c2 c3 ((((W.setCell ⟨n0 + 1, 0, none⟩ c0).setCell ⟨n0 + 1, 1, none⟩ c1).setCell ⟨n0 + 1, 2, none⟩ c2).setCell ⟨n0 + 1 + 1, 0, none⟩ c3) := by
  obtain ⟨h1, h2, h3⟩ := setW c0 c1 c2 c3 h.b (b := n0 + 1) (b2 := n0 + 1 + 1) (by omega) (by omega) h.wk h.er (by omega)
  exact ⟨h3, h1, h2⟩
theorem setW_oth {W : World} {b b2 i : Nat} {c0 c1 c2 c3 : Value} (h1 : i ≠ b) (h2 : i ≠ b2) : ((((W.setCell ⟨b, 0, none⟩ c0).setCell ⟨b, 1, none⟩ c1).setCell ⟨b, 2, none⟩ c2).setCell ⟨b2, 0, none⟩ c3).heap[i]? = W.heap[i]? :=
  (set_oth h2).trans ((set_oth h1).trans ((set_oth h1).trans (set_oth h1)))
theorem order_sl {r : Ru} {W : World} {base : Nat} {v : Value} (h : W.ownsRow base 3 1 v (walkZ r).1.length ((walkZ r).1.map fun x => Value.int .i64 (x.1.place : Int))) (hb : r.body.length ≤ 1000000) : SlOf W W.heap.size 1 IntC (orderZ r) v := by
  have h1 : (orderZ r).length = (walkZ r).1.length := by unfold orderZ; rw [List.length_map]
  refine sl_row (l := orderZ r) (f := fun k => Value.int .i64 k) (by rw [h1]; unfold orderZ; rw [List.map_map]; exact h) fun k hk => ⟨rfl, ?_⟩
  rw [orderZ_eq, List.mem_map] at hk
  obtain ⟨j, hj, rfl⟩ := hk
  have := ord_lt hj
  unfold I64
  omega
theorem come_no {r : Ru} {k : Nat} (hk : k < r.body.length) (h : memI (orderZ r) (k : Int) = false) : safeZ r = false := by
  have : comeZ r = false := by
    unfold comeZ
    rw [List.all_eq_false]
    refine ⟨k, List.mem_range.2 hk, fun hd => ?_⟩
    simp only [decide_eq_true_eq] at hd
    unfold memI at h
    rw [List.any_eq_false] at h
    exact h _ hd (by simp)
  unfold safeZ
  rw [this, Bool.false_and]
theorem come_yes {r : Ru} (h : ∀ k : Nat, k < r.body.length → memI (orderZ r) (k : Int) = true) : comeZ r = true := by
  unfold comeZ
  rw [List.all_eq_true]
  intro k hk
  have := h k (List.mem_range.1 hk)
  unfold memI at this
  rw [List.any_eq_true] at this
  obtain ⟨x, hx, he⟩ := this
  have : (k : Int) = x := by simpa using he
  rw [this]
  simpa using hx
theorem bound_no {r : Ru} {s : ByteArray} (hs : s ∈ occ (subTs r.head.l)) (h : hasZ (boundZ r) s = false) : safeZ r = false := by
  unfold safeZ
  have : (occ (subTs r.head.l)).all (hasZ (boundZ r)) = false := List.all_eq_false.2 ⟨s, hs, by rw [h]; decide⟩
  rw [this, Bool.and_false]
theorem safe_yes {r : Ru} (h : comeZ r = true) (h2 : ∀ s ∈ occ (subTs r.head.l), hasZ (boundZ r) s = true) : safeZ r = true := by
  unfold safeZ
  rw [h, Bool.true_and]
  exact List.all_eq_true.2 h2
theorem mapI_same {P : Program} {M n c : Nat} {kT eT : TypeId} {f : Bd} {W W' : World} (h : MapI P W kT eT M n f c) (he : W'.heap[M]? = W.heap[M]?) : MapI P W' kT eT M n f c := by
  obtain ⟨D, ⟨es, clock, h2, h3⟩, h4⟩ := h
  exact ⟨D, ⟨es, clock, he.trans h2, h3⟩, h4⟩
theorem own_same {W W' : World} {base e z n : Nat} {v : Value} {xs : List Value} (h : W.ownsRow base e z v n xs) (hk : ∀ (g : Nat) (cs : Array Value), W.heap[g]? = some (.cells cs e (0, 0)) → W'.heap[g]? = some (.cells cs e (0, 0))) : W'.ownsRow base e z v n xs := by
  refine ⟨h.1, ?_⟩
  rcases h.2 with h2 | ⟨g, cap, cur, e1, e2, e3, e4⟩
  · exact .inl h2
  · exact .inr ⟨g, cap, cur, e1, e2, hk g cur e3, e4⟩
/-- The answer of a rule that is safe. -/
structure GdI (r : Ru) (n0 base M n c : Nat) (w : World) (v : Value) (W : World) : Prop where
  f : FinI n0 w v (.map (some M)) (.bool (invZ r)) .nilIface W
  o : W.ownsRow base 3 1 v (walkZ r).1.length ((walkZ r).1.map fun x => Value.int .i64 (x.1.place : Int))
  m : MapI Tryd.prog W 9 3 M n (boundZ r) c
theorem GdI.put {r : Ru} {n0 base M n c B : Nat} {w W W' : World} {v : Value} (h : GdI r n0 base M n c w v W) (hp : Put B W W') (hB : n0 ≤ B) (hM : M < B) : GdI r n0 base M n c w v W' :=
  ⟨h.f.put hp hB, own_same h.o fun _ _ hg => put_block hp hg (.inl rfl), mapI_put h.m hp hM⟩
theorem GdI.of {r : Ru} {n0 base M n c : Nat} {w W : World} {v : Value} {rc : List Value} (h : FxI n0 w rc W) (ho : W.ownsRow base 3 1 v (walkZ r).1.length ((walkZ r).1.map fun x => Value.int .i64 (x.1.place : Int))) (hm : MapI Tryd.prog W 9 3 M n (boundZ r) c) (hM : n0 + 3 ≤ M) :
    GdI r n0 base M n c w v ((((W.setCell ⟨n0 + 1, 0, none⟩ v).setCell ⟨n0 + 1, 1, none⟩ (.map (some M))).setCell ⟨n0 + 1, 2, none⟩ (.bool (invZ r))).setCell ⟨n0 + 1 + 1, 0, none⟩ .nilIface) := by
  have e1 : ∀ (g : Nat) (cs : Array Value), W.heap[g]? = some (.cells cs 3 (0, 0)) → g ≠ n0 + 1 := fun g cs hg e => by
    have h1 := h.wk
    rw [e, h1] at hg
    injection hg with h2
    injection h2 with _ h3 _
    exact absurd h3 (by decide)
  have e2 : ∀ (g : Nat) (cs : Array Value), W.heap[g]? = some (.cells cs 3 (0, 0)) → g ≠ n0 + 1 + 1 := fun g cs hg e => by
    have h1 : W.heap[n0 + 1 + 1]? = _ := h.er
    rw [e, h1] at hg
    injection hg with h2
    injection h2 with _ h3 _
    exact absurd h3 (by decide)
  exact ⟨FinI.of h _ _ _ _, own_same ho fun g cs hg => (setW_oth (e1 g cs hg) (e2 g cs hg)).trans hg, mapI_same hm (setW_oth (by omega) (by omega))⟩
end Go.Proofs.YtfcfehflocglpaaDoor
