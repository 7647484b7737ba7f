/- rel.eachOfBoth: two lists that rise, gone through at once; the lists lie where the caller says so. -/
import Derived.Test.YtphmiifochjemaaPeb
namespace Go.Proofs.Ytphmiifochjemaa
open Go.RowKit

attribute [local go_sem] Oper.semAt_some

/-- What stays while the iterator makes memory, and turns arrays of its own. -/
structure StK (B0 : Nat) (K : World → Prop) : Prop where
  size : ∀ W, K W → B0 ≤ W.heap.size
  below : ∀ W W', K W → Below W.heap.size W W' → K W'
  grown : ∀ (W W' : World) (m : Nat) (cs : Array Value), K W → W.grownBy W' (some m) → B0 ≤ m → W.heap[m]? = some (.cells cs 57 (0, 0)) → K W'
structure PrK (K : World → Prop) (v u : Value) (T1 T2 : TypeId) (B1 B2 : Nat) (W : World) : Prop where
  b : K W
  one : W.heap[B1]? = some (.cells #[v] T1 (0, 0))
  two : W.heap[B2]? = some (.cells #[u] T2 (0, 0))
theorem PrK.below {B0 : Nat} {K : World → Prop} (hSt : StK B0 K) {v u : Value} {T1 T2 : TypeId} {B1 B2 : Nat} {W W' : World} (h : PrK K v u T1 T2 B1 B2 W) (hb : Below W.heap.size W W') : PrK K v u T1 T2 B1 B2 W' :=
  ⟨hSt.below _ _ h.b hb, (hb.block _ (heapLt h.one)).trans h.one, (hb.block _ (heapLt h.two)).trans h.two⟩
theorem PrK.grown {B0 : Nat} {K : World → Prop} (hSt : StK B0 K) {v u : Value} {T1 T2 : TypeId} {B1 B2 m : Nat} {W W' : World} {cs : Array Value} (h : PrK K v u T1 T2 B1 B2 W) (hg : W.grownBy W' (some m)) (hm : B0 ≤ m) (hc : W.heap[m]? = some (.cells cs 57 (0, 0))) (h1 : B1 ≠ m) (h2 : B2 ≠ m) : PrK K v u T1 T2 B1 B2 W' :=
  ⟨hSt.grown _ _ _ _ h.b hg hm hc, (hg.block _ (heapLt h.one) (fun e => h1 (Option.some.inj e))).trans h.one, (hg.block _ (heapLt h.two) (fun e => h2 (Option.some.inj e))).trans h.two⟩

set_option linter.unusedSimpArgs false in
set_option maxRecDepth 100000 in
set_option maxHeartbeats 16000000 in
theorem eobK_moves (n : Nat) (hn : 1 ≤ n) (a b : List Hd) (v u : Value) (B0 : Nat) (K : World → Prop) (hSt : StK B0 K) (B1 B2 : Nat) (hv : ∀ W, K W → HsS W W.heap.size a v) (hu : ∀ W, K W → HsS W W.heap.size b u) (hla : a.length ≤ 1000000) (hlb : b.length ≤ 1000000) :
    Moves2 Fence.wide n Try.prog 31 (fun l => #[] ++ #[.func (.yield l) #[] #[]] ++ #[.pointer (some ⟨B1, 0, none⟩), .pointer (some ⟨B2, 0, none⟩)]) (fun x : EbX => #[.agg #[.bool x.e.1.1, .bool x.e.1.2], x.e.2.2]) (fun x W => PrK K v u 22 22 B1 B2 W ∧ (x.n = 0 ∨ EbH x W)) (EbT B0 a b) (EbE B0 a b) x0E := by
  intro lp A B X Z W hY hB h0
  have HV := Lib.hid hv
  have HU := Lib.hid hu
  have hPr0 := (hB _ W h0).1.1
  obtain ⟨o1, cap1, rfl, hc1, hm1, S1⟩ := SlOf.open (hv W hPr0.b).1
  obtain ⟨o2, cap2, rfl, hc2, hm2, S2⟩ := SlOf.open (hu W hPr0.b).1
  have HY := Lib.hid hY
  have HB := Lib.hid hB
  have HB0 := Lib.hid h0
  have HPr0 := Lib.hid hPr0
  clear hY hB hv hu h0 hPr0
  simp only [List.append_toArray, List.cons_append, List.nil_append, List.append_nil]
  refine callsIn_of_wp Try.func31 rfl trivial ?_ rfl
  simp only [Try.ntmps31, List.size_toArray, List.length_cons, List.length_nil, Nat.reduceAdd, Nat.reduceSub, Array.replicate_succ, Array.replicate_zero, List.push_toArray, List.append_toArray, List.nil_append, List.cons_append]
  gi_wp2
  have hb0 : Below W.heap.size W (W.alloc (.cells #[.int .i64 0, .int .i64 0] 57)) := (Below.refl _ _).alloc (Nat.le_refl _) _
  have hr0 : (W.alloc (.cells #[.int .i64 0, .int .i64 0] 57)).heap[W.heap.size]? = some (.cells #[.int .i64 0, .int .i64 0] 57 (0, 0)) := World.alloc_heap_new W _
  have Hb0 := Lib.hid hb0
  have Hr0 := Lib.hid hr0
  clear hb0 hr0
  gi_loopw [4] (fun pv wr => ∃ (m i j : Nat) (x : EbX) (W4 : World), pv = .pointer (some ⟨m, 0, none⟩) ∧ i ≤ a.length ∧ j ≤ b.length ∧ wr.heap[m]? = some (.cells #[.int .i64 i, .int .i64 j] 57 (0, 0)) ∧ Hid (B0 ≤ m) ∧ Hid (PrK K (.slice o1 a.length cap1) (.slice o2 b.length cap2) 22 22 B1 B2 wr) ∧ Hid (B x W4) ∧ Hid (TmW B0 W4 wr) ∧ Hid ((bothL hdC a b).drop x.n = bothL hdC (a.drop i) (b.drop j)) ∧ Hid (x.n ≤ (bothL hdC a b).length) ∧ Hid (x.n ≤ i + j)) (fun pv wr => a.length + b.length - (match pv with | .pointer (some q) => (match wr.heap[q.block]? with | some (.cells cs _ _) => (intOf (cs.getD 0 undef)).toNat + (intOf (cs.getD 1 undef)).toNat | _ => 0) | _ => 0))
  case atStart => exact ⟨W.heap.size, 0, 0, _, W, rfl, Nat.zero_le _, Nat.zero_le _, Hr0.out, Lib.hid (hSt.size _ HPr0.out.b), Lib.hid (HPr0.out.below hSt Hb0.out), HB0, Lib.hid (TmW.below Hb0.out), Lib.hid rfl, Lib.hid (Nat.zero_le _), Lib.hid (Nat.zero_le _)⟩
  case round =>
    obtain ⟨m, i, j, x, W4, rfl, hi, hj, hm, Hm0, HPr, HBx, HTm, HDr, HLe, HNi⟩ := hrel
    have hbs := hSt.size _ HPr.out.b
    have hm0c : wr.cell? ⟨m, 0, none⟩ = some (.int .i64 i) := (row_cell hm 0).1
    have hm1c : wr.cell? ⟨m, 1, none⟩ = some (.int .i64 j) := (row_cell hm 1).1
    have hml := heapLt hm
    have c1 : wr.cell? ⟨B1, 0, none⟩ = some (.slice o1 a.length cap1) := (row_cell HPr.out.one 0).1
    have c2 : wr.cell? ⟨B2, 0, none⟩ = some (.slice o2 b.length cap2) := (row_cell HPr.out.two 0).1
    have l1 := heapLt HPr.out.one
    have l2 := heapLt HPr.out.two
    have HM := Lib.hid hm
    by_cases hor : i < a.length ∨ j < b.length
    · have hio : (i : Int) < (a.length : Int) ∨ (¬ (i : Int) < (a.length : Int) ∧ (j : Int) < (b.length : Int)) := by omega
      obtain ⟨p, q, h, r, hbo⟩ := both_ne (c := hdC) (A := a.drop i) (B := b.drop j) (by
        rcases hor with k | k
        · left; intro e; have := congrArg List.length e; rw [List.length_drop] at this; simp at this; omega
        · right; intro e; have := congrArg List.length e; rw [List.length_drop] at this; simp at this; omega)
      obtain ⟨Va, hVa⟩ : ∃ Va, Value.slice (if cap1 = i then o1 else o1.map fun a => a.add i) (a.length - i) (cap1 - i) = Va := ⟨_, rfl⟩
      obtain ⟨Vb, hVb⟩ : ∃ Vb, Value.slice (if cap2 = j then o2 else o2.map fun a => a.add j) (b.length - j) (cap2 - j) = Vb := ⟨_, rfl⟩
      have HRa := Lib.hid (fun w => run_slice_from o1 a.length cap1 i hi hc1 hm1 w)
      have HRb := Lib.hid (fun w => run_slice_from o2 b.length cap2 j hj hc2 hm2 w)
      have hHa := fun (W' : World) (hk : K W') => hs_drop (HV.out W' hk) hi
      have hHb := fun (W' : World) (hk : K W') => hs_drop (HU.out W' hk) hj
      rw [hVa] at HRa
      simp only [hVa] at hHa
      rw [hVb] at HRb
      simp only [hVb] at hHb
      have HC := Lib.hid (fun (W' : World) (hk : K W') => leastOf_c (a.drop i) (b.drop j) Va Vb p q h r W' (hHa W' hk) (hHb W' hk) hbo)
      have Hbo := Lib.hid hbo
      clear hHa hHb hVa hVb hbo hm
      rcases hio with h1 | ⟨h1, h2⟩
      · gi_wp2_with fail
        refine wpIn_wide.2 ?_
        refine wp_region_any (by kernel_rfl) ?_
        (try (change wpAny _ _ _ _ _ _ _ (World.drew _)))
        refine wpAny_say slotsE _ _ (SayB wr.drew (factsE (.slice o1 a.length cap1) (.slice o2 b.length cap2) Va Vb m i j p q h.2) 12 13 42 #[.bool false, .bool false] #[.bool p, .bool q]) (by kernel_rfl) (by kernel_rfl) (by kernel_rfl) (by kernel_rfl) (by kernel_rfl) ⟨?As0, ?As1, ?As2, ?As3, ?As4, ?As5, ?As6, ?As7, ?As8, ?As9, ?As10, ?As11, ?As12, ?As13, ?As14, trivial⟩ SayB.start ?Afin
        case As0 =>
          intro l val A' w' K hl hn' hd hF hfar hdep hK
          have e1 : A'.tmps[1]?.getD undef = .pointer (some ⟨B1, 0, none⟩) := hfar 1 (by decide)
          have cc := (hF.b.cell (p := ⟨B1, 0, none⟩) l1).trans c1
          unfold Oper.wp
          simp [execOp, e1, cc, go_sem, Result.andThen]
          exact hK _ _ (hF.read (by decide) (by decide) (factK_mk rfl rfl))
        case As1 =>
          intro l val A' w' K hl hn' hd hF hfar hdep hK
          have e1 : A'.tmps[4]?.getD undef = .pointer (some ⟨m, 0, none⟩) := hfar 4 (by decide)
          unfold Oper.wp
          simp [execOp, e1, go_sem, Result.andThen]
          exact hK _ _ (hF.read (by decide) (by decide) (factK_mk rfl rfl))
        case As2 =>
          intro l val A' w' K hl hn' hd hF hfar hdep hK
          have e1 : A'.tmps[24]?.getD undef = .pointer (some ⟨m, 0, none⟩) := (hdep 1 24 rfl (by kernel_rfl)).trans (hF.at (hd 1 (by kernel_rfl)) rfl)
          have cc := (hF.b.cell (p := ⟨m, 0, none⟩) hml).trans hm0c
          unfold Oper.wp
          simp [execOp, e1, cc, go_sem, Result.andThen]
          exact hK _ _ (hF.read (by decide) (by decide) (factK_mk rfl rfl))
        case As3 =>
          intro l val A' w' K hl hn' hd hF hfar hdep hK
          have e1 : A'.tmps[23]?.getD undef = .slice o1 a.length cap1 := (hdep 0 23 rfl (by kernel_rfl)).trans (hF.at (hd 0 (by kernel_rfl)) rfl)
          have e2 : A'.tmps[25]?.getD undef = .int .i64 i := (hdep 2 25 rfl (by kernel_rfl)).trans (hF.at (hd 2 (by kernel_rfl)) rfl)
          refine wp_slice_from rfl (by simpa [Act.eval] using e1) (by simpa [Act.eval] using e2) (HRa.out w') ?_
          exact hK _ _ (hF.read (by decide) (by decide) (factK_mk rfl rfl))
        case As4 =>
          intro l val A' w' K hl hn' hd hF hfar hdep hK
          have e1 : A'.tmps[2]?.getD undef = .pointer (some ⟨B2, 0, none⟩) := hfar 2 (by decide)
          have cc := (hF.b.cell (p := ⟨B2, 0, none⟩) l2).trans c2
          unfold Oper.wp
          simp [execOp, e1, cc, go_sem, Result.andThen]
          exact hK _ _ (hF.read (by decide) (by decide) (factK_mk rfl rfl))
        case As5 =>
          intro l val A' w' K hl hn' hd hF hfar hdep hK
          have e1 : A'.tmps[4]?.getD undef = .pointer (some ⟨m, 0, none⟩) := hfar 4 (by decide)
          unfold Oper.wp
          simp [execOp, e1, go_sem, Result.andThen]
          exact hK _ _ (hF.read (by decide) (by decide) (factK_mk rfl rfl))
        case As6 =>
          intro l val A' w' K hl hn' hd hF hfar hdep hK
          have e1 : A'.tmps[28]?.getD undef = .pointer (some ⟨m, 1, none⟩) := (hdep 5 28 rfl (by kernel_rfl)).trans (hF.at (hd 5 (by kernel_rfl)) rfl)
          have cc := (hF.b.cell (p := ⟨m, 1, none⟩) hml).trans hm1c
          unfold Oper.wp
          simp [execOp, e1, cc, go_sem, Result.andThen]
          exact hK _ _ (hF.read (by decide) (by decide) (factK_mk rfl rfl))
        case As7 =>
          intro l val A' w' K hl hn' hd hF hfar hdep hK
          have e1 : A'.tmps[27]?.getD undef = .slice o2 b.length cap2 := (hdep 4 27 rfl (by kernel_rfl)).trans (hF.at (hd 4 (by kernel_rfl)) rfl)
          have e2 : A'.tmps[29]?.getD undef = .int .i64 j := (hdep 6 29 rfl (by kernel_rfl)).trans (hF.at (hd 6 (by kernel_rfl)) rfl)
          refine wp_slice_from rfl (by simpa [Act.eval] using e1) (by simpa [Act.eval] using e2) (HRb.out w') ?_
          exact hK _ _ (hF.read (by decide) (by decide) (factK_mk rfl rfl))
        case As8 =>
          intro l val A' w' K hl hn' hd hF hfar hdep hK
          have e1 : A'.tmps[26]?.getD undef = Va := (hdep 3 26 rfl (by kernel_rfl)).trans (hF.at (hd 3 (by kernel_rfl)) rfl)
          have e2 : A'.tmps[30]?.getD undef = Vb := (hdep 7 30 rfl (by kernel_rfl)).trans (hF.at (hd 7 (by kernel_rfl)) rfl)
          have hcall := HC.out w' (hSt.below _ _ (hSt.below _ _ HPr.out.b (Below.refl _ wr).drew) hF.b)
          unfold Oper.wp
          go_simp
          refine hcall.mono ?_
          rintro e2' w2 ⟨rfl, b2⟩
          exact hK _ _ (hF.grow (by decide) (by decide) (factK_mk rfl rfl) b2)
        case As9 =>
          intro l val A' w' K hl hn' hd hF hfar hdep hK
          have e1 : A'.tmps[31]?.getD undef = .tuple #[.agg #[.bool p, .bool q], h.2] := (hdep 8 31 rfl (by kernel_rfl)).trans (hF.at (hd 8 (by kernel_rfl)) rfl)
          unfold Oper.wp
          simp [execOp, e1, go_sem, Result.andThen]
          exact hK _ _ (hF.read (by decide) (by decide) (factK_mk rfl rfl))
        case As10 =>
          intro l val A' w' K hl hn' hd hF hfar hdep hK
          have e1 : A'.tmps[22]?.getD undef = .tuple #[.agg #[.bool p, .bool q], h.2] := (hdep 9 22 rfl (by kernel_rfl)).trans (hF.at (hd 9 (by kernel_rfl)) rfl)
          unfold Oper.wp
          simp [execOp, e1, go_sem, Result.andThen]
          exact hK _ _ (hF.read (by decide) (by decide) (factK_mk rfl rfl))
        case As11 =>
          intro l val A' w' K hl hn' hd hF hfar hdep hK
          have e1 : A'.tmps[22]?.getD undef = .tuple #[.agg #[.bool p, .bool q], h.2] := (hdep 9 22 rfl (by kernel_rfl)).trans (hF.at (hd 9 (by kernel_rfl)) rfl)
          unfold Oper.wp
          simp [execOp, e1, go_sem, Result.andThen]
          exact hK _ _ (hF.read (by decide) (by decide) (factK_mk rfl rfl))
        case As12 =>
          intro l val A' w' K hl hn' hd hF hfar hdep hK
          unfold Oper.wp
          go_simp
          exact hK _ _ (hF.made (by decide) hn' (by rw [hl]; decide) (factK_mk rfl trivial))
        case As13 =>
          intro l val A' w' K hl hn' hd hF hfar hdep hK
          have e5 : A'.tmps[5]?.getD undef = val 12 := hdep 12 5 rfl (by kernel_rfl)
          have e2 : A'.tmps[32]?.getD undef = .agg #[.bool p, .bool q] := (hdep 10 32 rfl (by kernel_rfl)).trans (hF.at (hd 10 (by kernel_rfl)) rfl)
          obtain ⟨z, hz, hz0, hzr⟩ := hF.box (hd 12 (by kernel_rfl))
          rw [if_neg (by rw [hn']; simp)] at hzr
          rw [hz] at e5
          have k0 := (row_cell hzr 0).1
          have k1 := (row_cell hzr 1).1
          have f0 := (row_cell hzr 0).2
          have f1 := (row_cell hzr 1).2
          unfold Oper.wp
          simp [execOp, e5, e2, k0, k1, f0, f1, go_sem, Result.andThen]
          exact hK undef _ (hF.wrote (by decide) (hd 12 (by kernel_rfl)) (by rw [hl]; decide) (factK_mk rfl trivial) (fun z' hz' _ => by
            rw [hz] at hz'
            cases hz'
            exact ⟨grown_then (grown_set w' z 0 _) (grown_set _ z 1 _) (fun _ e => .inr e), set2_row hzr⟩))
        case As14 =>
          intro l val A' w' K hl hn' hd hF hfar hdep hK
          have e1 : A'.tmps[33]?.getD undef = h.2 := (hdep 11 33 rfl (by kernel_rfl)).trans (hF.at (hd 11 (by kernel_rfl)) rfl)
          unfold Oper.wp
          simp [execOp, e1, go_sem, Result.andThen]
          exact hK _ _ (hF.read (by decide) (by decide) (factK_mk rfl rfl))
        case Afin =>
          intro l val w3 hall hF
          have q0 := hF.at (hall 0 (by decide)) rfl
          have q1 := hF.at (hall 1 (by decide)) rfl
          have q2 := hF.at (hall 2 (by decide)) rfl
          have q3 := hF.at (hall 3 (by decide)) rfl
          have q4 := hF.at (hall 4 (by decide)) rfl
          have q5 := hF.at (hall 5 (by decide)) rfl
          have q6 := hF.at (hall 6 (by decide)) rfl
          have q7 := hF.at (hall 7 (by decide)) rfl
          have q8 := hF.at (hall 8 (by decide)) rfl
          have q9 := hF.at (hall 9 (by decide)) rfl
          have q10 := hF.at (hall 10 (by decide)) rfl
          have q11 := hF.at (hall 11 (by decide)) rfl
          have q14 := hF.at (hall 14 (by decide)) rfl
          obtain ⟨z, hz, hz0, hzr⟩ := hF.box (hall 12 (by decide))
          rw [if_pos (hall 13 (by decide))] at hzr
          have hb3 : Below wr.heap.size wr w3 := ((Below.refl _ wr).drew).trans hF.b
          simp only [slotsE, putsA, Nat.zero_add, Nat.reduceAdd]
          rw [q0, q1, q2, q3, q4, q5, q6, q7, q8, q9, q10, q11, q14, hz]
          have hz0' : wr.heap.size ≤ z := hz0
          clear q0 q1 q2 q3 q4 q5 q6 q7 q8 q9 q10 q11 q14 hz hz0 hF hall
          have HP3 := Lib.hid (HPr.out.below hSt hb3)
          have hm3 := (hb3.block _ hml).trans HM.out
          have HT3 := Lib.hid (HTm.out.then hb3)
          have hRn : (bothL hdC a b)[x.n]? = some ((p, q), h) := by
            have := congrArg (fun l => l[0]?) (HDr.out.trans Hbo.out)
            simpa using this
          have hA := (HB.out x W4 HBx.out).2.1 ⟨x.n + 1, ((p, q), h), i, j, m, z⟩ w3 ⟨rfl, hRn, HT3.out, hm3, hzr⟩
          obtain ⟨fn, tmps, assign, body, hyl, hR⟩ := HY.out _ _ hA
          have b0 := (row_cell hzr 0).1
          have b1 := (row_cell hzr 1).1
          have lz := heapLt hzr
          have HRn := Lib.hid hRn
          clear hA hRn hm3 hzr hb3
          try simp only at hR
          try go_simp
          gi_wp2_with fail
          refine hR.mono ?_
          rintro e W5 (⟨rfl, hB5⟩ | ⟨rfl, hX5⟩)
          · obtain ⟨⟨hP5, hH5⟩, _, _⟩ := HB.out _ W5 hB5
            have hH5 : EbH ⟨x.n + 1, ((p, q), h), i, j, m, z⟩ W5 := hH5.resolve_left (by simp)
            have HB5 := Lib.hid hB5
            have HP5 := Lib.hid hP5
            have HA5 : Hid (W5.heap[m]? = some (.cells #[.int .i64 i, .int .i64 j] 57 (0, 0))) := Lib.hid hH5.at_
            have z0 : W5.cell? ⟨z, 0, none⟩ = some (.bool p) := (row_cell hH5.in_ 0).1
            have z1 : W5.cell? ⟨z, 1, none⟩ = some (.bool q) := (row_cell hH5.in_ 1).1
            have lz5 := heapLt hH5.in_
            have HJ : Hid (i + p.toNat ≤ a.length ∧ j + q.toNat ≤ b.length ∧ 1 ≤ p.toNat + q.toNat) := Lib.hid (both_room Hbo.out hi hj)
            have HJ1 := HJ.out
            clear hR hB5 hP5 hH5 hyl b0 b1 lz
            gi_wp2
            gi_loopw [40] (fun kv wy => ∃ (k i' j' : Nat), kv = .int .i64 k ∧ k ≤ 2 ∧ wy.heap[m]? = some (.cells #[.int .i64 i', .int .i64 j'] 57 (0, 0)) ∧ i' = i + (if 0 < k then p.toNat else 0) ∧ j' = j + (if 1 < k then q.toNat else 0) ∧ Hid (W5.grownBy wy (some m))) (fun kv _ => 2 - (intOf kv).toNat)
            case atStart => exact ⟨0, i, j, rfl, by omega, HA5.out, by simp, by simp, Lib.hid (grown_refl _ _)⟩
            case round =>
              obtain ⟨k, i', j', rfl, hk2, hmy, hi', hj', HG⟩ := hrel
              have Hi' := Lib.hid hi'
              have Hj' := Lib.hid hj'
              have hmy0 := (row_cell hmy 0).1
              have hmy1 := (row_cell hmy 1).1
              have fmy0 := (row_cell hmy 0).2
              have fmy1 := (row_cell hmy 1).2
              have lmy := heapLt hmy
              have HMy := Lib.hid hmy
              have hi1 : i' ≤ 1000000 := by rw [hi']; split <;> omega
              have hj1' : j' ≤ 1000000 := by rw [hj']; split <;> omega
              have wi1 : IntKind.i64.wrap ((i' : Int) + 1) = (i' : Int) + 1 := by rw [IntKind.wrap_i64]; omega
              have wj1 : IntKind.i64.wrap ((j' : Int) + 1) = (j' : Int) + 1 := by rw [IntKind.wrap_i64]; omega
              clear hmy hi' hj'
              rcases (show k = 0 ∨ k = 1 ∨ k = 2 by omega) with rfl | rfl | rfl
              · cases p with
                | false =>
                  gi_wp2_with (refine wpListIn_ix rfl _ (.tmp 39) (.tmp 40) rfl (.bool false) (fun w => ix0 false q w) ?_)
                  gi_wp2
                  go_roundw
                  case rel => exact ⟨1, i', j', by go_num, by omega, HMy.out, by rw [Hi'.out]; simp, by rw [Hj'.out]; simp, HG⟩
                  case measure => simp [intOf]
                | true =>
                  gi_wp2_with (refine wpListIn_ix rfl _ (.tmp 39) (.tmp 40) rfl (.bool true) (fun w => ix0 true q w) ?_)
                  gi_wp2
                  go_roundw
                  case rel => exact ⟨1, i' + 1, j', by go_num, by omega, by have := set_heap (i := 0) HMy.out (.int .i64 ((i' : Int) + 1)); simpa using this, by rw [Hi'.out]; simp, by rw [Hj'.out]; simp, Lib.hid (grown_then HG.out (grown_set _ m 0 _) (fun _ e => .inr e))⟩
                  case measure => simp [intOf]
              · cases q with
                | false =>
                  gi_wp2_with (refine wpListIn_ix rfl _ (.tmp 39) (.tmp 40) rfl (.bool false) (fun w => ix1 p false w) ?_)
                  gi_wp2
                  go_roundw
                  case rel => exact ⟨2, i', j', by go_num, by omega, HMy.out, by rw [Hi'.out]; simp, by rw [Hj'.out]; simp, HG⟩
                  case measure => simp [intOf]
                | true =>
                  gi_wp2_with (refine wpListIn_ix rfl _ (.tmp 39) (.tmp 40) rfl (.bool true) (fun w => ix1 p true w) ?_)
                  gi_wp2
                  go_roundw
                  case rel => exact ⟨2, i', j' + 1, by go_num, by omega, by have := set_heap (i := 1) HMy.out (.int .i64 ((j' : Int) + 1)); simpa using this, by rw [Hi'.out]; simp, by rw [Hj'.out]; simp, Lib.hid (grown_then HG.out (grown_set _ m 1 _) (fun _ e => .inr e))⟩
                  case measure => simp [intOf]
              · have ei : i' = i + p.toNat := by rw [Hi'.out, if_pos (by omega)]
                have ej : j' = j + q.toNat := by rw [Hj'.out, if_pos (by omega)]
                have HTy : Hid (TmW B0 W5 wr) := Lib.hid ⟨some m, HG.out, fun _ e => by cases e; exact ⟨Hm0.out, _, HA5.out⟩⟩
                have hmb1 : B1 ≠ m := fun e => by have h1 := HP5.out.one; rw [e, HA5.out] at h1; cases h1
                have hmb2 : B2 ≠ m := fun e => by have h1 := HP5.out.two; rw [e, HA5.out] at h1; cases h1
                have HPy : Hid (PrK K (.slice o1 a.length cap1) (.slice o2 b.length cap2) 22 22 B1 B2 wr) := Lib.hid (HP5.out.grown hSt HG.out Hm0.out HA5.out hmb1 hmb2)
                have HDy : Hid ((bothL hdC a b).drop (x.n + 1) = bothL hdC (a.drop i') (b.drop j')) := Lib.hid (by
                  have e1 := both_step Hbo.out
                  rw [← List.drop_drop, HDr.out, Hbo.out, List.drop_succ_cons, List.drop_zero, e1, List.drop_drop, List.drop_drop, ei, ej])
                have HLy : Hid (x.n + 1 ≤ (bothL hdC a b).length) := Lib.hid (List.getElem?_eq_some_iff.1 HRn.out).1
                have hbn : Below wr.heap.size wr (wr.alloc (.cells #[.int .i64 i', .int .i64 j'] 57)) := (Below.refl _ _).alloc (Nat.le_refl _) _
                have hnew : (wr.alloc (.cells #[.int .i64 i', .int .i64 j'] 57)).heap[wr.heap.size]? = some (.cells #[.int .i64 i', .int .i64 j'] 57 (0, 0)) := World.alloc_heap_new wr _
                have HPn := Lib.hid (HPy.out.below hSt hbn)
                have HTn := Lib.hid (HTy.out.then hbn)
                have HNw := Lib.hid hnew
                have HMn : Hid (B0 ≤ wr.heap.size) := Lib.hid (hSt.size _ HPy.out.b)
                have HNy : Hid (x.n + 1 ≤ i' + j') := Lib.hid (by have := HNi.out; omega)
                have hi2 : i' ≤ a.length := by omega
                have hj2 : j' ≤ b.length := by omega
                have hme : i + j < i' + j' := by omega
                have hme2 : i' + j' ≤ a.length + b.length := by omega
                clear hbn hnew ei ej hmb1 hmb2 hi1 hj1' wi1 wj1 HJ1
                gi_wp2
                go_roundw
                case rel => exact ⟨wr.heap.size, i', j', ⟨x.n + 1, ((p, q), h), i, j, m, z⟩, W5, rfl, hi2, hj2, HNw.out, HMn, HPn, HB5, HTn, HDy, HLy, HNy⟩
                case measure =>
                  simp [(Array.getElem?_eq_some_iff.1 HNw.out).2, HM.out, intOf]
                  omega
          · have HX := Lib.hid hX5
            clear hR hX5 hyl
            gi_wp2
            refine bodyPost_ret (results_none rfl _ _ _) rfl ?_
            exact ⟨⟨_, rfl⟩, .inl HX.out⟩
      · gi_wp2_with fail
        refine wpIn_wide.2 ?_
        refine wp_region_any (by kernel_rfl) ?_
        (try (change wpAny _ _ _ _ _ _ _ (World.drew _)))
        refine wpAny_say slotsE _ _ (SayB wr.drew (factsE (.slice o1 a.length cap1) (.slice o2 b.length cap2) Va Vb m i j p q h.2) 12 13 42 #[.bool false, .bool false] #[.bool p, .bool q]) (by kernel_rfl) (by kernel_rfl) (by kernel_rfl) (by kernel_rfl) (by kernel_rfl) ⟨?Bs0, ?Bs1, ?Bs2, ?Bs3, ?Bs4, ?Bs5, ?Bs6, ?Bs7, ?Bs8, ?Bs9, ?Bs10, ?Bs11, ?Bs12, ?Bs13, ?Bs14, trivial⟩ SayB.start ?Bfin
        case Bs0 =>
          intro l val A' w' K hl hn' hd hF hfar hdep hK
          have e1 : A'.tmps[1]?.getD undef = .pointer (some ⟨B1, 0, none⟩) := hfar 1 (by decide)
          have cc := (hF.b.cell (p := ⟨B1, 0, none⟩) l1).trans c1
          unfold Oper.wp
          simp [execOp, e1, cc, go_sem, Result.andThen]
          exact hK _ _ (hF.read (by decide) (by decide) (factK_mk rfl rfl))
        case Bs1 =>
          intro l val A' w' K hl hn' hd hF hfar hdep hK
          have e1 : A'.tmps[4]?.getD undef = .pointer (some ⟨m, 0, none⟩) := hfar 4 (by decide)
          unfold Oper.wp
          simp [execOp, e1, go_sem, Result.andThen]
          exact hK _ _ (hF.read (by decide) (by decide) (factK_mk rfl rfl))
        case Bs2 =>
          intro l val A' w' K hl hn' hd hF hfar hdep hK
          have e1 : A'.tmps[24]?.getD undef = .pointer (some ⟨m, 0, none⟩) := (hdep 1 24 rfl (by kernel_rfl)).trans (hF.at (hd 1 (by kernel_rfl)) rfl)
          have cc := (hF.b.cell (p := ⟨m, 0, none⟩) hml).trans hm0c
          unfold Oper.wp
          simp [execOp, e1, cc, go_sem, Result.andThen]
          exact hK _ _ (hF.read (by decide) (by decide) (factK_mk rfl rfl))
        case Bs3 =>
          intro l val A' w' K hl hn' hd hF hfar hdep hK
          have e1 : A'.tmps[23]?.getD undef = .slice o1 a.length cap1 := (hdep 0 23 rfl (by kernel_rfl)).trans (hF.at (hd 0 (by kernel_rfl)) rfl)
          have e2 : A'.tmps[25]?.getD undef = .int .i64 i := (hdep 2 25 rfl (by kernel_rfl)).trans (hF.at (hd 2 (by kernel_rfl)) rfl)
          refine wp_slice_from rfl (by simpa [Act.eval] using e1) (by simpa [Act.eval] using e2) (HRa.out w') ?_
          exact hK _ _ (hF.read (by decide) (by decide) (factK_mk rfl rfl))
        case Bs4 =>
          intro l val A' w' K hl hn' hd hF hfar hdep hK
          have e1 : A'.tmps[2]?.getD undef = .pointer (some ⟨B2, 0, none⟩) := hfar 2 (by decide)
          have cc := (hF.b.cell (p := ⟨B2, 0, none⟩) l2).trans c2
          unfold Oper.wp
          simp [execOp, e1, cc, go_sem, Result.andThen]
          exact hK _ _ (hF.read (by decide) (by decide) (factK_mk rfl rfl))
        case Bs5 =>
          intro l val A' w' K hl hn' hd hF hfar hdep hK
          have e1 : A'.tmps[4]?.getD undef = .pointer (some ⟨m, 0, none⟩) := hfar 4 (by decide)
          unfold Oper.wp
          simp [execOp, e1, go_sem, Result.andThen]
          exact hK _ _ (hF.read (by decide) (by decide) (factK_mk rfl rfl))
        case Bs6 =>
          intro l val A' w' K hl hn' hd hF hfar hdep hK
          have e1 : A'.tmps[28]?.getD undef = .pointer (some ⟨m, 1, none⟩) := (hdep 5 28 rfl (by kernel_rfl)).trans (hF.at (hd 5 (by kernel_rfl)) rfl)
          have cc := (hF.b.cell (p := ⟨m, 1, none⟩) hml).trans hm1c
          unfold Oper.wp
          simp [execOp, e1, cc, go_sem, Result.andThen]
          exact hK _ _ (hF.read (by decide) (by decide) (factK_mk rfl rfl))
        case Bs7 =>
          intro l val A' w' K hl hn' hd hF hfar hdep hK
          have e1 : A'.tmps[27]?.getD undef = .slice o2 b.length cap2 := (hdep 4 27 rfl (by kernel_rfl)).trans (hF.at (hd 4 (by kernel_rfl)) rfl)
          have e2 : A'.tmps[29]?.getD undef = .int .i64 j := (hdep 6 29 rfl (by kernel_rfl)).trans (hF.at (hd 6 (by kernel_rfl)) rfl)
          refine wp_slice_from rfl (by simpa [Act.eval] using e1) (by simpa [Act.eval] using e2) (HRb.out w') ?_
          exact hK _ _ (hF.read (by decide) (by decide) (factK_mk rfl rfl))
        case Bs8 =>
          intro l val A' w' K hl hn' hd hF hfar hdep hK
          have e1 : A'.tmps[26]?.getD undef = Va := (hdep 3 26 rfl (by kernel_rfl)).trans (hF.at (hd 3 (by kernel_rfl)) rfl)
          have e2 : A'.tmps[30]?.getD undef = Vb := (hdep 7 30 rfl (by kernel_rfl)).trans (hF.at (hd 7 (by kernel_rfl)) rfl)
          have hcall := HC.out w' (hSt.below _ _ (hSt.below _ _ HPr.out.b (Below.refl _ wr).drew) hF.b)
          unfold Oper.wp
          go_simp
          refine hcall.mono ?_
          rintro e2' w2 ⟨rfl, b2⟩
          exact hK _ _ (hF.grow (by decide) (by decide) (factK_mk rfl rfl) b2)
        case Bs9 =>
          intro l val A' w' K hl hn' hd hF hfar hdep hK
          have e1 : A'.tmps[31]?.getD undef = .tuple #[.agg #[.bool p, .bool q], h.2] := (hdep 8 31 rfl (by kernel_rfl)).trans (hF.at (hd 8 (by kernel_rfl)) rfl)
          unfold Oper.wp
          simp [execOp, e1, go_sem, Result.andThen]
          exact hK _ _ (hF.read (by decide) (by decide) (factK_mk rfl rfl))
        case Bs10 =>
          intro l val A' w' K hl hn' hd hF hfar hdep hK
          have e1 : A'.tmps[22]?.getD undef = .tuple #[.agg #[.bool p, .bool q], h.2] := (hdep 9 22 rfl (by kernel_rfl)).trans (hF.at (hd 9 (by kernel_rfl)) rfl)
          unfold Oper.wp
          simp [execOp, e1, go_sem, Result.andThen]
          exact hK _ _ (hF.read (by decide) (by decide) (factK_mk rfl rfl))
        case Bs11 =>
          intro l val A' w' K hl hn' hd hF hfar hdep hK
          have e1 : A'.tmps[22]?.getD undef = .tuple #[.agg #[.bool p, .bool q], h.2] := (hdep 9 22 rfl (by kernel_rfl)).trans (hF.at (hd 9 (by kernel_rfl)) rfl)
          unfold Oper.wp
          simp [execOp, e1, go_sem, Result.andThen]
          exact hK _ _ (hF.read (by decide) (by decide) (factK_mk rfl rfl))
        case Bs12 =>
          intro l val A' w' K hl hn' hd hF hfar hdep hK
          unfold Oper.wp
          go_simp
          exact hK _ _ (hF.made (by decide) hn' (by rw [hl]; decide) (factK_mk rfl trivial))
        case Bs13 =>
          intro l val A' w' K hl hn' hd hF hfar hdep hK
          have e5 : A'.tmps[5]?.getD undef = val 12 := hdep 12 5 rfl (by kernel_rfl)
          have e2 : A'.tmps[32]?.getD undef = .agg #[.bool p, .bool q] := (hdep 10 32 rfl (by kernel_rfl)).trans (hF.at (hd 10 (by kernel_rfl)) rfl)
          obtain ⟨z, hz, hz0, hzr⟩ := hF.box (hd 12 (by kernel_rfl))
          rw [if_neg (by rw [hn']; simp)] at hzr
          rw [hz] at e5
          have k0 := (row_cell hzr 0).1
          have k1 := (row_cell hzr 1).1
          have f0 := (row_cell hzr 0).2
          have f1 := (row_cell hzr 1).2
          unfold Oper.wp
          simp [execOp, e5, e2, k0, k1, f0, f1, go_sem, Result.andThen]
          exact hK undef _ (hF.wrote (by decide) (hd 12 (by kernel_rfl)) (by rw [hl]; decide) (factK_mk rfl trivial) (fun z' hz' _ => by
            rw [hz] at hz'
            cases hz'
            exact ⟨grown_then (grown_set w' z 0 _) (grown_set _ z 1 _) (fun _ e => .inr e), set2_row hzr⟩))
        case Bs14 =>
          intro l val A' w' K hl hn' hd hF hfar hdep hK
          have e1 : A'.tmps[33]?.getD undef = h.2 := (hdep 11 33 rfl (by kernel_rfl)).trans (hF.at (hd 11 (by kernel_rfl)) rfl)
          unfold Oper.wp
          simp [execOp, e1, go_sem, Result.andThen]
          exact hK _ _ (hF.read (by decide) (by decide) (factK_mk rfl rfl))
        case Bfin =>
          intro l val w3 hall hF
          have q0 := hF.at (hall 0 (by decide)) rfl
          have q1 := hF.at (hall 1 (by decide)) rfl
          have q2 := hF.at (hall 2 (by decide)) rfl
          have q3 := hF.at (hall 3 (by decide)) rfl
          have q4 := hF.at (hall 4 (by decide)) rfl
          have q5 := hF.at (hall 5 (by decide)) rfl
          have q6 := hF.at (hall 6 (by decide)) rfl
          have q7 := hF.at (hall 7 (by decide)) rfl
          have q8 := hF.at (hall 8 (by decide)) rfl
          have q9 := hF.at (hall 9 (by decide)) rfl
          have q10 := hF.at (hall 10 (by decide)) rfl
          have q11 := hF.at (hall 11 (by decide)) rfl
          have q14 := hF.at (hall 14 (by decide)) rfl
          obtain ⟨z, hz, hz0, hzr⟩ := hF.box (hall 12 (by decide))
          rw [if_pos (hall 13 (by decide))] at hzr
          have hb3 : Below wr.heap.size wr w3 := ((Below.refl _ wr).drew).trans hF.b
          simp only [slotsE, putsA, Nat.zero_add, Nat.reduceAdd]
          rw [q0, q1, q2, q3, q4, q5, q6, q7, q8, q9, q10, q11, q14, hz]
          have hz0' : wr.heap.size ≤ z := hz0
          clear q0 q1 q2 q3 q4 q5 q6 q7 q8 q9 q10 q11 q14 hz hz0 hF hall
          have HP3 := Lib.hid (HPr.out.below hSt hb3)
          have hm3 := (hb3.block _ hml).trans HM.out
          have HT3 := Lib.hid (HTm.out.then hb3)
          have hRn : (bothL hdC a b)[x.n]? = some ((p, q), h) := by
            have := congrArg (fun l => l[0]?) (HDr.out.trans Hbo.out)
            simpa using this
          have hA := (HB.out x W4 HBx.out).2.1 ⟨x.n + 1, ((p, q), h), i, j, m, z⟩ w3 ⟨rfl, hRn, HT3.out, hm3, hzr⟩
          obtain ⟨fn, tmps, assign, body, hyl, hR⟩ := HY.out _ _ hA
          have b0 := (row_cell hzr 0).1
          have b1 := (row_cell hzr 1).1
          have lz := heapLt hzr
          have HRn := Lib.hid hRn
          clear hA hRn hm3 hzr hb3
          try simp only at hR
          try go_simp
          gi_wp2_with fail
          refine hR.mono ?_
          rintro e W5 (⟨rfl, hB5⟩ | ⟨rfl, hX5⟩)
          · obtain ⟨⟨hP5, hH5⟩, _, _⟩ := HB.out _ W5 hB5
            have hH5 : EbH ⟨x.n + 1, ((p, q), h), i, j, m, z⟩ W5 := hH5.resolve_left (by simp)
            have HB5 := Lib.hid hB5
            have HP5 := Lib.hid hP5
            have HA5 : Hid (W5.heap[m]? = some (.cells #[.int .i64 i, .int .i64 j] 57 (0, 0))) := Lib.hid hH5.at_
            have z0 : W5.cell? ⟨z, 0, none⟩ = some (.bool p) := (row_cell hH5.in_ 0).1
            have z1 : W5.cell? ⟨z, 1, none⟩ = some (.bool q) := (row_cell hH5.in_ 1).1
            have lz5 := heapLt hH5.in_
            have HJ : Hid (i + p.toNat ≤ a.length ∧ j + q.toNat ≤ b.length ∧ 1 ≤ p.toNat + q.toNat) := Lib.hid (both_room Hbo.out hi hj)
            have HJ1 := HJ.out
            clear hR hB5 hP5 hH5 hyl b0 b1 lz
            gi_wp2
            gi_loopw [40] (fun kv wy => ∃ (k i' j' : Nat), kv = .int .i64 k ∧ k ≤ 2 ∧ wy.heap[m]? = some (.cells #[.int .i64 i', .int .i64 j'] 57 (0, 0)) ∧ i' = i + (if 0 < k then p.toNat else 0) ∧ j' = j + (if 1 < k then q.toNat else 0) ∧ Hid (W5.grownBy wy (some m))) (fun kv _ => 2 - (intOf kv).toNat)
            case atStart => exact ⟨0, i, j, rfl, by omega, HA5.out, by simp, by simp, Lib.hid (grown_refl _ _)⟩
            case round =>
              obtain ⟨k, i', j', rfl, hk2, hmy, hi', hj', HG⟩ := hrel
              have Hi' := Lib.hid hi'
              have Hj' := Lib.hid hj'
              have hmy0 := (row_cell hmy 0).1
              have hmy1 := (row_cell hmy 1).1
              have fmy0 := (row_cell hmy 0).2
              have fmy1 := (row_cell hmy 1).2
              have lmy := heapLt hmy
              have HMy := Lib.hid hmy
              have hi1 : i' ≤ 1000000 := by rw [hi']; split <;> omega
              have hj1' : j' ≤ 1000000 := by rw [hj']; split <;> omega
              have wi1 : IntKind.i64.wrap ((i' : Int) + 1) = (i' : Int) + 1 := by rw [IntKind.wrap_i64]; omega
              have wj1 : IntKind.i64.wrap ((j' : Int) + 1) = (j' : Int) + 1 := by rw [IntKind.wrap_i64]; omega
              clear hmy hi' hj'
              rcases (show k = 0 ∨ k = 1 ∨ k = 2 by omega) with rfl | rfl | rfl
              · cases p with
                | false =>
                  gi_wp2_with (refine wpListIn_ix rfl _ (.tmp 39) (.tmp 40) rfl (.bool false) (fun w => ix0 false q w) ?_)
                  gi_wp2
                  go_roundw
                  case rel => exact ⟨1, i', j', by go_num, by omega, HMy.out, by rw [Hi'.out]; simp, by rw [Hj'.out]; simp, HG⟩
                  case measure => simp [intOf]
                | true =>
                  gi_wp2_with (refine wpListIn_ix rfl _ (.tmp 39) (.tmp 40) rfl (.bool true) (fun w => ix0 true q w) ?_)
                  gi_wp2
                  go_roundw
                  case rel => exact ⟨1, i' + 1, j', by go_num, by omega, by have := set_heap (i := 0) HMy.out (.int .i64 ((i' : Int) + 1)); simpa using this, by rw [Hi'.out]; simp, by rw [Hj'.out]; simp, Lib.hid (grown_then HG.out (grown_set _ m 0 _) (fun _ e => .inr e))⟩
                  case measure => simp [intOf]
              · cases q with
                | false =>
                  gi_wp2_with (refine wpListIn_ix rfl _ (.tmp 39) (.tmp 40) rfl (.bool false) (fun w => ix1 p false w) ?_)
                  gi_wp2
                  go_roundw
                  case rel => exact ⟨2, i', j', by go_num, by omega, HMy.out, by rw [Hi'.out]; simp, by rw [Hj'.out]; simp, HG⟩
                  case measure => simp [intOf]
                | true =>
                  gi_wp2_with (refine wpListIn_ix rfl _ (.tmp 39) (.tmp 40) rfl (.bool true) (fun w => ix1 p true w) ?_)
                  gi_wp2
                  go_roundw
                  case rel => exact ⟨2, i', j' + 1, by go_num, by omega, by have := set_heap (i := 1) HMy.out (.int .i64 ((j' : Int) + 1)); simpa using this, by rw [Hi'.out]; simp, by rw [Hj'.out]; simp, Lib.hid (grown_then HG.out (grown_set _ m 1 _) (fun _ e => .inr e))⟩
                  case measure => simp [intOf]
              · have ei : i' = i + p.toNat := by rw [Hi'.out, if_pos (by omega)]
                have ej : j' = j + q.toNat := by rw [Hj'.out, if_pos (by omega)]
                have HTy : Hid (TmW B0 W5 wr) := Lib.hid ⟨some m, HG.out, fun _ e => by cases e; exact ⟨Hm0.out, _, HA5.out⟩⟩
                have hmb1 : B1 ≠ m := fun e => by have h1 := HP5.out.one; rw [e, HA5.out] at h1; cases h1
                have hmb2 : B2 ≠ m := fun e => by have h1 := HP5.out.two; rw [e, HA5.out] at h1; cases h1
                have HPy : Hid (PrK K (.slice o1 a.length cap1) (.slice o2 b.length cap2) 22 22 B1 B2 wr) := Lib.hid (HP5.out.grown hSt HG.out Hm0.out HA5.out hmb1 hmb2)
                have HDy : Hid ((bothL hdC a b).drop (x.n + 1) = bothL hdC (a.drop i') (b.drop j')) := Lib.hid (by
                  have e1 := both_step Hbo.out
                  rw [← List.drop_drop, HDr.out, Hbo.out, List.drop_succ_cons, List.drop_zero, e1, List.drop_drop, List.drop_drop, ei, ej])
                have HLy : Hid (x.n + 1 ≤ (bothL hdC a b).length) := Lib.hid (List.getElem?_eq_some_iff.1 HRn.out).1
                have hbn : Below wr.heap.size wr (wr.alloc (.cells #[.int .i64 i', .int .i64 j'] 57)) := (Below.refl _ _).alloc (Nat.le_refl _) _
                have hnew : (wr.alloc (.cells #[.int .i64 i', .int .i64 j'] 57)).heap[wr.heap.size]? = some (.cells #[.int .i64 i', .int .i64 j'] 57 (0, 0)) := World.alloc_heap_new wr _
                have HPn := Lib.hid (HPy.out.below hSt hbn)
                have HTn := Lib.hid (HTy.out.then hbn)
                have HNw := Lib.hid hnew
                have HMn : Hid (B0 ≤ wr.heap.size) := Lib.hid (hSt.size _ HPy.out.b)
                have HNy : Hid (x.n + 1 ≤ i' + j') := Lib.hid (by have := HNi.out; omega)
                have hi2 : i' ≤ a.length := by omega
                have hj2 : j' ≤ b.length := by omega
                have hme : i + j < i' + j' := by omega
                have hme2 : i' + j' ≤ a.length + b.length := by omega
                clear hbn hnew ei ej hmb1 hmb2 hi1 hj1' wi1 wj1 HJ1
                gi_wp2
                go_roundw
                case rel => exact ⟨wr.heap.size, i', j', ⟨x.n + 1, ((p, q), h), i, j, m, z⟩, W5, rfl, hi2, hj2, HNw.out, HMn, HPn, HB5, HTn, HDy, HLy, HNy⟩
                case measure =>
                  simp [(Array.getElem?_eq_some_iff.1 HNw.out).2, HM.out, intOf]
                  omega
          · have HX := Lib.hid hX5
            clear hR hX5 hyl
            gi_wp2
            refine bodyPost_ret (results_none rfl _ _ _) rfl ?_
            exact ⟨⟨_, rfl⟩, .inl HX.out⟩
    · have hia : i = a.length := by omega
      have hjb : j = b.length := by omega
      subst hia hjb
      have HE := Lib.hid ((HB.out x W4 HBx.out).2.2 wr ⟨by
        have h1 := HDr.out
        have h2 := HLe.out
        rw [List.drop_length, List.drop_length] at h1
        have h3 := congrArg List.length h1
        rw [List.length_drop, both_nil] at h3
        simp at h3
        omega, HTm.out⟩)
      have n1 : ¬ (a.length : Int) < (a.length : Int) := by omega
      have n2 : ¬ (b.length : Int) < (b.length : Int) := by omega
      gi_wp2
      go_end0
      exact ⟨⟨_, rfl⟩, .inr HE.out⟩
end Go.Proofs.Ytphmiifochjemaa
