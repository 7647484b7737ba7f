/- dtype.typesOf: the types of a rule's variables, or what is wrong. -/
import Derived.Test.YtfcfehflocglpaaDoorKYplc
namespace Go.Proofs.YtfcfehflocglpaaDoor
open Go.RowKit Go.Shelf Go.Maps Go.WideMaps

attribute [local go_sem] Oper.semAt_some

theorem chkA_zero {ds : List De} : ∀ {l : List Am}, chkA ds l = 0 → ∀ t ∈ l, badA ds t = 0
  | [], _, _, h => by cases h
  | t :: l, h, x, hx => by
    unfold chkA at h
    by_cases h0 : badA ds t = 0
    · rw [if_pos h0] at h
      rcases List.mem_cons.1 hx with rfl | hx
      · exact h0
      · exact chkA_zero h x hx
    · rw [if_neg h0] at h
      exact absurd h h0
theorem results_cell2 {P : Program} {fn : Func} {p q : Tmp} {ty tz : TypeId} (h : fn.results = #[.cell p ty, .cell q tz]) (tmps : Array Value) (w : World) (b b2 : Nat) (v v2 : Value) (hp : tmps.getD p undef = .pointer (some ⟨b, 0, none⟩)) (hr : (loadVar ty ⟨b, 0, none⟩).run P w = .ok v w)
    (hq : tmps.getD q undef = .pointer (some ⟨b2, 0, none⟩)) (hr2 : (loadVar tz ⟨b2, 0, none⟩).run P w = .ok v2 w) :
    (results fn tmps).run P w = .ok (.tuple #[v, v2]) w := by
  have hp' : tmps[p]?.getD undef = .pointer (some ⟨b, 0, none⟩) := by simpa using hp
  have hq' : tmps[q]?.getD undef = .pointer (some ⟨b2, 0, none⟩) := by simpa using hq
  simp [results, h, hp', hq', asAddr, hr, hr2, Sem.run_bind, Result.andThen]
theorem loadVar_types {W : World} {b : Nat} {v : Value} (h : W.cell? ⟨b, 0, none⟩ = some v) : (loadVar 78 ⟨b, 0, none⟩).run Tryd.prog W = .ok v W := by
  have ha : ∀ w : World, (isAgg 78).run Tryd.prog w = .ok false w := fun w => by kernel_rfl
  have hl : b < W.heap.size := World.block_lt_of_cell? _ _ h
  unfold loadVar
  go_simp

theorem mapI_run {P : Program} {w : World} {kT eT : TypeId} {B n : Nat} {f : List UInt8 → Int} {c : Nat} (h : MapI P w kT eT B n f c) (t : TypeId) (ht : P.underlying t = some (.map kT eT)) (hkT : P.underlying kT = some .string) (heT : P.underlying eT = some (.int .i64))
    (hz : (zeroValue eT).run P w = .ok (.int .i64 0) w) (s : ByteArray) (hs : s.size ≤ maxLen) : (Instr.lookup t (.map (some B)) (.string s) false).run P w = .ok (.int .i64 (f s.data.toList)) w := by
  obtain ⟨D, h1, h2, h3, h4, h5⟩ := h
  obtain ⟨c, hrun, hat, hwc⟩ := h1.lookup_int (string_keyed hkT) ht heT hz (keyOf_string_mk hkT hs)
  rw [h3] at hat
  have : f s.data.toList = c := by simpa using hat
  subst this
  exact hrun
theorem set2 {W : World} {L1 L2 T1 T2 : Nat} {o1 o2 : Value} (v1 v2 : Value) (h1 : Boxed W L1 T1 o1) (h2 : Boxed W L2 T2 o2) (hne : L1 ≠ L2) :
    Boxed ((W.setCell ⟨L1, 0, none⟩ v1).setCell ⟨L2, 0, none⟩ v2) L1 T1 v1 ∧ Boxed ((W.setCell ⟨L1, 0, none⟩ v1).setCell ⟨L2, 0, none⟩ v2) L2 T2 v2 :=
  ⟨(Below.heap_setCell (W.setCell ⟨L1, 0, none⟩ v1) ⟨L2, 0, none⟩ v2 L1 hne).trans (Boxed.set v1 h1), Boxed.set v2 (show Boxed (W.setCell ⟨L1, 0, none⟩ v1) L2 T2 o2 from (Below.heap_setCell W ⟨L1, 0, none⟩ v1 L2 hne.symm).trans h2)⟩
/-- How the search for types ends. -/
inductive TypR (V : List (List UInt8)) (n0 : Nat) (w : World) (a c d : Addr) (ds : List De) (r : Ru) : Ending → World → Prop
  | atom {w' : World} : chkA ds (atomsR r) ≠ 0 → Below n0 w w' → TypR V n0 w a c d ds r (.returned (.tuple #[.map none, badV c d (chkA ds (atomsR r))])) w'
  | place {w' : World} : chkA ds (atomsR r) = 0 → learnL [] (baseL ds r) = none → Below n0 w w' → TypR V n0 w a c d ds r (.returned (.tuple #[.map none, errV a])) w'
  | other {w' : World} {K : Kn} : chkA ds (atomsR r) = 0 → learnL [] (baseL ds r) = some K → Rounds (prsL r.body) K none → Below n0 w w' → TypR V n0 w a c d ds r (.returned (.tuple #[.map none, errV a])) w'
  | left {w' : World} {K K' : Kn} : chkA ds (atomsR r) = 0 → learnL [] (baseL ds r) = some K → Rounds (prsL r.body) K (some K') → (∃ t ∈ termsR r, t.op = 1 ∧ look K' (nm t) = 0) → Below n0 w w' → TypR V n0 w a c d ds r (.returned (.tuple #[.map none, errV a])) w'
  | good {w' : World} {K K' : Kn} {B : Nat} : chkA ds (atomsR r) = 0 → learnL [] (baseL ds r) = some K → Rounds (prsL r.body) K (some K') → (∀ t ∈ termsR r, t.op = 1 → look K' (nm t) ≠ 0) → n0 ≤ B → KnM V w' B K' → Below n0 w w' → TypR V n0 w a c d ds r (.returned (.tuple #[.map (some B), .nilIface])) w'

set_option linter.unusedSimpArgs false in
set_option maxRecDepth 100000 in
set_option maxHeartbeats 8000000 in
theorem typesOf_in (ds : List De) (v : Value) (r : Ru) (cs : List Value) (V : List (List UInt8)) (hV : V.length ≤ 1000000) (a b' c d : Addr) (n0 : Nat) (w : World) (hn0 : w.heap.size = n0) (hd : SlOf w n0 6 (DeC w n0) ds v) (hc : RuC w n0 r cs)
    (hA : ∀ t ∈ atomsR r, ∀ u ∈ t.l, u.op = 1 → nm u ∈ V) (hL : ∀ l ∈ r.body, (l.x.op = 1 → nm l.x ∈ V) ∧ (l.y.op = 1 → nm l.y ∈ V)) (hT : ∀ t ∈ termsR r, GT V t) (hS : ∀ t ∈ termsR r, t.s.size ≤ maxLen) (hty : ∀ e ∈ ds, ∀ k ∈ e.types, k = 1 ∨ k = 2) (E : YEnv n0 a b' c d w) :
    CallsIn Fence.wide 6 Tryd.prog 42 #[v, .agg cs.toArray] w (TypR V n0 w a c d ds r) := by
  obtain ⟨o0, k0, o1, k1, rfl, _⟩ := hc.look
  have hmm := @run_makeMap Tryd.prog
  have HC := Lib.hid hc
  have HD := Lib.hid hd
  have HE := Lib.hid E
  have HA := Lib.hid hA
  have HLt := Lib.hid hL
  have HTt := Lib.hid hT
  have HSt := Lib.hid hS
  have Hty := Lib.hid hty
  clear hc hd E hA hL hT hty hS
  refine callsIn_of_wp_marks Tryd.func42 rfl trivial ?_ rfl
  simp only [Tryd.ntmps42, List.size_toArray, List.length_cons, List.length_nil, Nat.reduceAdd, Nat.reduceSub, Array.replicate_succ, Array.replicate_zero, List.push_toArray, List.append_toArray, List.nil_append, List.cons_append]
  gi_wp2_with fail
  obtain ⟨W3, hW3⟩ : ∃ W3, (((w.alloc (.cells #[.string r.head.rel, .slice o0 r.head.l.length k0, .slice o1 r.body.length k1, .int .i64 r.line] 27)).alloc (.cells #[.map none] 78)).alloc (.cells #[.nilIface] 80)) = W3 := ⟨_, rfl⟩
  have hs3 : W3.heap.size = n0 + 3 := by rw [← hW3]; simp; omega
  have hb3 : Below n0 w W3 := by
    rw [← hW3]
    exact (((Below.refl n0 w).alloc (by omega) _).alloc (by simp; omega) _).alloc (by simp; omega) _
  have rr3 : W3.heap[n0]? = some (.cells #[.string r.head.rel, .slice o0 r.head.l.length k0, .slice o1 r.body.length k1, .int .i64 r.line] 27 (0, 0)) := by
    rw [← hW3]
    refine (Below.heap_alloc _ _ _ (by simp; omega)).trans ((Below.heap_alloc _ _ _ (by simp; omega)).trans ?_)
    have := World.alloc_heap_new w (.cells #[.string r.head.rel, .slice o0 r.head.l.length k0, .slice o1 r.body.length k1, .int .i64 r.line] 27)
    rwa [hn0] at this
  have bm3 : Boxed W3 (n0 + 1) 78 (.map none) := by
    have := (Boxed.new (w.alloc (.cells #[.string r.head.rel, .slice o0 r.head.l.length k0, .slice o1 r.body.length k1, .int .i64 r.line] 27)) 78 (.map none)).alloc (.cells #[.nilIface] 80)
    rw [hW3] at this
    simpa [hn0] using this
  have be3 : Boxed W3 (n0 + 1 + 1) 80 .nilIface := by
    have := Boxed.new ((w.alloc (.cells #[.string r.head.rel, .slice o0 r.head.l.length k0, .slice o1 r.body.length k1, .int .i64 r.line] 27)).alloc (.cells #[.map none] 78)) 80 .nilIface
    rw [hW3] at this
    simpa [hn0] using this
  rw [hW3]
  clear hW3
  have H1 := Lib.hid (checkAtoms_c ds v r _ n0 a b' c d W3 (SlOf.decl HD.out hb3 (Nat.le_refl _)) (HC.out.below hb3) (by omega) (HE.out.below hb3))
  refine ⟨trivial, (callsIn_wide.2 H1.out).mono ?_⟩
  rintro e w1 ⟨rfl, b1⟩
  have B1 : Below n0 w w1 := hb3.trans (b1.mono (by omega))
  have bm1 : Boxed w1 (n0 + 1) 78 (.map none) := (b1.block _ (by omega)).trans bm3
  have be1 : Boxed w1 (n0 + 1 + 1) 80 .nilIface := (b1.block _ (by omega)).trans be3
  have rr1 : w1.heap[n0]? = some (.cells #[.string r.head.rel, .slice o0 r.head.l.length k0, .slice o1 r.body.length k1, .int .i64 r.line] 27 (0, 0)) := (b1.block _ (by omega)).trans rr3
  have hs1 := b1.size
  have Hbm := Lib.hid bm1
  have Hbe := Lib.hid be1
  have Hrr := Lib.hid rr1
  have HB1 := Lib.hid B1
  clear b1 B1 hb3 bm3 be3 rr3 H1
  by_cases hk : chkA ds (atomsR r) = 0
  · rw [hk]
    have hbad := chkA_zero hk
    have Hk := Lib.hid hk
    have hG : ∀ t ∈ atomsR r, GA ds V t := fun t ht => ⟨hbad t ht, HA.out t ht⟩
    have HG := Lib.hid hG
    have s0 : w1.cell? ⟨n0, 0, none⟩ = some (.string r.head.rel) := by unfold World.cell?; rw [rr1]; rfl
    have s1 : w1.cell? ⟨n0, 1, none⟩ = some (.slice o0 r.head.l.length k0) := by unfold World.cell?; rw [rr1]; rfl
    have s2 : w1.cell? ⟨n0, 2, none⟩ = some (.slice o1 r.body.length k1) := by unfold World.cell?; rw [rr1]; rfl
    have s3 : w1.cell? ⟨n0, 3, none⟩ = some (.int .i64 r.line) := by unfold World.cell?; rw [rr1]; rfl
    have hl0 : n0 < w1.heap.size := by omega
    clear hk hbad hG bm1 be1 rr1
    unfold badV
    gi_wp2_with fail
    obtain ⟨m, hm⟩ : ∃ m, w1.heap.size = m := ⟨_, rfl⟩
    obtain ⟨W5, hW5⟩ : ∃ W5, ((w1.alloc (.map #[] 0)).alloc (.cells #[.map (some w1.heap.size)] 78)) = W5 := ⟨_, rfl⟩
    have hs5 : W5.heap.size = m + 2 := by rw [← hW5]; simp; omega
    have hb5 : Below w1.heap.size w1 W5 := by rw [← hW5]; exact ((Below.refl _ _).alloc (Nat.le_refl _) _).alloc (by simp) _
    have M5 : KnM V W5 m [] := ⟨by
      have := (mapI_made Tryd.prog w1 9 3).alloc (.cells #[.map (some w1.heap.size)] 78)
      rw [hW5, hm] at this
      exact this, ⟨fun _ h => (by cases h), List.nodup_nil⟩, fun _ h => (by cases h), fun _ h => (by cases h)⟩
    have bk5 : Boxed W5 (m + 1) 78 (.map (some m)) := by
      have := Boxed.new (w1.alloc (.map #[] 0)) 78 (.map (some w1.heap.size))
      rw [hW5] at this
      simpa [hm] using this
    have HB5 := Lib.hid (HB1.out.trans (hb5.mono (by omega)))
    have HP := Lib.hid (places_c ds v r _ m n0 V hV [] a b' c d W5 (SlOf.decl HD.out HB5.out (Nat.le_refl _)) (HC.out.below HB5.out) (by omega) M5 HG.out HLt.out HTt.out Hty.out (HE.out.below HB5.out))
    have Hbk := Lib.hid bk5
    have hm3 : n0 + 3 ≤ m := by omega
    have Hb5 := Lib.hid hb5
    rw [hW5, hm]
    refine ⟨trivial, (callsIn_wide.2 HP.out).mono ?_⟩
    rintro e w2 hR
    clear hW5 M5 bk5 hb5 s0 s1 s2 s3
    cases hl : learnL [] (baseL ds r) with
    | none =>
      rw [hl] at hR
      cases hR with
      | bad hg =>
      have B2 : Hid (Below n0 w w2) := Lib.hid (HB5.out.trans (gBelow hg (by omega) (by omega)))
      have gm : ∀ q, q < n0 + 3 → w2.heap[q]? = w1.heap[q]? := fun q hq => (hg.block q (by omega) (fun e => by have := Option.some.inj e; omega)).trans (Hb5.out.block q (by omega))
      have bm2 : Boxed w2 (n0 + 1) 78 (.map none) := (gm _ (by omega)).trans Hbm.out
      have be2 : Boxed w2 (n0 + 1 + 1) 80 .nilIface := (gm _ (by omega)).trans Hbe.out
      have Hl := Lib.hid hl
      have Hbm2 := Lib.hid bm2
      have Hbe2 := Lib.hid be2
      have c1 := bm2.cell
      have f1 := bm2.frozen
      have c2 := be2.cell
      have f2 := be2.frozen
      have z2 := be2.lt
      clear hl hg gm bm2 be2
      unfold errV
      gi_wp2
      obtain ⟨x1, x2⟩ := set2 (.map none) (errV a) Hbm2.out Hbe2.out (by omega)
      refine ⟨_, results_cell2 rfl _ _ (n0 + 1) (n0 + 1 + 1) _ _ rfl (loadVar_types x1.cell) rfl (loadVar_err x2.cell), ?_⟩
      exact .place Hk.out Hl.out ((B2.out.setCell (p := ⟨n0 + 1, 0, none⟩) (by show n0 ≤ n0 + 1; omega) _).setCell (p := ⟨n0 + 1 + 1, 0, none⟩) (by show n0 ≤ n0 + 1 + 1; omega) _)
    | some K0 =>
      rw [hl] at hR
      cases hR with
      | good hmK hg =>
      have gm : ∀ q, q < n0 + 3 → w2.heap[q]? = w1.heap[q]? := fun q hq => (hg.block q (by omega) (fun e => by have := Option.some.inj e; omega)).trans (Hb5.out.block q (by omega))
      have rr2 : w2.heap[n0]? = some (.cells #[.string r.head.rel, .slice o0 r.head.l.length k0, .slice o1 r.body.length k1, .int .i64 r.line] 27 (0, 0)) := (gm _ (by omega)).trans Hrr.out
      have bk2 : Boxed w2 (m + 1) 78 (.map (some m)) := (hg.block _ (by omega) (fun e => by have := Option.some.inj e; omega)).trans Hbk.out
      have hs2 := hg.size
      have B2 : Hid (Below n0 w w2) := Lib.hid (HB5.out.trans (gBelow hg (by omega) (by omega)))
      have HO := Lib.hid (eachOther_c r _ m n0 V hV K0 a b' c d w2 (HC.out.below B2.out) (by omega) hmK HLt.out (HE.out.below B2.out))
      have s0 : w2.cell? ⟨n0, 0, none⟩ = some (.string r.head.rel) := by unfold World.cell?; rw [rr2]; rfl
      have s1 : w2.cell? ⟨n0, 1, none⟩ = some (.slice o0 r.head.l.length k0) := by unfold World.cell?; rw [rr2]; rfl
      have s2 : w2.cell? ⟨n0, 2, none⟩ = some (.slice o1 r.body.length k1) := by unfold World.cell?; rw [rr2]; rfl
      have s3 : w2.cell? ⟨n0, 3, none⟩ = some (.int .i64 r.line) := by unfold World.cell?; rw [rr2]; rfl
      have s4 := bk2.cell
      have hl4 : n0 < w2.heap.size := by omega
      have hl5 : m + 1 < w2.heap.size := by omega
      have Hl := Lib.hid hl
      have Hgm := Lib.hid gm
      have Hrr2 := Lib.hid rr2
      have Hbk2 := Lib.hid bk2
      have HmK := Lib.hid hmK
      clear hl hg gm rr2 bk2 hmK
      gi_wp2_with fail
      refine ⟨trivial, (callsIn_wide.2 HO.out).mono ?_⟩
      rintro e w3 ⟨rr, hRo, hR⟩
      cases hR with
      | bad hg =>
        have B3 : Hid (Below n0 w w3) := Lib.hid (B2.out.trans (gBelow hg (by omega) (by omega)))
        have gm : ∀ q, q < n0 + 3 → w3.heap[q]? = w1.heap[q]? := fun q hq => (hg.block q (by omega) (fun e => by have := Option.some.inj e; omega)).trans (Hgm.out q hq)
        have bm2 : Boxed w3 (n0 + 1) 78 (.map none) := (gm _ (by omega)).trans Hbm.out
        have be2 : Boxed w3 (n0 + 1 + 1) 80 .nilIface := (gm _ (by omega)).trans Hbe.out
        have HRo := Lib.hid hRo
        have Hbm2 := Lib.hid bm2
        have Hbe2 := Lib.hid be2
        have c1 := bm2.cell
        have f1 := bm2.frozen
        have c2 := be2.cell
        have f2 := be2.frozen
        have z2 := be2.lt
        clear hRo hg gm bm2 be2 s0 s1 s2 s3 s4
        unfold errV
        gi_wp2
        obtain ⟨x1, x2⟩ := set2 (.map none) (errV a) Hbm2.out Hbe2.out (by omega)
        refine ⟨_, results_cell2 rfl _ _ (n0 + 1) (n0 + 1 + 1) _ _ rfl (loadVar_types x1.cell) rfl (loadVar_err x2.cell), ?_⟩
        exact .other Hk.out Hl.out HRo.out ((B3.out.setCell (p := ⟨n0 + 1, 0, none⟩) (by show n0 ≤ n0 + 1; omega) _).setCell (p := ⟨n0 + 1 + 1, 0, none⟩) (by show n0 ≤ n0 + 1 + 1; omega) _)
      | @good K1 _ hm3K hg =>
        clear s0 s1 s2 s3 s4
        have rr3 : w3.heap[n0]? = some (.cells #[.string r.head.rel, .slice o0 r.head.l.length k0, .slice o1 r.body.length k1, .int .i64 r.line] 27 (0, 0)) := (hg.block _ (by omega) (fun e => by have := Option.some.inj e; omega)).trans Hrr2.out
        have bk3 : Boxed w3 (m + 1) 78 (.map (some m)) := (hg.block _ (by omega) (fun e => by have := Option.some.inj e; omega)).trans Hbk2.out
        have hs3w := hg.size
        have B3 : Hid (Below n0 w w3) := Lib.hid (B2.out.trans (gBelow hg (by omega) (by omega)))
        have s0 : w3.cell? ⟨n0, 0, none⟩ = some (.string r.head.rel) := by unfold World.cell?; rw [rr3]; rfl
        have s1 : w3.cell? ⟨n0, 1, none⟩ = some (.slice o0 r.head.l.length k0) := by unfold World.cell?; rw [rr3]; rfl
        have s2 : w3.cell? ⟨n0, 2, none⟩ = some (.slice o1 r.body.length k1) := by unfold World.cell?; rw [rr3]; rfl
        have s3 : w3.cell? ⟨n0, 3, none⟩ = some (.int .i64 r.line) := by unfold World.cell?; rw [rr3]; rfl
        have hl6 : n0 < w3.heap.size := by omega
        have gm : ∀ q, q < n0 + 3 → w3.heap[q]? = w1.heap[q]? := fun q hq => (hg.block q (by omega) (fun e => by have := Option.some.inj e; omega)).trans (Hgm.out q hq)
        have bm3 : Boxed w3 (n0 + 1) 78 (.map none) := (gm _ (by omega)).trans Hbm.out
        have be3 : Boxed w3 (n0 + 1 + 1) 80 .nilIface := (gm _ (by omega)).trans Hbe.out
        have HRo := Lib.hid hRo
        clear hRo hg gm rr3
        gi_wp2_with fail
        have HY2 := Lib.hid (yeach_in 5 r _ w3 ((HC.out.below B3.out).more (by omega)))
        refine ⟨trivial, HY2.out.mono ?_⟩
        rintro e W6 ⟨rfl, hW6⟩
        gi_wp2_with fail
        rw [← hW6]
        have hs6 : W6.heap.size = w3.heap.size + 1 := by rw [hW6]; simp
        have hb6 : Below w3.heap.size w3 W6 := by rw [hW6]; exact (Below.refl _ _).alloc (Nat.le_refl _) _
        have row6 : W6.heap[w3.heap.size]? = some (.cells #[.string r.head.rel, .slice o0 r.head.l.length k0, .slice o1 r.body.length k1, .int .i64 r.line] 27 (0, 0)) := by rw [hW6]; exact World.alloc_heap_new w3 _
        have hB6 : CellsAt W6 ⟨w3.heap.size, 0, none⟩ 0 [.string r.head.rel, .slice o0 r.head.l.length k0, .slice o1 r.body.length k1, .int .i64 r.line] := fun j c hj => by
          rw [Nat.zero_add]
          exact World.news_of_block row6 j c (by simpa using hj)
        have hb06 : Below n0 w W6 := B3.out.trans (hb6.mono (by omega))
        have hc6 := HC.out.below hb06
        have safe6 : Safe (fun _ _ => False) W6 W6 := fun p c hp => ⟨hp, World.block_lt_of_cell? _ _ hp, id⟩
        have M6 : KnM V W6 m K1 := hm3K.below hb6 hm3K.lt
        have bk6 : Boxed W6 (m + 1) 78 (.map (some m)) := (hb6.block _ (by omega)).trans bk3
        have bm6 : Boxed W6 (n0 + 1) 78 (.map none) := (hb6.block _ (by omega)).trans bm3
        have be6 : Boxed W6 (n0 + 1 + 1) 80 .nilIface := (hb6.block _ (by omega)).trans be3
        clear hW6 s0 s1 s2 s3 HY2 bk3 bm3 be3 hm3K
        refine wpIn_rangeFunc_ownH rfl (by omega) (gf := 87) (lb := #[.pointer (some ⟨w3.heap.size, 0, none⟩)]) rfl trivial (enters_of Tryd.func87 (by kernel_rfl) rfl)
          (yeach_stops 5 w3.heap.size n0 r [.string r.head.rel, .slice o0 r.head.l.length k0, .slice o1 r.body.length k1, .int .i64 r.line] W6 W6 (fun _ _ => False) (fun _ _ _ _ _ h => h) safe6 (fun _ h => h.elim) hB6 hc6 (G := fun t => t.s.size ≤ maxLen) HSt.out) (fun h k => h.trans k) ?hKb (Below.refl _ _) (fun _ => rfl)
          (fun pre W => (∀ x ∈ pre, x.t.op = 1 → look K1 (nm x.t) ≠ 0) ∧ Below W6.heap.size W6 W)
          (fun cd pre W => (cd = .ret ∧ (∃ x ∈ pre, x.t.op = 1 ∧ look K1 (nm x.t) = 0) ∧ Boxed W (n0 + 1) 78 (.map none) ∧ Boxed W (n0 + 1 + 1) 80 (errV a)) ∧ Below n0 w W) ?hI ?hIx ⟨by simp, Below.refl _ _⟩
          (fun x a' W => ∃ Bx, W.heap[Bx]? = some (.cells x.cs.toArray 43 (0, 0)) ∧ w3.heap.size + 1 ≤ Bx ∧ a' = { tmps := #[v, .agg #[.string r.head.rel, .slice o0 r.head.l.length k0, .slice o1 r.body.length k1, .int .i64 r.line], undef, .pointer (some ⟨n0, 0, none⟩), .pointer (some ⟨n0 + 1, 0, none⟩), .pointer (some ⟨n0 + 1 + 1, 0, none⟩), .nilIface, .pointer (some ⟨m + 1, 0, none⟩), .nilIface, .nilIface, .pointer (some ⟨Bx, 0, none⟩), v, .agg #[.string r.head.rel, .slice o0 r.head.l.length k0, .slice o1 r.body.length k1, .int .i64 r.line], .nilIface, .nilIface, .bool false, undef, .map (some m), .map (some m), v, .agg #[.string r.head.rel, .slice o0 r.head.l.length k0, .slice o1 r.body.length k1, .int .i64 r.line], .nilIface, .nilIface, .bool false, undef, .map (some m), .agg #[.string r.head.rel, .slice o0 r.head.l.length k0, .slice o1 r.body.length k1, .int .i64 r.line], .nilIface, .nilIface, .bool false, undef, .agg #[.string r.head.rel, .slice o0 r.head.l.length k0, .slice o1 r.body.length k1, .int .i64 r.line], .func (.func 87) #[] #[.pointer (some ⟨w3.heap.size, 0, none⟩)], .agg x.cs.toArray, undef, undef, undef, undef, undef, undef, undef, undef, undef, undef, undef, undef], defers := [] })
          ?hAx ?assign ?body ?done ?stop
        case hKb =>
          intro W l o o' hl ho hc _
          exact ⟨by simp, fun i x hi hx _ => (World.putObj_heap_other (by rintro rfl; rw [ho] at hi; cases hi; rw [hc] at hx; cases hx)).trans hi, fun _ h => h.elim, fun _ _ h => h.elim⟩
        case hI =>
          rintro pre A B1 row ⟨h1, h2⟩ hg hr
          exact ⟨h1, ownFrom_below (β := Unit) (Nat.le_refl _) (Nat.le_refl _) () A B1 row h2 hg hr⟩
        case hIx =>
          rintro cd pre A B1 row ⟨⟨h0, h1, h2, h3⟩, h4⟩ hg hr
          exact ⟨⟨h0, h1, boxed_own (n0 + 1) 78 (fun (_ : Unit) => .map none) () A B1 row h2 hg (fun r e => (hr r e).2), boxed_own (n0 + 1 + 1) 80 (fun (_ : Unit) => errV a) () A B1 row h3 hg (fun r e => (hr r e).2)⟩, ownFrom_below (β := Unit) (by omega) (by omega) () A B1 row h4 hg hr⟩
        case hAx =>
          rintro x a' _ A B1 row ⟨Bx, h1, h2, h3⟩ hg hr
          refine ⟨Bx, (hg.block Bx (Array.getElem?_eq_some_iff.1 h1).1 (fun e => ?_)).trans h1, h2, h3⟩
          obtain ⟨_, o', ho', hc'⟩ := hr _ e.symm
          rw [h1] at ho'
          cases ho'
          cases hc'
        case assign =>
          rintro lp pre ⟨t', cs', ok', gd'⟩ W K1' ⟨h1, h2⟩ hK
          obtain ⟨p', q', rfl, _⟩ := ok'.look
          have hb1 := (Below.refl W.heap.size W).alloc (Nat.le_refl _) (.cells #[.int .i64 t'.op, .string t'.s, .int .i64 t'.n, .slice p' t'.l.length q'] 43)
          have hko : KO (fun _ _ => False) W (W.alloc (.cells #[.int .i64 t'.op, .string t'.s, .int .i64 t'.n, .slice p' t'.l.length q'] 43)) := KO.of_below (fun _ _ _ _ _ h => h) (fun _ h => h.elim) hb1
          have HK := Lib.hid (hK _ _ ((KeepsOthers.alloc W _).from _) hko ⟨h1, h2.trans (hb1.mono h2.size)⟩ ⟨W.heap.size, World.alloc_heap_new W _, by have := h2.size; omega, rfl⟩)
          clear hK h1 h2 hb1 hko
          simp only [Ne.enc]
          gi_wp2
          exact HK.out
        case body =>
          rintro lp pre ⟨t', cs', ok', gd'⟩ a' W hlp hrec ⟨h1, h2⟩ ⟨Bx, hrow, hBx, rfl⟩ hlen2
          obtain ⟨p', q', rfl, _⟩ := ok'.look
          have e0 : W.cell? ⟨Bx, 0, none⟩ = some (.int .i64 t'.op) := by unfold World.cell?; rw [hrow]; rfl
          have e1 : W.cell? ⟨Bx, 1, none⟩ = some (.string t'.s) := by unfold World.cell?; rw [hrow]; rfl
          have hBl : Bx < W.heap.size := (Array.getElem?_eq_some_iff.1 hrow).1
          have hWs := h2.size
          have hkW := Boxed.cell (show Boxed W (m + 1) 78 (.map (some m)) from (h2.block _ (by omega)).trans bk6)
          have hkl : m + 1 < W.heap.size := by omega
          have zE : ∀ w : World, (zeroValue 3).run Tryd.prog w = .ok (.int .i64 0) w := fun w => by kernel_rfl
          have Hm := Lib.hid (M6.below h2 (by omega) : KnM V W m K1)
          have hrun := mapI_run Hm.out.map 78 Tryd.underlying78 Tryd.underlying9 Tryd.underlying3 (zE _) t'.s gd'
          have bmW : Boxed W (n0 + 1) 78 (.map none) := (h2.block _ (by omega)).trans bm6
          have beW : Boxed W (n0 + 1 + 1) 80 .nilIface := (h2.block _ (by omega)).trans be6
          have hbW : Below n0 w W := hb06.trans (h2.mono (by omega))
          have hgt := (HE.out.below hbW).ty
          have H1' := Lib.hid h1
          have H2' := Lib.hid h2
          have HbW := Lib.hid hbW
          have HbmW := Lib.hid bmW
          have HbeW := Lib.hid beW
          have fin : Hid ((t'.op = 1 → look K1 (nm t') ≠ 0) → ∀ x ∈ pre ++ [(⟨t', _, ok', gd'⟩ : Ne W6 n0 (fun t => t.s.size ≤ maxLen))], x.t.op = 1 → look K1 (nm x.t) ≠ 0) := Lib.hid fun h x hx => (List.mem_append.1 hx).elim (H1'.out x) (fun hx => by rw [List.mem_singleton.1 hx]; exact h)
          clear h1 h2 hrow bmW beW hbW
          by_cases hop : t'.op = 1
          · by_cases hz : look K1 t'.s.data.toList = 0
            · have hz' : (look K1 t'.s.data.toList == 0) = true := by simpa using hz
              have Hz := Lib.hid hz
              have Hop := Lib.hid hop
              clear hz
              have c1 := HbmW.out.cell
              have f1 := HbmW.out.frozen
              have c2 := HbeW.out.cell
              have f2 := HbeW.out.frozen
              have z2 := HbeW.out.lt
              have hx2 := set2 (.map none) (errV a) HbmW.out HbeW.out (by omega)
              have Hx2 := Lib.hid hx2
              have hn1 : n0 ≠ 0 := by have := HE.out.big; omega
              unfold errV at hgt
              clear hx2
              gi_wp2_with fail
              refine any_region (by kernel_rfl) (by kernel_rfl) (fun ⟨_, _, h⟩ => h) ?_
              (try (change wpAny _ _ _ _ _ _ _ (World.drew _)))
              refine wpAny_ready (rs := [0, 1]) (by kernel_rfl) (by simp) ?_
              refine (AllReady.cons rfl (fun K hK => ?_) (AllReady.cons rfl (fun K hK => ?_) AllReady.nil))
              · go_simp
                refine hK _ _ ?_
                clear hK K
                refine wpAny_ready (rs := [1]) (by kernel_rfl) (by simp) ?_
                refine AllReady.cons rfl (fun K hK => ?_) AllReady.nil
                go_simp
                refine hK _ _ ?_
                clear hK K
                refine wpAny_ready (rs := [2]) (by kernel_rfl) (by simp) ?_
                refine AllReady.cons rfl (fun K hK => ?_) AllReady.nil
                go_simp
                refine hK _ _ ?_
                clear hK K
                refine (wpAny_done (by kernel_rfl) ?_) _
                gi_wp2
                have kf := ((KeepsOthers.setCell W ⟨n0 + 1, 0, none⟩ (.map none)).trans (KeepsOthers.setCell _ ⟨n0 + 1 + 1, 0, none⟩ (errV a))).from W6.heap.size
                have bf := (HbW.out.setCell (p := ⟨n0 + 1, 0, none⟩) (by show n0 ≤ n0 + 1; omega) (.map none)).setCell (p := ⟨n0 + 1 + 1, 0, none⟩) (by show n0 ≤ n0 + 1 + 1; omega) (errV a)
                exact ⟨⟨kf.size, kf.same⟩, ⟨rfl, ⟨⟨t', _, ok', gd'⟩, List.mem_append_right _ (List.mem_cons_self ..), Hop.out, Hz.out⟩, Hx2.out.1, Hx2.out.2⟩, ⟨bf.os, bf.tape, bf.output, bf.size, bf.block⟩⟩
              · go_simp
                refine hK _ _ ?_
                clear hK K
                refine wpAny_ready (rs := [0]) (by kernel_rfl) (by simp) ?_
                refine AllReady.cons rfl (fun K hK => ?_) AllReady.nil
                go_simp
                refine hK _ _ ?_
                clear hK K
                refine wpAny_ready (rs := [2]) (by kernel_rfl) (by simp) ?_
                refine AllReady.cons rfl (fun K hK => ?_) AllReady.nil
                go_simp
                refine hK _ _ ?_
                clear hK K
                refine (wpAny_done (by kernel_rfl) ?_) _
                gi_wp2
                have kf := ((KeepsOthers.setCell W ⟨n0 + 1, 0, none⟩ (.map none)).trans (KeepsOthers.setCell _ ⟨n0 + 1 + 1, 0, none⟩ (errV a))).from W6.heap.size
                have bf := (HbW.out.setCell (p := ⟨n0 + 1, 0, none⟩) (by show n0 ≤ n0 + 1; omega) (.map none)).setCell (p := ⟨n0 + 1 + 1, 0, none⟩) (by show n0 ≤ n0 + 1 + 1; omega) (errV a)
                exact ⟨⟨kf.size, kf.same⟩, ⟨rfl, ⟨⟨t', _, ok', gd'⟩, List.mem_append_right _ (List.mem_cons_self ..), Hop.out, Hz.out⟩, Hx2.out.1, Hx2.out.2⟩, ⟨bf.os, bf.tape, bf.output, bf.size, bf.block⟩⟩
            · have hz' : (look K1 t'.s.data.toList == 0) = false := by simpa using hz
              have Hz := Lib.hid hz
              have Hop := Lib.hid hop
              clear hz
              gi_wp2
              exact ⟨KeepsFrom.refl _ _, KO.refl _ _, fin.out (fun _ => Hz.out), H2'.out⟩
          · have Hop := Lib.hid hop
            have hne : (t'.op == 1) = false := by simpa using hop
            gi_wp2
            exact ⟨KeepsFrom.refl _ _, KO.refl _ _, fin.out (fun h => absurd h Hop.out), H2'.out⟩
        case done =>
          rintro D ys W hD hys ⟨h1, h2⟩ hK
          have hall : ∀ t ∈ termsR r, t.op = 1 → look K1 (nm t) ≠ 0 := fun t ht => by
            rw [← hys] at ht
            obtain ⟨y, hy, rfl⟩ := List.mem_map.1 ht
            exact h1 y hy
          have hWs := h2.size
          have hkW := Boxed.cell (show Boxed W (m + 1) 78 (.map (some m)) from (h2.block _ (by omega)).trans bk6)
          have hkl : m + 1 < W.heap.size := by omega
          have bmW : Boxed W (n0 + 1) 78 (.map none) := (h2.block _ (by omega)).trans bm6
          have beW : Boxed W (n0 + 1 + 1) 80 .nilIface := (h2.block _ (by omega)).trans be6
          have hbW : Below n0 w W := hb06.trans (h2.mono (by omega))
          have hMW : KnM V W m K1 := M6.below h2 (by omega)
          have c1 := bmW.cell
          have f1 := bmW.frozen
          have c2 := beW.cell
          have f2 := beW.frozen
          have z2 := beW.lt
          have Hall := Lib.hid hall
          have Hd := Lib.hid hK
          have Hbm' := Lib.hid bmW
          have Hbe' := Lib.hid beW
          have HbW := Lib.hid hbW
          have HMW := Lib.hid hMW
          clear h1 h2 hK hys hall bmW beW hbW hMW
          gi_wp2
          obtain ⟨x1, x2⟩ := set2 (.map (some m)) .nilIface Hbm'.out Hbe'.out (by omega)
          have hd3 : ((W.setCell ⟨n0 + 1, 0, none⟩ (.map (some m))).setCell ⟨n0 + 1 + 1, 0, none⟩ .nilIface).heap[D]? = some (.deferred (some [])) := (Below.heap_setCell _ ⟨n0 + 1 + 1, 0, none⟩ _ D (by show D ≠ n0 + 1 + 1; omega)).trans ((Below.heap_setCell W ⟨n0 + 1, 0, none⟩ _ D (by show D ≠ n0 + 1; omega)).trans Hd.out)
          refine ⟨by simp, .inl ⟨_, _, rfl, run_takeDeferred hd3, ?_⟩⟩
          have y1 : Boxed (((W.setCell ⟨n0 + 1, 0, none⟩ (.map (some m))).setCell ⟨n0 + 1 + 1, 0, none⟩ .nilIface).putObj D (.deferred none)) (n0 + 1) 78 (.map (some m)) := (World.putObj_heap_other (by omega)).trans x1
          have y2 : Boxed (((W.setCell ⟨n0 + 1, 0, none⟩ (.map (some m))).setCell ⟨n0 + 1 + 1, 0, none⟩ .nilIface).putObj D (.deferred none)) (n0 + 1 + 1) 80 .nilIface := (World.putObj_heap_other (by omega)).trans x2
          refine ⟨_, results_cell2 rfl _ _ (n0 + 1) (n0 + 1 + 1) _ _ rfl (loadVar_types y1.cell) rfl (loadVar_err y2.cell), ?_⟩
          have B6 := (HbW.out.setCell (p := ⟨n0 + 1, 0, none⟩) (by show n0 ≤ n0 + 1; omega) (.map (some m))).setCell (p := ⟨n0 + 1 + 1, 0, none⟩) (by show n0 ≤ n0 + 1 + 1; omega) .nilIface
          refine .good Hk.out Hl.out HRo.out Hall.out (by omega) (HMW.out.same ?_) ⟨B6.os, B6.tape, B6.output, by have := B6.size; simpa using this, fun q hq => (World.putObj_heap_other (by omega)).trans (B6.block q hq)⟩
          exact (World.putObj_heap_other (by omega)).trans ((Below.heap_setCell _ ⟨n0 + 1 + 1, 0, none⟩ _ m (by show m ≠ n0 + 1 + 1; omega)).trans (Below.heap_setCell W ⟨n0 + 1, 0, none⟩ _ m (by show m ≠ n0 + 1; omega)))
        case stop =>
          rintro D cd pre W hD ⟨r1, hr1⟩ ⟨⟨rfl, ⟨x, hx, hx1, hx2⟩, b1, b2⟩, h5⟩ hK
          have hbad : ∃ t ∈ termsR r, t.op = 1 ∧ look K1 (nm t) = 0 := ⟨x.t, by rw [← hr1]; exact List.mem_append_left _ (List.mem_map.2 ⟨x, hx, rfl⟩), hx1, hx2⟩
          have Hbad := Lib.hid hbad
          have Hd := Lib.hid hK
          have H5 := Lib.hid h5
          have Hb1 := Lib.hid b1
          have Hb2 := Lib.hid b2
          clear h5 hK b1 b2 hbad hr1 hx hx1 hx2
          gi_wp2
          refine ⟨by simp, .inl ⟨_, _, rfl, run_takeDeferred Hd.out, ?_⟩⟩
          have y1 : Boxed (W.putObj D (.deferred none)) (n0 + 1) 78 (.map none) := (World.putObj_heap_other (by omega)).trans Hb1.out
          have y2 : Boxed (W.putObj D (.deferred none)) (n0 + 1 + 1) 80 (errV a) := (World.putObj_heap_other (by omega)).trans Hb2.out
          refine ⟨_, results_cell2 rfl _ _ (n0 + 1) (n0 + 1 + 1) _ _ rfl (loadVar_types y1.cell) rfl (loadVar_err y2.cell), ?_⟩
          have B6 := H5.out
          exact .left Hk.out Hl.out HRo.out Hbad.out ⟨B6.os, B6.tape, B6.output, by have := B6.size; simpa using this, fun q hq => (World.putObj_heap_other (by omega)).trans (B6.block q hq)⟩
  · have hbv : ∃ p, badV c d (chkA ds (atomsR r)) = .iface 193 (.pointer (some p)) := by
      cases h : chkA ds (atomsR r) with
      | zero => exact absurd h hk
      | succ m => cases m with
        | zero => exact ⟨c, rfl⟩
        | succ m => exact ⟨d, rfl⟩
    obtain ⟨p, hp⟩ := hbv
    have c1 := bm1.cell
    have f1 := bm1.frozen
    have c2 := be1.cell
    have f2 := be1.frozen
    have Hk := Lib.hid hk
    have Hp := Lib.hid hp
    rw [hp]
    clear hk hp bm1 be1 rr1
    gi_wp2
    obtain ⟨x1, x2⟩ := set2 (.map none) (.iface 193 (.pointer (some p))) Hbm.out Hbe.out (by omega)
    refine ⟨_, results_cell2 rfl _ _ (n0 + 1) (n0 + 1 + 1) _ _ rfl (loadVar_types x1.cell) rfl (loadVar_err x2.cell), ?_⟩
    rw [← Hp.out]
    exact .atom Hk.out ((HB1.out.setCell (p := ⟨n0 + 1, 0, none⟩) (by show n0 ≤ n0 + 1; omega) _).setCell (p := ⟨n0 + 1 + 1, 0, none⟩) (by show n0 ≤ n0 + 1 + 1; omega) _)
theorem typesOf_c (ds : List De) (v : Value) (r : Ru) (cs : List Value) (V : List (List UInt8)) (hV : V.length ≤ 1000000) (a b' c d : Addr) (n0 : Nat) (w : World) (hn0 : w.heap.size = n0) (hd : SlOf w n0 6 (DeC w n0) ds v) (hc : RuC w n0 r cs)
    (hA : ∀ t ∈ atomsR r, ∀ u ∈ t.l, u.op = 1 → nm u ∈ V) (hL : ∀ l ∈ r.body, (l.x.op = 1 → nm l.x ∈ V) ∧ (l.y.op = 1 → nm l.y ∈ V)) (hT : ∀ t ∈ termsR r, GT V t) (hS : ∀ t ∈ termsR r, t.s.size ≤ maxLen) (hty : ∀ e ∈ ds, ∀ k ∈ e.types, k = 1 ∨ k = 2) (E : YEnv n0 a b' c d w) :
    Calls Tryd.prog 42 #[v, .agg cs.toArray] w (TypR V n0 w a c d ds r) := callsIn_wide.1 (typesOf_in ds v r cs V hV a b' c d n0 w hn0 hd hc hA hL hT hS hty E)
end Go.Proofs.YtfcfehflocglpaaDoor
