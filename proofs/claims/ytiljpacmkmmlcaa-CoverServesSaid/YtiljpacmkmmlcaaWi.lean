/- cover.move: what a way back does to two maps. -/
import Derived.Test.YtiljpacmkmmlcaaWg
import Derived.Test.YtiljpacmkmmlcaaChain
set_option linter.unusedSimpArgs false
set_option linter.unusedVariables false
namespace Go.Proofs.Ytiljpacmkmmlcaa
open Go.RowKit

/-- The set at a place. -/
def VL (ms : List Nat) (i : Nat) : Nat := ms.getD i 0
theorem VL_at {ms : List Nat} {i : Nat} (h : i < ms.length) : ms[i]? = some (VL ms i) := by unfold VL; rw [List.getD_eq_getElem?_getD, List.getElem?_eq_getElem h]; rfl
theorem VL_inj {ms : List Nat} (hn : ms.Nodup) {i j : Nat} (hi : i < ms.length) (hj : j < ms.length) (h : VL ms i = VL ms j) : i = j :=
  (List.getElem?_inj hi hn).1 (by rw [VL_at hi, VL_at hj, h])
/-- A map holds what a matching says. -/
def AB (ms : List Nat) (f : Nat → Option Nat) (B : Bh) : Prop := ∀ i, i < ms.length → f (VL ms i) = (B i).map (VL ms)
theorem AB.upd {ms : List Nat} {f : Nat → Option Nat} {B : Bh} (hn : ms.Nodup) (h : AB ms f B) {k i : Nat} (hk : k < ms.length) : AB ms (updU f (VL ms k) (VL ms i)) (updB B k i) := by
  intro x hx
  by_cases e : x = k
  · subst e; rw [updU_same, updB_same]; rfl
  · rw [updU_other _ _ (fun h' => e (VL_inj hn hx hk h')), updB_other _ _ e]
    exact h x hx
theorem ask_lt {n : Nat} {R : Nat → Nat → Prop} {B : Bh} {K : Nat → Prop} {U : List Nat} {j d : Nat} {A : List Nat} {par : Nat → Nat} (h0 : KuS n R B K U j) (hA : AskI n R B j A par d) (hjn : j < n) {i l : Nat} (hi : A[i]? = some l) : par l < n := by
  rcases (hA.par i l hi).2 with h | ⟨_, l', _, _, h⟩
  · omega
  · exact (h0.m.ok l' _ (fun h => h) h).1
theorem idx_map {ms A : List Nat} (hn : ms.Nodup) (hA : ∀ a ∈ A, a < ms.length) (hnd : A.Nodup) {i low : Nat} (hi : A[i]? = some low) : (A.map (VL ms)).idxOf (VL ms low) = i := by
  have hm : (A.map (VL ms)).Nodup := nmap_nodup hnd fun x hx y hy e => VL_inj hn (hA x hx) (hA y hy) e
  have hm2 : (A.map (VL ms))[i]? = some (VL ms low) := by rw [List.getElem?_map, hi]; rfl
  have h1 : VL ms low ∈ A.map (VL ms) := List.mem_of_getElem? hm2
  have h2 := List.getElem_idxOf (List.idxOf_lt_length_of_mem h1)
  have h3 : (A.map (VL ms))[(A.map (VL ms)).idxOf (VL ms low)]? = some (VL ms low) := by rw [List.getElem?_eq_getElem (List.idxOf_lt_length_of_mem h1), h2]
  exact (List.getElem?_inj (List.idxOf_lt_length_of_mem h1) hm).1 (h3.trans hm2.symm)
/-- On the way back, in memory. -/
def MvI (ms : List Nat) (R : Nat → Nat → Prop) (B0 : Bh) (K : Nat → Prop) (A : List Nat) (Ma Mb na nb i0 : Nat) (w0 : World) (x : Nat) (w : World) (i : Nat) : Prop :=
  ∃ (low : Nat) (B bel : Bh) (f g : Nat → Option Nat) (ca cb : Nat), x = VL ms low ∧ low < ms.length ∧ MoveI ms.length R B0 K A B bel i low ∧ AB ms f B ∧ AB ms g bel ∧ MapU Try.prog w 54 54 Ma ca f ∧ MapU Try.prog w 54 54 Mb cb g ∧ ca + i ≤ na + i0 ∧ cb + i ≤ nb + i0 ∧ Kp (fun b => b = Ma ∨ b = Mb) w0 w
def MvE (ms : List Nat) (R : Nat → Nat → Prop) (K : Nat → Prop) (U : List Nat) (j Ma Mb na nb i0 : Nat) (w : World) : Prop :=
  ∃ (B bel : Bh) (f g : Nat → Option Nat) (ca cb : Nat), KuS ms.length R B K U (j + 1) ∧ Inv B (fun _ => False) bel ∧ AB ms f B ∧ AB ms g bel ∧ MapU Try.prog w 54 54 Ma ca f ∧ MapU Try.prog w 54 54 Mb cb g ∧ ca ≤ na + i0 + 1 ∧ cb ≤ nb + i0 + 1
def slotsMv : List (Option Tmp) := [some 19, some 20, some 21, some 22, some 23, some 24, some 25, some 26, none, none]
def factsMv (b Ma Mb lo mo : Nat) : List (Value → Prop) :=
  [fun x => x = .pointer (some ⟨b, 0, none⟩), fun x => x = .map (some Ma), fun x => x = .int .u64 (lo : Int), fun x => x = .pointer (some ⟨b, 1, none⟩), fun x => x = .map (some Mb), fun x => x = .int .u64 (mo : Int), fun x => x = .int .u64 (mo : Int), fun x => x = .int .u64 (lo : Int)]
def stateMv (Ma Mb ca cb lo mo : Nat) (f g : Nat → Option Nat) : Nat → (Nat → Value) → World → Prop
  | 0, _, w => MapU Try.prog w 54 54 Ma ca f ∧ MapU Try.prog w 54 54 Mb cb g
  | 1, _, w => MapU Try.prog w 54 54 Ma (ca + 1) (updU f lo mo) ∧ MapU Try.prog w 54 54 Mb cb g
  | _, _, w => MapU Try.prog w 54 54 Ma (ca + 1) (updU f lo mo) ∧ MapU Try.prog w 54 54 Mb (cb + 1) (updU g mo lo)
theorem zeroU2 (w : World) : (zeroValue 54).run Try.prog w = .ok (.int .u64 0) w := by kernel_rfl
set_option linter.unusedSimpArgs false in
set_option linter.unusedVariables false in
set_option maxRecDepth 100000 in
set_option maxHeartbeats 16000000 in
theorem move_c (ms : List Nat) (R : Nat → Nat → Prop) (B0 bel0 : Bh) (K : Nat → Prop) (U A : List Nat) (par : Nat → Nat) (j d i0 low0 Ma Mb Mk na nb nk : Nat) (f0 g0 h : Nat → Option Nat) (w : World)
    (hn : ms.Nodup) (h256 : ∀ m ∈ ms, m < 256) (hKu : KuS ms.length R B0 K U j) (hA : AskI ms.length R B0 j A par d) (hjn : j < ms.length) (hinv : Inv B0 (fun _ => False) bel0) (hi0 : A[i0]? = some low0) (hb0 : B0 low0 = none)
    (hf : AB ms f0 B0) (hg : AB ms g0 bel0) (hh : ∀ l ∈ A, h (VL ms l) = some (VL ms (par l))) (ha : MapU Try.prog w 54 54 Ma na f0) (hb : MapU Try.prog w 54 54 Mb nb g0) (hk : MapU Try.prog w 54 54 Mk nk h)
    (hab : Ma ≠ Mb) (hak : Mk ≠ Ma) (hbk : Mk ≠ Mb) (hi60 : i0 ≤ 1000000) (hna : na ≤ 1000000) (hnb : nb ≤ 1000000) :
    Calls Try.prog 40 #[.agg #[.map (some Ma), .map (some Mb)], .int .u64 (VL ms low0 : Int), .map (some Mk)] w fun e w' => (∃ v, e = .returned v) ∧ MvE ms R K U j Ma Mb na nb i0 w' ∧ Kp (fun b => b = Ma ∨ b = Mb) w w' := by
  have hlow0 := hA.lt low0 (List.mem_of_getElem? hi0)
  have HKu := Lib.hid hKu
  have HA := Lib.hid hA
  have HN := Lib.hid hn
  have H256 : Hid (∀ i, i < ms.length → VL ms i < 256) := Lib.hid (fun i hi => h256 _ (List.mem_of_getElem? (VL_at hi)))
  have HH := Lib.hid hh
  have HMk := Lib.hid hk
  have hMaw := ha.lt
  have hMbw := hb.lt
  have hMkw := hk.lt
  have HI0 : Hid (∀ W, W = w.alloc (.cells #[.map (some Ma), .map (some Mb)] 60) → MvI ms R B0 K A Ma Mb na nb i0 w (VL ms low0) W i0 ∧ W.heap[w.heap.size]? = some (.cells #[.map (some Ma), .map (some Mb)] 60 (0, 0))) := Lib.hid (by
    intro W hW
    have hb1 : Below w.heap.size w W := by rw [hW]; exact (Below.refl _ _).alloc (Nat.le_refl _) _
    refine ⟨⟨low0, B0, bel0, f0, g0, na, nb, rfl, hlow0, MoveI.start hKu hinv hi0 hb0, hf, hg, ha.below hb1 hMaw, hb.below hb1 hMbw, Nat.le_refl _, Nat.le_refl _, hb1.os, hb1.tape, hb1.output, hb1.size, fun i hi _ => hb1.block i hi⟩, by rw [hW]; exact World.alloc_heap_new w _⟩)
  clear hKu hA hn h256 hh hk hf hg ha hb hinv hi0 hb0
  go_enter Try.func40, Try.ntmps40
  go_wp2
  obtain ⟨W1, hW1⟩ : ∃ W1, w.alloc (.cells #[.map (some Ma), .map (some Mb)] 60) = W1 := ⟨_, rfl⟩
  obtain ⟨HI1, HR1⟩ := HI0.out W1 hW1.symm
  have HI1 := Lib.hid HI1
  rw [hW1]
  clear hW1 HI0
  go_loopw [1] (fun lv wr => ∃ (x i : Nat), lv = .int .u64 (x : Int) ∧ i ≤ i0 ∧ Hid (MvI ms R B0 K A Ma Mb na nb i0 w x wr i) ∧ Hid (wr.heap[w.heap.size]? = some (.cells #[.map (some Ma), .map (some Mb)] 60 (0, 0)))) (fun lv _ => (A.map (VL ms)).idxOf (intOf lv).toNat)
  case atStart => exact ⟨_, i0, rfl, Nat.le_refl _, HI1, Lib.hid HR1⟩
  case round =>
    obtain ⟨x, i, rfl, hi, HI, HR⟩ := hrel
    obtain ⟨low, B, bel, f, g, ca, cb, rfl, hlow, hM, hAf, hAg, hma, hmb, hca, hcb, hkp⟩ := HI.out
    have hmem : low ∈ A := List.mem_of_getElem? hM.at_
    have hpn := ask_lt HKu.out HA.out hjn hM.at_
    have hl256 := H256.out low hlow
    have hp256 := H256.out (par low) hpn
    have hmk : MapU Try.prog wr 54 54 Mk nk h := HMk.out.same (hkp.block Mk hMkw (by omega))
    have hlk := (mapU_look wr 58 54 54 Try.underlying58 Try.underlying54 Try.underlying54 (zeroU2 _) Mk nk _ hmk (VL ms low) hl256).2
    rw [HH.out low hmem] at hlk
    have hgk := (mapU_look wr 58 54 54 Try.underlying58 Try.underlying54 Try.underlying54 (zeroU2 _) Mb cb _ hmb (VL ms (par low)) hp256).1
    rw [hAg (par low) hpn] at hgk
    have e0 : (Option.some (VL ms (par low))).getD 0 = VL ms (par low) := rfl
    rw [e0] at hlk
    have HI2 := Lib.hid HI.out
    have HM := Lib.hid hM
    have HAf := Lib.hid hAf
    have HAg := Lib.hid hAg
    have Hma := Lib.hid hma
    have Hmb := Lib.hid hmb
    have Hkp := Lib.hid hkp
    have Hca := Lib.hid hca
    have Hcb := Lib.hid hcb
    have hbs := heapLt HR.out
    have q0 : wr.cell? ⟨w.heap.size, 0, none⟩ = some (.map (some Ma)) := (row_cell HR.out 0).1
    have q1 : wr.cell? ⟨w.heap.size, 1, none⟩ = some (.map (some Mb)) := (row_cell HR.out 1).1
    have HIDX : Hid ((A.map (VL ms)).idxOf (VL ms low) = i) := Lib.hid (idx_map HN.out (fun a ha => HA.out.lt a ha) HA.out.nd hM.at_)
    cases hbl : bel (par low) with
    | none =>
      rw [hbl] at hgk
      have e1 : ((none : Option Nat).map (VL ms)).getD 0 = 0 := rfl
      have e2 : ((none : Option Nat).map (VL ms)).isSome = false := rfl
      rw [e1, e2] at hgk
      have HE := Lib.hid (hM.last HKu.out HA.out hjn hbl)
      clear hM hAf hAg hma hmb hkp hca hcb hmk hbl e0 e1 e2
      go_wp2_with fail
      refine wp_region_any (by kernel_rfl) ?_
      (try (change wpAny _ _ _ _ _ _ _ (World.drew _)))
      refine wpAny_chain slotsMv [8, 9] _ _ (factsMv w.heap.size Ma Mb (VL ms low) (VL ms (par low))) (stateMv Ma Mb ca cb (VL ms low) (VL ms (par low)) f g) (fun b => b = Ma ∨ b = Mb)
        (by kernel_rfl) (by kernel_rfl) (by kernel_rfl) (by kernel_rfl) (by kernel_rfl) (by decide) (by decide) ?indep ⟨Hma.out, Hmb.out⟩
        ⟨.p rfl ?s0, .p rfl ?s1, .p rfl ?s2, .p rfl ?s3, .p rfl ?s4, .p rfl ?s5, .p rfl ?s6, .p rfl ?s7, .c 0 rfl rfl ?s8, .c 1 rfl (by kernel_rfl) ?s9, trivial⟩ ?fin
      case indep =>
        intro k val val' w' h hs
        match k, hs with
        | 0, hs => exact hs
        | 1, hs => exact hs
        | k + 2, hs => exact hs
      case s0 =>
        intro A' w' K' hb hfar hd hK
        have e1 : A'.tmps[3]?.getD undef = .pointer (some ⟨w.heap.size, 0, none⟩) := hfar 3 (by decide)
        unfold Oper.wp
        simp [execOp, e1, go_sem, Result.andThen]
        exact hK _ (factV_mk rfl rfl)
      case s1 =>
        intro A' w' K' hb hfar hd hK
        have e1 : A'.tmps[19]?.getD undef = .pointer (some ⟨w.heap.size, 0, none⟩) := hd 0 19 rfl (by kernel_rfl) _ rfl
        have hr := (hb.block w.heap.size hbs (by omega)).trans HR.out
        have c2 : w'.cell? ⟨w.heap.size, 0, none⟩ = some (.map (some Ma)) := (row_cell hr 0).1
        have hl := heapLt hr
        unfold Oper.wp
        simp [execOp, e1, c2, hl, go_sem, Result.andThen]
        exact hK _ (factV_mk rfl rfl)
      case s2 =>
        intro A' w' K' hb hfar hd hK
        have e1 : A'.tmps[1]?.getD undef = .int .u64 (VL ms low : Int) := hfar 1 (by decide)
        unfold Oper.wp
        simp [execOp, e1, go_sem, Result.andThen]
        exact hK _ (factV_mk rfl rfl)
      case s3 =>
        intro A' w' K' hb hfar hd hK
        have e1 : A'.tmps[3]?.getD undef = .pointer (some ⟨w.heap.size, 0, none⟩) := hfar 3 (by decide)
        unfold Oper.wp
        simp [execOp, e1, go_sem, Result.andThen]
        exact hK _ (factV_mk rfl rfl)
      case s4 =>
        intro A' w' K' hb hfar hd hK
        have e1 : A'.tmps[22]?.getD undef = .pointer (some ⟨w.heap.size, 1, none⟩) := hd 3 22 rfl (by kernel_rfl) _ rfl
        have hr := (hb.block w.heap.size hbs (by omega)).trans HR.out
        have c2 : w'.cell? ⟨w.heap.size, 1, none⟩ = some (.map (some Mb)) := (row_cell hr 1).1
        have hl := heapLt hr
        unfold Oper.wp
        simp [execOp, e1, c2, hl, go_sem, Result.andThen]
        exact hK _ (factV_mk rfl rfl)
      case s5 =>
        intro A' w' K' hb hfar hd hK
        have e1 : A'.tmps[6]?.getD undef = .int .u64 (VL ms (par low) : Int) := hfar 6 (by decide)
        unfold Oper.wp
        simp [execOp, e1, go_sem, Result.andThen]
        exact hK _ (factV_mk rfl rfl)
      case s6 =>
        intro A' w' K' hb hfar hd hK
        have e1 : A'.tmps[6]?.getD undef = .int .u64 (VL ms (par low) : Int) := hfar 6 (by decide)
        unfold Oper.wp
        simp [execOp, e1, go_sem, Result.andThen]
        exact hK _ (factV_mk rfl rfl)
      case s7 =>
        intro A' w' K' hb hfar hd hK
        have e1 : A'.tmps[1]?.getD undef = .int .u64 (VL ms low : Int) := hfar 1 (by decide)
        unfold Oper.wp
        simp [execOp, e1, go_sem, Result.andThen]
        exact hK _ (factV_mk rfl rfl)
      case s8 =>
        intro A' w' val K' hb hfar hd hs hK
        have e1 : A'.tmps[20]?.getD undef = .map (some Ma) := (hd 1 20 rfl (by kernel_rfl)).1 _ rfl
        have e2 : A'.tmps[21]?.getD undef = .int .u64 (VL ms low : Int) := (hd 2 21 rfl (by kernel_rfl)).1 _ rfl
        have e3 : A'.tmps[25]?.getD undef = .int .u64 (VL ms (par low) : Int) := (hd 6 25 rfl (by kernel_rfl)).1 _ rfl
        obtain ⟨hs1, hs2⟩ := hs
        obtain ⟨w5, r1, r2, r3⟩ := mapU_store w' 58 54 54 Try.underlying58 Try.underlying54 Try.underlying54 Ma ca _ hs1 (by have := Hca.out; have := Hcb.out; unfold maxLen; omega) (VL ms low) (VL ms (par low)) hl256 hp256
        unfold Oper.wp
        simp [execOp, e1, e2, e3, r1, go_sem, Result.andThen]
        exact hK undef _ (hb.grown r3 (fun b h => by cases h; exact .inr (.inl rfl))) (fun p hp => by cases hp) ⟨r2, hs2.kept r3 (fun e => hab (Option.some.inj e).symm)⟩
      case s9 =>
        intro A' w' val K' hb hfar hd hs hK
        have e1 : A'.tmps[23]?.getD undef = .map (some Mb) := (hd 4 23 rfl (by kernel_rfl)).1 _ rfl
        have e2 : A'.tmps[24]?.getD undef = .int .u64 (VL ms (par low) : Int) := (hd 5 24 rfl (by kernel_rfl)).1 _ rfl
        have e3 : A'.tmps[26]?.getD undef = .int .u64 (VL ms low : Int) := (hd 7 26 rfl (by kernel_rfl)).1 _ rfl
        obtain ⟨hs1, hs2⟩ := hs
        obtain ⟨w5, r1, r2, r3⟩ := mapU_store w' 58 54 54 Try.underlying58 Try.underlying54 Try.underlying54 Mb cb _ hs2 (by have := Hca.out; have := Hcb.out; unfold maxLen; omega) (VL ms (par low)) (VL ms low) hp256 hl256
        unfold Oper.wp
        simp [execOp, e1, e2, e3, r1, go_sem, Result.andThen]
        exact hK undef _ (hb.grown r3 (fun b h => by cases h; exact .inr (.inr rfl))) (fun p hp => by cases hp) ⟨hs1.kept r3 (fun e => hab (Option.some.inj e)), r2⟩
      case fin =>
        intro val w4 hF hb hs
        have HS4 := Lib.hid hs
        have HB4 := Lib.hid hb
        simp only [slotsMv, putsA, Nat.zero_add, Nat.reduceAdd]
        have v0 := hF 0 19 rfl _ rfl
        have v1 := hF 1 20 rfl _ rfl
        have v2 := hF 2 21 rfl _ rfl
        have v3 := hF 3 22 rfl _ rfl
        have v4 := hF 4 23 rfl _ rfl
        have v5 := hF 5 24 rfl _ rfl
        have v6 := hF 6 25 rfl _ rfl
        have v7 := hF 7 26 rfl _ rfl
        simp only [v0, v1, v2, v3, v4, v5, v6, v7]
        clear v0 v1 v2 v3 v4 v5 v6 v7 hF hb hs
        go_simp
        go_wp2
        refine bodyPost_ret (results_none rfl _ _ _) rfl ?_
        have hs4 := HS4.out
        exact ⟨⟨_, rfl⟩, ⟨_, _, _, _, ca + 1, cb + 1, HE.out.1, HE.out.2, HAf.out.upd HN.out hlow, HAg.out.upd HN.out hpn, hs4.1, hs4.2, by have := Hca.out; omega, by have := Hcb.out; omega⟩, ⟨HB4.out.os.trans Hkp.out.os, HB4.out.tape.trans Hkp.out.tape, HB4.out.output.trans Hkp.out.output, Nat.le_trans Hkp.out.size HB4.out.size, fun i hi ht => (HB4.out.block i (Nat.lt_of_lt_of_le hi Hkp.out.size) ht).trans (Hkp.out.block i hi ht)⟩⟩
    | some left =>
      rw [hbl] at hgk
      have e1 : ((some left : Option Nat).map (VL ms)).getD 0 = VL ms left := rfl
      have e2 : ((some left : Option Nat).map (VL ms)).isSome = true := rfl
      rw [e1, e2] at hgk
      obtain ⟨i', hii, hM2⟩ := hM.next HKu.out HA.out hbl
      have HM2 := Lib.hid hM2
      have hleft := HA.out.lt left (List.mem_of_getElem? hM2.at_)
      have HIDX2 : Hid ((A.map (VL ms)).idxOf (VL ms left) = i') := Lib.hid (idx_map HN.out (fun a ha => HA.out.lt a ha) HA.out.nd hM2.at_)
      clear hM hAf hAg hma hmb hkp hca hcb hmk hbl e0 e1 e2 hM2
      go_wp2_with fail
      refine wp_region_any (by kernel_rfl) ?_
      (try (change wpAny _ _ _ _ _ _ _ (World.drew _)))
      refine wpAny_chain slotsMv [8, 9] _ _ (factsMv w.heap.size Ma Mb (VL ms low) (VL ms (par low))) (stateMv Ma Mb ca cb (VL ms low) (VL ms (par low)) f g) (fun b => b = Ma ∨ b = Mb)
        (by kernel_rfl) (by kernel_rfl) (by kernel_rfl) (by kernel_rfl) (by kernel_rfl) (by decide) (by decide) ?indep ⟨Hma.out, Hmb.out⟩
        ⟨.p rfl ?s0, .p rfl ?s1, .p rfl ?s2, .p rfl ?s3, .p rfl ?s4, .p rfl ?s5, .p rfl ?s6, .p rfl ?s7, .c 0 rfl rfl ?s8, .c 1 rfl (by kernel_rfl) ?s9, trivial⟩ ?fin
      case indep =>
        intro k val val' w' h hs
        match k, hs with
        | 0, hs => exact hs
        | 1, hs => exact hs
        | k + 2, hs => exact hs
      case s0 =>
        intro A' w' K' hb hfar hd hK
        have e1 : A'.tmps[3]?.getD undef = .pointer (some ⟨w.heap.size, 0, none⟩) := hfar 3 (by decide)
        unfold Oper.wp
        simp [execOp, e1, go_sem, Result.andThen]
        exact hK _ (factV_mk rfl rfl)
      case s1 =>
        intro A' w' K' hb hfar hd hK
        have e1 : A'.tmps[19]?.getD undef = .pointer (some ⟨w.heap.size, 0, none⟩) := hd 0 19 rfl (by kernel_rfl) _ rfl
        have hr := (hb.block w.heap.size hbs (by omega)).trans HR.out
        have c2 : w'.cell? ⟨w.heap.size, 0, none⟩ = some (.map (some Ma)) := (row_cell hr 0).1
        have hl := heapLt hr
        unfold Oper.wp
        simp [execOp, e1, c2, hl, go_sem, Result.andThen]
        exact hK _ (factV_mk rfl rfl)
      case s2 =>
        intro A' w' K' hb hfar hd hK
        have e1 : A'.tmps[1]?.getD undef = .int .u64 (VL ms low : Int) := hfar 1 (by decide)
        unfold Oper.wp
        simp [execOp, e1, go_sem, Result.andThen]
        exact hK _ (factV_mk rfl rfl)
      case s3 =>
        intro A' w' K' hb hfar hd hK
        have e1 : A'.tmps[3]?.getD undef = .pointer (some ⟨w.heap.size, 0, none⟩) := hfar 3 (by decide)
        unfold Oper.wp
        simp [execOp, e1, go_sem, Result.andThen]
        exact hK _ (factV_mk rfl rfl)
      case s4 =>
        intro A' w' K' hb hfar hd hK
        have e1 : A'.tmps[22]?.getD undef = .pointer (some ⟨w.heap.size, 1, none⟩) := hd 3 22 rfl (by kernel_rfl) _ rfl
        have hr := (hb.block w.heap.size hbs (by omega)).trans HR.out
        have c2 : w'.cell? ⟨w.heap.size, 1, none⟩ = some (.map (some Mb)) := (row_cell hr 1).1
        have hl := heapLt hr
        unfold Oper.wp
        simp [execOp, e1, c2, hl, go_sem, Result.andThen]
        exact hK _ (factV_mk rfl rfl)
      case s5 =>
        intro A' w' K' hb hfar hd hK
        have e1 : A'.tmps[6]?.getD undef = .int .u64 (VL ms (par low) : Int) := hfar 6 (by decide)
        unfold Oper.wp
        simp [execOp, e1, go_sem, Result.andThen]
        exact hK _ (factV_mk rfl rfl)
      case s6 =>
        intro A' w' K' hb hfar hd hK
        have e1 : A'.tmps[6]?.getD undef = .int .u64 (VL ms (par low) : Int) := hfar 6 (by decide)
        unfold Oper.wp
        simp [execOp, e1, go_sem, Result.andThen]
        exact hK _ (factV_mk rfl rfl)
      case s7 =>
        intro A' w' K' hb hfar hd hK
        have e1 : A'.tmps[1]?.getD undef = .int .u64 (VL ms low : Int) := hfar 1 (by decide)
        unfold Oper.wp
        simp [execOp, e1, go_sem, Result.andThen]
        exact hK _ (factV_mk rfl rfl)
      case s8 =>
        intro A' w' val K' hb hfar hd hs hK
        have e1 : A'.tmps[20]?.getD undef = .map (some Ma) := (hd 1 20 rfl (by kernel_rfl)).1 _ rfl
        have e2 : A'.tmps[21]?.getD undef = .int .u64 (VL ms low : Int) := (hd 2 21 rfl (by kernel_rfl)).1 _ rfl
        have e3 : A'.tmps[25]?.getD undef = .int .u64 (VL ms (par low) : Int) := (hd 6 25 rfl (by kernel_rfl)).1 _ rfl
        obtain ⟨hs1, hs2⟩ := hs
        obtain ⟨w5, r1, r2, r3⟩ := mapU_store w' 58 54 54 Try.underlying58 Try.underlying54 Try.underlying54 Ma ca _ hs1 (by have := Hca.out; have := Hcb.out; unfold maxLen; omega) (VL ms low) (VL ms (par low)) hl256 hp256
        unfold Oper.wp
        simp [execOp, e1, e2, e3, r1, go_sem, Result.andThen]
        exact hK undef _ (hb.grown r3 (fun b h => by cases h; exact .inr (.inl rfl))) (fun p hp => by cases hp) ⟨r2, hs2.kept r3 (fun e => hab (Option.some.inj e).symm)⟩
      case s9 =>
        intro A' w' val K' hb hfar hd hs hK
        have e1 : A'.tmps[23]?.getD undef = .map (some Mb) := (hd 4 23 rfl (by kernel_rfl)).1 _ rfl
        have e2 : A'.tmps[24]?.getD undef = .int .u64 (VL ms (par low) : Int) := (hd 5 24 rfl (by kernel_rfl)).1 _ rfl
        have e3 : A'.tmps[26]?.getD undef = .int .u64 (VL ms low : Int) := (hd 7 26 rfl (by kernel_rfl)).1 _ rfl
        obtain ⟨hs1, hs2⟩ := hs
        obtain ⟨w5, r1, r2, r3⟩ := mapU_store w' 58 54 54 Try.underlying58 Try.underlying54 Try.underlying54 Mb cb _ hs2 (by have := Hca.out; have := Hcb.out; unfold maxLen; omega) (VL ms (par low)) (VL ms low) hp256 hl256
        unfold Oper.wp
        simp [execOp, e1, e2, e3, r1, go_sem, Result.andThen]
        exact hK undef _ (hb.grown r3 (fun b h => by cases h; exact .inr (.inr rfl))) (fun p hp => by cases hp) ⟨hs1.kept r3 (fun e => hab (Option.some.inj e)), r2⟩
      case fin =>
        intro val w4 hF hb hs
        have HS4 := Lib.hid hs
        have HB4 := Lib.hid hb
        simp only [slotsMv, putsA, Nat.zero_add, Nat.reduceAdd]
        have v0 := hF 0 19 rfl _ rfl
        have v1 := hF 1 20 rfl _ rfl
        have v2 := hF 2 21 rfl _ rfl
        have v3 := hF 3 22 rfl _ rfl
        have v4 := hF 4 23 rfl _ rfl
        have v5 := hF 5 24 rfl _ rfl
        have v6 := hF 6 25 rfl _ rfl
        have v7 := hF 7 26 rfl _ rfl
        simp only [v0, v1, v2, v3, v4, v5, v6, v7]
        clear v0 v1 v2 v3 v4 v5 v6 v7 hF hb hs
        go_simp
        go_wp2
        have hs4 := HS4.out
        have HIn : Hid (MvI ms R B0 K A Ma Mb na nb i0 w (VL ms left) w4 i') := Lib.hid ⟨left, _, _, _, _, ca + 1, cb + 1, rfl, hleft, HM2.out, HAf.out.upd HN.out hlow, HAg.out.upd HN.out hpn, hs4.1, hs4.2, by have := Hca.out; omega, by have := Hcb.out; omega, ⟨HB4.out.os.trans Hkp.out.os, HB4.out.tape.trans Hkp.out.tape, HB4.out.output.trans Hkp.out.output, Nat.le_trans Hkp.out.size HB4.out.size, fun i hi ht => (HB4.out.block i (Nat.lt_of_lt_of_le hi Hkp.out.size) ht).trans (Hkp.out.block i hi ht)⟩⟩
        have HRn : Hid (w4.heap[w.heap.size]? = some (.cells #[.map (some Ma), .map (some Mb)] 60 (0, 0))) := Lib.hid ((HB4.out.block w.heap.size hbs (by omega)).trans HR.out)
        clear hs4
        go_roundw
        case rel => exact ⟨_, i', rfl, by omega, HIn, HRn⟩
        case measure => simp [intOf, HIDX.out, HIDX2.out]; exact hii
end Go.Proofs.Ytiljpacmkmmlcaa
