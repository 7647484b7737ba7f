/- soritesref03.showAtom, showLit. -/
import Derived.Test.YthjfkngfgomkbaaGreatDoorTrshow
import Derived.Test.YthjfkngfgomkbaaGreatDoorTwpart
namespace Go.Proofs.YthjfkngfgomkbaaGreatDoor
open Go.RowKit

theorem ap2 (x y : List UInt8) : Value.string ((⟨x.toArray⟩ : ByteArray) ++ ⟨y.toArray⟩) = .string ⟨(x ++ y).toArray⟩ := by
  rw [ByteArray.mk_append_mk]
theorem ap3 (x y z : List UInt8) : Value.string ((⟨x.toArray⟩ : ByteArray) ++ ⟨y.toArray⟩ ++ ⟨z.toArray⟩) = .string ⟨(x ++ y ++ z).toArray⟩ := by
  simp only [ByteArray.mk_append_mk]
theorem ap6 (x a b c y d : List UInt8) : Value.string ((⟨x.toArray⟩ : ByteArray) ++ ⟨a.toArray⟩ ++ ⟨b.toArray⟩ ++ ⟨c.toArray⟩ ++ ⟨y.toArray⟩ ++ ⟨d.toArray⟩) = .string ⟨(x ++ a ++ b ++ c ++ y ++ d).toArray⟩ := by
  simp only [ByteArray.mk_append_mk]
theorem ap7 (x a b z c y d : List UInt8) : Value.string ((⟨x.toArray⟩ : ByteArray) ++ ⟨a.toArray⟩ ++ ⟨b.toArray⟩ ++ ⟨z.toArray⟩ ++ ⟨c.toArray⟩ ++ ⟨y.toArray⟩ ++ ⟨d.toArray⟩) = .string ⟨(x ++ a ++ b ++ z ++ c ++ y ++ d).toArray⟩ := by
  simp only [ByteArray.mk_append_mk]

set_option maxRecDepth 100000 in
set_option maxHeartbeats 4000000 in
theorem rshowAtom_c (t : Am) (w : World) (cs : List Value) (hr : rightA t = true) (hk : A1k t) (hl : (showA t).length ≤ 10000000) (hc : AmC w w.heap.size t cs) :
    Calls Tryz.prog 36 #[.agg cs.toArray] w fun e w' => e = .returned (.string ⟨(showA t).toArray⟩) ∧ Below w.heap.size w w' := by
  obtain ⟨s, l⟩ := t
  obtain ⟨sl, rfl⟩ : ∃ l : List UInt8, s = ⟨l.toArray⟩ := ⟨s.data.toList, (eta' s).symm⟩
  obtain ⟨p1, q1, rfl, hz, t1⟩ := hc.look
  simp only at hz t1 ⊢
  obtain ⟨o1, cap1, e1, hc1, hm1, S1⟩ := SlOf.open t1
  cases e1
  have HRT := Lib.hid (rightA_parts hr).2.2.2
  have HK := Lib.hid hk
  have HA : Hid (showA ⟨⟨sl.toArray⟩, l⟩ = sl ++ [40] ++ joinL [44, 32] (l.map (showT 20)) ++ [41]) := Lib.hid (by simp [showA])
  have hlen : sl.length + 1 + (joinL [44, 32] (l.map (showT 20))).length + 1 ≤ 10000000 := by
    rw [HA.out] at hl
    simp only [List.length_append, List.length_cons, List.length_nil] at hl
    omega
  have HLEN := Lib.hid hlen
  have g0 : ¬ 9223372036854775807 < sl.length + 1 := by omega
  clear hc t1 hr hk hl hlen
  have HB0 : Hid (∀ (x : Obj), Below w.heap.size w (w.alloc x)) := Lib.hid fun x => (Below.refl _ _).alloc (Nat.le_refl _) _
  go_enter Tryz.func36, Tryz.ntmps36
  go_wp2
  go_loopw [3, 4] (fun tv i wr => ∃ (k : Nat) (acc : List UInt8), k ≤ l.length ∧ i = .int .i64 k ∧ tv = .string ⟨acc.toArray⟩ ∧ acc = sl ++ [40] ++ joinL [44, 32] ((l.take k).map (showT 20)) ∧ Below (w.heap.size + 1) (w.alloc (.cells #[.string ⟨sl.toArray⟩, .slice p1 l.length q1] 42)) wr) (fun _ i _ => l.length - (intOf i).toNat)
  case atStart => exact ⟨0, sl ++ [40], Nat.zero_le _, rfl, ap2 sl [40], by simp [joinL], Below.refl _ _⟩
  case round =>
    obtain ⟨k, acc, hk, rfl, rfl, hacc, hB2⟩ := hrel
    have hB : Below w.heap.size w wr := (HB0.out _).trans (hB2.mono (by omega))
    have Hacc := Lib.hid hacc
    clear hacc
    have hBs := hB2.size
    simp only [World.size_alloc] at hBs
    have hz0 : w.heap.size < wr.heap.size := by omega
    have x0 : wr.cell? ⟨w.heap.size, 1, none⟩ = some (.slice p1 l.length q1) := (hB2.cell (p := ⟨w.heap.size, 1, none⟩) (by show w.heap.size < _; omega)).trans (by go_simp)
    have hal1 : acc.length + 1 ≤ 10000000 := by
      have h1 := HLEN.out
      have h2 := joinL_upto (sep := [44, 32]) (showT 20) l k
      have h3 := congrArg List.length Hacc.out
      simp only [List.length_append, List.length_cons, List.length_nil] at h3
      omega
    by_cases hlt : k < l.length
    · have hlt' : (k : Int) < (l.length : Int) := by omega
      obtain ⟨t, ht⟩ : ∃ t, l[k]? = some t := ⟨l[k], List.getElem?_eq_getElem hlt⟩
      obtain ⟨a, p3, q3, rfl, ha, Hc, c0, c1, c2, c3⟩ := tm_at S1 hB ht
      have hal : (a.add (k * 4)).block < wr.heap.size := by rw [addBlock]; omega
      have Hst := Lib.hid (joinL_take (sep := [44, 32]) (showT 20) ht)
      have Hm := Lib.hid (List.mem_of_getElem? ht)
      have Hup := Lib.hid (joinL_upto (sep := [44, 32]) (showT 20) l (k + 1))
      clear ht
      obtain ⟨T, hT⟩ : ∃ T, showT 20 t = T := ⟨_, rfl⟩
      have hlT : T.length ≤ 10000000 ∧ acc.length + T.length + (if k = 0 then 0 else 2) ≤ 10000000 := by
        have h1 := HLEN.out
        have h2 := Hup.out
        have h3 := congrArg List.length Hacc.out
        rw [Hst.out, hT] at h2
        by_cases h0 : k = 0
        · subst h0
          simp only [if_true, List.nil_append, List.take_zero, List.map_nil, joinL, List.length_append, List.length_cons, List.length_nil] at h2 h3 ⊢
          omega
        · simp only [if_neg h0, List.length_append, List.length_cons, List.length_nil] at h2 h3 ⊢
          omega
      have HI := Lib.hid (fun (W : World) (hb : Below wr.heap.size wr W) => rshowTerm_c 20 t W _ (HRT.out t Hm.out) (HK.out t Hm.out) (by rw [hT]; exact hlT.1) ((Hc.out.under hb).more hb.size))
      rw [hT] at HI
      by_cases h0 : (0 : Int) < (k : Int)
      · have hk0 : ¬ k = 0 := by omega
        have hl2 := hlT.2
        rw [if_neg hk0] at hl2
        have g1 : ¬ 9223372036854775807 < acc.length + 2 := by omega
        have g2 : ¬ 9223372036854775807 < acc.length + 2 + T.length := by omega
        have Hst2 : Hid (joinL [44, 32] ((l.take (k + 1)).map (showT 20)) = joinL [44, 32] ((l.take k).map (showT 20)) ++ [44, 32] ++ T) := Lib.hid (by rw [Hst.out, if_neg hk0, hT])
        clear hT hlT hl2 hk0 Hst
        go_wp2_with fail
        refine (HI.out _ (Below.refl _ _)).mono ?_
        rintro e w1 ⟨rfl, b1⟩
        have hB3 := hB2.trans (b1.mono (by omega))
        go_wp2
        go_roundw
        case rel =>
          refine ⟨k + 1, acc ++ [44, 32] ++ T, hlt, by go_num, ?_, ?_, hB3⟩
          · exact ap3 acc [44, 32] T
          · rw [Hst2.out, Hacc.out]
            simp only [List.append_assoc]
        case measure => simp [intOf]; omega
      · have hk0 : k = 0 := by omega
        have hl2 := hlT.2
        rw [if_pos hk0] at hl2
        have g2 : ¬ 9223372036854775807 < acc.length + T.length := by omega
        have Hst2 : Hid (joinL [44, 32] ((l.take (k + 1)).map (showT 20)) = joinL [44, 32] ((l.take k).map (showT 20)) ++ T) := Lib.hid (by rw [Hst.out, if_pos hk0, hT, hk0]; simp [joinL])
        clear hT hlT hl2 hk0 Hst
        go_wp2_with fail
        refine (HI.out _ (Below.refl _ _)).mono ?_
        rintro e w1 ⟨rfl, b1⟩
        have hB3 := hB2.trans (b1.mono (by omega))
        go_wp2
        go_roundw
        case rel =>
          refine ⟨k + 1, acc ++ T, hlt, by go_num, ?_, ?_, hB3⟩
          · exact ap2 acc T
          · rw [Hst2.out, Hacc.out]
            simp only [List.append_assoc]
        case measure => simp [intOf]; omega
    · have hlt' : ¬ (k : Int) < (l.length : Int) := by omega
      have g3 : ¬ 9223372036854775807 < acc.length + 1 := by omega
      have He : Hid (acc ++ [41] = showA ⟨⟨sl.toArray⟩, l⟩) := Lib.hid (by rw [HA.out, Hacc.out, List.take_of_length_le (by omega)])
      go_wp2
      go_ret
      exact ⟨by rw [← He.out]; exact congrArg Ending.returned (ap2 acc [41]), hB⟩

/-! ### Parts of bodies -/
/-- A part in a box, and a text of a table behind it. -/
def LitS (w : World) (c0 c1 c2 c3 c4 c5 c6 c7 c8 c9 c10 sg : Value) (b q : Nat) (W : World) : Prop :=
  W.cell? ⟨w.heap.size, 0, none⟩ = some c0 ∧ W.cell? ⟨w.heap.size, 1, none⟩ = some c1 ∧ W.cell? ⟨w.heap.size, 2, none⟩ = some c2 ∧ W.cell? ⟨w.heap.size, 3, none⟩ = some c3 ∧ W.cell? ⟨w.heap.size, 4, none⟩ = some c4 ∧ W.cell? ⟨w.heap.size, 5, none⟩ = some c5 ∧ W.cell? ⟨w.heap.size, 6, none⟩ = some c6 ∧ W.cell? ⟨w.heap.size, 7, none⟩ = some c7 ∧ W.cell? ⟨w.heap.size, 8, none⟩ = some c8 ∧ W.cell? ⟨w.heap.size, 9, none⟩ = some c9 ∧ W.cell? ⟨w.heap.size, 10, none⟩ = some c10 ∧
    W.cell? ⟨b, q, none⟩ = some sg ∧ Below w.heap.size w W ∧ w.heap.size + 2 < W.heap.size
theorem LitS.kept {w W w1 : World} {c0 c1 c2 c3 c4 c5 c6 c7 c8 c9 c10 sg : Value} {b q : Nat} (h : LitS w c0 c1 c2 c3 c4 c5 c6 c7 c8 c9 c10 sg b q W) (hb : b ≤ w.heap.size + 2) (k : Below W.heap.size W w1) : LitS w c0 c1 c2 c3 c4 c5 c6 c7 c8 c9 c10 sg b q w1 := by
  obtain ⟨h0, h1, h2, h3, h4, h5, h6, h7, h8, h9, h10, hs, hB, hz⟩ := h
  have hz' : w.heap.size < W.heap.size := by omega
  exact ⟨(k.cell (p := ⟨w.heap.size, 0, none⟩) hz').trans h0, (k.cell (p := ⟨w.heap.size, 1, none⟩) hz').trans h1, (k.cell (p := ⟨w.heap.size, 2, none⟩) hz').trans h2, (k.cell (p := ⟨w.heap.size, 3, none⟩) hz').trans h3, (k.cell (p := ⟨w.heap.size, 4, none⟩) hz').trans h4, (k.cell (p := ⟨w.heap.size, 5, none⟩) hz').trans h5, (k.cell (p := ⟨w.heap.size, 6, none⟩) hz').trans h6, (k.cell (p := ⟨w.heap.size, 7, none⟩) hz').trans h7, (k.cell (p := ⟨w.heap.size, 8, none⟩) hz').trans h8, (k.cell (p := ⟨w.heap.size, 9, none⟩) hz').trans h9, (k.cell (p := ⟨w.heap.size, 10, none⟩) hz').trans h10,
    (k.cell (p := ⟨b, q, none⟩) (by show b < W.heap.size; omega)).trans hs, hB.trans (k.mono (by omega)), Nat.lt_of_lt_of_le hz k.size⟩

set_option maxRecDepth 100000 in
set_option maxHeartbeats 16000000 in
theorem rshowLit_c (t : Lt) (w : World) (cs : List Value) (hr : rightL t = true) (hk : L1k t) (hl : (showL t).length ≤ 10000000) (hc : LtC w w.heap.size t cs) :
    Calls Tryz.prog 37 #[.agg cs.toArray] w fun e w' => e = .returned (.string ⟨(showL t).toArray⟩) ∧ Below w.heap.size w w' := by
  obtain ⟨op, ta, tx, ty⟩ := t
  obtain ⟨o0, k0, o1, k1, o2, k2, rfl, _, H0, H1, H2⟩ := hc.look
  obtain ⟨hk0, hk1, hk2⟩ := hk
  simp only at H0 H1 H2 hk0 hk1 hk2 ⊢
  clear hc
  have B3 : Hid (∀ x y z : Obj, Below w.heap.size w (((w.alloc x).alloc y).alloc z)) := Lib.hid fun x y z => (((Below.refl _ _).alloc (Nat.le_refl _) x).alloc (by simp) y).alloc (by simp; omega) z
  rcases rightL_cases hr with ⟨h1, h2, -⟩ | ⟨h1, h2, -⟩ | ⟨h1, -, h3, h4, -⟩ | ⟨h1, h2, h3, -⟩ | ⟨h1, h2, h3, -, h4, -⟩
  all_goals
    simp only at h1
    clear hr
  · subst h1
    have Hz : Hid (showL ⟨1, ta, tx, ty⟩ = showA ta) := Lib.hid (by simp [showL])
    have hlen : (showA ta).length ≤ 10000000 := by
      rw [Hz.out] at hl
      exact hl
    have HA := Lib.hid (fun (W : World) (hb : Below w.heap.size w W) => rshowAtom_c ta W _ h2 hk0 hlen ((H0.below hb).more hb.size))
    clear hl hk0 hk1 hk2 H0 H1 H2 h2 hlen
    obtain ⟨A, hA⟩ : ∃ A, showA ta = A := ⟨_, rfl⟩
    rw [hA] at Hz HA
    go_enter Tryz.func37, Tryz.ntmps37
    go_wp2_with fail
    refine (HA.out _ (B3.out _ _ _)).mono ?_
    rintro e w1 ⟨rfl, b1⟩
    go_wp2
    go_ret
    exact ⟨by rw [Hz.out]; rfl, (B3.out _ _ _).trans (b1.mono (by simp; omega))⟩
  · subst h1
    have Hz : Hid (showL ⟨2, ta, tx, ty⟩ = [33] ++ showA ta) := Lib.hid (by simp [showL])
    have hlen : (showA ta).length + 1 ≤ 10000000 := by
      rw [Hz.out] at hl
      simp only [List.length_append, List.length_cons, List.length_nil] at hl
      omega
    have HA := Lib.hid (fun (W : World) (hb : Below w.heap.size w W) => rshowAtom_c ta W _ h2 hk0 (by omega) ((H0.below hb).more hb.size))
    clear hl hk0 hk1 hk2 H0 H1 H2 h2
    obtain ⟨A, hA⟩ : ∃ A, showA ta = A := ⟨_, rfl⟩
    rw [hA] at Hz HA hlen
    have g1 : ¬ 9223372036854775807 < 1 + A.length := by omega
    go_enter Tryz.func37, Tryz.ntmps37
    go_wp2_with fail
    refine (HA.out _ (B3.out _ _ _)).mono ?_
    rintro e w1 ⟨rfl, b1⟩
    go_wp2
    go_ret
    exact ⟨by rw [Hz.out]; exact congrArg Ending.returned (ap2 [33] A), (B3.out _ _ _).trans (b1.mono (by simp; omega))⟩
  · rcases (show op = 3 ∨ op = 4 ∨ op = 5 ∨ op = 6 by omega) with rfl | rfl | rfl | rfl
    · have Hz : Hid (showL ⟨3, ta, tx, ty⟩ = showT 20 tx ++ [32, 61, 32] ++ showT 20 ty) := Lib.hid (by simp [showL, wordL])
      have hlen : (showT 20 tx).length + 3 + (showT 20 ty).length ≤ 10000000 := by
        rw [Hz.out] at hl
        simp only [List.length_append, List.length_cons, List.length_nil] at hl
        omega
      have HX0 := Lib.hid (fun (W : World) (hb : Below w.heap.size w W) => rshowTerm_c 20 tx W _ h3 hk1 (by omega) ((H1.under hb).more hb.size))
      have HY0 := Lib.hid (fun (W : World) (hb : Below w.heap.size w W) => rshowTerm_c 20 ty W _ h4 hk2 (by omega) ((H2.under hb).more hb.size))
      clear hl hk0 hk1 hk2 H0 H1 H2 h3 h4 h1
      obtain ⟨X, hX⟩ : ∃ A, showT 20 tx = A := ⟨_, rfl⟩
      obtain ⟨Y, hY⟩ : ∃ A, showT 20 ty = A := ⟨_, rfl⟩
      rw [hX] at HX0
      rw [hY] at HY0
      rw [hX, hY] at Hz hlen
      clear hX hY
      have hP : Hid (LitS w (.int .i64 3) (.string ta.rel) (.slice o0 ta.l.length k0) (.int .i64 tx.op) (.string tx.s) (.int .i64 tx.n) (.slice o1 tx.l.length k1) (.int .i64 ty.op) (.string ty.s) (.int .i64 ty.n) (.slice o2 ty.l.length k2) (.string ⟨#[32, 61, 32]⟩) (w.heap.size + 1) 3 (((w.alloc (.cells #[.int .i64 3, .string ta.rel, .slice o0 ta.l.length k0, .int .i64 tx.op, .string tx.s, .int .i64 tx.n, .slice o1 tx.l.length k1, .int .i64 ty.op, .string ty.s, .int .i64 ty.n, .slice o2 ty.l.length k2] 81)).alloc (.cells #[.string ⟨#[]⟩, .string ⟨#[]⟩, .string ⟨#[]⟩, .string ⟨#[32, 61, 32]⟩, .string ⟨#[32, 33, 61, 32]⟩, .string ⟨#[32, 60, 32]⟩, .string ⟨#[32, 60, 61, 32]⟩] 123)).alloc (.cells #[.string ⟨#[99, 111, 117, 110, 116]⟩, .string ⟨#[115, 117, 109, 32]⟩, .string ⟨#[109, 105, 110, 32]⟩, .string ⟨#[109, 97, 120, 32]⟩] 124))) := Lib.hid ⟨by go_simp, by go_simp, by go_simp, by go_simp, by go_simp, by go_simp, by go_simp, by go_simp, by go_simp, by go_simp, by go_simp, by go_simp, B3.out _ _ _, by simp⟩
      have HX : Hid (∀ W, LitS w (.int .i64 3) (.string ta.rel) (.slice o0 ta.l.length k0) (.int .i64 tx.op) (.string tx.s) (.int .i64 tx.n) (.slice o1 tx.l.length k1) (.int .i64 ty.op) (.string ty.s) (.int .i64 ty.n) (.slice o2 ty.l.length k2) (.string ⟨#[32, 61, 32]⟩) (w.heap.size + 1) 3 W → Calls Tryz.prog 68 #[.agg #[.int .i64 tx.op, .string tx.s, .int .i64 tx.n, .slice o1 tx.l.length k1]] W fun e w' => e = .returned (.string ⟨X.toArray⟩) ∧ LitS w (.int .i64 3) (.string ta.rel) (.slice o0 ta.l.length k0) (.int .i64 tx.op) (.string tx.s) (.int .i64 tx.n) (.slice o1 tx.l.length k1) (.int .i64 ty.op) (.string ty.s) (.int .i64 ty.n) (.slice o2 ty.l.length k2) (.string ⟨#[32, 61, 32]⟩) (w.heap.size + 1) 3 w') := Lib.hid fun W hS => (HX0.out W hS.2.2.2.2.2.2.2.2.2.2.2.2.1).mono (by rintro e w1 ⟨rfl, b1⟩; exact ⟨rfl, hS.kept (by omega) b1⟩)
      have HY : Hid (∀ W, LitS w (.int .i64 3) (.string ta.rel) (.slice o0 ta.l.length k0) (.int .i64 tx.op) (.string tx.s) (.int .i64 tx.n) (.slice o1 tx.l.length k1) (.int .i64 ty.op) (.string ty.s) (.int .i64 ty.n) (.slice o2 ty.l.length k2) (.string ⟨#[32, 61, 32]⟩) (w.heap.size + 1) 3 W → Calls Tryz.prog 68 #[.agg #[.int .i64 ty.op, .string ty.s, .int .i64 ty.n, .slice o2 ty.l.length k2]] W fun e w' => e = .returned (.string ⟨Y.toArray⟩) ∧ LitS w (.int .i64 3) (.string ta.rel) (.slice o0 ta.l.length k0) (.int .i64 tx.op) (.string tx.s) (.int .i64 tx.n) (.slice o1 tx.l.length k1) (.int .i64 ty.op) (.string ty.s) (.int .i64 ty.n) (.slice o2 ty.l.length k2) (.string ⟨#[32, 61, 32]⟩) (w.heap.size + 1) 3 w') := Lib.hid fun W hS => (HY0.out W hS.2.2.2.2.2.2.2.2.2.2.2.2.1).mono (by rintro e w1 ⟨rfl, b1⟩; exact ⟨rfl, hS.kept (by omega) b1⟩)
      have hS := hP.out.kept (by omega) ((Below.refl _ _).drew)
      have g1 : ¬ 9223372036854775807 < X.length + 3 := by omega
      have g2 : ¬ 9223372036854775807 < X.length + 3 + Y.length := by omega
      clear hP HX0 HY0 hlen
      go_enter Tryz.func37, Tryz.ntmps37
      go_wp2
      go_region_held3 (fun W => W.cell? ⟨w.heap.size, 0, none⟩ = some (.int .i64 3) ∧ W.cell? ⟨w.heap.size, 1, none⟩ = some (.string ta.rel) ∧ W.cell? ⟨w.heap.size, 2, none⟩ = some (.slice o0 ta.l.length k0) ∧ W.cell? ⟨w.heap.size, 3, none⟩ = some (.int .i64 tx.op) ∧ W.cell? ⟨w.heap.size, 4, none⟩ = some (.string tx.s) ∧ W.cell? ⟨w.heap.size, 5, none⟩ = some (.int .i64 tx.n) ∧ W.cell? ⟨w.heap.size, 6, none⟩ = some (.slice o1 tx.l.length k1) ∧ W.cell? ⟨w.heap.size, 7, none⟩ = some (.int .i64 ty.op) ∧ W.cell? ⟨w.heap.size, 8, none⟩ = some (.string ty.s) ∧ W.cell? ⟨w.heap.size, 9, none⟩ = some (.int .i64 ty.n) ∧ W.cell? ⟨w.heap.size, 10, none⟩ = some (.slice o2 ty.l.length k2) ∧ W.cell? ⟨w.heap.size + 1, 3, none⟩ = some (.string ⟨#[32, 61, 32]⟩) ∧ Below w.heap.size w W ∧ w.heap.size + 2 < W.heap.size) (first | exact hk | exact hS) (first | (go_at_call 68; (with_reducible refine (HX.out _ ?_).mono ?_); (next => first | exact hk | exact hS); rintro e w4 ⟨rfl, hk⟩; have hk2 := hk; obtain ⟨x0, x1, x2, x3, x4, x5, x6, x7, x8, x9, x10, x11, _, _⟩ := hk2) | (go_at_call 68; (with_reducible refine (HY.out _ ?_).mono ?_); (next => first | exact hk | exact hS); rintro e w4 ⟨rfl, hk⟩; have hk2 := hk; obtain ⟨x0, x1, x2, x3, x4, x5, x6, x7, x8, x9, x10, x11, _, _⟩ := hk2))
      all_goals
        go_wp2
        go_ret
        exact ⟨by rw [Hz.out]; exact congrArg Ending.returned (ap3 X [32, 61, 32] Y), hk.2.2.2.2.2.2.2.2.2.2.2.2.1⟩
    · have Hz : Hid (showL ⟨4, ta, tx, ty⟩ = showT 20 tx ++ [32, 33, 61, 32] ++ showT 20 ty) := Lib.hid (by simp [showL, wordL])
      have hlen : (showT 20 tx).length + 4 + (showT 20 ty).length ≤ 10000000 := by
        rw [Hz.out] at hl
        simp only [List.length_append, List.length_cons, List.length_nil] at hl
        omega
      have HX0 := Lib.hid (fun (W : World) (hb : Below w.heap.size w W) => rshowTerm_c 20 tx W _ h3 hk1 (by omega) ((H1.under hb).more hb.size))
      have HY0 := Lib.hid (fun (W : World) (hb : Below w.heap.size w W) => rshowTerm_c 20 ty W _ h4 hk2 (by omega) ((H2.under hb).more hb.size))
      clear hl hk0 hk1 hk2 H0 H1 H2 h3 h4 h1
      obtain ⟨X, hX⟩ : ∃ A, showT 20 tx = A := ⟨_, rfl⟩
      obtain ⟨Y, hY⟩ : ∃ A, showT 20 ty = A := ⟨_, rfl⟩
      rw [hX] at HX0
      rw [hY] at HY0
      rw [hX, hY] at Hz hlen
      clear hX hY
      have hP : Hid (LitS w (.int .i64 4) (.string ta.rel) (.slice o0 ta.l.length k0) (.int .i64 tx.op) (.string tx.s) (.int .i64 tx.n) (.slice o1 tx.l.length k1) (.int .i64 ty.op) (.string ty.s) (.int .i64 ty.n) (.slice o2 ty.l.length k2) (.string ⟨#[32, 33, 61, 32]⟩) (w.heap.size + 1) 4 (((w.alloc (.cells #[.int .i64 4, .string ta.rel, .slice o0 ta.l.length k0, .int .i64 tx.op, .string tx.s, .int .i64 tx.n, .slice o1 tx.l.length k1, .int .i64 ty.op, .string ty.s, .int .i64 ty.n, .slice o2 ty.l.length k2] 81)).alloc (.cells #[.string ⟨#[]⟩, .string ⟨#[]⟩, .string ⟨#[]⟩, .string ⟨#[32, 61, 32]⟩, .string ⟨#[32, 33, 61, 32]⟩, .string ⟨#[32, 60, 32]⟩, .string ⟨#[32, 60, 61, 32]⟩] 123)).alloc (.cells #[.string ⟨#[99, 111, 117, 110, 116]⟩, .string ⟨#[115, 117, 109, 32]⟩, .string ⟨#[109, 105, 110, 32]⟩, .string ⟨#[109, 97, 120, 32]⟩] 124))) := Lib.hid ⟨by go_simp, by go_simp, by go_simp, by go_simp, by go_simp, by go_simp, by go_simp, by go_simp, by go_simp, by go_simp, by go_simp, by go_simp, B3.out _ _ _, by simp⟩
      have HX : Hid (∀ W, LitS w (.int .i64 4) (.string ta.rel) (.slice o0 ta.l.length k0) (.int .i64 tx.op) (.string tx.s) (.int .i64 tx.n) (.slice o1 tx.l.length k1) (.int .i64 ty.op) (.string ty.s) (.int .i64 ty.n) (.slice o2 ty.l.length k2) (.string ⟨#[32, 33, 61, 32]⟩) (w.heap.size + 1) 4 W → Calls Tryz.prog 68 #[.agg #[.int .i64 tx.op, .string tx.s, .int .i64 tx.n, .slice o1 tx.l.length k1]] W fun e w' => e = .returned (.string ⟨X.toArray⟩) ∧ LitS w (.int .i64 4) (.string ta.rel) (.slice o0 ta.l.length k0) (.int .i64 tx.op) (.string tx.s) (.int .i64 tx.n) (.slice o1 tx.l.length k1) (.int .i64 ty.op) (.string ty.s) (.int .i64 ty.n) (.slice o2 ty.l.length k2) (.string ⟨#[32, 33, 61, 32]⟩) (w.heap.size + 1) 4 w') := Lib.hid fun W hS => (HX0.out W hS.2.2.2.2.2.2.2.2.2.2.2.2.1).mono (by rintro e w1 ⟨rfl, b1⟩; exact ⟨rfl, hS.kept (by omega) b1⟩)
      have HY : Hid (∀ W, LitS w (.int .i64 4) (.string ta.rel) (.slice o0 ta.l.length k0) (.int .i64 tx.op) (.string tx.s) (.int .i64 tx.n) (.slice o1 tx.l.length k1) (.int .i64 ty.op) (.string ty.s) (.int .i64 ty.n) (.slice o2 ty.l.length k2) (.string ⟨#[32, 33, 61, 32]⟩) (w.heap.size + 1) 4 W → Calls Tryz.prog 68 #[.agg #[.int .i64 ty.op, .string ty.s, .int .i64 ty.n, .slice o2 ty.l.length k2]] W fun e w' => e = .returned (.string ⟨Y.toArray⟩) ∧ LitS w (.int .i64 4) (.string ta.rel) (.slice o0 ta.l.length k0) (.int .i64 tx.op) (.string tx.s) (.int .i64 tx.n) (.slice o1 tx.l.length k1) (.int .i64 ty.op) (.string ty.s) (.int .i64 ty.n) (.slice o2 ty.l.length k2) (.string ⟨#[32, 33, 61, 32]⟩) (w.heap.size + 1) 4 w') := Lib.hid fun W hS => (HY0.out W hS.2.2.2.2.2.2.2.2.2.2.2.2.1).mono (by rintro e w1 ⟨rfl, b1⟩; exact ⟨rfl, hS.kept (by omega) b1⟩)
      have hS := hP.out.kept (by omega) ((Below.refl _ _).drew)
      have g1 : ¬ 9223372036854775807 < X.length + 4 := by omega
      have g2 : ¬ 9223372036854775807 < X.length + 4 + Y.length := by omega
      clear hP HX0 HY0 hlen
      go_enter Tryz.func37, Tryz.ntmps37
      go_wp2
      go_region_held3 (fun W => W.cell? ⟨w.heap.size, 0, none⟩ = some (.int .i64 4) ∧ W.cell? ⟨w.heap.size, 1, none⟩ = some (.string ta.rel) ∧ W.cell? ⟨w.heap.size, 2, none⟩ = some (.slice o0 ta.l.length k0) ∧ W.cell? ⟨w.heap.size, 3, none⟩ = some (.int .i64 tx.op) ∧ W.cell? ⟨w.heap.size, 4, none⟩ = some (.string tx.s) ∧ W.cell? ⟨w.heap.size, 5, none⟩ = some (.int .i64 tx.n) ∧ W.cell? ⟨w.heap.size, 6, none⟩ = some (.slice o1 tx.l.length k1) ∧ W.cell? ⟨w.heap.size, 7, none⟩ = some (.int .i64 ty.op) ∧ W.cell? ⟨w.heap.size, 8, none⟩ = some (.string ty.s) ∧ W.cell? ⟨w.heap.size, 9, none⟩ = some (.int .i64 ty.n) ∧ W.cell? ⟨w.heap.size, 10, none⟩ = some (.slice o2 ty.l.length k2) ∧ W.cell? ⟨w.heap.size + 1, 4, none⟩ = some (.string ⟨#[32, 33, 61, 32]⟩) ∧ Below w.heap.size w W ∧ w.heap.size + 2 < W.heap.size) (first | exact hk | exact hS) (first | (go_at_call 68; (with_reducible refine (HX.out _ ?_).mono ?_); (next => first | exact hk | exact hS); rintro e w4 ⟨rfl, hk⟩; have hk2 := hk; obtain ⟨x0, x1, x2, x3, x4, x5, x6, x7, x8, x9, x10, x11, _, _⟩ := hk2) | (go_at_call 68; (with_reducible refine (HY.out _ ?_).mono ?_); (next => first | exact hk | exact hS); rintro e w4 ⟨rfl, hk⟩; have hk2 := hk; obtain ⟨x0, x1, x2, x3, x4, x5, x6, x7, x8, x9, x10, x11, _, _⟩ := hk2))
      all_goals
        go_wp2
        go_ret
        exact ⟨by rw [Hz.out]; exact congrArg Ending.returned (ap3 X [32, 33, 61, 32] Y), hk.2.2.2.2.2.2.2.2.2.2.2.2.1⟩
    · have Hz : Hid (showL ⟨5, ta, tx, ty⟩ = showT 20 tx ++ [32, 60, 32] ++ showT 20 ty) := Lib.hid (by simp [showL, wordL])
      have hlen : (showT 20 tx).length + 3 + (showT 20 ty).length ≤ 10000000 := by
        rw [Hz.out] at hl
        simp only [List.length_append, List.length_cons, List.length_nil] at hl
        omega
      have HX0 := Lib.hid (fun (W : World) (hb : Below w.heap.size w W) => rshowTerm_c 20 tx W _ h3 hk1 (by omega) ((H1.under hb).more hb.size))
      have HY0 := Lib.hid (fun (W : World) (hb : Below w.heap.size w W) => rshowTerm_c 20 ty W _ h4 hk2 (by omega) ((H2.under hb).more hb.size))
      clear hl hk0 hk1 hk2 H0 H1 H2 h3 h4 h1
      obtain ⟨X, hX⟩ : ∃ A, showT 20 tx = A := ⟨_, rfl⟩
      obtain ⟨Y, hY⟩ : ∃ A, showT 20 ty = A := ⟨_, rfl⟩
      rw [hX] at HX0
      rw [hY] at HY0
      rw [hX, hY] at Hz hlen
      clear hX hY
      have hP : Hid (LitS w (.int .i64 5) (.string ta.rel) (.slice o0 ta.l.length k0) (.int .i64 tx.op) (.string tx.s) (.int .i64 tx.n) (.slice o1 tx.l.length k1) (.int .i64 ty.op) (.string ty.s) (.int .i64 ty.n) (.slice o2 ty.l.length k2) (.string ⟨#[32, 60, 32]⟩) (w.heap.size + 1) 5 (((w.alloc (.cells #[.int .i64 5, .string ta.rel, .slice o0 ta.l.length k0, .int .i64 tx.op, .string tx.s, .int .i64 tx.n, .slice o1 tx.l.length k1, .int .i64 ty.op, .string ty.s, .int .i64 ty.n, .slice o2 ty.l.length k2] 81)).alloc (.cells #[.string ⟨#[]⟩, .string ⟨#[]⟩, .string ⟨#[]⟩, .string ⟨#[32, 61, 32]⟩, .string ⟨#[32, 33, 61, 32]⟩, .string ⟨#[32, 60, 32]⟩, .string ⟨#[32, 60, 61, 32]⟩] 123)).alloc (.cells #[.string ⟨#[99, 111, 117, 110, 116]⟩, .string ⟨#[115, 117, 109, 32]⟩, .string ⟨#[109, 105, 110, 32]⟩, .string ⟨#[109, 97, 120, 32]⟩] 124))) := Lib.hid ⟨by go_simp, by go_simp, by go_simp, by go_simp, by go_simp, by go_simp, by go_simp, by go_simp, by go_simp, by go_simp, by go_simp, by go_simp, B3.out _ _ _, by simp⟩
      have HX : Hid (∀ W, LitS w (.int .i64 5) (.string ta.rel) (.slice o0 ta.l.length k0) (.int .i64 tx.op) (.string tx.s) (.int .i64 tx.n) (.slice o1 tx.l.length k1) (.int .i64 ty.op) (.string ty.s) (.int .i64 ty.n) (.slice o2 ty.l.length k2) (.string ⟨#[32, 60, 32]⟩) (w.heap.size + 1) 5 W → Calls Tryz.prog 68 #[.agg #[.int .i64 tx.op, .string tx.s, .int .i64 tx.n, .slice o1 tx.l.length k1]] W fun e w' => e = .returned (.string ⟨X.toArray⟩) ∧ LitS w (.int .i64 5) (.string ta.rel) (.slice o0 ta.l.length k0) (.int .i64 tx.op) (.string tx.s) (.int .i64 tx.n) (.slice o1 tx.l.length k1) (.int .i64 ty.op) (.string ty.s) (.int .i64 ty.n) (.slice o2 ty.l.length k2) (.string ⟨#[32, 60, 32]⟩) (w.heap.size + 1) 5 w') := Lib.hid fun W hS => (HX0.out W hS.2.2.2.2.2.2.2.2.2.2.2.2.1).mono (by rintro e w1 ⟨rfl, b1⟩; exact ⟨rfl, hS.kept (by omega) b1⟩)
      have HY : Hid (∀ W, LitS w (.int .i64 5) (.string ta.rel) (.slice o0 ta.l.length k0) (.int .i64 tx.op) (.string tx.s) (.int .i64 tx.n) (.slice o1 tx.l.length k1) (.int .i64 ty.op) (.string ty.s) (.int .i64 ty.n) (.slice o2 ty.l.length k2) (.string ⟨#[32, 60, 32]⟩) (w.heap.size + 1) 5 W → Calls Tryz.prog 68 #[.agg #[.int .i64 ty.op, .string ty.s, .int .i64 ty.n, .slice o2 ty.l.length k2]] W fun e w' => e = .returned (.string ⟨Y.toArray⟩) ∧ LitS w (.int .i64 5) (.string ta.rel) (.slice o0 ta.l.length k0) (.int .i64 tx.op) (.string tx.s) (.int .i64 tx.n) (.slice o1 tx.l.length k1) (.int .i64 ty.op) (.string ty.s) (.int .i64 ty.n) (.slice o2 ty.l.length k2) (.string ⟨#[32, 60, 32]⟩) (w.heap.size + 1) 5 w') := Lib.hid fun W hS => (HY0.out W hS.2.2.2.2.2.2.2.2.2.2.2.2.1).mono (by rintro e w1 ⟨rfl, b1⟩; exact ⟨rfl, hS.kept (by omega) b1⟩)
      have hS := hP.out.kept (by omega) ((Below.refl _ _).drew)
      have g1 : ¬ 9223372036854775807 < X.length + 3 := by omega
      have g2 : ¬ 9223372036854775807 < X.length + 3 + Y.length := by omega
      clear hP HX0 HY0 hlen
      go_enter Tryz.func37, Tryz.ntmps37
      go_wp2
      go_region_held3 (fun W => W.cell? ⟨w.heap.size, 0, none⟩ = some (.int .i64 5) ∧ W.cell? ⟨w.heap.size, 1, none⟩ = some (.string ta.rel) ∧ W.cell? ⟨w.heap.size, 2, none⟩ = some (.slice o0 ta.l.length k0) ∧ W.cell? ⟨w.heap.size, 3, none⟩ = some (.int .i64 tx.op) ∧ W.cell? ⟨w.heap.size, 4, none⟩ = some (.string tx.s) ∧ W.cell? ⟨w.heap.size, 5, none⟩ = some (.int .i64 tx.n) ∧ W.cell? ⟨w.heap.size, 6, none⟩ = some (.slice o1 tx.l.length k1) ∧ W.cell? ⟨w.heap.size, 7, none⟩ = some (.int .i64 ty.op) ∧ W.cell? ⟨w.heap.size, 8, none⟩ = some (.string ty.s) ∧ W.cell? ⟨w.heap.size, 9, none⟩ = some (.int .i64 ty.n) ∧ W.cell? ⟨w.heap.size, 10, none⟩ = some (.slice o2 ty.l.length k2) ∧ W.cell? ⟨w.heap.size + 1, 5, none⟩ = some (.string ⟨#[32, 60, 32]⟩) ∧ Below w.heap.size w W ∧ w.heap.size + 2 < W.heap.size) (first | exact hk | exact hS) (first | (go_at_call 68; (with_reducible refine (HX.out _ ?_).mono ?_); (next => first | exact hk | exact hS); rintro e w4 ⟨rfl, hk⟩; have hk2 := hk; obtain ⟨x0, x1, x2, x3, x4, x5, x6, x7, x8, x9, x10, x11, _, _⟩ := hk2) | (go_at_call 68; (with_reducible refine (HY.out _ ?_).mono ?_); (next => first | exact hk | exact hS); rintro e w4 ⟨rfl, hk⟩; have hk2 := hk; obtain ⟨x0, x1, x2, x3, x4, x5, x6, x7, x8, x9, x10, x11, _, _⟩ := hk2))
      all_goals
        go_wp2
        go_ret
        exact ⟨by rw [Hz.out]; exact congrArg Ending.returned (ap3 X [32, 60, 32] Y), hk.2.2.2.2.2.2.2.2.2.2.2.2.1⟩
    · have Hz : Hid (showL ⟨6, ta, tx, ty⟩ = showT 20 tx ++ [32, 60, 61, 32] ++ showT 20 ty) := Lib.hid (by simp [showL, wordL])
      have hlen : (showT 20 tx).length + 4 + (showT 20 ty).length ≤ 10000000 := by
        rw [Hz.out] at hl
        simp only [List.length_append, List.length_cons, List.length_nil] at hl
        omega
      have HX0 := Lib.hid (fun (W : World) (hb : Below w.heap.size w W) => rshowTerm_c 20 tx W _ h3 hk1 (by omega) ((H1.under hb).more hb.size))
      have HY0 := Lib.hid (fun (W : World) (hb : Below w.heap.size w W) => rshowTerm_c 20 ty W _ h4 hk2 (by omega) ((H2.under hb).more hb.size))
      clear hl hk0 hk1 hk2 H0 H1 H2 h3 h4 h1
      obtain ⟨X, hX⟩ : ∃ A, showT 20 tx = A := ⟨_, rfl⟩
      obtain ⟨Y, hY⟩ : ∃ A, showT 20 ty = A := ⟨_, rfl⟩
      rw [hX] at HX0
      rw [hY] at HY0
      rw [hX, hY] at Hz hlen
      clear hX hY
      have hP : Hid (LitS w (.int .i64 6) (.string ta.rel) (.slice o0 ta.l.length k0) (.int .i64 tx.op) (.string tx.s) (.int .i64 tx.n) (.slice o1 tx.l.length k1) (.int .i64 ty.op) (.string ty.s) (.int .i64 ty.n) (.slice o2 ty.l.length k2) (.string ⟨#[32, 60, 61, 32]⟩) (w.heap.size + 1) 6 (((w.alloc (.cells #[.int .i64 6, .string ta.rel, .slice o0 ta.l.length k0, .int .i64 tx.op, .string tx.s, .int .i64 tx.n, .slice o1 tx.l.length k1, .int .i64 ty.op, .string ty.s, .int .i64 ty.n, .slice o2 ty.l.length k2] 81)).alloc (.cells #[.string ⟨#[]⟩, .string ⟨#[]⟩, .string ⟨#[]⟩, .string ⟨#[32, 61, 32]⟩, .string ⟨#[32, 33, 61, 32]⟩, .string ⟨#[32, 60, 32]⟩, .string ⟨#[32, 60, 61, 32]⟩] 123)).alloc (.cells #[.string ⟨#[99, 111, 117, 110, 116]⟩, .string ⟨#[115, 117, 109, 32]⟩, .string ⟨#[109, 105, 110, 32]⟩, .string ⟨#[109, 97, 120, 32]⟩] 124))) := Lib.hid ⟨by go_simp, by go_simp, by go_simp, by go_simp, by go_simp, by go_simp, by go_simp, by go_simp, by go_simp, by go_simp, by go_simp, by go_simp, B3.out _ _ _, by simp⟩
      have HX : Hid (∀ W, LitS w (.int .i64 6) (.string ta.rel) (.slice o0 ta.l.length k0) (.int .i64 tx.op) (.string tx.s) (.int .i64 tx.n) (.slice o1 tx.l.length k1) (.int .i64 ty.op) (.string ty.s) (.int .i64 ty.n) (.slice o2 ty.l.length k2) (.string ⟨#[32, 60, 61, 32]⟩) (w.heap.size + 1) 6 W → Calls Tryz.prog 68 #[.agg #[.int .i64 tx.op, .string tx.s, .int .i64 tx.n, .slice o1 tx.l.length k1]] W fun e w' => e = .returned (.string ⟨X.toArray⟩) ∧ LitS w (.int .i64 6) (.string ta.rel) (.slice o0 ta.l.length k0) (.int .i64 tx.op) (.string tx.s) (.int .i64 tx.n) (.slice o1 tx.l.length k1) (.int .i64 ty.op) (.string ty.s) (.int .i64 ty.n) (.slice o2 ty.l.length k2) (.string ⟨#[32, 60, 61, 32]⟩) (w.heap.size + 1) 6 w') := Lib.hid fun W hS => (HX0.out W hS.2.2.2.2.2.2.2.2.2.2.2.2.1).mono (by rintro e w1 ⟨rfl, b1⟩; exact ⟨rfl, hS.kept (by omega) b1⟩)
      have HY : Hid (∀ W, LitS w (.int .i64 6) (.string ta.rel) (.slice o0 ta.l.length k0) (.int .i64 tx.op) (.string tx.s) (.int .i64 tx.n) (.slice o1 tx.l.length k1) (.int .i64 ty.op) (.string ty.s) (.int .i64 ty.n) (.slice o2 ty.l.length k2) (.string ⟨#[32, 60, 61, 32]⟩) (w.heap.size + 1) 6 W → Calls Tryz.prog 68 #[.agg #[.int .i64 ty.op, .string ty.s, .int .i64 ty.n, .slice o2 ty.l.length k2]] W fun e w' => e = .returned (.string ⟨Y.toArray⟩) ∧ LitS w (.int .i64 6) (.string ta.rel) (.slice o0 ta.l.length k0) (.int .i64 tx.op) (.string tx.s) (.int .i64 tx.n) (.slice o1 tx.l.length k1) (.int .i64 ty.op) (.string ty.s) (.int .i64 ty.n) (.slice o2 ty.l.length k2) (.string ⟨#[32, 60, 61, 32]⟩) (w.heap.size + 1) 6 w') := Lib.hid fun W hS => (HY0.out W hS.2.2.2.2.2.2.2.2.2.2.2.2.1).mono (by rintro e w1 ⟨rfl, b1⟩; exact ⟨rfl, hS.kept (by omega) b1⟩)
      have hS := hP.out.kept (by omega) ((Below.refl _ _).drew)
      have g1 : ¬ 9223372036854775807 < X.length + 4 := by omega
      have g2 : ¬ 9223372036854775807 < X.length + 4 + Y.length := by omega
      clear hP HX0 HY0 hlen
      go_enter Tryz.func37, Tryz.ntmps37
      go_wp2
      go_region_held3 (fun W => W.cell? ⟨w.heap.size, 0, none⟩ = some (.int .i64 6) ∧ W.cell? ⟨w.heap.size, 1, none⟩ = some (.string ta.rel) ∧ W.cell? ⟨w.heap.size, 2, none⟩ = some (.slice o0 ta.l.length k0) ∧ W.cell? ⟨w.heap.size, 3, none⟩ = some (.int .i64 tx.op) ∧ W.cell? ⟨w.heap.size, 4, none⟩ = some (.string tx.s) ∧ W.cell? ⟨w.heap.size, 5, none⟩ = some (.int .i64 tx.n) ∧ W.cell? ⟨w.heap.size, 6, none⟩ = some (.slice o1 tx.l.length k1) ∧ W.cell? ⟨w.heap.size, 7, none⟩ = some (.int .i64 ty.op) ∧ W.cell? ⟨w.heap.size, 8, none⟩ = some (.string ty.s) ∧ W.cell? ⟨w.heap.size, 9, none⟩ = some (.int .i64 ty.n) ∧ W.cell? ⟨w.heap.size, 10, none⟩ = some (.slice o2 ty.l.length k2) ∧ W.cell? ⟨w.heap.size + 1, 6, none⟩ = some (.string ⟨#[32, 60, 61, 32]⟩) ∧ Below w.heap.size w W ∧ w.heap.size + 2 < W.heap.size) (first | exact hk | exact hS) (first | (go_at_call 68; (with_reducible refine (HX.out _ ?_).mono ?_); (next => first | exact hk | exact hS); rintro e w4 ⟨rfl, hk⟩; have hk2 := hk; obtain ⟨x0, x1, x2, x3, x4, x5, x6, x7, x8, x9, x10, x11, _, _⟩ := hk2) | (go_at_call 68; (with_reducible refine (HY.out _ ?_).mono ?_); (next => first | exact hk | exact hS); rintro e w4 ⟨rfl, hk⟩; have hk2 := hk; obtain ⟨x0, x1, x2, x3, x4, x5, x6, x7, x8, x9, x10, x11, _, _⟩ := hk2))
      all_goals
        go_wp2
        go_ret
        exact ⟨by rw [Hz.out]; exact congrArg Ending.returned (ap3 X [32, 60, 61, 32] Y), hk.2.2.2.2.2.2.2.2.2.2.2.2.1⟩
  · subst h1
    have Hz : Hid (showL ⟨7, ta, tx, ty⟩ = showT 20 tx ++ [32, 61, 32] ++ [99, 111, 117, 110, 116] ++ [32, 58, 32, 123, 32] ++ showA ta ++ [32, 125]) := Lib.hid (by simp [showL, wordL])
    have hlen : (showT 20 tx).length + 15 + 0 + (showA ta).length ≤ 10000000 := by
      rw [Hz.out] at hl
      simp only [List.length_append, List.length_cons, List.length_nil] at hl
      omega
    have HX0 := Lib.hid (fun (W : World) (hb : Below w.heap.size w W) => rshowTerm_c 20 tx W _ h3 hk1 (by omega) ((H1.under hb).more hb.size))
    have HA0 := Lib.hid (fun (W : World) (hb : Below w.heap.size w W) => rshowAtom_c ta W _ h2 hk0 (by omega) ((H0.below hb).more hb.size))
    clear hl hk0 hk1 hk2 H0 H1 H2 h2 h3
    obtain ⟨X, hX⟩ : ∃ A, showT 20 tx = A := ⟨_, rfl⟩
    obtain ⟨A, hA⟩ : ∃ A, showA ta = A := ⟨_, rfl⟩
    rw [hX] at HX0
    rw [hA] at HA0
    rw [hX, hA] at Hz hlen
    clear hX hA
    have hP : Hid (LitS w (.int .i64 7) (.string ta.rel) (.slice o0 ta.l.length k0) (.int .i64 tx.op) (.string tx.s) (.int .i64 tx.n) (.slice o1 tx.l.length k1) (.int .i64 ty.op) (.string ty.s) (.int .i64 ty.n) (.slice o2 ty.l.length k2) (.string ⟨#[99, 111, 117, 110, 116]⟩) (w.heap.size + 1 + 1) 0 (((w.alloc (.cells #[.int .i64 7, .string ta.rel, .slice o0 ta.l.length k0, .int .i64 tx.op, .string tx.s, .int .i64 tx.n, .slice o1 tx.l.length k1, .int .i64 ty.op, .string ty.s, .int .i64 ty.n, .slice o2 ty.l.length k2] 81)).alloc (.cells #[.string ⟨#[]⟩, .string ⟨#[]⟩, .string ⟨#[]⟩, .string ⟨#[32, 61, 32]⟩, .string ⟨#[32, 33, 61, 32]⟩, .string ⟨#[32, 60, 32]⟩, .string ⟨#[32, 60, 61, 32]⟩] 123)).alloc (.cells #[.string ⟨#[99, 111, 117, 110, 116]⟩, .string ⟨#[115, 117, 109, 32]⟩, .string ⟨#[109, 105, 110, 32]⟩, .string ⟨#[109, 97, 120, 32]⟩] 124))) := Lib.hid ⟨by go_simp, by go_simp, by go_simp, by go_simp, by go_simp, by go_simp, by go_simp, by go_simp, by go_simp, by go_simp, by go_simp, by go_simp, B3.out _ _ _, by simp⟩
    have HX : Hid (∀ W, LitS w (.int .i64 7) (.string ta.rel) (.slice o0 ta.l.length k0) (.int .i64 tx.op) (.string tx.s) (.int .i64 tx.n) (.slice o1 tx.l.length k1) (.int .i64 ty.op) (.string ty.s) (.int .i64 ty.n) (.slice o2 ty.l.length k2) (.string ⟨#[99, 111, 117, 110, 116]⟩) (w.heap.size + 1 + 1) 0 W → Calls Tryz.prog 68 #[.agg #[.int .i64 tx.op, .string tx.s, .int .i64 tx.n, .slice o1 tx.l.length k1]] W fun e w' => e = .returned (.string ⟨X.toArray⟩) ∧ LitS w (.int .i64 7) (.string ta.rel) (.slice o0 ta.l.length k0) (.int .i64 tx.op) (.string tx.s) (.int .i64 tx.n) (.slice o1 tx.l.length k1) (.int .i64 ty.op) (.string ty.s) (.int .i64 ty.n) (.slice o2 ty.l.length k2) (.string ⟨#[99, 111, 117, 110, 116]⟩) (w.heap.size + 1 + 1) 0 w') := Lib.hid fun W hS => (HX0.out W hS.2.2.2.2.2.2.2.2.2.2.2.2.1).mono (by rintro e w1 ⟨rfl, b1⟩; exact ⟨rfl, hS.kept (by omega) b1⟩)
    have HA : Hid (∀ W, LitS w (.int .i64 7) (.string ta.rel) (.slice o0 ta.l.length k0) (.int .i64 tx.op) (.string tx.s) (.int .i64 tx.n) (.slice o1 tx.l.length k1) (.int .i64 ty.op) (.string ty.s) (.int .i64 ty.n) (.slice o2 ty.l.length k2) (.string ⟨#[99, 111, 117, 110, 116]⟩) (w.heap.size + 1 + 1) 0 W → Calls Tryz.prog 36 #[.agg #[.string ta.rel, .slice o0 ta.l.length k0]] W fun e w' => e = .returned (.string ⟨A.toArray⟩) ∧ LitS w (.int .i64 7) (.string ta.rel) (.slice o0 ta.l.length k0) (.int .i64 tx.op) (.string tx.s) (.int .i64 tx.n) (.slice o1 tx.l.length k1) (.int .i64 ty.op) (.string ty.s) (.int .i64 ty.n) (.slice o2 ty.l.length k2) (.string ⟨#[99, 111, 117, 110, 116]⟩) (w.heap.size + 1 + 1) 0 w') := Lib.hid fun W hS => (HA0.out W hS.2.2.2.2.2.2.2.2.2.2.2.2.1).mono (by rintro e w1 ⟨rfl, b1⟩; exact ⟨rfl, hS.kept (by omega) b1⟩)
    have hS := hP.out.kept (by omega) ((Below.refl _ _).drew)
    have u0 : IntKind.i64.wrap ((7 : Int) - 7) = 0 := by decide
    have u1 : IntKind.i64.wrap 0 = 0 := by decide
    have g0 : ¬ 9223372036854775807 < X.length + 3 := by omega
    have g1 : ¬ 9223372036854775807 < X.length + 3 + 5 := by omega
    have g2 : ¬ 9223372036854775807 < X.length + 8 := by omega
    have g3 : ¬ 9223372036854775807 < X.length + 3 + 5 + 5 := by omega
    have g4 : ¬ 9223372036854775807 < X.length + 3 + 5 + 5 + A.length := by omega
    have g5 : ¬ 9223372036854775807 < X.length + 3 + 5 + 5 + A.length + 2 := by omega
    have g6 : ¬ 9223372036854775807 < X.length + 13 := by omega
    have g7 : ¬ 9223372036854775807 < X.length + 13 + A.length := by omega
    have g8 : ¬ 9223372036854775807 < X.length + 13 + A.length + 2 := by omega
    clear hP HX0 HA0 hlen
    go_enter Tryz.func37, Tryz.ntmps37
    go_wp2
    go_region_held3 (fun W => W.cell? ⟨w.heap.size, 0, none⟩ = some (.int .i64 7) ∧ W.cell? ⟨w.heap.size, 1, none⟩ = some (.string ta.rel) ∧ W.cell? ⟨w.heap.size, 2, none⟩ = some (.slice o0 ta.l.length k0) ∧ W.cell? ⟨w.heap.size, 3, none⟩ = some (.int .i64 tx.op) ∧ W.cell? ⟨w.heap.size, 4, none⟩ = some (.string tx.s) ∧ W.cell? ⟨w.heap.size, 5, none⟩ = some (.int .i64 tx.n) ∧ W.cell? ⟨w.heap.size, 6, none⟩ = some (.slice o1 tx.l.length k1) ∧ W.cell? ⟨w.heap.size, 7, none⟩ = some (.int .i64 ty.op) ∧ W.cell? ⟨w.heap.size, 8, none⟩ = some (.string ty.s) ∧ W.cell? ⟨w.heap.size, 9, none⟩ = some (.int .i64 ty.n) ∧ W.cell? ⟨w.heap.size, 10, none⟩ = some (.slice o2 ty.l.length k2) ∧ W.cell? ⟨w.heap.size + 1 + 1, 0, none⟩ = some (.string ⟨#[99, 111, 117, 110, 116]⟩) ∧ Below w.heap.size w W ∧ w.heap.size + 2 < W.heap.size) (first | exact hk | exact hS) (first | (go_at_call 68; (with_reducible refine (HX.out _ ?_).mono ?_); (next => first | exact hk | exact hS); rintro e w4 ⟨rfl, hk⟩; have hk2 := hk; obtain ⟨x0, x1, x2, x3, x4, x5, x6, x7, x8, x9, x10, x11, _, _⟩ := hk2))
    all_goals
      go_wp2_with fail
      refine (HA.out _ hk).mono ?_
      rintro e w6 ⟨rfl, hk7⟩
      go_wp2
      go_ret
      exact ⟨by rw [Hz.out]; exact congrArg Ending.returned (ap6 X [32, 61, 32] [99, 111, 117, 110, 116] [32, 58, 32, 123, 32] A [32, 125]), hk7.2.2.2.2.2.2.2.2.2.2.2.2.1⟩
  · rcases (show op = 8 ∨ op = 9 ∨ op = 10 by omega) with rfl | rfl | rfl
    · have Hz : Hid (showL ⟨8, ta, tx, ty⟩ = showT 20 tx ++ [32, 61, 32] ++ [115, 117, 109, 32] ++ showT 20 ty ++ [32, 58, 32, 123, 32] ++ showA ta ++ [32, 125]) := Lib.hid (by simp [showL, wordL])
      have hlen : (showT 20 tx).length + 14 + (showT 20 ty).length + (showA ta).length ≤ 10000000 := by
        rw [Hz.out] at hl
        simp only [List.length_append, List.length_cons, List.length_nil] at hl
        omega
      have HX0 := Lib.hid (fun (W : World) (hb : Below w.heap.size w W) => rshowTerm_c 20 tx W _ h3 hk1 (by omega) ((H1.under hb).more hb.size))
      have HA0 := Lib.hid (fun (W : World) (hb : Below w.heap.size w W) => rshowAtom_c ta W _ h2 hk0 (by omega) ((H0.below hb).more hb.size))
      have HY0 := Lib.hid (fun (W : World) (hb : Below w.heap.size w W) => rshowTerm_c 20 ty W _ h4 hk2 (by omega) ((H2.under hb).more hb.size))
      clear hl hk0 hk1 hk2 H0 H1 H2 h2 h3 h4 h1
      obtain ⟨X, hX⟩ : ∃ A, showT 20 tx = A := ⟨_, rfl⟩
      obtain ⟨A, hA⟩ : ∃ A, showA ta = A := ⟨_, rfl⟩
      rw [hX] at HX0
      rw [hA] at HA0
      obtain ⟨Y, hY⟩ : ∃ A, showT 20 ty = A := ⟨_, rfl⟩
      rw [hY] at HY0
      rw [hX, hA, hY] at Hz hlen
      clear hX hA hY
      have hP : Hid (LitS w (.int .i64 8) (.string ta.rel) (.slice o0 ta.l.length k0) (.int .i64 tx.op) (.string tx.s) (.int .i64 tx.n) (.slice o1 tx.l.length k1) (.int .i64 ty.op) (.string ty.s) (.int .i64 ty.n) (.slice o2 ty.l.length k2) (.string ⟨#[115, 117, 109, 32]⟩) (w.heap.size + 1 + 1) 1 (((w.alloc (.cells #[.int .i64 8, .string ta.rel, .slice o0 ta.l.length k0, .int .i64 tx.op, .string tx.s, .int .i64 tx.n, .slice o1 tx.l.length k1, .int .i64 ty.op, .string ty.s, .int .i64 ty.n, .slice o2 ty.l.length k2] 81)).alloc (.cells #[.string ⟨#[]⟩, .string ⟨#[]⟩, .string ⟨#[]⟩, .string ⟨#[32, 61, 32]⟩, .string ⟨#[32, 33, 61, 32]⟩, .string ⟨#[32, 60, 32]⟩, .string ⟨#[32, 60, 61, 32]⟩] 123)).alloc (.cells #[.string ⟨#[99, 111, 117, 110, 116]⟩, .string ⟨#[115, 117, 109, 32]⟩, .string ⟨#[109, 105, 110, 32]⟩, .string ⟨#[109, 97, 120, 32]⟩] 124))) := Lib.hid ⟨by go_simp, by go_simp, by go_simp, by go_simp, by go_simp, by go_simp, by go_simp, by go_simp, by go_simp, by go_simp, by go_simp, by go_simp, B3.out _ _ _, by simp⟩
      have HX : Hid (∀ W, LitS w (.int .i64 8) (.string ta.rel) (.slice o0 ta.l.length k0) (.int .i64 tx.op) (.string tx.s) (.int .i64 tx.n) (.slice o1 tx.l.length k1) (.int .i64 ty.op) (.string ty.s) (.int .i64 ty.n) (.slice o2 ty.l.length k2) (.string ⟨#[115, 117, 109, 32]⟩) (w.heap.size + 1 + 1) 1 W → Calls Tryz.prog 68 #[.agg #[.int .i64 tx.op, .string tx.s, .int .i64 tx.n, .slice o1 tx.l.length k1]] W fun e w' => e = .returned (.string ⟨X.toArray⟩) ∧ LitS w (.int .i64 8) (.string ta.rel) (.slice o0 ta.l.length k0) (.int .i64 tx.op) (.string tx.s) (.int .i64 tx.n) (.slice o1 tx.l.length k1) (.int .i64 ty.op) (.string ty.s) (.int .i64 ty.n) (.slice o2 ty.l.length k2) (.string ⟨#[115, 117, 109, 32]⟩) (w.heap.size + 1 + 1) 1 w') := Lib.hid fun W hS => (HX0.out W hS.2.2.2.2.2.2.2.2.2.2.2.2.1).mono (by rintro e w1 ⟨rfl, b1⟩; exact ⟨rfl, hS.kept (by omega) b1⟩)
      have HA : Hid (∀ W, LitS w (.int .i64 8) (.string ta.rel) (.slice o0 ta.l.length k0) (.int .i64 tx.op) (.string tx.s) (.int .i64 tx.n) (.slice o1 tx.l.length k1) (.int .i64 ty.op) (.string ty.s) (.int .i64 ty.n) (.slice o2 ty.l.length k2) (.string ⟨#[115, 117, 109, 32]⟩) (w.heap.size + 1 + 1) 1 W → Calls Tryz.prog 36 #[.agg #[.string ta.rel, .slice o0 ta.l.length k0]] W fun e w' => e = .returned (.string ⟨A.toArray⟩) ∧ LitS w (.int .i64 8) (.string ta.rel) (.slice o0 ta.l.length k0) (.int .i64 tx.op) (.string tx.s) (.int .i64 tx.n) (.slice o1 tx.l.length k1) (.int .i64 ty.op) (.string ty.s) (.int .i64 ty.n) (.slice o2 ty.l.length k2) (.string ⟨#[115, 117, 109, 32]⟩) (w.heap.size + 1 + 1) 1 w') := Lib.hid fun W hS => (HA0.out W hS.2.2.2.2.2.2.2.2.2.2.2.2.1).mono (by rintro e w1 ⟨rfl, b1⟩; exact ⟨rfl, hS.kept (by omega) b1⟩)
      have HY : Hid (∀ W, LitS w (.int .i64 8) (.string ta.rel) (.slice o0 ta.l.length k0) (.int .i64 tx.op) (.string tx.s) (.int .i64 tx.n) (.slice o1 tx.l.length k1) (.int .i64 ty.op) (.string ty.s) (.int .i64 ty.n) (.slice o2 ty.l.length k2) (.string ⟨#[115, 117, 109, 32]⟩) (w.heap.size + 1 + 1) 1 W → Calls Tryz.prog 68 #[.agg #[.int .i64 ty.op, .string ty.s, .int .i64 ty.n, .slice o2 ty.l.length k2]] W fun e w' => e = .returned (.string ⟨Y.toArray⟩) ∧ LitS w (.int .i64 8) (.string ta.rel) (.slice o0 ta.l.length k0) (.int .i64 tx.op) (.string tx.s) (.int .i64 tx.n) (.slice o1 tx.l.length k1) (.int .i64 ty.op) (.string ty.s) (.int .i64 ty.n) (.slice o2 ty.l.length k2) (.string ⟨#[115, 117, 109, 32]⟩) (w.heap.size + 1 + 1) 1 w') := Lib.hid fun W hS => (HY0.out W hS.2.2.2.2.2.2.2.2.2.2.2.2.1).mono (by rintro e w1 ⟨rfl, b1⟩; exact ⟨rfl, hS.kept (by omega) b1⟩)
      have hS := hP.out.kept (by omega) ((Below.refl _ _).drew)
      have u0 : IntKind.i64.wrap ((8 : Int) - 7) = 1 := by decide
      have u1 : IntKind.i64.wrap 1 = 1 := by decide
      have g0 : ¬ 9223372036854775807 < X.length + 3 := by omega
      have g1 : ¬ 9223372036854775807 < X.length + 3 + 4 := by omega
      have g2 : ¬ 9223372036854775807 < X.length + 7 := by omega
      have g3 : ¬ 9223372036854775807 < X.length + 3 + 4 + Y.length := by omega
      have g4 : ¬ 9223372036854775807 < X.length + 3 + 4 + Y.length + 5 := by omega
      have g5 : ¬ 9223372036854775807 < X.length + 3 + 4 + Y.length + 5 + A.length := by omega
      have g6 : ¬ 9223372036854775807 < X.length + 3 + 4 + Y.length + 5 + A.length + 2 := by omega
      have g7 : ¬ 9223372036854775807 < X.length + 7 + Y.length := by omega
      have g8 : ¬ 9223372036854775807 < X.length + 7 + Y.length + 5 := by omega
      have g9 : ¬ 9223372036854775807 < X.length + 7 + Y.length + 5 + A.length := by omega
      have g10 : ¬ 9223372036854775807 < X.length + 7 + Y.length + 5 + A.length + 2 := by omega
      clear hP HX0 HA0 HY0 hlen
      go_enter Tryz.func37, Tryz.ntmps37
      go_wp2
      go_region_held3 (fun W => W.cell? ⟨w.heap.size, 0, none⟩ = some (.int .i64 8) ∧ W.cell? ⟨w.heap.size, 1, none⟩ = some (.string ta.rel) ∧ W.cell? ⟨w.heap.size, 2, none⟩ = some (.slice o0 ta.l.length k0) ∧ W.cell? ⟨w.heap.size, 3, none⟩ = some (.int .i64 tx.op) ∧ W.cell? ⟨w.heap.size, 4, none⟩ = some (.string tx.s) ∧ W.cell? ⟨w.heap.size, 5, none⟩ = some (.int .i64 tx.n) ∧ W.cell? ⟨w.heap.size, 6, none⟩ = some (.slice o1 tx.l.length k1) ∧ W.cell? ⟨w.heap.size, 7, none⟩ = some (.int .i64 ty.op) ∧ W.cell? ⟨w.heap.size, 8, none⟩ = some (.string ty.s) ∧ W.cell? ⟨w.heap.size, 9, none⟩ = some (.int .i64 ty.n) ∧ W.cell? ⟨w.heap.size, 10, none⟩ = some (.slice o2 ty.l.length k2) ∧ W.cell? ⟨w.heap.size + 1 + 1, 1, none⟩ = some (.string ⟨#[115, 117, 109, 32]⟩) ∧ Below w.heap.size w W ∧ w.heap.size + 2 < W.heap.size) (first | exact hk | exact hS) (first | (go_at_call 68; (with_reducible refine (HX.out _ ?_).mono ?_); (next => first | exact hk | exact hS); rintro e w4 ⟨rfl, hk⟩; have hk2 := hk; obtain ⟨x0, x1, x2, x3, x4, x5, x6, x7, x8, x9, x10, x11, _, _⟩ := hk2))
      all_goals
        go_wp2_with fail
        refine (HY.out _ hk).mono ?_
        rintro e w5 ⟨rfl, hk5⟩
        clear x0 x1 x2 x3 x4 x5 x6 x7 x8 x9 x10 x11
        have hk6 := hk5
        obtain ⟨x0, x1, x2, x3, x4, x5, x6, x7, x8, x9, x10, x11, _, _⟩ := hk6
        go_wp2_with fail
        refine (HA.out _ hk5).mono ?_
        rintro e w6 ⟨rfl, hk7⟩
        go_wp2
        go_ret
        exact ⟨by rw [Hz.out]; exact congrArg Ending.returned (ap7 X [32, 61, 32] [115, 117, 109, 32] Y [32, 58, 32, 123, 32] A [32, 125]), hk7.2.2.2.2.2.2.2.2.2.2.2.2.1⟩
    · have Hz : Hid (showL ⟨9, ta, tx, ty⟩ = showT 20 tx ++ [32, 61, 32] ++ [109, 105, 110, 32] ++ showT 20 ty ++ [32, 58, 32, 123, 32] ++ showA ta ++ [32, 125]) := Lib.hid (by simp [showL, wordL])
      have hlen : (showT 20 tx).length + 14 + (showT 20 ty).length + (showA ta).length ≤ 10000000 := by
        rw [Hz.out] at hl
        simp only [List.length_append, List.length_cons, List.length_nil] at hl
        omega
      have HX0 := Lib.hid (fun (W : World) (hb : Below w.heap.size w W) => rshowTerm_c 20 tx W _ h3 hk1 (by omega) ((H1.under hb).more hb.size))
      have HA0 := Lib.hid (fun (W : World) (hb : Below w.heap.size w W) => rshowAtom_c ta W _ h2 hk0 (by omega) ((H0.below hb).more hb.size))
      have HY0 := Lib.hid (fun (W : World) (hb : Below w.heap.size w W) => rshowTerm_c 20 ty W _ h4 hk2 (by omega) ((H2.under hb).more hb.size))
      clear hl hk0 hk1 hk2 H0 H1 H2 h2 h3 h4 h1
      obtain ⟨X, hX⟩ : ∃ A, showT 20 tx = A := ⟨_, rfl⟩
      obtain ⟨A, hA⟩ : ∃ A, showA ta = A := ⟨_, rfl⟩
      rw [hX] at HX0
      rw [hA] at HA0
      obtain ⟨Y, hY⟩ : ∃ A, showT 20 ty = A := ⟨_, rfl⟩
      rw [hY] at HY0
      rw [hX, hA, hY] at Hz hlen
      clear hX hA hY
      have hP : Hid (LitS w (.int .i64 9) (.string ta.rel) (.slice o0 ta.l.length k0) (.int .i64 tx.op) (.string tx.s) (.int .i64 tx.n) (.slice o1 tx.l.length k1) (.int .i64 ty.op) (.string ty.s) (.int .i64 ty.n) (.slice o2 ty.l.length k2) (.string ⟨#[109, 105, 110, 32]⟩) (w.heap.size + 1 + 1) 2 (((w.alloc (.cells #[.int .i64 9, .string ta.rel, .slice o0 ta.l.length k0, .int .i64 tx.op, .string tx.s, .int .i64 tx.n, .slice o1 tx.l.length k1, .int .i64 ty.op, .string ty.s, .int .i64 ty.n, .slice o2 ty.l.length k2] 81)).alloc (.cells #[.string ⟨#[]⟩, .string ⟨#[]⟩, .string ⟨#[]⟩, .string ⟨#[32, 61, 32]⟩, .string ⟨#[32, 33, 61, 32]⟩, .string ⟨#[32, 60, 32]⟩, .string ⟨#[32, 60, 61, 32]⟩] 123)).alloc (.cells #[.string ⟨#[99, 111, 117, 110, 116]⟩, .string ⟨#[115, 117, 109, 32]⟩, .string ⟨#[109, 105, 110, 32]⟩, .string ⟨#[109, 97, 120, 32]⟩] 124))) := Lib.hid ⟨by go_simp, by go_simp, by go_simp, by go_simp, by go_simp, by go_simp, by go_simp, by go_simp, by go_simp, by go_simp, by go_simp, by go_simp, B3.out _ _ _, by simp⟩
      have HX : Hid (∀ W, LitS w (.int .i64 9) (.string ta.rel) (.slice o0 ta.l.length k0) (.int .i64 tx.op) (.string tx.s) (.int .i64 tx.n) (.slice o1 tx.l.length k1) (.int .i64 ty.op) (.string ty.s) (.int .i64 ty.n) (.slice o2 ty.l.length k2) (.string ⟨#[109, 105, 110, 32]⟩) (w.heap.size + 1 + 1) 2 W → Calls Tryz.prog 68 #[.agg #[.int .i64 tx.op, .string tx.s, .int .i64 tx.n, .slice o1 tx.l.length k1]] W fun e w' => e = .returned (.string ⟨X.toArray⟩) ∧ LitS w (.int .i64 9) (.string ta.rel) (.slice o0 ta.l.length k0) (.int .i64 tx.op) (.string tx.s) (.int .i64 tx.n) (.slice o1 tx.l.length k1) (.int .i64 ty.op) (.string ty.s) (.int .i64 ty.n) (.slice o2 ty.l.length k2) (.string ⟨#[109, 105, 110, 32]⟩) (w.heap.size + 1 + 1) 2 w') := Lib.hid fun W hS => (HX0.out W hS.2.2.2.2.2.2.2.2.2.2.2.2.1).mono (by rintro e w1 ⟨rfl, b1⟩; exact ⟨rfl, hS.kept (by omega) b1⟩)
      have HA : Hid (∀ W, LitS w (.int .i64 9) (.string ta.rel) (.slice o0 ta.l.length k0) (.int .i64 tx.op) (.string tx.s) (.int .i64 tx.n) (.slice o1 tx.l.length k1) (.int .i64 ty.op) (.string ty.s) (.int .i64 ty.n) (.slice o2 ty.l.length k2) (.string ⟨#[109, 105, 110, 32]⟩) (w.heap.size + 1 + 1) 2 W → Calls Tryz.prog 36 #[.agg #[.string ta.rel, .slice o0 ta.l.length k0]] W fun e w' => e = .returned (.string ⟨A.toArray⟩) ∧ LitS w (.int .i64 9) (.string ta.rel) (.slice o0 ta.l.length k0) (.int .i64 tx.op) (.string tx.s) (.int .i64 tx.n) (.slice o1 tx.l.length k1) (.int .i64 ty.op) (.string ty.s) (.int .i64 ty.n) (.slice o2 ty.l.length k2) (.string ⟨#[109, 105, 110, 32]⟩) (w.heap.size + 1 + 1) 2 w') := Lib.hid fun W hS => (HA0.out W hS.2.2.2.2.2.2.2.2.2.2.2.2.1).mono (by rintro e w1 ⟨rfl, b1⟩; exact ⟨rfl, hS.kept (by omega) b1⟩)
      have HY : Hid (∀ W, LitS w (.int .i64 9) (.string ta.rel) (.slice o0 ta.l.length k0) (.int .i64 tx.op) (.string tx.s) (.int .i64 tx.n) (.slice o1 tx.l.length k1) (.int .i64 ty.op) (.string ty.s) (.int .i64 ty.n) (.slice o2 ty.l.length k2) (.string ⟨#[109, 105, 110, 32]⟩) (w.heap.size + 1 + 1) 2 W → Calls Tryz.prog 68 #[.agg #[.int .i64 ty.op, .string ty.s, .int .i64 ty.n, .slice o2 ty.l.length k2]] W fun e w' => e = .returned (.string ⟨Y.toArray⟩) ∧ LitS w (.int .i64 9) (.string ta.rel) (.slice o0 ta.l.length k0) (.int .i64 tx.op) (.string tx.s) (.int .i64 tx.n) (.slice o1 tx.l.length k1) (.int .i64 ty.op) (.string ty.s) (.int .i64 ty.n) (.slice o2 ty.l.length k2) (.string ⟨#[109, 105, 110, 32]⟩) (w.heap.size + 1 + 1) 2 w') := Lib.hid fun W hS => (HY0.out W hS.2.2.2.2.2.2.2.2.2.2.2.2.1).mono (by rintro e w1 ⟨rfl, b1⟩; exact ⟨rfl, hS.kept (by omega) b1⟩)
      have hS := hP.out.kept (by omega) ((Below.refl _ _).drew)
      have u0 : IntKind.i64.wrap ((9 : Int) - 7) = 2 := by decide
      have u1 : IntKind.i64.wrap 2 = 2 := by decide
      have g0 : ¬ 9223372036854775807 < X.length + 3 := by omega
      have g1 : ¬ 9223372036854775807 < X.length + 3 + 4 := by omega
      have g2 : ¬ 9223372036854775807 < X.length + 7 := by omega
      have g3 : ¬ 9223372036854775807 < X.length + 3 + 4 + Y.length := by omega
      have g4 : ¬ 9223372036854775807 < X.length + 3 + 4 + Y.length + 5 := by omega
      have g5 : ¬ 9223372036854775807 < X.length + 3 + 4 + Y.length + 5 + A.length := by omega
      have g6 : ¬ 9223372036854775807 < X.length + 3 + 4 + Y.length + 5 + A.length + 2 := by omega
      have g7 : ¬ 9223372036854775807 < X.length + 7 + Y.length := by omega
      have g8 : ¬ 9223372036854775807 < X.length + 7 + Y.length + 5 := by omega
      have g9 : ¬ 9223372036854775807 < X.length + 7 + Y.length + 5 + A.length := by omega
      have g10 : ¬ 9223372036854775807 < X.length + 7 + Y.length + 5 + A.length + 2 := by omega
      clear hP HX0 HA0 HY0 hlen
      go_enter Tryz.func37, Tryz.ntmps37
      go_wp2
      go_region_held3 (fun W => W.cell? ⟨w.heap.size, 0, none⟩ = some (.int .i64 9) ∧ W.cell? ⟨w.heap.size, 1, none⟩ = some (.string ta.rel) ∧ W.cell? ⟨w.heap.size, 2, none⟩ = some (.slice o0 ta.l.length k0) ∧ W.cell? ⟨w.heap.size, 3, none⟩ = some (.int .i64 tx.op) ∧ W.cell? ⟨w.heap.size, 4, none⟩ = some (.string tx.s) ∧ W.cell? ⟨w.heap.size, 5, none⟩ = some (.int .i64 tx.n) ∧ W.cell? ⟨w.heap.size, 6, none⟩ = some (.slice o1 tx.l.length k1) ∧ W.cell? ⟨w.heap.size, 7, none⟩ = some (.int .i64 ty.op) ∧ W.cell? ⟨w.heap.size, 8, none⟩ = some (.string ty.s) ∧ W.cell? ⟨w.heap.size, 9, none⟩ = some (.int .i64 ty.n) ∧ W.cell? ⟨w.heap.size, 10, none⟩ = some (.slice o2 ty.l.length k2) ∧ W.cell? ⟨w.heap.size + 1 + 1, 2, none⟩ = some (.string ⟨#[109, 105, 110, 32]⟩) ∧ Below w.heap.size w W ∧ w.heap.size + 2 < W.heap.size) (first | exact hk | exact hS) (first | (go_at_call 68; (with_reducible refine (HX.out _ ?_).mono ?_); (next => first | exact hk | exact hS); rintro e w4 ⟨rfl, hk⟩; have hk2 := hk; obtain ⟨x0, x1, x2, x3, x4, x5, x6, x7, x8, x9, x10, x11, _, _⟩ := hk2))
      all_goals
        go_wp2_with fail
        refine (HY.out _ hk).mono ?_
        rintro e w5 ⟨rfl, hk5⟩
        clear x0 x1 x2 x3 x4 x5 x6 x7 x8 x9 x10 x11
        have hk6 := hk5
        obtain ⟨x0, x1, x2, x3, x4, x5, x6, x7, x8, x9, x10, x11, _, _⟩ := hk6
        go_wp2_with fail
        refine (HA.out _ hk5).mono ?_
        rintro e w6 ⟨rfl, hk7⟩
        go_wp2
        go_ret
        exact ⟨by rw [Hz.out]; exact congrArg Ending.returned (ap7 X [32, 61, 32] [109, 105, 110, 32] Y [32, 58, 32, 123, 32] A [32, 125]), hk7.2.2.2.2.2.2.2.2.2.2.2.2.1⟩
    · have Hz : Hid (showL ⟨10, ta, tx, ty⟩ = showT 20 tx ++ [32, 61, 32] ++ [109, 97, 120, 32] ++ showT 20 ty ++ [32, 58, 32, 123, 32] ++ showA ta ++ [32, 125]) := Lib.hid (by simp [showL, wordL])
      have hlen : (showT 20 tx).length + 14 + (showT 20 ty).length + (showA ta).length ≤ 10000000 := by
        rw [Hz.out] at hl
        simp only [List.length_append, List.length_cons, List.length_nil] at hl
        omega
      have HX0 := Lib.hid (fun (W : World) (hb : Below w.heap.size w W) => rshowTerm_c 20 tx W _ h3 hk1 (by omega) ((H1.under hb).more hb.size))
      have HA0 := Lib.hid (fun (W : World) (hb : Below w.heap.size w W) => rshowAtom_c ta W _ h2 hk0 (by omega) ((H0.below hb).more hb.size))
      have HY0 := Lib.hid (fun (W : World) (hb : Below w.heap.size w W) => rshowTerm_c 20 ty W _ h4 hk2 (by omega) ((H2.under hb).more hb.size))
      clear hl hk0 hk1 hk2 H0 H1 H2 h2 h3 h4 h1
      obtain ⟨X, hX⟩ : ∃ A, showT 20 tx = A := ⟨_, rfl⟩
      obtain ⟨A, hA⟩ : ∃ A, showA ta = A := ⟨_, rfl⟩
      rw [hX] at HX0
      rw [hA] at HA0
      obtain ⟨Y, hY⟩ : ∃ A, showT 20 ty = A := ⟨_, rfl⟩
      rw [hY] at HY0
      rw [hX, hA, hY] at Hz hlen
      clear hX hA hY
      have hP : Hid (LitS w (.int .i64 10) (.string ta.rel) (.slice o0 ta.l.length k0) (.int .i64 tx.op) (.string tx.s) (.int .i64 tx.n) (.slice o1 tx.l.length k1) (.int .i64 ty.op) (.string ty.s) (.int .i64 ty.n) (.slice o2 ty.l.length k2) (.string ⟨#[109, 97, 120, 32]⟩) (w.heap.size + 1 + 1) 3 (((w.alloc (.cells #[.int .i64 10, .string ta.rel, .slice o0 ta.l.length k0, .int .i64 tx.op, .string tx.s, .int .i64 tx.n, .slice o1 tx.l.length k1, .int .i64 ty.op, .string ty.s, .int .i64 ty.n, .slice o2 ty.l.length k2] 81)).alloc (.cells #[.string ⟨#[]⟩, .string ⟨#[]⟩, .string ⟨#[]⟩, .string ⟨#[32, 61, 32]⟩, .string ⟨#[32, 33, 61, 32]⟩, .string ⟨#[32, 60, 32]⟩, .string ⟨#[32, 60, 61, 32]⟩] 123)).alloc (.cells #[.string ⟨#[99, 111, 117, 110, 116]⟩, .string ⟨#[115, 117, 109, 32]⟩, .string ⟨#[109, 105, 110, 32]⟩, .string ⟨#[109, 97, 120, 32]⟩] 124))) := Lib.hid ⟨by go_simp, by go_simp, by go_simp, by go_simp, by go_simp, by go_simp, by go_simp, by go_simp, by go_simp, by go_simp, by go_simp, by go_simp, B3.out _ _ _, by simp⟩
      have HX : Hid (∀ W, LitS w (.int .i64 10) (.string ta.rel) (.slice o0 ta.l.length k0) (.int .i64 tx.op) (.string tx.s) (.int .i64 tx.n) (.slice o1 tx.l.length k1) (.int .i64 ty.op) (.string ty.s) (.int .i64 ty.n) (.slice o2 ty.l.length k2) (.string ⟨#[109, 97, 120, 32]⟩) (w.heap.size + 1 + 1) 3 W → Calls Tryz.prog 68 #[.agg #[.int .i64 tx.op, .string tx.s, .int .i64 tx.n, .slice o1 tx.l.length k1]] W fun e w' => e = .returned (.string ⟨X.toArray⟩) ∧ LitS w (.int .i64 10) (.string ta.rel) (.slice o0 ta.l.length k0) (.int .i64 tx.op) (.string tx.s) (.int .i64 tx.n) (.slice o1 tx.l.length k1) (.int .i64 ty.op) (.string ty.s) (.int .i64 ty.n) (.slice o2 ty.l.length k2) (.string ⟨#[109, 97, 120, 32]⟩) (w.heap.size + 1 + 1) 3 w') := Lib.hid fun W hS => (HX0.out W hS.2.2.2.2.2.2.2.2.2.2.2.2.1).mono (by rintro e w1 ⟨rfl, b1⟩; exact ⟨rfl, hS.kept (by omega) b1⟩)
      have HA : Hid (∀ W, LitS w (.int .i64 10) (.string ta.rel) (.slice o0 ta.l.length k0) (.int .i64 tx.op) (.string tx.s) (.int .i64 tx.n) (.slice o1 tx.l.length k1) (.int .i64 ty.op) (.string ty.s) (.int .i64 ty.n) (.slice o2 ty.l.length k2) (.string ⟨#[109, 97, 120, 32]⟩) (w.heap.size + 1 + 1) 3 W → Calls Tryz.prog 36 #[.agg #[.string ta.rel, .slice o0 ta.l.length k0]] W fun e w' => e = .returned (.string ⟨A.toArray⟩) ∧ LitS w (.int .i64 10) (.string ta.rel) (.slice o0 ta.l.length k0) (.int .i64 tx.op) (.string tx.s) (.int .i64 tx.n) (.slice o1 tx.l.length k1) (.int .i64 ty.op) (.string ty.s) (.int .i64 ty.n) (.slice o2 ty.l.length k2) (.string ⟨#[109, 97, 120, 32]⟩) (w.heap.size + 1 + 1) 3 w') := Lib.hid fun W hS => (HA0.out W hS.2.2.2.2.2.2.2.2.2.2.2.2.1).mono (by rintro e w1 ⟨rfl, b1⟩; exact ⟨rfl, hS.kept (by omega) b1⟩)
      have HY : Hid (∀ W, LitS w (.int .i64 10) (.string ta.rel) (.slice o0 ta.l.length k0) (.int .i64 tx.op) (.string tx.s) (.int .i64 tx.n) (.slice o1 tx.l.length k1) (.int .i64 ty.op) (.string ty.s) (.int .i64 ty.n) (.slice o2 ty.l.length k2) (.string ⟨#[109, 97, 120, 32]⟩) (w.heap.size + 1 + 1) 3 W → Calls Tryz.prog 68 #[.agg #[.int .i64 ty.op, .string ty.s, .int .i64 ty.n, .slice o2 ty.l.length k2]] W fun e w' => e = .returned (.string ⟨Y.toArray⟩) ∧ LitS w (.int .i64 10) (.string ta.rel) (.slice o0 ta.l.length k0) (.int .i64 tx.op) (.string tx.s) (.int .i64 tx.n) (.slice o1 tx.l.length k1) (.int .i64 ty.op) (.string ty.s) (.int .i64 ty.n) (.slice o2 ty.l.length k2) (.string ⟨#[109, 97, 120, 32]⟩) (w.heap.size + 1 + 1) 3 w') := Lib.hid fun W hS => (HY0.out W hS.2.2.2.2.2.2.2.2.2.2.2.2.1).mono (by rintro e w1 ⟨rfl, b1⟩; exact ⟨rfl, hS.kept (by omega) b1⟩)
      have hS := hP.out.kept (by omega) ((Below.refl _ _).drew)
      have u0 : IntKind.i64.wrap ((10 : Int) - 7) = 3 := by decide
      have u1 : IntKind.i64.wrap 3 = 3 := by decide
      have g0 : ¬ 9223372036854775807 < X.length + 3 := by omega
      have g1 : ¬ 9223372036854775807 < X.length + 3 + 4 := by omega
      have g2 : ¬ 9223372036854775807 < X.length + 7 := by omega
      have g3 : ¬ 9223372036854775807 < X.length + 3 + 4 + Y.length := by omega
      have g4 : ¬ 9223372036854775807 < X.length + 3 + 4 + Y.length + 5 := by omega
      have g5 : ¬ 9223372036854775807 < X.length + 3 + 4 + Y.length + 5 + A.length := by omega
      have g6 : ¬ 9223372036854775807 < X.length + 3 + 4 + Y.length + 5 + A.length + 2 := by omega
      have g7 : ¬ 9223372036854775807 < X.length + 7 + Y.length := by omega
      have g8 : ¬ 9223372036854775807 < X.length + 7 + Y.length + 5 := by omega
      have g9 : ¬ 9223372036854775807 < X.length + 7 + Y.length + 5 + A.length := by omega
      have g10 : ¬ 9223372036854775807 < X.length + 7 + Y.length + 5 + A.length + 2 := by omega
      clear hP HX0 HA0 HY0 hlen
      go_enter Tryz.func37, Tryz.ntmps37
      go_wp2
      go_region_held3 (fun W => W.cell? ⟨w.heap.size, 0, none⟩ = some (.int .i64 10) ∧ W.cell? ⟨w.heap.size, 1, none⟩ = some (.string ta.rel) ∧ W.cell? ⟨w.heap.size, 2, none⟩ = some (.slice o0 ta.l.length k0) ∧ W.cell? ⟨w.heap.size, 3, none⟩ = some (.int .i64 tx.op) ∧ W.cell? ⟨w.heap.size, 4, none⟩ = some (.string tx.s) ∧ W.cell? ⟨w.heap.size, 5, none⟩ = some (.int .i64 tx.n) ∧ W.cell? ⟨w.heap.size, 6, none⟩ = some (.slice o1 tx.l.length k1) ∧ W.cell? ⟨w.heap.size, 7, none⟩ = some (.int .i64 ty.op) ∧ W.cell? ⟨w.heap.size, 8, none⟩ = some (.string ty.s) ∧ W.cell? ⟨w.heap.size, 9, none⟩ = some (.int .i64 ty.n) ∧ W.cell? ⟨w.heap.size, 10, none⟩ = some (.slice o2 ty.l.length k2) ∧ W.cell? ⟨w.heap.size + 1 + 1, 3, none⟩ = some (.string ⟨#[109, 97, 120, 32]⟩) ∧ Below w.heap.size w W ∧ w.heap.size + 2 < W.heap.size) (first | exact hk | exact hS) (first | (go_at_call 68; (with_reducible refine (HX.out _ ?_).mono ?_); (next => first | exact hk | exact hS); rintro e w4 ⟨rfl, hk⟩; have hk2 := hk; obtain ⟨x0, x1, x2, x3, x4, x5, x6, x7, x8, x9, x10, x11, _, _⟩ := hk2))
      all_goals
        go_wp2_with fail
        refine (HY.out _ hk).mono ?_
        rintro e w5 ⟨rfl, hk5⟩
        clear x0 x1 x2 x3 x4 x5 x6 x7 x8 x9 x10 x11
        have hk6 := hk5
        obtain ⟨x0, x1, x2, x3, x4, x5, x6, x7, x8, x9, x10, x11, _, _⟩ := hk6
        go_wp2_with fail
        refine (HA.out _ hk5).mono ?_
        rintro e w6 ⟨rfl, hk7⟩
        go_wp2
        go_ret
        exact ⟨by rw [Hz.out]; exact congrArg Ending.returned (ap7 X [32, 61, 32] [109, 97, 120, 32] Y [32, 58, 32, 123, 32] A [32, 125]), hk7.2.2.2.2.2.2.2.2.2.2.2.2.1⟩
end Go.Proofs.YthjfkngfgomkbaaGreatDoor
