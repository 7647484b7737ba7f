/- dtree.writeRule. -/
import Derived.Test.YthjfkngfgomkbaaGreatDoorTwlits
namespace Go.Proofs.YthjfkngfgomkbaaGreatDoor
open Go.RowKit

set_option maxRecDepth 100000 in
set_option maxHeartbeats 4000000 in
theorem wrule_full (hd : Am) (body : List Lt) (line : Int) (o0 o1 : Option Addr) (k0 k1 : Nat) (B b : Nat) (l : List UInt8) (w : World) (a : Addr) (ha : rightA hd = true) (ca : AmC w B hd [.string hd.rel, .slice o0 hd.l.length k0]) (hne : 0 < body.length) (hr : body.all rightL = true) (cb : SlOf w B 11 (LtC w B) body (.slice o1 body.length k1)) (hb : Bd B b l w) (E : TEnv a w) (hV : 12 ≤ B) (hB : B ≤ w.heap.size) (hl : l.length + (showA hd ++ [32, 58, 45, 32] ++ joinL [44, 32] (body.map showL) ++ [46]).length ≤ 1073741824) :
    Calls Tryz.prog 35 #[.pointer (some ⟨b, 0, none⟩), .agg #[.string hd.rel, .slice o0 hd.l.length k0, .slice o1 body.length k1, .int .i64 line]] w (Wrote B b l (showA hd ++ [32, 58, 45, 32] ++ joinL [44, 32] (body.map showL) ++ [46]) w) := by
  have hbl := bdLt hb
  obtain ⟨oc, hoc⟩ : ∃ o : Obj, o = .cells #[.string hd.rel, .slice o0 hd.l.length k0, .slice o1 body.length k1, .int .i64 line] 45 := ⟨_, rfl⟩
  have R0 : Row w.heap.size 45 [.string hd.rel, .slice o0 hd.l.length k0, .slice o1 body.length k1, .int .i64 line] (w.alloc oc) := by rw [hoc]; exact Row.new w _ _
  have b0 := hb.alloc oc
  have k0' : Kp B b w (w.alloc oc) := Kp.alloc hB _
  have E0 := E.belowB hV k0'.below
  have hB0 : B ≤ (w.alloc oc).heap.size := k0'.size hB
  have HR : Hid (∀ W, Kp B b (w.alloc oc) W → W.cell? ⟨w.heap.size, 0, none⟩ = some (.string hd.rel) ∧ W.cell? ⟨w.heap.size, 1, none⟩ = some (.slice o0 hd.l.length k0) ∧ W.cell? ⟨w.heap.size, 2, none⟩ = some (.slice o1 body.length k1) ∧ w.heap.size < W.heap.size) := Lib.hid fun W K => by
    have R := R0.kp K (by omega) (by decide)
    have := K.below.size
    simp only [World.size_alloc] at this
    exact ⟨R.at 0 _ rfl, R.at 1 _ rfl, R.at 2 _ rfl, by omega⟩
  have HA := Lib.hid (w_atom (b := b) ha (ca.below k0'.below) E0 hV hB0)
  have HL : Hid (∀ (W : World) (l : List UInt8), Bd B b l W → Kp B b (w.alloc oc) W → l.length + (joinL [44, 32] (body.map showL)).length ≤ 1073741824 → _) := Lib.hid fun W l hb k hl => writeLits_c body B b l W _ a hr hb (cb.below (k0'.below.trans k.below) fun _ _ _ h => h.below (k0'.below.trans k.below)) (E0.belowB hV k.below) hV (k.size hB0) hl
  have hne' : (0 : Int) < (body.length : Int) := by omega
  have HK0 := Lib.hid k0'
  have Hl := Lib.hid hl
  have Hb0 := Lib.hid b0
  clear R0 k0' hb E E0 hB0 hl b0 ha ca hne hr cb
  subst hoc
  go_enter Tryz.func35, Tryz.ntmps35
  have Hk0 := Lib.hid (Kp.refl B b (w.alloc (.cells #[.string hd.rel, .slice o0 hd.l.length k0, .slice o1 body.length k1, .int .i64 line] 45)))
  obtain ⟨x0, x1, x2, hz0⟩ := HR.out _ Hk0.out
  go_wp2_with fail
  refine (HA.out _ _ Hb0.out Hk0.out (by have := Hl.out; first | omega | (simp only [List.length_append, List.length_cons, List.length_nil] at this ⊢; omega))).mono ?_
  clear x0 x1 x2 hz0
  rintro e w1 ⟨rfl, b1, kk⟩
  have Hb1 : Hid (Bd B b (l ++ showA hd) w1) := Lib.hid b1
  have Hk1 := Lib.hid (Hk0.out.trans kk)
  clear b1 kk Hb0
  obtain ⟨x0, x1, x2, hz0⟩ := HR.out _ Hk1.out
  go_wp2_with fail
  have es : (⟨#[32, 58, 45, 32]⟩ : ByteArray).size = 4 := rfl
  refine (writeString_c B b _ _ _ Hb1.out (by rw [es]; have := Hl.out; simp only [List.length_append, List.length_cons, List.length_nil] at this ⊢; omega) (Hk1.out.size (by simp; omega))).mono ?_
  clear es
  clear x0 x1 x2 hz0
  rintro e w2 ⟨rfl, b2, kk⟩
  have Hb2 : Hid (Bd B b (l ++ showA hd ++ [32, 58, 45, 32]) w2) := Lib.hid b2
  have Hk2 := Lib.hid (Hk1.out.trans kk)
  clear b2 kk Hb1
  obtain ⟨x0, x1, x2, hz0⟩ := HR.out _ Hk2.out
  go_wp2_with fail
  refine (HL.out _ _ Hb2.out Hk2.out (by have := Hl.out; first | omega | (simp only [List.length_append, List.length_cons, List.length_nil] at this ⊢; omega))).mono ?_
  clear x0 x1 x2 hz0
  rintro e w3 ⟨rfl, b3, kk⟩
  have Hb3 : Hid (Bd B b (l ++ showA hd ++ [32, 58, 45, 32] ++ joinL [44, 32] (body.map showL)) w3) := Lib.hid b3
  have Hk3 := Lib.hid (Hk2.out.trans kk)
  clear b3 kk Hb2
  obtain ⟨x0, x1, x2, hz0⟩ := HR.out _ Hk3.out
  go_wp2_with fail
  refine (writeByte_c B b _ 46 46 rfl _ Hb3.out (by have := Hl.out; first | omega | (simp only [List.length_append, List.length_cons, List.length_nil] at this ⊢; omega)) (Hk3.out.size (by simp; omega))).mono ?_
  clear x0 x1 x2 hz0
  rintro e w4 ⟨rfl, b4, kk⟩
  have Hb4 : Hid (Bd B b (l ++ showA hd ++ [32, 58, 45, 32] ++ joinL [44, 32] (body.map showL) ++ [46]) w4) := Lib.hid b4
  have Hk4 := Lib.hid (Hk3.out.trans kk)
  clear b4 kk Hb3
  have Hkz := Lib.hid (HK0.out.trans Hk4.out)
  go_wp2
  go_end0
  exact ⟨rfl, by simpa using Hb4.out, Hkz.out⟩

set_option maxRecDepth 100000 in
set_option maxHeartbeats 4000000 in
theorem wrule_fact (hd : Am) (body : List Lt) (line : Int) (o0 o1 : Option Addr) (k0 k1 : Nat) (B b : Nat) (l : List UInt8) (w : World) (a : Addr) (ha : rightA hd = true) (ca : AmC w B hd [.string hd.rel, .slice o0 hd.l.length k0]) (hne : body.length = 0) (hb : Bd B b l w) (E : TEnv a w) (hV : 12 ≤ B) (hB : B ≤ w.heap.size) (hl : l.length + (showA hd ++ [46]).length ≤ 1073741824) :
    Calls Tryz.prog 35 #[.pointer (some ⟨b, 0, none⟩), .agg #[.string hd.rel, .slice o0 hd.l.length k0, .slice o1 body.length k1, .int .i64 line]] w (Wrote B b l (showA hd ++ [46]) w) := by
  have hbl := bdLt hb
  obtain ⟨oc, hoc⟩ : ∃ o : Obj, o = .cells #[.string hd.rel, .slice o0 hd.l.length k0, .slice o1 body.length k1, .int .i64 line] 45 := ⟨_, rfl⟩
  have R0 : Row w.heap.size 45 [.string hd.rel, .slice o0 hd.l.length k0, .slice o1 body.length k1, .int .i64 line] (w.alloc oc) := by rw [hoc]; exact Row.new w _ _
  have b0 := hb.alloc oc
  have k0' : Kp B b w (w.alloc oc) := Kp.alloc hB _
  have E0 := E.belowB hV k0'.below
  have hB0 : B ≤ (w.alloc oc).heap.size := k0'.size hB
  have HR : Hid (∀ W, Kp B b (w.alloc oc) W → W.cell? ⟨w.heap.size, 0, none⟩ = some (.string hd.rel) ∧ W.cell? ⟨w.heap.size, 1, none⟩ = some (.slice o0 hd.l.length k0) ∧ W.cell? ⟨w.heap.size, 2, none⟩ = some (.slice o1 body.length k1) ∧ w.heap.size < W.heap.size) := Lib.hid fun W K => by
    have R := R0.kp K (by omega) (by decide)
    have := K.below.size
    simp only [World.size_alloc] at this
    exact ⟨R.at 0 _ rfl, R.at 1 _ rfl, R.at 2 _ rfl, by omega⟩
  have HA := Lib.hid (w_atom (b := b) ha (ca.below k0'.below) E0 hV hB0)
  have hne' : ¬ (0 : Int) < (body.length : Int) := by omega
  have HK0 := Lib.hid k0'
  have Hl := Lib.hid hl
  have Hb0 := Lib.hid b0
  clear R0 k0' hb E E0 hB0 hl b0 ha ca hne
  subst hoc
  go_enter Tryz.func35, Tryz.ntmps35
  have Hk0 := Lib.hid (Kp.refl B b (w.alloc (.cells #[.string hd.rel, .slice o0 hd.l.length k0, .slice o1 body.length k1, .int .i64 line] 45)))
  obtain ⟨x0, x1, x2, hz0⟩ := HR.out _ Hk0.out
  go_wp2_with fail
  refine (HA.out _ _ Hb0.out Hk0.out (by have := Hl.out; first | omega | (simp only [List.length_append, List.length_cons, List.length_nil] at this ⊢; omega))).mono ?_
  clear x0 x1 x2 hz0
  rintro e w1 ⟨rfl, b1, kk⟩
  have Hb1 : Hid (Bd B b (l ++ showA hd) w1) := Lib.hid b1
  have Hk1 := Lib.hid (Hk0.out.trans kk)
  clear b1 kk Hb0
  obtain ⟨x0, x1, x2, hz0⟩ := HR.out _ Hk1.out
  go_wp2_with fail
  refine (writeByte_c B b _ 46 46 rfl _ Hb1.out (by have := Hl.out; first | omega | (simp only [List.length_append, List.length_cons, List.length_nil] at this ⊢; omega)) (Hk1.out.size (by simp; omega))).mono ?_
  clear x0 x1 x2 hz0
  rintro e w2 ⟨rfl, b2, kk⟩
  have Hb2 : Hid (Bd B b (l ++ showA hd ++ [46]) w2) := Lib.hid b2
  have Hk2 := Lib.hid (Hk1.out.trans kk)
  clear b2 kk Hb1
  have Hkz := Lib.hid (HK0.out.trans Hk2.out)
  go_wp2
  go_end0
  exact ⟨rfl, by simpa using Hb2.out, Hkz.out⟩

theorem writeRule_c (t : Ru) (B b : Nat) (l : List UInt8) (w : World) (cs : List Value) (a : Addr) (hr : rightR t = true) (hb : Bd B b l w) (hc : RuC w B t cs) (E : TEnv a w) (hV : 12 ≤ B) (hB : B ≤ w.heap.size) (hl : l.length + (showR t).length ≤ 1073741824) :
    Calls Tryz.prog 35 #[.pointer (some ⟨b, 0, none⟩), .agg cs.toArray] w (Wrote B b l (showR t) w) := by
  obtain ⟨o0, k0, o1, k1, rfl, _, HA, HL⟩ := hc.look
  obtain ⟨hd, body, line⟩ := t
  unfold rightR at hr
  simp only [Bool.and_eq_true] at hr HA HL ⊢
  cases body with
  | nil =>
    have e1 : showR ⟨hd, [], line⟩ = showA hd ++ [46] := by simp [showR]
    rw [e1] at hl ⊢
    exact wrule_fact hd [] line o0 o1 k0 k1 B b l w a hr.1.1.1 HA rfl hb E hV hB hl
  | cons x xs =>
    have e1 : showR ⟨hd, x :: xs, line⟩ = showA hd ++ [32, 58, 45, 32] ++ joinL [44, 32] ((x :: xs).map showL) ++ [46] := by simp [showR]
    rw [e1] at hl ⊢
    exact wrule_full hd (x :: xs) line o0 o1 k0 k1 B b l w a hr.1.1.1 HA (by simp) hr.2 HL hb E hV hB hl
end Go.Proofs.YthjfkngfgomkbaaGreatDoor
