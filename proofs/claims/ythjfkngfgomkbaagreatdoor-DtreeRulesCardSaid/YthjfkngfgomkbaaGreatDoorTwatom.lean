/- dtree.writeAtom. -/
import Derived.Test.YthjfkngfgomkbaaGreatDoorTwpart
namespace Go.Proofs.YthjfkngfgomkbaaGreatDoor
open Go.RowKit

theorem all_of_rightA {t : Am} (h : rightA t = true) : t.l.all (rightT 20) = true := by
  unfold rightA at h
  simp only [Bool.and_eq_true] at h
  exact h.2

set_option maxRecDepth 100000 in
set_option maxHeartbeats 4000000 in
theorem writeAtom_c (t : Am) (B b : Nat) (l : List UInt8) (w : World) (cs : List Value) (a : Addr) (hr : rightA t = true) (hb : Bd B b l w) (hc : AmC w B t cs) (E : TEnv a w) (hV : 12 ≤ B) (hB : B ≤ w.heap.size) (hl : l.length + (showA t).length ≤ 1073741824) :
    Calls Tryz.prog 64 #[.pointer (some ⟨b, 0, none⟩), .agg cs.toArray] w (Wrote B b l (showA t) w) := by
  obtain ⟨p1, q1, rfl, hz, t1⟩ := hc.look
  have hbl := bdLt hb
  obtain ⟨oc, hoc⟩ : ∃ o : Obj, o = .cells #[.string t.rel, .slice p1 t.l.length q1] 42 := ⟨_, rfl⟩
  have R0 : Row w.heap.size 42 [.string t.rel, .slice p1 t.l.length q1] (w.alloc oc) := by rw [hoc]; exact Row.new w _ _
  have b0 := hb.alloc oc
  have k0 : Kp B b w (w.alloc oc) := Kp.alloc hB _
  have hX : showA t = t.rel.data.toList ++ [40] ++ joinL [44, 32] (t.l.map (showT 20)) ++ [41] := rfl
  have hsz : t.rel.data.toList.length = t.rel.size := by simp
  rw [hX] at hl ⊢
  simp only [List.length_append, List.length_cons, List.length_nil] at hl
  have ec : (t.rel ++ (⟨#[40]⟩ : ByteArray)).data.toList = t.rel.data.toList ++ [40] := by simp
  have es : (t.rel ++ (⟨#[40]⟩ : ByteArray)).size = t.rel.size + 1 := by rw [ByteArray.size_append]; rfl
  have HR : Hid (∀ W, Kp B b (w.alloc oc) W → W.cell? ⟨w.heap.size, 0, none⟩ = some (.string t.rel) ∧ W.cell? ⟨w.heap.size, 1, none⟩ = some (.slice p1 t.l.length q1) ∧ w.heap.size < W.heap.size) := Lib.hid fun W K => by
    have R := R0.kp K (by omega) (by decide)
    have := K.below.size
    simp only [World.size_alloc] at this
    exact ⟨R.at 0 _ rfl, R.at 1 _ rfl, by omega⟩
  have HW : Hid (∀ (W : World) (l : List UInt8), Bd B b l W → Kp B b (w.alloc oc) W → l.length + (joinL [44, 32] (t.l.map (showT 20))).length ≤ 1073741824 → _) := Lib.hid fun W l hb k hl => writeTerms_c t.l B b l W _ a (all_of_rightA hr) hb (t1.below (k0.below.trans k.below)) (E.belowB hV (k0.below.trans k.below)) hV (by have := k.below.size; simp at this; omega) hl
  have HK0 := Lib.hid k0
  have Hl2 : Hid (l.length + (t.rel ++ (⟨#[40]⟩ : ByteArray)).size ≤ 140737488355328) := Lib.hid (by omega)
  have Hl3 : Hid ((l ++ (t.rel ++ (⟨#[40]⟩ : ByteArray)).data.toList).length + (joinL [44, 32] (t.l.map (showT 20))).length ≤ 1073741824) := Lib.hid (by rw [ec]; simp only [List.length_append, List.length_cons, List.length_nil]; omega)
  have Hl4 : Hid ((l ++ (t.rel ++ (⟨#[40]⟩ : ByteArray)).data.toList ++ joinL [44, 32] (t.l.map (showT 20))).length + 1 ≤ 140737488355328) := Lib.hid (by rw [ec]; simp only [List.length_append, List.length_cons, List.length_nil]; omega)
  have Hec := Lib.hid ec
  have hs1 : t.rel.size + 1 ≤ 9223372036854775807 := by omega
  have hs2 : (t.rel.size : Int) + 1 ≤ 9223372036854775807 := by omega
  clear R0 k0 hc t1 hX hr hb E ec es hl
  subst hoc
  go_enter Tryz.func64, Tryz.ntmps64
  go_wp2_with fail
  refine (writeString_c B b _ _ _ b0 Hl2.out (by simp; omega)).mono ?_
  rintro e w1 ⟨rfl, b1, k1⟩
  obtain ⟨x0, x1, hz0⟩ := HR.out _ k1
  have Hb1 := Lib.hid b1
  have Hk1 := Lib.hid k1
  clear b0 b1 k1
  go_wp2_with fail
  refine (HW.out _ _ Hb1.out Hk1.out Hl3.out).mono ?_
  rintro e w2 ⟨rfl, b2, k2⟩
  have Hk2 := Lib.hid (Hk1.out.trans k2)
  obtain ⟨_, _, hz0⟩ := HR.out _ Hk2.out
  have Hb2 := Lib.hid b2
  clear b2 k2 x0 x1
  go_wp2_with fail
  refine (writeByte_c B b _ 41 41 rfl _ Hb2.out Hl4.out (by omega)).mono ?_
  rintro e w3 ⟨rfl, b3, k3⟩
  have Hk3 := Lib.hid (HK0.out.trans (Hk2.out.trans k3))
  have Hb3 := Lib.hid b3
  clear b3 k3
  go_wp2
  go_end0
  exact ⟨rfl, by have := Hb3.out; rw [Hec.out] at this; simpa using this, Hk3.out⟩
end Go.Proofs.YthjfkngfgomkbaaGreatDoor
