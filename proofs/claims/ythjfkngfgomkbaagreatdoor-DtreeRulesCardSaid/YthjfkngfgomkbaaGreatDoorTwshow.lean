/- dtree.Show, ShowRule. -/
import Derived.Test.YthjfkngfgomkbaaGreatDoorTwprog
namespace Go.Proofs.YthjfkngfgomkbaaGreatDoor
open Go.RowKit

/-- A text and an error number. -/
def shV (b : Bool) (x : List UInt8) : Value := if b = true then .tuple #[.string ⟨x.toArray⟩, .int .i64 0] else .tuple #[.string ⟨#[]⟩, .int .i64 30]

set_option maxRecDepth 100000 in
set_option maxHeartbeats 4000000 in
theorem pshow_c (t : Pg) (a : Addr) (w : World) (cs : List Value) (hc : PgC w w.heap.size t cs) (E : TEnv a w) (hl : rightP t = true → (showP t).length ≤ 1073741824) :
    Calls Tryz.prog 14 #[.agg cs.toArray] w fun e w' => e = .returned (shV (rightP t) (showP t)) ∧ Below w.heap.size w w' := by
  have HC0 := fun (W : World) (hb : Below w.heap.size w W) => right_c t a W cs ((hc.below hb).more hb.size) (E.below hb).err
  have HW0 := fun (h : rightP t = true) (W : World) (hb : Below w.heap.size w W) (W' : World) (hb' : Bd W.heap.size W.heap.size [] W') (hk : Below W.heap.size W W') => writeProg_c t W.heap.size W.heap.size [] W' cs a h hb' (((hc.below hb).more hb.size).below hk) ((E.below hb).below hk) (E.below hb).size hk.size (by simpa using hl h)
  have HB := Lib.hid (fun (W : World) => Lib.IsBuilderF.of (Lib.fresh_isBuilder 73 5 W))
  obtain ⟨o0, k0, o1, k1, rfl, _, _⟩ := hc.look
  have HC := Lib.hid HC0
  have HW := Lib.hid HW0
  clear hc HC0 HW0 E hl
  have HB0 : Hid (∀ (x : Obj), Below w.heap.size w (w.alloc x)) := Lib.hid fun x => (Below.refl _ _).alloc (Nat.le_refl _) _
  go_enter Tryz.func14, Tryz.ntmps14
  go_wp2_with fail
  refine (HC.out _ (HB0.out _)).mono ?_
  rintro e w1 ⟨rfl, b1⟩
  have B1 := Lib.hid ((HB0.out (.cells #[.slice o0 t.decls.length k0, .slice o1 t.rules.length k1] 35)).trans (b1.mono (by simp)))
  obtain ⟨hc1, hf1⟩ := kept b1
  have hz1 : w.heap.size < w1.heap.size := by have := b1.size; simp at this; omega
  clear b1
  cases hr : rightP t with
  | false =>
    have Hr := Lib.hid hr
    clear hr
    go_wp2
    go_ret2
    exact ⟨by rw [Hr.out]; rfl, B1.out⟩
  | true =>
    have Hr := Lib.hid hr
    clear hr
    go_wp2_with fail
    refine (HW.out Hr.out w1 B1.out _ (HB.out w1) ((Below.refl _ _).alloc (Nat.le_refl _) _)).mono ?_
    rintro e w2 ⟨rfl, b2, k2⟩
    have hz2 : w1.heap.size < w2.heap.size := by have := k2.below.size; simp at this; omega
    have K2 := Lib.hid ((((Below.refl w1.heap.size w1).alloc (Nat.le_refl _) (.cells #[.pointer none, .slice none 0 0] 73))).trans k2.below)
    have Hb2 := Lib.hid b2
    clear b2 k2 hc1 hf1
    go_wp2_with fail
    refine (bstr_c _ _ _ w2 Hb2.out (Nat.le_of_lt hz2)).mono ?_
    rintro e w5 ⟨rfl, b5, k5⟩
    have K5 := Lib.hid (B1.out.trans ((K2.out.mono (Nat.le_of_lt hz1)).trans (k5.below.mono (Nat.le_of_lt hz1))))
    clear b5 k5
    go_wp2
    go_ret2
    exact ⟨by rw [Hr.out]; rfl, K5.out⟩

set_option maxRecDepth 100000 in
set_option maxHeartbeats 4000000 in
theorem rshow_c (t : Ru) (a : Addr) (w : World) (cs : List Value) (hc : RuC w w.heap.size t cs) (E : TEnv a w) (hl : rightR t = true → (showR t).length ≤ 1073741824) :
    Calls Tryz.prog 17 #[.agg cs.toArray] w fun e w' => e = .returned (shV (rightR t) (showR t)) ∧ Below w.heap.size w w' := by
  have HC0 := fun (W : World) (hb : Below w.heap.size w W) => rightRule_c t a W cs ((hc.below hb).more hb.size) (E.below hb).err
  have HW0 := fun (h : rightR t = true) (W : World) (hb : Below w.heap.size w W) (W' : World) (hb' : Bd W.heap.size W.heap.size [] W') (hk : Below W.heap.size W W') => writeRule_c t W.heap.size W.heap.size [] W' cs a h hb' (((hc.below hb).more hb.size).below hk) ((E.below hb).below hk) (E.below hb).size hk.size (by simpa using hl h)
  have HB := Lib.hid (fun (W : World) => Lib.IsBuilderF.of (Lib.fresh_isBuilder 73 5 W))
  obtain ⟨o0, k0, o1, k1, rfl, _, _, _⟩ := hc.look
  have HC := Lib.hid HC0
  have HW := Lib.hid HW0
  clear hc HC0 HW0 E hl
  have HB0 : Hid (∀ (x : Obj), Below w.heap.size w (w.alloc x)) := Lib.hid fun x => (Below.refl _ _).alloc (Nat.le_refl _) _
  go_enter Tryz.func17, Tryz.ntmps17
  go_wp2_with fail
  refine (HC.out _ (HB0.out _)).mono ?_
  rintro e w1 ⟨rfl, b1⟩
  have B1 := Lib.hid ((HB0.out (.cells #[.string t.head.rel, .slice o0 t.head.l.length k0, .slice o1 t.body.length k1, .int .i64 t.line] 45)).trans (b1.mono (by simp)))
  obtain ⟨hc1, hf1⟩ := kept b1
  have hz1 : w.heap.size < w1.heap.size := by have := b1.size; simp at this; omega
  clear b1
  cases hr : rightR t with
  | false =>
    have Hr := Lib.hid hr
    clear hr
    go_wp2
    go_ret2
    exact ⟨by rw [Hr.out]; rfl, B1.out⟩
  | true =>
    have Hr := Lib.hid hr
    clear hr
    go_wp2_with fail
    refine (HW.out Hr.out w1 B1.out _ (HB.out w1) ((Below.refl _ _).alloc (Nat.le_refl _) _)).mono ?_
    rintro e w2 ⟨rfl, b2, k2⟩
    have hz2 : w1.heap.size < w2.heap.size := by have := k2.below.size; simp at this; omega
    have K2 := Lib.hid ((((Below.refl w1.heap.size w1).alloc (Nat.le_refl _) (.cells #[.pointer none, .slice none 0 0] 73))).trans k2.below)
    have Hb2 := Lib.hid b2
    clear b2 k2 hc1 hf1
    go_wp2_with fail
    refine (bstr_c _ _ _ w2 Hb2.out (Nat.le_of_lt hz2)).mono ?_
    rintro e w5 ⟨rfl, b5, k5⟩
    have K5 := Lib.hid (B1.out.trans ((K2.out.mono (Nat.le_of_lt hz1)).trans (k5.below.mono (Nat.le_of_lt hz1))))
    clear b5 k5
    go_wp2
    go_ret2
    exact ⟨by rw [Hr.out]; rfl, K5.out⟩

end Go.Proofs.YthjfkngfgomkbaaGreatDoor
