/- The law DtreeRight. -/
import Derived.Test.YthjfkngfgomkbaaDoorTone
import Derived.Test.YthjfkngfgomkbaaDoorTsmall
import Derived.Test.YthjfkngfgomkbaaDoorTrright3
import Derived.Deep.RegionHeld3
namespace Go.Proofs.YthjfkngfgomkbaaDoor
open Go.RowKit

/-- A program in a box behind w, its parts below. -/
def Box1 (w : World) (v0 v1 : Value) (W : World) : Prop :=
  W.cell? ⟨w.heap.size, 0, none⟩ = some v0 ∧ W.cell? ⟨w.heap.size, 1, none⟩ = some v1 ∧ Below w.heap.size w W ∧ w.heap.size < W.heap.size
theorem Box1.kept {w W w1 : World} {v0 v1 : Value} (h : Box1 w v0 v1 W) (b : Below W.heap.size W w1) : Box1 w v0 v1 w1 := by
  obtain ⟨h0, h1, h4, h5⟩ := h
  exact ⟨(b.cell (p := ⟨w.heap.size, 0, none⟩) h5).trans h0, (b.cell (p := ⟨w.heap.size, 1, none⟩) h5).trans h1, h4.trans (b.mono (by omega)), Nat.lt_of_lt_of_le h5 b.size⟩
theorem Box1.drew {w W : World} {v0 v1 : Value} (h : Box1 w v0 v1 W) : Box1 w v0 v1 W.drew := h.kept ((Below.refl _ _).drew)

set_option maxRecDepth 100000 in
set_option maxHeartbeats 4000000 in
theorem dtreeRight_c (p : Pg) (a : Addr) (w : World) (cs : List Value) (hp : PgC w w.heap.size p cs) (E : TEnv a w) :
    Calls Tryd.prog 3 #[.agg cs.toArray] w fun e w' => e = .returned (.bool true) ∧ Below w.heap.size w w' := by
  have HS0 := fun (W : World) (hb : Below w.heap.size w W) => right_c p a W cs ((hp.below hb).more hb.size) (E.below hb).err
  have HR0 := fun (W : World) (hb : Below w.heap.size w W) => rright_c p W cs ((hp.below hb).more hb.size)
  have HP0 := fun (W : World) (hb : Below w.heap.size w W) => small_c p W cs ((hp.below hb).more hb.size)
  have HH := Lib.hid (fun (W : World) (hb : Below w.heap.size w W) => shown_c a W (E.below hb))
  obtain ⟨p1, q1, r1, s1, rfl, _, _⟩ := hp.look
  have HP := Lib.hid HP0
  have HS : Hid (∀ W, Box1 w (.slice p1 p.decls.length q1) (.slice r1 p.rules.length s1) W → Calls Tryd.prog 10 #[.agg #[.slice p1 p.decls.length q1, .slice r1 p.rules.length s1]] W fun e w' => e = .returned (.bool (rightP p)) ∧ Box1 w (.slice p1 p.decls.length q1) (.slice r1 p.rules.length s1) w') := Lib.hid fun W h => (HS0 W h.2.2.1).mono (by rintro e w1 ⟨rfl, b1⟩; exact ⟨rfl, h.kept b1⟩)
  have HR : Hid (∀ W, Box1 w (.slice p1 p.decls.length q1) (.slice r1 p.rules.length s1) W → Calls Tryd.prog 11 #[.agg #[.slice p1 p.decls.length q1, .slice r1 p.rules.length s1]] W fun e w' => e = .returned (.bool (rightP p)) ∧ Box1 w (.slice p1 p.decls.length q1) (.slice r1 p.rules.length s1) w') := Lib.hid fun W h => (HR0 W h.2.2.1).mono (by rintro e w1 ⟨rfl, b1⟩; exact ⟨rfl, h.kept b1⟩)
  have HT : Hid (Box1 w (.slice p1 p.decls.length q1) (.slice r1 p.rules.length s1) (w.alloc (.cells #[.slice p1 p.decls.length q1, .slice r1 p.rules.length s1] 25))) := Lib.hid ⟨by go_simp, by go_simp, (Below.refl _ _).alloc (Nat.le_refl _) _, by simp⟩
  clear HS0 HR0 HP0 hp E
  go_enter Tryd.func3, Tryd.ntmps3
  go_wp2_with fail
  refine (HH.out _ HT.out.2.2.1).mono ?_
  rintro e w1 ⟨rfl, b1⟩
  have T1 := Lib.hid (HT.out.kept b1)
  clear b1
  obtain ⟨x0, x1, B1, hz⟩ := T1.out
  go_wp2_with fail
  refine (HP.out _ B1).mono ?_
  rintro e w2 ⟨rfl, b2⟩
  have T2 := Lib.hid (T1.out.kept b2)
  clear b2 x0 x1 B1 hz
  obtain ⟨x0, x1, B2, hz⟩ := T2.out
  cases hsp : smallP p with
  | false =>
    rw [show smallI p = 0 by unfold smallI; rw [hsp]; rfl]
    clear hsp
    go_wp2
    go_ret
    exact ⟨rfl, B2⟩
  | true =>
    rw [show smallI p = 1 by unfold smallI; rw [hsp]; rfl]
    clear hsp
    have hS := T2.out.drew
    go_wp2
    go_region_held3 (fun w' => w'.cell? ⟨w.heap.size, 0, none⟩ = some (.slice p1 p.decls.length q1) ∧ w'.cell? ⟨w.heap.size, 1, none⟩ = some (.slice r1 p.rules.length s1) ∧ Below w.heap.size w w' ∧ w.heap.size < w'.heap.size) (first | exact hk | exact hS) (first | (go_at_call 10; refine (HS.out _ (by first | exact hk | exact hS)).mono ?_; rintro e w4 ⟨rfl, hk⟩; have hk2 := hk; obtain ⟨x0, x1, _, _⟩ := hk2) | (go_at_call 11; refine (HR.out _ (by first | exact hk | exact hS)).mono ?_; rintro e w4 ⟨rfl, hk⟩; have hk2 := hk; obtain ⟨x0, x1, _, _⟩ := hk2))
    all_goals
      go_wp2
      go_ret
      exact ⟨by simp, hk.2.2.1⟩
end Go.Proofs.YthjfkngfgomkbaaDoor
