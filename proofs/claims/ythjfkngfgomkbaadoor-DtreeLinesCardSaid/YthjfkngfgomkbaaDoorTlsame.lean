/- The law DtreeSames. -/
import Derived.Test.YthjfkngfgomkbaaDoorTone
import Derived.Test.YthjfkngfgomkbaaDoorTsmall
import Derived.Test.YthjfkngfgomkbaaDoorTsame3
import Derived.Test.YthjfkngfgomkbaaDoorTrsame3
import Derived.Deep.RegionHeld3
namespace Go.Proofs.YthjfkngfgomkbaaDoor
open Go.RowKit

/-- Two programs in boxes behind w, their parts below. -/
def Two (w : World) (v0 v1 u0 u1 : Value) (W : World) : Prop :=
  W.cell? ⟨w.heap.size, 0, none⟩ = some v0 ∧ W.cell? ⟨w.heap.size, 1, none⟩ = some v1 ∧ W.cell? ⟨w.heap.size + 1, 0, none⟩ = some u0 ∧ W.cell? ⟨w.heap.size + 1, 1, none⟩ = some u1 ∧ Below w.heap.size w W ∧ w.heap.size + 1 < W.heap.size
theorem Two.kept {w W w1 : World} {v0 v1 u0 u1 : Value} (h : Two w v0 v1 u0 u1 W) (b : Below W.heap.size W w1) : Two w v0 v1 u0 u1 w1 := by
  obtain ⟨h0, h1, h2, h3, h4, h5⟩ := h
  exact ⟨(b.cell (p := ⟨w.heap.size, 0, none⟩) (by show w.heap.size < _; omega)).trans h0, (b.cell (p := ⟨w.heap.size, 1, none⟩) (by show w.heap.size < _; omega)).trans h1, (b.cell (p := ⟨w.heap.size + 1, 0, none⟩) (by show w.heap.size + 1 < _; omega)).trans h2, (b.cell (p := ⟨w.heap.size + 1, 1, none⟩) (by show w.heap.size + 1 < _; omega)).trans h3, h4.trans (b.mono (by omega)), Nat.lt_of_lt_of_le h5 b.size⟩
theorem Two.drew {w W : World} {v0 v1 u0 u1 : Value} (h : Two w v0 v1 u0 u1 W) : Two w v0 v1 u0 u1 W.drew := h.kept ((Below.refl _ _).drew)

set_option maxRecDepth 100000 in
set_option maxHeartbeats 4000000 in
theorem dtreeSames_c (p q : Pg) (a : Addr) (w : World) (cs ds : List Value) (hp : PgC w w.heap.size p cs) (hq : PgC w w.heap.size q ds) (E : TEnv a w) :
    Calls Tryd.prog 4 #[.agg cs.toArray, .agg ds.toArray] w fun e w' => e = .returned (.bool true) ∧ Below w.heap.size w w' := by
  have HS0 := fun (W : World) (hb : Below w.heap.size w W) => same_c p q W cs ds ((hp.below hb).more hb.size) ((hq.below hb).more hb.size)
  have HR0 := fun (W : World) (hb : Below w.heap.size w W) => rsame_c p q W cs ds ((hp.below hb).more hb.size) ((hq.below hb).more hb.size)
  have HP0 := fun (W : World) (hb : Below w.heap.size w W) => small_c p W cs ((hp.below hb).more hb.size)
  have HQ0 := fun (W : World) (hb : Below w.heap.size w W) => small_c q W ds ((hq.below hb).more hb.size)
  have HH := Lib.hid (fun (W : World) (hb : Below w.heap.size w W) => shown_c a W (E.below hb))
  obtain ⟨p1, q1, r1, s1, rfl, _, _⟩ := hp.look
  obtain ⟨p2, q2, r2, s2, rfl, _, _⟩ := hq.look
  have HP := Lib.hid HP0
  have HQ := Lib.hid HQ0
  have HS : Hid (∀ W, Two w (.slice p1 p.decls.length q1) (.slice r1 p.rules.length s1) (.slice p2 q.decls.length q2) (.slice r2 q.rules.length s2) W → Calls Tryd.prog 12 #[.agg #[.slice p1 p.decls.length q1, .slice r1 p.rules.length s1], .agg #[.slice p2 q.decls.length q2, .slice r2 q.rules.length s2]] W fun e w' => e = .returned (.bool (sameP p q)) ∧ Two w (.slice p1 p.decls.length q1) (.slice r1 p.rules.length s1) (.slice p2 q.decls.length q2) (.slice r2 q.rules.length s2) w') := Lib.hid fun W h => (HS0 W h.2.2.2.2.1).mono (by rintro e w1 ⟨rfl, b1⟩; exact ⟨rfl, h.kept b1⟩)
  have HR : Hid (∀ W, Two w (.slice p1 p.decls.length q1) (.slice r1 p.rules.length s1) (.slice p2 q.decls.length q2) (.slice r2 q.rules.length s2) W → Calls Tryd.prog 13 #[.agg #[.slice p1 p.decls.length q1, .slice r1 p.rules.length s1], .agg #[.slice p2 q.decls.length q2, .slice r2 q.rules.length s2]] W fun e w' => e = .returned (.bool (sameP p q)) ∧ Two w (.slice p1 p.decls.length q1) (.slice r1 p.rules.length s1) (.slice p2 q.decls.length q2) (.slice r2 q.rules.length s2) w') := Lib.hid fun W h => (HR0 W h.2.2.2.2.1).mono (by rintro e w1 ⟨rfl, b1⟩; exact ⟨rfl, h.kept b1⟩)
  have HT : Hid (Two w (.slice p1 p.decls.length q1) (.slice r1 p.rules.length s1) (.slice p2 q.decls.length q2) (.slice r2 q.rules.length s2) ((w.alloc (.cells #[.slice p1 p.decls.length q1, .slice r1 p.rules.length s1] 25)).alloc (.cells #[.slice p2 q.decls.length q2, .slice r2 q.rules.length s2] 25))) := Lib.hid ⟨by go_simp, by go_simp, by go_simp, by go_simp, ((Below.refl _ _).alloc (Nat.le_refl _) _).alloc (by simp) _, by simp⟩
  clear HS0 HR0 HP0 HQ0 hp hq E
  go_enter Tryd.func4, Tryd.ntmps4
  go_wp2_with fail
  refine (HH.out _ HT.out.2.2.2.2.1).mono ?_
  rintro e w1 ⟨rfl, b1⟩
  have T1 := Lib.hid (HT.out.kept b1)
  clear b1
  obtain ⟨x0, x1, y0, y1, B1, hz⟩ := T1.out
  have hz1 : w.heap.size < w1.heap.size := by omega
  go_wp2_with fail
  refine (HP.out _ B1).mono ?_
  rintro e w2 ⟨rfl, b2⟩
  have T2 := Lib.hid (T1.out.kept b2)
  clear b2 x0 x1 y0 y1 B1 hz hz1
  obtain ⟨x0, x1, y0, y1, B2, hz⟩ := T2.out
  have hz1 : w.heap.size < w2.heap.size := by omega
  cases hsp : smallP p with
  | false =>
    rw [show smallI p = 0 by unfold smallI; rw [hsp]; rfl]
    clear hsp
    go_wp2
    go_ret
    exact ⟨rfl, B2⟩
  | true =>
    rw [show smallI p = 1 by unfold smallI; rw [hsp]; rfl]
    clear hsp
    go_wp2_with fail
    refine (HQ.out _ B2).mono ?_
    rintro e w3 ⟨rfl, b3⟩
    have T3 := Lib.hid (T2.out.kept b3)
    clear b3 x0 x1 y0 y1 B2 hz hz1
    obtain ⟨x0, x1, y0, y1, B3, hz⟩ := T3.out
    have hz1 : w.heap.size < w3.heap.size := by omega
    cases hsq : smallP q with
    | false =>
      rw [show smallI q = 0 by unfold smallI; rw [hsq]; rfl]
      clear hsq
      go_wp2
      go_ret
      exact ⟨rfl, B3⟩
    | true =>
      rw [show smallI q = 1 by unfold smallI; rw [hsq]; rfl]
      clear hsq
      have hS := T3.out.drew
      go_wp2
      go_region_held3 (fun w' => w'.cell? ⟨w.heap.size, 0, none⟩ = some (.slice p1 p.decls.length q1) ∧ w'.cell? ⟨w.heap.size, 1, none⟩ = some (.slice r1 p.rules.length s1) ∧ w'.cell? ⟨w.heap.size + 1, 0, none⟩ = some (.slice p2 q.decls.length q2) ∧ w'.cell? ⟨w.heap.size + 1, 1, none⟩ = some (.slice r2 q.rules.length s2) ∧ Below w.heap.size w w' ∧ w.heap.size + 1 < w'.heap.size) (first | exact hk | exact hS) (first | (go_at_call 12; refine (HS.out _ (by first | exact hk | exact hS)).mono ?_; rintro e w4 ⟨rfl, hk⟩; have hk2 := hk; obtain ⟨x0, x1, y0, y1, _, _⟩ := hk2) | (go_at_call 13; refine (HR.out _ (by first | exact hk | exact hS)).mono ?_; rintro e w4 ⟨rfl, hk⟩; have hk2 := hk; obtain ⟨x0, x1, y0, y1, _, _⟩ := hk2))
      all_goals
        go_wp2
        go_ret
        exact ⟨by simp, hk.2.2.2.2.1⟩
end Go.Proofs.YthjfkngfgomkbaaDoor
