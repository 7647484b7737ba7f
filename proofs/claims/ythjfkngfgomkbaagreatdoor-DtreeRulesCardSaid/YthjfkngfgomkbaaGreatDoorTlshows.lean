/- The laws DtreeShows, DtreeRules. -/
import Derived.Test.YthjfkngfgomkbaaGreatDoorTrshow3
import Derived.Test.YthjfkngfgomkbaaGreatDoorTone
import Derived.Test.YthjfkngfgomkbaaGreatDoorTsmall
import Derived.Deep.RegionHeld3
namespace Go.Proofs.YthjfkngfgomkbaaGreatDoor
open Go.RowKit

set_option maxRecDepth 100000 in
set_option maxHeartbeats 4000000 in
theorem dtreeShows_c (p : Pg) (a : Addr) (w : World) (cs : List Value) (hp : PgC w w.heap.size p cs) (E : TEnv a w) :
    Calls Tryz.prog 5 #[.agg cs.toArray] w fun e w' => e = .returned (.bool true) ∧ Below w.heap.size w w' := by
  have hp64 := hp.p64
  have HP0 := fun (W : World) (hb : Below w.heap.size w W) => small_c p W cs ((hp.below hb).more hb.size)
  have HX0 := fun (hs : smallP p = true) (W : World) (hb : Below w.heap.size w W) => pshow_c p a W cs ((hp.below hb).more hb.size) (E.below hb) (fun hr => Nat.le_trans (prog_len hp64 hs hr) (by omega))
  have HY0 := fun (hs : smallP p = true) (W : World) (hb : Below w.heap.size w W) => rshowP_c p W cs (small_1k hs) (fun hr => Nat.le_trans (prog_len hp64 hs hr) (by omega)) ((hp.below hb).more hb.size)
  have HH := Lib.hid (fun (W : World) (hb : Below w.heap.size w W) => shown_c a W (E.below hb))
  obtain ⟨p1, q1, r1, s1, rfl, _, _⟩ := hp.look
  have HP := Lib.hid HP0
  have HX := Lib.hid HX0
  have HY := Lib.hid HY0
  clear HP0 HX0 HY0 hp E hp64
  have HB0 : Hid (∀ (x : Obj), Below w.heap.size w (w.alloc x)) := Lib.hid fun x => (Below.refl _ _).alloc (Nat.le_refl _) _
  go_enter Tryz.func5, Tryz.ntmps5
  go_wp2_with fail
  refine (HH.out _ (HB0.out _)).mono ?_
  rintro e w1 ⟨rfl, b1⟩
  have K1 := Lib.hid (b1.mono (show w.heap.size + 1 ≤ _ by simp))
  have B1 := (HB0.out _).trans (K1.out.mono (by omega))
  obtain ⟨hc1, hf1⟩ := boxq w.heap.size K1.out (by omega)
  have hz1 : w.heap.size < w1.heap.size := by have := b1.size; simp at this; omega
  clear b1
  go_wp2_with fail
  refine (HP.out _ B1).mono ?_
  rintro e w2 ⟨rfl, b2⟩
  have K2 := Lib.hid (K1.out.trans (b2.mono (by omega)))
  have B2 := (HB0.out _).trans (K2.out.mono (by omega))
  have hz2 : w.heap.size < w2.heap.size := by have := b2.size; omega
  clear hc1 hf1 B1 b2
  obtain ⟨hc1, hf1⟩ := boxq w.heap.size K2.out (by omega)
  cases hsp : smallP p with
  | false =>
    rw [show smallI p = 0 by unfold smallI; rw [hsp]; rfl]
    clear hsp
    go_wp2
    go_ret
    exact ⟨rfl, B2⟩
  | true =>
    rw [show smallI p = 1 by unfold smallI; rw [hsp]; rfl]
    have HX2 := Lib.hid (HX.out hsp)
    have HY2 := Lib.hid (HY.out hsp)
    clear hsp
    obtain ⟨sv, se, hsv⟩ : ∃ (x : ByteArray) (n : Int), shV (rightP p) (showP p) = .tuple #[.string x, .int .i64 n] := by cases rightP p; exact ⟨_, _, rfl⟩; exact ⟨_, _, rfl⟩
    rw [hsv] at HX2 HY2
    clear hsv HX HY
    go_wp2_with fail
    refine (HX2.out _ B2).mono ?_
    rintro e w3 ⟨rfl, b3⟩
    have K3 := Lib.hid (K2.out.trans (b3.mono (by omega)))
    have B3 := (HB0.out _).trans (K3.out.mono (by omega))
    have hz3 : w.heap.size < w3.heap.size := by have := b3.size; omega
    clear hc1 hf1 B2 b3
    obtain ⟨hc1, hf1⟩ := boxq w.heap.size K3.out (by omega)
    go_wp2_with fail
    refine (HY2.out _ B3).mono ?_
    rintro e w4 ⟨rfl, b4⟩
    have B4 := B3.trans (b4.mono (by omega))
    go_wp2
    go_ret
    exact ⟨by simp, B4⟩

/-- A rule in a box behind w. -/
def BoxR (w : World) (v0 v1 v2 v3 : Value) (W : World) : Prop :=
  W.cell? ⟨w.heap.size, 0, none⟩ = some v0 ∧ W.cell? ⟨w.heap.size, 1, none⟩ = some v1 ∧ W.cell? ⟨w.heap.size, 2, none⟩ = some v2 ∧ W.cell? ⟨w.heap.size, 3, none⟩ = some v3 ∧ Below w.heap.size w W ∧ w.heap.size < W.heap.size
theorem BoxR.kept {w W w1 : World} {v0 v1 v2 v3 : Value} (h : BoxR w v0 v1 v2 v3 W) (b : Below W.heap.size W w1) : BoxR w v0 v1 v2 v3 w1 := by
  obtain ⟨h0, h1, h2, h3, h4, h5⟩ := h
  exact ⟨(b.cell (p := ⟨w.heap.size, 0, none⟩) h5).trans h0, (b.cell (p := ⟨w.heap.size, 1, none⟩) h5).trans h1, (b.cell (p := ⟨w.heap.size, 2, none⟩) h5).trans h2, (b.cell (p := ⟨w.heap.size, 3, none⟩) h5).trans h3, h4.trans (b.mono (by omega)), Nat.lt_of_lt_of_le h5 b.size⟩

set_option maxRecDepth 100000 in
set_option maxHeartbeats 4000000 in
theorem dtreeRules_c (p : Ru) (a : Addr) (w : World) (cs : List Value) (hp : RuC w w.heap.size p cs) (E : TEnv a w) :
    Calls Tryz.prog 6 #[.agg cs.toArray] w fun e w' => e = .returned (.bool true) ∧ Below w.heap.size w w' := by
  have hp64 := hp.r64
  have HP0 := fun (W : World) (hb : Below w.heap.size w W) => sizeRule_c p 2000 W cs (by omega) (by omega) ((hp.below hb).more hb.size)
  have HX0 := fun (hs : 0 ≤ sizeR p 2000) (W : World) (hb : Below w.heap.size w W) => rshow_c p a W cs ((hp.below hb).more hb.size) (E.below hb) (fun _ => Nat.le_trans (rule_small hp64 hs) (by omega))
  have HY0 := fun (hs : 0 ≤ sizeR p 2000) (W : World) (hb : Below w.heap.size w W) => rshowRule_c p W cs (sizeR_1k hs) (fun _ => Nat.le_trans (rule_small hp64 hs) (by omega)) ((hp.below hb).more hb.size)
  have HC0 := fun (W : World) (hb : Below w.heap.size w W) => rightRule_c p a W cs ((hp.below hb).more hb.size) (E.below hb).err
  have HD0 := fun (W : World) (hb : Below w.heap.size w W) => rrightRule_c p W cs ((hp.below hb).more hb.size)
  have HH := Lib.hid (fun (W : World) (hb : Below w.heap.size w W) => shown_c a W (E.below hb))
  obtain ⟨o0, k0, o1, k1, rfl, _, _, _⟩ := hp.look
  have HP := Lib.hid HP0
  have HX := Lib.hid HX0
  have HY := Lib.hid HY0
  have HC := Lib.hid HC0
  have HD := Lib.hid HD0
  have F0 : Hid (BoxR w (.string p.head.rel) (.slice o0 p.head.l.length k0) (.slice o1 p.body.length k1) (.int .i64 p.line) (w.alloc (.cells #[.string p.head.rel, .slice o0 p.head.l.length k0, .slice o1 p.body.length k1, .int .i64 p.line] 45))) := Lib.hid ⟨by go_simp, by go_simp, by go_simp, by go_simp, (Below.refl _ _).alloc (Nat.le_refl _) _, by simp⟩
  clear HP0 HX0 HY0 HC0 HD0 hp E hp64
  go_enter Tryz.func6, Tryz.ntmps6
  go_wp2_with fail
  refine (HH.out _ F0.out.2.2.2.2.1).mono ?_
  rintro e w1 ⟨rfl, b1⟩
  have F1 := Lib.hid (F0.out.kept b1)
  obtain ⟨x0, x1, x2, x3, B1, hz1⟩ := F1.out
  clear b1
  go_wp2_with fail
  refine (HP.out _ B1).mono ?_
  rintro e w2 ⟨rfl, b2⟩
  have F2 := Lib.hid (F1.out.kept b2)
  clear x0 x1 x2 x3 B1 hz1 b2
  obtain ⟨x0, x1, x2, x3, B2, hz2⟩ := F2.out
  obtain ⟨n, hn⟩ : ∃ n, sizeR p 2000 = n := ⟨_, rfl⟩
  rw [hn]
  by_cases hneg : n < 0
  · clear hn
    go_wp2
    go_ret
    exact ⟨rfl, B2⟩
  have hs : 0 ≤ sizeR p 2000 := by omega
  have HX1 := Lib.hid (HX.out hs)
  have HY1 := Lib.hid (HY.out hs)
  obtain ⟨sv, se, hsv⟩ : ∃ (x : ByteArray) (n : Int), shV (rightR p) (showR p) = .tuple #[.string x, .int .i64 n] := by cases rightR p; exact ⟨_, _, rfl⟩; exact ⟨_, _, rfl⟩
  rw [hsv] at HX1 HY1
  obtain ⟨br, hbr⟩ : ∃ b, rightR p = b := ⟨_, rfl⟩
  rw [hbr] at HC HD
  have HC2 : Hid (∀ W, BoxR w (.string p.head.rel) (.slice o0 p.head.l.length k0) (.slice o1 p.body.length k1) (.int .i64 p.line) W → Calls Tryz.prog 19 #[.agg #[.string p.head.rel, .slice o0 p.head.l.length k0, .slice o1 p.body.length k1, .int .i64 p.line]] W fun e w' => e = .returned (.bool br) ∧ BoxR w (.string p.head.rel) (.slice o0 p.head.l.length k0) (.slice o1 p.body.length k1) (.int .i64 p.line) w') := Lib.hid fun W h => (HC.out W h.2.2.2.2.1).mono (by rintro e w1 ⟨rfl, b1⟩; exact ⟨rfl, h.kept b1⟩)
  have HD2 : Hid (∀ W, BoxR w (.string p.head.rel) (.slice o0 p.head.l.length k0) (.slice o1 p.body.length k1) (.int .i64 p.line) W → Calls Tryz.prog 20 #[.agg #[.string p.head.rel, .slice o0 p.head.l.length k0, .slice o1 p.body.length k1, .int .i64 p.line]] W fun e w' => e = .returned (.bool br) ∧ BoxR w (.string p.head.rel) (.slice o0 p.head.l.length k0) (.slice o1 p.body.length k1) (.int .i64 p.line) w') := Lib.hid fun W h => (HD.out W h.2.2.2.2.1).mono (by rintro e w1 ⟨rfl, b1⟩; exact ⟨rfl, h.kept b1⟩)
  clear hs hn hsv hbr HX HY HC HD
  go_wp2_with fail
  refine (HX1.out _ B2).mono ?_
  rintro e w3 ⟨rfl, b3⟩
  have F3 := Lib.hid (F2.out.kept b3)
  clear x0 x1 x2 x3 B2 hz2 b3
  obtain ⟨x0, x1, x2, x3, B3, hz3⟩ := F3.out
  go_wp2_with fail
  refine (HY1.out _ B3).mono ?_
  rintro e w4 ⟨rfl, b4⟩
  have F4 := Lib.hid (F3.out.kept b4)
  clear x0 x1 x2 x3 B3 hz3 b4
  obtain ⟨x0, x1, x2, x3, B4, hz4⟩ := F4.out
  have hS := F4.out.kept ((Below.refl _ _).drew)
  go_wp2
  go_region_held3 (fun w' => w'.cell? ⟨w.heap.size, 0, none⟩ = some (.string p.head.rel) ∧ w'.cell? ⟨w.heap.size, 1, none⟩ = some (.slice o0 p.head.l.length k0) ∧ w'.cell? ⟨w.heap.size, 2, none⟩ = some (.slice o1 p.body.length k1) ∧ w'.cell? ⟨w.heap.size, 3, none⟩ = some (.int .i64 p.line) ∧ Below w.heap.size w w' ∧ w.heap.size < w'.heap.size) (first | exact hk | exact hS) (first | (go_at_call 19; refine (HC2.out _ (by first | exact hk | exact hS)).mono ?_; rintro e w5 ⟨rfl, hk⟩; have hk2 := hk; obtain ⟨x0, x1, x2, x3, _, _⟩ := hk2) | (go_at_call 20; refine (HD2.out _ (by first | exact hk | exact hS)).mono ?_; rintro e w5 ⟨rfl, hk⟩; have hk2 := hk; obtain ⟨x0, x1, x2, x3, _, _⟩ := hk2))
  all_goals
    go_wp2
    go_ret
    exact ⟨by simp, hk.2.2.2.2.1⟩
end Go.Proofs.YthjfkngfgomkbaaGreatDoor
