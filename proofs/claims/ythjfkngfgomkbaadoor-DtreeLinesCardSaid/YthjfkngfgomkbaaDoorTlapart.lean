/- The law DtreeApart. -/
import Derived.Test.YthjfkngfgomkbaaDoorTlsame
import Derived.Test.YthjfkngfgomkbaaDoorTlen
namespace Go.Proofs.YthjfkngfgomkbaaDoor
open Go.RowKit

theorem shV_t (x : List UInt8) : shV true x = .tuple #[.string ⟨x.toArray⟩, .int .i64 0] := rfl
theorem shV_f (x : List UInt8) : shV false x = .tuple #[.string ⟨#[]⟩, .int .i64 30] := rfl
/-- Show of a small program, its text's length paid. -/
theorem pshow_s (t : Pg) (a : Addr) (w : World) (cs : List Value) (hs : smallP t = true) (hc : PgC w w.heap.size t cs) (E : TEnv a w) :
    Calls Tryd.prog 14 #[.agg cs.toArray] w fun e w' => e = .returned (shV (rightP t) (showP t)) ∧ Below w.heap.size w w' :=
  pshow_c t a w cs hc E (fun hr => Nat.le_trans (prog_len hc.p64 hs hr) (by omega))

set_option maxRecDepth 100000 in
set_option maxHeartbeats 4000000 in
theorem dtreeApart_c (p q : Pg) (a : Addr) (w : World) (cs ds : List Value) (hp : PgC w w.heap.size p cs) (hq : PgC w w.heap.size q ds) (E : TEnv a w) :
    Calls Tryd.prog 5 #[.agg cs.toArray, .agg ds.toArray] w fun e w' => e = .returned (.bool true) ∧ Below w.heap.size w w' := by
  have HS0 := fun (W : World) (hb : Below w.heap.size w W) => same_c p p W cs cs ((hp.below hb).more hb.size) ((hp.below hb).more hb.size)
  have HR0 := fun (W : World) (hb : Below w.heap.size w W) => same_c p q W cs ds ((hp.below hb).more hb.size) ((hq.below hb).more hb.size)
  have HP0 := fun (W : World) (hb : Below w.heap.size w W) => small_c p W cs ((hp.below hb).more hb.size)
  have HQ0 := fun (W : World) (hb : Below w.heap.size w W) => small_c q W ds ((hq.below hb).more hb.size)
  have HX0 := fun (hs : smallP p = true) (W : World) (hb : Below w.heap.size w W) => pshow_s p a W cs hs ((hp.below hb).more hb.size) (E.below hb)
  have HY0 := fun (hs : smallP q = true) (W : World) (hb : Below w.heap.size w W) => pshow_s q a W ds hs ((hq.below hb).more hb.size) (E.below hb)
  have HH := Lib.hid (fun (W : World) (hb : Below w.heap.size w W) => shown_c a W (E.below hb))
  obtain ⟨p1, q1, r1, s1, rfl, _, _⟩ := hp.look
  obtain ⟨p2, q2, r2, s2, rfl, _, _⟩ := hq.look
  have HP := Lib.hid HP0
  have HQ := Lib.hid HQ0
  have HX := Lib.hid HX0
  have HY := Lib.hid HY0
  have HS : Hid (∀ W, Two w (.slice p1 p.decls.length q1) (.slice r1 p.rules.length s1) (.slice p2 q.decls.length q2) (.slice r2 q.rules.length s2) W → Calls Tryd.prog 12 #[.agg #[.slice p1 p.decls.length q1, .slice r1 p.rules.length s1], .agg #[.slice p1 p.decls.length q1, .slice r1 p.rules.length s1]] W fun e w' => e = .returned (.bool true) ∧ Two w (.slice p1 p.decls.length q1) (.slice r1 p.rules.length s1) (.slice p2 q.decls.length q2) (.slice r2 q.rules.length s2) w') := Lib.hid fun W h => (HS0 W h.2.2.2.2.1).mono (by rw [sameP_refl]; rintro e w1 ⟨rfl, b1⟩; exact ⟨rfl, h.kept b1⟩)
  have HR : Hid (∀ W, Two w (.slice p1 p.decls.length q1) (.slice r1 p.rules.length s1) (.slice p2 q.decls.length q2) (.slice r2 q.rules.length s2) W → Calls Tryd.prog 12 #[.agg #[.slice p1 p.decls.length q1, .slice r1 p.rules.length s1], .agg #[.slice p2 q.decls.length q2, .slice r2 q.rules.length s2]] W fun e w' => e = .returned (.bool (sameP p q)) ∧ Two w (.slice p1 p.decls.length q1) (.slice r1 p.rules.length s1) (.slice p2 q.decls.length q2) (.slice r2 q.rules.length s2) w') := Lib.hid fun W h => (HR0 W h.2.2.2.2.1).mono (by rintro e w1 ⟨rfl, b1⟩; exact ⟨rfl, h.kept b1⟩)
  have HT : Hid (Two w (.slice p1 p.decls.length q1) (.slice r1 p.rules.length s1) (.slice p2 q.decls.length q2) (.slice r2 q.rules.length s2) ((w.alloc (.cells #[.slice p1 p.decls.length q1, .slice r1 p.rules.length s1] 25)).alloc (.cells #[.slice p2 q.decls.length q2, .slice r2 q.rules.length s2] 25))) := Lib.hid ⟨by go_simp, by go_simp, by go_simp, by go_simp, ((Below.refl _ _).alloc (Nat.le_refl _) _).alloc (by simp) _, by simp⟩
  clear HS0 HR0 HP0 HQ0 HX0 HY0 hp hq E
  go_enter Tryd.func5, Tryd.ntmps5
  go_wp2_with fail
  refine (HH.out _ HT.out.2.2.2.2.1).mono ?_
  rintro e w1 ⟨rfl, b1⟩
  have T1 := Lib.hid (HT.out.kept b1)
  clear b1
  obtain ⟨x0, x1, y0, y1, B1, hz⟩ := T1.out
  have hz1 : w.heap.size < w1.heap.size := by omega
  go_wp2_with fail
  refine (HP.out _ B1).mono ?_
  rintro e w2 ⟨rfl, b2⟩
  have T2 := Lib.hid (T1.out.kept b2)
  clear b2 x0 x1 y0 y1 B1 hz hz1
  obtain ⟨x0, x1, y0, y1, B2, hz⟩ := T2.out
  have hz1 : w.heap.size < w2.heap.size := by omega
  cases hsp : smallP p with
  | false =>
    rw [show smallI p = 0 by unfold smallI; rw [hsp]; rfl]
    clear hsp
    go_wp2
    go_ret
    exact ⟨rfl, B2⟩
  | true =>
    rw [show smallI p = 1 by unfold smallI; rw [hsp]; rfl]
    have HSP := Lib.hid hsp
    clear hsp
    go_wp2_with fail
    refine (HQ.out _ B2).mono ?_
    rintro e w3 ⟨rfl, b3⟩
    have T3 := Lib.hid (T2.out.kept b3)
    clear b3 x0 x1 y0 y1 B2 hz hz1
    obtain ⟨x0, x1, y0, y1, B3, hz⟩ := T3.out
    have hz1 : w.heap.size < w3.heap.size := by omega
    cases hsq : smallP q with
    | false =>
      rw [show smallI q = 0 by unfold smallI; rw [hsq]; rfl]
      clear hsq
      go_wp2
      go_ret
      exact ⟨rfl, B3⟩
    | true =>
      rw [show smallI q = 1 by unfold smallI; rw [hsq]; rfl]
      have HSQ := Lib.hid hsq
      clear hsq
      go_wp2_with fail
      refine (HX.out HSP.out _ B3).mono ?_
      rintro e w4 ⟨rfl, b4⟩
      have T4 := Lib.hid (T3.out.kept b4)
      clear b4 x0 x1 y0 y1 B3 hz hz1
      obtain ⟨x0, x1, y0, y1, B4, hz⟩ := T4.out
      have hz1 : w.heap.size < w4.heap.size := by omega
      have HAP := fun (hp : rightP p = true) (hq : rightP q = true) => apart_beq hp hq
      cases hrp : rightP p with
      | false =>
        rw [shV_f]
        clear HAP hrp
        go_wp2_with fail
        refine (HY.out HSQ.out _ B4).mono ?_
        rintro e w5 ⟨rfl, b5⟩
        have T5 := Lib.hid (T4.out.kept b5)
        clear b5 x0 x1 y0 y1 B4 hz hz1
        obtain ⟨x0, x1, y0, y1, B5, hz⟩ := T5.out
        have hz1 : w.heap.size < w5.heap.size := by omega
        cases hrq : rightP q
        all_goals
          clear hrq
          simp only [shV_f, shV_t]
          go_wp2_with fail
          refine (HS.out _ T5.out).mono ?_
          rintro e w6 ⟨rfl, T6⟩
          clear x0 x1 y0 y1 B5 hz hz1
          obtain ⟨x0, x1, y0, y1, B6, hz⟩ := T6
          go_wp2
          go_ret
          exact ⟨by simp, B6⟩
      | true =>
        rw [shV_t]
        go_wp2_with fail
        refine (HY.out HSQ.out _ B4).mono ?_
        rintro e w5 ⟨rfl, b5⟩
        have T5 := Lib.hid (T4.out.kept b5)
        clear b5 x0 x1 y0 y1 B4 hz hz1
        obtain ⟨x0, x1, y0, y1, B5, hz⟩ := T5.out
        have hz1 : w.heap.size < w5.heap.size := by omega
        cases hrq : rightP q with
        | false =>
          clear hrq HAP hrp
          rw [shV_f]
          go_wp2_with fail
          refine (HS.out _ T5.out).mono ?_
          rintro e w6 ⟨rfl, T6⟩
          clear x0 x1 y0 y1 B5 hz hz1
          obtain ⟨x0, x1, y0, y1, B6, hz⟩ := T6
          go_wp2
          go_ret
          exact ⟨by simp, B6⟩
        | true =>
          have HA := HAP hrp hrq
          clear hrq HAP hrp
          rw [shV_t]
          obtain ⟨b, hb⟩ : ∃ b, sameP p q = b := ⟨_, rfl⟩
          rw [hb] at HA HR
          clear hb
          generalize showP p = tp at *
          generalize showP q = tq at *
          go_wp2_with fail
          refine (HS.out _ T5.out).mono ?_
          rintro e w6 ⟨rfl, T6⟩
          clear x0 x1 y0 y1 B5 hz hz1
          have T6' := T6
          obtain ⟨x0, x1, y0, y1, B6, hz⟩ := T6'
          have hz1 : w.heap.size < w6.heap.size := by omega
          go_wp2_with fail
          refine (HR.out _ T6).mono ?_
          rintro e w7 ⟨rfl, T7⟩
          go_wp2
          go_ret
          exact ⟨by simp, T7.2.2.2.2.1⟩
end Go.Proofs.YthjfkngfgomkbaaDoor
