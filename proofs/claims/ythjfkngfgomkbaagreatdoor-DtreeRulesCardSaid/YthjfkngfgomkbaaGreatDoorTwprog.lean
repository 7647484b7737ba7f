/- dtree.writeDecl, whole; writeProg. -/
import Derived.Test.YthjfkngfgomkbaaGreatDoorTwdecl
namespace Go.Proofs.YthjfkngfgomkbaaGreatDoor
open Go.RowKit

theorem writeDecl_c (t : De) (B b : Nat) (l : List UInt8) (w : World) (cs : List Value) (a : Addr) (hr : rightD t = true) (hb : Bd B b l w) (hc : DeC w B t cs) (E : TEnv a w) (hV : 12 ≤ B) (hB : B ≤ w.heap.size) (hl : l.length + (showD t).length ≤ 1073741824) :
    Calls Tryz.prog 61 #[.pointer (some ⟨b, 0, none⟩), .agg cs.toArray] w (Wrote B b l (showD t) w) := by
  obtain ⟨o0, k0, o1, k1, rfl, _, _, HN, HT⟩ := hc.look
  obtain ⟨rel, names, types, inn, out, line⟩ := t
  unfold rightD at hr
  simp only [Bool.and_eq_true, decide_eq_true_eq] at hr HN HT ⊢
  rw [showD_parts] at hl ⊢
  exact wdecl rel names types inn out line o0 o1 k0 k1 B b l w a hr.1.1.1.2 hr.1.1.2 hr.2 HN HT hb E hV hB hl

def declsL (l : List De) : List UInt8 := l.flatMap showD
def rulesL (l : List Ru) : List UInt8 := l.flatMap fun r => showR r ++ [10]
theorem flat_take {α : Type} (f : α → List UInt8) {l : List α} {k : Nat} {x : α} (h : l[k]? = some x) : (l.take (k + 1)).flatMap f = (l.take k).flatMap f ++ f x := by
  rw [List.take_add_one, h]; simp
theorem flat_upto {α : Type} (f : α → List UInt8) (l : List α) (k : Nat) : ((l.take k).flatMap f).length ≤ (l.flatMap f).length := by
  have : l.flatMap f = (l.take k).flatMap f ++ (l.drop k).flatMap f := by rw [← List.flatMap_append, List.take_append_drop]
  rw [this, List.length_append]; omega

set_option maxRecDepth 100000 in
set_option maxHeartbeats 8000000 in
theorem writeProg_c (p : Pg) (B b : Nat) (l : List UInt8) (w : World) (cs : List Value) (a : Addr) (hr : rightP p = true) (hb : Bd B b l w) (hc : PgC w B p cs) (E : TEnv a w) (hV : 12 ≤ B) (hB : B ≤ w.heap.size) (hl : l.length + (showP p).length ≤ 1073741824) :
    Calls Tryz.prog 29 #[.pointer (some ⟨b, 0, none⟩), .agg cs.toArray] w (Wrote B b l (showP p) w) := by
  obtain ⟨p1, q1, p2, q2, rfl, HD, HRu⟩ := hc.look
  have hx : showP p = declsL p.decls ++ rulesL p.rules := rfl
  rw [hx] at hl ⊢
  obtain ⟨o0', cap0, e0, hc0, hm0, S1⟩ := SlOf.open HD
  cases e0
  obtain ⟨o1', cap1, e1, hc1, hm1, S2⟩ := SlOf.open HRu
  cases e1
  unfold rightP at hr
  simp only [Bool.and_eq_true, decide_eq_true_eq] at hr
  have Hrd := Lib.hid hr.1.2
  have Hrr := Lib.hid hr.2
  have hbl := bdLt hb
  obtain ⟨oc, hoc⟩ : ∃ o : Obj, o = .cells #[.slice p1 p.decls.length q1, .slice p2 p.rules.length q2] 35 := ⟨_, rfl⟩
  have R0 : Row w.heap.size 35 [.slice p1 p.decls.length q1, .slice p2 p.rules.length q2] (w.alloc oc) := by rw [hoc]; exact Row.new w _ _
  have b0 := hb.alloc oc
  have k0' : Kp B b w (w.alloc oc) := Kp.alloc hB _
  have HR : Hid (∀ W, Kp B b (w.alloc oc) W → W.cell? ⟨w.heap.size, 0, none⟩ = some (.slice p1 p.decls.length q1) ∧ W.cell? ⟨w.heap.size, 1, none⟩ = some (.slice p2 p.rules.length q2) ∧ w.heap.size < W.heap.size) := Lib.hid fun W K => by
    have R := R0.kp K (by omega) (by decide)
    have := K.below.size
    simp only [World.size_alloc] at this
    exact ⟨R.at 0 _ rfl, R.at 1 _ rfl, by omega⟩
  have HE := Lib.hid (E.belowB hV k0'.below)
  have HK0 := Lib.hid k0'
  have Hl : Hid (l.length + (declsL p.decls).length + (rulesL p.rules).length ≤ 1073741824) := Lib.hid (by rw [List.length_append] at hl; omega)
  have Hb0 := Lib.hid b0
  have Hk0 := Lib.hid (Kp.refl B b (w.alloc oc))
  have Hbs : Hid (∀ W, Kp B b (w.alloc oc) W → B ≤ W.heap.size) := Lib.hid fun W K => K.size (by simp; omega)
  clear R0 k0' hb E hl b0 hc HD HRu hx hr
  have hb1 : (w.alloc oc).heap.size = w.heap.size + 1 := by simp
  subst hoc
  go_enter Tryz.func29, Tryz.ntmps29
  go_wp2

  go_loopw [11] (fun i wr => ∃ k : Nat, k ≤ p.decls.length ∧ i = .int .i64 k ∧ Bd B b (l ++ declsL (p.decls.take k)) wr ∧ Kp B b (w.alloc (.cells #[.slice p1 p.decls.length q1, .slice p2 p.rules.length q2] 35)) wr) (fun i _ => p.decls.length - (intOf i).toNat)
  case atStart => exact ⟨0, Nat.zero_le _, rfl, by simpa [declsL] using Hb0.out, Hk0.out⟩
  case round =>
    obtain ⟨k, hk, rfl, hbk, hK⟩ := hrel
    obtain ⟨y0, y1, hz0⟩ := HR.out _ hK
    have hbs := Hbs.out _ hK
    by_cases hlt : k < p.decls.length
    · have hlt' : (k : Int) < (p.decls.length : Int) := by omega
      obtain ⟨xe, ht⟩ : ∃ x, p.decls[k]? = some x := ⟨p.decls[k], List.getElem?_eq_getElem hlt⟩
      obtain ⟨a1, o0, k0, o1, k1, rfl, ha, Hc, c0, c1, c2, c3, c4, c5⟩ := de_atB S1 (HK0.out.below.trans hK.below) ht
      have hal : (a1.add (k * 6)).block < wr.heap.size := by rw [addBlock]; omega
      have hj : declsL (p.decls.take (k + 1)) = declsL (p.decls.take k) ++ (showD xe) := flat_take _ ht
      have hup : (declsL (p.decls.take (k + 1))).length ≤ (declsL p.decls).length := flat_upto _ _ _
      rw [hj] at hup
      simp only [List.length_append] at hup
      have Hup := Lib.hid hup
      have hrt := List.all_eq_true.1 Hrd.out xe (List.mem_of_getElem? ht)
      obtain ⟨oc, hoc⟩ : ∃ o : Obj, o = .cells #[.string xe.rel, .slice o0 xe.names.length k0, .slice o1 xe.types.length k1, .bool xe.inn, .bool xe.out, .int .i64 xe.line] 69 := ⟨_, rfl⟩
      have b0 := hbk.alloc oc
      have k0' : Kp B b wr (wr.alloc oc) := Kp.alloc hbs _
      have R0 : Row wr.heap.size 69 [.string xe.rel, .slice o0 xe.names.length k0, .slice o1 xe.types.length k1, .bool xe.inn, .bool xe.out, .int .i64 xe.line] (wr.alloc oc) := by rw [hoc]; exact Row.new wr _ _
      have hbl := bdLt hbk
      have HW : Hid (∀ (W : World) (l : List UInt8), Bd B b l W → Kp B b (wr.alloc oc) W → l.length + (showD xe).length ≤ 1073741824 → _) := Lib.hid fun W l hb k hl => writeDecl_c xe B b l W _ a hrt hb (Hc.out.below (k0'.below.trans k.below)) (HE.out.belowB hV ((hK.below.trans k0'.below).trans k.below)) hV (k.size (k0'.size hbs)) hl
      have HK1 := Lib.hid (hK.trans k0')
      have Hj := Lib.hid hj
      have Hb1 := Lib.hid b0
      clear R0 k0' hK ht Hc hbk hj hup hrt b0
      subst hoc
      go_wp2_with fail
      refine (HW.out _ _ Hb1.out (Kp.refl _ _ _) (by have := Hl.out; have := Hup.out; simp only [List.length_append] at *; omega)).mono ?_
      rintro e w2 ⟨rfl, b2, kk⟩
      have Hk2 := Lib.hid (HK1.out.trans kk)
      have Hb2 : Hid (Bd B b (l ++ declsL (p.decls.take k) ++ showD xe) w2) := Lib.hid b2
      clear b2 kk c0 c1 c2 c3 c4 c5 y0 y1 hz0
      have Hb3 : Hid (Bd B b (l ++ declsL (p.decls.take (k + 1))) w2) := Lib.hid (by rw [Hj.out]; simpa using Hb2.out)
      have Hk3 := Hk2
      go_wp2
      go_roundw
      case rel => exact ⟨k + 1, hlt, by go_num, Hb3.out, Hk3.out⟩
      case measure => simp [intOf]; omega
    · have hlt' : ¬ (k : Int) < (p.decls.length : Int) := by omega
      have hkl : p.decls.take k = p.decls := List.take_of_length_le (by omega)
      rw [hkl] at hbk
      have HKk := Lib.hid hK
      have Hbk := Lib.hid hbk
      clear hbk hK hkl
      go_wp2
      clear y0 y1 hz0 hlt hlt'
      go_loopw [22] (fun i wr => ∃ k : Nat, k ≤ p.rules.length ∧ i = .int .i64 k ∧ Bd B b (l ++ declsL p.decls ++ rulesL (p.rules.take k)) wr ∧ Kp B b (w.alloc (.cells #[.slice p1 p.decls.length q1, .slice p2 p.rules.length q2] 35)) wr) (fun i _ => p.rules.length - (intOf i).toNat)
      case atStart => exact ⟨0, Nat.zero_le _, rfl, by simpa [rulesL] using Hbk.out, HKk.out⟩
      case round =>
        obtain ⟨k, hk, rfl, hbk, hK⟩ := hrel
        obtain ⟨y0, y1, hz0⟩ := HR.out _ hK
        have hbs := Hbs.out _ hK
        by_cases hlt : k < p.rules.length
        · have hlt' : (k : Int) < (p.rules.length : Int) := by omega
          obtain ⟨xe, ht⟩ : ∃ x, p.rules[k]? = some x := ⟨p.rules[k], List.getElem?_eq_getElem hlt⟩
          obtain ⟨a1, o0, k0, o1, k1, rfl, ha, Hc, c0, c1, c2, c3⟩ := ru_atB S2 (HK0.out.below.trans hK.below) ht
          have hal : (a1.add (k * 4)).block < wr.heap.size := by rw [addBlock]; omega
          have hj : rulesL (p.rules.take (k + 1)) = rulesL (p.rules.take k) ++ (showR xe ++ [10]) := flat_take _ ht
          have hup : (rulesL (p.rules.take (k + 1))).length ≤ (rulesL p.rules).length := flat_upto _ _ _
          rw [hj] at hup
          simp only [List.length_append, List.length_cons, List.length_nil] at hup
          have Hup := Lib.hid hup
          have hrt := List.all_eq_true.1 Hrr.out xe (List.mem_of_getElem? ht)
          obtain ⟨oc, hoc⟩ : ∃ o : Obj, o = .cells #[.string xe.head.rel, .slice o0 xe.head.l.length k0, .slice o1 xe.body.length k1, .int .i64 xe.line] 45 := ⟨_, rfl⟩
          have b0 := hbk.alloc oc
          have k0' : Kp B b wr (wr.alloc oc) := Kp.alloc hbs _
          have R0 : Row wr.heap.size 45 [.string xe.head.rel, .slice o0 xe.head.l.length k0, .slice o1 xe.body.length k1, .int .i64 xe.line] (wr.alloc oc) := by rw [hoc]; exact Row.new wr _ _
          have hbl := bdLt hbk
          have HW : Hid (∀ (W : World) (l : List UInt8), Bd B b l W → Kp B b (wr.alloc oc) W → l.length + (showR xe).length ≤ 1073741824 → _) := Lib.hid fun W l hb k hl => writeRule_c xe B b l W _ a hrt hb (Hc.out.below (k0'.below.trans k.below)) (HE.out.belowB hV ((hK.below.trans k0'.below).trans k.below)) hV (k.size (k0'.size hbs)) hl
          have HK1 := Lib.hid (hK.trans k0')
          have Hj := Lib.hid hj
          have Hb1 := Lib.hid b0
          clear R0 k0' hK ht Hc hbk hj hup hrt b0
          subst hoc
          go_wp2_with fail
          refine (HW.out _ _ Hb1.out (Kp.refl _ _ _) (by have := Hl.out; have := Hup.out; simp only [List.length_append] at *; omega)).mono ?_
          rintro e w2 ⟨rfl, b2, kk⟩
          have Hk2 := Lib.hid (HK1.out.trans kk)
          have Hb2 : Hid (Bd B b (l ++ declsL p.decls ++ rulesL (p.rules.take k) ++ showR xe) w2) := Lib.hid b2
          clear b2 kk c0 c1 c2 c3 y0 y1 hz0
          obtain ⟨y0, y1, hz0⟩ := HR.out _ Hk2.out
          go_wp2_with fail
          refine (writeByte_c B b _ 10 10 rfl _ Hb2.out (by have := Hl.out; have := Hup.out; simp only [List.length_append] at *; omega) (Hbs.out _ Hk2.out)).mono ?_
          rintro e w3 ⟨rfl, b3, kk⟩
          have Hk3 := Lib.hid (Hk2.out.trans kk)
          have Hb3 : Hid (Bd B b (l ++ declsL p.decls ++ rulesL (p.rules.take (k + 1))) w3) := Lib.hid (by rw [Hj.out]; simpa using b3)
          clear b3 kk y0 y1 hz0
          go_wp2
          go_roundw
          case rel => exact ⟨k + 1, hlt, by go_num, Hb3.out, Hk3.out⟩
          case measure => simp [intOf]; omega
        · have hlt' : ¬ (k : Int) < (p.rules.length : Int) := by omega
          have hkl : p.rules.take k = p.rules := List.take_of_length_le (by omega)
          rw [hkl] at hbk
          have HKk := Lib.hid hK
          have Hbk := Lib.hid hbk
          clear hbk hK hkl
          have Hkz := Lib.hid (HK0.out.trans HKk.out)
          go_wp2
          go_end0
          exact ⟨rfl, by have := Hbk.out; simpa using this, Hkz.out⟩
end Go.Proofs.YthjfkngfgomkbaaGreatDoor
