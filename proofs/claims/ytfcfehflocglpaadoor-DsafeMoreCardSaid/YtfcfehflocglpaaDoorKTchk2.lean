/- dtree.checkRule, checkDecl, checkProg, Right, RightRule. dtree.Right, RightRule. Which types variables have: what package dtype does, as plain functions, and what that comes to whatever the order. -/
import Derived.Test.YtfcfehflocglpaaDoorKTlit
import Derived.Deep.RegionHeld3
import Derived.Test.YtfcfehflocglpaaDoorKSpr
namespace Go.Proofs.YtfcfehflocglpaaDoor
open Go.RowKit

set_option maxRecDepth 100000 in
set_option maxHeartbeats 4000000 in
theorem checkRule_c (t : Ru) (a : Addr) (w : World) (cs : List Value) (hc : RuC w w.heap.size t cs) (E : TErr a w) :
    Calls Tryd.prog 60 #[.agg cs.toArray] w fun e w' => e = .returned (okV a (rightR t)) ∧ Below w.heap.size w w' := by
  obtain ⟨o0, k0, o1, k1, rfl, _, H1, H2⟩ := hc.look
  have HH := Lib.hid (fun (W : World) (hb : Below w.heap.size w W) => checkHead_c t.head t.body.isEmpty a W _ ((H1.below hb).more hb.size) (E.below hb))
  obtain ⟨o2, cap2, e2, hc2, hm2, SL⟩ := SlOf.open H2
  cases e2
  have herr := E.err
  have hgs := E.size
  have HE := Lib.hid E
  clear E
  clear hc H1 H2
  have HB0 : Hid (∀ (x : Obj), Below w.heap.size w (w.alloc x)) := Lib.hid fun x => (Below.refl _ _).alloc (Nat.le_refl _) _
  have hie : ((t.body.length : Int) == 0) = t.body.isEmpty := by cases t.body <;> simp <;> omega
  by_cases hbig : 20 < t.body.length
  · have hbig' : (20 : Int) < (t.body.length : Int) := by omega
    have Hq : Hid (rightR t = false) := Lib.hid (by unfold rightR; rw [decide_eq_false (show ¬ t.body.length ≤ 20 by omega)]; simp)
    clear hie
    go_enter Tryd.func60, Tryd.ntmps60
    go_wp2
    go_ret
    exact ⟨by rw [Hq.out]; rfl, HB0.out _⟩
  have hbig' : ¬ (20 : Int) < (t.body.length : Int) := by omega
  have Hz0 : Hid (rightR t = ((t.head.l.all (headT t.body.isEmpty) && rightA t.head) && t.body.all rightL)) := Lib.hid (by
    unfold rightR
    rw [decide_eq_true (show t.body.length ≤ 20 by omega)]
    cases rightA t.head <;> cases t.head.l.all (headT t.body.isEmpty) <;> rfl)
  go_enter Tryd.func60, Tryd.ntmps60
  go_wp2_with fail
  refine (HH.out _ (HB0.out _)).mono ?_
  rintro e w1 ⟨rfl, b1⟩
  have B1 : Below (w.heap.size + 1) (w.alloc (.cells #[.string t.head.rel, .slice o0 t.head.l.length k0, .slice o1 t.body.length k1, .int .i64 t.line] 27)) w1 := b1.mono (by simp)
  obtain ⟨hc1, hf1⟩ := boxk w.heap.size b1 (by simp)
  cases hh : (t.head.l.all (headT t.body.isEmpty) && rightA t.head) with
  | false =>
    have Hq : Hid (rightR t = false) := Lib.hid (by rw [Hz0.out, hh]; rfl)
    clear hh hie
    simp only [okV_f]
    go_wp2
    go_ret
    exact ⟨by rw [Hq.out]; rfl, (HB0.out _).trans (B1.mono (by omega))⟩
  | true =>
  have Hz : Hid (rightR t = t.body.all rightL) := Lib.hid (by rw [Hz0.out, hh]; rfl)
  clear hh hie
  simp only [okV_t]
  go_wp2
  go_loopw [25] (fun i wr => ∃ k : Nat, k ≤ t.body.length ∧ i = .int .i64 k ∧ t.body.all rightL = (t.body.drop k).all rightL ∧ Below (w.heap.size + 1) (w.alloc (.cells #[.string t.head.rel, .slice o0 t.head.l.length k0, .slice o1 t.body.length k1, .int .i64 t.line] 27)) wr) (fun i _ => t.body.length - (intOf i).toNat)
  case atStart => exact ⟨0, Nat.zero_le _, rfl, rfl, B1⟩
  case round =>
    obtain ⟨k, hk, rfl, hr, hB2⟩ := hrel
    have hB : Below w.heap.size w wr := (HB0.out _).trans (hB2.mono (by omega))
    have Hr := Lib.hid hr
    clear hr
    have hBs := hB2.size
    simp only [World.size_alloc] at hBs
    have hz0 : w.heap.size < wr.heap.size := by omega

    by_cases hlt : k < t.body.length
    · have hlt' : (k : Int) < (t.body.length : Int) := by omega
      obtain ⟨xe, ht⟩ : ∃ xe, t.body[k]? = some xe := ⟨t.body[k], List.getElem?_eq_getElem hlt⟩
      obtain ⟨b, p3, q3, p4, q4, p5, q5, rfl, ha, Hc, c0, c1, c2, c3, c4, c5, c6, c7, c8, c9, c10⟩ := lt_at SL hB ht
      have hal : (b.add (k * 11)).block < wr.heap.size := by rw [addBlock]; omega
      have Hst := Lib.hid (Hr.out.trans (all_drop (f := rightL) ht))
      clear ht
      have HI := Lib.hid (fun (W : World) (hb : Below wr.heap.size wr W) => checkLit_c xe a W _ ((Hc.out.below hb).more hb.size) ((HE.out.below hB).below hb))
      go_wp2_with fail
      refine (HI.out _ ((Below.refl _ _).alloc (Nat.le_refl _) _)).mono ?_
      rintro e w1 ⟨rfl, b1⟩
      have b1' : Below wr.heap.size wr w1 := ((Below.refl _ _).alloc (Nat.le_refl _) _).trans (b1.mono (by simp))
      have hB3 := hB2.trans (b1'.mono (by omega))
      cases hs : rightL xe with
      | false =>
        have Hz2 := Lib.hid (Hst.out.trans (by rw [hs, Bool.false_and]))
        have Hq : Hid (rightR t = false) := Lib.hid (by rw [Hz.out, Hz2.out])
        clear hs
        simp only [okV_f]
        go_wp2
        go_ret
        exact ⟨by rw [Hq.out]; rfl, hB.trans (b1'.mono hB.size)⟩
      | true =>
        have Hz2 := Lib.hid (Hst.out.trans (by rw [hs, Bool.true_and]))
        clear hs
        simp only [okV_t]
        go_wp2
        go_roundw
        case rel => exact ⟨k + 1, hlt, by go_num, Hz2.out, hB3⟩
        case measure => simp [intOf]; omega
    · have hlt' : ¬ (k : Int) < (t.body.length : Int) := by omega
      have Hall : Hid (t.body.all rightL = true) := Lib.hid (by rw [Hr.out, List.drop_of_length_le (by omega)]; rfl)
      have Hq : Hid (rightR t = true) := Lib.hid (by rw [Hz.out, Hall.out])
      go_wp2
      go_ret
      exact ⟨by rw [Hq.out]; rfl, hB⟩

def nameS (s : ByteArray) : Bool := nameB s.data.toList
def colB (x : ByteArray × Int) : Bool := nameS x.1 && rightTy x.2
theorem cols_all : ∀ (l : List ByteArray) (m : List Int), l.length = m.length → (l.all nameS && m.all rightTy) = (l.zip m).all colB
  | [], [], _ => rfl
  | x :: l, y :: m, h => by
    have ih := cols_all l m (by simpa using h)
    simp only [List.all_cons, List.zip_cons_cons]
    rw [← ih]
    unfold colB
    simp only
    cases nameS x <;> cases rightTy y <;> cases l.all nameS <;> cases m.all rightTy <;> rfl

set_option maxRecDepth 100000 in
set_option maxHeartbeats 4000000 in
theorem checkDecl_c (t : De) (a : Addr) (w : World) (cs : List Value) (hc : DeC w w.heap.size t cs) (E : TErr a w) :
    Calls Tryd.prog 94 #[.agg cs.toArray] w fun e w' => e = .returned (okV a (rightD t)) ∧ Below w.heap.size w w' := by
  obtain ⟨o0, k0, o1, k1, rfl, hz, _, H1, H2⟩ := hc.look
  have HN := Lib.hid (fun w => isName_any t.rel w hz)
  obtain ⟨o2, cap2, e2, hc2, hm2, SL⟩ := SlOf.open H1
  cases e2
  obtain ⟨o2, cap2, e2, hc3, hm3, SL2⟩ := SlOf.open H2
  cases e2
  have herr := E.err
  have hgs := E.size
  have HE := Lib.hid E
  clear E
  clear hc H1 H2
  have HB0 : Hid (∀ (x : Obj), Below w.heap.size w (w.alloc x)) := Lib.hid fun x => (Below.refl _ _).alloc (Nat.le_refl _) _
  have Hz : Hid (rightD t = (nameB t.rel.data.toList && ((decide (1 ≤ (t.names.length : Int)) && decide ((t.names.length : Int) ≤ 8)) && (decide (t.types.length = t.names.length) && (t.names.all nameS && t.types.all rightTy))))) := Lib.hid (by
    unfold rightD
    rw [show decide (1 ≤ (t.names.length : Int)) = decide (1 ≤ t.names.length) from decide_eq_decide.2 (by omega), show decide ((t.names.length : Int) ≤ 8) = decide (t.names.length ≤ 8) from decide_eq_decide.2 (by omega)]
    simp only [Bool.and_assoc]
    rfl)
  go_enter Tryd.func94, Tryd.ntmps94
  go_wp2_with fail
  refine (HN.out _).mono ?_
  rintro e w1 ⟨rfl, b1⟩
  have B1 := (HB0.out _).trans (b1.mono (by simp))
  have B1' : Below (w.heap.size + 1) (w.alloc (.cells #[.string t.rel, .slice o0 t.names.length k0, .slice o1 t.types.length k1, .bool t.inn, .bool t.out, .int .i64 t.line] 71)) w1 := b1.mono (by simp)
  obtain ⟨hc, hf⟩ := boxk w.heap.size b1 (by simp)
  have herr1 := (HE.out.below B1).err
  cases hnm : nameB t.rel.data.toList with
  | false =>
    have Hq : Hid (rightD t = false) := Lib.hid (by rw [Hz.out, hnm]; rfl)
    clear hnm
    go_wp2
    go_ret
    exact ⟨by rw [Hq.out]; rfl, B1⟩
  | true =>
  have Hz1 : Hid (rightD t = ((decide (1 ≤ (t.names.length : Int)) && decide ((t.names.length : Int) ≤ 8)) && (decide (t.types.length = t.names.length) && (t.names.all nameS && t.types.all rightTy)))) := Lib.hid (by rw [Hz.out, hnm]; rfl)
  clear hnm
  go_wp2_with fail
  refine (count_c _ _).mono ?_
  rintro e w' ⟨rfl, rfl⟩
  cases hcn : (decide (1 ≤ (t.names.length : Int)) && decide ((t.names.length : Int) ≤ 8)) with
  | false =>
    have Hq : Hid (rightD t = false) := Lib.hid (by rw [Hz1.out, hcn]; rfl)
    clear hcn
    go_wp2
    go_ret
    exact ⟨by rw [Hq.out]; rfl, B1⟩
  | true =>
  obtain ⟨bl, hbl⟩ : ∃ b, ((t.types.length : Int) != (t.names.length : Int)) = b := ⟨_, rfl⟩
  cases bl with
  | true =>
    have Hq : Hid (rightD t = false) := Lib.hid (by rw [Hz1.out, hcn, decide_eq_false (show ¬ t.types.length = t.names.length by intro h; rw [h] at hbl; simp at hbl)]; rfl)
    clear hcn
    go_wp2
    go_ret
    exact ⟨by rw [Hq.out]; rfl, B1⟩
  | false =>
  have Hlen : Hid (t.types.length = t.names.length) := Lib.hid (by
    have : (t.types.length : Int) = t.names.length := by simpa using hbl
    omega)
  have Hz2 : Hid (rightD t = (t.names.zip t.types).all colB) := Lib.hid (by rw [Hz1.out, hcn, decide_eq_true Hlen.out, ← cols_all _ _ Hlen.out.symm]; rfl)
  have HLZ : Hid ((t.names.zip t.types).length = t.names.length) := Lib.hid (by rw [List.length_zip, Hlen.out]; omega)
  clear hcn
  go_wp2
  go_loopw [29] (fun i wr => ∃ k : Nat, k ≤ t.names.length ∧ i = .int .i64 k ∧ (t.names.zip t.types).all colB = ((t.names.zip t.types).drop k).all colB ∧ Below (w.heap.size + 1) (w.alloc (.cells #[.string t.rel, .slice o0 t.names.length k0, .slice o1 t.types.length k1, .bool t.inn, .bool t.out, .int .i64 t.line] 71)) wr) (fun i _ => t.names.length - (intOf i).toNat)
  case atStart => exact ⟨0, Nat.zero_le _, rfl, rfl, B1'⟩
  case round =>
    obtain ⟨k, hk, rfl, hr, hB2⟩ := hrel
    have hB : Below w.heap.size w wr := (HB0.out _).trans (hB2.mono (by omega))
    have Hr := Lib.hid hr
    clear hr
    have hBs := hB2.size
    simp only [World.size_alloc] at hBs
    have hz0 : w.heap.size < wr.heap.size := by omega
    by_cases hlt : k < t.names.length
    · have hlt' : (k : Int) < (t.names.length : Int) := by omega
      have hlt2 : k < t.types.length := by have := Hlen.out; omega
      have hlt3 : (k : Int) < (t.types.length : Int) := by omega
      obtain ⟨xe, ht⟩ : ∃ xe, t.names[k]? = some xe := ⟨t.names[k], List.getElem?_eq_getElem hlt⟩
      obtain ⟨ye, hv⟩ : ∃ ye, t.types[k]? = some ye := ⟨t.types[k], List.getElem?_eq_getElem hlt2⟩
      obtain ⟨b, rfl, ha, hxz, c0⟩ := str_at SL hB ht
      have hzip : (t.names.zip t.types)[k]? = some (xe, ye) := by rw [List.getElem?_zip_eq_some]; exact ⟨ht, hv⟩
      have Hst := Lib.hid (Hr.out.trans (all_drop (f := colB) hzip))
      have HV := Lib.hid hv
      clear ht hzip hv
      go_wp2_with fail
      refine (isName_any xe wr hxz).mono ?_
      rintro e w2 ⟨rfl, b2⟩
      have hB3 := hB2.trans (b2.mono (by omega))
      have hB4 := hB.trans (b2.mono (by omega))
      have x0 : w2.cell? ⟨w.heap.size, 2, none⟩ = some (.slice o1 t.types.length k1) := (hB3.cell (p := ⟨w.heap.size, 2, none⟩) (by show w.heap.size < _; omega)).trans (by go_simp)
      obtain ⟨d, rfl, hd, _, d0⟩ := int_at SL2 hB4 HV.out
      have herr2 := (HE.out.below hB4).err
      cases hnm : nameB xe.data.toList with
      | false =>
        have Hq : Hid (rightD t = false) := Lib.hid (by rw [Hz2.out, Hst.out]; unfold colB nameS; simp only [hnm]; rfl)
        clear hnm
        go_wp2
        go_ret
        exact ⟨by rw [Hq.out]; rfl, hB4⟩
      | true =>
        obtain ⟨b1', hy1⟩ : ∃ b, (ye != 1) = b := ⟨_, rfl⟩
        obtain ⟨b2', hy2⟩ : ∃ b, (ye != 2) = b := ⟨_, rfl⟩
        have hty : rightTy ye = !(b1' && b2') := by unfold rightTy; rw [← hy1, ← hy2]; cases h1 : (ye == 1) <;> cases h2 : (ye == 2) <;> simp [bne, h1, h2]
        have Hst2 : Hid ((t.names.zip t.types).all colB = (!(b1' && b2') && ((t.names.zip t.types).drop (k + 1)).all colB)) := Lib.hid (by rw [Hst.out]; unfold colB nameS; simp only [hnm, hty, Bool.true_and])
        clear hnm hty
        have Hgo : Hid ((b1' && b2') = false → (t.names.zip t.types).all colB = ((t.names.zip t.types).drop (k + 1)).all colB) := Lib.hid (by intro h; rw [Hst2.out, h]; rfl)
        have Hno : Hid (b1' = true → b2' = true → rightD t = false) := Lib.hid (by rintro rfl rfl; rw [Hz2.out, Hst2.out]; rfl)
        cases b1' <;> cases b2'
        case true.true =>
          have Hq := Lib.hid (Hno.out rfl rfl)
          go_wp2
          go_ret
          exact ⟨by rw [Hq.out]; rfl, hB4⟩
        all_goals
          have Hq := Lib.hid (Hgo.out rfl)
          go_wp2
          go_roundw
          case rel => exact ⟨k + 1, hlt, by go_num, Hq.out, hB3⟩
          case measure => simp [intOf]; omega
    · have hlt' : ¬ (k : Int) < (t.names.length : Int) := by omega
      have Hq : Hid (rightD t = true) := Lib.hid (by rw [Hz2.out, Hr.out, List.drop_of_length_le (by rw [HLZ.out]; omega)]; rfl)
      go_wp2
      go_ret
      exact ⟨by rw [Hq.out]; rfl, hB⟩

set_option maxRecDepth 100000 in
set_option maxHeartbeats 4000000 in
theorem checkProg_c (t : Pg) (a : Addr) (w : World) (cs : List Value) (hc : PgC w w.heap.size t cs) (E : TErr a w) :
    Calls Tryd.prog 67 #[.agg cs.toArray] w fun e w' => e = .returned (okV a (rightP t)) ∧ Below w.heap.size w w' := by
  obtain ⟨o0, k0, o1, k1, rfl, H1, H2⟩ := hc.look
  obtain ⟨o2, cap2, e2, hc2, hm2, SL⟩ := SlOf.open H1
  cases e2
  obtain ⟨o2, cap2, e2, hc3, hm3, SL2⟩ := SlOf.open H2
  cases e2
  have herr := E.err
  have hgs := E.size
  have HE := Lib.hid E
  clear E
  clear hc H1 H2
  have HB0 : Hid (∀ (x : Obj), Below w.heap.size w (w.alloc x)) := Lib.hid fun x => (Below.refl _ _).alloc (Nat.le_refl _) _
  by_cases hbig : 60 < t.decls.length
  · have hbig' : (60 : Int) < (t.decls.length : Int) := by omega
    have Hq : Hid (rightP t = false) := Lib.hid (by unfold rightP; rw [decide_eq_false (show ¬ t.decls.length ≤ 60 by omega)]; rfl)
    go_enter Tryd.func67, Tryd.ntmps67
    go_wp2
    go_ret
    exact ⟨by rw [Hq.out]; rfl, HB0.out _⟩
  have hbig' : ¬ (60 : Int) < (t.decls.length : Int) := by omega
  by_cases hbig2 : 200 < t.rules.length
  · have hbig2' : (200 : Int) < (t.rules.length : Int) := by omega
    have Hq : Hid (rightP t = false) := Lib.hid (by unfold rightP; rw [decide_eq_false (show ¬ t.rules.length ≤ 200 by omega)]; simp)
    go_enter Tryd.func67, Tryd.ntmps67
    go_wp2
    go_ret
    exact ⟨by rw [Hq.out]; rfl, HB0.out _⟩
  have hbig2' : ¬ (200 : Int) < (t.rules.length : Int) := by omega
  have Hz : Hid (rightP t = (t.decls.all rightD && t.rules.all rightR)) := Lib.hid (by
    unfold rightP
    rw [decide_eq_true (show t.decls.length ≤ 60 by omega), decide_eq_true (show t.rules.length ≤ 200 by omega)]
    rfl)
  go_enter Tryd.func67, Tryd.ntmps67
  go_wp2
  go_loopw [23] (fun i wr => ∃ k : Nat, k ≤ t.decls.length ∧ i = .int .i64 k ∧ t.decls.all rightD = (t.decls.drop k).all rightD ∧ Below (w.heap.size + 1) (w.alloc (.cells #[.slice o0 t.decls.length k0, .slice o1 t.rules.length k1] 51)) wr) (fun i _ => t.decls.length - (intOf i).toNat)
  case atStart => exact ⟨0, Nat.zero_le _, rfl, rfl, Below.refl _ _⟩
  case round =>
    obtain ⟨k, hk, rfl, hr, hB2⟩ := hrel
    have hB : Below w.heap.size w wr := (HB0.out _).trans (hB2.mono (by omega))
    have Hr := Lib.hid hr
    clear hr
    have hBs := hB2.size
    simp only [World.size_alloc] at hBs
    have hz0 : w.heap.size < wr.heap.size := by omega
    have x0 : wr.cell? ⟨w.heap.size, 1, none⟩ = some (.slice o1 t.rules.length k1) := (hB2.cell (p := ⟨w.heap.size, 1, none⟩) (by show w.heap.size < _; omega)).trans (by go_simp)
    by_cases hlt : k < t.decls.length
    · have hlt' : (k : Int) < (t.decls.length : Int) := by omega
      obtain ⟨xe, ht⟩ : ∃ xe, t.decls[k]? = some xe := ⟨t.decls[k], List.getElem?_eq_getElem hlt⟩
      obtain ⟨b, p3, q3, p4, q4, rfl, ha, Hc, c0, c1, c2, c3, c4, c5⟩ := de_at SL hB ht
      have hal : (b.add (k * 6)).block < wr.heap.size := by rw [addBlock]; omega
      have Hst := Lib.hid (Hr.out.trans (all_drop (f := rightD) ht))
      clear ht
      have HI := Lib.hid (fun (W : World) (hb : Below wr.heap.size wr W) => checkDecl_c xe a W _ ((Hc.out.below hb).more hb.size) ((HE.out.below hB).below hb))
      go_wp2_with fail
      refine (HI.out _ ((Below.refl _ _).alloc (Nat.le_refl _) _)).mono ?_
      rintro e w1 ⟨rfl, b1⟩
      have b1' : Below wr.heap.size wr w1 := ((Below.refl _ _).alloc (Nat.le_refl _) _).trans (b1.mono (by simp))
      have hB3 := hB2.trans (b1'.mono (by omega))
      cases hs : rightD xe with
      | false =>
        have Hz2 := Lib.hid (Hst.out.trans (by rw [hs, Bool.false_and]))
        have Hq : Hid (rightP t = false) := Lib.hid (by rw [Hz.out, Hz2.out]; rfl)
        clear hs
        simp only [okV_f]
        go_wp2
        go_ret
        exact ⟨by rw [Hq.out]; rfl, hB.trans (b1'.mono hB.size)⟩
      | true =>
        have Hz2 := Lib.hid (Hst.out.trans (by rw [hs, Bool.true_and]))
        clear hs
        simp only [okV_t]
        go_wp2
        go_roundw
        case rel => exact ⟨k + 1, hlt, by go_num, Hz2.out, hB3⟩
        case measure => simp [intOf]; omega
    · have hlt' : ¬ (k : Int) < (t.decls.length : Int) := by omega
      have Hall : Hid (t.decls.all rightD = true) := Lib.hid (by rw [Hr.out, List.drop_of_length_le (by omega)]; rfl)
      clear Hr
      have Hz3 : Hid (rightP t = t.rules.all rightR) := Lib.hid (by rw [Hz.out, Hall.out]; rfl)
      go_wp2
      go_loopw [36] (fun i wr => ∃ k : Nat, k ≤ t.rules.length ∧ i = .int .i64 k ∧ t.rules.all rightR = (t.rules.drop k).all rightR ∧ Below (w.heap.size + 1) (w.alloc (.cells #[.slice o0 t.decls.length k0, .slice o1 t.rules.length k1] 51)) wr) (fun i _ => t.rules.length - (intOf i).toNat)
      case atStart => exact ⟨0, Nat.zero_le _, rfl, rfl, hB2⟩
      case round =>
        obtain ⟨k, hk, rfl, hr, hB2⟩ := hrel
        have hB : Below w.heap.size w wr := (HB0.out _).trans (hB2.mono (by omega))
        have Hr := Lib.hid hr
        clear hr
        have hBs := hB2.size
        simp only [World.size_alloc] at hBs
        have hz0 : w.heap.size < wr.heap.size := by omega
        have x0 : wr.cell? ⟨w.heap.size, 1, none⟩ = some (.slice o1 t.rules.length k1) := (hB2.cell (p := ⟨w.heap.size, 1, none⟩) (by show w.heap.size < _; omega)).trans (by go_simp)
        by_cases hlt : k < t.rules.length
        · have hlt' : (k : Int) < (t.rules.length : Int) := by omega
          obtain ⟨xe, ht⟩ : ∃ xe, t.rules[k]? = some xe := ⟨t.rules[k], List.getElem?_eq_getElem hlt⟩
          obtain ⟨b, p3, q3, p4, q4, rfl, ha, Hc, c0, c1, c2, c3⟩ := ru_at SL2 hB ht
          have hal : (b.add (k * 4)).block < wr.heap.size := by rw [addBlock]; omega
          have Hst := Lib.hid (Hr.out.trans (all_drop (f := rightR) ht))
          clear ht
          have HI := Lib.hid (fun (W : World) (hb : Below wr.heap.size wr W) => checkRule_c xe a W _ ((Hc.out.below hb).more hb.size) ((HE.out.below hB).below hb))
          go_wp2_with fail
          refine (HI.out _ ((Below.refl _ _).alloc (Nat.le_refl _) _)).mono ?_
          rintro e w1 ⟨rfl, b1⟩
          have b1' : Below wr.heap.size wr w1 := ((Below.refl _ _).alloc (Nat.le_refl _) _).trans (b1.mono (by simp))
          have hB3 := hB2.trans (b1'.mono (by omega))
          cases hs : rightR xe with
          | false =>
            have Hz2 := Lib.hid (Hst.out.trans (by rw [hs, Bool.false_and]))
            have Hq : Hid (rightP t = false) := Lib.hid (by rw [Hz3.out, Hz2.out])
            clear hs
            simp only [okV_f]
            go_wp2
            go_ret
            exact ⟨by rw [Hq.out]; rfl, hB.trans (b1'.mono hB.size)⟩
          | true =>
            have Hz2 := Lib.hid (Hst.out.trans (by rw [hs, Bool.true_and]))
            clear hs
            simp only [okV_t]
            go_wp2
            go_roundw
            case rel => exact ⟨k + 1, hlt, by go_num, Hz2.out, hB3⟩
            case measure => simp [intOf]; omega
        · have hlt' : ¬ (k : Int) < (t.rules.length : Int) := by omega
          have Hall : Hid (t.rules.all rightR = true) := Lib.hid (by rw [Hr.out, List.drop_of_length_le (by omega)]; rfl)
          have Hq : Hid (rightP t = true) := Lib.hid (by rw [Hz3.out, Hall.out])
          go_wp2
          go_ret
          exact ⟨by rw [Hq.out]; rfl, hB⟩

end Go.Proofs.YtfcfehflocglpaaDoor
namespace Go.Proofs.YtfcfehflocglpaaDoor
open Go.RowKit

theorem heldBrightRule_c {W w1 : World} (b : Below W.heap.size W.drew w1) {n g : Nat} {v0 v1 v2 v3 v4 : Value} (hn : n < W.heap.size) (hg : g < W.heap.size)
    (h : W.cell? ⟨n, 0, none⟩ = some v0 ∧ W.cell? ⟨n, 1, none⟩ = some v1 ∧ W.cell? ⟨n, 2, none⟩ = some v2 ∧ W.cell? ⟨n, 3, none⟩ = some v3 ∧ W.cell? ⟨g, 0, none⟩ = some v4) : w1.cell? ⟨n, 0, none⟩ = some v0 ∧ w1.cell? ⟨n, 1, none⟩ = some v1 ∧ w1.cell? ⟨n, 2, none⟩ = some v2 ∧ w1.cell? ⟨n, 3, none⟩ = some v3 ∧ w1.cell? ⟨g, 0, none⟩ = some v4 := by
  obtain ⟨h0, h1, h2, h3, h4⟩ := h
  exact ⟨(b.cell (p := ⟨n, 0, none⟩) hn).trans h0, (b.cell (p := ⟨n, 1, none⟩) hn).trans h1, (b.cell (p := ⟨n, 2, none⟩) hn).trans h2, (b.cell (p := ⟨n, 3, none⟩) hn).trans h3, (b.cell (p := ⟨g, 0, none⟩) hg).trans h4⟩

set_option maxRecDepth 100000 in
set_option maxHeartbeats 4000000 in
theorem rightRule_c (t : Ru) (a : Addr) (w : World) (cs : List Value) (hc : RuC w w.heap.size t cs) (E : TErr a w) :
    Calls Tryd.prog 35 #[.agg cs.toArray] w fun e w' => e = .returned (.bool (rightR t)) ∧ Below w.heap.size w w' := by
  have HC0 := fun (W : World) (hb : Below w.heap.size w W) => checkRule_c t a W cs ((hc.below hb).more hb.size) (E.below hb)
  obtain ⟨o0, k0, o1, k1, rfl, _, _, _⟩ := hc.look
  have HC := Lib.hid HC0
  have herr := E.err
  have hgs := E.size
  have HE := Lib.hid E
  clear E
  clear hc HC0
  have HB0 : Hid (∀ (x : Obj), Below w.heap.size w (w.alloc x)) := Lib.hid fun x => (Below.refl _ _).alloc (Nat.le_refl _) _
  have x0 : (w.alloc (.cells #[.string t.head.rel, .slice o0 t.head.l.length k0, .slice o1 t.body.length k1, .int .i64 t.line] 27)).cell? ⟨w.heap.size, 0, none⟩ = some (.string t.head.rel) := by go_simp
  have x1 : (w.alloc (.cells #[.string t.head.rel, .slice o0 t.head.l.length k0, .slice o1 t.body.length k1, .int .i64 t.line] 27)).cell? ⟨w.heap.size, 1, none⟩ = some (.slice o0 t.head.l.length k0) := by go_simp
  have x2 : (w.alloc (.cells #[.string t.head.rel, .slice o0 t.head.l.length k0, .slice o1 t.body.length k1, .int .i64 t.line] 27)).cell? ⟨w.heap.size, 2, none⟩ = some (.slice o1 t.body.length k1) := by go_simp
  have x3 : (w.alloc (.cells #[.string t.head.rel, .slice o0 t.head.l.length k0, .slice o1 t.body.length k1, .int .i64 t.line] 27)).cell? ⟨w.heap.size, 3, none⟩ = some (.int .i64 t.line) := by go_simp
  have xe : (w.alloc (.cells #[.string t.head.rel, .slice o0 t.head.l.length k0, .slice o1 t.body.length k1, .int .i64 t.line] 27)).cell? ⟨0, 0, none⟩ = some (.iface 193 (.pointer (some a))) := (HE.out.below (HB0.out _)).err
  have hgs2 : 0 < (w.alloc (.cells #[.string t.head.rel, .slice o0 t.head.l.length k0, .slice o1 t.body.length k1, .int .i64 t.line] 27)).heap.size := by first | (simp; omega) | simp
  cases hr : rightR t with
  | true =>
    rw [hr, okV_t] at HC
    go_enter Tryd.func35, Tryd.ntmps35
    go_wp2
    go_region_held3 (fun w' => w'.cell? ⟨w.heap.size, 0, none⟩ = some (.string t.head.rel) ∧ w'.cell? ⟨w.heap.size, 1, none⟩ = some (.slice o0 t.head.l.length k0) ∧ w'.cell? ⟨w.heap.size, 2, none⟩ = some (.slice o1 t.body.length k1) ∧ w'.cell? ⟨w.heap.size, 3, none⟩ = some (.int .i64 t.line) ∧ w'.cell? ⟨0, 0, none⟩ = some (.iface 193 (.pointer (some a)))) (first | exact ⟨x0, x1, x2, x3, xe⟩ | exact hk) (first | (go_at_call 60; refine (HC.out _ ((HB0.out _).drew)).mono ?_; rintro e w1 ⟨rfl, b1⟩; have hk := heldBrightRule_c b1 (by simp) hgs2 ⟨x0, x1, x2, x3, xe⟩) | (go_at_call 59; refine (is_nil _ _).mono ?_; rintro e w' ⟨rfl, rfl⟩))
    go_wp2
    go_ret
    exact ⟨rfl, (HB0.out _).trans (((Below.refl _ _).drew).trans (b1.mono (by simp)))⟩
  | false =>
    rw [hr, okV_f] at HC
    go_enter Tryd.func35, Tryd.ntmps35
    go_wp2
    go_region_held3 (fun w' => w'.cell? ⟨w.heap.size, 0, none⟩ = some (.string t.head.rel) ∧ w'.cell? ⟨w.heap.size, 1, none⟩ = some (.slice o0 t.head.l.length k0) ∧ w'.cell? ⟨w.heap.size, 2, none⟩ = some (.slice o1 t.body.length k1) ∧ w'.cell? ⟨w.heap.size, 3, none⟩ = some (.int .i64 t.line) ∧ w'.cell? ⟨0, 0, none⟩ = some (.iface 193 (.pointer (some a)))) (first | exact ⟨x0, x1, x2, x3, xe⟩ | exact hk) (first | (go_at_call 60; refine (HC.out _ ((HB0.out _).drew)).mono ?_; rintro e w1 ⟨rfl, b1⟩; have hk := heldBrightRule_c b1 (by simp) hgs2 ⟨x0, x1, x2, x3, xe⟩) | (go_at_call 59; refine (is_same _ _).mono ?_; rintro e w' ⟨rfl, rfl⟩))
    go_wp2
    go_ret
    exact ⟨rfl, (HB0.out _).trans (((Below.refl _ _).drew).trans (b1.mono (by simp)))⟩

theorem heldBright_c {W w1 : World} (b : Below W.heap.size W.drew w1) {n g : Nat} {v0 v1 v2 : Value} (hn : n < W.heap.size) (hg : g < W.heap.size)
    (h : W.cell? ⟨n, 0, none⟩ = some v0 ∧ W.cell? ⟨n, 1, none⟩ = some v1 ∧ W.cell? ⟨g, 0, none⟩ = some v2) : w1.cell? ⟨n, 0, none⟩ = some v0 ∧ w1.cell? ⟨n, 1, none⟩ = some v1 ∧ w1.cell? ⟨g, 0, none⟩ = some v2 := by
  obtain ⟨h0, h1, h2⟩ := h
  exact ⟨(b.cell (p := ⟨n, 0, none⟩) hn).trans h0, (b.cell (p := ⟨n, 1, none⟩) hn).trans h1, (b.cell (p := ⟨g, 0, none⟩) hg).trans h2⟩

set_option maxRecDepth 100000 in
set_option maxHeartbeats 4000000 in
theorem right_c (t : Pg) (a : Addr) (w : World) (cs : List Value) (hc : PgC w w.heap.size t cs) (E : TErr a w) :
    Calls Tryd.prog 41 #[.agg cs.toArray] w fun e w' => e = .returned (.bool (rightP t)) ∧ Below w.heap.size w w' := by
  have HC0 := fun (W : World) (hb : Below w.heap.size w W) => checkProg_c t a W cs ((hc.below hb).more hb.size) (E.below hb)
  obtain ⟨o0, k0, o1, k1, rfl, _, _⟩ := hc.look
  have HC := Lib.hid HC0
  have herr := E.err
  have hgs := E.size
  have HE := Lib.hid E
  clear E
  clear hc HC0
  have HB0 : Hid (∀ (x : Obj), Below w.heap.size w (w.alloc x)) := Lib.hid fun x => (Below.refl _ _).alloc (Nat.le_refl _) _
  have x0 : (w.alloc (.cells #[.slice o0 t.decls.length k0, .slice o1 t.rules.length k1] 51)).cell? ⟨w.heap.size, 0, none⟩ = some (.slice o0 t.decls.length k0) := by go_simp
  have x1 : (w.alloc (.cells #[.slice o0 t.decls.length k0, .slice o1 t.rules.length k1] 51)).cell? ⟨w.heap.size, 1, none⟩ = some (.slice o1 t.rules.length k1) := by go_simp
  have xe : (w.alloc (.cells #[.slice o0 t.decls.length k0, .slice o1 t.rules.length k1] 51)).cell? ⟨0, 0, none⟩ = some (.iface 193 (.pointer (some a))) := (HE.out.below (HB0.out _)).err
  have hgs2 : 0 < (w.alloc (.cells #[.slice o0 t.decls.length k0, .slice o1 t.rules.length k1] 51)).heap.size := by first | (simp; omega) | simp
  cases hr : rightP t with
  | true =>
    rw [hr, okV_t] at HC
    go_enter Tryd.func41, Tryd.ntmps41
    go_wp2
    go_region_held3 (fun w' => w'.cell? ⟨w.heap.size, 0, none⟩ = some (.slice o0 t.decls.length k0) ∧ w'.cell? ⟨w.heap.size, 1, none⟩ = some (.slice o1 t.rules.length k1) ∧ w'.cell? ⟨0, 0, none⟩ = some (.iface 193 (.pointer (some a)))) (first | exact ⟨x0, x1, xe⟩ | exact hk) (first | (go_at_call 67; refine (HC.out _ ((HB0.out _).drew)).mono ?_; rintro e w1 ⟨rfl, b1⟩; have hk := heldBright_c b1 (by simp) hgs2 ⟨x0, x1, xe⟩) | (go_at_call 59; refine (is_nil _ _).mono ?_; rintro e w' ⟨rfl, rfl⟩))
    go_wp2
    go_ret
    exact ⟨rfl, (HB0.out _).trans (((Below.refl _ _).drew).trans (b1.mono (by simp)))⟩
  | false =>
    rw [hr, okV_f] at HC
    go_enter Tryd.func41, Tryd.ntmps41
    go_wp2
    go_region_held3 (fun w' => w'.cell? ⟨w.heap.size, 0, none⟩ = some (.slice o0 t.decls.length k0) ∧ w'.cell? ⟨w.heap.size, 1, none⟩ = some (.slice o1 t.rules.length k1) ∧ w'.cell? ⟨0, 0, none⟩ = some (.iface 193 (.pointer (some a)))) (first | exact ⟨x0, x1, xe⟩ | exact hk) (first | (go_at_call 67; refine (HC.out _ ((HB0.out _).drew)).mono ?_; rintro e w1 ⟨rfl, b1⟩; have hk := heldBright_c b1 (by simp) hgs2 ⟨x0, x1, xe⟩) | (go_at_call 59; refine (is_same _ _).mono ?_; rintro e w' ⟨rfl, rfl⟩))
    go_wp2
    go_ret
    exact ⟨rfl, (HB0.out _).trans (((Below.refl _ _).drew).trans (b1.mono (by simp)))⟩

end Go.Proofs.YtfcfehflocglpaaDoor
namespace Go.Proofs.YtfcfehflocglpaaDoor

def nm (t : Tm) : List UInt8 := t.s.data.toList
abbrev Kn := List (List UInt8 × Int)
def look : Kn → List UInt8 → Int
  | [], _ => 0
  | (s, k) :: K, n => if s = n then k else look K n
/-- The type of a term that is no variable; 0: it has none of its own. -/
def tyC (t : Tm) : Int := if t.op = 2 ∨ t.op = 5 ∨ t.op = 6 ∨ t.op = 7 then 1 else if t.op = 3 then 2 else 0
def ofK (K : Kn) (t : Tm) : Int := if t.op = 1 then look K (nm t) else tyC t
def learn1 (K : Kn) (t : Tm) (k : Int) : Option Kn :=
  if ofK K t = k then some K else if ofK K t ≠ 0 then none else if t.op = 1 then some (K ++ [(nm t, k)]) else some K
def learnL : Kn → List (Tm × Int) → Option Kn
  | K, [] => some K
  | K, (t, k) :: l => match learn1 K t k with
    | none => none
    | some K' => learnL K' l
def alike1 (K : Kn) (x y : Tm) : Option Kn :=
  if ofK K y = 0 then (if ofK K x ≠ 0 then learn1 K y (ofK K x) else some K) else learn1 K x (ofK K y)
def alikeL : Kn → List (Tm × Tm) → Option Kn
  | K, [] => some K
  | K, (x, y) :: l => match alike1 K x y with
    | none => none
    | some K' => alikeL K' l

/-! ### What can be drawn -/
inductive Der (base : List (Tm × Int)) (prs : List (Tm × Tm)) : List UInt8 → Int → Prop
  | base {t : Tm} {k : Int} : (t, k) ∈ base → t.op = 1 → Der base prs (nm t) k
  | lc {x y : Tm} {k : Int} : (x, y) ∈ prs → x.op = 1 → y.op ≠ 1 → tyC y = k → k ≠ 0 → Der base prs (nm x) k
  | lv {x y : Tm} {k : Int} : (x, y) ∈ prs → x.op = 1 → y.op = 1 → Der base prs (nm y) k → Der base prs (nm x) k
  | rc {x y : Tm} {k : Int} : (x, y) ∈ prs → y.op = 1 → x.op ≠ 1 → tyC x = k → k ≠ 0 → Der base prs (nm y) k
  | rv {x y : Tm} {k : Int} : (x, y) ∈ prs → y.op = 1 → x.op = 1 → Der base prs (nm x) k → Der base prs (nm y) k
structure NoConf (base : List (Tm × Int)) (prs : List (Tm × Tm)) : Prop where
  one : ∀ s k k', Der base prs s k → Der base prs s k' → k = k'
  con : ∀ t k, (t, k) ∈ base → t.op ≠ 1 → tyC t = 0 ∨ tyC t = k
  two : ∀ x y, (x, y) ∈ prs → x.op ≠ 1 → y.op ≠ 1 → tyC x = 0 ∨ tyC y = 0 ∨ tyC x = tyC y
/-- The order is nothing. -/
theorem Der.sub {b b' : List (Tm × Int)} {p p' : List (Tm × Tm)} (hb : ∀ x ∈ b, x ∈ b') (hp : ∀ x ∈ p, x ∈ p') {s : List UInt8} {k : Int} (h : Der b p s k) : Der b' p' s k := by
  induction h with
  | base h1 h2 => exact .base (hb _ h1) h2
  | lc h1 h2 h3 h4 h5 => exact .lc (hp _ h1) h2 h3 h4 h5
  | lv h1 h2 h3 _ ih => exact .lv (hp _ h1) h2 h3 ih
  | rc h1 h2 h3 h4 h5 => exact .rc (hp _ h1) h2 h3 h4 h5
  | rv h1 h2 h3 _ ih => exact .rv (hp _ h1) h2 h3 ih
theorem NoConf.sub {b b' : List (Tm × Int)} {p p' : List (Tm × Tm)} (hb : ∀ x ∈ b, x ∈ b') (hp : ∀ x ∈ p, x ∈ p') (h : NoConf b' p') : NoConf b p :=
  ⟨fun s k k' h1 h2 => h.one s k k' (h1.sub hb hp) (h2.sub hb hp), fun t k h1 h2 => h.con t k (hb _ h1) h2, fun x y h1 h2 h3 => h.two x y (hp _ h1) h2 h3⟩

/-! ### What is known -/
/-- What is known is sound, and bears no type 0. -/
def Sound (base : List (Tm × Int)) (prs : List (Tm × Tm)) (K : Kn) : Prop := ∀ s, look K s ≠ 0 → Der base prs s (look K s)
theorem look_snoc {K : Kn} {s n : List UInt8} {k : Int} (h : look K s = 0) (h0 : ∀ x ∈ K, x.2 ≠ 0) : look (K ++ [(s, k)]) n = if n = s then k else look K n := by
  induction K with
  | nil =>
    show (if s = n then k else 0) = _
    by_cases e : n = s
    · rw [if_pos e, if_pos e.symm]
    · rw [if_neg e, if_neg (Ne.symm e)]; rfl
  | cons x K ih =>
    obtain ⟨a, b⟩ := x
    have hb : b ≠ 0 := h0 (a, b) (List.mem_cons_self ..)
    have ha : a ≠ s := by
      rintro rfl
      exact hb (by simpa [look] using h)
    have hK : look K s = 0 := by simpa [look, ha] using h
    have ih := ih hK (fun x hx => h0 x (List.mem_cons_of_mem _ hx))
    show (if a = n then b else look (K ++ [(s, k)]) n) = _
    rw [ih]
    by_cases e : n = s
    · subst e
      rw [if_neg ha]
      simp
    · rw [if_neg e, if_neg e]
      rfl
/-- A state of what is known. -/
structure KnOk (K : Kn) : Prop where
  pos : ∀ x ∈ K, x.2 ≠ 0
  nod : (K.map (·.1)).Nodup
theorem look_mem {K : Kn} (h : KnOk K) {s : List UInt8} : look K s ≠ 0 ↔ s ∈ K.map (·.1) := by
  have hp := h.pos
  clear h
  induction K with
  | nil => simp [look]
  | cons x K ih =>
    obtain ⟨a, b⟩ := x
    have hb : b ≠ 0 := hp (a, b) (List.mem_cons_self ..)
    have ih := ih (fun x hx => hp x (List.mem_cons_of_mem _ hx))
    by_cases e : a = s
    · subst e; simp [look, hb]
    · have : look ((a, b) :: K) s = look K s := by simp [look, e]
      rw [this]
      refine ih.trans ?_
      simp [Ne.symm e]
/-- What comes of one more. -/
theorem KnOk.snoc {K : Kn} (h : KnOk K) {s : List UInt8} {k : Int} (hs : look K s = 0) (hk : k ≠ 0) : KnOk (K ++ [(s, k)]) := by
  refine ⟨fun x hx => ?_, ?_⟩
  · rcases List.mem_append.1 hx with hx | hx
    · exact h.pos x hx
    · simp at hx; subst hx; exact hk
  · have hn : s ∉ K.map (·.1) := fun hm => (look_mem h).2 hm hs
    rw [List.map_append]
    refine List.nodup_append.2 ⟨h.nod, by simp, ?_⟩
    rintro a ha b hb rfl
    simp at hb
    subst hb
    exact hn ha
theorem learn_cases {K K' : Kn} {t : Tm} {k : Int} (h : learn1 K t k = some K') : (ofK K t = k ∧ K' = K) ∨ (ofK K t = 0 ∧ t.op ≠ 1 ∧ K' = K) ∨ (t.op = 1 ∧ look K (nm t) = 0 ∧ k ≠ 0 ∧ K' = K ++ [(nm t, k)]) := by
  unfold learn1 at h
  by_cases h1 : ofK K t = k
  · rw [if_pos h1] at h; cases h; exact .inl ⟨h1, rfl⟩
  · rw [if_neg h1] at h
    by_cases h2 : ofK K t ≠ 0
    · rw [if_pos h2] at h; cases h
    · rw [if_neg h2] at h
      have h2 : ofK K t = 0 := Decidable.not_not.1 h2
      by_cases h3 : t.op = 1
      · rw [if_pos h3] at h; cases h
        refine .inr (.inr ⟨h3, ?_, ?_, rfl⟩)
        · unfold ofK at h2; rw [if_pos h3] at h2; exact h2
        · rintro rfl; exact h1 h2
      · rw [if_neg h3] at h; cases h
        exact .inr (.inl ⟨h2, h3, rfl⟩)
/-- K' knows all that K knows. -/
def KLe (K K' : Kn) : Prop := ∀ s, look K s ≠ 0 → look K' s = look K s
theorem KLe.refl (K : Kn) : KLe K K := fun _ _ => rfl
theorem KLe.trans {A B C : Kn} (h : KLe A B) (k : KLe B C) : KLe A C := fun s hs => (k s (by rw [h s hs]; exact hs)).trans (h s hs)
theorem KLe.of {K K' : Kn} (h : KLe K K') {t : Tm} (ht : ofK K t ≠ 0) : ofK K' t = ofK K t := by
  unfold ofK at ht ⊢
  by_cases h1 : t.op = 1
  · rw [if_pos h1] at ht ⊢; rw [if_pos h1]; exact h _ ht
  · rw [if_neg h1, if_neg h1]
structure Step (base : List (Tm × Int)) (prs : List (Tm × Tm)) (K K' : Kn) : Prop where
  ok : KnOk K'
  le : KLe K K'
  snd : Sound base prs K'
  len : K.length ≤ K'.length
  same : K'.length = K.length → K' = K
theorem Step.trans {b : List (Tm × Int)} {p : List (Tm × Tm)} {A B C : Kn} (h : Step b p A B) (k : Step b p B C) : Step b p A C :=
  ⟨k.ok, h.le.trans k.le, k.snd, Nat.le_trans h.len k.len, fun e => by
    have h1 := h.len
    have h2 := k.len
    have e1 := k.same (by omega)
    subst e1
    exact h.same (by omega)⟩
theorem learn_step {b : List (Tm × Int)} {p : List (Tm × Tm)} {K K' : Kn} {t : Tm} {k : Int} (hK : KnOk K) (hs : Sound b p K) (h : learn1 K t k = some K') (hd : t.op = 1 → k ≠ 0 → Der b p (nm t) k) : Step b p K K' ∧ (ofK K' t = k ∨ (t.op ≠ 1 ∧ tyC t = 0)) := by
  rcases learn_cases h with ⟨h1, rfl⟩ | ⟨h1, h2, rfl⟩ | ⟨h1, h2, h3, rfl⟩
  · exact ⟨⟨hK, .refl _, hs, Nat.le_refl _, fun _ => rfl⟩, .inl h1⟩
  · refine ⟨⟨hK, .refl _, hs, Nat.le_refl _, fun _ => rfl⟩, .inr ⟨h2, ?_⟩⟩
    unfold ofK at h1; rw [if_neg h2] at h1; exact h1
  · have hl : ∀ n, look (K ++ [(nm t, k)]) n = if n = nm t then k else look K n := fun n => look_snoc h2 hK.pos
    refine ⟨⟨hK.snoc h2 h3, fun s hs => ?_, fun s hs' => ?_, by simp, fun e => by simp at e⟩, .inl ?_⟩
    · rw [hl, if_neg (by rintro rfl; exact hs h2)]
    · rw [hl] at hs' ⊢
      by_cases e : s = nm t
      · rw [if_pos e] at hs' ⊢; subst e; exact hd h1 h3
      · rw [if_neg e] at hs' ⊢; exact hs s hs'
    · unfold ofK; rw [if_pos h1, hl, if_pos rfl]
theorem learnL_step {b : List (Tm × Int)} {p : List (Tm × Tm)} : ∀ {l : List (Tm × Int)} {K K' : Kn}, KnOk K → Sound b p K → learnL K l = some K' → (∀ x ∈ l, x ∈ b) → Step b p K K' ∧ ∀ x ∈ l, ofK K' x.1 = x.2 ∨ x.2 = 0 ∨ (x.1.op ≠ 1 ∧ tyC x.1 = 0)
  | [], K, K', hK, hs, h, _ => by cases h; exact ⟨⟨hK, .refl _, hs, Nat.le_refl _, fun _ => rfl⟩, fun x hx => by cases hx⟩
  | (t, k) :: l, K, K', hK, hs, h, hb => by
    unfold learnL at h
    cases h1 : learn1 K t k with
    | none => rw [h1] at h; cases h
    | some K1 =>
      rw [h1] at h
      obtain ⟨s1, e1⟩ := learn_step hK hs h1 (fun hv _ => .base (hb _ (List.mem_cons_self ..)) hv)
      obtain ⟨s2, e2⟩ := learnL_step s1.ok s1.snd h (fun x hx => hb x (List.mem_cons_of_mem _ hx))
      refine ⟨s1.trans s2, fun x hx => ?_⟩
      rcases List.mem_cons.1 hx with rfl | hx
      · rcases e1 with e1 | e1
        · by_cases hk : k = 0
          · exact .inr (.inl hk)
          · exact .inl ((s2.le.of (by rw [e1]; exact hk)).trans e1)
        · exact .inr (.inr e1)
      · exact e2 x hx
/-- A term has a type that can be drawn. -/
def HasT (b : List (Tm × Int)) (p : List (Tm × Tm)) (t : Tm) (k : Int) : Prop := k ≠ 0 ∧ ((t.op = 1 ∧ Der b p (nm t) k) ∨ (t.op ≠ 1 ∧ tyC t = k))
theorem Sound.has {b : List (Tm × Int)} {p : List (Tm × Tm)} {K : Kn} (h : Sound b p K) {t : Tm} (ht : ofK K t ≠ 0) : HasT b p t (ofK K t) := by
  refine ⟨ht, ?_⟩
  unfold ofK at ht ⊢
  by_cases h1 : t.op = 1
  · rw [if_pos h1] at ht ⊢; exact .inl ⟨h1, h _ ht⟩
  · rw [if_neg h1]; exact .inr ⟨h1, rfl⟩
theorem alike_step {b : List (Tm × Int)} {p : List (Tm × Tm)} {K K' : Kn} {x y : Tm} (hK : KnOk K) (hs : Sound b p K) (h : alike1 K x y = some K') (hp : (x, y) ∈ p) : Step b p K K' := by
  have self : Step b p K K := ⟨hK, .refl _, hs, Nat.le_refl _, fun _ => rfl⟩
  unfold alike1 at h
  by_cases h1 : ofK K y = 0
  · rw [if_pos h1] at h
    by_cases h2 : ofK K x ≠ 0
    · rw [if_pos h2] at h
      refine (learn_step hK hs h fun hv _ => ?_).1
      obtain ⟨h3, ⟨h4, h5⟩ | ⟨h4, h5⟩⟩ := hs.has h2
      · exact .rv hp hv h4 h5
      · exact .rc hp hv h4 h5 h3
    · rw [if_neg h2] at h; cases h; exact self
  · rw [if_neg h1] at h
    refine (learn_step hK hs h fun hv _ => ?_).1
    obtain ⟨h3, ⟨h4, h5⟩ | ⟨h4, h5⟩⟩ := hs.has h1
    · exact .lv hp hv h4 h5
    · exact .lc hp hv h4 h5 h3
theorem alikeL_step {b : List (Tm × Int)} {p : List (Tm × Tm)} : ∀ {l : List (Tm × Tm)} {K K' : Kn}, KnOk K → Sound b p K → alikeL K l = some K' → (∀ x ∈ l, x ∈ p) → Step b p K K'
  | [], K, K', hK, hs, h, _ => by cases h; exact ⟨hK, .refl _, hs, Nat.le_refl _, fun _ => rfl⟩
  | (x, y) :: l, K, K', hK, hs, h, hp => by
    unfold alikeL at h
    cases h1 : alike1 K x y with
    | none => rw [h1] at h; cases h
    | some K1 =>
      rw [h1] at h
      have s1 := alike_step hK hs h1 (hp _ (List.mem_cons_self ..))
      exact s1.trans (alikeL_step s1.ok s1.snd h (fun z hz => hp z (List.mem_cons_of_mem _ hz)))
/-- A round that learns nothing finds all pairs alike. -/
theorem alike_still {K : Kn} {x y : Tm} (h : alike1 K x y = some K) : ofK K x = ofK K y ∨ (ofK K x = 0 ∧ x.op ≠ 1) ∨ (ofK K y = 0 ∧ y.op ≠ 1) := by
  have no : ∀ {t : Tm} {k : Int}, learn1 K t k = some K → ofK K t = k ∨ (ofK K t = 0 ∧ t.op ≠ 1) := by
    intro t k h
    rcases learn_cases h with ⟨h1, _⟩ | ⟨h1, h2, _⟩ | ⟨_, _, _, h4⟩
    · exact .inl h1
    · exact .inr ⟨h1, h2⟩
    · have := congrArg List.length h4; simp at this
  unfold alike1 at h
  by_cases h1 : ofK K y = 0
  · rw [if_pos h1] at h
    by_cases h2 : ofK K x ≠ 0
    · rw [if_pos h2] at h
      rcases no h with h | h
      · exact .inl h.symm
      · exact .inr (.inr h)
    · exact .inl ((Decidable.not_not.1 h2).trans h1.symm)
  · rw [if_neg h1] at h
    rcases no h with h | h
    · exact .inl h
    · exact .inr (.inl h)
theorem alikeL_still {b : List (Tm × Int)} {p : List (Tm × Tm)} : ∀ {l : List (Tm × Tm)} {K : Kn}, KnOk K → Sound b p K → alikeL K l = some K → (∀ x ∈ l, x ∈ p) → ∀ x ∈ l, alike1 K x.1 x.2 = some K
  | [], _, _, _, _, _, x, hx => by cases hx
  | (x, y) :: l, K, hK, hs, h, hp, z, hz => by
    unfold alikeL at h
    cases h1 : alike1 K x y with
    | none => rw [h1] at h; cases h
    | some K1 =>
      rw [h1] at h
      have s1 := alike_step hK hs h1 (hp _ (List.mem_cons_self ..))
      have s2 := alikeL_step s1.ok s1.snd h (fun z hz => hp z (List.mem_cons_of_mem _ hz))
      have e1 : K1 = K := s1.same (by have := s1.len; have := s2.len; omega)
      subst e1
      rcases List.mem_cons.1 hz with rfl | hz
      · exact h1
      · exact alikeL_still hK hs h (fun z hz => hp z (List.mem_cons_of_mem _ hz)) z hz
/-- What is known in the end is what can be drawn. -/
theorem known_all {b : List (Tm × Int)} {p : List (Tm × Tm)} {K : Kn} (hb : ∀ x ∈ b, ofK K x.1 = x.2 ∨ x.2 = 0 ∨ (x.1.op ≠ 1 ∧ tyC x.1 = 0)) (h0 : ∀ x ∈ b, x.2 ≠ 0) (hp : ∀ x ∈ p, alike1 K x.1 x.2 = some K) {s : List UInt8} {k : Int} (h : Der b p s k) : look K s = k ∧ k ≠ 0 := by
  have ofv : ∀ {t : Tm}, t.op = 1 → ofK K t = look K (nm t) := fun h => by unfold ofK; rw [if_pos h]
  have ofc : ∀ {t : Tm}, t.op ≠ 1 → ofK K t = tyC t := fun h => by unfold ofK; rw [if_neg h]
  induction h with
  | @base t k h1 h2 =>
    rcases hb _ h1 with h | h | h
    · rw [ofv h2] at h; exact ⟨h, h0 _ h1⟩
    · exact absurd h (h0 _ h1)
    · exact absurd h2 h.1
  | @lc x y k h1 h2 h3 h4 h5 =>
    rcases alike_still (hp _ h1) with h | h | h
    · rw [ofv h2, ofc h3] at h; exact ⟨h.trans h4, h5⟩
    · exact absurd h2 h.2
    · rw [ofc h3, h4] at h; exact absurd h.1 h5
  | @lv x y k h1 h2 h3 _ ih =>
    rcases alike_still (hp _ h1) with h | h | h
    · rw [ofv h2, ofv h3] at h; exact ⟨h.trans ih.1, ih.2⟩
    · exact absurd h2 h.2
    · exact absurd h3 h.2
  | @rc x y k h1 h2 h3 h4 h5 =>
    rcases alike_still (hp _ h1) with h | h | h
    · rw [ofv h2, ofc h3] at h; exact ⟨h.symm.trans h4, h5⟩
    · rw [ofc h3, h4] at h; exact absurd h.1 h5
    · exact absurd h2 h.2
  | @rv x y k h1 h2 h3 _ ih =>
    rcases alike_still (hp _ h1) with h | h | h
    · rw [ofv h2, ofv h3] at h; exact ⟨h.symm.trans ih.1, ih.2⟩
    · exact absurd h3 h.2
    · exact absurd h2 h.2
/-- What is refused cannot be had. -/
theorem learn_none {b : List (Tm × Int)} {p : List (Tm × Tm)} {K : Kn} {t : Tm} {k : Int} (_ : Sound b p K) (h : learn1 K t k = none) : ofK K t ≠ 0 ∧ ofK K t ≠ k := by
  unfold learn1 at h
  by_cases h1 : ofK K t = k
  · rw [if_pos h1] at h; cases h
  · rw [if_neg h1] at h
    by_cases h2 : ofK K t ≠ 0
    · exact ⟨h2, h1⟩
    · rw [if_neg h2] at h
      by_cases h3 : t.op = 1
      · rw [if_pos h3] at h; cases h
      · rw [if_neg h3] at h; cases h
theorem learnL_none {b : List (Tm × Int)} {p : List (Tm × Tm)} (hn : NoConf b p) (h0 : ∀ x ∈ b, x.2 ≠ 0) : ∀ {l : List (Tm × Int)} {K : Kn}, KnOk K → Sound b p K → (∀ x ∈ l, x ∈ b) → ∃ K', learnL K l = some K'
  | [], K, _, _, _ => ⟨K, rfl⟩
  | (t, k) :: l, K, hK, hs, hb => by
    have hm := hb _ (List.mem_cons_self ..)
    cases h1 : learn1 K t k with
    | none =>
      obtain ⟨h2, h3⟩ := learn_none hs h1
      obtain ⟨_, ⟨h4, h5⟩ | ⟨h4, h5⟩⟩ := hs.has h2
      · exact absurd (hn.one _ _ _ h5 (.base hm h4)) h3
      · rcases hn.con t k hm h4 with h | h
        · rw [h] at h5; exact absurd h5.symm h2
        · rw [h] at h5; exact absurd h5.symm h3
    | some K1 =>
      obtain ⟨s1, _⟩ := learn_step hK hs h1 (fun hv _ => .base hm hv)
      obtain ⟨K', h⟩ := learnL_none hn h0 s1.ok s1.snd (fun x hx => hb x (List.mem_cons_of_mem _ hx))
      exact ⟨K', by unfold learnL; rw [h1]; exact h⟩
theorem alikeL_none {b : List (Tm × Int)} {p : List (Tm × Tm)} (hn : NoConf b p) : ∀ {l : List (Tm × Tm)} {K : Kn}, KnOk K → Sound b p K → (∀ x ∈ l, x ∈ p) → ∃ K', alikeL K l = some K'
  | [], K, _, _, _ => ⟨K, rfl⟩
  | (x, y) :: l, K, hK, hs, hp => by
    have hm := hp _ (List.mem_cons_self ..)
    have good : ∃ K1, alike1 K x y = some K1 := by
      unfold alike1
      by_cases h1 : ofK K y = 0
      · rw [if_pos h1]
        by_cases h2 : ofK K x ≠ 0
        · rw [if_pos h2]
          cases h3 : learn1 K y (ofK K x) with
          | some K1 => exact ⟨K1, rfl⟩
          | none => exact absurd h1 (learn_none hs h3).1
        · rw [if_neg h2]; exact ⟨K, rfl⟩
      · rw [if_neg h1]
        cases h3 : learn1 K x (ofK K y) with
        | some K1 => exact ⟨K1, rfl⟩
        | none =>
          obtain ⟨h4, h5⟩ := learn_none hs h3
          obtain ⟨g1, ⟨g2, g3⟩ | ⟨g2, g3⟩⟩ := hs.has h1
          · obtain ⟨_, ⟨f2, f3⟩ | ⟨f2, f3⟩⟩ := hs.has h4
            · exact absurd (hn.one _ _ _ f3 (.lv hm f2 g2 g3)) h5
            · exact absurd (hn.one _ _ _ (.rc hm g2 f2 f3 h4) g3) h5
          · obtain ⟨_, ⟨f2, f3⟩ | ⟨f2, f3⟩⟩ := hs.has h4
            · exact absurd (hn.one _ _ _ f3 (.lc hm f2 g2 g3 g1)) h5
            · rcases hn.two x y hm f2 g2 with h | h | h
              · rw [h] at f3; exact absurd f3.symm h4
              · rw [h] at g3; exact absurd g3.symm g1
              · rw [f3, g3] at h; exact absurd h h5
    obtain ⟨K1, h1⟩ := good
    have s1 := alike_step hK hs h1 hm
    obtain ⟨K', h⟩ := alikeL_none hn s1.ok s1.snd (fun z hz => hp z (List.mem_cons_of_mem _ hz))
    exact ⟨K', by unfold alikeL; rw [h1]; exact h⟩
/-- Rounds, till nothing more is learned. -/
inductive Rounds (p : List (Tm × Tm)) : Kn → Option Kn → Prop
  | bad {K : Kn} : alikeL K p = none → Rounds p K none
  | still {K K' : Kn} : alikeL K p = some K' → K'.length = K.length → Rounds p K (some K')
  | more {K K' : Kn} {r : Option Kn} : alikeL K p = some K' → K.length < K'.length → Rounds p K' r → Rounds p K r
theorem rounds_some {b : List (Tm × Int)} {p : List (Tm × Tm)} {K : Kn} {r : Option Kn} (h : Rounds p K r) (hK : KnOk K) (hs : Sound b p K) : (∀ K', r = some K' → Step b p K K' ∧ ∀ x ∈ p, alike1 K' x.1 x.2 = some K') ∧ (r = none → ¬ NoConf b p) := by
  induction h with
  | bad h1 =>
    refine ⟨fun _ h => (by cases h), fun _ hn => ?_⟩
    obtain ⟨K', h⟩ := alikeL_none hn hK hs (fun _ h => h)
    rw [h1] at h; cases h
  | still h1 h2 =>
    refine ⟨fun K2 h => ?_, fun h => by cases h⟩
    cases h
    have s1 := alikeL_step hK hs h1 (fun _ h => h)
    have e := s1.same h2
    subst e
    exact ⟨s1, alikeL_still hK hs h1 (fun _ h => h)⟩
  | more h1 h2 _ ih =>
    have s1 := alikeL_step hK hs h1 (fun _ h => h)
    obtain ⟨i1, i2⟩ := ih s1.ok s1.snd
    exact ⟨fun K2 h => ⟨s1.trans (i1 K2 h).1, (i1 K2 h).2⟩, i2⟩
/-- THE WHOLE: what is learned from places, and from each other. -/
theorem types_all {b : List (Tm × Int)} {p : List (Tm × Tm)} (h0 : ∀ x ∈ b, x.2 ≠ 0) : (learnL [] b = none → ¬ NoConf b p) ∧ ∀ K r, learnL [] b = some K → Rounds p K r → (r = none → ¬ NoConf b p) ∧ ∀ K', r = some K' → NoConf b p ∧ (∀ s k, k ≠ 0 → (look K' s = k ↔ Der b p s k)) ∧ KnOk K' := by
  have hK0 : KnOk [] := ⟨fun _ h => (by cases h), List.nodup_nil⟩
  have hs0 : Sound b p [] := fun s h => absurd rfl h
  refine ⟨fun h hn => ?_, fun K r h1 h2 => ?_⟩
  · obtain ⟨K', h'⟩ := learnL_none hn h0 hK0 hs0 (fun _ h => h)
    rw [h] at h'; cases h'
  · obtain ⟨s1, e1⟩ := learnL_step hK0 hs0 h1 (fun _ h => h)
    obtain ⟨i1, i2⟩ := rounds_some h2 s1.ok s1.snd
    refine ⟨i2, fun K' h => ?_⟩
    obtain ⟨s2, e2⟩ := i1 K' h
    have hb : ∀ x ∈ b, ofK K' x.1 = x.2 ∨ x.2 = 0 ∨ (x.1.op ≠ 1 ∧ tyC x.1 = 0) := by
      intro x hx
      rcases e1 x hx with h | h
      · exact .inl ((s2.le.of (by rw [h]; exact h0 x hx)).trans h)
      · exact .inr h
    have key := fun {s : List UInt8} {k : Int} (h : Der b p s k) => known_all hb h0 e2 h
    refine ⟨⟨fun s k k' d1 d2 => (key d1).1.symm.trans (key d2).1, fun t k hm hv => ?_, fun x y hm hx hy => ?_⟩, fun s k hk => ⟨fun e => by subst e; exact s2.snd s hk, fun d => (key d).1⟩, s2.ok⟩
    · rcases hb _ hm with h | h | h
      · unfold ofK at h; rw [if_neg hv] at h; exact .inr h
      · exact absurd h (h0 _ hm)
      · exact .inl h.2
    · have ofc : ∀ {t : Tm}, t.op ≠ 1 → ofK K' t = tyC t := fun h => by unfold ofK; rw [if_neg h]
      rcases alike_still (e2 _ hm) with h | h | h
      · rw [ofc hx, ofc hy] at h; exact .inr (.inr h)
      · rw [ofc hx] at h; exact .inl h.1
      · rw [ofc hy] at h; exact .inr (.inl h.1)
end Go.Proofs.YtfcfehflocglpaaDoor
