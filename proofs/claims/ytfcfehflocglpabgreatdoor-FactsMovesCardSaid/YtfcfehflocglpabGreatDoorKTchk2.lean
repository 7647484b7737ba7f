/- dtree.checkRule, checkDecl, checkProg, Right, RightRule. dtree.Right, RightRule. text.Unquote answers the symbol that a text says, in every world that holds the listed variables, for every text of at most 2^30 bytes. What the plain functions behind text.Unquote make of quoted bytes, and back: facts of lists alone. -/
import Derived.Test.YtfcfehflocglpabGreatDoorKTlit
import Derived.Deep.RegionHeld3
import Derived.Test.YtfcfehflocglpabGreatDoorKBytes
import Derived.WalkMore
set_option linter.unusedSimpArgs false
set_option linter.unusedVariables false
namespace Go.Proofs.YtfcfehflocglpabGreatDoor
open Go.RowKit

set_option maxRecDepth 100000 in
set_option maxHeartbeats 4000000 in
theorem checkRule_c (t : Ru) (a : Addr) (w : World) (cs : List Value) (hc : RuC w w.heap.size t cs) (E : TErr a w) :
    Calls Tryz.prog 77 #[.agg cs.toArray] w fun e w' => e = .returned (okV a (rightR t)) ∧ Below w.heap.size w w' := by
  obtain ⟨o0, k0, o1, k1, rfl, _, H1, H2⟩ := hc.look
  have HH := Lib.hid (fun (W : World) (hb : Below w.heap.size w W) => checkHead_c t.head t.body.isEmpty a W _ ((H1.below hb).more hb.size) (E.below hb))
  obtain ⟨o2, cap2, e2, hc2, hm2, SL⟩ := SlOf.open H2
  cases e2
  have herr := E.err
  have hgs := E.size
  have HE := Lib.hid E
  clear E
  clear hc H1 H2
  have HB0 : Hid (∀ (x : Obj), Below w.heap.size w (w.alloc x)) := Lib.hid fun x => (Below.refl _ _).alloc (Nat.le_refl _) _
  have hie : ((t.body.length : Int) == 0) = t.body.isEmpty := by cases t.body <;> simp <;> omega
  by_cases hbig : 20 < t.body.length
  · have hbig' : (20 : Int) < (t.body.length : Int) := by omega
    have Hq : Hid (rightR t = false) := Lib.hid (by unfold rightR; rw [decide_eq_false (show ¬ t.body.length ≤ 20 by omega)]; simp)
    clear hie
    go_enter Tryz.func77, Tryz.ntmps77
    go_wp2
    go_ret
    exact ⟨by rw [Hq.out]; rfl, HB0.out _⟩
  have hbig' : ¬ (20 : Int) < (t.body.length : Int) := by omega
  have Hz0 : Hid (rightR t = ((t.head.l.all (headT t.body.isEmpty) && rightA t.head) && t.body.all rightL)) := Lib.hid (by
    unfold rightR
    rw [decide_eq_true (show t.body.length ≤ 20 by omega)]
    cases rightA t.head <;> cases t.head.l.all (headT t.body.isEmpty) <;> rfl)
  go_enter Tryz.func77, Tryz.ntmps77
  go_wp2_with fail
  refine (HH.out _ (HB0.out _)).mono ?_
  rintro e w1 ⟨rfl, b1⟩
  have B1 : Below (w.heap.size + 1) (w.alloc (.cells #[.string t.head.rel, .slice o0 t.head.l.length k0, .slice o1 t.body.length k1, .int .i64 t.line] 61)) w1 := b1.mono (by simp)
  obtain ⟨hc1, hf1⟩ := boxk w.heap.size b1 (by simp)
  cases hh : (t.head.l.all (headT t.body.isEmpty) && rightA t.head) with
  | false =>
    have Hq : Hid (rightR t = false) := Lib.hid (by rw [Hz0.out, hh]; rfl)
    clear hh hie
    simp only [okV_f]
    go_wp2
    go_ret
    exact ⟨by rw [Hq.out]; rfl, (HB0.out _).trans (B1.mono (by omega))⟩
  | true =>
  have Hz : Hid (rightR t = t.body.all rightL) := Lib.hid (by rw [Hz0.out, hh]; rfl)
  clear hh hie
  simp only [okV_t]
  go_wp2
  go_loopw [25] (fun i wr => ∃ k : Nat, k ≤ t.body.length ∧ i = .int .i64 k ∧ t.body.all rightL = (t.body.drop k).all rightL ∧ Below (w.heap.size + 1) (w.alloc (.cells #[.string t.head.rel, .slice o0 t.head.l.length k0, .slice o1 t.body.length k1, .int .i64 t.line] 61)) wr) (fun i _ => t.body.length - (intOf i).toNat)
  case atStart => exact ⟨0, Nat.zero_le _, rfl, rfl, B1⟩
  case round =>
    obtain ⟨k, hk, rfl, hr, hB2⟩ := hrel
    have hB : Below w.heap.size w wr := (HB0.out _).trans (hB2.mono (by omega))
    have Hr := Lib.hid hr
    clear hr
    have hBs := hB2.size
    simp only [World.size_alloc] at hBs
    have hz0 : w.heap.size < wr.heap.size := by omega

    by_cases hlt : k < t.body.length
    · have hlt' : (k : Int) < (t.body.length : Int) := by omega
      obtain ⟨xe, ht⟩ : ∃ xe, t.body[k]? = some xe := ⟨t.body[k], List.getElem?_eq_getElem hlt⟩
      obtain ⟨b, p3, q3, p4, q4, p5, q5, rfl, ha, Hc, c0, c1, c2, c3, c4, c5, c6, c7, c8, c9, c10⟩ := lt_at SL hB ht
      have hal : (b.add (k * 11)).block < wr.heap.size := by rw [addBlock]; omega
      have Hst := Lib.hid (Hr.out.trans (all_drop (f := rightL) ht))
      clear ht
      have HI := Lib.hid (fun (W : World) (hb : Below wr.heap.size wr W) => checkLit_c xe a W _ ((Hc.out.below hb).more hb.size) ((HE.out.below hB).below hb))
      go_wp2_with fail
      refine (HI.out _ ((Below.refl _ _).alloc (Nat.le_refl _) _)).mono ?_
      rintro e w1 ⟨rfl, b1⟩
      have b1' : Below wr.heap.size wr w1 := ((Below.refl _ _).alloc (Nat.le_refl _) _).trans (b1.mono (by simp))
      have hB3 := hB2.trans (b1'.mono (by omega))
      cases hs : rightL xe with
      | false =>
        have Hz2 := Lib.hid (Hst.out.trans (by rw [hs, Bool.false_and]))
        have Hq : Hid (rightR t = false) := Lib.hid (by rw [Hz.out, Hz2.out])
        clear hs
        simp only [okV_f]
        go_wp2
        go_ret
        exact ⟨by rw [Hq.out]; rfl, hB.trans (b1'.mono hB.size)⟩
      | true =>
        have Hz2 := Lib.hid (Hst.out.trans (by rw [hs, Bool.true_and]))
        clear hs
        simp only [okV_t]
        go_wp2
        go_roundw
        case rel => exact ⟨k + 1, hlt, by go_num, Hz2.out, hB3⟩
        case measure => simp [intOf]; omega
    · have hlt' : ¬ (k : Int) < (t.body.length : Int) := by omega
      have Hall : Hid (t.body.all rightL = true) := Lib.hid (by rw [Hr.out, List.drop_of_length_le (by omega)]; rfl)
      have Hq : Hid (rightR t = true) := Lib.hid (by rw [Hz.out, Hall.out])
      go_wp2
      go_ret
      exact ⟨by rw [Hq.out]; rfl, hB⟩

def nameS (s : ByteArray) : Bool := nameB s.data.toList
def colB (x : ByteArray × Int) : Bool := nameS x.1 && rightTy x.2
theorem cols_all : ∀ (l : List ByteArray) (m : List Int), l.length = m.length → (l.all nameS && m.all rightTy) = (l.zip m).all colB
  | [], [], _ => rfl
  | x :: l, y :: m, h => by
    have ih := cols_all l m (by simpa using h)
    simp only [List.all_cons, List.zip_cons_cons]
    rw [← ih]
    unfold colB
    simp only
    cases nameS x <;> cases rightTy y <;> cases l.all nameS <;> cases m.all rightTy <;> rfl

set_option maxRecDepth 100000 in
set_option maxHeartbeats 4000000 in
theorem checkDecl_c (t : De) (a : Addr) (w : World) (cs : List Value) (hc : DeC w w.heap.size t cs) (E : TErr a w) :
    Calls Tryz.prog 76 #[.agg cs.toArray] w fun e w' => e = .returned (okV a (rightD t)) ∧ Below w.heap.size w w' := by
  obtain ⟨o0, k0, o1, k1, rfl, hz, _, H1, H2⟩ := hc.look
  have HN := Lib.hid (fun w => isName_any t.rel w hz)
  obtain ⟨o2, cap2, e2, hc2, hm2, SL⟩ := SlOf.open H1
  cases e2
  obtain ⟨o2, cap2, e2, hc3, hm3, SL2⟩ := SlOf.open H2
  cases e2
  have herr := E.err
  have hgs := E.size
  have HE := Lib.hid E
  clear E
  clear hc H1 H2
  have HB0 : Hid (∀ (x : Obj), Below w.heap.size w (w.alloc x)) := Lib.hid fun x => (Below.refl _ _).alloc (Nat.le_refl _) _
  have Hz : Hid (rightD t = (nameB t.rel.data.toList && ((decide (1 ≤ (t.names.length : Int)) && decide ((t.names.length : Int) ≤ 8)) && (decide (t.types.length = t.names.length) && (t.names.all nameS && t.types.all rightTy))))) := Lib.hid (by
    unfold rightD
    rw [show decide (1 ≤ (t.names.length : Int)) = decide (1 ≤ t.names.length) from decide_eq_decide.2 (by omega), show decide ((t.names.length : Int) ≤ 8) = decide (t.names.length ≤ 8) from decide_eq_decide.2 (by omega)]
    simp only [Bool.and_assoc]
    rfl)
  go_enter Tryz.func76, Tryz.ntmps76
  go_wp2_with fail
  refine (HN.out _).mono ?_
  rintro e w1 ⟨rfl, b1⟩
  have B1 := (HB0.out _).trans (b1.mono (by simp))
  have B1' : Below (w.heap.size + 1) (w.alloc (.cells #[.string t.rel, .slice o0 t.names.length k0, .slice o1 t.types.length k1, .bool t.inn, .bool t.out, .int .i64 t.line] 38)) w1 := b1.mono (by simp)
  obtain ⟨hc, hf⟩ := boxk w.heap.size b1 (by simp)
  have herr1 := (HE.out.below B1).err
  cases hnm : nameB t.rel.data.toList with
  | false =>
    have Hq : Hid (rightD t = false) := Lib.hid (by rw [Hz.out, hnm]; rfl)
    clear hnm
    go_wp2
    go_ret
    exact ⟨by rw [Hq.out]; rfl, B1⟩
  | true =>
  have Hz1 : Hid (rightD t = ((decide (1 ≤ (t.names.length : Int)) && decide ((t.names.length : Int) ≤ 8)) && (decide (t.types.length = t.names.length) && (t.names.all nameS && t.types.all rightTy)))) := Lib.hid (by rw [Hz.out, hnm]; rfl)
  clear hnm
  go_wp2_with fail
  refine (count_c _ _).mono ?_
  rintro e w' ⟨rfl, rfl⟩
  cases hcn : (decide (1 ≤ (t.names.length : Int)) && decide ((t.names.length : Int) ≤ 8)) with
  | false =>
    have Hq : Hid (rightD t = false) := Lib.hid (by rw [Hz1.out, hcn]; rfl)
    clear hcn
    go_wp2
    go_ret
    exact ⟨by rw [Hq.out]; rfl, B1⟩
  | true =>
  obtain ⟨bl, hbl⟩ : ∃ b, ((t.types.length : Int) != (t.names.length : Int)) = b := ⟨_, rfl⟩
  cases bl with
  | true =>
    have Hq : Hid (rightD t = false) := Lib.hid (by rw [Hz1.out, hcn, decide_eq_false (show ¬ t.types.length = t.names.length by intro h; rw [h] at hbl; simp at hbl)]; rfl)
    clear hcn
    go_wp2
    go_ret
    exact ⟨by rw [Hq.out]; rfl, B1⟩
  | false =>
  have Hlen : Hid (t.types.length = t.names.length) := Lib.hid (by
    have : (t.types.length : Int) = t.names.length := by simpa using hbl
    omega)
  have Hz2 : Hid (rightD t = (t.names.zip t.types).all colB) := Lib.hid (by rw [Hz1.out, hcn, decide_eq_true Hlen.out, ← cols_all _ _ Hlen.out.symm]; rfl)
  have HLZ : Hid ((t.names.zip t.types).length = t.names.length) := Lib.hid (by rw [List.length_zip, Hlen.out]; omega)
  clear hcn
  go_wp2
  go_loopw [29] (fun i wr => ∃ k : Nat, k ≤ t.names.length ∧ i = .int .i64 k ∧ (t.names.zip t.types).all colB = ((t.names.zip t.types).drop k).all colB ∧ Below (w.heap.size + 1) (w.alloc (.cells #[.string t.rel, .slice o0 t.names.length k0, .slice o1 t.types.length k1, .bool t.inn, .bool t.out, .int .i64 t.line] 38)) wr) (fun i _ => t.names.length - (intOf i).toNat)
  case atStart => exact ⟨0, Nat.zero_le _, rfl, rfl, B1'⟩
  case round =>
    obtain ⟨k, hk, rfl, hr, hB2⟩ := hrel
    have hB : Below w.heap.size w wr := (HB0.out _).trans (hB2.mono (by omega))
    have Hr := Lib.hid hr
    clear hr
    have hBs := hB2.size
    simp only [World.size_alloc] at hBs
    have hz0 : w.heap.size < wr.heap.size := by omega
    by_cases hlt : k < t.names.length
    · have hlt' : (k : Int) < (t.names.length : Int) := by omega
      have hlt2 : k < t.types.length := by have := Hlen.out; omega
      have hlt3 : (k : Int) < (t.types.length : Int) := by omega
      obtain ⟨xe, ht⟩ : ∃ xe, t.names[k]? = some xe := ⟨t.names[k], List.getElem?_eq_getElem hlt⟩
      obtain ⟨ye, hv⟩ : ∃ ye, t.types[k]? = some ye := ⟨t.types[k], List.getElem?_eq_getElem hlt2⟩
      obtain ⟨b, rfl, ha, hxz, c0⟩ := str_at SL hB ht
      have hzip : (t.names.zip t.types)[k]? = some (xe, ye) := by rw [List.getElem?_zip_eq_some]; exact ⟨ht, hv⟩
      have Hst := Lib.hid (Hr.out.trans (all_drop (f := colB) hzip))
      have HV := Lib.hid hv
      clear ht hzip hv
      go_wp2_with fail
      refine (isName_any xe wr hxz).mono ?_
      rintro e w2 ⟨rfl, b2⟩
      have hB3 := hB2.trans (b2.mono (by omega))
      have hB4 := hB.trans (b2.mono (by omega))
      have x0 : w2.cell? ⟨w.heap.size, 2, none⟩ = some (.slice o1 t.types.length k1) := (hB3.cell (p := ⟨w.heap.size, 2, none⟩) (by show w.heap.size < _; omega)).trans (by go_simp)
      obtain ⟨d, rfl, hd, _, d0⟩ := int_at SL2 hB4 HV.out
      have herr2 := (HE.out.below hB4).err
      cases hnm : nameB xe.data.toList with
      | false =>
        have Hq : Hid (rightD t = false) := Lib.hid (by rw [Hz2.out, Hst.out]; unfold colB nameS; simp only [hnm]; rfl)
        clear hnm
        go_wp2
        go_ret
        exact ⟨by rw [Hq.out]; rfl, hB4⟩
      | true =>
        obtain ⟨b1', hy1⟩ : ∃ b, (ye != 1) = b := ⟨_, rfl⟩
        obtain ⟨b2', hy2⟩ : ∃ b, (ye != 2) = b := ⟨_, rfl⟩
        have hty : rightTy ye = !(b1' && b2') := by unfold rightTy; rw [← hy1, ← hy2]; cases h1 : (ye == 1) <;> cases h2 : (ye == 2) <;> simp [bne, h1, h2]
        have Hst2 : Hid ((t.names.zip t.types).all colB = (!(b1' && b2') && ((t.names.zip t.types).drop (k + 1)).all colB)) := Lib.hid (by rw [Hst.out]; unfold colB nameS; simp only [hnm, hty, Bool.true_and])
        clear hnm hty
        have Hgo : Hid ((b1' && b2') = false → (t.names.zip t.types).all colB = ((t.names.zip t.types).drop (k + 1)).all colB) := Lib.hid (by intro h; rw [Hst2.out, h]; rfl)
        have Hno : Hid (b1' = true → b2' = true → rightD t = false) := Lib.hid (by rintro rfl rfl; rw [Hz2.out, Hst2.out]; rfl)
        cases b1' <;> cases b2'
        case true.true =>
          have Hq := Lib.hid (Hno.out rfl rfl)
          go_wp2
          go_ret
          exact ⟨by rw [Hq.out]; rfl, hB4⟩
        all_goals
          have Hq := Lib.hid (Hgo.out rfl)
          go_wp2
          go_roundw
          case rel => exact ⟨k + 1, hlt, by go_num, Hq.out, hB3⟩
          case measure => simp [intOf]; omega
    · have hlt' : ¬ (k : Int) < (t.names.length : Int) := by omega
      have Hq : Hid (rightD t = true) := Lib.hid (by rw [Hz2.out, Hr.out, List.drop_of_length_le (by rw [HLZ.out]; omega)]; rfl)
      go_wp2
      go_ret
      exact ⟨by rw [Hq.out]; rfl, hB⟩

set_option maxRecDepth 100000 in
set_option maxHeartbeats 4000000 in
theorem checkProg_c (t : Pg) (a : Addr) (w : World) (cs : List Value) (hc : PgC w w.heap.size t cs) (E : TErr a w) :
    Calls Tryz.prog 47 #[.agg cs.toArray] w fun e w' => e = .returned (okV a (rightP t)) ∧ Below w.heap.size w w' := by
  obtain ⟨o0, k0, o1, k1, rfl, H1, H2⟩ := hc.look
  obtain ⟨o2, cap2, e2, hc2, hm2, SL⟩ := SlOf.open H1
  cases e2
  obtain ⟨o2, cap2, e2, hc3, hm3, SL2⟩ := SlOf.open H2
  cases e2
  have herr := E.err
  have hgs := E.size
  have HE := Lib.hid E
  clear E
  clear hc H1 H2
  have HB0 : Hid (∀ (x : Obj), Below w.heap.size w (w.alloc x)) := Lib.hid fun x => (Below.refl _ _).alloc (Nat.le_refl _) _
  by_cases hbig : 60 < t.decls.length
  · have hbig' : (60 : Int) < (t.decls.length : Int) := by omega
    have Hq : Hid (rightP t = false) := Lib.hid (by unfold rightP; rw [decide_eq_false (show ¬ t.decls.length ≤ 60 by omega)]; rfl)
    go_enter Tryz.func47, Tryz.ntmps47
    go_wp2
    go_ret
    exact ⟨by rw [Hq.out]; rfl, HB0.out _⟩
  have hbig' : ¬ (60 : Int) < (t.decls.length : Int) := by omega
  by_cases hbig2 : 200 < t.rules.length
  · have hbig2' : (200 : Int) < (t.rules.length : Int) := by omega
    have Hq : Hid (rightP t = false) := Lib.hid (by unfold rightP; rw [decide_eq_false (show ¬ t.rules.length ≤ 200 by omega)]; simp)
    go_enter Tryz.func47, Tryz.ntmps47
    go_wp2
    go_ret
    exact ⟨by rw [Hq.out]; rfl, HB0.out _⟩
  have hbig2' : ¬ (200 : Int) < (t.rules.length : Int) := by omega
  have Hz : Hid (rightP t = (t.decls.all rightD && t.rules.all rightR)) := Lib.hid (by
    unfold rightP
    rw [decide_eq_true (show t.decls.length ≤ 60 by omega), decide_eq_true (show t.rules.length ≤ 200 by omega)]
    rfl)
  go_enter Tryz.func47, Tryz.ntmps47
  go_wp2
  go_loopw [23] (fun i wr => ∃ k : Nat, k ≤ t.decls.length ∧ i = .int .i64 k ∧ t.decls.all rightD = (t.decls.drop k).all rightD ∧ Below (w.heap.size + 1) (w.alloc (.cells #[.slice o0 t.decls.length k0, .slice o1 t.rules.length k1] 25)) wr) (fun i _ => t.decls.length - (intOf i).toNat)
  case atStart => exact ⟨0, Nat.zero_le _, rfl, rfl, Below.refl _ _⟩
  case round =>
    obtain ⟨k, hk, rfl, hr, hB2⟩ := hrel
    have hB : Below w.heap.size w wr := (HB0.out _).trans (hB2.mono (by omega))
    have Hr := Lib.hid hr
    clear hr
    have hBs := hB2.size
    simp only [World.size_alloc] at hBs
    have hz0 : w.heap.size < wr.heap.size := by omega
    have x0 : wr.cell? ⟨w.heap.size, 1, none⟩ = some (.slice o1 t.rules.length k1) := (hB2.cell (p := ⟨w.heap.size, 1, none⟩) (by show w.heap.size < _; omega)).trans (by go_simp)
    by_cases hlt : k < t.decls.length
    · have hlt' : (k : Int) < (t.decls.length : Int) := by omega
      obtain ⟨xe, ht⟩ : ∃ xe, t.decls[k]? = some xe := ⟨t.decls[k], List.getElem?_eq_getElem hlt⟩
      obtain ⟨b, p3, q3, p4, q4, rfl, ha, Hc, c0, c1, c2, c3, c4, c5⟩ := de_at SL hB ht
      have hal : (b.add (k * 6)).block < wr.heap.size := by rw [addBlock]; omega
      have Hst := Lib.hid (Hr.out.trans (all_drop (f := rightD) ht))
      clear ht
      have HI := Lib.hid (fun (W : World) (hb : Below wr.heap.size wr W) => checkDecl_c xe a W _ ((Hc.out.below hb).more hb.size) ((HE.out.below hB).below hb))
      go_wp2_with fail
      refine (HI.out _ ((Below.refl _ _).alloc (Nat.le_refl _) _)).mono ?_
      rintro e w1 ⟨rfl, b1⟩
      have b1' : Below wr.heap.size wr w1 := ((Below.refl _ _).alloc (Nat.le_refl _) _).trans (b1.mono (by simp))
      have hB3 := hB2.trans (b1'.mono (by omega))
      cases hs : rightD xe with
      | false =>
        have Hz2 := Lib.hid (Hst.out.trans (by rw [hs, Bool.false_and]))
        have Hq : Hid (rightP t = false) := Lib.hid (by rw [Hz.out, Hz2.out]; rfl)
        clear hs
        simp only [okV_f]
        go_wp2
        go_ret
        exact ⟨by rw [Hq.out]; rfl, hB.trans (b1'.mono hB.size)⟩
      | true =>
        have Hz2 := Lib.hid (Hst.out.trans (by rw [hs, Bool.true_and]))
        clear hs
        simp only [okV_t]
        go_wp2
        go_roundw
        case rel => exact ⟨k + 1, hlt, by go_num, Hz2.out, hB3⟩
        case measure => simp [intOf]; omega
    · have hlt' : ¬ (k : Int) < (t.decls.length : Int) := by omega
      have Hall : Hid (t.decls.all rightD = true) := Lib.hid (by rw [Hr.out, List.drop_of_length_le (by omega)]; rfl)
      clear Hr
      have Hz3 : Hid (rightP t = t.rules.all rightR) := Lib.hid (by rw [Hz.out, Hall.out]; rfl)
      go_wp2
      go_loopw [36] (fun i wr => ∃ k : Nat, k ≤ t.rules.length ∧ i = .int .i64 k ∧ t.rules.all rightR = (t.rules.drop k).all rightR ∧ Below (w.heap.size + 1) (w.alloc (.cells #[.slice o0 t.decls.length k0, .slice o1 t.rules.length k1] 25)) wr) (fun i _ => t.rules.length - (intOf i).toNat)
      case atStart => exact ⟨0, Nat.zero_le _, rfl, rfl, hB2⟩
      case round =>
        obtain ⟨k, hk, rfl, hr, hB2⟩ := hrel
        have hB : Below w.heap.size w wr := (HB0.out _).trans (hB2.mono (by omega))
        have Hr := Lib.hid hr
        clear hr
        have hBs := hB2.size
        simp only [World.size_alloc] at hBs
        have hz0 : w.heap.size < wr.heap.size := by omega
        have x0 : wr.cell? ⟨w.heap.size, 1, none⟩ = some (.slice o1 t.rules.length k1) := (hB2.cell (p := ⟨w.heap.size, 1, none⟩) (by show w.heap.size < _; omega)).trans (by go_simp)
        by_cases hlt : k < t.rules.length
        · have hlt' : (k : Int) < (t.rules.length : Int) := by omega
          obtain ⟨xe, ht⟩ : ∃ xe, t.rules[k]? = some xe := ⟨t.rules[k], List.getElem?_eq_getElem hlt⟩
          obtain ⟨b, p3, q3, p4, q4, rfl, ha, Hc, c0, c1, c2, c3⟩ := ru_at SL2 hB ht
          have hal : (b.add (k * 4)).block < wr.heap.size := by rw [addBlock]; omega
          have Hst := Lib.hid (Hr.out.trans (all_drop (f := rightR) ht))
          clear ht
          have HI := Lib.hid (fun (W : World) (hb : Below wr.heap.size wr W) => checkRule_c xe a W _ ((Hc.out.below hb).more hb.size) ((HE.out.below hB).below hb))
          go_wp2_with fail
          refine (HI.out _ ((Below.refl _ _).alloc (Nat.le_refl _) _)).mono ?_
          rintro e w1 ⟨rfl, b1⟩
          have b1' : Below wr.heap.size wr w1 := ((Below.refl _ _).alloc (Nat.le_refl _) _).trans (b1.mono (by simp))
          have hB3 := hB2.trans (b1'.mono (by omega))
          cases hs : rightR xe with
          | false =>
            have Hz2 := Lib.hid (Hst.out.trans (by rw [hs, Bool.false_and]))
            have Hq : Hid (rightP t = false) := Lib.hid (by rw [Hz3.out, Hz2.out])
            clear hs
            simp only [okV_f]
            go_wp2
            go_ret
            exact ⟨by rw [Hq.out]; rfl, hB.trans (b1'.mono hB.size)⟩
          | true =>
            have Hz2 := Lib.hid (Hst.out.trans (by rw [hs, Bool.true_and]))
            clear hs
            simp only [okV_t]
            go_wp2
            go_roundw
            case rel => exact ⟨k + 1, hlt, by go_num, Hz2.out, hB3⟩
            case measure => simp [intOf]; omega
        · have hlt' : ¬ (k : Int) < (t.rules.length : Int) := by omega
          have Hall : Hid (t.rules.all rightR = true) := Lib.hid (by rw [Hr.out, List.drop_of_length_le (by omega)]; rfl)
          have Hq : Hid (rightP t = true) := Lib.hid (by rw [Hz3.out, Hall.out])
          go_wp2
          go_ret
          exact ⟨by rw [Hq.out]; rfl, hB⟩

end Go.Proofs.YtfcfehflocglpabGreatDoor
namespace Go.Proofs.YtfcfehflocglpabGreatDoor
open Go.RowKit

theorem heldBright_c {W w1 : World} (b : Below W.heap.size W.drew w1) {n g : Nat} {v0 v1 v2 : Value} (hn : n < W.heap.size) (hg : g < W.heap.size)
    (h : W.cell? ⟨n, 0, none⟩ = some v0 ∧ W.cell? ⟨n, 1, none⟩ = some v1 ∧ W.cell? ⟨g, 0, none⟩ = some v2) : w1.cell? ⟨n, 0, none⟩ = some v0 ∧ w1.cell? ⟨n, 1, none⟩ = some v1 ∧ w1.cell? ⟨g, 0, none⟩ = some v2 := by
  obtain ⟨h0, h1, h2⟩ := h
  exact ⟨(b.cell (p := ⟨n, 0, none⟩) hn).trans h0, (b.cell (p := ⟨n, 1, none⟩) hn).trans h1, (b.cell (p := ⟨g, 0, none⟩) hg).trans h2⟩

set_option maxRecDepth 100000 in
set_option maxHeartbeats 4000000 in
theorem right_c (t : Pg) (a : Addr) (w : World) (cs : List Value) (hc : PgC w w.heap.size t cs) (E : TErr a w) :
    Calls Tryz.prog 26 #[.agg cs.toArray] w fun e w' => e = .returned (.bool (rightP t)) ∧ Below w.heap.size w w' := by
  have HC0 := fun (W : World) (hb : Below w.heap.size w W) => checkProg_c t a W cs ((hc.below hb).more hb.size) (E.below hb)
  obtain ⟨o0, k0, o1, k1, rfl, _, _⟩ := hc.look
  have HC := Lib.hid HC0
  have herr := E.err
  have hgs := E.size
  have HE := Lib.hid E
  clear E
  clear hc HC0
  have HB0 : Hid (∀ (x : Obj), Below w.heap.size w (w.alloc x)) := Lib.hid fun x => (Below.refl _ _).alloc (Nat.le_refl _) _
  have x0 : (w.alloc (.cells #[.slice o0 t.decls.length k0, .slice o1 t.rules.length k1] 25)).cell? ⟨w.heap.size, 0, none⟩ = some (.slice o0 t.decls.length k0) := by go_simp
  have x1 : (w.alloc (.cells #[.slice o0 t.decls.length k0, .slice o1 t.rules.length k1] 25)).cell? ⟨w.heap.size, 1, none⟩ = some (.slice o1 t.rules.length k1) := by go_simp
  have xe : (w.alloc (.cells #[.slice o0 t.decls.length k0, .slice o1 t.rules.length k1] 25)).cell? ⟨0, 0, none⟩ = some (.iface 256 (.pointer (some a))) := (HE.out.below (HB0.out _)).err
  have hgs2 : 0 < (w.alloc (.cells #[.slice o0 t.decls.length k0, .slice o1 t.rules.length k1] 25)).heap.size := by first | (simp; omega) | simp
  cases hr : rightP t with
  | true =>
    rw [hr, okV_t] at HC
    go_enter Tryz.func26, Tryz.ntmps26
    go_wp2
    go_region_held3 (fun w' => w'.cell? ⟨w.heap.size, 0, none⟩ = some (.slice o0 t.decls.length k0) ∧ w'.cell? ⟨w.heap.size, 1, none⟩ = some (.slice o1 t.rules.length k1) ∧ w'.cell? ⟨0, 0, none⟩ = some (.iface 256 (.pointer (some a)))) (first | exact ⟨x0, x1, xe⟩ | exact hk) (first | (go_at_call 47; refine (HC.out _ ((HB0.out _).drew)).mono ?_; rintro e w1 ⟨rfl, b1⟩; have hk := heldBright_c b1 (by simp) hgs2 ⟨x0, x1, xe⟩) | (go_at_call 46; refine (is_nil _ _).mono ?_; rintro e w' ⟨rfl, rfl⟩))
    go_wp2
    go_ret
    exact ⟨rfl, (HB0.out _).trans (((Below.refl _ _).drew).trans (b1.mono (by simp)))⟩
  | false =>
    rw [hr, okV_f] at HC
    go_enter Tryz.func26, Tryz.ntmps26
    go_wp2
    go_region_held3 (fun w' => w'.cell? ⟨w.heap.size, 0, none⟩ = some (.slice o0 t.decls.length k0) ∧ w'.cell? ⟨w.heap.size, 1, none⟩ = some (.slice o1 t.rules.length k1) ∧ w'.cell? ⟨0, 0, none⟩ = some (.iface 256 (.pointer (some a)))) (first | exact ⟨x0, x1, xe⟩ | exact hk) (first | (go_at_call 47; refine (HC.out _ ((HB0.out _).drew)).mono ?_; rintro e w1 ⟨rfl, b1⟩; have hk := heldBright_c b1 (by simp) hgs2 ⟨x0, x1, xe⟩) | (go_at_call 46; refine (is_same _ _).mono ?_; rintro e w' ⟨rfl, rfl⟩))
    go_wp2
    go_ret
    exact ⟨rfl, (HB0.out _).trans (((Below.refl _ _).drew).trans (b1.mono (by simp)))⟩

end Go.Proofs.YtfcfehflocglpabGreatDoor
namespace Go.Proofs.YtfcfehflocglpabGreatDoor
open Go.RowKit Go.Shelf

attribute [local go_sem] Oper.semAt_some

def unqS (l : List (UInt8 × Bool)) : Option (List UInt8) := if l.all (fun x => !x.2) = true then some (l.map (·.1)) else none
def unqV : Option (List UInt8) → Value
  | some t => .tuple #[.string ⟨t.toArray⟩, .int .i64 0]
  | none => .tuple #[.string ⟨#[]⟩, .int .i64 10]

theorem wpIn_scope_wide {n : Nat} {P : Program} {c : Code} {Q : Exit → Act → World → Prop} {a : Act} {w : World} (h : c.wpIn Fence.wide n P (Exit.noGoto Q) a w) : (Code.scope c).wpIn Fence.wide n P Q a w :=
  wpIn_wide.2 (wp_scope_straight (wpIn_wide.1 h))

theorem Bd.lt {B b : Nat} {l : List UInt8} {W : World} (h : Bd B b l W) : b < W.heap.size := by
  rcases h with ⟨_, v, hb, _⟩ | ⟨_, v, hb, _⟩ <;> exact (Array.getElem?_eq_some_iff.1 hb).1
theorem one_cell {W : World} {k : Nat} {v : Value} {t : TypeId} (h : W.heap[k]? = some (.cells #[v] t (0, 0))) : W.cell? ⟨k, 0, none⟩ = some v ∧ W.frozen? ⟨k, 0, none⟩ = false := by
  simp [World.cell?, World.frozen?, h]
def wrongV (a : Addr) (bad : Bool) : Value := if bad then .iface 256 (.pointer (some a)) else .nilIface

set_option maxRecDepth 100000 in
set_option maxHeartbeats 4000000 in
theorem unquote_ok (s : ByteArray) (inner : List UInt8) (hi : inner.length ≤ 1073741824) (a : Addr) (w : World) (hz : 3 ≤ w.heap.size) (herr : ErrAt a w)
    (hb : Calls Tryz.prog 119 #[.string s] w fun e w' => e = .returned (.tuple #[.string ⟨inner.toArray⟩, .nilIface]) ∧ ∃ k, w' = w.drewN k) :
    CallsIn Fence.wide 6 Tryz.prog 87 #[.string s] w fun e W' => e = .returned (unqV (unqS (seqS inner.length inner))) ∧ Below w.heap.size w W' := by
  have Hb := Lib.hid hb
  clear hb
  have HE := Lib.hid herr
  clear herr
  refine callsIn_of_wp_marks Tryz.func87 rfl trivial ?_ rfl
  simp only [Tryz.ntmps87, List.size_toArray, List.length_cons, List.length_nil, Nat.reduceAdd, Nat.reduceSub, Array.replicate_succ, Array.replicate_zero, List.push_toArray, List.append_toArray, List.nil_append, List.cons_append]
  gi_wp2_with fail
  refine wpIn_scope_wide ?_
  gi_wp2_with fail
  refine ⟨trivial, (callsIn_wide.2 Hb.out).mono ?_⟩
  rintro e w1 ⟨rfl, q, hw1⟩
  have b1 : Below w.heap.size w w1 := by rw [hw1]; exact below_drewN (Below.refl _ _) q
  have z1 : w1.heap.size = w.heap.size := by rw [hw1]; rfl
  have E1 : Hid (ErrAt a w1) := Lib.hid (by rw [hw1]; exact HE.out)
  have Z1 := Lib.hid z1
  clear hw1 z1
  gi_wp2_with fail
  refine wpIn_label ?_
  gi_wp2_with fail
  refine ⟨trivial, (eachSign_in _ ⟨inner.toArray⟩ _).mono ?_⟩
  rintro e w3 ⟨rfl, rfl⟩
  gi_wp2_with fail
  obtain ⟨n0, hn0⟩ : ∃ n0, w1.heap.size = n0 := ⟨_, rfl⟩
  obtain ⟨WL, hWL⟩ : ∃ WL, (((w1.alloc (.cells #[.nilIface] 63)).alloc (.cells #[.pointer none, .slice none 0 0] 79)).alloc (.cells #[.string ⟨inner.toArray⟩] 9)) = WL := ⟨_, rfl⟩
  have hn2 : 3 ≤ n0 := by rw [← hn0, Z1.out]; exact hz
  have hsz : WL.heap.size = n0 + 3 := by rw [← hWL]; simp; omega
  have hbox : BoxAt (n0 + 2) ⟨inner.toArray⟩ WL := by
    have := World.alloc_heap_new ((w1.alloc (.cells #[.nilIface] 63)).alloc (.cells #[.pointer none, .slice none 0 0] 79)) (.cells #[.string ⟨inner.toArray⟩] 9)
    rw [hWL] at this
    unfold BoxAt
    simpa [hn0] using this
  have hBL : Below n0 w1 WL := by
    rw [← hWL]
    exact (((Below.refl _ w1).alloc (by omega) _).alloc (by simp; omega) _).alloc (by simp; omega) _
  have hbd : Bd (n0 + 1) (n0 + 1) [] WL := by
    have := Lib.IsBuilderF.of (Lib.fresh_isBuilder 79 5 (w1.alloc (.cells #[.nilIface] 63)))
    have h2 := Lib.IsBuilderF.alloc this (.cells #[.string ⟨inner.toArray⟩] 9)
    rw [hWL] at h2
    simpa [hn0, Bd, Lib.byteCells] using h2
  have hw0 : WL.heap[n0]? = some (.cells #[.nilIface] 63 (0, 0)) := by
    have h1 := World.alloc_heap_new w1 (.cells #[.nilIface] 63)
    rw [hn0] at h1
    rw [← hWL]
    exact (Below.heap_alloc _ _ _ (by simp; omega)).trans ((Below.heap_alloc _ _ _ (by simp; omega)).trans h1)
  have hwc := (one_cell hw0).1
  have hwf := (one_cell hw0).2
  have herL : ErrAt a WL := (hBL.cell (p := ⟨2, 0, none⟩) (by show 2 < n0; omega)).trans E1.out
  rw [hWL, hn0]
  have Hn0 := Lib.hid hn0
  clear hWL hn0
  refine wpIn_rangeFunc_ownF rfl (by omega) (gf := 152) (lb := #[.pointer (some ⟨n0 + 1 + 1, 0, none⟩)]) rfl trivial (enters_of Tryz.func152 (by kernel_rfl) rfl)
    (eachSign_stops 5 (by omega) (n0 + 2) ⟨inner.toArray⟩ hi a WL (by omega) hbox (by omega) herL) (fun h k => ⟨fun x => k.1 (h.1 x), fun x => k.2 (h.2 x)⟩) ?hKb (Below.refl _ _) (fun _ => rfl)
    (fun pre W => ((Bd (n0 + 1) (n0 + 1) (pre.map (·.1)) W ∧ (∀ x ∈ pre, x.2 = false)) ∧ W.cell? ⟨n0, 0, none⟩ = some .nilIface ∧ W.frozen? ⟨n0, 0, none⟩ = false) ∧ Below n0 w1 W)
    (fun c pre W => ((c = .exit 0 ∧ (∃ x ∈ pre, x.2 = true)) ∧ W.cell? ⟨n0, 0, none⟩ = some (.iface 256 (.pointer (some a)))) ∧ Below n0 w1 W)
    (OwnFrom.and (Own.from (fun s A B row hs hg hr => ⟨⟨hs.1.1.kept hg hr, hs.1.2⟩, cell_kept hs.2.1 hg hr, (frozen_kept hs.2.1 hg hr).trans hs.2.2⟩) _) (ownFrom_below (by rw [← Hn0.out]; exact Nat.le_refl _) (by omega)))
    (fun c => OwnFrom.and (Own.from (fun s A B row hs hg hr => ⟨hs.1, cell_kept hs.2 hg hr⟩) _) (ownFrom_below (by rw [← Hn0.out]; exact Nat.le_refl _) (by omega)))
    ⟨⟨⟨hbd, by simp⟩, hwc, hwf⟩, hBL⟩
    (fun x => { tmps := #[.string s, undef, .string ⟨#[]⟩, .int .i64 0, .string ⟨inner.toArray⟩, .pointer (some ⟨n0, 0, none⟩), .pointer (some ⟨n0 + 1, 0, none⟩), .int .u8 (x.1.toNat : Int), (if x.2 then .iface 256 (.pointer (some a)) else .nilIface), .tuple #[.string ⟨inner.toArray⟩, .nilIface], .string s, .tuple #[.string ⟨inner.toArray⟩, .nilIface], .string ⟨inner.toArray⟩, .nilIface, .string ⟨inner.toArray⟩, .func (.func 152) #[] #[.pointer (some ⟨n0 + 1 + 1, 0, none⟩)], .int .u8 (x.1.toNat : Int), (if x.2 then .iface 256 (.pointer (some a)) else .nilIface), undef, undef, undef, undef, undef, undef, undef, undef, undef, undef], defers := [] }) ?assign ?body ?done ?stop
  case hKb =>
    intro W l o o' hl hl2 ho _
    have hr : ∀ r, some l = some r → ∃ o : Obj, W.heap[r]? = some o ∧ o.isCells = false := fun r e => by cases e; exact ⟨o, hl2, ho⟩
    exact ⟨fun hb => (grownBy_keeps_cells (grownBy_putObj' W l o') hr hb rfl).trans hb, fun he => cell_kept he (grownBy_putObj' W l o') hr⟩
  case assign =>
    intro l x W K hK
    obtain ⟨c, bad⟩ := x
    cases bad with
    | true =>
      simp only [encS, if_true] at hK ⊢
      gi_wp2
      exact hK
    | false =>
      simp only [encS, Bool.false_eq_true, if_false] at hK ⊢
      gi_wp2
      exact hK
  case body =>
    rintro l pre ⟨c, bad⟩ W ⟨⟨⟨hb, hal⟩, hc, hf⟩, hB⟩ hlen
    cases bad with
    | true =>
      simp only [if_true]
      gi_wp2
      exact ⟨KeepsOthers.setCell _ _ _, ⟨⟨rfl, (c, true), by simp, rfl⟩, World.cell?_setCell_same' _ _ _ (by rw [hc]; rfl)⟩, hB.setCell (p := ⟨n0, 0, none⟩) (Nat.le_refl _) _⟩
    | false =>
      simp only [Bool.false_eq_true, if_false]
      have hB1 : n0 + 1 ≤ W.heap.size := Nat.le_of_lt hb.lt
      have hlen' : pre.length < inner.length := hlen
      gi_wp2_with fail
      refine ⟨trivial, (CallsIn.inRound l (callsIn_wide.2 (writeByte_c _ _ _ c _ rfl W hb (by simp; omega) hB1))).mono ?_⟩
      rintro e w4 ⟨rfl, b4, k4⟩
      gi_wp2
      refine ⟨k4.keepsOthers hb, ⟨k4.keepsBox (by omega), fun he => (k4.below.cell (p := ⟨2, 0, none⟩) (by show 2 < n0 + 1; omega)).trans he⟩, ⟨⟨by simpa using b4, ?_⟩, (k4.below.cell (p := ⟨n0, 0, none⟩) (by show n0 < n0 + 1; omega)).trans hc, (k4.below.frozen (p := ⟨n0, 0, none⟩) (by show n0 < n0 + 1; omega)).trans hf⟩, hB.trans (k4.below.mono (by omega))⟩
      intro x hx
      rcases List.mem_append.1 hx with hx | hx
      · exact hal x hx
      · obtain rfl : x = _ := List.mem_singleton.1 hx
        rfl
  case done =>
    rintro D ys W hD rfl ⟨⟨⟨hb, hal⟩, hc, hf⟩, hB⟩ hK
    have herW : ErrAt a W := (hB.cell (p := ⟨2, 0, none⟩) (by show 2 < n0; omega)).trans E1.out
    unfold ErrAt at herW
    have hB1 : n0 + 1 ≤ W.heap.size := Nat.le_of_lt hb.lt
    have hq : unqS (seqS inner.length inner) = some ((seqS inner.length inner).map (·.1)) := by
      unfold unqS
      rw [if_pos]
      rw [List.all_eq_true]
      intro x hx
      rw [hal x hx]
      rfl
    have Hq := Lib.hid hq
    clear hq
    gi_wp2_with fail
    refine ⟨trivial, (callsIn_wide.2 (is_nil a W)).mono ?_⟩
    rintro e w4 ⟨rfl, rfl⟩
    gi_wp2_with fail
    refine ⟨trivial, (callsIn_wide.2 (bstr_c _ _ _ W hb hB1)).mono ?_⟩
    rintro e w5 ⟨rfl, b5, k5⟩
    have hK5 := (k5.keepsOthers hb).same D _ hK rfl
    gi_wp2
    rw [Exit.noGoto_ret]
    refine ⟨by simp, .inl ⟨_, _, rfl, run_takeDeferred hK5, ?_⟩⟩
    refine ⟨_, results_tmp2 rfl _ _ _, by rw [Hq.out]; rfl, ?_⟩
    refine b1.trans ((hB.mono (by rw [← Hn0.out, Z1.out]; exact Nat.le_refl _)).trans ((k5.below.mono (by rw [← Hn0.out, Z1.out]; omega)).trans (belowK_b (w := w) (Nat.le_refl _) w5 D _ _ ?_ hK5 rfl rfl)))
    rw [← Z1.out, Hn0.out]
    omega
  case stop =>
    rintro D c pre W hD hp ⟨⟨⟨rfl, hx⟩, hc⟩, hB⟩ hK
    have herW : ErrAt a W := (hB.cell (p := ⟨2, 0, none⟩) (by show 2 < n0; omega)).trans E1.out
    unfold ErrAt at herW
    gi_wp2_with fail
    refine ⟨trivial, (callsIn_wide.2 (is_same a W)).mono ?_⟩
    rintro e w4 ⟨rfl, rfl⟩
    have hq : unqS (seqS inner.length inner) = none := by
      obtain ⟨x, hx1, hx2⟩ := hx
      unfold unqS
      rw [if_neg]
      intro hall
      have := List.all_eq_true.1 hall x (hp.subset hx1)
      rw [hx2] at this
      cases this
    have Hq := Lib.hid hq
    clear hq
    gi_wp2
    rw [Exit.noGoto_ret]
    refine ⟨by simp, .inl ⟨_, _, rfl, run_takeDeferred hK, ?_⟩⟩
    refine ⟨_, results_tmp2 rfl _ _ _, by rw [Hq.out]; rfl, ?_⟩
    refine b1.trans ((hB.mono (by rw [← Hn0.out, Z1.out]; exact Nat.le_refl _)).trans (belowK_b (w := w) (Nat.le_refl _) W D _ _ ?_ hK rfl rfl))
    rw [← Z1.out, Hn0.out]
    omega
set_option maxRecDepth 100000 in
set_option maxHeartbeats 4000000 in
theorem unquote_bad (s : ByteArray) (a : Addr) (w : World) (hz : 3 ≤ w.heap.size) (herr : ErrAt a w)
    (hb : Calls Tryz.prog 119 #[.string s] w fun e w' => e = .returned (.tuple #[.string ⟨#[]⟩, .iface 256 (.pointer (some a))]) ∧ ∃ k, w' = w.drewN k) :
    CallsIn Fence.wide 6 Tryz.prog 87 #[.string s] w fun e W' => e = .returned (unqV none) ∧ Below w.heap.size w W' := by
  have Hb := Lib.hid hb
  clear hb
  have HE := Lib.hid herr
  clear herr
  refine callsIn_of_wp_marks Tryz.func87 rfl trivial ?_ rfl
  simp only [Tryz.ntmps87, List.size_toArray, List.length_cons, List.length_nil, Nat.reduceAdd, Nat.reduceSub, Array.replicate_succ, Array.replicate_zero, List.push_toArray, List.append_toArray, List.nil_append, List.cons_append]
  gi_wp2_with fail
  refine wpIn_scope_wide ?_
  gi_wp2_with fail
  refine ⟨trivial, (callsIn_wide.2 Hb.out).mono ?_⟩
  rintro e w1 ⟨rfl, q, hw1⟩
  have b1 : Below w.heap.size w w1 := by rw [hw1]; exact below_drewN (Below.refl _ _) q
  have z1 : w1.heap.size = w.heap.size := by rw [hw1]; rfl
  have E1 : Hid (ErrAt a w1) := Lib.hid (by rw [hw1]; exact HE.out)
  have Z1 := Lib.hid z1
  clear hw1 z1
  gi_wp2_with fail
  refine wpIn_label ?_
  gi_wp2_with fail
  refine ⟨trivial, (eachSign_in _ ⟨#[]⟩ _).mono ?_⟩
  rintro e w3 ⟨rfl, rfl⟩
  gi_wp2_with fail
  obtain ⟨n0, hn0⟩ : ∃ n0, w1.heap.size = n0 := ⟨_, rfl⟩
  obtain ⟨WL, hWL⟩ : ∃ WL, (((w1.alloc (.cells #[.iface 256 (.pointer (some a))] 63)).alloc (.cells #[.pointer none, .slice none 0 0] 79)).alloc (.cells #[.string ⟨#[]⟩] 9)) = WL := ⟨_, rfl⟩
  have hn2 : 3 ≤ n0 := by rw [← hn0, Z1.out]; exact hz
  have hsz : WL.heap.size = n0 + 3 := by rw [← hWL]; simp; omega
  have hbox : BoxAt (n0 + 2) ⟨#[]⟩ WL := by
    have := World.alloc_heap_new ((w1.alloc (.cells #[.iface 256 (.pointer (some a))] 63)).alloc (.cells #[.pointer none, .slice none 0 0] 79)) (.cells #[.string ⟨#[]⟩] 9)
    rw [hWL] at this
    unfold BoxAt
    simpa [hn0] using this
  have hBL : Below n0 w1 WL := by
    rw [← hWL]
    exact (((Below.refl _ w1).alloc (by omega) _).alloc (by simp; omega) _).alloc (by simp; omega) _
  have hw0 : WL.heap[n0]? = some (.cells #[.iface 256 (.pointer (some a))] 63 (0, 0)) := by
    have h1 := World.alloc_heap_new w1 (.cells #[.iface 256 (.pointer (some a))] 63)
    rw [hn0] at h1
    rw [← hWL]
    exact (Below.heap_alloc _ _ _ (by simp; omega)).trans ((Below.heap_alloc _ _ _ (by simp; omega)).trans h1)
  have hwc := (one_cell hw0).1
  have herL : ErrAt a WL := (hBL.cell (p := ⟨2, 0, none⟩) (by show 2 < n0; omega)).trans E1.out
  rw [hWL, hn0]
  have Hn0 := Lib.hid hn0
  clear hWL hn0
  refine wpIn_rangeFunc_ownF rfl (by omega) (gf := 152) (lb := #[.pointer (some ⟨n0 + 1 + 1, 0, none⟩)]) rfl trivial (enters_of Tryz.func152 (by kernel_rfl) rfl)
    (eachSign_stops 5 (by omega) (n0 + 2) ⟨#[]⟩ (by decide) a WL (by omega) hbox (by omega) herL) (fun h k => ⟨fun x => k.1 (h.1 x), fun x => k.2 (h.2 x)⟩) ?hKb (Below.refl _ _) (fun _ => rfl)
    (fun _ W => W.cell? ⟨n0, 0, none⟩ = some (.iface 256 (.pointer (some a))) ∧ Below n0 w1 W)
    (fun _ _ _ => False)
    (OwnFrom.and (Own.from (fun s A B row hs hg hr => cell_kept hs hg hr) _) (ownFrom_below (by rw [← Hn0.out]; exact Nat.le_refl _) (by omega)))
    (fun _ _ _ _ _ hs _ _ => hs)
    ⟨hwc, hBL⟩
    (fun x => { tmps := #[.string s, undef, .string ⟨#[]⟩, .int .i64 0, .string ⟨#[]⟩, .pointer (some ⟨n0, 0, none⟩), .pointer (some ⟨n0 + 1, 0, none⟩), .int .u8 (x.1.toNat : Int), (if x.2 then .iface 256 (.pointer (some a)) else .nilIface), .tuple #[.string ⟨#[]⟩, .iface 256 (.pointer (some a))], .string s, .tuple #[.string ⟨#[]⟩, .iface 256 (.pointer (some a))], .string ⟨#[]⟩, .iface 256 (.pointer (some a)), .string ⟨#[]⟩, .func (.func 152) #[] #[.pointer (some ⟨n0 + 1 + 1, 0, none⟩)], .int .u8 (x.1.toNat : Int), (if x.2 then .iface 256 (.pointer (some a)) else .nilIface), undef, undef, undef, undef, undef, undef, undef, undef, undef, undef], defers := [] }) ?assign ?body ?done ?stop
  case hKb =>
    intro W l o o' hl hl2 ho _
    have hr : ∀ r, some l = some r → ∃ o : Obj, W.heap[r]? = some o ∧ o.isCells = false := fun r e => by cases e; exact ⟨o, hl2, ho⟩
    exact ⟨fun hb => (grownBy_keeps_cells (grownBy_putObj' W l o') hr hb rfl).trans hb, fun he => cell_kept he (grownBy_putObj' W l o') hr⟩
  case assign =>
    intro l x W K hK
    obtain ⟨c, bad⟩ := x
    cases bad with
    | true =>
      simp only [encS, if_true] at hK ⊢
      gi_wp2
      exact hK
    | false =>
      simp only [encS, Bool.false_eq_true, if_false] at hK ⊢
      gi_wp2
      exact hK
  case body =>
    rintro l pre x W _ hlen
    exact absurd hlen (Nat.not_lt_zero _)
  case done =>
    rintro D ys W hD _ ⟨hc, hB⟩ hK
    have herW : ErrAt a W := (hB.cell (p := ⟨2, 0, none⟩) (by show 2 < n0; omega)).trans E1.out
    unfold ErrAt at herW
    gi_wp2_with fail
    refine ⟨trivial, (callsIn_wide.2 (is_same a W)).mono ?_⟩
    rintro e w4 ⟨rfl, rfl⟩
    gi_wp2
    rw [Exit.noGoto_ret]
    refine ⟨by simp, .inl ⟨_, _, rfl, run_takeDeferred hK, ?_⟩⟩
    refine ⟨_, results_tmp2 rfl _ _ _, rfl, ?_⟩
    refine b1.trans ((hB.mono (by rw [← Hn0.out, Z1.out]; exact Nat.le_refl _)).trans (belowK_b (w := w) (Nat.le_refl _) W D _ _ ?_ hK rfl rfl))
    rw [← Z1.out, Hn0.out]
    omega
  case stop =>
    rintro D c pre W _ _ h _
    exact h.elim

/-- The symbol whose text it is. -/
def unqL (l : List UInt8) : Option (List UInt8) := (betw l).bind fun inner => unqS (seqS inner.length inner)
theorem betw_len (l inner : List UInt8) (h : betw l = some inner) : inner.length ≤ l.length := by
  unfold betw at h
  split at h
  · cases h
    exact Nat.le_trans (Lib.trimSuffix_le _ _) (Lib.trimPrefix_le _ _)
  · cases h

theorem unquote_c (s : ByteArray) (a : Addr) (w : World) (hs : s.size ≤ 1073741824) (E : Env a w) :
    Calls Tryz.prog 87 #[.string s] w fun e W' => e = .returned (unqV (unqL s.data.toList)) ∧ Below w.heap.size w W' := by
  have hb := between_c s a w hs E.err
  unfold unqL
  cases hi : betw s.data.toList with
  | none =>
    rw [hi] at hb
    exact callsIn_wide.1 (unquote_bad s a w E.size E.err hb)
  | some inner =>
    rw [hi] at hb
    have hl := betw_len _ _ hi
    have hlen : s.data.toList.length = s.size := by simp
    exact callsIn_wide.1 (unquote_ok s inner (by omega) a w E.size E.err hb)
end Go.Proofs.YtfcfehflocglpabGreatDoor
namespace Go.Proofs.YtfcfehflocglpabGreatDoor
open Go.RowKit

theorem sign_kinds_fin : ∀ c : Fin 256, (sign (UInt8.ofNat c.1) = [UInt8.ofNat c.1] ∧ UInt8.ofNat c.1 ≠ 92 ∧ UInt8.ofNat c.1 ≠ 34 ∧ plainB ((UInt8.ofNat c.1).toNat : Int) = true) ∨
    (sign (UInt8.ofNat c.1) = [92, 110] ∧ UInt8.ofNat c.1 = 10) ∨ (sign (UInt8.ofNat c.1) = [92, 34] ∧ UInt8.ofNat c.1 = 34) ∨ (sign (UInt8.ofNat c.1) = [92, 92] ∧ UInt8.ofNat c.1 = 92) ∨
    (sign (UInt8.ofNat c.1) = [92, 120, hexL.getD (c.1 / 16) 0, hexL.getD (c.1 % 16) 0] ∧ hexIx (hexL.getD (c.1 / 16) 0) = (c.1 / 16 : Nat) ∧ hexIx (hexL.getD (c.1 % 16) 0) = (c.1 % 16 : Nat) ∧ plainB (c.1 : Int) = false ∧ c.1 ≠ 10) := by decide +kernel
theorem hex_back_fin : ∀ c : Fin 256, 0 ≤ hexIx (UInt8.ofNat c.1) → hexL.getD (hexIx (UInt8.ofNat c.1)).toNat 0 = UInt8.ofNat c.1 := by decide +kernel
theorem hex_back (c : UInt8) (h : 0 ≤ hexIx c) : hexL.getD (hexIx c).toNat 0 = c := by
  have := hex_back_fin ⟨c.toNat, c.toNat_lt⟩
  simp only [ofNat_toNat] at this
  exact this h
theorem sign_hex_fin : ∀ h l : Fin 16, plainB (16 * (h.1 : Int) + (l.1 : Int)) = false → 16 * (h.1 : Int) + (l.1 : Int) ≠ 10 → sign (UInt8.ofNat (16 * h.1 + l.1)) = [92, 120, hexL.getD h.1 0, hexL.getD l.1 0] := by decide +kernel
theorem sign_plain_fin : ∀ c : Fin 256, UInt8.ofNat c.1 ≠ 92 → UInt8.ofNat c.1 ≠ 34 → plainB ((UInt8.ofNat c.1).toNat : Int) = true → sign (UInt8.ofNat c.1) = [UInt8.ofNat c.1] := by decide +kernel

theorem firstS_sign (c : UInt8) (r : List UInt8) : firstS (sign c ++ r) = some (c, (sign c).length) := by
  have hk := sign_kinds_fin ⟨c.toNat, c.toNat_lt⟩
  simp only [ofNat_toNat] at hk
  rcases hk with ⟨hs, h1, h2, h3⟩ | ⟨hs, h1⟩ | ⟨hs, h1⟩ | ⟨hs, h1⟩ | ⟨hs, h1, h2, h3, h4⟩
  · rw [hs]
    unfold firstS
    simp only [List.cons_append, List.nil_append, List.getD_cons_zero, List.length_cons, List.length_nil]
    rw [if_neg h1, if_neg (by rintro (h | h); exact h2 h; exact h h3)]
  · rw [hs, h1]
    simp [firstS, escS]
  · rw [hs, h1]
    simp [firstS, escS]
  · rw [hs, h1]
    simp [firstS, escS]
  · rw [hs]
    have e : 16 * hexIx (hexL.getD (c.toNat / 16) 0) + hexIx (hexL.getD (c.toNat % 16) 0) = (c.toNat : Int) := by rw [h1, h2]; omega
    have hx : hexS4 (92 :: 120 :: hexL.getD (c.toNat / 16) 0 :: hexL.getD (c.toNat % 16) 0 :: r) = some (c, 4) := by
      unfold hexS4
      simp only [List.getD_cons_zero, List.getD_cons_succ, List.length_cons]
      rw [if_neg (by omega), if_neg (by rw [h1, h2]; omega), e, if_neg (by rw [h3]; rintro (h | h); cases h; exact h4 (by omega))]
      simp
    unfold firstS escS
    simp only [List.cons_append, List.nil_append, List.getD_cons_zero, List.getD_cons_succ, List.length_cons, List.length_nil, if_true]
    rw [if_neg (by omega), if_neg (by decide), if_neg (by decide), if_neg (by decide), hx]

theorem firstS_back {l : List UInt8} {c : UInt8} {n : Nat} (h : firstS l = some (c, n)) : l = sign c ++ l.drop n := by
  cases l with
  | nil =>
    have h0 : firstS [] = none := by decide
    rw [h0] at h
    cases h
  | cons x r =>
    unfold firstS at h
    simp only [List.getD_cons_zero] at h
    by_cases hx : x = 92
    · subst hx
      rw [if_pos rfl] at h
      unfold escS at h
      cases r with
      | nil => simp at h
      | cons y r =>
        simp only [List.getD_cons_zero, List.getD_cons_succ, List.length_cons] at h
        rw [if_neg (by omega)] at h
        by_cases y1 : y = 110
        · subst y1
          rw [if_pos rfl] at h
          cases h
          rfl
        rw [if_neg y1] at h
        by_cases y2 : y = 34
        · subst y2
          rw [if_pos rfl] at h
          cases h
          rfl
        rw [if_neg y2] at h
        by_cases y3 : y = 92
        · subst y3
          rw [if_pos rfl] at h
          cases h
          rfl
        rw [if_neg y3] at h
        by_cases y4 : y = 120
        · subst y4
          rw [if_pos rfl] at h
          unfold hexS4 at h
          cases r with
          | nil => simp at h
          | cons a r =>
          cases r with
          | nil => simp at h
          | cons b r =>
            simp only [List.getD_cons_zero, List.getD_cons_succ, List.length_cons] at h
            rw [if_neg (by omega)] at h
            by_cases hn : hexIx a < 0 ∨ hexIx b < 0
            · rw [if_pos hn] at h; cases h
            rw [if_neg hn] at h
            by_cases hp : plainB (16 * hexIx a + hexIx b) = true ∨ 16 * hexIx a + hexIx b = 10
            · rw [if_pos hp] at h; cases h
            rw [if_neg hp] at h
            cases h
            have ha := hexIx_in a
            have hb := hexIx_in b
            have ea := hex_back a (by omega)
            have eb := hex_back b (by omega)
            have hs := sign_hex_fin ⟨(hexIx a).toNat, by omega⟩ ⟨(hexIx b).toNat, by omega⟩
            simp only [Int.toNat_of_nonneg (show 0 ≤ hexIx a by omega), Int.toNat_of_nonneg (show 0 ≤ hexIx b by omega), ea, eb] at hs
            have e : (16 * hexIx a + hexIx b).toNat = 16 * (hexIx a).toNat + (hexIx b).toNat := by omega
            rw [e, hs (by simpa using fun h => hp (.inl h)) (fun h => hp (.inr h))]
            rfl
        · rw [if_neg y4] at h; cases h
    · rw [if_neg hx] at h
      by_cases hp : x = 34 ∨ ¬ plainB (x.toNat : Int) = true
      · rw [if_pos hp] at h; cases h
      rw [if_neg hp] at h
      cases h
      have hs := sign_plain_fin ⟨c.toNat, c.toNat_lt⟩
      simp only [ofNat_toNat] at hs
      rw [hs hx (fun h => hp (.inl h)) (Decidable.byContradiction fun h => hp (.inr h))]
      rfl

theorem seqS_flat : ∀ (t : List UInt8) (f : Nat), (t.flatMap sign).length ≤ f → seqS f (t.flatMap sign) = t.map fun c => (c, false)
  | [], f, _ => by simp [seqS_nil]
  | c :: t, f, hf => by
    have hc := sign_ne c
    have hl : 1 ≤ (sign c).length := by
      cases h : sign c with
      | nil => exact absurd h hc
      | cons => simp
    simp only [List.flatMap_cons, List.length_append] at hf ⊢
    obtain ⟨g, rfl⟩ : ∃ g, f = g + 1 := ⟨f - 1, by omega⟩
    rw [seqS_some g _ c (sign c).length (by simp [hc]) (firstS_sign c _), List.drop_left, seqS_flat t g (by omega)]
    rfl

theorem seqS_back : ∀ (f : Nat) (l : List UInt8), l.length ≤ f → ((seqS f l).all fun x => !x.2) = true → ((seqS f l).map (·.1)).flatMap sign = l
  | 0, l, hf, _ => by
    have : l = [] := List.eq_nil_of_length_eq_zero (by omega)
    subst this
    rfl
  | f + 1, l, hf, hall => by
    by_cases hne : l = []
    · subst hne; rw [seqS_nil]; rfl
    cases hr : firstS l with
    | none =>
      rw [seqS_none f l hne hr] at hall
      cases hall
    | some x =>
      obtain ⟨c, n⟩ := x
      have hn := firstS_len l c n hne hr
      rw [seqS_some f l c n hne hr] at hall ⊢
      simp only [List.all_cons, Bool.and_eq_true] at hall
      have ih := seqS_back f (l.drop n) (by simp; omega) hall.2
      simp only [List.map_cons, List.flatMap_cons]
      rw [ih]
      exact (firstS_back hr).symm

theorem unqS_flat (t : List UInt8) : unqS (seqS (t.flatMap sign).length (t.flatMap sign)) = some t := by
  rw [seqS_flat t _ (Nat.le_refl _)]
  unfold unqS
  rw [if_pos (by simp)]
  simp [Function.comp_def]
theorem unqS_back {l t : List UInt8} (h : unqS (seqS l.length l) = some t) : t.flatMap sign = l := by
  unfold unqS at h
  split at h
  · rename_i hall
    cases h
    exact seqS_back _ l (Nat.le_refl _) hall
  · cases h

theorem betw_quote (m : List UInt8) : betw (34 :: (m ++ [34])) = some m := by
  have h1 : Lib.hasPrefix (34 :: (m ++ [34])) [34] = true := by simp [Lib.hasPrefix]
  have h2 : Lib.trimPrefix (34 :: (m ++ [34])) [34] = m ++ [34] := by unfold Lib.trimPrefix; rw [if_pos h1]; rfl
  have h3 : Lib.hasSuffix (m ++ [34]) [34] = true := by unfold Lib.hasSuffix; rw [List.isSuffixOf_iff_suffix]; exact ⟨m, rfl⟩
  unfold betw
  rw [h2, if_pos ⟨h1, h3⟩]
  unfold Lib.trimSuffix
  rw [if_pos h3]
  simp
theorem betw_back {l m : List UInt8} (h : betw l = some m) : l = 34 :: (m ++ [34]) := by
  unfold betw at h
  split at h
  · rename_i hc
    obtain ⟨h1, h2⟩ := hc
    cases h
    have e1 : Lib.trimPrefix l [34] = l.drop 1 := by unfold Lib.trimPrefix; rw [if_pos h1]; rfl
    have p1 : [34] <+: l := List.isPrefixOf_iff_prefix.1 h1
    obtain ⟨r, rfl⟩ := p1
    simp only [List.cons_append, List.nil_append, List.drop_succ_cons, List.drop_zero] at e1 h2 ⊢
    rw [e1] at h2 ⊢
    obtain ⟨q, hq⟩ : [34] <:+ r := by unfold Lib.hasSuffix at h2; exact List.isSuffixOf_iff_suffix.1 h2
    subst hq
    unfold Lib.trimSuffix
    rw [if_pos h2]
    simp
  · cases h

theorem unqL_quote (t : List UInt8) : unqL (quoteL t) = some t := by
  unfold unqL quoteL
  rw [betw_quote]
  exact unqS_flat t
theorem unqL_back {l t : List UInt8} (h : unqL l = some t) : quoteL t = l := by
  unfold unqL at h
  cases hb : betw l with
  | none => rw [hb] at h; cases h
  | some m =>
    rw [hb] at h
    have h2 := unqS_back (show unqS (seqS m.length m) = some t from h)
    rw [betw_back hb]
    unfold quoteL
    rw [h2]
theorem unqL_len {l t : List UInt8} (h : unqL l = some t) : t.length ≤ l.length := by
  have e := unqL_back h
  have hl : (quoteL t).length = l.length := by rw [e]
  have h2 : ∀ t : List UInt8, t.length ≤ (t.flatMap sign).length := by
    intro t
    induction t with
    | nil => simp
    | cons c t ih =>
      have hc := sign_ne c
      have h1 : 1 ≤ (sign c).length := by
        cases h : sign c with
        | nil => exact absurd h hc
        | cons => simp
      simp only [List.flatMap_cons, List.length_append, List.length_cons]
      omega
  have h3 := h2 t
  unfold quoteL at hl
  simp only [List.length_cons, List.length_append, List.length_nil] at hl
  omega
end Go.Proofs.YtfcfehflocglpabGreatDoor
