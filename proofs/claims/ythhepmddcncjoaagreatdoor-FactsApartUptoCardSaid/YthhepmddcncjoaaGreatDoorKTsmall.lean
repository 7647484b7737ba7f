/- long and Small of the laws of layer 3. dtree.hasShape, canBeReckoned, isCountOfColumns. dtree.hasShape of a term of two parts; hasShape, whole. soritesref03: two, leaf, RightTerm, noTerm, noAtom, RightAtom. soritesref03: noTerm, noAtom, RightAtom. -/
import Derived.Test.YthhepmddcncjoaaGreatDoorKTlook
import Derived.Test.YthhepmddcncjoaaGreatDoorKConv
set_option linter.unusedSimpArgs false
set_option linter.unusedVariables false
namespace Go.Proofs.YthhepmddcncjoaaGreatDoor
open Go.RowKit

theorem longB_drop {l : List ByteArray} {k : Nat} {t : ByteArray} (h : l[k]? = some t) : longB' (l.drop k) = (decide (1000 < t.size) || longB' (l.drop (k + 1))) := by
  have h1 : l.drop k = t :: l.drop (k + 1) := by rw [List.drop_eq_getElem_cons (List.getElem?_eq_some_iff.1 h).1, (List.getElem?_eq_some_iff.1 h).2]
  rw [h1]; rfl
theorem anyD_drop {α : Type} {f : α → Bool} {l : List α} {k : Nat} {t : α} (h : l[k]? = some t) : (l.drop k).any f = (f t || (l.drop (k + 1)).any f) := by
  have h1 : l.drop k = t :: l.drop (k + 1) := by rw [List.drop_eq_getElem_cons (List.getElem?_eq_some_iff.1 h).1, (List.getElem?_eq_some_iff.1 h).2]
  rw [h1]; rfl
theorem retB {a b : Bool} (h : a = b) : Ending.returned (.bool a) = .returned (.bool b) := by rw [h]

set_option maxRecDepth 100000 in
set_option maxHeartbeats 4000000 in
theorem long_c (l : List ByteArray) (v : Value) (w : World) (h : SlOf w w.heap.size 1 StrC l v) :
    Calls Tryz.prog 24 #[v] w fun e w' => e = .returned (.bool (longB' l)) ∧ w = w' := by
  obtain ⟨o1, cap1, rfl, hc1, hm1, S1⟩ := SlOf.open h
  clear h
  go_enter Tryz.func24, Tryz.ntmps24
  go_wp2
  go_loop [3] (fun i => ∃ k : Nat, k ≤ l.length ∧ i = .int .i64 k ∧ longB' l = longB' (l.drop k)) (fun i => l.length - (intOf i).toNat)
  case atStart => exact ⟨0, Nat.zero_le _, rfl, rfl⟩
  case round =>
    obtain ⟨k, hk, rfl, hr⟩ := hrel
    have Hr := Lib.hid hr
    clear hr
    by_cases hlt : k < l.length
    · have hlt' : (k : Int) < (l.length : Int) := by omega
      obtain ⟨xe, ht⟩ : ∃ xe, l[k]? = some xe := ⟨l[k], List.getElem?_eq_getElem hlt⟩
      obtain ⟨a, rfl, ha, hz, c0⟩ := str_at S1 (Below.refl _ _) ht
      have Hst := Lib.hid (Hr.out.trans (longB_drop ht))
      unfold maxLen at hz
      clear ht
      by_cases hbig : 1000 < xe.size
      · have hbig' : (1000 : Int) < (xe.size : Int) := by omega
        have Hz : Hid (longB' l = true) := Lib.hid (by rw [Hst.out, decide_eq_true hbig]; rfl)
        go_wp2
        go_ret
        exact ⟨by rw [Hz.out]; rfl, rfl⟩
      · have hbig' : ¬ (1000 : Int) < (xe.size : Int) := by omega
        have Hz : Hid (longB' l = longB' (l.drop (k + 1))) := Lib.hid (by rw [Hst.out, decide_eq_false hbig]; rfl)
        go_wp2
        go_round
        case rel => exact ⟨k + 1, hlt, by go_num, Hz.out⟩
        case measure => simp [intOf]; omega
    · have hlt' : ¬ (k : Int) < (l.length : Int) := by omega
      have Hz : Hid (longB' l = false) := Lib.hid (by rw [Hr.out, List.drop_of_length_le (by omega)]; rfl)
      go_wp2
      go_ret
      exact ⟨by rw [Hz.out]; rfl, rfl⟩

def smallI (p : Pg) : Int := if smallP p = true then 1 else 0
set_option maxRecDepth 100000 in
set_option maxHeartbeats 4000000 in
theorem small_c (t : Pg) (w : World) (cs : List Value) (hc : PgC w w.heap.size t cs) :
    Calls Tryz.prog 11 #[.agg cs.toArray] w fun e w' => e = .returned (.int .i64 (smallI t)) ∧ Below w.heap.size w w' := by
  obtain ⟨p1, q1, r1, s1, rfl, a1, t1⟩ := hc.look
  obtain ⟨o1, cap1, e1, hc1, hm1, S1⟩ := SlOf.open a1
  cases e1
  obtain ⟨o2, cap2, e2, hc2, hm2, S2⟩ := SlOf.open t1
  cases e2
  clear hc a1 t1
  have HB0 : Hid (∀ (x : Obj), Below w.heap.size w (w.alloc x)) := Lib.hid fun x => (Below.refl _ _).alloc (Nat.le_refl _) _
  go_enter Tryz.func11, Tryz.ntmps11
  go_wp2
  go_loopw [4] (fun i wr => ∃ k : Nat, k ≤ t.decls.length ∧ i = .int .i64 k ∧ t.decls.any bigD = (t.decls.drop k).any bigD ∧ Below (w.heap.size + 1) (w.alloc (.cells #[.slice p1 t.decls.length q1, .slice r1 t.rules.length s1] 25)) wr) (fun i _ => t.decls.length - (intOf i).toNat)
  case atStart => exact ⟨0, Nat.zero_le _, rfl, rfl, Below.refl _ _⟩
  case round =>
    obtain ⟨k, hk, rfl, hr, hB2⟩ := hrel
    have hB : Below w.heap.size w wr := (HB0.out _).trans (hB2.mono (by omega))
    have Hr := Lib.hid hr
    clear hr
    have hBs := hB2.size
    simp only [World.size_alloc] at hBs
    have hz0 : w.heap.size < wr.heap.size := by omega
    have x0 : wr.cell? ⟨w.heap.size, 0, none⟩ = some (.slice p1 t.decls.length q1) := (hB2.cell (p := ⟨w.heap.size, 0, none⟩) (by show w.heap.size < _; omega)).trans (by go_simp)
    by_cases hlt : k < t.decls.length
    · have hlt' : (k : Int) < (t.decls.length : Int) := by omega
      obtain ⟨xe, ht⟩ : ∃ xe, t.decls[k]? = some xe := ⟨t.decls[k], List.getElem?_eq_getElem hlt⟩
      obtain ⟨a, p3, q3, p4, q4, rfl, ha, Hc, c0, c1, c2, c3, c4, c5⟩ := de_at S1 hB ht
      have hal : (a.add (k * 6)).block < wr.heap.size := by rw [addBlock]; omega
      have Hst := Lib.hid (Hr.out.trans (anyD_drop (f := bigD) ht))
      clear ht
      obtain ⟨_, _, _, _, e1, hz, _, Ln, _⟩ := Hc.out.look
      cases e1
      unfold maxLen at hz
      have HL := Lib.hid (long_c xe.names _ wr Ln)
      clear Ln
      by_cases hbig : 1000 < xe.rel.size
      · have hbig' : (1000 : Int) < (xe.rel.size : Int) := by omega
        have Hz : Hid (smallI t = 0) := Lib.hid (by unfold smallI smallP; rw [Hst.out, bigD, decide_eq_true hbig]; simp)
        go_wp2
        go_ret
        exact ⟨retI (by rw [Hz.out]), hB⟩
      · have hbig' : ¬ (1000 : Int) < (xe.rel.size : Int) := by omega
        go_wp2_with fail
        refine HL.out.mono ?_
        rintro e w' ⟨rfl, rfl⟩
        cases hlg : longB' xe.names with
        | true =>
          have Hz : Hid (smallI t = 0) := Lib.hid (by unfold smallI smallP; rw [Hst.out, bigD, hlg]; simp)
          clear hlg
          go_wp2
          go_ret
          exact ⟨retI (by rw [Hz.out]), hB⟩
        | false =>
          have Hz : Hid (t.decls.any bigD = (t.decls.drop (k + 1)).any bigD) := Lib.hid (by rw [Hst.out, bigD, hlg, decide_eq_false hbig]; rfl)
          clear hlg
          go_wp2
          go_roundw
          case rel => exact ⟨k + 1, hlt, by go_num, Hz.out, hB2⟩
          case measure => simp [intOf]; omega
    · have hlt' : ¬ (k : Int) < (t.decls.length : Int) := by omega
      have HN : Hid (t.decls.any bigD = false) := Lib.hid (by rw [Hr.out, List.drop_of_length_le (by omega)]; rfl)
      clear Hr
      go_wp2
      go_loopw [3, 5] (fun lv i wr => ∃ (k : Nat) (L : Int), k ≤ t.rules.length ∧ i = .int .i64 k ∧ lv = .int .i64 L ∧ -1 ≤ L ∧ L ≤ 1000000 ∧ foldS sizeR t.rules (2000) = foldS sizeR (t.rules.drop k) L ∧ Below (w.heap.size + 1) (w.alloc (.cells #[.slice p1 t.decls.length q1, .slice r1 t.rules.length s1] 25)) wr) (fun _ i _ => t.rules.length - (intOf i).toNat)
      case atStart => exact ⟨0, 2000, Nat.zero_le _, rfl, rfl, by omega, by omega, rfl, hB2⟩
      case round =>
        obtain ⟨k, L, hk, rfl, rfl, hL0, hL1, hr, hB2⟩ := hrel
        have hB : Below w.heap.size w wr := (HB0.out _).trans (hB2.mono (by omega))
        have Hr := Lib.hid hr
        clear hr
        have hBs := hB2.size
        simp only [World.size_alloc] at hBs
        have hz0 : w.heap.size < wr.heap.size := by omega
        have x0 : wr.cell? ⟨w.heap.size, 1, none⟩ = some (.slice r1 t.rules.length s1) := (hB2.cell (p := ⟨w.heap.size, 1, none⟩) (by show w.heap.size < _; omega)).trans (by go_simp)
        by_cases hlt : k < t.rules.length
        · have hlt' : (k : Int) < (t.rules.length : Int) := by omega
          by_cases hL : 0 ≤ L
          · obtain ⟨xe, ht⟩ : ∃ xe, t.rules[k]? = some xe := ⟨t.rules[k], List.getElem?_eq_getElem hlt⟩
            obtain ⟨a, p3, q3, p4, q4, rfl, ha, Hc, c0, c1, c2, c3⟩ := ru_at S2 hB ht
            have hal : (a.add (k * 4)).block < wr.heap.size := by rw [addBlock]; omega
            have Hst := Lib.hid (Hr.out.trans (foldS_drop (f := sizeR) ht hL))
            have Hm := Lib.hid (List.mem_of_getElem? ht)
            clear ht
            go_wp2_with fail
            refine (sizeRule_c xe L _ [_, _, _, _] hL hL1 Hc.out).mono ?_
            rintro e w1 ⟨rfl, b1⟩
            have hB3 := hB2.trans (b1.mono (by omega))
            have lo := sizeR_lo xe L hL
            obtain ⟨L2, hL2⟩ : ∃ L2, sizeR xe L = L2 := ⟨_, rfl⟩
            rw [hL2] at lo ⊢
            have Hst2 : Hid _ := Lib.hid (Hst.out.trans (by rw [hL2]))
            clear hL2
            go_wp2
            go_roundw
            case rel => exact ⟨k + 1, L2, hlt, by go_num, rfl, lo.1, by omega, Hst2.out, hB3⟩
            case measure => simp [intOf]; omega
          · have Hz2 := Lib.hid (Hr.out.trans (foldS_neg sizeR (t.rules.drop k) (by omega)))
            have Hz4 : Hid (smallI t = 0) := Lib.hid (by unfold smallI smallP; rw [Hz2.out, decide_eq_false hL]; simp)
            have hL' : L < 0 := by omega
            go_wp2
            (go_ret; exact ⟨retI (by rw [Hz4.out]), hB⟩)
        · have hlt' : ¬ (k : Int) < (t.rules.length : Int) := by omega
          have Hz2 : Hid (foldS sizeR t.rules (2000) = L) := Lib.hid (by rw [Hr.out, List.drop_of_length_le (by omega)]; rfl)
          have Hz3 := Lib.hid Hz2.out
          have xd : wr.cell? ⟨w.heap.size, 0, none⟩ = some (.slice p1 t.decls.length q1) := (hB2.cell (p := ⟨w.heap.size, 0, none⟩) (by show w.heap.size < _; omega)).trans (by go_simp)
          by_cases f1 : L < 0
          · have Hz4 : Hid (smallI t = 0) := Lib.hid (by unfold smallI smallP; rw [Hz3.out, decide_eq_false (show ¬ 0 ≤ L by omega)]; simp)
            go_wp2
            (go_ret; exact ⟨retI (by rw [Hz4.out]), hB⟩)
          by_cases f2 : 100 < t.decls.length
          · have f2' : (100 : Int) < (t.decls.length : Int) := by omega
            have Hz4 : Hid (smallI t = 0) := Lib.hid (by unfold smallI smallP; rw [decide_eq_false (show ¬ t.decls.length ≤ 100 by omega)]; simp)
            go_wp2
            (go_ret; exact ⟨retI (by rw [Hz4.out]), hB⟩)
          have f2' : ¬ (100 : Int) < (t.decls.length : Int) := by omega
          by_cases f3 : 300 < t.rules.length
          · have f3' : (300 : Int) < (t.rules.length : Int) := by omega
            have Hz4 : Hid (smallI t = 0) := Lib.hid (by unfold smallI smallP; rw [decide_eq_false (show ¬ t.rules.length ≤ 300 by omega)]; simp)
            go_wp2
            (go_ret; exact ⟨retI (by rw [Hz4.out]), hB⟩)
          have f3' : ¬ (300 : Int) < (t.rules.length : Int) := by omega
          have Hz4 : Hid (smallI t = 1) := Lib.hid (by unfold smallI smallP; rw [Hz3.out, decide_eq_true (show 0 ≤ L by omega), decide_eq_true (show t.rules.length ≤ 300 by omega), decide_eq_true (show t.decls.length ≤ 100 by omega), HN.out]; rfl)
          go_wp2
          (go_ret; exact ⟨retI (by rw [Hz4.out]), hB⟩)
end Go.Proofs.YthhepmddcncjoaaGreatDoor
namespace Go.Proofs.YthhepmddcncjoaaGreatDoor
open Go.RowKit

theorem kept {W w1 : World} {B : Nat} (hb : Below B W w1) : (∀ b o, b < B → w1.cell? ⟨b, o, none⟩ = W.cell? ⟨b, o, none⟩) ∧ (∀ b o, b < B → w1.frozen? ⟨b, o, none⟩ = W.frozen? ⟨b, o, none⟩) :=
  ⟨fun b o h => hb.cell (p := ⟨b, o, none⟩) h, fun b o h => hb.frozen (p := ⟨b, o, none⟩) h⟩
theorem count_c (n : Int) (w : World) : Calls Tryz.prog 107 #[.int .i64 n] w fun e w' => e = .returned (.bool (decide (1 ≤ n) && decide (n ≤ 8))) ∧ w = w' := by
  by_cases h1 : 1 ≤ n
  · by_cases h2 : n ≤ 8
    · go_enter Tryz.func107, Tryz.ntmps107
      go_wp2
      go_ret
      exact ⟨retB (by simp <;> omega), rfl⟩
    · go_enter Tryz.func107, Tryz.ntmps107
      go_wp2
      go_ret
      exact ⟨retB (by simp <;> omega), rfl⟩
  · go_enter Tryz.func107, Tryz.ntmps107
    go_wp2
    go_ret
    exact ⟨retB (by simp <;> omega), rfl⟩
theorem rec_c (t : Tm) (w : World) (cs : List Value) (hc : TmC w w.heap.size t cs) :
    Calls Tryz.prog 183 #[.agg cs.toArray] w fun e w' => e = .returned (.bool (recB t)) ∧ Below w.heap.size w w' := by
  obtain ⟨p1, q1, rfl, _, _, _, _⟩ := hc.look
  have Hz : Hid (recB t = ((t.op != 3) && (t.op != 4))) := Lib.hid rfl
  clear hc
  obtain ⟨b1, hb1⟩ : ∃ b, (t.op != 3) = b := ⟨_, rfl⟩
  obtain ⟨b2, hb2⟩ : ∃ b, (t.op != 4) = b := ⟨_, rfl⟩
  cases b1
  · go_enter Tryz.func183, Tryz.ntmps183
    go_wp2
    go_ret
    exact ⟨retB (by rw [Hz.out, hb1]; rfl), (Below.refl _ _).alloc (Nat.le_refl _) _⟩
  · cases b2
    · go_enter Tryz.func183, Tryz.ntmps183
      go_wp2
      go_ret
      exact ⟨retB (by rw [Hz.out, hb1, hb2]; rfl), (Below.refl _ _).alloc (Nat.le_refl _) _⟩
    · go_enter Tryz.func183, Tryz.ntmps183
      go_wp2
      go_ret
      exact ⟨retB (by rw [Hz.out, hb1, hb2]; rfl), (Below.refl _ _).alloc (Nat.le_refl _) _⟩

theorem empty_int (l : List Tm) : l.isEmpty = ((l.length : Int) == 0) := by cases l <;> simp <;> omega

set_option maxRecDepth 100000 in
set_option maxHeartbeats 4000000 in
theorem shape_leaf (op : Int) (s : ByteArray) (n : Int) (l : List Tm) (hop : twoB op = false) (w : World) (cs : List Value) (hc : TmC w w.heap.size (.mk op s n l) cs) :
    Calls Tryz.prog 166 #[.agg cs.toArray] w fun e w' => e = .returned (.bool (shapeB (.mk op s n l))) ∧ Below w.heap.size w w' := by
  obtain ⟨p1, q1, rfl, _, hz, _, t1⟩ := hc.look
  simp only [Tm.op_mk, Tm.s_mk, Tm.n_mk, Tm.l_mk] at hz t1 ⊢
  clear hc t1
  have hs0 : shapeB (.mk op s n l) = leafB (.mk op s n l) := by unfold shapeB; simp [hop]
  have h5 : (op == 5) = false := by unfold twoB at hop; simp at hop ⊢; exact hop.1.1
  have h6 : (op == 6) = false := by unfold twoB at hop; simp at hop ⊢; exact hop.1.2
  have h7 : (op == 7) = false := by unfold twoB at hop; simp at hop ⊢; exact hop.2
  obtain ⟨bn, hbn⟩ : ∃ b, (n == 0) = b := ⟨_, rfl⟩
  obtain ⟨bl, hbl⟩ : ∃ b, ((l.length : Int) == 0) = b := ⟨_, rfl⟩
  have hle := empty_int l
  rw [hbl] at hle
  have A0 : Hid (Below w.heap.size w (w.alloc (.cells #[.int .i64 op, .string s, .int .i64 n, .slice p1 l.length q1] 88))) := Lib.hid ((Below.refl _ _).alloc (Nat.le_refl _) _)
  by_cases o1 : op = 1
  · subst o1
    have Hz : Hid (shapeB (.mk 1 s n l) = (nameB s.data.toList && bn && bl)) := Lib.hid (by rw [hs0, ← hle, ← hbn]; rfl)
    have HN := Lib.hid (fun w => isName_any s w hz)
    clear hs0 hle
    go_enter Tryz.func166, Tryz.ntmps166
    go_wp2_with fail
    refine (HN.out _).mono ?_
    rintro e w1 ⟨rfl, b1⟩
    have B1 := A0.out.trans (b1.mono (by simp))
    obtain ⟨hc, hf⟩ := kept b1
    have hz1 : w.heap.size < w1.heap.size := by have := b1.size; simp at this; omega
    cases hnm : nameB s.data.toList
    · have Hz1 : Hid (shapeB (.mk 1 s n l) = false) := Lib.hid (by rw [Hz.out, hnm]; rfl)
      clear hnm
      go_wp2
      go_ret
      exact ⟨by rw [Hz1.out]; rfl, B1⟩
    · have Hz1 : Hid (shapeB (.mk 1 s n l) = (bn && bl)) := Lib.hid (by rw [Hz.out, hnm]; rfl)
      clear hnm
      cases bn <;> cases bl
      all_goals
        go_wp2
        go_ret
        exact ⟨by rw [Hz1.out]; rfl, B1⟩
  have e1 : (op == 1) = false := by simpa using o1
  by_cases o2 : op = 2
  · subst o2
    by_cases h0 : s.toList = []
    · have Hz : Hid (shapeB (.mk 2 s n l) = bl) := Lib.hid (by rw [hs0, ← hle]; show (s.toList.isEmpty && l.isEmpty) = _; rw [h0]; rfl)
      clear hs0 hle
      cases bl
      all_goals
        go_enter Tryz.func166, Tryz.ntmps166
        go_wp2
        go_ret
        exact ⟨by rw [Hz.out]; rfl, A0.out⟩
    · have Hz : Hid (shapeB (.mk 2 s n l) = false) := Lib.hid (by rw [hs0]; show (s.toList.isEmpty && l.isEmpty) = _; simp [h0])
      clear hs0 hle
      go_enter Tryz.func166, Tryz.ntmps166
      go_wp2
      go_ret
      exact ⟨by rw [Hz.out]; rfl, A0.out⟩
  have e2 : (op == 2) = false := by simpa using o2
  by_cases o3 : op = 3
  · subst o3
    have Hz : Hid (shapeB (.mk 3 s n l) = (bn && bl)) := Lib.hid (by rw [hs0, ← hle, ← hbn]; rfl)
    clear hs0 hle
    cases bn <;> cases bl
    all_goals
      go_enter Tryz.func166, Tryz.ntmps166
      go_wp2
      go_ret
      exact ⟨by rw [Hz.out]; rfl, A0.out⟩
  have e3 : (op == 3) = false := by simpa using o3
  by_cases o4 : op = 4
  · subst o4
    by_cases h0 : s.toList = []
    · have Hz : Hid (shapeB (.mk 4 s n l) = (bn && bl)) := Lib.hid (by rw [hs0, ← hle, ← hbn]; show (s.toList.isEmpty && (n == 0) && l.isEmpty) = _; rw [h0]; rfl)
      clear hs0 hle
      cases bn <;> cases bl
      all_goals
        go_enter Tryz.func166, Tryz.ntmps166
        go_wp2
        go_ret
        exact ⟨by rw [Hz.out]; rfl, A0.out⟩
    · have Hz : Hid (shapeB (.mk 4 s n l) = false) := Lib.hid (by rw [hs0]; show (s.toList.isEmpty && (n == 0) && l.isEmpty) = _; simp [h0])
      clear hs0 hle
      go_enter Tryz.func166, Tryz.ntmps166
      go_wp2
      go_ret
      exact ⟨by rw [Hz.out]; rfl, A0.out⟩
  have e4 : (op == 4) = false := by simpa using o4
  have Hz : Hid (shapeB (.mk op s n l) = false) := Lib.hid (by rw [hs0]; unfold leafB; simp [o1, o2, o3, o4])
  clear hs0 hle o1 o2 o3 o4 hop
  go_enter Tryz.func166, Tryz.ntmps166
  go_wp2
  go_ret
  exact ⟨by rw [Hz.out]; rfl, A0.out⟩
end Go.Proofs.YthhepmddcncjoaaGreatDoor
namespace Go.Proofs.YthhepmddcncjoaaGreatDoor
open Go.RowKit

theorem two_of {l : List Tm} (h : l.length = 2) : ∃ x y, l = [x, y] := by
  match l, h with
  | [x, y], _ => exact ⟨x, y, rfl⟩
def twoRec : List Tm → Bool
  | [a, b] => recB a && recB b
  | _ => false
theorem not_two {l : List Tm} (h : l.length ≠ 2) : twoRec l = false := by
  match l, h with
  | [], _ => rfl
  | [_], _ => rfl
  | [_, _], h => exact absurd rfl h
  | _ :: _ :: _ :: _, _ => rfl
theorem shapeB_two {op : Int} {s : ByteArray} {n : Int} {l : List Tm} (h : twoB op = true) : shapeB (.mk op s n l) = (s.toList.isEmpty && (n == 0) && twoRec l) := by
  have h' : twoB (Tm.mk op s n l).op = true := h
  unfold shapeB
  rw [if_pos h']
  match l with
  | [] => rfl
  | [_] => rfl
  | [_, _] => rfl
  | _ :: _ :: _ :: _ => rfl

set_option maxRecDepth 100000 in
set_option maxHeartbeats 4000000 in
theorem shape_two (op : Int) (s : ByteArray) (n : Int) (l : List Tm) (hop : op = 5 ∨ op = 6 ∨ op = 7) (w : World) (cs : List Value) (hc : TmC w w.heap.size (.mk op s n l) cs) :
    Calls Tryz.prog 166 #[.agg cs.toArray] w fun e w' => e = .returned (.bool (shapeB (.mk op s n l))) ∧ Below w.heap.size w w' := by
  obtain ⟨p1, q1, rfl, _, hz, _, t1⟩ := hc.look
  simp only [Tm.op_mk, Tm.s_mk, Tm.n_mk, Tm.l_mk] at hz t1 ⊢
  have ht2 : twoB op = true := by rcases hop with rfl | rfl | rfl <;> rfl
  have hs0 := shapeB_two (s := s) (n := n) (l := l) ht2
  clear hc ht2
  have A0 : Hid (Below w.heap.size w (w.alloc (.cells #[.int .i64 op, .string s, .int .i64 n, .slice p1 l.length q1] 88))) := Lib.hid ((Below.refl _ _).alloc (Nat.le_refl _) _)
  by_cases h0 : s.toList = []
  · obtain ⟨bn, hbn⟩ : ∃ b, (n == 0) = b := ⟨_, rfl⟩
    cases bn with
    | false =>
      have Hz : Hid (shapeB (.mk op s n l) = false) := Lib.hid (by rw [hs0, hbn]; simp)
      clear hs0
      rcases hop with rfl | rfl | rfl
      all_goals
        go_enter Tryz.func166, Tryz.ntmps166
        go_wp2
        go_ret
        exact ⟨by rw [Hz.out]; rfl, A0.out⟩
    | true =>
      obtain ⟨bl, hbl⟩ : ∃ b, ((l.length : Int) == 2) = b := ⟨_, rfl⟩
      cases bl with
      | false =>
        have hl2 : l.length ≠ 2 := by intro h; rw [h] at hbl; simp at hbl
        have Hz : Hid (shapeB (.mk op s n l) = false) := Lib.hid (by
          rw [hs0, not_two hl2, Bool.and_false])
        clear hs0
        rcases hop with rfl | rfl | rfl
        all_goals
          go_enter Tryz.func166, Tryz.ntmps166
          go_wp2
          go_ret
          exact ⟨by rw [Hz.out]; rfl, A0.out⟩
      | true =>
        have hl2 : l.length = 2 := by
          have : (l.length : Int) = 2 := by simpa using hbl
          omega
        obtain ⟨x, y, rfl⟩ := two_of hl2
        have Hz : Hid (shapeB (.mk op s n [x, y]) = (recB x && recB y)) := Lib.hid (by rw [hs0, h0, hbn]; rfl)
        obtain ⟨o1, cap1, e1, hc1, hm1, S1⟩ := SlOf.open t1
        cases e1
        obtain ⟨a, p3, q3, rfl, ha, Hc, c0, c1, c2, c3⟩ := tm_at S1 (Below.refl _ _) (show [x, y][0]? = some x from rfl)
        obtain ⟨a', p4, q4, e2, ha', Hd, d0, d1, d2, d3⟩ := tm_at S1 (Below.refl _ _) (show [x, y][1]? = some y from rfl)
        cases e2
        have hal : (a.add (0 * 4)).block < w.heap.size := by rw [addBlock]; omega
        have hal' : (a.add (1 * 4)).block < w.heap.size := by rw [addBlock]; omega
        simp only [Nat.zero_mul, Nat.one_mul] at c0 c1 c2 c3 d0 d1 d2 d3 hal hal'
        have ea : a.add 0 = a := by unfold Addr.add; simp
        rw [ea] at c0 c1 c2 c3 hal
        have e4 : a.add 4 = ⟨a.block, a.off + 4, none⟩ := by unfold Addr.add; simp
        simp only [e4] at d0 d1 d2 d3 hal'
        clear ea e4
        have HX := Lib.hid (fun (W : World) (hb : Below w.heap.size w W) => rec_c x W _ ((Hc.out.under hb).more hb.size))
        have HY := Lib.hid (fun (W : World) (hb : Below w.heap.size w W) => rec_c y W _ ((Hd.out.under hb).more hb.size))
        clear hs0 t1 S1 Hc Hd
        rcases hop with rfl | rfl | rfl
        all_goals
          go_enter Tryz.func166, Tryz.ntmps166
          go_wp2_with fail
          refine (HX.out _ A0.out).mono ?_
          rintro e w1 ⟨rfl, b1⟩
          have B1 := A0.out.trans (b1.mono (by simp))
          obtain ⟨hc, hf⟩ := kept b1
          have hz1 : w.heap.size < w1.heap.size := by have := b1.size; simp at this; omega
          have K := fun (p : Addr) (hp : p.block < w.heap.size) => B1.cell (p := p) hp
          have f0 := (K ⟨a.block, a.off + 4, none⟩ hal').trans d0
          have f1 := (K ⟨a.block, a.off + 4 + 1, none⟩ hal').trans d1
          have f2 := (K ⟨a.block, a.off + 4 + 2, none⟩ hal').trans d2
          have f3 := (K ⟨a.block, a.off + 4 + 3, none⟩ hal').trans d3
          clear K
          cases hx : recB x with
          | false =>
            have Hz1 := Lib.hid (Hz.out.trans (by rw [hx]; rfl : _ = false))
            clear hx
            go_wp2
            go_ret
            exact ⟨by rw [Hz1.out]; rfl, B1⟩
          | true =>
            have Hz1 := Lib.hid (Hz.out.trans (by rw [hx]; rfl : _ = recB y))
            clear hx
            go_wp2_with fail
            refine (HY.out _ B1).mono ?_
            rintro e w2 ⟨rfl, b2⟩
            go_wp2
            go_ret
            exact ⟨by rw [Hz1.out]; rfl, B1.trans (b2.mono (by omega))⟩
  · have Hz : Hid (shapeB (.mk op s n l) = false) := Lib.hid (by rw [hs0]; simp [h0])
    clear hs0
    rcases hop with rfl | rfl | rfl
    all_goals
      go_enter Tryz.func166, Tryz.ntmps166
      go_wp2
      go_ret
      exact ⟨by rw [Hz.out]; rfl, A0.out⟩

theorem tshape_c (t : Tm) (w : World) (cs : List Value) (hc : TmC w w.heap.size t cs) :
    Calls Tryz.prog 166 #[.agg cs.toArray] w fun e w' => e = .returned (.bool (shapeB t)) ∧ Below w.heap.size w w' := by
  obtain ⟨op, s, n, l⟩ := t
  cases h : twoB op with
  | false => exact shape_leaf op s n l h w cs hc
  | true => exact shape_two op s n l (by unfold twoB at h; simp at h; omega) w cs hc
end Go.Proofs.YthhepmddcncjoaaGreatDoor
namespace Go.Proofs.YthhepmddcncjoaaGreatDoor
open Go.RowKit

theorem boxq {W W1 : World} {B : Nat} (n : Nat) (hb : Below B W W1) (hn : n < B) : (∀ o, W1.cell? ⟨n, o, none⟩ = W.cell? ⟨n, o, none⟩) ∧ (∀ o, W1.frozen? ⟨n, o, none⟩ = W.frozen? ⟨n, o, none⟩) :=
  ⟨fun o => hb.cell (p := ⟨n, o, none⟩) hn, fun o => hb.frozen (p := ⟨n, o, none⟩) hn⟩
theorem rtwo_c (op : Int) (w : World) : Calls Tryz.prog 97 #[.int .i64 op] w fun e w' => e = .returned (.bool (twoB op)) ∧ w = w' := by
  have Hz : Hid (twoB op = ((op == 5) || (op == 6) || (op == 7))) := Lib.hid rfl
  obtain ⟨b1, hb1⟩ : ∃ b, (op == 5) = b := ⟨_, rfl⟩
  obtain ⟨b2, hb2⟩ : ∃ b, (op == 6) = b := ⟨_, rfl⟩
  obtain ⟨b3, hb3⟩ : ∃ b, (op == 7) = b := ⟨_, rfl⟩
  rw [hb1, hb2, hb3] at Hz
  cases b1 <;> cases b2 <;> cases b3
  all_goals
    go_enter Tryz.func97, Tryz.ntmps97
    go_wp2
    go_ret
    exact ⟨by rw [Hz.out]; rfl, rfl⟩

set_option maxRecDepth 100000 in
set_option maxHeartbeats 4000000 in
theorem rleaf_c (t : Tm) (w : World) (cs : List Value) (hc : TmC w w.heap.size t cs) :
    Calls Tryz.prog 159 #[.agg cs.toArray] w fun e w' => e = .returned (.bool (leafB t)) ∧ Below w.heap.size w w' := by
  obtain ⟨op, s, n, l⟩ := t
  obtain ⟨p1, q1, rfl, _, hz, _, t1⟩ := hc.look
  simp only [Tm.op_mk, Tm.s_mk, Tm.n_mk, Tm.l_mk] at hz t1 ⊢
  clear hc t1
  obtain ⟨bn, hbn⟩ : ∃ b, (n == 0) = b := ⟨_, rfl⟩
  obtain ⟨bl, hbl⟩ : ∃ b, ((l.length : Int) == 0) = b := ⟨_, rfl⟩
  have hle := empty_int l
  rw [hbl] at hle
  have A0 : Hid (Below w.heap.size w (w.alloc (.cells #[.int .i64 op, .string s, .int .i64 n, .slice p1 l.length q1] 88))) := Lib.hid ((Below.refl _ _).alloc (Nat.le_refl _) _)
  have HN := Lib.hid (fun w => refName_any s w hz)
  have HL : Hid (leafB (.mk op s n l) = if op = 1 then nameB s.data.toList && bn && bl else if op = 2 then s.toList.isEmpty && bl else if op = 3 then bn && bl else if op = 4 then s.toList.isEmpty && bn && bl else false) := Lib.hid (by rw [← hle, ← hbn]; rfl)
  clear hle
  by_cases o1 : op = 1
  · subst o1
    have Hz : Hid (leafB (.mk 1 s n l) = (nameB s.data.toList && bn && bl)) := Lib.hid (by rw [HL.out]; rfl)
    go_enter Tryz.func159, Tryz.ntmps159
    go_wp2_with fail
    refine (HN.out _).mono ?_
    rintro e w1 ⟨rfl, rfl⟩
    have B1 := A0.out
    obtain ⟨bm, hbm⟩ : ∃ b, nameB s.data.toList = b := ⟨_, rfl⟩
    rw [hbm] at Hz ⊢
    cases bm <;> cases bn <;> cases bl
    all_goals
      go_wp2
      go_ret
      exact ⟨by rw [Hz.out]; rfl, B1⟩
  have e1 : (op == 1) = false := by simpa using o1
  by_cases o2 : op = 2
  · subst o2
    have Hz : Hid (leafB (.mk 2 s n l) = (s.toList.isEmpty && bl)) := Lib.hid (by rw [HL.out]; rfl)
    go_enter Tryz.func159, Tryz.ntmps159
    go_wp2_with fail
    refine (HN.out _).mono ?_
    rintro e w1 ⟨rfl, rfl⟩
    have B1 := A0.out
    by_cases h0 : s.toList = []
    · have Hz1 : Hid (leafB (.mk 2 s n l) = bl) := Lib.hid (by rw [Hz.out, h0]; rfl)
      cases bl
      all_goals
        go_wp2
        go_ret
        exact ⟨by rw [Hz1.out]; rfl, B1⟩
    · have Hz1 : Hid (leafB (.mk 2 s n l) = false) := Lib.hid (by rw [Hz.out]; simp [h0])
      go_wp2
      go_ret
      exact ⟨by rw [Hz1.out]; rfl, B1⟩
  have e2 : (op == 2) = false := by simpa using o2
  by_cases o3 : op = 3
  · subst o3
    have Hz : Hid (leafB (.mk 3 s n l) = (bn && bl)) := Lib.hid (by rw [HL.out]; rfl)
    go_enter Tryz.func159, Tryz.ntmps159
    go_wp2_with fail
    refine (HN.out _).mono ?_
    rintro e w1 ⟨rfl, rfl⟩
    have B1 := A0.out
    cases bn <;> cases bl
    all_goals
      go_wp2
      go_ret
      exact ⟨by rw [Hz.out]; rfl, B1⟩
  have e3 : (op == 3) = false := by simpa using o3
  by_cases o4 : op = 4
  · subst o4
    have Hz : Hid (leafB (.mk 4 s n l) = (s.toList.isEmpty && bn && bl)) := Lib.hid (by rw [HL.out]; rfl)
    go_enter Tryz.func159, Tryz.ntmps159
    go_wp2_with fail
    refine (HN.out _).mono ?_
    rintro e w1 ⟨rfl, rfl⟩
    have B1 := A0.out
    by_cases h0 : s.toList = []
    · have Hz1 : Hid (leafB (.mk 4 s n l) = (bn && bl)) := Lib.hid (by rw [Hz.out, h0]; rfl)
      cases bn <;> cases bl
      all_goals
        go_wp2
        go_ret
        exact ⟨by rw [Hz1.out]; rfl, B1⟩
    · have Hz1 : Hid (leafB (.mk 4 s n l) = false) := Lib.hid (by rw [Hz.out]; simp [h0])
      go_wp2
      go_ret
      exact ⟨by rw [Hz1.out]; rfl, B1⟩
  have e4 : (op == 4) = false := by simpa using o4
  have Hz : Hid (leafB (.mk op s n l) = false) := Lib.hid (by rw [HL.out, if_neg o1, if_neg o2, if_neg o3, if_neg o4])
  clear HL o1 o2 o3 o4
  go_enter Tryz.func159, Tryz.ntmps159
  go_wp2_with fail
  refine (HN.out _).mono ?_
  rintro e w1 ⟨rfl, rfl⟩
  have B1 := A0.out
  go_wp2
  go_ret
  exact ⟨by rw [Hz.out]; rfl, B1⟩

def partT (h : Nat) (t : Tm) : Bool := recB t && rightT h t
theorem rightT_two {h : Nat} {op n : Int} {s : ByteArray} {x y : Tm} (h2 : twoB op = true) (hs : s.toList = []) (hn : (n == 0) = true) : rightT (h + 1) (.mk op s n [x, y]) = [x, y].all (partT h) := by
  have h2' : twoB (Tm.mk op s n [x, y]).op = true := h2
  unfold rightT
  rw [if_pos h2']
  simp only [Tm.s_mk, Tm.n_mk, Tm.l_mk, hs, hn, List.all_cons, List.all_nil, partT]
  simp
theorem rightT_not {h : Nat} {op n : Int} {s : ByteArray} {l : List Tm} (h2 : twoB op = true) (hx : s.toList ≠ [] ∨ (n == 0) = false ∨ l.length ≠ 2) : rightT (h + 1) (.mk op s n l) = false := by
  have h2' : twoB (Tm.mk op s n l).op = true := h2
  unfold rightT
  rw [if_pos h2']
  simp only [Tm.s_mk, Tm.n_mk, Tm.l_mk]
  rcases hx with hx | hx | hx
  · have : s.toList.isEmpty = false := by cases hs : s.toList <;> simp_all
    rw [this]; rfl
  · rw [hx]; simp
  · match l, hx with
    | [], _ => simp
    | [_], _ => simp
    | [_, _], h => exact absurd rfl h
    | _ :: _ :: _ :: _, _ => simp
theorem rightT_leaf {h : Nat} {t : Tm} (h2 : twoB t.op = false) : rightT (h + 1) t = leafB t := by
  unfold rightT
  rw [if_neg (by rw [h2]; simp)]
theorem all_drop' {α : Type} {f : α → Bool} {l : List α} {k : Nat} {t : α} (ht : l[k]? = some t) : (l.drop k).all f = (f t && (l.drop (k + 1)).all f) := by
  have h1 : l.drop k = t :: l.drop (k + 1) := by rw [List.drop_eq_getElem_cons (List.getElem?_eq_some_iff.1 ht).1, (List.getElem?_eq_some_iff.1 ht).2]
  rw [h1]; rfl

set_option maxRecDepth 100000 in
set_option maxHeartbeats 4000000 in
theorem rrightTerm_c : ∀ (h : Nat) (z : Int) (t : Tm) (w : World) (cs : List Value), z = h → h ≤ 20 → TmC w w.heap.size t cs →
    Calls Tryz.prog 130 #[.agg cs.toArray, .int .i64 z] w fun e w' => e = .returned (.bool (rightT h t)) ∧ Below w.heap.size w w' := by
  intro h
  induction h with
  | zero =>
    intro z t w cs hz hh hc
    obtain ⟨p1, q1, rfl, _, _, _, t1⟩ := hc.look
    have Hz : Hid (rightT 0 t = false) := Lib.hid (by unfold rightT; rfl)
    have hz' : z < 1 := by omega
    clear hc t1 hz
    go_enter Tryz.func130, Tryz.ntmps130
    go_wp2
    go_ret
    exact ⟨by rw [Hz.out]; rfl, (Below.refl _ _).alloc (Nat.le_refl _) _⟩
  | succ h ih =>
    intro z t w cs hz hh hc
    have HLF := Lib.hid (fun (W : World) (hb : Below w.heap.size w W) => rleaf_c t W cs ((hc.under hb).more hb.size))
    obtain ⟨op, s, n, l⟩ := t
    obtain ⟨p1, q1, rfl, _, hzs, _, t1⟩ := hc.look
    simp only [Tm.op_mk, Tm.s_mk, Tm.n_mk, Tm.l_mk] at hzs t1 HLF ⊢
    have hz' : ¬ z < 1 := by omega
    have hz20 : z ≤ 20 := by omega
    have IH := Lib.hid (fun (x : Tm) (W : World) (cs : List Value) (hx : TmC W W.heap.size x cs) => ih (z - 1) x W cs (by omega) (by omega) hx)
    have HB0 : Hid (∀ (x : Obj), Below w.heap.size w (w.alloc x)) := Lib.hid fun x => (Below.refl _ _).alloc (Nat.le_refl _) _
    clear ih hz
    cases h2 : twoB op with
    | false =>
      have Hz : Hid (rightT (h + 1) (.mk op s n l) = leafB (.mk op s n l)) := Lib.hid (rightT_leaf h2)
      have HT : Hid (∀ w, Calls Tryz.prog 97 #[.int .i64 op] w fun e w' => e = .returned (.bool false) ∧ w = w') := Lib.hid (fun w => by have := rtwo_c op w; rw [h2] at this; exact this)
      clear hc t1 h2
      go_enter Tryz.func130, Tryz.ntmps130
      go_wp2_with fail
      refine (HT.out _).mono ?_
      rintro e w1 ⟨rfl, rfl⟩
      go_wp2_with fail
      refine (HLF.out _ (HB0.out _)).mono ?_
      rintro e w2 ⟨rfl, b2⟩
      go_wp2
      go_ret
      exact ⟨by rw [Hz.out]; rfl, (HB0.out _).trans (b2.mono (by simp))⟩
    | true =>
      have HT : Hid (∀ w, Calls Tryz.prog 97 #[.int .i64 op] w fun e w' => e = .returned (.bool true) ∧ w = w') := Lib.hid (fun w => by have := rtwo_c op w; rw [h2] at this; exact this)
      by_cases h0 : s.toList = []
      · obtain ⟨bn, hbn⟩ : ∃ b, (n != 0) = b := ⟨_, rfl⟩
        cases bn with
        | true =>
          have Hz : Hid (rightT (h + 1) (.mk op s n l) = false) := Lib.hid (rightT_not h2 (.inr (.inl (by simpa using hbn))))
          clear hc t1 h2
          go_enter Tryz.func130, Tryz.ntmps130
          go_wp2_with fail
          refine (HT.out _).mono ?_
          rintro e w1 ⟨rfl, rfl⟩
          go_wp2
          go_ret
          exact ⟨by rw [Hz.out]; rfl, HB0.out _⟩
        | false =>
          obtain ⟨bl, hbl⟩ : ∃ b, ((l.length : Int) != 2) = b := ⟨_, rfl⟩
          cases bl with
          | true =>
            have Hz : Hid (rightT (h + 1) (.mk op s n l) = false) := Lib.hid (rightT_not h2 (.inr (.inr (by intro e; rw [e] at hbl; simp at hbl))))
            clear hc t1 h2
            go_enter Tryz.func130, Tryz.ntmps130
            go_wp2_with fail
            refine (HT.out _).mono ?_
            rintro e w1 ⟨rfl, rfl⟩
            go_wp2
            go_ret
            exact ⟨by rw [Hz.out]; rfl, HB0.out _⟩
          | false =>
            have hl2 : l.length = 2 := by have : (l.length : Int) = 2 := by simpa using hbl
                                          omega
            have Hz : Hid (rightT (h + 1) (.mk op s n l) = l.all (partT h)) := Lib.hid (by
              obtain ⟨x, y, rfl⟩ := two_of hl2
              exact rightT_two h2 h0 (by simpa using hbn))
            have Hl2 := Lib.hid hl2
            obtain ⟨o1, cap1, e1, hc1, hm1, S1⟩ := SlOf.open t1
            cases e1
            clear hc t1 h2 hl2
            go_enter Tryz.func130, Tryz.ntmps130
            go_wp2_with fail
            refine (HT.out _).mono ?_
            rintro e w1 ⟨rfl, rfl⟩
            go_wp2
            go_loopw [5] (fun i wr => ∃ k : Nat, k ≤ 2 ∧ i = .int .i64 k ∧ l.all (partT h) = (l.drop k).all (partT h) ∧ Below (w.heap.size + 1) (w.alloc (.cells #[.int .i64 op, .string s, .int .i64 n, .slice p1 l.length q1] 88)) wr) (fun i _ => 2 - (intOf i).toNat)
            case atStart => exact ⟨0, Nat.zero_le _, rfl, rfl, Below.refl _ _⟩
            case round =>
              obtain ⟨k, hk, rfl, hr, hB2⟩ := hrel
              have hB : Below w.heap.size w wr := (HB0.out _).trans (hB2.mono (by omega))
              have Hr := Lib.hid hr
              clear hr
              have hBs := hB2.size
              simp only [World.size_alloc] at hBs
              have hz0 : w.heap.size < wr.heap.size := by omega
              have x0 : wr.cell? ⟨w.heap.size, 3, none⟩ = some (.slice p1 l.length q1) := (hB2.cell (p := ⟨w.heap.size, 3, none⟩) (by show w.heap.size < _; omega)).trans (by go_simp)
              by_cases hlt : k < 2
              · have hlt' : (k : Int) < 2 := by omega
                have hlt2 : k < l.length := by have := Hl2.out; omega
                have hlt3 : (k : Int) < (l.length : Int) := by omega
                obtain ⟨t, ht⟩ : ∃ t, l[k]? = some t := ⟨l[k], List.getElem?_eq_getElem hlt2⟩
                obtain ⟨a, p3, q3, rfl, ha, Hc, c0, c1, c2, c3⟩ := tm_at S1 hB ht
                have hal : (a.add (k * 4)).block < wr.heap.size := by rw [addBlock]; omega
                have Hst := Lib.hid (Hr.out.trans (all_drop' (f := partT h) ht))
                clear ht
                obtain ⟨b3, hb3⟩ : ∃ b, (t.op == 3) = b := ⟨_, rfl⟩
                obtain ⟨b4, hb4⟩ : ∃ b, (t.op == 4) = b := ⟨_, rfl⟩
                cases b3 with
                | true =>
                  have Hz2 := Lib.hid (Hz.out.trans (Hst.out.trans (by unfold partT recB; simp at hb3; rw [hb3]; rfl : _ = false)))
                  go_wp2
                  go_ret
                  exact ⟨by rw [Hz2.out]; rfl, hB⟩
                | false =>
                cases b4 with
                | true =>
                  have Hz2 := Lib.hid (Hz.out.trans (Hst.out.trans (by unfold partT recB; simp at hb4; rw [hb4]; rfl : _ = false)))
                  go_wp2
                  go_ret
                  exact ⟨by rw [Hz2.out]; rfl, hB⟩
                | false =>
                have Hst2 := Lib.hid (Hst.out.trans (by unfold partT recB; rw [show (t.op != 3) = true by simpa using hb3, show (t.op != 4) = true by simpa using hb4]; rfl : _ = (rightT h t && (l.drop (k + 1)).all (partT h))))
                go_wp2_with fail
                refine (IH.out t _ _ Hc.out).mono ?_
                rintro e w1 ⟨rfl, b1⟩
                have hB3 := hB2.trans (b1.mono (by omega))
                cases hs : rightT h t with
                | false =>
                  have Hz2 := Lib.hid (Hz.out.trans (Hst2.out.trans (by rw [hs, Bool.false_and])))
                  clear hs
                  go_wp2
                  go_ret
                  exact ⟨by rw [Hz2.out]; rfl, (HB0.out _).trans (hB3.mono (by omega))⟩
                | true =>
                  have Hz2 := Lib.hid (Hst2.out.trans (by rw [hs, Bool.true_and]))
                  clear hs
                  go_wp2
                  go_roundw
                  case rel => exact ⟨k + 1, by omega, by go_num, Hz2.out, hB3⟩
                  case measure => simp [intOf]; omega
              · have hlt' : ¬ (k : Int) < 2 := by omega
                have Hz2 := Lib.hid (Hz.out.trans (Hr.out.trans (by rw [List.drop_of_length_le (by have := Hl2.out; omega)]; rfl : _ = true)))
                go_wp2
                go_ret
                exact ⟨by rw [Hz2.out]; rfl, hB⟩
      · have Hz : Hid (rightT (h + 1) (.mk op s n l) = false) := Lib.hid (rightT_not h2 (.inl h0))
        clear hc t1 h2
        go_enter Tryz.func130, Tryz.ntmps130
        go_wp2_with fail
        refine (HT.out _).mono ?_
        rintro e w1 ⟨rfl, rfl⟩
        go_wp2
        go_ret
        exact ⟨by rw [Hz.out]; rfl, HB0.out _⟩
end Go.Proofs.YthhepmddcncjoaaGreatDoor
namespace Go.Proofs.YthhepmddcncjoaaGreatDoor
open Go.RowKit

set_option maxRecDepth 100000 in
set_option maxHeartbeats 4000000 in
theorem rnoTerm_c (t : Tm) (w : World) (cs : List Value) (hc : TmC w w.heap.size t cs) :
    Calls Tryz.prog 131 #[.agg cs.toArray] w fun e w' => e = .returned (.bool (noT t)) ∧ Below w.heap.size w w' := by
  obtain ⟨op, s, n, l⟩ := t
  obtain ⟨p1, q1, rfl, _, hz, _, t1⟩ := hc.look
  simp only [Tm.op_mk, Tm.s_mk, Tm.n_mk, Tm.l_mk] at hz t1 ⊢
  clear hc t1
  obtain ⟨bo, hbo⟩ : ∃ b, (op == 0) = b := ⟨_, rfl⟩
  obtain ⟨bn, hbn⟩ : ∃ b, (n == 0) = b := ⟨_, rfl⟩
  obtain ⟨bl, hbl⟩ : ∃ b, ((l.length : Int) == 0) = b := ⟨_, rfl⟩
  have hle := empty_int l
  rw [hbl] at hle
  have A0 : Hid (Below w.heap.size w (w.alloc (.cells #[.int .i64 op, .string s, .int .i64 n, .slice p1 l.length q1] 88))) := Lib.hid ((Below.refl _ _).alloc (Nat.le_refl _) _)
  have HL : Hid (noT (.mk op s n l) = (bo && s.toList.isEmpty && bn && bl)) := Lib.hid (by rw [← hle, ← hbn, ← hbo]; rfl)
  clear hle
  by_cases h0 : s.toList = []
  · have Hz : Hid (noT (.mk op s n l) = (bo && bn && bl)) := Lib.hid (by rw [HL.out, h0]; cases bo <;> rfl)
    cases bo <;> cases bn <;> cases bl
    all_goals
      go_enter Tryz.func131, Tryz.ntmps131
      go_wp2
      go_ret
      exact ⟨by rw [Hz.out]; rfl, A0.out⟩
  · have Hz : Hid (noT (.mk op s n l) = false) := Lib.hid (by rw [HL.out]; simp [h0])
    cases bo
    all_goals
      go_enter Tryz.func131, Tryz.ntmps131
      go_wp2
      go_ret
      exact ⟨by rw [Hz.out]; rfl, A0.out⟩

set_option maxRecDepth 100000 in
set_option maxHeartbeats 4000000 in
theorem rnoAtom_c (t : Am) (w : World) (cs : List Value) (hc : AmC w w.heap.size t cs) :
    Calls Tryz.prog 132 #[.agg cs.toArray] w fun e w' => e = .returned (.bool (noA t)) ∧ Below w.heap.size w w' := by
  obtain ⟨s, l⟩ := t
  obtain ⟨p1, q1, rfl, hz, t1⟩ := hc.look
  clear hc t1
  simp only at hz ⊢
  obtain ⟨bl, hbl⟩ : ∃ b, ((l.length : Int) == 0) = b := ⟨_, rfl⟩
  have hle := empty_int l
  rw [hbl] at hle
  have A0 : Hid (Below w.heap.size w (w.alloc (.cells #[.string s, .slice p1 l.length q1] 58))) := Lib.hid ((Below.refl _ _).alloc (Nat.le_refl _) _)
  have HL : Hid (noA ⟨s, l⟩ = (s.toList.isEmpty && bl)) := Lib.hid (by rw [← hle]; rfl)
  clear hle
  by_cases h0 : s.toList = []
  · have Hz : Hid (noA ⟨s, l⟩ = bl) := Lib.hid (by rw [HL.out, h0]; rfl)
    cases bl
    all_goals
      go_enter Tryz.func132, Tryz.ntmps132
      go_wp2
      go_ret
      exact ⟨by rw [Hz.out]; rfl, A0.out⟩
  · have Hz : Hid (noA ⟨s, l⟩ = false) := Lib.hid (by rw [HL.out]; simp [h0])
    go_enter Tryz.func132, Tryz.ntmps132
    go_wp2
    go_ret
    exact ⟨by rw [Hz.out]; rfl, A0.out⟩

set_option maxRecDepth 100000 in
set_option maxHeartbeats 4000000 in
theorem rrightAtom_c (t : Am) (w : World) (cs : List Value) (hc : AmC w w.heap.size t cs) :
    Calls Tryz.prog 96 #[.agg cs.toArray] w fun e w' => e = .returned (.bool (rightA t)) ∧ Below w.heap.size w w' := by
  obtain ⟨s, l⟩ := t
  obtain ⟨p1, q1, rfl, hz, t1⟩ := hc.look
  simp only at hz t1 ⊢
  obtain ⟨o1, cap1, e1, hc1, hm1, S1⟩ := SlOf.open t1
  cases e1
  clear hc t1
  have HN := Lib.hid (fun w => refName_any s w hz)
  have HB0 : Hid (∀ (x : Obj), Below w.heap.size w (w.alloc x)) := Lib.hid fun x => (Below.refl _ _).alloc (Nat.le_refl _) _
  have Hz0 : Hid (rightA ⟨s, l⟩ = (nameB s.data.toList && decide (1 ≤ l.length) && decide (l.length ≤ 8) && l.all (rightT 20))) := Lib.hid rfl
  cases hnm : nameB s.data.toList with
  | false =>
    have Hz : Hid (rightA ⟨s, l⟩ = false) := Lib.hid (by rw [Hz0.out, hnm]; rfl)
    rw [hnm] at HN
    clear hnm
    go_enter Tryz.func96, Tryz.ntmps96
    go_wp2_with fail
    refine (HN.out _).mono ?_
    rintro e w1 ⟨rfl, rfl⟩
    go_wp2
    go_ret
    exact ⟨by rw [Hz.out]; rfl, HB0.out _⟩
  | true =>
  rw [hnm] at HN
  by_cases g1 : (l.length : Int) < 1
  · have Hz : Hid (rightA ⟨s, l⟩ = false) := Lib.hid (by rw [Hz0.out, decide_eq_false (show ¬ 1 ≤ l.length by omega)]; simp)
    clear hnm
    go_enter Tryz.func96, Tryz.ntmps96
    go_wp2_with fail
    refine (HN.out _).mono ?_
    rintro e w1 ⟨rfl, rfl⟩
    go_wp2
    go_ret
    exact ⟨by rw [Hz.out]; rfl, HB0.out _⟩
  by_cases g2 : (8 : Int) < (l.length : Int)
  · have Hz : Hid (rightA ⟨s, l⟩ = false) := Lib.hid (by rw [Hz0.out, decide_eq_false (show ¬ l.length ≤ 8 by omega)]; simp)
    clear hnm
    go_enter Tryz.func96, Tryz.ntmps96
    go_wp2_with fail
    refine (HN.out _).mono ?_
    rintro e w1 ⟨rfl, rfl⟩
    go_wp2
    go_ret
    exact ⟨by rw [Hz.out]; rfl, HB0.out _⟩
  have Hz : Hid (rightA ⟨s, l⟩ = l.all (rightT 20)) := Lib.hid (by rw [Hz0.out, hnm, decide_eq_true (show 1 ≤ l.length by omega), decide_eq_true (show l.length ≤ 8 by omega)]; rfl)
  clear hnm Hz0
  go_enter Tryz.func96, Tryz.ntmps96
  go_wp2_with fail
  refine (HN.out _).mono ?_
  rintro e w1 ⟨rfl, rfl⟩
  go_wp2
  go_loopw [4] (fun i wr => ∃ k : Nat, k ≤ l.length ∧ i = .int .i64 k ∧ l.all (rightT 20) = (l.drop k).all (rightT 20) ∧ Below (w.heap.size + 1) (w.alloc (.cells #[.string s, .slice p1 l.length q1] 58)) wr) (fun i _ => l.length - (intOf i).toNat)
  case atStart => exact ⟨0, Nat.zero_le _, rfl, rfl, Below.refl _ _⟩
  case round =>
    obtain ⟨k, hk, rfl, hr, hB2⟩ := hrel
    have hB : Below w.heap.size w wr := (HB0.out _).trans (hB2.mono (by omega))
    have Hr := Lib.hid hr
    clear hr
    have hBs := hB2.size
    simp only [World.size_alloc] at hBs
    have hz0 : w.heap.size < wr.heap.size := by omega
    have x0 : wr.cell? ⟨w.heap.size, 1, none⟩ = some (.slice p1 l.length q1) := (hB2.cell (p := ⟨w.heap.size, 1, none⟩) (by show w.heap.size < _; omega)).trans (by go_simp)
    by_cases hlt : k < l.length
    · have hlt' : (k : Int) < (l.length : Int) := by omega
      obtain ⟨t, ht⟩ : ∃ t, l[k]? = some t := ⟨l[k], List.getElem?_eq_getElem hlt⟩
      obtain ⟨a, p3, q3, rfl, ha, Hc, c0, c1, c2, c3⟩ := tm_at S1 hB ht
      have hal : (a.add (k * 4)).block < wr.heap.size := by rw [addBlock]; omega
      have Hst := Lib.hid (Hr.out.trans (all_drop' (f := rightT 20) ht))
      clear ht
      have HI := Lib.hid (fun (W : World) (hb : Below wr.heap.size wr W) => rrightTerm_c 20 20 t W _ rfl (by omega) ((Hc.out.under hb).more hb.size))
      go_wp2_with fail
      refine (HI.out _ (Below.refl _ _)).mono ?_
      rintro e w1 ⟨rfl, b1⟩
      have hB3 := hB2.trans (b1.mono (by omega))
      cases hs : rightT 20 t with
      | false =>
        have Hz2 := Lib.hid (Hz.out.trans (Hst.out.trans (by rw [hs, Bool.false_and])))
        clear hs
        go_wp2
        go_ret
        exact ⟨by rw [Hz2.out]; rfl, (HB0.out _).trans (hB3.mono (by omega))⟩
      | true =>
        have Hz2 := Lib.hid (Hst.out.trans (by rw [hs, Bool.true_and]))
        clear hs
        go_wp2
        go_roundw
        case rel => exact ⟨k + 1, hlt, by go_num, Hz2.out, hB3⟩
        case measure => simp [intOf]; omega
    · have hlt' : ¬ (k : Int) < (l.length : Int) := by omega
      have Hz2 := Lib.hid (Hz.out.trans (Hr.out.trans (by rw [List.drop_of_length_le (by omega)]; rfl : _ = true)))
      go_wp2
      go_ret
      exact ⟨by rw [Hz2.out]; rfl, hB⟩
end Go.Proofs.YthhepmddcncjoaaGreatDoor
