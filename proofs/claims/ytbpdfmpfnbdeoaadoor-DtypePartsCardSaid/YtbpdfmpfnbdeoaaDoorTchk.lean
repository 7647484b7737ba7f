/- dtree.checkAtom, checkHead. -/
import Derived.Test.YtbpdfmpfnbdeoaaDoorTterms
namespace Go.Proofs.YtbpdfmpfnbdeoaaDoor
open Go.RowKit

theorem okV_t (a : Addr) : okV a true = .nilIface := rfl
theorem okV_f (a : Addr) : okV a false = .iface 193 (.pointer (some a)) := rfl
theorem all_drop {α : Type} {f : α → Bool} {l : List α} {k : Nat} {t : α} (h : l[k]? = some t) : (l.drop k).all f = (f t && (l.drop (k + 1)).all f) := by
  have h1 : l.drop k = t :: l.drop (k + 1) := by rw [List.drop_eq_getElem_cons (List.getElem?_eq_some_iff.1 h).1, (List.getElem?_eq_some_iff.1 h).2]
  rw [h1]; rfl

set_option maxRecDepth 100000 in
set_option maxHeartbeats 4000000 in
theorem checkAtom_c (t : Am) (a : Addr) (w : World) (cs : List Value) (hc : AmC w w.heap.size t cs) (E : TErr a w) :
    Calls Tryd.prog 117 #[.agg cs.toArray] w fun e w' => e = .returned (okV a (rightA t)) ∧ Below w.heap.size w w' := by
  obtain ⟨p1, q1, rfl, hz, t1⟩ := hc.look
  have HN := Lib.hid (fun w => isName_any t.rel w hz)
  have HT := Lib.hid (fun (W : World) (hb : Below w.heap.size w W) => checkTerms_c t.l _ a W ((TmS.below t1 hb).more hb.size) (E.below hb))
  obtain ⟨o1, cap1, e1, hc1, hm1, _⟩ := SlOf.open t1
  cases e1
  have herr := E.err
  have hgs := E.size
  have HE := Lib.hid E
  clear E
  clear hc t1
  have HB0 : Hid (∀ (x : Obj), Below w.heap.size w (w.alloc x)) := Lib.hid fun x => (Below.refl _ _).alloc (Nat.le_refl _) _
  have Hz : Hid (rightA t = (nameB t.rel.data.toList && (decide (1 ≤ (t.l.length : Int)) && decide ((t.l.length : Int) ≤ 8)) && t.l.all (rightT 20))) := Lib.hid (by
    unfold rightA
    rw [show decide (1 ≤ (t.l.length : Int)) = decide (1 ≤ t.l.length) from decide_eq_decide.2 (by omega), show decide ((t.l.length : Int) ≤ 8) = decide (t.l.length ≤ 8) from decide_eq_decide.2 (by omega)]
    cases nameB t.rel.data.toList <;> simp)
  go_enter Tryd.func117, Tryd.ntmps117
  go_wp2_with fail
  refine (HN.out _).mono ?_
  rintro e w1 ⟨rfl, b1⟩
  have B1 := (HB0.out _).trans (b1.mono (by simp))
  obtain ⟨hc, hf⟩ := kept b1
  have hz1 : w.heap.size < w1.heap.size := by have := b1.size; simp at this; omega
  have herr1 := (HE.out.below B1).err
  cases hnm : nameB t.rel.data.toList with
  | false =>
    have Hz1 : Hid (rightA t = false) := Lib.hid (by rw [Hz.out, hnm]; rfl)
    clear hnm
    go_wp2
    go_ret
    exact ⟨by rw [Hz1.out]; rfl, B1⟩
  | true =>
    have Hz1 : Hid (rightA t = ((decide (1 ≤ (t.l.length : Int)) && decide ((t.l.length : Int) ≤ 8)) && t.l.all (rightT 20))) := Lib.hid (by rw [Hz.out, hnm]; rfl)
    clear hnm
    go_wp2_with fail
    refine (count_c _ _).mono ?_
    rintro e w' ⟨rfl, rfl⟩
    cases hcn : (decide (1 ≤ (t.l.length : Int)) && decide ((t.l.length : Int) ≤ 8)) with
    | false =>
      have Hz2 : Hid (rightA t = false) := Lib.hid (by rw [Hz1.out, hcn]; rfl)
      clear hcn
      go_wp2
      go_ret
      exact ⟨by rw [Hz2.out]; rfl, B1⟩
    | true =>
      have Hz2 : Hid (rightA t = t.l.all (rightT 20)) := Lib.hid (by rw [Hz1.out, hcn]; rfl)
      clear hcn
      go_wp2_with fail
      refine (HT.out _ B1).mono ?_
      rintro e w2 ⟨rfl, b2⟩
      go_wp2
      go_ret
      exact ⟨by rw [Hz2.out]; rfl, B1.trans (b2.mono (by omega))⟩

set_option maxRecDepth 100000 in
set_option maxHeartbeats 4000000 in
theorem checkHead_c (t : Am) (fact : Bool) (a : Addr) (w : World) (cs : List Value) (hc : AmC w w.heap.size t cs) (E : TErr a w) :
    Calls Tryd.prog 85 #[.agg cs.toArray, .bool fact] w fun e w' => e = .returned (okV a (t.l.all (headT fact) && rightA t)) ∧ Below w.heap.size w w' := by
  obtain ⟨p1, q1, rfl, hz, t1⟩ := hc.look
  have HA := Lib.hid (fun (W : World) (hb : Below w.heap.size w W) => checkAtom_c t a W _ ((hc.below hb).more hb.size) (E.below hb))
  obtain ⟨o1, cap1, e1, hc1, hm1, S1⟩ := SlOf.open t1
  cases e1
  have herr := E.err
  have hgs := E.size
  have HE := Lib.hid E
  clear E
  clear hc t1
  have HB0 : Hid (∀ (x : Obj), Below w.heap.size w (w.alloc x)) := Lib.hid fun x => (Below.refl _ _).alloc (Nat.le_refl _) _
  go_enter Tryd.func85, Tryd.ntmps85
  go_wp2
  go_loopw [10] (fun i wr => ∃ k : Nat, k ≤ t.l.length ∧ i = .int .i64 k ∧ t.l.all (headT fact) = (t.l.drop k).all (headT fact) ∧ Below (w.heap.size + 1) (w.alloc (.cells #[.string t.rel, .slice p1 t.l.length q1] 24)) wr) (fun i _ => t.l.length - (intOf i).toNat)
  case atStart => exact ⟨0, Nat.zero_le _, rfl, rfl, Below.refl _ _⟩
  case round =>
    obtain ⟨k, hk, rfl, hr, hB2⟩ := hrel
    have hB : Below w.heap.size w wr := (HB0.out _).trans (hB2.mono (by omega))
    have Hr := Lib.hid hr
    clear hr
    have hBs := hB2.size
    simp only [World.size_alloc] at hBs
    have hz0 : w.heap.size < wr.heap.size := by omega
    have x0 : wr.cell? ⟨w.heap.size, 0, none⟩ = some (.string t.rel) := (hB2.cell (p := ⟨w.heap.size, 0, none⟩) (by show w.heap.size < _; omega)).trans (by go_simp)
    have x1 : wr.cell? ⟨w.heap.size, 1, none⟩ = some (.slice p1 t.l.length q1) := (hB2.cell (p := ⟨w.heap.size, 1, none⟩) (by show w.heap.size < _; omega)).trans (by go_simp)
    have herr1 := (HE.out.below hB).err
    have hgs1 := (HE.out.below hB).size
    by_cases hlt : k < t.l.length
    · have hlt' : (k : Int) < (t.l.length : Int) := by omega
      obtain ⟨xe, ht⟩ : ∃ xe, t.l[k]? = some xe := ⟨t.l[k], List.getElem?_eq_getElem hlt⟩
      obtain ⟨b, p3, q3, rfl, ha, Hc, c0, c1, c2, c3⟩ := tm_at S1 hB ht
      have hal : (b.add (k * 4)).block < wr.heap.size := by rw [addBlock]; omega
      have Hst := Lib.hid (Hr.out.trans (all_drop (f := headT fact) ht))
      clear ht Hc
      obtain ⟨op, xs, xn, xl⟩ := xe
      simp only [Tm.op_mk, Tm.s_mk, Tm.n_mk, Tm.l_mk] at c0 c1 c2 c3
      have Hno : Hid (headT fact (.mk op xs xn xl) = false → (t.l.all (headT fact) && rightA t) = false) := Lib.hid (fun h => by rw [Hst.out, h]; rfl)
      have Hyes : Hid (headT fact (.mk op xs xn xl) = true → t.l.all (headT fact) = (t.l.drop (k + 1)).all (headT fact)) := Lib.hid (fun h => by rw [Hst.out, h]; rfl)
      have hw1 : Below (w.heap.size + 1) wr (wr.alloc (.cells #[.int .i64 op, .string xs, .int .i64 xn, .slice p3 xl.length q3] 43)) := (Below.refl _ _).alloc (by omega) _
      have Hw1 := Lib.hid hw1
      clear hw1
      by_cases o1 : op = 1
      · subst o1
        cases fact with
        | true =>
          have Hz := Lib.hid (Hno.out rfl)
          go_wp2
          go_ret
          exact ⟨by rw [Hz.out]; rfl, hB.trans (Hw1.out.mono (by omega))⟩
        | false =>
          have Hz := Lib.hid (Hyes.out rfl)
          go_wp2
          go_roundw
          case rel => exact ⟨k + 1, hlt, by go_num, Hz.out, hB2.trans Hw1.out⟩
          case measure => simp [intOf]; omega
      have e1 : (op == 1) = false := by simpa using o1
      by_cases o4 : op = 4 ∨ op = 5 ∨ op = 6 ∨ op = 7
      · have Hz := Lib.hid (Hno.out (by rcases o4 with rfl | rfl | rfl | rfl <;> rfl))
        clear o1
        rcases o4 with rfl | rfl | rfl | rfl
        all_goals
          go_wp2
          go_ret
          exact ⟨by rw [Hz.out]; rfl, hB.trans (Hw1.out.mono (by omega))⟩
      have e4 : (op == 4) = false := by rw [beq_eq_false_iff_ne]; omega
      have e5 : (op == 5) = false := by rw [beq_eq_false_iff_ne]; omega
      have e6 : (op == 6) = false := by rw [beq_eq_false_iff_ne]; omega
      have e7 : (op == 7) = false := by rw [beq_eq_false_iff_ne]; omega
      have Hz := Lib.hid (Hyes.out (by unfold headT twoB; simp only [Tm.op_mk, e1, e4, e5, e6, e7]; rfl))
      clear o1 o4
      go_wp2
      go_roundw
      case rel => exact ⟨k + 1, hlt, by go_num, Hz.out, hB2.trans Hw1.out⟩
      case measure => simp [intOf]; omega
    · have hlt' : ¬ (k : Int) < (t.l.length : Int) := by omega
      have Hz : Hid ((t.l.all (headT fact) && rightA t) = rightA t) := Lib.hid (by rw [Hr.out, List.drop_of_length_le (by omega)]; rfl)
      go_wp2_with fail
      refine (HA.out _ hB).mono ?_
      rintro e w1 ⟨rfl, b1⟩
      go_wp2
      go_ret
      exact ⟨by rw [Hz.out]; rfl, hB.trans (b1.mono (by omega))⟩
end Go.Proofs.YtbpdfmpfnbdeoaaDoor
