/- long and Small of the laws of layer 3. -/
import Derived.Test.YtbpdfmpfnbdeoaaDoorTsize
namespace Go.Proofs.YtbpdfmpfnbdeoaaDoor
open Go.RowKit

theorem longB_drop {l : List ByteArray} {k : Nat} {t : ByteArray} (h : l[k]? = some t) : longB' (l.drop k) = (decide (1000 < t.size) || longB' (l.drop (k + 1))) := by
  have h1 : l.drop k = t :: l.drop (k + 1) := by rw [List.drop_eq_getElem_cons (List.getElem?_eq_some_iff.1 h).1, (List.getElem?_eq_some_iff.1 h).2]
  rw [h1]; rfl
theorem anyD_drop {α : Type} {f : α → Bool} {l : List α} {k : Nat} {t : α} (h : l[k]? = some t) : (l.drop k).any f = (f t || (l.drop (k + 1)).any f) := by
  have h1 : l.drop k = t :: l.drop (k + 1) := by rw [List.drop_eq_getElem_cons (List.getElem?_eq_some_iff.1 h).1, (List.getElem?_eq_some_iff.1 h).2]
  rw [h1]; rfl
theorem retB {a b : Bool} (h : a = b) : Ending.returned (.bool a) = .returned (.bool b) := by rw [h]

set_option maxRecDepth 100000 in
set_option maxHeartbeats 4000000 in
theorem long_c (l : List ByteArray) (v : Value) (w : World) (h : SlOf w w.heap.size 1 StrC l v) :
    Calls Tryd.prog 49 #[v] w fun e w' => e = .returned (.bool (longB' l)) ∧ w = w' := by
  obtain ⟨o1, cap1, rfl, hc1, hm1, S1⟩ := SlOf.open h
  clear h
  go_enter Tryd.func49, Tryd.ntmps49
  go_wp2
  go_loop [3] (fun i => ∃ k : Nat, k ≤ l.length ∧ i = .int .i64 k ∧ longB' l = longB' (l.drop k)) (fun i => l.length - (intOf i).toNat)
  case atStart => exact ⟨0, Nat.zero_le _, rfl, rfl⟩
  case round =>
    obtain ⟨k, hk, rfl, hr⟩ := hrel
    have Hr := Lib.hid hr
    clear hr
    by_cases hlt : k < l.length
    · have hlt' : (k : Int) < (l.length : Int) := by omega
      obtain ⟨xe, ht⟩ : ∃ xe, l[k]? = some xe := ⟨l[k], List.getElem?_eq_getElem hlt⟩
      obtain ⟨a, rfl, ha, hz, c0⟩ := str_at S1 (Below.refl _ _) ht
      have Hst := Lib.hid (Hr.out.trans (longB_drop ht))
      unfold maxLen at hz
      clear ht
      by_cases hbig : 1000 < xe.size
      · have hbig' : (1000 : Int) < (xe.size : Int) := by omega
        have Hz : Hid (longB' l = true) := Lib.hid (by rw [Hst.out, decide_eq_true hbig]; rfl)
        go_wp2
        go_ret
        exact ⟨by rw [Hz.out]; rfl, rfl⟩
      · have hbig' : ¬ (1000 : Int) < (xe.size : Int) := by omega
        have Hz : Hid (longB' l = longB' (l.drop (k + 1))) := Lib.hid (by rw [Hst.out, decide_eq_false hbig]; rfl)
        go_wp2
        go_round
        case rel => exact ⟨k + 1, hlt, by go_num, Hz.out⟩
        case measure => simp [intOf]; omega
    · have hlt' : ¬ (k : Int) < (l.length : Int) := by omega
      have Hz : Hid (longB' l = false) := Lib.hid (by rw [Hr.out, List.drop_of_length_le (by omega)]; rfl)
      go_wp2
      go_ret
      exact ⟨by rw [Hz.out]; rfl, rfl⟩

def smallI (p : Pg) : Int := if smallP p = true then 1 else 0
set_option maxRecDepth 100000 in
set_option maxHeartbeats 4000000 in
theorem small_c (t : Pg) (w : World) (cs : List Value) (hc : PgC w w.heap.size t cs) :
    Calls Tryd.prog 22 #[.agg cs.toArray] w fun e w' => e = .returned (.int .i64 (smallI t)) ∧ Below w.heap.size w w' := by
  obtain ⟨p1, q1, r1, s1, rfl, a1, t1⟩ := hc.look
  obtain ⟨o1, cap1, e1, hc1, hm1, S1⟩ := SlOf.open a1
  cases e1
  obtain ⟨o2, cap2, e2, hc2, hm2, S2⟩ := SlOf.open t1
  cases e2
  clear hc a1 t1
  have HB0 : Hid (∀ (x : Obj), Below w.heap.size w (w.alloc x)) := Lib.hid fun x => (Below.refl _ _).alloc (Nat.le_refl _) _
  go_enter Tryd.func22, Tryd.ntmps22
  go_wp2
  go_loopw [4] (fun i wr => ∃ k : Nat, k ≤ t.decls.length ∧ i = .int .i64 k ∧ t.decls.any bigD = (t.decls.drop k).any bigD ∧ Below (w.heap.size + 1) (w.alloc (.cells #[.slice p1 t.decls.length q1, .slice r1 t.rules.length s1] 51)) wr) (fun i _ => t.decls.length - (intOf i).toNat)
  case atStart => exact ⟨0, Nat.zero_le _, rfl, rfl, Below.refl _ _⟩
  case round =>
    obtain ⟨k, hk, rfl, hr, hB2⟩ := hrel
    have hB : Below w.heap.size w wr := (HB0.out _).trans (hB2.mono (by omega))
    have Hr := Lib.hid hr
    clear hr
    have hBs := hB2.size
    simp only [World.size_alloc] at hBs
    have hz0 : w.heap.size < wr.heap.size := by omega
    have x0 : wr.cell? ⟨w.heap.size, 0, none⟩ = some (.slice p1 t.decls.length q1) := (hB2.cell (p := ⟨w.heap.size, 0, none⟩) (by show w.heap.size < _; omega)).trans (by go_simp)
    by_cases hlt : k < t.decls.length
    · have hlt' : (k : Int) < (t.decls.length : Int) := by omega
      obtain ⟨xe, ht⟩ : ∃ xe, t.decls[k]? = some xe := ⟨t.decls[k], List.getElem?_eq_getElem hlt⟩
      obtain ⟨a, p3, q3, p4, q4, rfl, ha, Hc, c0, c1, c2, c3, c4, c5⟩ := de_at S1 hB ht
      have hal : (a.add (k * 6)).block < wr.heap.size := by rw [addBlock]; omega
      have Hst := Lib.hid (Hr.out.trans (anyD_drop (f := bigD) ht))
      clear ht
      obtain ⟨_, _, _, _, e1, hz, _, Ln, _⟩ := Hc.out.look
      cases e1
      unfold maxLen at hz
      have HL := Lib.hid (long_c xe.names _ wr Ln)
      clear Ln
      by_cases hbig : 1000 < xe.rel.size
      · have hbig' : (1000 : Int) < (xe.rel.size : Int) := by omega
        have Hz : Hid (smallI t = 0) := Lib.hid (by unfold smallI smallP; rw [Hst.out, bigD, decide_eq_true hbig]; simp)
        go_wp2
        go_ret
        exact ⟨retI (by rw [Hz.out]), hB⟩
      · have hbig' : ¬ (1000 : Int) < (xe.rel.size : Int) := by omega
        go_wp2_with fail
        refine HL.out.mono ?_
        rintro e w' ⟨rfl, rfl⟩
        cases hlg : longB' xe.names with
        | true =>
          have Hz : Hid (smallI t = 0) := Lib.hid (by unfold smallI smallP; rw [Hst.out, bigD, hlg]; simp)
          clear hlg
          go_wp2
          go_ret
          exact ⟨retI (by rw [Hz.out]), hB⟩
        | false =>
          have Hz : Hid (t.decls.any bigD = (t.decls.drop (k + 1)).any bigD) := Lib.hid (by rw [Hst.out, bigD, hlg, decide_eq_false hbig]; rfl)
          clear hlg
          go_wp2
          go_roundw
          case rel => exact ⟨k + 1, hlt, by go_num, Hz.out, hB2⟩
          case measure => simp [intOf]; omega
    · have hlt' : ¬ (k : Int) < (t.decls.length : Int) := by omega
      have HN : Hid (t.decls.any bigD = false) := Lib.hid (by rw [Hr.out, List.drop_of_length_le (by omega)]; rfl)
      clear Hr
      go_wp2
      go_loopw [3, 5] (fun lv i wr => ∃ (k : Nat) (L : Int), k ≤ t.rules.length ∧ i = .int .i64 k ∧ lv = .int .i64 L ∧ -1 ≤ L ∧ L ≤ 1000000 ∧ foldS sizeR t.rules (2000) = foldS sizeR (t.rules.drop k) L ∧ Below (w.heap.size + 1) (w.alloc (.cells #[.slice p1 t.decls.length q1, .slice r1 t.rules.length s1] 51)) wr) (fun _ i _ => t.rules.length - (intOf i).toNat)
      case atStart => exact ⟨0, 2000, Nat.zero_le _, rfl, rfl, by omega, by omega, rfl, hB2⟩
      case round =>
        obtain ⟨k, L, hk, rfl, rfl, hL0, hL1, hr, hB2⟩ := hrel
        have hB : Below w.heap.size w wr := (HB0.out _).trans (hB2.mono (by omega))
        have Hr := Lib.hid hr
        clear hr
        have hBs := hB2.size
        simp only [World.size_alloc] at hBs
        have hz0 : w.heap.size < wr.heap.size := by omega
        have x0 : wr.cell? ⟨w.heap.size, 1, none⟩ = some (.slice r1 t.rules.length s1) := (hB2.cell (p := ⟨w.heap.size, 1, none⟩) (by show w.heap.size < _; omega)).trans (by go_simp)
        by_cases hlt : k < t.rules.length
        · have hlt' : (k : Int) < (t.rules.length : Int) := by omega
          by_cases hL : 0 ≤ L
          · obtain ⟨xe, ht⟩ : ∃ xe, t.rules[k]? = some xe := ⟨t.rules[k], List.getElem?_eq_getElem hlt⟩
            obtain ⟨a, p3, q3, p4, q4, rfl, ha, Hc, c0, c1, c2, c3⟩ := ru_at S2 hB ht
            have hal : (a.add (k * 4)).block < wr.heap.size := by rw [addBlock]; omega
            have Hst := Lib.hid (Hr.out.trans (foldS_drop (f := sizeR) ht hL))
            have Hm := Lib.hid (List.mem_of_getElem? ht)
            clear ht
            go_wp2_with fail
            refine (sizeRule_c xe L _ [_, _, _, _] hL hL1 Hc.out).mono ?_
            rintro e w1 ⟨rfl, b1⟩
            have hB3 := hB2.trans (b1.mono (by omega))
            have lo := sizeR_lo xe L hL
            obtain ⟨L2, hL2⟩ : ∃ L2, sizeR xe L = L2 := ⟨_, rfl⟩
            rw [hL2] at lo ⊢
            have Hst2 : Hid _ := Lib.hid (Hst.out.trans (by rw [hL2]))
            clear hL2
            go_wp2
            go_roundw
            case rel => exact ⟨k + 1, L2, hlt, by go_num, rfl, lo.1, by omega, Hst2.out, hB3⟩
            case measure => simp [intOf]; omega
          · have Hz2 := Lib.hid (Hr.out.trans (foldS_neg sizeR (t.rules.drop k) (by omega)))
            have Hz4 : Hid (smallI t = 0) := Lib.hid (by unfold smallI smallP; rw [Hz2.out, decide_eq_false hL]; simp)
            have hL' : L < 0 := by omega
            go_wp2
            (go_ret; exact ⟨retI (by rw [Hz4.out]), hB⟩)
        · have hlt' : ¬ (k : Int) < (t.rules.length : Int) := by omega
          have Hz2 : Hid (foldS sizeR t.rules (2000) = L) := Lib.hid (by rw [Hr.out, List.drop_of_length_le (by omega)]; rfl)
          have Hz3 := Lib.hid Hz2.out
          have xd : wr.cell? ⟨w.heap.size, 0, none⟩ = some (.slice p1 t.decls.length q1) := (hB2.cell (p := ⟨w.heap.size, 0, none⟩) (by show w.heap.size < _; omega)).trans (by go_simp)
          by_cases f1 : L < 0
          · have Hz4 : Hid (smallI t = 0) := Lib.hid (by unfold smallI smallP; rw [Hz3.out, decide_eq_false (show ¬ 0 ≤ L by omega)]; simp)
            go_wp2
            (go_ret; exact ⟨retI (by rw [Hz4.out]), hB⟩)
          by_cases f2 : 100 < t.decls.length
          · have f2' : (100 : Int) < (t.decls.length : Int) := by omega
            have Hz4 : Hid (smallI t = 0) := Lib.hid (by unfold smallI smallP; rw [decide_eq_false (show ¬ t.decls.length ≤ 100 by omega)]; simp)
            go_wp2
            (go_ret; exact ⟨retI (by rw [Hz4.out]), hB⟩)
          have f2' : ¬ (100 : Int) < (t.decls.length : Int) := by omega
          by_cases f3 : 300 < t.rules.length
          · have f3' : (300 : Int) < (t.rules.length : Int) := by omega
            have Hz4 : Hid (smallI t = 0) := Lib.hid (by unfold smallI smallP; rw [decide_eq_false (show ¬ t.rules.length ≤ 300 by omega)]; simp)
            go_wp2
            (go_ret; exact ⟨retI (by rw [Hz4.out]), hB⟩)
          have f3' : ¬ (300 : Int) < (t.rules.length : Int) := by omega
          have Hz4 : Hid (smallI t = 1) := Lib.hid (by unfold smallI smallP; rw [Hz3.out, decide_eq_true (show 0 ≤ L by omega), decide_eq_true (show t.rules.length ≤ 300 by omega), decide_eq_true (show t.decls.length ≤ 100 by omega), HN.out]; rfl)
          go_wp2
          (go_ret; exact ⟨retI (by rw [Hz4.out]), hB⟩)
end Go.Proofs.YtbpdfmpfnbdeoaaDoor
