/- soritesref03: SameDecl, Same. -/
import Derived.Test.YthjfkngfgomkbaaDoorTrsame2
import Derived.Test.YthjfkngfgomkbaaDoorTsame3
namespace Go.Proofs.YthjfkngfgomkbaaDoor
open Go.RowKit

set_option maxRecDepth 100000 in
set_option maxHeartbeats 4000000 in
theorem rsameDecl_c (t u : De) (w : World) (cs ds : List Value) (hc : DeC w w.heap.size t cs) (hd : DeC w w.heap.size u ds) :
    Calls Tryd.prog 28 #[.agg cs.toArray, .agg ds.toArray] w fun e w' => e = .returned (.bool (sameD t u)) ∧ Below w.heap.size w w' := by
  obtain ⟨p1, q1, r1, s1, rfl, _, _, a1, t1⟩ := hc.look
  obtain ⟨p2, q2, r2, s2, rfl, _, _, a2, t2⟩ := hd.look
  obtain ⟨o1, cap1, e1, hc1, hm1, S1⟩ := SlOf.open a1
  obtain ⟨o2, cap2, e2, hc2, hm2, S2⟩ := SlOf.open a2
  cases e1
  cases e2
  obtain ⟨o1, cap1, e1, hc3, hm3, S3⟩ := SlOf.open t1
  obtain ⟨o2, cap2, e2, hc4, hm4, S4⟩ := SlOf.open t2
  cases e1
  cases e2
  clear hc hd a1 a2 t1 t2
  have HB0 : Hid (∀ (x y : Obj), Below w.heap.size w ((w.alloc x).alloc y)) := Lib.hid fun x y => ((Below.refl _ _).alloc (Nat.le_refl _) _).alloc (by simp) _
  obtain ⟨b1, hb1⟩ : ∃ b, (!t.rel.toList == u.rel.toList) = b := ⟨_, rfl⟩
  obtain ⟨b2, hb2⟩ : ∃ b, (!t.inn == u.inn) = b := ⟨_, rfl⟩
  obtain ⟨b3, hb3⟩ : ∃ b, (!t.out == u.out) = b := ⟨_, rfl⟩
  obtain ⟨b4, hb4⟩ : ∃ b, ((t.names.length : Int) != (u.names.length : Int)) = b := ⟨_, rfl⟩
  obtain ⟨b5, hb5⟩ : ∃ b, ((t.types.length : Int) != (u.types.length : Int)) = b := ⟨_, rfl⟩
  have Hz : Hid (sameD t u = (!b1 && !b2 && !b3 && allS strE t.names u.names && allS intE t.types u.types)) := Lib.hid (by unfold sameD; rw [← hb1, ← hb2, ← hb3]; simp only [Bool.not_not]; rfl)
  cases b1 with
  | true =>
    go_enter Tryd.func28, Tryd.ntmps28
    go_wp2
    go_ret
    exact ⟨by rw [Hz.out]; rfl, HB0.out _ _⟩
  | false =>
  cases b2 with
  | true =>
    have hq2 : ¬ t.inn = u.inn := by simpa using hb2
    go_enter Tryd.func28, Tryd.ntmps28
    go_wp2
    go_ret
    exact ⟨by rw [Hz.out]; rfl, HB0.out _ _⟩
  | false =>
  have hq2 : (t.inn = u.inn) ↔ True := by simpa using hb2
  cases b3 with
  | true =>
    have hq3 : ¬ t.out = u.out := by simpa using hb3
    go_enter Tryd.func28, Tryd.ntmps28
    go_wp2
    go_ret
    exact ⟨by rw [Hz.out]; rfl, HB0.out _ _⟩
  | false =>
  have hq3 : (t.out = u.out) ↔ True := by simpa using hb3
  cases b4 with
  | true =>
    have Hz1 : Hid (sameD t u = false) := Lib.hid (by rw [Hz.out, allS_len (f := strE) (l := t.names) (m := u.names) (by intro h; rw [h] at hb4; simp at hb4)]; rfl)
    go_enter Tryd.func28, Tryd.ntmps28
    go_wp2
    go_ret
    exact ⟨by rw [Hz1.out]; rfl, HB0.out _ _⟩
  | false =>
  cases b5 with
  | true =>
    have Hz1 : Hid (sameD t u = false) := Lib.hid (by rw [Hz.out, allS_len (f := intE) (l := t.types) (m := u.types) (by intro h; rw [h] at hb5; simp at hb5), Bool.and_false])
    go_enter Tryd.func28, Tryd.ntmps28
    go_wp2
    go_ret
    exact ⟨by rw [Hz1.out]; rfl, HB0.out _ _⟩
  | false =>
    have Hlen : Hid (t.names.length = u.names.length) := Lib.hid (by
      have : (t.names.length : Int) = u.names.length := by simpa using hb4
      omega)
    have Hlen2 : Hid (t.types.length = u.types.length) := Lib.hid (by
      have : (t.types.length : Int) = u.types.length := by simpa using hb5
      omega)
    go_enter Tryd.func28, Tryd.ntmps28
    go_wp2
    go_loopw [5] (fun i wr => ∃ k : Nat, k ≤ t.names.length ∧ i = .int .i64 k ∧ allS strE t.names u.names = allS strE (t.names.drop k) (u.names.drop k) ∧ Below (w.heap.size + 2) ((w.alloc (.cells #[.string t.rel, .slice p1 t.names.length q1, .slice r1 t.types.length s1, .bool t.inn, .bool t.out, .int .i64 t.line] 44)).alloc (.cells #[.string u.rel, .slice p2 u.names.length q2, .slice r2 u.types.length s2, .bool u.inn, .bool u.out, .int .i64 u.line] 44)) wr) (fun i _ => t.names.length - (intOf i).toNat)
    case atStart => exact ⟨0, Nat.zero_le _, rfl, rfl, Below.refl _ _⟩
    case round =>
      obtain ⟨k, hk, rfl, hr, hB2⟩ := hrel
      have hB : Below w.heap.size w wr := (HB0.out _ _).trans (hB2.mono (by omega))
      have Hr := Lib.hid hr
      clear hr
      have hBs := hB2.size
      simp only [World.size_alloc] at hBs
      have x0 : wr.cell? ⟨w.heap.size, 1, none⟩ = some (.slice p1 t.names.length q1) := (hB2.cell (p := ⟨w.heap.size, 1, none⟩) (by show w.heap.size < _; omega)).trans (by go_simp)
      have y0 : wr.cell? ⟨w.heap.size + 1, 1, none⟩ = some (.slice p2 u.names.length q2) := (hB2.cell (p := ⟨w.heap.size + 1, 1, none⟩) (by show w.heap.size + 1 < _; omega)).trans (by go_simp)
      by_cases hlt : k < t.names.length
      · have hlt' : (k : Int) < (t.names.length : Int) := by omega
        have hlt2 : k < u.names.length := by have := Hlen.out; omega
        have hlt3 : (k : Int) < (u.names.length : Int) := by omega
        obtain ⟨xe, ht⟩ : ∃ xe, t.names[k]? = some xe := ⟨t.names[k], List.getElem?_eq_getElem hlt⟩
        obtain ⟨ye, hv⟩ : ∃ ye, u.names[k]? = some ye := ⟨u.names[k], List.getElem?_eq_getElem hlt2⟩
        obtain ⟨a, rfl, ha, _, c0⟩ := str_at S1 hB ht
        obtain ⟨b, rfl, hb, _, d0⟩ := str_at S2 hB hv
        have Hst := Lib.hid (allS_drop (f := strE) ht hv)
        clear ht hv
        obtain ⟨x, hx⟩ : ∃ x, (!xe.toList == ye.toList) = x := ⟨_, rfl⟩
        have hs : strE xe ye = !x := by rw [← hx]; exact (Bool.not_not _).symm
        cases x
        · have Hz2 := Lib.hid (Hr.out.trans (Hst.out.trans (by rw [hs, Bool.not_false, Bool.true_and])))
          clear hs
          go_wp2
          go_quiet (fail)
          go_wp2
          go_roundw
          case rel => exact ⟨k + 1, hlt, by go_num, Hz2.out, below_drewN hB2 _⟩
          case measure => simp [intOf]; omega
        · have Hz2 := Lib.hid (Hr.out.trans (Hst.out.trans (by rw [hs, Bool.not_true, Bool.false_and])))
          clear hs
          have Hz3 : Hid (sameD t u = false) := Lib.hid (by rw [Hz.out, Hz2.out]; rfl)
          go_wp2
          go_quiet (fail)
          go_wp2
          go_ret
          exact ⟨by rw [Hz3.out]; rfl, below_drewN hB _⟩
      · have hlt' : ¬ (k : Int) < (t.names.length : Int) := by omega
        have Hz2 := Lib.hid (allS_end (f := strE) (l := t.names) (m := u.names) (k := k) (by omega) (by have := Hlen.out; omega))
        have Hall := Lib.hid (Hr.out.trans Hz2.out)
        have Hdummy := Lib.hid True.intro
        have HN := Lib.hid Hall.out
        clear Hall
        go_wp2
        go_loopw [6] (fun i wr => ∃ k : Nat, k ≤ t.types.length ∧ i = .int .i64 k ∧ allS intE t.types u.types = allS intE (t.types.drop k) (u.types.drop k) ∧ Below (w.heap.size + 2) ((w.alloc (.cells #[.string t.rel, .slice p1 t.names.length q1, .slice r1 t.types.length s1, .bool t.inn, .bool t.out, .int .i64 t.line] 44)).alloc (.cells #[.string u.rel, .slice p2 u.names.length q2, .slice r2 u.types.length s2, .bool u.inn, .bool u.out, .int .i64 u.line] 44)) wr) (fun i _ => t.types.length - (intOf i).toNat)
        case atStart => exact ⟨0, Nat.zero_le _, rfl, rfl, hB2⟩
        case round =>
          obtain ⟨k, hk, rfl, hr, hB2⟩ := hrel
          have hB : Below w.heap.size w wr := (HB0.out _ _).trans (hB2.mono (by omega))
          have Hr := Lib.hid hr
          clear hr
          have hBs := hB2.size
          simp only [World.size_alloc] at hBs
          have x0 : wr.cell? ⟨w.heap.size, 2, none⟩ = some (.slice r1 t.types.length s1) := (hB2.cell (p := ⟨w.heap.size, 2, none⟩) (by show w.heap.size < _; omega)).trans (by go_simp)
          have y0 : wr.cell? ⟨w.heap.size + 1, 2, none⟩ = some (.slice r2 u.types.length s2) := (hB2.cell (p := ⟨w.heap.size + 1, 2, none⟩) (by show w.heap.size + 1 < _; omega)).trans (by go_simp)
          by_cases hlt : k < t.types.length
          · have hlt' : (k : Int) < (t.types.length : Int) := by omega
            have hlt2 : k < u.types.length := by have := Hlen2.out; omega
            have hlt3 : (k : Int) < (u.types.length : Int) := by omega
            obtain ⟨xe, ht⟩ : ∃ xe, t.types[k]? = some xe := ⟨t.types[k], List.getElem?_eq_getElem hlt⟩
            obtain ⟨ye, hv⟩ : ∃ ye, u.types[k]? = some ye := ⟨u.types[k], List.getElem?_eq_getElem hlt2⟩
            obtain ⟨a, rfl, ha, _, c0⟩ := int_at S3 hB ht
            obtain ⟨b, rfl, hb, _, d0⟩ := int_at S4 hB hv
            have Hst := Lib.hid (allS_drop (f := intE) ht hv)
            clear ht hv
            obtain ⟨x, hx⟩ : ∃ x, (xe != ye) = x := ⟨_, rfl⟩
            have hs : intE xe ye = !x := by rw [← hx]; exact (Bool.not_not _).symm
            cases x
            · have Hz2 := Lib.hid (Hr.out.trans (Hst.out.trans (by rw [hs, Bool.not_false, Bool.true_and])))
              clear hs
              go_wp2
              go_quiet (fail)
              go_wp2
              go_roundw
              case rel => exact ⟨k + 1, hlt, by go_num, Hz2.out, below_drewN hB2 _⟩
              case measure => simp [intOf]; omega
            · have Hz2 := Lib.hid (Hr.out.trans (Hst.out.trans (by rw [hs, Bool.not_true, Bool.false_and])))
              clear hs
              have Hz3 : Hid (sameD t u = false) := Lib.hid (by rw [Hz.out, Hz2.out, Bool.and_false])
              go_wp2
              go_quiet (fail)
              go_wp2
              go_ret
              exact ⟨by rw [Hz3.out]; rfl, below_drewN hB _⟩
          · have hlt' : ¬ ((k : Nat) : Int) < (t.types.length : Int) := by omega
            have Hz2 := Lib.hid (allS_end (f := intE) (l := t.types) (m := u.types) (k := k) (by omega) (by have := Hlen2.out; omega))
            have Hall := Lib.hid (Hr.out.trans Hz2.out)
            go_wp2
            go_ret
            exact ⟨by rw [Hz.out, HN.out, Hall.out]; rfl, hB⟩

set_option maxRecDepth 100000 in
set_option maxHeartbeats 4000000 in
theorem rsame_c (t u : Pg) (w : World) (cs ds : List Value) (hc : PgC w w.heap.size t cs) (hd : PgC w w.heap.size u ds) :
    Calls Tryd.prog 13 #[.agg cs.toArray, .agg ds.toArray] w fun e w' => e = .returned (.bool (sameP t u)) ∧ Below w.heap.size w w' := by
  obtain ⟨p1, q1, r1, s1, rfl, a1, t1⟩ := hc.look
  obtain ⟨p2, q2, r2, s2, rfl, a2, t2⟩ := hd.look
  obtain ⟨o1, cap1, e1, hc1, hm1, S1⟩ := SlOf.open a1
  obtain ⟨o2, cap2, e2, hc2, hm2, S2⟩ := SlOf.open a2
  cases e1
  cases e2
  obtain ⟨o1, cap1, e1, hc3, hm3, S3⟩ := SlOf.open t1
  obtain ⟨o2, cap2, e2, hc4, hm4, S4⟩ := SlOf.open t2
  cases e1
  cases e2
  clear hc hd a1 a2 t1 t2
  have HB0 : Hid (∀ (x y : Obj), Below w.heap.size w ((w.alloc x).alloc y)) := Lib.hid fun x y => ((Below.refl _ _).alloc (Nat.le_refl _) _).alloc (by simp) _
  obtain ⟨b4, hb4⟩ : ∃ b, ((t.decls.length : Int) != (u.decls.length : Int)) = b := ⟨_, rfl⟩
  obtain ⟨b5, hb5⟩ : ∃ b, ((t.rules.length : Int) != (u.rules.length : Int)) = b := ⟨_, rfl⟩
  have Hz : Hid (sameP t u = (allS sameD t.decls u.decls && allS sameR t.rules u.rules)) := Lib.hid rfl
  cases b4 with
  | true =>
    have Hz1 : Hid (sameP t u = false) := Lib.hid (by rw [Hz.out, allS_len (f := sameD) (l := t.decls) (m := u.decls) (by intro h; rw [h] at hb4; simp at hb4)]; rfl)
    go_enter Tryd.func13, Tryd.ntmps13
    go_wp2
    go_ret
    exact ⟨by rw [Hz1.out]; rfl, HB0.out _ _⟩
  | false =>
  cases b5 with
  | true =>
    have Hz1 : Hid (sameP t u = false) := Lib.hid (by rw [Hz.out, allS_len (f := sameR) (l := t.rules) (m := u.rules) (by intro h; rw [h] at hb5; simp at hb5), Bool.and_false])
    go_enter Tryd.func13, Tryd.ntmps13
    go_wp2
    go_ret
    exact ⟨by rw [Hz1.out]; rfl, HB0.out _ _⟩
  | false =>
    have Hlen : Hid (t.decls.length = u.decls.length) := Lib.hid (by
      have : (t.decls.length : Int) = u.decls.length := by simpa using hb4
      omega)
    have Hlen2 : Hid (t.rules.length = u.rules.length) := Lib.hid (by
      have : (t.rules.length : Int) = u.rules.length := by simpa using hb5
      omega)
    go_enter Tryd.func13, Tryd.ntmps13
    go_wp2
    go_loopw [5] (fun i wr => ∃ k : Nat, k ≤ t.decls.length ∧ i = .int .i64 k ∧ allS sameD t.decls u.decls = allS sameD (t.decls.drop k) (u.decls.drop k) ∧ Below (w.heap.size + 2) ((w.alloc (.cells #[.slice p1 t.decls.length q1, .slice r1 t.rules.length s1] 25)).alloc (.cells #[.slice p2 u.decls.length q2, .slice r2 u.rules.length s2] 25)) wr) (fun i _ => t.decls.length - (intOf i).toNat)
    case atStart => exact ⟨0, Nat.zero_le _, rfl, rfl, Below.refl _ _⟩
    case round =>
      obtain ⟨k, hk, rfl, hr, hB2⟩ := hrel
      have hB : Below w.heap.size w wr := (HB0.out _ _).trans (hB2.mono (by omega))
      have Hr := Lib.hid hr
      clear hr
      have hBs := hB2.size
      simp only [World.size_alloc] at hBs
      have hz0 : w.heap.size < wr.heap.size := by omega
      have hz1 : w.heap.size + 1 < wr.heap.size := by omega
      have x0 : wr.cell? ⟨w.heap.size, 0, none⟩ = some (.slice p1 t.decls.length q1) := (hB2.cell (p := ⟨w.heap.size, 0, none⟩) (by show w.heap.size < _; omega)).trans (by go_simp)
      have y0 : wr.cell? ⟨w.heap.size + 1, 0, none⟩ = some (.slice p2 u.decls.length q2) := (hB2.cell (p := ⟨w.heap.size + 1, 0, none⟩) (by show w.heap.size + 1 < _; omega)).trans (by go_simp)
      by_cases hlt : k < t.decls.length
      · have hlt' : (k : Int) < (t.decls.length : Int) := by omega
        have hlt2 : k < u.decls.length := by have := Hlen.out; omega
        obtain ⟨xe, ht⟩ : ∃ xe, t.decls[k]? = some xe := ⟨t.decls[k], List.getElem?_eq_getElem hlt⟩
        obtain ⟨ye, hv⟩ : ∃ ye, u.decls[k]? = some ye := ⟨u.decls[k], List.getElem?_eq_getElem hlt2⟩
        obtain ⟨a, o0a, k0a, o1a, k1a, rfl, ha, Hc, c0, c1, c2, c3, c4, c5⟩ := de_at S1 hB ht
        obtain ⟨b, o0b, k0b, o1b, k1b, rfl, hb, Hd, d0, d1, d2, d3, d4, d5⟩ := de_at S2 hB hv
        have hal : (a.add (k * 6)).block < wr.heap.size := by rw [addBlock]; omega
        have hbl : (b.add (k * 6)).block < wr.heap.size := by rw [addBlock]; omega
        have Hst := Lib.hid (allS_drop (f := sameD) ht hv)
        clear ht hv
        have HI := Lib.hid (fun (W : World) (hb : Below wr.heap.size wr W) => rsameDecl_c xe ye W _ _ ((Hc.out.below hb).more hb.size) ((Hd.out.below hb).more hb.size))
        go_wp2_with fail
        go_region_held3 (fun w' => w'.cell? ⟨w.heap.size, 0, none⟩ = some (.slice (some a) t.decls.length q1) ∧ w'.cell? ⟨w.heap.size + 1, 0, none⟩ = some (.slice (some b) u.decls.length q2) ∧ w'.cell? (a.add (k * 6)) = some (.string xe.rel) ∧ w'.cell? ⟨(a.add (k * 6)).block, (a.add (k * 6)).off + 1, none⟩ = some (.slice o0a xe.names.length k0a) ∧ w'.cell? ⟨(a.add (k * 6)).block, (a.add (k * 6)).off + 2, none⟩ = some (.slice o1a xe.types.length k1a) ∧ w'.cell? ⟨(a.add (k * 6)).block, (a.add (k * 6)).off + 3, none⟩ = some (.bool xe.inn) ∧ w'.cell? ⟨(a.add (k * 6)).block, (a.add (k * 6)).off + 4, none⟩ = some (.bool xe.out) ∧ w'.cell? ⟨(a.add (k * 6)).block, (a.add (k * 6)).off + 5, none⟩ = some (.int .i64 xe.line) ∧ w'.cell? (b.add (k * 6)) = some (.string ye.rel) ∧ w'.cell? ⟨(b.add (k * 6)).block, (b.add (k * 6)).off + 1, none⟩ = some (.slice o0b ye.names.length k0b) ∧ w'.cell? ⟨(b.add (k * 6)).block, (b.add (k * 6)).off + 2, none⟩ = some (.slice o1b ye.types.length k1b) ∧ w'.cell? ⟨(b.add (k * 6)).block, (b.add (k * 6)).off + 3, none⟩ = some (.bool ye.inn) ∧ w'.cell? ⟨(b.add (k * 6)).block, (b.add (k * 6)).off + 4, none⟩ = some (.bool ye.out) ∧ w'.cell? ⟨(b.add (k * 6)).block, (b.add (k * 6)).off + 5, none⟩ = some (.int .i64 ye.line)) (first | exact ⟨x0, y0, c0, c1, c2, c3, c4, c5, d0, d1, d2, d3, d4, d5⟩ | exact hk) ((go_at_call 28; refine (HI.out _ ((Below.refl _ _).drew)).mono ?_; rintro e w1 ⟨rfl, b1⟩; have hk := held66 b1 hz0 hz1 hal hbl ⟨x0, y0, c0, c1, c2, c3, c4, c5, d0, d1, d2, d3, d4, d5⟩))
        have hB3 := hB2.trans (((Below.refl _ wr).drew).trans (b1.mono (by show _ ≤ wr.heap.size; omega)))
        cases hs : sameD xe ye
        · have Hz2 := Lib.hid (Hr.out.trans (Hst.out.trans (by rw [hs, Bool.false_and])))
          clear hs
          go_wp2
          go_ret
          exact ⟨by rw [Hz.out, Hz2.out]; rfl, (HB0.out _ _).trans (hB3.mono (by omega))⟩
        · have Hz2 := Lib.hid (Hr.out.trans (Hst.out.trans (by rw [hs, Bool.true_and])))
          clear hs
          go_wp2
          go_roundw
          case rel => exact ⟨k + 1, hlt, by go_num, Hz2.out, hB3⟩
          case measure => simp [intOf]; omega
      · have hlt' : ¬ (k : Int) < (t.decls.length : Int) := by omega
        have Hz2 := Lib.hid (allS_end (f := sameD) (l := t.decls) (m := u.decls) (k := k) (by omega) (by have := Hlen.out; omega))
        have HN := Lib.hid (Hr.out.trans Hz2.out)
        clear Hz2
        go_wp2
        go_loopw [7] (fun i wr => ∃ k : Nat, k ≤ t.rules.length ∧ i = .int .i64 k ∧ allS sameR t.rules u.rules = allS sameR (t.rules.drop k) (u.rules.drop k) ∧ Below (w.heap.size + 2) ((w.alloc (.cells #[.slice p1 t.decls.length q1, .slice r1 t.rules.length s1] 25)).alloc (.cells #[.slice p2 u.decls.length q2, .slice r2 u.rules.length s2] 25)) wr) (fun i _ => t.rules.length - (intOf i).toNat)
        case atStart => exact ⟨0, Nat.zero_le _, rfl, rfl, hB2⟩
        case round =>
          obtain ⟨k, hk, rfl, hr, hB2⟩ := hrel
          have hB : Below w.heap.size w wr := (HB0.out _ _).trans (hB2.mono (by omega))
          have Hr := Lib.hid hr
          clear hr
          have hBs := hB2.size
          simp only [World.size_alloc] at hBs
          have hz0 : w.heap.size < wr.heap.size := by omega
          have hz1 : w.heap.size + 1 < wr.heap.size := by omega
          have x0 : wr.cell? ⟨w.heap.size, 1, none⟩ = some (.slice r1 t.rules.length s1) := (hB2.cell (p := ⟨w.heap.size, 1, none⟩) (by show w.heap.size < _; omega)).trans (by go_simp)
          have y0 : wr.cell? ⟨w.heap.size + 1, 1, none⟩ = some (.slice r2 u.rules.length s2) := (hB2.cell (p := ⟨w.heap.size + 1, 1, none⟩) (by show w.heap.size + 1 < _; omega)).trans (by go_simp)
          by_cases hlt : k < t.rules.length
          · have hlt' : (k : Int) < (t.rules.length : Int) := by omega
            have hlt2 : k < u.rules.length := by have := Hlen2.out; omega
            obtain ⟨xe, ht⟩ : ∃ xe, t.rules[k]? = some xe := ⟨t.rules[k], List.getElem?_eq_getElem hlt⟩
            obtain ⟨ye, hv⟩ : ∃ ye, u.rules[k]? = some ye := ⟨u.rules[k], List.getElem?_eq_getElem hlt2⟩
            obtain ⟨a, o0a, k0a, o1a, k1a, rfl, ha, Hc, c0, c1, c2, c3⟩ := ru_at S3 hB ht
            obtain ⟨b, o0b, k0b, o1b, k1b, rfl, hb, Hd, d0, d1, d2, d3⟩ := ru_at S4 hB hv
            have hal : (a.add (k * 4)).block < wr.heap.size := by rw [addBlock]; omega
            have hbl : (b.add (k * 4)).block < wr.heap.size := by rw [addBlock]; omega
            have Hst := Lib.hid (allS_drop (f := sameR) ht hv)
            clear ht hv
            have HI := Lib.hid (fun (W : World) (hb : Below wr.heap.size wr W) => rsameRule_c xe ye W _ _ ((Hc.out.below hb).more hb.size) ((Hd.out.below hb).more hb.size))
            go_wp2_with fail
            go_region_held3 (fun w' => w'.cell? ⟨w.heap.size, 1, none⟩ = some (.slice (some a) t.rules.length s1) ∧ w'.cell? ⟨w.heap.size + 1, 1, none⟩ = some (.slice (some b) u.rules.length s2) ∧ w'.cell? (a.add (k * 4)) = some (.string xe.head.rel) ∧ w'.cell? ⟨(a.add (k * 4)).block, (a.add (k * 4)).off + 1, none⟩ = some (.slice o0a xe.head.l.length k0a) ∧ w'.cell? ⟨(a.add (k * 4)).block, (a.add (k * 4)).off + 2, none⟩ = some (.slice o1a xe.body.length k1a) ∧ w'.cell? ⟨(a.add (k * 4)).block, (a.add (k * 4)).off + 3, none⟩ = some (.int .i64 xe.line) ∧ w'.cell? (b.add (k * 4)) = some (.string ye.head.rel) ∧ w'.cell? ⟨(b.add (k * 4)).block, (b.add (k * 4)).off + 1, none⟩ = some (.slice o0b ye.head.l.length k0b) ∧ w'.cell? ⟨(b.add (k * 4)).block, (b.add (k * 4)).off + 2, none⟩ = some (.slice o1b ye.body.length k1b) ∧ w'.cell? ⟨(b.add (k * 4)).block, (b.add (k * 4)).off + 3, none⟩ = some (.int .i64 ye.line)) (first | exact ⟨x0, y0, c0, c1, c2, c3, d0, d1, d2, d3⟩ | exact hk) ((go_at_call 29; refine (HI.out _ ((Below.refl _ _).drew)).mono ?_; rintro e w1 ⟨rfl, b1⟩; have hk := held44 b1 hz0 hz1 hal hbl ⟨x0, y0, c0, c1, c2, c3, d0, d1, d2, d3⟩))
            have hB3 := hB2.trans (((Below.refl _ wr).drew).trans (b1.mono (by show _ ≤ wr.heap.size; omega)))
            cases hs : sameR xe ye
            · have Hz2 := Lib.hid (Hr.out.trans (Hst.out.trans (by rw [hs, Bool.false_and])))
              clear hs
              go_wp2
              go_ret
              exact ⟨by rw [Hz.out, Hz2.out, Bool.and_false]; rfl, (HB0.out _ _).trans (hB3.mono (by omega))⟩
            · have Hz2 := Lib.hid (Hr.out.trans (Hst.out.trans (by rw [hs, Bool.true_and])))
              clear hs
              go_wp2
              go_roundw
              case rel => exact ⟨k + 1, hlt, by go_num, Hz2.out, hB3⟩
              case measure => simp [intOf]; omega
          · have hlt' : ¬ (k : Int) < (t.rules.length : Int) := by omega
            have Hz2 := Lib.hid (allS_end (f := sameR) (l := t.rules) (m := u.rules) (k := k) (by omega) (by have := Hlen2.out; omega))
            go_wp2
            go_ret
            exact ⟨by rw [Hz.out, HN.out, Hr.out, Hz2.out]; rfl, hB⟩

end Go.Proofs.YthjfkngfgomkbaaDoor
