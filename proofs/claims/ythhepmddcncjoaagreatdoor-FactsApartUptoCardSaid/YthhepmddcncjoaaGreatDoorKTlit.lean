/- dtree.checkLit. -/
import Derived.Test.YthhepmddcncjoaaGreatDoorKTvisit
import Derived.Test.YthhepmddcncjoaaGreatDoorKTlook
set_option linter.unusedSimpArgs false
set_option linter.unusedVariables false
namespace Go.Proofs.YthhepmddcncjoaaGreatDoor
open Go.RowKit

def zeroT : Tm := .mk 0 ⟨#[]⟩ 0 []
theorem zero_c (w : World) (B : Nat) : TmC w B zeroT [.int .i64 0, .string ⟨#[]⟩, .int .i64 0, .slice none 0 0] := .nil 0 ⟨#[]⟩ 0 ⟨by omega, by omega⟩ (by decide) ⟨by omega, by omega⟩
theorem same_zero (t : Tm) : sameT t zeroT = noT t := by
  rw [sameT_eq]
  unfold noT zeroT
  simp only [Tm.op_mk, Tm.s_mk, Tm.n_mk, Tm.l_mk]
  have h1 : (t.s.toList == (⟨#[]⟩ : ByteArray).toList) = t.s.toList.isEmpty := by
    have : (⟨#[]⟩ : ByteArray).toList = [] := by rw [Lib.toList_data]
    rw [this]
    cases t.s.toList <;> rfl
  have h2 : allS sameT t.l [] = t.l.isEmpty := by cases t.l <;> rfl
  rw [h1, h2]
theorem noT_zero : noT zeroT = true := by
  unfold noT zeroT
  simp only [Tm.op_mk, Tm.s_mk, Tm.n_mk, Tm.l_mk]
  rw [Lib.toList_data]
  rfl
theorem zero_zero : sameT zeroT zeroT = true := by rw [same_zero, noT_zero]
theorem boxk {W W1 : World} {B : Nat} (n : Nat) (hb : Below B W W1) (hn : n < B) : (∀ o, W1.cell? ⟨n, o, none⟩ = W.cell? ⟨n, o, none⟩) ∧ (∀ o, W1.frozen? ⟨n, o, none⟩ = W.frozen? ⟨n, o, none⟩) :=
  ⟨fun o => hb.cell (p := ⟨n, o, none⟩) hn, fun o => hb.frozen (p := ⟨n, o, none⟩) hn⟩
theorem one_slice (W : World) (T : TypeId) (t : Tm) (cs : List Value) (h : TmC W W.heap.size t cs) : TmS (W.alloc (.cells cs.toArray T)) (W.alloc (.cells cs.toArray T)).heap.size [t] (.slice (some ⟨W.heap.size, 0, none⟩) 1 1) := by
  have hb : Below W.heap.size W (W.alloc (.cells cs.toArray T)) := (Below.refl _ _).alloc (Nat.le_refl _) _
  refine .inr ⟨⟨W.heap.size, 0, none⟩, 1, rfl, Nat.le_refl _, by unfold maxLen; omega, fun _ => by simp, fun i x hx => ?_⟩
  match i, hx with
  | 0, hx =>
    simp only [List.getElem?_cons_zero, Option.some.injEq] at hx
    subst hx
    exact ⟨cs, h.len, (h.under hb).more hb.size, newCells W cs T⟩
theorem two_slice (W : World) (T : TypeId) (t u : Tm) (cs ds : List Value) (h : TmC W W.heap.size t cs) (h' : TmC W W.heap.size u ds) : TmS (W.alloc (.cells (cs ++ ds).toArray T)) (W.alloc (.cells (cs ++ ds).toArray T)).heap.size [t, u] (.slice (some ⟨W.heap.size, 0, none⟩) 2 2) := by
  have hb : Below W.heap.size W (W.alloc (.cells (cs ++ ds).toArray T)) := (Below.refl _ _).alloc (Nat.le_refl _) _
  have hN := newCells W (cs ++ ds) T
  refine .inr ⟨⟨W.heap.size, 0, none⟩, 2, rfl, Nat.le_refl _, by unfold maxLen; omega, fun _ => by simp, fun i x hx => ?_⟩
  match i, hx with
  | 0, hx =>
    simp only [List.getElem?_cons_zero, Option.some.injEq] at hx
    subst hx
    refine ⟨cs, h.len, (h.under hb).more hb.size, fun j c hj => hN j c ?_⟩
    rw [List.getElem?_append_left (List.getElem?_eq_some_iff.1 hj).1]
    exact hj
  | 1, hx =>
    simp only [List.getElem?_cons_succ, List.getElem?_cons_zero, Option.some.injEq] at hx
    subst hx
    refine ⟨ds, h'.len, (h'.under hb).more hb.size, fun j c hj => ?_⟩
    have := hN (4 + j) c (by rw [List.getElem?_append_right (by rw [h.len]; omega), h.len, Nat.add_sub_cancel_left]; exact hj)
    simpa using this

set_option maxRecDepth 100000 in
set_option maxHeartbeats 4000000 in
theorem checkLit_agg (t : Lt) (h8 : 8 ≤ t.op ∧ t.op ≤ 10) (a : Addr) (w : World) (cs : List Value) (hc : LtC w w.heap.size t cs) (E : TErr a w) :
    Calls Tryz.prog 109 #[.agg cs.toArray] w fun e w' => e = .returned (okV a (rightL t)) ∧ Below w.heap.size w w' := by
  obtain ⟨o0, k0, o1, k1, o2, k2, rfl, _, HA, HX, HY⟩ := hc.look
  have HCY : Hid (∀ (W : World) (n : Nat), W.heap.size = n → Below w.heap.size w W → Calls Tryz.prog 144 #[.slice (some ⟨n, 0, none⟩) 1 1] (W.alloc (.cells #[.int .i64 t.y.op, .string t.y.s, .int .i64 t.y.n, .slice o2 t.y.l.length k2] 88)) fun e w' => e = .returned (okV a (rightT 20 t.y)) ∧ Below (W.alloc (.cells #[.int .i64 t.y.op, .string t.y.s, .int .i64 t.y.n, .slice o2 t.y.l.length k2] 88)).heap.size (W.alloc (.cells #[.int .i64 t.y.op, .string t.y.s, .int .i64 t.y.n, .slice o2 t.y.l.length k2] 88)) w') := Lib.hid (by
    intro W n hn hb
    subst hn
    have := checkTerms_c [t.y] _ a _ (one_slice W 88 t.y [.int .i64 t.y.op, .string t.y.s, .int .i64 t.y.n, .slice o2 t.y.l.length k2] ((HY.under hb).more hb.size)) ((E.below hb).below ((Below.refl _ _).alloc (Nat.le_refl _) _))
    rwa [show [t.y].all (rightT 20) = rightT 20 t.y by simp] at this)
  have HCX : Hid (∀ (W : World) (n : Nat), W.heap.size = n → Below w.heap.size w W → Calls Tryz.prog 144 #[.slice (some ⟨n, 0, none⟩) 1 1] (W.alloc (.cells #[.int .i64 t.x.op, .string t.x.s, .int .i64 t.x.n, .slice o1 t.x.l.length k1] 88)) fun e w' => e = .returned (okV a (rightT 20 t.x)) ∧ Below (W.alloc (.cells #[.int .i64 t.x.op, .string t.x.s, .int .i64 t.x.n, .slice o1 t.x.l.length k1] 88)).heap.size (W.alloc (.cells #[.int .i64 t.x.op, .string t.x.s, .int .i64 t.x.n, .slice o1 t.x.l.length k1] 88)) w') := Lib.hid (by
    intro W n hn hb
    subst hn
    have := checkTerms_c [t.x] _ a _ (one_slice W 88 t.x [.int .i64 t.x.op, .string t.x.s, .int .i64 t.x.n, .slice o1 t.x.l.length k1] ((HX.under hb).more hb.size)) ((E.below hb).below ((Below.refl _ _).alloc (Nat.le_refl _) _))
    rwa [show [t.x].all (rightT 20) = rightT 20 t.x by simp] at this)
  have HCA := Lib.hid (fun (W : World) (hb : Below w.heap.size w W) => checkAtom_c t.a a W [.string t.a.rel, .slice o0 t.a.l.length k0] ((HA.below hb).more hb.size) (E.below hb))
  have HZ := Lib.hid (fun (W : World) => sameTerm_c zeroT zeroT W _ _ (zero_c W _) (zero_c W _))
  rw [zero_zero] at HZ
  have herr := E.err
  have hgs := E.size
  have HE := Lib.hid E
  clear E
  clear hc HA HX HY
  have HB0 : Hid (∀ (x : Obj), Below w.heap.size w (w.alloc x)) := Lib.hid fun x => (Below.refl _ _).alloc (Nat.le_refl _) _
  have Hz : Hid (rightL t = ((t.y.op == 1) && rightT 20 t.y && (((t.x.op == 1) || (t.x.op == 2)) && rightT 20 t.x) && rightA t.a)) := Lib.hid (by
    unfold rightL
    rw [if_neg (by omega), if_neg (by omega), if_neg (by omega), if_pos h8]
    cases rightA t.a <;> cases rightT 20 t.x <;> cases rightT 20 t.y <;> cases (t.y.op == 1) <;> cases (t.x.op == 1) <;> cases (t.x.op == 2) <;> rfl)
  have hop : t.op = 8 ∨ t.op = 9 ∨ t.op = 10 := by omega
  obtain ⟨op, hop'⟩ : ∃ op, t.op = op := ⟨_, rfl⟩
  rw [hop'] at hop ⊢
  clear h8 hop'
  obtain ⟨by1, hy1⟩ : ∃ b, (t.y.op != 1) = b := ⟨_, rfl⟩
  cases by1 with
  | true =>
    have Hz1 : Hid (rightL t = false) := Lib.hid (by rw [Hz.out, show (t.y.op == 1) = false by simpa using hy1]; rfl)
    rcases hop with rfl | rfl | rfl
    all_goals
      go_enter Tryz.func109, Tryz.ntmps109
      go_wp2
      go_ret
      exact ⟨by rw [Hz1.out]; rfl, HB0.out _⟩
  | false =>
    have Hz1 : Hid (rightL t = (rightT 20 t.y && (((t.x.op == 1) || (t.x.op == 2)) && rightT 20 t.x) && rightA t.a)) := Lib.hid (by rw [Hz.out, show (t.y.op == 1) = true by simpa using hy1]; rfl)
    clear Hz
    rcases hop with rfl | rfl | rfl
    all_goals
      go_enter Tryz.func109, Tryz.ntmps109
      go_wp2_with fail
      refine (HCY.out _ _ (by simp) (HB0.out _)).mono ?_
      rintro e w1 ⟨rfl, b1⟩
      have B1 : Below w.heap.size w w1 := (HB0.out _).trans (((Below.refl _ _).alloc (by simp) _).trans (b1.mono (by simp; omega)))
      obtain ⟨hc1, hf1⟩ := boxk w.heap.size b1 (by simp; omega)
      have hz1 : w.heap.size + 1 < w1.heap.size := by have := b1.size; simp at this; omega
      have hz1' : w.heap.size < w1.heap.size := by omega
      have herr1 := (HE.out.below B1).err
      cases hry : rightT 20 t.y with
      | false =>
        have Hz2 : Hid (rightL t = false) := Lib.hid (by rw [Hz1.out, hry]; rfl)
        clear hry
        simp only [okV_f]
        go_wp2
        go_ret
        exact ⟨by rw [Hz2.out]; rfl, B1⟩
      | true =>
        have Hz2 : Hid (rightL t = (((t.x.op == 1) || (t.x.op == 2)) && rightT 20 t.x && rightA t.a)) := Lib.hid (by rw [Hz1.out, hry]; rfl)
        clear hry Hz1
        simp only [okV_t]
        obtain ⟨bx1, hx1⟩ : ∃ b, (t.x.op != 1) = b := ⟨_, rfl⟩
        obtain ⟨bx2, hx2⟩ : ∃ b, (t.x.op != 2) = b := ⟨_, rfl⟩
        have hxx : ((t.x.op == 1) || (t.x.op == 2)) = !(bx1 && bx2) := by rw [← hx1, ← hx2]; cases h1 : (t.x.op == 1) <;> cases h2 : (t.x.op == 2) <;> simp [bne, h1, h2]
        have SB : Hid (∀ (u v x y : Value), Below w.heap.size w ((((w1.setCell ⟨w.heap.size, 7, none⟩ u).setCell ⟨w.heap.size, 8, none⟩ v).setCell ⟨w.heap.size, 9, none⟩ x).setCell ⟨w.heap.size, 10, none⟩ y)) := Lib.hid (fun u v x y => (((B1.setCell (p := ⟨w.heap.size, 7, none⟩) (Nat.le_refl _) u).setCell (p := ⟨w.heap.size, 8, none⟩) (Nat.le_refl _) v).setCell (p := ⟨w.heap.size, 9, none⟩) (Nat.le_refl _) x).setCell (p := ⟨w.heap.size, 10, none⟩) (Nat.le_refl _) y)
        rw [hxx] at Hz2
        clear hxx
        have Hbad : Hid (bx1 = true → bx2 = true → rightL t = false) := Lib.hid (by rintro rfl rfl; rw [Hz2.out]; rfl)
        have Hgo : Hid ((bx1 && bx2) = false → rightL t = (rightT 20 t.x && rightA t.a)) := Lib.hid (by intro h; rw [Hz2.out, h]; rfl)
        clear Hz2
        cases bx1 <;> cases bx2
        case true.true =>
          have Hz3 := Lib.hid (Hbad.out rfl rfl)
          go_wp2
          go_ret
          exact ⟨by rw [Hz3.out]; rfl, SB.out _ _ _ _⟩
        all_goals
          have Hz3 := Lib.hid (Hgo.out rfl)
          go_wp2_with fail
          refine (HCX.out _ _ (by simp) (SB.out _ _ _ _)).mono ?_
          rintro e w2 ⟨rfl, b2⟩
          have B2 : Below w.heap.size w w2 := (SB.out _ _ _ _).trans (((Below.refl _ _).alloc (by simp; omega) _).trans (b2.mono (by simp; omega)))
          obtain ⟨hc2, hf2⟩ := boxk w.heap.size b2 (by simp; omega)
          have hz2 : w.heap.size < w2.heap.size := by have := b2.size; simp at this; omega
          have hz2' : w1.heap.size < w2.heap.size := by have := b2.size; simp at this; omega
          have herr2 := (HE.out.below B2).err
          cases hrx : rightT 20 t.x with
          | false =>
            have Hz4 : Hid (rightL t = false) := Lib.hid (by rw [Hz3.out, hrx]; rfl)
            clear hrx
            simp only [okV_f]
            go_wp2
            go_ret
            exact ⟨by rw [Hz4.out]; rfl, B2⟩
          | true =>
            have Hz4 : Hid (rightL t = rightA t.a) := Lib.hid (by rw [Hz3.out, hrx]; rfl)
            clear hrx
            simp only [okV_t]
            have SC : Hid (∀ (u v x y : Value), Below w.heap.size w ((((w2.setCell ⟨w.heap.size, 3, none⟩ u).setCell ⟨w.heap.size, 4, none⟩ v).setCell ⟨w.heap.size, 5, none⟩ x).setCell ⟨w.heap.size, 6, none⟩ y)) := Lib.hid (fun u v x y => (((B2.setCell (p := ⟨w.heap.size, 3, none⟩) (Nat.le_refl _) u).setCell (p := ⟨w.heap.size, 4, none⟩) (Nat.le_refl _) v).setCell (p := ⟨w.heap.size, 5, none⟩) (Nat.le_refl _) x).setCell (p := ⟨w.heap.size, 6, none⟩) (Nat.le_refl _) y)
            go_wp2_with fail
            refine (HZ.out _).mono ?_
            rintro e w3 ⟨rfl, b3⟩
            have B3 : Below w.heap.size w w3 := (SC.out _ _ _ _).trans (b3.mono (by simp; omega))
            obtain ⟨hc3, hf3⟩ := boxk w.heap.size b3 (by simp; omega)
            have hz3 : w.heap.size < w3.heap.size := by have := b3.size; simp at this; omega
            go_wp2_with fail
            refine (HZ.out _).mono ?_
            rintro e w4 ⟨rfl, b4⟩
            have B4 : Below w.heap.size w w4 := B3.trans (b4.mono (by omega))
            obtain ⟨hc4, hf4⟩ := boxk w.heap.size b4 (by omega)
            go_wp2_with fail
            refine (HCA.out _ B4).mono ?_
            rintro e w5 ⟨rfl, b5⟩
            go_wp2
            go_ret
            exact ⟨by rw [Hz4.out]; rfl, B4.trans (b5.mono (by have := b4.size; omega))⟩
set_option maxRecDepth 100000 in
set_option maxHeartbeats 4000000 in
theorem checkLit_atom (t : Lt) (h1 : t.op = 1 ∨ t.op = 2) (a : Addr) (w : World) (cs : List Value) (hc : LtC w w.heap.size t cs) (E : TErr a w) :
    Calls Tryz.prog 109 #[.agg cs.toArray] w fun e w' => e = .returned (okV a (rightL t)) ∧ Below w.heap.size w w' := by
  obtain ⟨o0, k0, o1, k1, o2, k2, rfl, _, HA, HX, HY⟩ := hc.look
  have HCA := Lib.hid (fun (W : World) (hb : Below w.heap.size w W) => checkAtom_c t.a a W [.string t.a.rel, .slice o0 t.a.l.length k0] ((HA.below hb).more hb.size) (E.below hb))
  have HZX := Lib.hid (fun (W : World) (hb : Below w.heap.size w W) => sameTerm_c t.x zeroT W [.int .i64 t.x.op, .string t.x.s, .int .i64 t.x.n, .slice o1 t.x.l.length k1] _ ((HX.under hb).more hb.size) (zero_c W _))
  rw [same_zero] at HZX
  have HZY := Lib.hid (fun (W : World) (hb : Below w.heap.size w W) => sameTerm_c t.y zeroT W [.int .i64 t.y.op, .string t.y.s, .int .i64 t.y.n, .slice o2 t.y.l.length k2] _ ((HY.under hb).more hb.size) (zero_c W _))
  rw [same_zero] at HZY
  have herr := E.err
  have hgs := E.size
  have HE := Lib.hid E
  clear E
  clear hc HA HX HY
  have HB0 : Hid (∀ (x : Obj), Below w.heap.size w (w.alloc x)) := Lib.hid fun x => (Below.refl _ _).alloc (Nat.le_refl _) _
  have Hz : Hid (rightL t = (noT t.x && (noT t.y && rightA t.a))) := Lib.hid (by
    unfold rightL
    rw [if_pos h1]
    cases rightA t.a <;> cases noT t.x <;> cases noT t.y <;> rfl)
  obtain ⟨op, hop'⟩ : ∃ op, t.op = op := ⟨_, rfl⟩
  rw [hop'] at h1 ⊢
  clear hop'
  rcases h1 with rfl | rfl
  all_goals
    go_enter Tryz.func109, Tryz.ntmps109
    go_wp2_with fail
    refine (HZX.out _ (HB0.out _)).mono ?_
    rintro e w1 ⟨rfl, b1⟩
    have B1 : Below w.heap.size w w1 := (HB0.out _).trans (b1.mono (by simp))
    obtain ⟨hc1, hf1⟩ := boxk w.heap.size b1 (by simp)
    have hz1 : w.heap.size < w1.heap.size := by have := b1.size; simp at this; omega
    have herr1 := (HE.out.below B1).err
    cases hnx : noT t.x with
    | false =>
      have Hq : Hid (rightL t = false) := Lib.hid (by rw [Hz.out, hnx]; rfl)
      clear hnx
      go_wp2
      go_ret
      exact ⟨by rw [Hq.out]; rfl, B1⟩
    | true =>
      have Hz1 : Hid (rightL t = (noT t.y && rightA t.a)) := Lib.hid (by rw [Hz.out, hnx]; rfl)
      clear hnx
      go_wp2_with fail
      refine (HZY.out _ B1).mono ?_
      rintro e w2 ⟨rfl, b2⟩
      have B2 : Below w.heap.size w w2 := (B1).trans (b2.mono (by first | omega | (simp; omega)))
      obtain ⟨hc2, hf2⟩ := boxk w.heap.size b2 (by first | omega | (simp; omega))
      have herr2 := (HE.out.below B2).err
      cases hny : noT t.y with
      | false =>
        have Hq : Hid (rightL t = false) := Lib.hid (by rw [Hz1.out, hny]; rfl)
        clear hny
        go_wp2
        go_ret
        exact ⟨by rw [Hq.out]; rfl, B2⟩
      | true =>
        have Hq : Hid (rightL t = rightA t.a) := Lib.hid (by rw [Hz1.out, hny]; rfl)
        clear hny
        go_wp2_with fail
        refine (HCA.out _ B2).mono ?_
        rintro e w9 ⟨rfl, b9⟩
        go_wp2
        go_ret
        exact ⟨by rw [Hq.out]; rfl, B2.trans (b9.mono B2.size)⟩

set_option maxRecDepth 100000 in
set_option maxHeartbeats 4000000 in
theorem checkLit_count (t : Lt) (h7 : t.op = 7) (a : Addr) (w : World) (cs : List Value) (hc : LtC w w.heap.size t cs) (E : TErr a w) :
    Calls Tryz.prog 109 #[.agg cs.toArray] w fun e w' => e = .returned (okV a (rightL t)) ∧ Below w.heap.size w w' := by
  obtain ⟨o0, k0, o1, k1, o2, k2, rfl, _, HA, HX, HY⟩ := hc.look
  have HCA := Lib.hid (fun (W : World) (hb : Below w.heap.size w W) => checkAtom_c t.a a W [.string t.a.rel, .slice o0 t.a.l.length k0] ((HA.below hb).more hb.size) (E.below hb))
  have HCX : Hid (∀ (W : World) (n : Nat), W.heap.size = n → Below w.heap.size w W → Calls Tryz.prog 144 #[.slice (some ⟨n, 0, none⟩) 1 1] (W.alloc (.cells #[.int .i64 t.x.op, .string t.x.s, .int .i64 t.x.n, .slice o1 t.x.l.length k1] 88)) fun e w' => e = .returned (okV a (rightT 20 t.x)) ∧ Below (W.alloc (.cells #[.int .i64 t.x.op, .string t.x.s, .int .i64 t.x.n, .slice o1 t.x.l.length k1] 88)).heap.size (W.alloc (.cells #[.int .i64 t.x.op, .string t.x.s, .int .i64 t.x.n, .slice o1 t.x.l.length k1] 88)) w') := Lib.hid (by
    intro W n hn hb
    subst hn
    have := checkTerms_c [t.x] _ a _ (one_slice W 88 t.x [.int .i64 t.x.op, .string t.x.s, .int .i64 t.x.n, .slice o1 t.x.l.length k1] ((HX.under hb).more hb.size)) ((E.below hb).below ((Below.refl _ _).alloc (Nat.le_refl _) _))
    rwa [show [t.x].all (rightT 20) = rightT 20 t.x by simp] at this)
  have HZY := Lib.hid (fun (W : World) (hb : Below w.heap.size w W) => sameTerm_c t.y zeroT W [.int .i64 t.y.op, .string t.y.s, .int .i64 t.y.n, .slice o2 t.y.l.length k2] _ ((HY.under hb).more hb.size) (zero_c W _))
  rw [same_zero] at HZY
  have HZ := Lib.hid (fun (W : World) => sameTerm_c zeroT zeroT W _ _ (zero_c W _) (zero_c W _))
  rw [zero_zero] at HZ
  have herr := E.err
  have hgs := E.size
  have HE := Lib.hid E
  clear E
  clear hc HA HX HY
  have HB0 : Hid (∀ (x : Obj), Below w.heap.size w (w.alloc x)) := Lib.hid fun x => (Below.refl _ _).alloc (Nat.le_refl _) _
  have Hz : Hid (rightL t = (((t.x.op == 1) || (t.x.op == 2)) && rightT 20 t.x && (noT t.y && rightA t.a))) := Lib.hid (by
    unfold rightL
    rw [if_neg (by omega), if_neg (by omega), if_pos h7]
    cases rightA t.a <;> cases rightT 20 t.x <;> cases noT t.y <;> cases (t.x.op == 1) <;> cases (t.x.op == 2) <;> rfl)
  rw [h7]
  clear h7
  obtain ⟨bx1, hx1⟩ : ∃ b, (t.x.op != 1) = b := ⟨_, rfl⟩
  obtain ⟨bx2, hx2⟩ : ∃ b, (t.x.op != 2) = b := ⟨_, rfl⟩
  have hxx : ((t.x.op == 1) || (t.x.op == 2)) = !(bx1 && bx2) := by rw [← hx1, ← hx2]; cases h1 : (t.x.op == 1) <;> cases h2 : (t.x.op == 2) <;> simp [bne, h1, h2]
  rw [hxx] at Hz
  clear hxx
  have Hbad : Hid (bx1 = true → bx2 = true → rightL t = false) := Lib.hid (by rintro rfl rfl; rw [Hz.out]; rfl)
  have Hgo : Hid ((bx1 && bx2) = false → rightL t = (rightT 20 t.x && (noT t.y && rightA t.a))) := Lib.hid (by intro h; rw [Hz.out, h]; rfl)
  clear Hz
  cases bx1 <;> cases bx2
  case true.true =>
    have Hq := Lib.hid (Hbad.out rfl rfl)
    go_enter Tryz.func109, Tryz.ntmps109
    go_wp2
    go_ret
    exact ⟨by rw [Hq.out]; rfl, HB0.out _⟩
  all_goals
    have Hz3 := Lib.hid (Hgo.out rfl)
    go_enter Tryz.func109, Tryz.ntmps109
    go_wp2_with fail
    refine (HCX.out _ _ (by simp) (HB0.out _)).mono ?_
    rintro e w2 ⟨rfl, b2⟩
    have B2 : Below w.heap.size w w2 := (HB0.out _).trans (((Below.refl _ _).alloc (by simp) _).trans (b2.mono (by simp; omega)))
    obtain ⟨hc2, hf2⟩ := boxk w.heap.size b2 (by simp; omega)
    have hz2 : w.heap.size < w2.heap.size := by have := b2.size; simp at this; omega
    have herr2 := (HE.out.below B2).err
    cases hrx : rightT 20 t.x with
    | false =>
      have Hq : Hid (rightL t = false) := Lib.hid (by rw [Hz3.out, hrx]; rfl)
      clear hrx
      simp only [okV_f]
      go_wp2
      go_ret
      exact ⟨by rw [Hq.out]; rfl, B2⟩
    | true =>
      have Hz4 : Hid (rightL t = (noT t.y && rightA t.a)) := Lib.hid (by rw [Hz3.out, hrx]; rfl)
      clear hrx
      simp only [okV_t]
      have SC : Hid (∀ (u v x y : Value), Below w.heap.size w ((((w2.setCell ⟨w.heap.size, 3, none⟩ u).setCell ⟨w.heap.size, 4, none⟩ v).setCell ⟨w.heap.size, 5, none⟩ x).setCell ⟨w.heap.size, 6, none⟩ y)) := Lib.hid (fun u v x y => (((B2.setCell (p := ⟨w.heap.size, 3, none⟩) (Nat.le_refl _) u).setCell (p := ⟨w.heap.size, 4, none⟩) (Nat.le_refl _) v).setCell (p := ⟨w.heap.size, 5, none⟩) (Nat.le_refl _) x).setCell (p := ⟨w.heap.size, 6, none⟩) (Nat.le_refl _) y)
      go_wp2_with fail
      refine (HZ.out _).mono ?_
      rintro e w3 ⟨rfl, b3⟩
      have B3 : Below w.heap.size w w3 := (SC.out _ _ _ _).trans (b3.mono (by simp; omega))
      obtain ⟨hc3, hf3⟩ := boxk w.heap.size b3 (by simp; omega)
      have hz3 : w.heap.size < w3.heap.size := by have := b3.size; simp at this; omega
      go_wp2_with fail
      refine (HZY.out _ B3).mono ?_
      rintro e w4 ⟨rfl, b4⟩
      have B4 : Below w.heap.size w w4 := (B3).trans (b4.mono (by first | omega | (simp; omega)))
      obtain ⟨hc4, hf4⟩ := boxk w.heap.size b4 (by first | omega | (simp; omega))
      have herr4 := (HE.out.below B4).err
      cases hny : noT t.y with
      | false =>
        have Hq : Hid (rightL t = false) := Lib.hid (by rw [Hz4.out, hny]; rfl)
        clear hny
        go_wp2
        go_ret
        exact ⟨by rw [Hq.out]; rfl, B4⟩
      | true =>
        have Hq : Hid (rightL t = rightA t.a) := Lib.hid (by rw [Hz4.out, hny]; rfl)
        clear hny
        go_wp2_with fail
        refine (HCA.out _ B4).mono ?_
        rintro e w9 ⟨rfl, b9⟩
        go_wp2
        go_ret
        exact ⟨by rw [Hq.out]; rfl, B4.trans (b9.mono B4.size)⟩

def zeroA : Am := ⟨⟨#[]⟩, []⟩
theorem zeroA_c (w : World) (B : Nat) : AmC w B zeroA [.string ⟨#[]⟩, .slice none 0 0] := ⟨_, rfl, by decide, .inl ⟨rfl, rfl⟩⟩
theorem same_zeroA (t : Am) : sameA t zeroA = noA t := by
  unfold sameA noA zeroA
  rw [sameTs_all]
  have h1 : (t.rel.toList == (⟨#[]⟩ : ByteArray).toList) = t.rel.toList.isEmpty := by
    have : (⟨#[]⟩ : ByteArray).toList = [] := by rw [Lib.toList_data]
    rw [this]
    cases t.rel.toList <;> rfl
  have h2 : allS sameT t.l [] = t.l.isEmpty := by cases t.l <;> rfl
  rw [h1, h2]

set_option maxRecDepth 100000 in
set_option maxHeartbeats 4000000 in
theorem checkLit_held (t : Lt) (h3 : 3 ≤ t.op ∧ t.op ≤ 6) (a : Addr) (w : World) (cs : List Value) (hc : LtC w w.heap.size t cs) (E : TErr a w) :
    Calls Tryz.prog 109 #[.agg cs.toArray] w fun e w' => e = .returned (okV a (rightL t)) ∧ Below w.heap.size w w' := by
  obtain ⟨o0, k0, o1, k1, o2, k2, rfl, _, HA, HX, HY⟩ := hc.look
  have HCT : Hid (∀ (W : World) (n : Nat), W.heap.size = n → Below w.heap.size w W → Calls Tryz.prog 144 #[.slice (some ⟨n, 0, none⟩) 2 2] (W.alloc (.cells #[.int .i64 t.x.op, .string t.x.s, .int .i64 t.x.n, .slice o1 t.x.l.length k1, .int .i64 t.y.op, .string t.y.s, .int .i64 t.y.n, .slice o2 t.y.l.length k2] 88)) fun e w' => e = .returned (okV a (rightT 20 t.x && rightT 20 t.y)) ∧ Below (W.alloc (.cells #[.int .i64 t.x.op, .string t.x.s, .int .i64 t.x.n, .slice o1 t.x.l.length k1, .int .i64 t.y.op, .string t.y.s, .int .i64 t.y.n, .slice o2 t.y.l.length k2] 88)).heap.size (W.alloc (.cells #[.int .i64 t.x.op, .string t.x.s, .int .i64 t.x.n, .slice o1 t.x.l.length k1, .int .i64 t.y.op, .string t.y.s, .int .i64 t.y.n, .slice o2 t.y.l.length k2] 88)) w') := Lib.hid (by
    intro W n hn hb
    subst hn
    have := checkTerms_c [t.x, t.y] _ a _ (two_slice W 88 t.x t.y [.int .i64 t.x.op, .string t.x.s, .int .i64 t.x.n, .slice o1 t.x.l.length k1] [.int .i64 t.y.op, .string t.y.s, .int .i64 t.y.n, .slice o2 t.y.l.length k2] ((HX.under hb).more hb.size) ((HY.under hb).more hb.size)) ((E.below hb).below ((Below.refl _ _).alloc (Nat.le_refl _) _))
    rwa [show [t.x, t.y].all (rightT 20) = (rightT 20 t.x && rightT 20 t.y) by simp] at this)
  have HZA := Lib.hid (fun (W : World) (hb : Below w.heap.size w W) => sameAtom_c t.a zeroA W [.string t.a.rel, .slice o0 t.a.l.length k0] _ ((HA.below hb).more hb.size) (zeroA_c W _))
  rw [same_zeroA] at HZA
  have herr := E.err
  have hgs := E.size
  have HE := Lib.hid E
  clear E
  clear hc HA HX HY
  have HB0 : Hid (∀ (x : Obj), Below w.heap.size w (w.alloc x)) := Lib.hid fun x => (Below.refl _ _).alloc (Nat.le_refl _) _
  obtain ⟨bx, hx⟩ : ∃ b, (t.x.op == 4) = b := ⟨_, rfl⟩
  obtain ⟨by', hy⟩ : ∃ b, (t.y.op == 4) = b := ⟨_, rfl⟩
  have Hz : Hid (rightL t = (noA t.a && (!bx && (!by' && (rightT 20 t.x && rightT 20 t.y))))) := Lib.hid (by
    unfold rightL
    rw [if_neg (by omega), if_pos h3, ← hx, ← hy]
    unfold bne
    cases noA t.a <;> cases rightT 20 t.x <;> cases rightT 20 t.y <;> cases (t.x.op == 4) <;> cases (t.y.op == 4) <;> rfl)
  have hop : t.op = 3 ∨ t.op = 4 ∨ t.op = 5 ∨ t.op = 6 := by omega
  obtain ⟨op, hop'⟩ : ∃ op, t.op = op := ⟨_, rfl⟩
  rw [hop'] at hop ⊢
  clear hop' h3
  rcases hop with rfl | rfl | rfl | rfl
  all_goals
    go_enter Tryz.func109, Tryz.ntmps109
    go_wp2_with fail
    refine (HZA.out _ (HB0.out _)).mono ?_
    rintro e w1 ⟨rfl, b1⟩
    have B1 : Below w.heap.size w w1 := (HB0.out _).trans (b1.mono (by simp))
    obtain ⟨hc1, hf1⟩ := boxk w.heap.size b1 (by simp)
    have hz1 : w.heap.size < w1.heap.size := by have := b1.size; simp at this; omega
    have herr1 := (HE.out.below B1).err
    cases hna : noA t.a with
    | false =>
      have Hq : Hid (rightL t = false) := Lib.hid (by rw [Hz.out, hna]; rfl)
      clear hna
      go_wp2
      go_ret
      exact ⟨by rw [Hq.out]; rfl, B1⟩
    | true =>
      have Hz1 : Hid (rightL t = (!bx && (!by' && (rightT 20 t.x && rightT 20 t.y)))) := Lib.hid (by rw [Hz.out, hna]; rfl)
      clear hna
      cases bx with
      | true =>
        have Hq : Hid (rightL t = false) := Lib.hid (by rw [Hz1.out]; rfl)
        go_wp2
        go_ret
        exact ⟨by rw [Hq.out]; rfl, B1⟩
      | false =>
        cases by' with
        | true =>
          have Hq : Hid (rightL t = false) := Lib.hid (by rw [Hz1.out]; rfl)
          go_wp2
          go_ret
          exact ⟨by rw [Hq.out]; rfl, B1⟩
        | false =>
          have Hq : Hid (rightL t = (rightT 20 t.x && rightT 20 t.y)) := Lib.hid (by rw [Hz1.out]; rfl)
          go_wp2_with fail
          refine (HCT.out _ _ rfl B1).mono ?_
          rintro e w2 ⟨rfl, b2⟩
          go_wp2
          go_ret
          exact ⟨by rw [Hq.out]; rfl, B1.trans (((Below.refl _ _).alloc (by omega) _).trans (b2.mono (by simp; omega)))⟩

set_option maxRecDepth 100000 in
set_option maxHeartbeats 4000000 in
theorem checkLit_none (t : Lt) (h0 : t.op < 1 ∨ 10 < t.op) (a : Addr) (w : World) (cs : List Value) (hc : LtC w w.heap.size t cs) (E : TErr a w) :
    Calls Tryz.prog 109 #[.agg cs.toArray] w fun e w' => e = .returned (okV a (rightL t)) ∧ Below w.heap.size w w' := by
  obtain ⟨o0, k0, o1, k1, o2, k2, rfl, _, HA, HX, HY⟩ := hc.look
  have herr := E.err
  have hgs := E.size
  have HE := Lib.hid E
  clear E
  clear hc HA HX HY
  have HB0 : Hid (∀ (x : Obj), Below w.heap.size w (w.alloc x)) := Lib.hid fun x => (Below.refl _ _).alloc (Nat.le_refl _) _
  have Hq : Hid (rightL t = false) := Lib.hid (by unfold rightL; rw [if_neg (by omega), if_neg (by omega), if_neg (by omega), if_neg (by omega)])
  have e1 : (t.op == 1) = false := by rw [beq_eq_false_iff_ne]; omega
  have e2 : (t.op == 2) = false := by rw [beq_eq_false_iff_ne]; omega
  have e3 : (t.op == 3) = false := by rw [beq_eq_false_iff_ne]; omega
  have e4 : (t.op == 4) = false := by rw [beq_eq_false_iff_ne]; omega
  have e5 : (t.op == 5) = false := by rw [beq_eq_false_iff_ne]; omega
  have e6 : (t.op == 6) = false := by rw [beq_eq_false_iff_ne]; omega
  have e7 : (t.op == 7) = false := by rw [beq_eq_false_iff_ne]; omega
  have e8 : (t.op == 8) = false := by rw [beq_eq_false_iff_ne]; omega
  have e9 : (t.op == 9) = false := by rw [beq_eq_false_iff_ne]; omega
  have e10 : (t.op == 10) = false := by rw [beq_eq_false_iff_ne]; omega
  clear h0
  go_enter Tryz.func109, Tryz.ntmps109
  go_wp2
  go_ret
  exact ⟨by rw [Hq.out]; rfl, HB0.out _⟩

theorem checkLit_c (t : Lt) (a : Addr) (w : World) (cs : List Value) (hc : LtC w w.heap.size t cs) (E : TErr a w) :
    Calls Tryz.prog 109 #[.agg cs.toArray] w fun e w' => e = .returned (okV a (rightL t)) ∧ Below w.heap.size w w' := by
  by_cases h1 : t.op = 1 ∨ t.op = 2
  · exact checkLit_atom t h1 a w cs hc E
  by_cases h3 : 3 ≤ t.op ∧ t.op ≤ 6
  · exact checkLit_held t h3 a w cs hc E
  by_cases h7 : t.op = 7
  · exact checkLit_count t h7 a w cs hc E
  by_cases h8 : 8 ≤ t.op ∧ t.op ≤ 10
  · exact checkLit_agg t h8 a w cs hc E
  · exact checkLit_none t (by omega) a w cs hc E
end Go.Proofs.YthhepmddcncjoaaGreatDoor
