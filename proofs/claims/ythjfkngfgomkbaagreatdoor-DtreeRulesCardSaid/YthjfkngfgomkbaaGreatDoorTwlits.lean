/- dtree.writeParted of parts of bodies; a part, a rule, a relation below B. -/
import Derived.Test.YthjfkngfgomkbaaGreatDoorTwlit
namespace Go.Proofs.YthjfkngfgomkbaaGreatDoor
open Go.RowKit

theorem lt_atB {w wr : World} {B : Nat} {l : List Lt} {o : Option Addr} {k : Nat} {t : Lt} (S : Hid (SlIn w B 11 (LtC w B) l o)) (hB : Below B w wr) (ht : l[k]? = some t) :
    ∃ a o0 k0 o1 k1 o2 k2, o = some a ∧ a.block < B ∧ Hid (LtC wr B t [.int .i64 t.op, .string t.a.rel, .slice o0 t.a.l.length k0, .int .i64 t.x.op, .string t.x.s, .int .i64 t.x.n, .slice o1 t.x.l.length k1, .int .i64 t.y.op, .string t.y.s, .int .i64 t.y.n, .slice o2 t.y.l.length k2]) ∧
      wr.cell? (a.add (k * 11)) = some (.int .i64 t.op) ∧ wr.cell? ⟨(a.add (k * 11)).block, (a.add (k * 11)).off + 1, none⟩ = some (.string t.a.rel) ∧ wr.cell? ⟨(a.add (k * 11)).block, (a.add (k * 11)).off + 2, none⟩ = some (.slice o0 t.a.l.length k0) ∧ wr.cell? ⟨(a.add (k * 11)).block, (a.add (k * 11)).off + 3, none⟩ = some (.int .i64 t.x.op) ∧ wr.cell? ⟨(a.add (k * 11)).block, (a.add (k * 11)).off + 4, none⟩ = some (.string t.x.s) ∧ wr.cell? ⟨(a.add (k * 11)).block, (a.add (k * 11)).off + 5, none⟩ = some (.int .i64 t.x.n) ∧ wr.cell? ⟨(a.add (k * 11)).block, (a.add (k * 11)).off + 6, none⟩ = some (.slice o1 t.x.l.length k1) ∧ wr.cell? ⟨(a.add (k * 11)).block, (a.add (k * 11)).off + 7, none⟩ = some (.int .i64 t.y.op) ∧ wr.cell? ⟨(a.add (k * 11)).block, (a.add (k * 11)).off + 8, none⟩ = some (.string t.y.s) ∧ wr.cell? ⟨(a.add (k * 11)).block, (a.add (k * 11)).off + 9, none⟩ = some (.int .i64 t.y.n) ∧ wr.cell? ⟨(a.add (k * 11)).block, (a.add (k * 11)).off + 10, none⟩ = some (.slice o2 t.y.l.length k2) := by
  obtain ⟨a, cs, rfl, ha, _, h1, h2⟩ := S.out k t ht
  obtain ⟨o0, k0, o1, k1, o2, k2, rfl, _⟩ := h1.look
  exact ⟨a, o0, k0, o1, k1, o2, k2, rfl, ha, Lib.hid (h1.below hB), (h2.below ha hB).n11⟩
theorem ru_atB {w wr : World} {B : Nat} {l : List Ru} {o : Option Addr} {k : Nat} {t : Ru} (S : Hid (SlIn w B 4 (RuC w B) l o)) (hB : Below B w wr) (ht : l[k]? = some t) :
    ∃ a o0 k0 o1 k1, o = some a ∧ a.block < B ∧ Hid (RuC wr B t [.string t.head.rel, .slice o0 t.head.l.length k0, .slice o1 t.body.length k1, .int .i64 t.line]) ∧
      wr.cell? (a.add (k * 4)) = some (.string t.head.rel) ∧ wr.cell? ⟨(a.add (k * 4)).block, (a.add (k * 4)).off + 1, none⟩ = some (.slice o0 t.head.l.length k0) ∧ wr.cell? ⟨(a.add (k * 4)).block, (a.add (k * 4)).off + 2, none⟩ = some (.slice o1 t.body.length k1) ∧ wr.cell? ⟨(a.add (k * 4)).block, (a.add (k * 4)).off + 3, none⟩ = some (.int .i64 t.line) := by
  obtain ⟨a, cs, rfl, ha, _, h1, h2⟩ := S.out k t ht
  obtain ⟨o0, k0, o1, k1, rfl, _⟩ := h1.look
  exact ⟨a, o0, k0, o1, k1, rfl, ha, Lib.hid (h1.below hB), (h2.below ha hB).four⟩
theorem de_atB {w wr : World} {B : Nat} {l : List De} {o : Option Addr} {k : Nat} {t : De} (S : Hid (SlIn w B 6 (DeC w B) l o)) (hB : Below B w wr) (ht : l[k]? = some t) :
    ∃ a o0 k0 o1 k1, o = some a ∧ a.block < B ∧ Hid (DeC wr B t [.string t.rel, .slice o0 t.names.length k0, .slice o1 t.types.length k1, .bool t.inn, .bool t.out, .int .i64 t.line]) ∧
      wr.cell? (a.add (k * 6)) = some (.string t.rel) ∧ wr.cell? ⟨(a.add (k * 6)).block, (a.add (k * 6)).off + 1, none⟩ = some (.slice o0 t.names.length k0) ∧ wr.cell? ⟨(a.add (k * 6)).block, (a.add (k * 6)).off + 2, none⟩ = some (.slice o1 t.types.length k1) ∧ wr.cell? ⟨(a.add (k * 6)).block, (a.add (k * 6)).off + 3, none⟩ = some (.bool t.inn) ∧ wr.cell? ⟨(a.add (k * 6)).block, (a.add (k * 6)).off + 4, none⟩ = some (.bool t.out) ∧ wr.cell? ⟨(a.add (k * 6)).block, (a.add (k * 6)).off + 5, none⟩ = some (.int .i64 t.line) := by
  obtain ⟨a, cs, rfl, ha, _, h1, h2⟩ := S.out k t ht
  obtain ⟨o0, k0, o1, k1, rfl, _⟩ := h1.look
  exact ⟨a, o0, k0, o1, k1, rfl, ha, Lib.hid (h1.below hB), (h2.below ha hB).n6⟩

set_option maxRecDepth 100000 in
set_option maxHeartbeats 4000000 in
theorem writeLits_c (L : List Lt) (B b : Nat) (l : List UInt8) (w : World) (v : Value) (a : Addr) (hr : L.all rightL = true) (hb : Bd B b l w) (hc : SlOf w B 11 (LtC w B) L v) (E : TEnv a w) (hV : 12 ≤ B) (hB : B ≤ w.heap.size) (hl : l.length + (joinL [44, 32] (L.map showL)).length ≤ 1073741824) :
    Calls Tryz.prog 66 #[.pointer (some ⟨b, 0, none⟩), v, .func (.func 67) #[] #[]] w (Wrote B b l (joinL [44, 32] (L.map showL)) w) := by
  obtain ⟨o1, cap1, rfl, hc1, hm1, S1⟩ := SlOf.open hc
  have HE := Lib.hid E
  have Hb := Lib.hid hb
  have Hr := Lib.hid hr
  have Hl := Lib.hid hl
  clear E hc hb hr hl
  go_enter Tryz.func66, Tryz.ntmps66
  go_wp2
  go_loopw [10] (fun i wr => ∃ k : Nat, k ≤ L.length ∧ i = .int .i64 k ∧ Bd B b (l ++ joinL [44, 32] ((L.take k).map showL)) wr ∧ Kp B b w wr) (fun i _ => L.length - (intOf i).toNat)
  case atStart => exact ⟨0, Nat.zero_le _, rfl, by simpa [joinL] using Hb.out, Kp.refl _ _ _⟩
  case round =>
    obtain ⟨k, hk, rfl, hbk, hK⟩ := hrel
    have hsz := hK.below.size
    by_cases hlt : k < L.length
    · have hlt' : (k : Int) < (L.length : Int) := by omega
      obtain ⟨xe, ht⟩ : ∃ xe, L[k]? = some xe := ⟨L[k], List.getElem?_eq_getElem hlt⟩
      obtain ⟨a1, o0, k0, o1, k1, o2, k2, rfl, ha, Hc, c0, c1, c2, c3, c4, c5, c6, c7, c8, c9, c10⟩ := lt_atB S1 hK.below ht
      have hal : (a1.add (k * 11)).block < wr.heap.size := by rw [addBlock]; omega
      have hj := joinL_take (sep := [44, 32]) showL ht
      have hup := joinL_upto (sep := [44, 32]) showL L (k + 1)
      have hrt : rightL xe = true := List.all_eq_true.1 Hr.out xe (List.mem_of_getElem? ht)
      have Hj := Lib.hid hj
      obtain ⟨oc, hoc⟩ : ∃ o : Obj, o = .cells #[.int .i64 xe.op, .string xe.a.rel, .slice o0 xe.a.l.length k0, .int .i64 xe.x.op, .string xe.x.s, .int .i64 xe.x.n, .slice o1 xe.x.l.length k1, .int .i64 xe.y.op, .string xe.y.s, .int .i64 xe.y.n, .slice o2 xe.y.l.length k2] 81 := ⟨_, rfl⟩
      have b0 := hbk.alloc oc
      have k0' : Kp B b wr (wr.alloc oc) := Kp.alloc (by omega) _
      have R0 : Row wr.heap.size 81 [.int .i64 xe.op, .string xe.a.rel, .slice o0 xe.a.l.length k0, .int .i64 xe.x.op, .string xe.x.s, .int .i64 xe.x.n, .slice o1 xe.x.l.length k1, .int .i64 xe.y.op, .string xe.y.s, .int .i64 xe.y.n, .slice o2 xe.y.l.length k2] (wr.alloc oc) := by rw [hoc]; exact Row.new wr _ _
      have hbl := bdLt hbk
      have HW : Hid (∀ (W : World) (l : List UInt8), Bd B b l W → Kp B b (wr.alloc oc) W → l.length + (showL xe).length ≤ 1073741824 → _) := Lib.hid fun W l hb k hl => writeLit_c xe B b l W _ a hrt hb (Hc.out.below (k0'.below.trans k.below)) (HE.out.belowB hV ((hK.below.trans k0'.below).trans k.below)) hV (by have := k.below.size; simp at this; omega) hl
      have HR : Hid (∀ W, Kp B b (wr.alloc oc) W → W.cell? ⟨wr.heap.size, 0, none⟩ = some (.int .i64 xe.op) ∧ W.cell? ⟨wr.heap.size, 1, none⟩ = some (.string xe.a.rel) ∧ W.cell? ⟨wr.heap.size, 2, none⟩ = some (.slice o0 xe.a.l.length k0) ∧ W.cell? ⟨wr.heap.size, 3, none⟩ = some (.int .i64 xe.x.op) ∧ W.cell? ⟨wr.heap.size, 4, none⟩ = some (.string xe.x.s) ∧ W.cell? ⟨wr.heap.size, 5, none⟩ = some (.int .i64 xe.x.n) ∧ W.cell? ⟨wr.heap.size, 6, none⟩ = some (.slice o1 xe.x.l.length k1) ∧ W.cell? ⟨wr.heap.size, 7, none⟩ = some (.int .i64 xe.y.op) ∧ W.cell? ⟨wr.heap.size, 8, none⟩ = some (.string xe.y.s) ∧ W.cell? ⟨wr.heap.size, 9, none⟩ = some (.int .i64 xe.y.n) ∧ W.cell? ⟨wr.heap.size, 10, none⟩ = some (.slice o2 xe.y.l.length k2) ∧ wr.heap.size < W.heap.size) := Lib.hid fun W K => by
        have R := R0.kp K (by omega) (by decide)
        have := K.below.size
        simp only [World.size_alloc] at this
        exact ⟨R.at 0 _ rfl, R.at 1 _ rfl, R.at 2 _ rfl, R.at 3 _ rfl, R.at 4 _ rfl, R.at 5 _ rfl, R.at 6 _ rfl, R.at 7 _ rfl, R.at 8 _ rfl, R.at 9 _ rfl, R.at 10 _ rfl, by omega⟩
      have HK0 := Lib.hid (hK.trans k0')
      have hL := Hl.out
      have hlen : (joinL [44, 32] ((L.take (k + 1)).map showL)).length ≤ (joinL [44, 32] (L.map showL)).length := hup
      rw [hj] at hlen
      clear R0 k0' hK ht Hc hbk hj hup hrt
      subst hoc
      by_cases h0 : k = 0
      · subst h0
        have e0 : l ++ joinL [44, 32] ((L.take 0).map showL) = l := by simp [joinL]
        rw [e0] at b0
        clear e0
        rw [if_pos rfl] at hlen
        simp only [List.nil_append] at hlen
        have hl2 : l.length + (showL xe).length ≤ 1073741824 := by omega
        have ea : a1.add 0 = a1 := by unfold Addr.add; simp
        simp only [Nat.zero_mul, ea] at c0 c1 c2 c3 c4 c5 c6 c7 c8 c9 c10 hal
        clear hL hlen
        go_wp2_with fail
        refine (HW.out _ _ b0 (Kp.refl _ _ _) hl2).mono ?_
        rintro e w2 ⟨rfl, b2, k2⟩
        have Hb2 : Hid (Bd B b (l ++ joinL [44, 32] ((L.take (0 + 1)).map showL)) w2) := Lib.hid (by rw [Hj.out]; exact b2)
        have Hk2 := Lib.hid (HK0.out.trans k2)
        clear b2 k2 b0 c0 c1 c2 c3 c4 c5 c6 c7 c8 c9 c10 hal ea
        go_wp2
        go_roundw
        case rel => exact ⟨0 + 1, hlt, by go_num, Hb2.out, Hk2.out⟩
        case measure => simp [intOf]; omega
      · have h0' : (0 : Int) < (k : Int) := by omega
        rw [if_neg h0] at hlen
        simp only [List.length_append, List.length_cons, List.length_nil] at hlen
        have hl2 : (l ++ joinL [44, 32] ((L.take k).map showL) ++ [44, 32]).length + (showL xe).length ≤ 1073741824 := by simp only [List.length_append, List.length_cons, List.length_nil]; omega
        have hl3 : (l ++ joinL [44, 32] ((L.take k).map showL)).length + (⟨#[44, 32]⟩ : ByteArray).size ≤ 140737488355328 := by simp only [List.length_append, show (⟨#[44, 32]⟩ : ByteArray).size = 2 from rfl]; omega
        have hf := Hj.out
        rw [if_neg h0] at hf
        have Hf := Lib.hid hf
        clear hL hlen Hj hf
        go_wp2_with fail
        refine (writeString_c B b _ ⟨#[44, 32]⟩ _ b0 hl3 (by simp; omega)).mono ?_
        rintro e w1 ⟨rfl, b1, k1⟩
        obtain ⟨x0, x1, x2, x3, x4, x5, x6, x7, x8, x9, x10, hz0⟩ := HR.out _ k1
        have Hb1 := Lib.hid (show Bd B b (l ++ joinL [44, 32] ((L.take k).map showL) ++ [44, 32]) w1 from b1)
        have Hk1 := Lib.hid k1
        clear b1 k1 c0 c1 c2 c3 c4 c5 c6 c7 c8 c9 c10 b0 hal hl3
        go_wp2_with fail
        refine (HW.out _ _ Hb1.out Hk1.out hl2).mono ?_
        rintro e w2 ⟨rfl, b2, k2⟩
        have Hb2 : Hid (Bd B b (l ++ joinL [44, 32] ((L.take (k + 1)).map showL)) w2) := Lib.hid (by rw [Hf.out]; simpa using b2)
        have Hk2 := Lib.hid (HK0.out.trans (Hk1.out.trans k2))
        clear b2 k2 x0 x1 x2 x3 x4 x5 x6 x7 x8 x9 x10 hz0
        go_wp2
        go_roundw
        case rel => exact ⟨k + 1, hlt, by go_num, Hb2.out, Hk2.out⟩
        case measure => simp [intOf]; omega
    · have hlt' : ¬ (k : Int) < (L.length : Int) := by omega
      have hkl : L.take k = L := List.take_of_length_le (by omega)
      rw [hkl] at hbk
      have Hbk := Lib.hid hbk
      have HKk := Lib.hid hK
      clear hbk hK
      go_wp2
      go_end0
      exact ⟨rfl, Hbk.out, HKk.out⟩
end Go.Proofs.YthjfkngfgomkbaaGreatDoor
