/- facts.writeLine, Line. facts.Line; writeLines, allFit, Tell. facts.writeLines. What Tell writes, in plain: its size, and that it is read back as it was. Rows of rows of values and relations among the arguments, opened, with how much they hold. few of the laws of layer 10. As Fframe, for the rows that list eight variables: the tables of numbers' digits besides. -/
import Derived.Test.YthhepmddcncjoaaGreatDoorKFv
import Derived.Lib.ItoaLen
import Derived.Test.YthhepmddcncjoaaGreatDoorKPri
import Derived.Test.YthhepmddcncjoaaGreatDoorKTchk2
import Derived.Test.YthhepmddcncjoaaGreatDoorKUnquote
import Derived.Test.YthhepmddcncjoaaGreatDoorKRef
import Derived.Test.YthhepmddcncjoaaGreatDoorKFR
import Derived.Test.YthhepmddcncjoaaGreatDoorRows
import Derived.Test.YthhepmddcncjoaaGreatDoorTie
import Derived.Test.YthhepmddcncjoaaGreatDoorCards
import Derived.ProofKit
import Derived.OpenShut
import Derived.Deep.DeepHandedRow
import Derived.Deep.DeepWitnessRowRef
import Derived.LaidMore
import Derived.LaidHandle
import Derived.Stop.LaidErr
import Derived.Stop.LaidTwo
import Derived.Shelf.Vars
import Derived.Lib.LaidTab
set_option linter.unusedSimpArgs false
set_option linter.unusedVariables false
namespace Go.Proofs.YthhepmddcncjoaaGreatDoor
open Go.RowKit

theorem textV_len (x : Vl) (hI : I64 x.n) : (textV x).length ≤ 4 * x.s.size + 30 := by
  unfold textV
  split
  · unfold quoteL
    have := flat_len x.s.data.toList
    have e : x.s.data.toList.length = x.s.size := by simp
    rw [List.length_cons, List.length_append, List.length_singleton]
    omega
  · have := Lib.itoa_length_le x.n hI.1 hI.2
    omega
theorem rowT_take {r : Rw} {k : Nat} {x : Vl} (h : r[k]? = some x) : rowT (r.take (k + 1)) = rowT (r.take k) ++ 9 :: textV x := by
  unfold rowT
  rw [List.take_add_one, h, List.flatMap_append]
  simp
theorem rowT_upto (r : Rw) (k : Nat) : (rowT (r.take k)).length ≤ (rowT r).length := by
  unfold rowT
  conv => rhs; rw [← List.take_append_drop k r, List.flatMap_append]
  rw [List.length_append]
  omega
set_option maxRecDepth 100000 in
set_option maxHeartbeats 4000000 in
theorem writeLine_c (rel : ByteArray) (r : Rw) (B b : Nat) (l : List UInt8) (w : World) (v : Value) (hb : Bd B b l w) (hv : SlOf w B 3 VlC r v) (E : TabE w) (hV : 9 ≤ B) (hB : B ≤ w.heap.size) (hl : l.length + (lineT rel r).length ≤ 1073741824) (hs : ∀ x ∈ r, x.s.size ≤ 1073741824) :
    Calls Tryz.prog 36 #[.pointer (some ⟨b, 0, none⟩), .string rel, v] w (Wrote B b l (lineT rel r) w) := by
  obtain ⟨o1, cap1, rfl, hc1, hm1, S1⟩ := SlOf.open hv
  have hlen : (lineT rel r).length = rel.size + ((rowT r).length + 1) := by
    unfold lineT
    have e : rel.data.toList.length = rel.size := by simp
    rw [List.length_append, List.length_append, e]; rfl
  rw [hlen] at hl
  have HE := Lib.hid E
  have Hb := Lib.hid hb
  have Hl := Lib.hid hl
  have Hs := Lib.hid hs
  have hl1 : l.length + rel.size ≤ 140737488355328 := by omega
  clear E hb hl hlen hs hv
  go_enter Tryz.func36, Tryz.ntmps36
  go_wp2_with fail
  refine (writeString_c B b l rel w Hb.out hl1 hB).mono ?_
  rintro e w1 ⟨rfl, b1, k1⟩
  have Hb1 := Lib.hid b1
  have Hk1 := Lib.hid k1
  clear b1 k1
  go_wp2
  go_loopw [13] (fun i wr => ∃ k : Nat, k ≤ r.length ∧ i = .int .i64 (k : Int) ∧ Bd B b (l ++ rel.data.toList ++ rowT (r.take k)) wr ∧ Kp B b w wr) (fun i _ => r.length - (intOf i).toNat)
  case atStart => exact ⟨0, Nat.zero_le _, rfl, by simpa [rowT] using Hb1.out, Hk1.out⟩
  case round =>
    obtain ⟨k, hk, rfl, hbk, hK⟩ := hrel
    have hsz := hK.below.size
    have erel : rel.data.toList.length = rel.size := by simp
    by_cases hlt : k < r.length
    · have hlt' : (k : Int) < (r.length : Int) := by omega
      obtain ⟨x, hx⟩ : ∃ x, r[k]? = some x := ⟨r[k], List.getElem?_eq_getElem hlt⟩
      obtain ⟨a1, rfl, ha1, hI1, hs1, c0, c1, c2⟩ := vl_at S1 hK.below hx
      have hT := rowT_take hx
      have hup := rowT_upto r (k + 1)
      rw [hT] at hup
      simp only [List.length_append, List.length_cons] at hup
      have Hx := Lib.hid (Hs.out x (List.mem_of_getElem? hx))
      have HT := Lib.hid hT
      have HI := Lib.hid hI1
      obtain ⟨oc, hoc⟩ : ∃ o : Obj, o = .cells #[.bool x.sym, .int .i64 x.n, .string x.s] 51 := ⟨_, rfl⟩
      have b0 := hbk.alloc oc
      have k0 : Kp B b wr (wr.alloc oc) := Kp.alloc (by omega) _
      have R0 : Row wr.heap.size 51 [.bool x.sym, .int .i64 x.n, .string x.s] (wr.alloc oc) := by rw [hoc]; exact Row.new wr _ _
      have hbl := bdLt hbk
      have HR : Hid (∀ W, Kp B b (wr.alloc oc) W → W.cell? ⟨wr.heap.size, 0, none⟩ = some (.bool x.sym) ∧ W.cell? ⟨wr.heap.size, 1, none⟩ = some (.int .i64 x.n) ∧ W.cell? ⟨wr.heap.size, 2, none⟩ = some (.string x.s) ∧ wr.heap.size < W.heap.size ∧ TabE W ∧ B ≤ W.heap.size) := Lib.hid fun W K => by
        have R := R0.kp K (by omega) (by decide)
        have := K.below.size
        simp only [World.size_alloc] at this
        exact ⟨R.at 0 _ rfl, R.at 1 _ rfl, R.at 2 _ rfl, by omega, HE.out.belowB hV ((hK.below.trans k0.below).trans K.below), by omega⟩
      have HK0 := Lib.hid (hK.trans k0)
      have hl2 : (l ++ rel.data.toList ++ rowT (r.take k)).length + (⟨#[9]⟩ : ByteArray).size ≤ 140737488355328 := by
        have := Hl.out
        simp only [List.length_append, show (⟨#[9]⟩ : ByteArray).size = 1 from rfl]; omega
      have hl3 : (l ++ rel.data.toList ++ rowT (r.take k) ++ [9]).length + (⟨(textV x).toArray⟩ : ByteArray).size ≤ 140737488355328 := by
        have := Hl.out
        rw [bs_size]
        simp only [List.length_append, List.length_cons, List.length_nil]; omega
      have Hl3 := Lib.hid hl3
      clear R0 k0 hK hx hbk hT hup hs1 hI1 hl3
      subst hoc
      go_wp2_with fail
      refine (writeString_c B b _ ⟨#[9]⟩ _ b0 hl2 (by simp; omega)).mono ?_
      rintro e w2 ⟨rfl, b2, k2⟩
      obtain ⟨x0, x1, x2, hz0, hE2, hB2⟩ := HR.out _ k2
      have Hb2 := Lib.hid (show Bd B b (l ++ rel.data.toList ++ rowT (r.take k) ++ [9]) w2 from b2)
      have Hk2 := Lib.hid k2
      have HX := Lib.hid (textOf_c x w2 HI.out Hx.out hE2)
      clear b2 k2 b0 hE2
      go_wp2_with fail
      refine HX.out.mono ?_
      rintro e w3 ⟨rfl, b3⟩
      have Hb3 := Lib.hid (Hb2.out.past b3)
      have Hk3 := Lib.hid (Hk2.out.trans (Kp.past hB2 b3))
      have hB3 : B ≤ w3.heap.size := Nat.le_trans hB2 b3.size
      clear b3 x0 x1 x2 c0 c1 c2
      go_wp2_with fail
      refine (writeString_c B b _ ⟨(textV x).toArray⟩ w3 Hb3.out Hl3.out hB3).mono ?_
      rintro e w4 ⟨rfl, b4, k4⟩
      have Hb4 : Hid (Bd B b (l ++ rel.data.toList ++ rowT (r.take (k + 1))) w4) := Lib.hid (by rw [HT.out]; simpa using b4)
      have Hk4 := Lib.hid (HK0.out.trans (Hk3.out.trans k4))
      clear b4 k4
      go_wp2
      go_roundw
      case rel => exact ⟨k + 1, hlt, by go_num, Hb4.out, Hk4.out⟩
      case measure => simp [intOf]; omega
    · have hlt' : ¬ (k : Int) < (r.length : Int) := by omega
      have hT : r.take k = r := List.take_of_length_le (by omega)
      rw [hT] at hbk
      have hl4 : (l ++ rel.data.toList ++ rowT r).length + (⟨#[10]⟩ : ByteArray).size ≤ 140737488355328 := by
        have := Hl.out
        simp only [List.length_append, show (⟨#[10]⟩ : ByteArray).size = 1 from rfl]; omega
      have Hk0 := Lib.hid hK
      clear hT hK
      go_wp2_with fail
      refine (writeString_c B b _ ⟨#[10]⟩ wr hbk hl4 (by omega)).mono ?_
      rintro e w4 ⟨rfl, b4, k4⟩
      have Hb4 := Lib.hid b4
      have Hk4 := Lib.hid (Hk0.out.trans k4)
      clear b4 k4
      go_wp2
      go_end0
      exact ⟨rfl, by have := Hb4.out; unfold lineT; simpa using this, Hk4.out⟩
end Go.Proofs.YthhepmddcncjoaaGreatDoor
namespace Go.Proofs.YthhepmddcncjoaaGreatDoor
open Go.RowKit

/-- A text, or an error number. -/
def lineV (n : Int) (x : List UInt8) : Value := if n = 0 then .tuple #[.string ⟨x.toArray⟩, .int .i64 0] else .tuple #[.string ⟨#[]⟩, .int .i64 n]
def codeL : Bool → Int
  | true => 0
  | false => 90
def Big30 (x : List UInt8) : Prop := x.length ≤ 1073741824
set_option maxRecDepth 100000 in
set_option maxHeartbeats 4000000 in
theorem line_c (d : De) (r : Rw) (w : World) (cs : List Value) (v : Value) (hd : DeC w w.heap.size d cs) (hv : SlOf w w.heap.size 3 VlC r v) (E : TabE w) (hl : fitR d.types r = true → Big30 (lineT d.rel r)) (hs : ∀ x ∈ r, x.s.size ≤ 1073741824) :
    Calls Tryz.prog 17 #[.agg cs.toArray, v] w fun e w' => e = .returned (lineV (codeL (fitR d.types r)) (lineT d.rel r)) ∧ Below w.heap.size w w' := by
  obtain ⟨o0, k0, o1, k1, rfl, _, _, _, hT⟩ := hd.look
  have HF := Lib.hid (fun (W : World) (hb : Below w.heap.size w W) => fits_c r d.types v (.slice o1 d.types.length k1) W (VlS.past hv hb) (SlOf.int hT hb hb.size))
  have HW := Lib.hid (fun (h : fitR d.types r = true) (W : World) (hb : Below w.heap.size w W) (W' : World) (hb' : Bd W.heap.size W.heap.size [] W') (hk : Below W.heap.size W W') => writeLine_c d.rel r W.heap.size W.heap.size [] W' v hb' (VlS.below (VlS.past hv hb) hk) ((E.below hb).below hk) (E.below hb).size hk.size (by have := hl h; unfold Big30 at this; simpa using this) hs)
  have HB := Lib.hid (fun (W : World) => Lib.IsBuilderF.of (Lib.fresh_isBuilder 79 5 W))
  have HB0 : Hid (∀ (x : Obj), Below w.heap.size w (w.alloc x)) := Lib.hid fun x => alB w x
  clear hd hT E hl hs hv
  go_enter Tryz.func17, Tryz.ntmps17
  go_wp2_with fail
  refine (HF.out _ (HB0.out _)).mono ?_
  rintro e w1 ⟨rfl, b1⟩
  have r1 := (b1.block w.heap.size (by simp)).trans (rowNew w 38 [.string d.rel, .slice o0 d.names.length k0, .slice o1 d.types.length k1, .bool d.inn, .bool d.out, .int .i64 d.line])
  have c0 : w1.cell? ⟨w.heap.size, 0, none⟩ = some (.string d.rel) := row_cells r1 0
  have hz1 := heap_lt r1
  have B1 := Lib.hid ((HB0.out (.cells #[.string d.rel, .slice o0 d.names.length k0, .slice o1 d.types.length k1, .bool d.inn, .bool d.out, .int .i64 d.line] 38)).trans (b1.mono (by simp)))
  clear b1 r1
  cases hr : fitR d.types r with
  | false =>
    have Hr := Lib.hid hr
    clear hr
    go_wp2
    go_ret2
    exact ⟨by rw [Hr.out]; rfl, B1.out⟩
  | true =>
    have Hr := Lib.hid hr
    have c1 : (w1.alloc (.cells #[.pointer none, .slice none 0 0] 79)).cell? ⟨w.heap.size, 0, none⟩ = some (.string d.rel) := by rw [World.cell?_alloc_old _ _ _ (by show w.heap.size ≠ _; omega)]; exact c0
    clear hr
    go_wp2_with fail
    refine (HW.out Hr.out w1 B1.out _ (HB.out w1) (alB _ _)).mono ?_
    rintro e w2 ⟨rfl, b2, k2⟩
    have hz2 : w1.heap.size < w2.heap.size := by have := k2.below.size; simp at this; omega
    have K2 := Lib.hid ((alB w1 (.cells #[.pointer none, .slice none 0 0] 79)).trans k2.below)
    have Hb2 := Lib.hid b2
    clear b2 k2 c0 c1
    go_wp2_with fail
    refine (bstr_c _ _ _ w2 Hb2.out (Nat.le_of_lt hz2)).mono ?_
    rintro e w5 ⟨rfl, b5, k5⟩
    have K5 := Lib.hid (B1.out.trans ((K2.out.mono (Nat.le_of_lt hz1)).trans (k5.below.mono (Nat.le_of_lt hz1))))
    clear b5 k5
    go_wp2
    go_ret2
    exact ⟨by rw [Hr.out]; rfl, K5.out⟩
end Go.Proofs.YthhepmddcncjoaaGreatDoor
namespace Go.Proofs.YthhepmddcncjoaaGreatDoor
open Go.RowKit

def rowsT (rel : ByteArray) (rs : List Rw) : List UInt8 := rs.flatMap (lineT rel)
theorem rowsT_take {rel : ByteArray} {rs : List Rw} {k : Nat} {r : Rw} (h : rs[k]? = some r) : rowsT rel (rs.take (k + 1)) = rowsT rel (rs.take k) ++ lineT rel r := by
  unfold rowsT
  rw [List.take_add_one, h, List.flatMap_append]
  simp
theorem rowsT_upto (rel : ByteArray) (rs : List Rw) (k : Nat) : (rowsT rel (rs.take k)).length ≤ (rowsT rel rs).length := by
  unfold rowsT
  conv => rhs; rw [← List.take_append_drop k rs, List.flatMap_append]
  rw [List.length_append]
  omega
theorem rw_atB {w wr : World} {B : Nat} {l : List Rw} {o : Option Addr} {k : Nat} {r : Rw} (S : Hid (SlIn w B 1 (RwC w B) l o)) (hB : Below B w wr) (ht : l[k]? = some r) :
    ∃ a o' cap', o = some a ∧ a.block < B ∧ SlOf wr B 3 VlC r (.slice o' r.length cap') ∧ wr.cell? (a.add k) = some (.slice o' r.length cap') := by
  obtain ⟨a, cs, rfl, ha, _, ⟨v, rfl, h1⟩, h2⟩ := S.out k r ht
  obtain ⟨o', cap', rfl, _⟩ := SlOf.uni h1
  have h3 := (h2.below ha hB).n1
  rw [Nat.mul_one] at h3
  exact ⟨a, o', cap', rfl, ha, VlS.below h1 hB, h3⟩
set_option maxRecDepth 100000 in
set_option maxHeartbeats 4000000 in
theorem writeLines_c (rel : ByteArray) (rs : List Rw) (B b : Nat) (l : List UInt8) (w : World) (v : Value) (hb : Bd B b l w) (hv : RwsS w B rs v) (E : TabE w) (hV : 9 ≤ B) (hB : B ≤ w.heap.size) (hl : l.length + (rowsT rel rs).length ≤ 1073741824) (hs : ∀ r ∈ rs, ∀ x ∈ r, x.s.size ≤ 1073741824) :
    Calls Tryz.prog 42 #[.pointer (some ⟨b, 0, none⟩), .string rel, v] w (Wrote B b l (rowsT rel rs) w) := by
  obtain ⟨o1, cap1, rfl, hc1, hm1, S1⟩ := SlOf.open hv
  have HE := Lib.hid E
  have Hb : Hid (Bd B b (l ++ rowsT rel (rs.take 0)) w) := Lib.hid (by simpa [rowsT] using hb)
  have Hl := Lib.hid hl
  have Hs := Lib.hid hs
  have Hk : Hid (Kp B b w w) := Lib.hid ⟨Below.refl _ _, fun _ _ h _ _ => h⟩
  clear E hb hl hs hv
  go_enter Tryz.func42, Tryz.ntmps42
  go_wp2
  go_loopw [10] (fun i wr => ∃ k : Nat, k ≤ rs.length ∧ i = .int .i64 (k : Int) ∧ Bd B b (l ++ rowsT rel (rs.take k)) wr ∧ Kp B b w wr) (fun i _ => rs.length - (intOf i).toNat)
  case atStart => exact ⟨0, Nat.zero_le _, rfl, Hb.out, Hk.out⟩
  case round =>
    obtain ⟨k, hk, rfl, hbk, hK⟩ := hrel
    have hsz := hK.below.size
    by_cases hlt : k < rs.length
    · have hlt' : (k : Int) < (rs.length : Int) := by omega
      have hk0 : (0 : Int) ≤ (k : Int) := by omega
      obtain ⟨r, hr⟩ : ∃ r, rs[k]? = some r := ⟨rs[k], List.getElem?_eq_getElem hlt⟩
      obtain ⟨a1, o2, c2, rfl, ha1, R1, c0⟩ := rw_atB S1 hK.below hr
      have HT := Lib.hid (rowsT_take (rel := rel) hr)
      have hup := rowsT_upto rel rs (k + 1)
      rw [HT.out, List.length_append] at hup
      have HW := Lib.hid (writeLine_c rel r B b _ wr _ hbk R1 (HE.out.belowB hV hK.below) hV (by omega) (by rw [List.length_append]; have := Hl.out; omega) (Hs.out r (List.mem_of_getElem? hr)))
      have HK := Lib.hid hK
      clear hr R1 hup hbk hK
      go_wp2_with fail
      refine HW.out.mono ?_
      rintro e w1 ⟨rfl, b1, k1⟩
      have Hb1 : Hid (Bd B b (l ++ rowsT rel (rs.take (k + 1))) w1) := Lib.hid (by rw [HT.out, ← List.append_assoc]; exact b1)
      have HK1 := Lib.hid (HK.out.trans k1)
      clear b1 k1 c0
      go_wp2
      go_roundw
      case rel => exact ⟨k + 1, hlt, by go_num, Hb1.out, HK1.out⟩
      case measure => simp [intOf]; omega
    · have hlt' : ¬ (k : Int) < (rs.length : Int) := by omega
      have hT : rs.take k = rs := List.take_of_length_le (by omega)
      rw [hT] at hbk
      clear hT
      go_wp2
      go_end0
      exact ⟨rfl, hbk, hK⟩
end Go.Proofs.YthhepmddcncjoaaGreatDoor
namespace Go.Proofs.YthhepmddcncjoaaGreatDoor
open Go.RowKit

/-! ### Few rows -/
def valN (x : Vl) : Nat := x.s.size / 50
def rowN (r : Rw) : Nat := 1 + (r.map valN).sum
def rowsN (l : List Rw) : Nat := (l.map rowN).sum
def allN (all : List (List Rw)) : Nat := (all.map rowsN).sum
def fewB (all : List (List Rw)) : Bool := decide (allN all ≤ 100) && decide (all.length ≤ 100)
theorem sum_mem {α : Type} {f : α → Nat} : ∀ {l : List α} {x : α}, x ∈ l → f x ≤ (l.map f).sum
  | y :: l, x, h => by
    rw [List.map_cons, List.sum_cons]
    rcases List.mem_cons.1 h with rfl | h
    · omega
    · have := sum_mem (f := f) h; omega
theorem sum_take {α : Type} (f : α → Nat) {l : List α} {k : Nat} {x : α} (h : l[k]? = some x) : ((l.take (k + 1)).map f).sum = ((l.take k).map f).sum + f x := by
  rw [List.take_add_one, h, List.map_append, List.sum_append]
  simp
theorem sum_upto {α : Type} (f : α → Nat) (l : List α) (k : Nat) : ((l.take k).map f).sum ≤ (l.map f).sum := by
  conv => rhs; rw [← List.take_append_drop k l, List.map_append, List.sum_append]
  omega
theorem rowN_pos (r : Rw) : 1 ≤ rowN r := by unfold rowN; omega
theorem len_rowsN : ∀ (l : List Rw), l.length ≤ rowsN l
  | [] => Nat.zero_le _
  | r :: l => by
    have := len_rowsN l
    have := rowN_pos r
    unfold rowsN at *
    rw [List.map_cons, List.sum_cons, List.length_cons]
    omega
theorem fewB_row {all : List (List Rw)} (h : fewB all = true) {rs : List Rw} (hr : rs ∈ all) {r : Rw} (hm : r ∈ rs) {x : Vl} (hx : x ∈ r) : x.s.size ≤ 4999 := by
  unfold fewB at h
  rw [Bool.and_eq_true, decide_eq_true_eq] at h
  have h1 : rowsN rs ≤ allN all := sum_mem (f := rowsN) hr
  have h2 : rowN r ≤ rowsN rs := sum_mem (f := rowN) hm
  have h3 : valN x ≤ (r.map valN).sum := sum_mem (f := valN) hx
  unfold rowN at h2
  have h4 : valN x = x.s.size / 50 := rfl
  have := h.1
  omega
theorem textV_lenN (x : Vl) (hI : I64 x.n) : (textV x).length ≤ 200 * valN x + 226 := by
  have := textV_len x hI
  unfold valN
  omega
theorem rowT_lenN : ∀ (r : Rw), (∀ x ∈ r, I64 x.n) → (rowT r).length ≤ 200 * (r.map valN).sum + 227 * r.length
  | [], _ => Nat.zero_le _
  | x :: r, h => by
    rw [rowT_cons, List.map_cons, List.sum_cons, List.length_cons, List.length_append, List.length_cons]
    have h1 := textV_lenN x (h x (List.mem_cons_self ..))
    have h2 := rowT_lenN r fun y hy => h y (List.mem_cons_of_mem _ hy)
    omega
theorem lineT_lenN {rel : ByteArray} {r : Rw} (hI : ∀ x ∈ r, I64 x.n) (hl : r.length ≤ 8) (hr : rel.size ≤ 40) : (lineT rel r).length ≤ 2000 * rowN r := by
  unfold lineT rowN
  rw [List.length_append, List.length_append]
  have h1 := rowT_lenN r hI
  have h2 : rel.data.toList.length = rel.size := by simp
  rw [h2]
  show rel.size + ((rowT r).length + 1) ≤ _
  omega
theorem rowsT_lenN {rel : ByteArray} (hr : rel.size ≤ 40) : ∀ (rs : List Rw), (∀ r ∈ rs, (∀ x ∈ r, I64 x.n) ∧ r.length ≤ 8) → (rowsT rel rs).length ≤ 2000 * rowsN rs
  | [], _ => Nat.zero_le _
  | r :: rs, h => by
    have h0 := h r (List.mem_cons_self ..)
    have h1 := lineT_lenN h0.1 h0.2 hr
    have h2 := rowsT_lenN hr rs fun y hy => h y (List.mem_cons_of_mem _ hy)
    unfold rowsT rowsN at *
    rw [List.flatMap_cons, List.map_cons, List.sum_cons, List.length_append]
    omega

/-! ### What is told -/
def tellG (x : De × List Rw) : List UInt8 := if x.1.out = true then rowsT x.1.rel x.2 else []
def tellT (ds : List De) (all : List (List Rw)) : List UInt8 := (ds.zip all).flatMap tellG
def tellP (ds : List De) (all : List (List Rw)) (k : Nat) : List UInt8 := ((ds.zip all).take k).flatMap tellG
theorem tellP_step {ds : List De} {all : List (List Rw)} {k : Nat} {d : De} {rs : List Rw} (h1 : ds[k]? = some d) (h2 : all[k]? = some rs) : tellP ds all (k + 1) = tellP ds all k ++ tellG (d, rs) := by
  unfold tellP
  have : (ds.zip all)[k]? = some (d, rs) := by rw [List.getElem?_zip_eq_some]; exact ⟨h1, h2⟩
  rw [List.take_add_one, this, List.flatMap_append]
  simp
theorem tellP_all {ds : List De} {all : List (List Rw)} (h : ds.length = all.length) : tellP ds all ds.length = tellT ds all := by
  unfold tellP tellT
  rw [List.take_of_length_le (by rw [List.length_zip]; omega)]
theorem tellP_upto (ds : List De) (all : List (List Rw)) (k : Nat) : (tellP ds all k).length ≤ (tellT ds all).length := by
  unfold tellP tellT
  conv => rhs; rw [← List.take_append_drop k (ds.zip all), List.flatMap_append]
  rw [List.length_append]
  omega
/-- Do the rows fit? -/
def fitG (x : De × List Rw) : Bool := riseL rwC x.2 && x.2.all (fitR x.1.types)
def fitA (ds : List De) (all : List (List Rw)) : Bool := decide (all.length = ds.length) && (ds.zip all).all fitG
theorem fitA_at {ds : List De} {all : List (List Rw)} (h : fitA ds all = true) {k : Nat} {d : De} {rs : List Rw} (h1 : ds[k]? = some d) (h2 : all[k]? = some rs) : riseL rwC rs = true ∧ ∀ r ∈ rs, fitR d.types r = true := by
  unfold fitA at h
  rw [Bool.and_eq_true, List.all_eq_true] at h
  have h3 : (ds.zip all)[k]? = some (d, rs) := by rw [List.getElem?_zip_eq_some]; exact ⟨h1, h2⟩
  have h4 := h.2 _ (List.mem_of_getElem? h3)
  unfold fitG at h4
  rw [Bool.and_eq_true, List.all_eq_true] at h4
  exact h4
theorem fitA_len {ds : List De} {all : List (List Rw)} (h : fitA ds all = true) : all.length = ds.length := by
  unfold fitA at h
  rw [Bool.and_eq_true, decide_eq_true_eq] at h
  exact h.1
theorem tell_lenN : ∀ (L : List (De × List Rw)), (∀ x ∈ L, x.1.rel.size ≤ 40 ∧ ∀ r ∈ x.2, (∀ y ∈ r, I64 y.n) ∧ r.length ≤ 8) → (L.flatMap tellG).length ≤ 2000 * (L.map fun x => rowsN x.2).sum
  | [], _ => Nat.zero_le _
  | x :: L, h => by
    have h0 := h x (List.mem_cons_self ..)
    have h1 := rowsT_lenN h0.1 x.2 h0.2
    have h2 := tell_lenN L fun y hy => h y (List.mem_cons_of_mem _ hy)
    rw [List.flatMap_cons, List.map_cons, List.sum_cons, List.length_append]
    have h3 : (tellG x).length ≤ (rowsT x.1.rel x.2).length := by
      unfold tellG
      split
      · exact Nat.le_refl _
      · exact Nat.zero_le _
    omega
theorem zip_rowsN : ∀ (ds : List De) (all : List (List Rw)), ((ds.zip all).map fun x => rowsN x.2).sum ≤ allN all
  | [], _ => Nat.zero_le _
  | _ :: _, [] => Nat.zero_le _
  | d :: ds, rs :: all => by
    have := zip_rowsN ds all
    unfold allN at *
    rw [List.zip_cons_cons, List.map_cons, List.map_cons, List.sum_cons, List.sum_cons]
    show rowsN rs + _ ≤ _
    omega
theorem right_De {d : De} (h : rightD d = true) : nameB d.rel.data.toList = true ∧ d.rel.size ≤ 40 ∧ d.types.length ≤ 8 ∧ d.types ≠ [] := by
  unfold rightD at h
  simp only [Bool.and_eq_true, decide_eq_true_eq] at h
  obtain ⟨⟨⟨⟨⟨h3, h4⟩, h5⟩, h6⟩, _⟩, _⟩ := h
  have hn := h3
  unfold nameB at hn
  rw [Bool.and_eq_true, decide_eq_true_eq] at hn
  have h2 : d.rel.data.toList.length = d.rel.size := by simp
  exact ⟨h3, by have := hn.1.2.1; omega, by omega, fun e => (by rw [e] at h6; simp at h6; omega)⟩
theorem tellT_len {ds : List De} {all : List (List Rw)} (hd : ∀ d ∈ ds, rightD d = true) (hf : fitA ds all = true) (hfew : fewB all = true) (hI : ∀ rs ∈ all, ∀ r ∈ rs, ∀ x ∈ r, I64 x.n) : (tellT ds all).length ≤ 200000 := by
  have h1 := tell_lenN (ds.zip all) fun x hx => by
    obtain ⟨k, hk⟩ := List.mem_iff_getElem?.1 hx
    have hk' : (ds.zip all)[k]? = some (x.1, x.2) := hk
    rw [List.getElem?_zip_eq_some] at hk'
    obtain ⟨k1, k2⟩ := hk'
    have hr := right_De (hd _ (List.mem_of_getElem? k1))
    have hfit := (fitA_at hf k1 k2).2
    refine ⟨hr.2.1, fun r hr' => ⟨fun y hy => hI _ (List.mem_of_getElem? k2) r hr' y hy, ?_⟩⟩
    have := hfit r hr'
    unfold fitR at this
    rw [Bool.and_eq_true, decide_eq_true_eq] at this
    have := this.1
    omega
  have h2 := zip_rowsN ds all
  unfold fewB at hfew
  rw [Bool.and_eq_true, decide_eq_true_eq] at hfew
  have := hfew.1
  unfold tellT
  omega
end Go.Proofs.YthhepmddcncjoaaGreatDoor
namespace Go.Proofs.YthhepmddcncjoaaGreatDoor
open Go.RowKit Go.ChangeShapes Go.WideShapes Go.Deep

def heldV (x : Vl) : Nat := x.s.size + 1
def heldR (r : Rw) : Nat := 1 + (r.map heldV).sum
def heldW (l : List Rw) : Nat := 1 + (l.map heldR).sum
def heldA (l : List (List Rw)) : Nat := 1 + (l.map heldW).sum
def heldD (d : De) : Nat := d.rel.size + 1
section
variable {H : Type} {enc : TypeId × Value → H} {w : World}
theorem bulk_one (d : DataW H) : 1 ≤ Rows.uptoBulk d := by
  cases d with
  | lit l => cases l <;> simp [Rows.uptoBulk]
  | nil => simp [Rows.uptoBulk]
  | ptr d => simp [Rows.uptoBulk]
  | slice elems spare => simp [Rows.uptoBulk]
  | agg parts => simp [Rows.uptoBulk]
  | iface t d => simp [Rows.uptoBulk]
  | map entries => simp [Rows.uptoBulk]
  | held h => simp [Rows.uptoBulk]
theorem bulk_mem {d : DataW H} {l : List (DataW H)} (h : d ∈ l) : Rows.uptoBulk d ≤ Rows.uptoBulkAll l := by
  induction l with
  | nil => cases h
  | cons x r ih =>
    simp only [Rows.uptoBulkAll]
    cases List.mem_cons.1 h with
    | inl e => subst e; omega
    | inr e => have := ih e; omega
theorem bulk_two {a b : DataW H} {i j : Nat} : ∀ {l : List (DataW H)}, l[i]? = some a → l[j]? = some b → i ≠ j → Rows.uptoBulk a + Rows.uptoBulk b ≤ Rows.uptoBulkAll l := by
  intro l
  induction l generalizing i j with
  | nil => intro h; simp at h
  | cons x r ih =>
    intro h1 h2 hne
    simp only [Rows.uptoBulkAll]
    match i, j with
    | 0, 0 => exact absurd rfl hne
    | 0, j + 1 =>
      have : x = a := by simpa using h1
      subst this
      have := bulk_mem (List.mem_of_getElem? (show r[j]? = some b by simpa using h2))
      omega
    | i + 1, 0 =>
      have : x = b := by simpa using h2
      subst this
      have := bulk_mem (List.mem_of_getElem? (show r[i]? = some a by simpa using h1))
      omega
    | i + 1, j + 1 =>
      have := ih (show r[i]? = some a by simpa using h1) (show r[j]? = some b by simpa using h2) (by omega)
      omega
theorem bulk_sum {α : Type} {m : α → Nat} : ∀ {l : List α} {elems : List (DataW H)}, elems.length = l.length → (∀ (i : Nat) (b : α), l[i]? = some b → ∃ d, elems[i]? = some d ∧ m b ≤ Rows.uptoBulk d) → (l.map m).sum ≤ Rows.uptoBulkAll elems
  | [], _, _, _ => Nat.zero_le _
  | b :: l, [], h, _ => by simp at h
  | b :: l, d :: elems, h, hb => by
    obtain ⟨d', h1, h2⟩ := hb 0 b rfl
    have : d = d' := by simpa using h1
    subst this
    have := bulk_sum (m := m) (l := l) (elems := elems) (by simpa using h) fun i c hc => by
      obtain ⟨e, h3, h4⟩ := hb (i + 1) c (by simpa using hc)
      exact ⟨e, by simpa using h3, h4⟩
    simp only [Rows.uptoBulkAll, List.map_cons, List.sum_cons]
    omega
/-- A slice is opened, and each element's data with it. -/
theorem open_slG {α : Type} {R : α → List Value → Prop} {m : α → Nat} {z fuel : Nat} {t e : TypeId} {v : Value} {x : DataW H × List MemPlace} (ht : Tryz.prog.underlying t = some (.slice e)) (hz : Tryz.prog.cellsOf e = z) (hp : 0 < z)
    (hE : ∀ n cs y, n < fuel → DataW.trod enc Tryz.prog w 0 (fun _ => true) true n e cs = some y → ∃ b, R b cs ∧ m b ≤ Rows.uptoBulk y.1)
    (h : DataW.trod enc Tryz.prog w 0 (fun _ => true) true fuel t [v] = some x) :
    ∃ l : List α, SlOf w w.heap.size z R l v ∧ 1 + (l.map m).sum ≤ Rows.uptoBulk x.1 := by
  rcases DataW.trod_slice ht h with ⟨hcs, rfl⟩ | ⟨a, len, cap, elems, rest, n, rfl, hcs, hx, _, hl, hm, hlen, hel, _, _⟩
  · exact ⟨[], .inl ⟨(List.cons.inj hcs).1, rfl⟩, by simp [Rows.uptoBulk]⟩
  · rw [hz] at hel
    have hbx : Rows.uptoBulkAll (elems.map (·.1)) + 1 ≤ Rows.uptoBulk x.1 := by rw [hx]; simp only [Rows.uptoBulk]; omega
    have each : ∀ i, i < len → ∃ b, (∃ cs, cs.length = z ∧ R b cs ∧ CellsAt w a (i * z) cs) ∧ ∃ d, (elems.map (·.1))[i]? = some d ∧ m b ≤ Rows.uptoBulk d := by
      intro i hi
      have h1 := hel i hi
      rw [List.getElem?_eq_getElem (by omega), Option.bind_eq_some_iff] at h1
      obtain ⟨cs, hc, htr⟩ := h1
      obtain ⟨b, hb, hg⟩ := hE n cs _ (by omega) htr
      obtain ⟨_, hcl, hat⟩ := World.cells?_some hc
      refine ⟨b, ⟨cs, hcl, hb, fun j c hj => ?_⟩, _, ?_, hg⟩
      · have hjz : j < z := by rw [← hcl]; exact (List.getElem?_eq_some_iff.1 hj).1
        have := hat j hjz
        rw [add_add] at this
        exact this.trans hj
      · rw [List.getElem?_map, List.getElem?_eq_getElem (by omega)]; rfl
    by_cases h0 : len = 0
    · subst h0
      exact ⟨[], .inr ⟨a, cap, (List.cons.inj hcs).1, hl, hm, fun h => absurd rfl h, fun i x hx => by simp at hx⟩, by simp; omega⟩
    let f : (i : Nat) → i < len → α := fun i h => (each i h).choose
    have hf : ∀ i (h : i < len), (∃ cs, cs.length = z ∧ R (f i h) cs ∧ CellsAt w a (i * z) cs) ∧ ∃ d, (elems.map (·.1))[i]? = some d ∧ m (f i h) ≤ Rows.uptoBulk d := fun i h => (each i h).choose_spec
    have hblk : a.block < w.heap.size := by
      obtain ⟨⟨cs, hcl, _, hc⟩, _⟩ := hf 0 (by omega)
      have := cell_block (hc 0 cs[0] (List.getElem?_eq_getElem (by omega)))
      rwa [addBlock] at this
    have hat : ∀ (i : Nat) (y : α), ((List.finRange len).map fun i => f i.1 i.2)[i]? = some y → (∃ cs, cs.length = z ∧ R y cs ∧ CellsAt w a (i * z) cs) ∧ ∃ d, (elems.map (·.1))[i]? = some d ∧ m y ≤ Rows.uptoBulk d := by
      intro i y hy
      rw [List.getElem?_map, Option.map_eq_some_iff] at hy
      obtain ⟨j, hj, rfl⟩ := hy
      obtain ⟨hi, e⟩ := List.getElem?_eq_some_iff.1 hj
      simp only [List.getElem_finRange] at e
      subst e
      exact hf i (by simpa using hi)
    have hll : ((List.finRange len).map fun i => f i.1 i.2).length = len := by simp
    generalize (List.finRange len).map (fun i => f i.1 i.2) = l at hat hll
    subst hll
    have hb := bulk_sum (m := m) (l := l) (elems := elems.map (·.1)) (by rw [List.length_map, hlen]) fun i y hy => (hat i y hy).2
    exact ⟨l, .inr ⟨a, cap, (List.cons.inj hcs).1, hl, hm, fun _ => hblk, fun i y hy => (hat i y hy).1⟩, by omega⟩
theorem cValF : Tryz.prog.cellsOf 51 = 3 := by kernel_rfl
theorem cRowF : Tryz.prog.cellsOf 39 = 1 := by kernel_rfl
theorem cRowsF : Tryz.prog.cellsOf 41 = 1 := by kernel_rfl
set_option maxRecDepth 100000 in
theorem open_valF (fuel : Nat) (cs : List Value) (x : DataW H × List MemPlace) (h : DataW.trod enc Tryz.prog w 0 (fun _ => true) true fuel 51 cs = some x) : ∃ t, VlC t cs ∧ heldV t ≤ Rows.uptoBulk x.1 := by
  obtain ⟨xs, n, rfl, rfl, hcl, hlen, hf⟩ := DataW.trod_struct Tryz.underlying51 h
  match xs, hlen with
  | [y0, y1, y2], _ =>
    have h0 := hf 0 _ rfl
    have h1 := hf 1 _ rfl
    have h2 := hf 2 _ rfl
    simp only [List.getElem?_cons_zero, List.getElem?_cons_succ] at h0 h1 h2
    rw [cValF] at hcl
    match cs, hcl with
    | [c0, c1, c2], _ =>
      replace h0 : DataW.trod enc Tryz.prog w 0 (fun _ => true) true n 4 [c0] = some y0 := by simpa [cBool] using h0
      replace h1 : DataW.trod enc Tryz.prog w 0 (fun _ => true) true n 2 [c1] = some y1 := by simpa [cInt64] using h1
      replace h2 : DataW.trod enc Tryz.prog w 0 (fun _ => true) true n 9 [c2] = some y2 := by simpa [cStr] using h2
      obtain ⟨b0, e0, _⟩ := DataW.trod_bool Tryz.underlying4 h0
      obtain ⟨k1, e1, _, w1⟩ := DataW.trod_int Tryz.underlying2 h1
      obtain ⟨s2, e2, q2, z2⟩ := DataW.trod_string Tryz.underlying9 h2
      simp only [List.cons.injEq, and_true] at e0 e1 e2
      subst e0 e1 e2
      refine ⟨⟨b0, k1, s2⟩, ⟨rfl, wf_i64 w1, z2⟩, ?_⟩
      have hb := bulk_mem (H := H) (l := [y0.1, y1.1, y2.1]) (d := y2.1) (by simp)
      rw [q2] at hb
      simp only [List.map_cons, List.map_nil, Rows.uptoBulk]
      unfold heldV
      have hs : s2.data.toList.length = s2.size := by simp
      have hb2 : s2.data.toList.length + 1 ≤ Rows.uptoBulkAll [y0.1, y1.1, y2.1] := by
        rw [q2]
        simpa [Rows.uptoBulk] using hb
      show s2.size + 1 ≤ _
      omega
theorem one_cellF {fuel : Nat} {t e : TypeId} {cs : List Value} {x : DataW H × List MemPlace} (ht : Tryz.prog.underlying t = some (.slice e)) (h : DataW.trod enc Tryz.prog w 0 (fun _ => true) true fuel t cs = some x) : ∃ v, cs = [v] := by
  rcases DataW.trod_slice ht h with ⟨hcs, _⟩ | ⟨a, len, cap, _, _, _, _, hcs, _⟩
  · exact ⟨_, hcs⟩
  · exact ⟨_, hcs⟩
theorem open_rowF (fuel : Nat) (cs : List Value) (x : DataW H × List MemPlace) (h : DataW.trod enc Tryz.prog w 0 (fun _ => true) true fuel 39 cs = some x) : ∃ r, RwC w w.heap.size r cs ∧ heldR r ≤ Rows.uptoBulk x.1 := by
  obtain ⟨v, rfl⟩ := one_cellF Tryz.underlying39 h
  obtain ⟨r, h1, h2⟩ := open_slG (R := VlC) (m := heldV) Tryz.underlying39 cValF (by omega) (fun m cs y hm hy => open_valF m cs y hy) h
  exact ⟨r, ⟨v, rfl, h1⟩, h2⟩
theorem open_rowsF (fuel : Nat) (cs : List Value) (x : DataW H × List MemPlace) (h : DataW.trod enc Tryz.prog w 0 (fun _ => true) true fuel 41 cs = some x) : ∃ l, RwsC w w.heap.size l cs ∧ heldW l ≤ Rows.uptoBulk x.1 := by
  obtain ⟨v, rfl⟩ := one_cellF Tryz.underlying41 h
  obtain ⟨r, h1, h2⟩ := open_slG (R := RwC w w.heap.size) (m := heldR) Tryz.underlying41 cRowF (by omega) (fun m cs y hm hy => open_rowF m cs y hy) h
  exact ⟨r, ⟨v, rfl, h1⟩, h2⟩
set_option maxRecDepth 100000 in
theorem open_val1 {b0 : Nat} {v : Value} {d : DataW H} {p : List MemPlace}
    (hv : Value.okWide Tryz.prog w .any b0 39 v) (h : DataW.Trod enc Tryz.prog w 0 (fun _ => true) true 39 v d p) : ∃ r, SlOf w w.heap.size 3 VlC r v ∧ heldR r ≤ Rows.uptoBulk d := by
  obtain ⟨o, len, cap, rfl⟩ := okWide_slice Tryz.underlying39 hv
  obtain ⟨fuel, hf⟩ := h
  exact open_slG (R := VlC) (m := heldV) Tryz.underlying39 cValF (by omega) (fun m cs y hm hy => open_valF m cs y hy) hf
set_option maxRecDepth 100000 in
theorem open_all {b0 : Nat} {v : Value} {d : DataW H} {p : List MemPlace}
    (hv : Value.okWide Tryz.prog w .any b0 29 v) (h : DataW.Trod enc Tryz.prog w 0 (fun _ => true) true 29 v d p) : ∃ l, SlOf w w.heap.size 1 (RwsC w w.heap.size) l v ∧ heldA l ≤ Rows.uptoBulk d := by
  obtain ⟨o, len, cap, rfl⟩ := okWide_slice Tryz.underlying29 hv
  obtain ⟨fuel, hf⟩ := h
  exact open_slG (R := RwsC w w.heap.size) (m := heldW) Tryz.underlying29 cRowsF (by omega) (fun m cs y hm hy => open_rowsF m cs y hy) hf
set_option maxRecDepth 100000 in
theorem open_declF (fuel : Nat) (cs : List Value) (x : DataW H × List MemPlace) (h : DataW.trod enc Tryz.prog w 0 (fun _ => true) true fuel 38 cs = some x) : ∃ t, DeC w w.heap.size t cs ∧ heldD t ≤ Rows.uptoBulk x.1 := by
  obtain ⟨t, ht⟩ := open_decl fuel cs x h
  refine ⟨t, ht, ?_⟩
  obtain ⟨xs, n, rfl, rfl, hcl, hlen, hf⟩ := DataW.trod_struct Tryz.underlying38 h
  obtain ⟨y0, ys, rfl⟩ : ∃ y0 ys, xs = y0 :: ys := by
    cases xs with
    | nil => cases hlen
    | cons a b => exact ⟨a, b, rfl⟩
  have h0 := hf 0 _ rfl
  obtain ⟨o0, k0, o1, k1, rfl, _⟩ := ht.look
  replace h0 : DataW.trod enc Tryz.prog w 0 (fun _ => true) true n 9 [.string t.rel] = some y0 := by simpa [cStr] using h0
  obtain ⟨s, e, q, _⟩ := DataW.trod_string Tryz.underlying9 h0
  simp only [List.cons.injEq, and_true, Value.string.injEq] at e
  subst e
  have hb := bulk_mem (H := H) (l := y0.1 :: ys.map (·.1)) (d := y0.1) (by simp)
  have hb1 : Rows.uptoBulk y0.1 = t.rel.data.toList.length + 1 := by rw [q]; simp [Rows.uptoBulk]
  have hs : t.rel.data.toList.length = t.rel.size := by simp
  simp only [List.map_cons, Rows.uptoBulk]
  unfold heldD
  omega
set_option maxRecDepth 100000 in
theorem upto_bound {l : List (DataW H)} (hk : Rows.uptoSmall H l = true) : Rows.uptoBulkAll l ≤ 1048576 := of_decide_eq_true hk
end
end Go.Proofs.YthhepmddcncjoaaGreatDoor
namespace Go.Proofs.YthhepmddcncjoaaGreatDoor
open Go.RowKit

theorem sum_le {α : Type} {f g : α → Nat} : ∀ {l : List α}, (∀ x ∈ l, f x ≤ g x) → (l.map f).sum ≤ (l.map g).sum
  | [], _ => Nat.le_refl _
  | x :: l, h => by
    have h1 := h x (List.mem_cons_self ..)
    have h2 := sum_le (f := f) (g := g) (l := l) fun y hy => h y (List.mem_cons_of_mem _ hy)
    rw [List.map_cons, List.map_cons, List.sum_cons, List.sum_cons]
    omega
theorem valN_held (x : Vl) : valN x ≤ heldV x := by unfold valN heldV; omega
theorem rowN_held (r : Rw) : rowN r ≤ heldR r := by
  have := sum_le (f := valN) (g := heldV) (l := r) fun x _ => valN_held x
  unfold rowN heldR
  omega
theorem rowsN_held (l : List Rw) : rowsN l ≤ heldW l := by
  have := sum_le (f := rowN) (g := heldR) (l := l) fun x _ => rowN_held x
  unfold rowsN heldW
  omega
theorem allN_held (l : List (List Rw)) : allN l ≤ heldA l := by
  have := sum_le (f := rowsN) (g := heldW) (l := l) fun x _ => rowsN_held x
  unfold allN heldA
  omega
theorem held_lenA {l : List (List Rw)} : l.length ≤ heldA l := by
  have : ∀ l : List (List Rw), l.length ≤ (l.map heldW).sum := by
    intro l
    induction l with
    | nil => exact Nat.zero_le _
    | cons x l ih => rw [List.map_cons, List.sum_cons, List.length_cons]; unfold heldW at *; omega
  have := this l
  unfold heldA
  omega
theorem held_lenW {l : List Rw} : l.length ≤ heldW l := by
  have : ∀ l : List Rw, l.length ≤ (l.map heldR).sum := by
    intro l
    induction l with
    | nil => exact Nat.zero_le _
    | cons x l ih => rw [List.map_cons, List.sum_cons, List.length_cons]; unfold heldR at *; omega
  have := this l
  unfold heldW
  omega
theorem held_lenR {l : Rw} : l.length ≤ heldR l := by
  have : ∀ l : Rw, l.length ≤ (l.map heldV).sum := by
    intro l
    induction l with
    | nil => exact Nat.zero_le _
    | cons x l ih => rw [List.map_cons, List.sum_cons, List.length_cons]; unfold heldV at *; omega
  have := this l
  unfold heldR
  omega
theorem held_mem {α : Type} {f : α → Nat} {l : List α} {k : Nat} {x : α} (h : l[k]? = some x) : f x ≤ (l.map f).sum := sum_mem (List.mem_of_getElem? h)
theorem wrap_small {z : Int} (h0 : 0 ≤ z) (h1 : z ≤ 1000000000) : wrap64 z = z := by unfold wrap64; omega
theorem rws_here {w : World} {l : List (List Rw)} {o : Option Addr} {k : Nat} {x : List Rw} (S : Hid (SlIn w w.heap.size 1 (RwsC w w.heap.size) l o)) (ht : l[k]? = some x) :
    ∃ a o' cap', o = some a ∧ RwsS w w.heap.size x (.slice o' x.length cap') ∧ (a.add k).block < w.heap.size ∧ w.cell? (a.add k) = some (.slice o' x.length cap') := by
  obtain ⟨a, o', cap', h1, h2, h3, h4⟩ := rws_at S (Below.refl _ w) ht
  exact ⟨a, o', cap', h1, h3, by rw [addBlock]; exact h2, h4⟩
set_option maxRecDepth 100000 in
set_option maxHeartbeats 8000000 in
theorem few_c (all : List (List Rw)) (v : Value) (w : World) (hv : SlOf w w.heap.size 1 (RwsC w w.heap.size) all v) (hn : heldA all ≤ 4000000) :
    Calls Tryz.prog 16 #[v] w fun e w' => e = .returned (.bool (fewB all)) ∧ w = w' := by
  obtain ⟨ov, cv, rfl, hcv, hmv, SV⟩ := SlOf.open hv
  have HN := Lib.hid hn
  have hL : all.length ≤ 4000000 := Nat.le_trans held_lenA hn
  have HLn := Lib.hid hL
  clear hv hn hL
  go_enter Tryz.func16, Tryz.ntmps16
  go_wp2
  go_loop [3, 4] (fun n i => ∃ k : Nat, k ≤ all.length ∧ i = .int .i64 (k : Int) ∧ n = .int .i64 ((((all.take k).map rowsN).sum : Nat) : Int)) (fun _ i => all.length - (intOf i).toNat)
  case atStart => exact ⟨0, Nat.zero_le _, rfl, rfl⟩
  case round =>
    obtain ⟨k, hk, rfl, rfl⟩ := hrel
    by_cases hlt : k < all.length
    · have hlt' : (k : Int) < (all.length : Int) := by omega
      have hk0 : (0 : Int) ≤ (k : Int) := by omega
      obtain ⟨rs, hrs⟩ : ∃ rs, all[k]? = some rs := ⟨all[k], List.getElem?_eq_getElem hlt⟩
      obtain ⟨a, o1, c1, rfl, R1, hz1, x1⟩ := rws_here SV hrs
      obtain ⟨o1', c1', e1, _, _, S1⟩ := SlOf.open R1
      cases e1
      obtain ⟨N1, hN1⟩ : ∃ N1, ((all.take k).map rowsN).sum = N1 := ⟨_, rfl⟩
      have Hst : Hid (((all.take (k + 1)).map rowsN).sum = N1 + rowsN rs) := Lib.hid (by rw [sum_take rowsN hrs, hN1])
      have hb1 : N1 + rowsN rs ≤ 4000000 := by
        have h1 := sum_upto rowsN all (k + 1)
        rw [Hst.out] at h1
        have h2 : (all.map rowsN).sum ≤ heldA all := allN_held all
        have := HN.out
        omega
      have hrl : rs.length ≤ rowsN rs := len_rowsN rs
      have Hb1 := Lib.hid hb1
      have Hrl := Lib.hid hrl
      rw [hN1]
      clear hrs R1 hN1 hb1 hrl
      go_wp2
      go_loop [3, 5] (fun n i => ∃ j : Nat, j ≤ rs.length ∧ i = .int .i64 (j : Int) ∧ n = .int .i64 (((N1 + ((rs.take j).map rowN).sum : Nat)) : Int)) (fun _ i => rs.length - (intOf i).toNat)
      case atStart => exact ⟨0, Nat.zero_le _, rfl, rfl⟩
      case round =>
        obtain ⟨j, hj, rfl, rfl⟩ := hrel
        by_cases hjl : j < rs.length
        · have hjl' : (j : Int) < (rs.length : Int) := by omega
          have hj0 : (0 : Int) ≤ (j : Int) := by omega
          obtain ⟨r, hr⟩ : ∃ r, rs[j]? = some r := ⟨rs[j], List.getElem?_eq_getElem hjl⟩
          obtain ⟨a2, o2, c2, rfl, ha2, hX, x2, _⟩ := rw_at S1 (Below.refl _ w) hr
          obtain ⟨o2', c2', e2, _, _, S2⟩ := SlOf.open hX.out
          cases e2
          have hz2 : (a2.add j).block < w.heap.size := by rw [addBlock]; exact ha2
          obtain ⟨N2, hN2⟩ : ∃ N2, N1 + ((rs.take j).map rowN).sum = N2 := ⟨_, rfl⟩
          have Hst2 : Hid (N1 + ((rs.take (j + 1)).map rowN).sum = N2 + rowN r) := Lib.hid (by rw [sum_take rowN hr, ← hN2]; omega)
          have hb2 : N2 + rowN r ≤ 4000000 := by
            have h1 := sum_upto rowN rs (j + 1)
            have h2 := Hst2.out
            have h3 := Hb1.out
            have h4 : (rs.map rowN).sum = rowsN rs := rfl
            omega
          have Hb2 := Lib.hid hb2
          have hwn : wrap64 ((N2 : Int) + 1) = (N2 : Int) + 1 := wrap_small (by omega) (by omega)
          rw [hN2]
          clear hr hN2 hb2
          go_wp2
          go_loop [3, 6] (fun n i => ∃ c : Nat, c ≤ r.length ∧ i = .int .i64 (c : Int) ∧ n = .int .i64 ((((N2 + 1) + ((r.take c).map valN).sum : Nat)) : Int)) (fun _ i => r.length - (intOf i).toNat)
          case atStart => exact ⟨0, Nat.zero_le _, rfl, by rw [List.take_zero]; simp⟩
          case round =>
            obtain ⟨c, hc, rfl, rfl⟩ := hrel
            by_cases hcl : c < r.length
            · have hcl' : (c : Int) < (r.length : Int) := by omega
              have hc0 : (0 : Int) ≤ (c : Int) := by omega
              obtain ⟨x, hx⟩ : ∃ x, r[c]? = some x := ⟨r[c], List.getElem?_eq_getElem hcl⟩
              obtain ⟨a3, rfl, ha3, hI3, hs3, y0, y1, y2⟩ := vl_at S2 (Below.refl _ w) hx
              have hz3 : (a3.add (c * 3)).block < w.heap.size := by rw [addBlock]; exact ha3
              obtain ⟨N3, hN3⟩ : ∃ N3, (N2 + 1) + ((r.take c).map valN).sum = N3 := ⟨_, rfl⟩
              have Hst3 : Hid ((N2 + 1) + ((r.take (c + 1)).map valN).sum = N3 + valN x) := Lib.hid (by rw [sum_take valN hx, ← hN3]; omega)
              have hb3 : N3 + valN x ≤ 4000000 := by
                have h1 := sum_upto valN r (c + 1)
                have h2 := Hst3.out
                have h3 := Hb2.out
                unfold rowN at h3
                omega
              have Hb3 := Lib.hid hb3
              have hq : ((x.s.size : Int)).tdiv 50 = ((valN x : Nat) : Int) := by
                unfold valN
                rw [Int.tdiv_eq_ediv_of_nonneg (by omega)]
                omega
              rw [hN3]
              have hwr : wrap64 ((N3 : Int) + wrap64 ((valN x : Nat) : Int)) = ((N3 + valN x : Nat) : Int) := by rw [wrap_small (z := ((valN x : Nat) : Int)) (by omega) (by omega), wrap_small (by omega) (by omega)]; omega
              have HW := Lib.hid hwr
              clear hx hN3 hb3 hwr
              go_wp2
              refine ⟨⟨c + 1, hcl, by go_num, ?_⟩, by simp [intOf]; omega⟩
              rw [HW.out, Hst3.out]
            · have hcl' : ¬ (c : Int) < (r.length : Int) := by omega
              have he : N2 + 1 + ((r.take c).map valN).sum = N1 + ((rs.take (j + 1)).map rowN).sum := by
                rw [Hst2.out, List.take_of_length_le (by omega)]
                unfold rowN
                omega
              rw [he]
              clear he
              go_wp2
              exact ⟨⟨j + 1, hjl, by go_num, rfl⟩, by simp [intOf]; omega⟩
        · have hjl' : ¬ (j : Int) < (rs.length : Int) := by omega
          have he : N1 + ((rs.take j).map rowN).sum = ((all.take (k + 1)).map rowsN).sum := by
            rw [Hst.out, List.take_of_length_le (by omega)]
            rfl
          rw [he]
          clear he
          go_wp2
          exact ⟨⟨k + 1, hlt, by go_num, rfl⟩, by simp [intOf]; omega⟩
    · have hlt' : ¬ (k : Int) < (all.length : Int) := by omega
      have he : ((all.take k).map rowsN).sum = allN all := by
        rw [List.take_of_length_le (by omega)]
        rfl
      rw [he]
      clear he
      by_cases ha : allN all ≤ 100
      · have ha' : ((allN all : Nat) : Int) ≤ 100 := by omega
        by_cases hb : all.length ≤ 100
        · have hb' : ((all.length : Nat) : Int) ≤ 100 := by omega
          have HF : Hid (fewB all = true) := Lib.hid (by unfold fewB; rw [decide_eq_true ha, decide_eq_true hb]; rfl)
          clear ha hb
          go_wp2
          go_ret
          exact ⟨by rw [HF.out]; rfl, rfl⟩
        · have hb' : ¬ ((all.length : Nat) : Int) ≤ 100 := by omega
          have HF : Hid (fewB all = false) := Lib.hid (by unfold fewB; rw [decide_eq_true ha, decide_eq_false hb]; rfl)
          clear ha hb
          go_wp2
          go_ret
          exact ⟨by rw [HF.out]; rfl, rfl⟩
      · have ha' : ¬ ((allN all : Nat) : Int) ≤ 100 := by omega
        have HF : Hid (fewB all = false) := Lib.hid (by unfold fewB; rw [decide_eq_false ha]; rfl)
        clear ha
        go_wp2
        go_ret
        exact ⟨by rw [HF.out]; rfl, rfl⟩
end Go.Proofs.YthhepmddcncjoaaGreatDoor
namespace Go.Proofs.YthhepmddcncjoaaGreatDoor
open Go.ChangeShapes Go.WideShapes Go.ChangeAt Go.RowKit

theorem own : ownKnob Tryz.prog.godebug = none := by kernel_rfl
theorem laidOut : laidOutB Tryz.prog = true := by kernel_rfl
theorem cellsE : Tryz.prog.cellsOf 275 = 1 := by kernel_rfl
theorem cellsS : Tryz.prog.cellsOf 9 = 1 := by kernel_rfl
theorem star : "*" ++ "errors.errorString" = "*errors.errorString" := by decide
theorem rowE (u : TypeId) (h : Tryz.prog.typeName? 3 u = some "*errors.errorString") : u = 256 :=
  typeName_ptr_named (nm := "errors.errorString") (by rw [star]; kernel_rfl) (by kernel_rfl) (by decide) u (by rw [star]; exact h)

theorem gForm : Tryz.prog.globalNamed "sorites/text.errForm" = some 2 := by kernel_rfl
theorem gFormType : (Tryz.prog.globals[2]?).map (·.type) = some 63 := by kernel_rfl
theorem gTree : Tryz.prog.globalNamed "sorites/dtree.errTree" = some 0 := by kernel_rfl
theorem gTreeType : (Tryz.prog.globals[0]?).map (·.type) = some 63 := by kernel_rfl
theorem gTypeOf : Tryz.prog.globalNamed "errors.errorType" = some 1 := by kernel_rfl
theorem gRt : (Tryz.prog.cutTypes.find? (·.1 == "internal/reflectlite.rtype")).map (·.2) = some 153 := by kernel_rfl
theorem oneRow : ((List.range 287).filter fun t => Tryz.prog.rowNamed t [101, 114, 114, 111, 114]) = [63] := by kernel_rfl
theorem typesSize : Tryz.prog.types.size = 287 := by kernel_rfl
abbrev laidAll : List (String × DataW Unit) := [("math/bits.deBruijn32tab", Rows.laid_math_bits_deBruijn32tab), ("math/bits.deBruijn64tab", Rows.laid_math_bits_deBruijn64tab), ("internal/strconv.uint64pow10", Rows.laid_internal_strconv_uint64pow10), ("unicode/utf8.acceptRanges", Rows.laid_unicode_utf8_acceptRanges), ("errors.errorType", Rows.laid_errors_errorType), ("sorites/text.errForm", Rows.laid_sorites_text_errForm), ("sorites/dtree.errTree", Rows.laid_sorites_dtree_errTree), ("unicode/utf8.first", Rows.laid_unicode_utf8_first)]
abbrev laidPlain : List (String × DataW Unit) := [("math/bits.deBruijn32tab", Rows.laid_math_bits_deBruijn32tab), ("math/bits.deBruijn64tab", Rows.laid_math_bits_deBruijn64tab), ("internal/strconv.uint64pow10", Rows.laid_internal_strconv_uint64pow10), ("unicode/utf8.acceptRanges", Rows.laid_unicode_utf8_acceptRanges), ("sorites/text.errForm", Rows.laid_sorites_text_errForm), ("sorites/dtree.errTree", Rows.laid_sorites_dtree_errTree), ("unicode/utf8.first", Rows.laid_unicode_utf8_first)]
theorem gBruijn : Tryz.prog.globalNamed "math/bits.deBruijn64tab" = some 8 := by kernel_rfl
theorem gPowType : (Tryz.prog.globals[4]?).map (·.type) = some 246 := by kernel_rfl
theorem cells20 : Tryz.prog.cellsOf 246 = 20 := by kernel_rfl
theorem cellsU : Tryz.prog.cellsOf 134 = 1 := by kernel_rfl
theorem pow10_tab : (Rows.laid_internal_strconv_uint64pow10 : DataW Unit) = Lib.tabData .u64 Lib.pow10Tab := by kernel_rfl
theorem var_lt {W : World} {n : String} {g : Nat} {cs : Array Value} (h : W.var? Tryz.prog n = some cs) (hg : Tryz.prog.globalNamed n = some g) : g < W.heap.size := by
  unfold World.var? at h
  simp only [hg, Option.bind_some] at h
  rcases Nat.lt_or_ge g W.heap.size with h' | h'
  · exact h'
  · simp [Array.getElem?_eq_none h'] at h
theorem max_of_shape {W : World} (h : W.ShapedOpen Tryz.prog) : ∃ m, MaxE m W :=
  cell_of_shapedOpen_int (P := Tryz.prog) (g := 3) (t := 3) (zero := #[.int .i64 0]) h (of_decide_eq_true (by kernel_rfl)) (by kernel_rfl) rfl (by kernel_rfl) (by kernel_rfl) Tryz.underlying3
theorem env_of_laid {W : World} (h : laidMetH Tryz.prog laidAll W) (hs : W.ShapedOpen Tryz.prog) : ∃ a b m, FEnv a b m W ∧ TabE W := by
  have h' : laidMet Tryz.prog laidPlain W ∧ handlesMet Tryz.prog [("errors.errorType", Rows.laid_errors_errorType)] W := h
  obtain ⟨h0, h2⟩ := h'
  have h3 := h0.tail.tail
  rw [pow10_tab] at h3
  have htab : Lib.TabIs Tryz.prog W "internal/strconv.uint64pow10" .u64 Lib.pow10Tab := Lib.tabIs_of_head gPow gPowType Tryz.underlying246 Tryz.underlying134 cellsU cells20 h3
  have hbr : 8 < W.heap.size := by
    have h2 := h0.tail
    obtain ⟨ps, ⟨g', t', cs, fuel, p, q, hg', ht', hvar, _⟩, _⟩ := h2
    exact var_lt hvar gBruijn
  have h1 := h3.tail
  obtain ⟨m, hm0⟩ := max_of_shape hs
  obtain ⟨a, s, hv, _⟩ := laid_sentinel h1.tail gForm gFormType Tryz.underlying63 rowE Tryz.underlying256 Tryz.underlying275 rfl rfl Tryz.underlying9 cellsE cellsS
  obtain ⟨d, sd, hvd, _⟩ := laid_sentinel h1.tail.tail gTree gTreeType Tryz.underlying63 rowE Tryz.underlying256 Tryz.underlying275 rfl rfl Tryz.underlying9 cellsE cellsS
  obtain ⟨name, u, ty, e1, e2, e3, e4, e5⟩ := h2 _ (List.mem_singleton.2 rfl)
  have en : name = [101, 114, 114, 111, 114] := (Option.some.inj e1).symm
  subst en
  obtain rfl := Option.some.inj (gRt.symm.trans e2)
  have hm : ty ∈ (List.range 287).filter fun t => Tryz.prog.rowNamed t [101, 114, 114, 111, 114] := List.mem_filter.2 ⟨List.mem_range.2 (by rw [← typesSize]; exact e3), e4⟩
  rw [oneRow] at hm
  obtain rfl := List.mem_singleton.1 hm
  have hh : typeHandle Tryz.prog 63 = .pointer (some ⟨9, 63, none⟩) := by kernel_rfl
  rw [hh] at e5
  have l1 := var_lt hv gForm
  have l2 := var_lt hvd gTree
  have l3 := var_lt e5 gTypeOf
  have l4 : 3 < W.heap.size := World.block_lt_of_cell? _ _ hm0
  exact ⟨a, d, m, ⟨⟨by simpa using World.var?_cell gForm hv 0, by omega⟩, ⟨by simpa using World.var?_cell gTree hvd 0, l2⟩, hm0, by simpa using World.var?_cell gTypeOf e5 0⟩, ⟨htab, by omega⟩⟩
/-- The door's own heap, the one table that the door does not lay written in. -/
noncomputable def doorW (os : Os) : World :=
  { World.doorLaid Tryz.prog 79 os with heap := (World.doorLaid Tryz.prog 79 os).heap.modify 5 fun
    | .cells _ t frozen => .cells (Go.Pinned.utf8FirstZ.map fun (z : Nat) => Value.int .u8 (Int.ofNat z)).toArray t frozen
    | o => o }
/-- It meets the condition. -/
theorem door_met (os : Os) (args : Array Value) : laidMetH Tryz.prog laidAll ((doorW os).forCall (fun _ _ => 0) ⟨#[], args, []⟩).memory := by
  exact laidMetH_of_parts (laidMet_of_run' 8 (by kernel_rfl) (by kernel_rfl)) (by kernel_rfl)
theorem below_trodAll {H : Type} {enc : TypeId × Value → H} {W W' : World} (hb : Below W.heap.size W W') :
    ∀ {ts : List TypeId} {vs : List Value} {ds : List (DataW H)} {ps : List MemPlace}, (∀ t ∈ ts, Tryz.prog.readableRec t = true ∧ t < Tryz.prog.types.size) →
      DataW.TrodAll enc Tryz.prog W 0 (fun _ => true) true ts vs ds ps → (∀ x ∈ ps, x.block < W.heap.size) → DataW.TrodAll enc Tryz.prog W' 0 (fun b => decide (b < W.heap.size)) true ts vs ds ps
  | [], _, _, _, _, h, _ => by
    obtain ⟨rfl, rfl, rfl⟩ := trodAll_nil h
    exact trodAll_mk0
  | t :: ts, _, _, _, hr, h, hlt => by
    obtain ⟨v, vs', d, ds', p, q, rfl, rfl, rfl, h1, h2⟩ := trodAll_cons h
    exact trodAll_cons_mk (Below.trod laidOut (hr t (by simp)).1 (hr t (by simp)).2 h1 hb (fun x hx => hlt x (by simp [hx])))
      (below_trodAll hb (fun t' ht' => hr t' (by simp [ht'])) h2 (fun x hx => hlt x (by simp [hx])))

/-- A CALL THAT ANSWERS true AND TURNS NOTHING THAT LAY KEEPS THE LAW. -/
theorem law_post {H : Type} {enc : TypeId × Value → H} {f : Func} {s : ChangeSpec} {W W' : World} {args : Array Value} {ds gs : List (DataW H)} {before : List MemPlace}
    (hW : DataW.Whole enc Tryz.prog f.params.toList s.vars false W args.toList ds gs before) (hv : s.vars = []) (hrt : f.resultTypes = #[4])
    (hfn : s.fn H ds = { results := [.lit (.bool true)], args := ds }) (hr : ∀ t ∈ f.params.toList, Tryz.prog.readableRec t = true ∧ t < Tryz.prog.types.size) (hb : Below W.heap.size W W') :
    s.post enc Tryz.prog f false true false false W args (.bool true) W' := by
  have hlt : ∀ x ∈ before, x.block < W.heap.size := fun x hx => by simpa using hW.lt x hx
  have hW0 := hW
  obtain ⟨p, q, hA, hV, rfl, _, _⟩ := hW0
  rw [hv] at hV
  obtain ⟨rfl, rfl⟩ := trodVars_none hV
  have e1 : s.fn H (ds ++ []) = { results := [.lit (.bool true)], args := ds } := by rw [List.append_nil]; exact hfn
  refine ⟨ds, [], p ++ [], [], p, [], hW, ?_, ?_, ?_, World.keptBut_mono (fun _ h => h.elim) (hb.frame (fun _ => False)), fun h => by cases h⟩
  · rw [e1, hrt]
    exact trodAll_mk1 (shut_bool Tryz.underlying4 true)
  · rw [e1]
    exact below_trodAll hb hr hA (fun x hx => hlt x (by simp [hx]))
  · rw [e1, hv]
    rfl
end Go.Proofs.YthhepmddcncjoaaGreatDoor
