/- dtree.writeParted of terms, writeAtom. -/
import Derived.Test.YthjfkngfgomkbaaGreatDoorTwterm
namespace Go.Proofs.YthjfkngfgomkbaaGreatDoor
open Go.RowKit

theorem joinL_snoc (sep : List UInt8) (x : List UInt8) : ∀ l : List (List UInt8), joinL sep (l ++ [x]) = (if l = [] then [] else joinL sep l ++ sep) ++ x
  | [] => rfl
  | [y] => by simp [joinL]
  | y :: z :: r => by
    have := joinL_snoc sep x (z :: r)
    simp only [List.cons_append] at this ⊢
    unfold joinL
    rw [this]
    simp
theorem joinL_take {sep : List UInt8} {α : Type} (f : α → List UInt8) {l : List α} {k : Nat} {x : α} (h : l[k]? = some x) : joinL sep ((l.take (k + 1)).map f) = (if k = 0 then [] else joinL sep ((l.take k).map f) ++ sep) ++ f x := by
  have hlt := (List.getElem?_eq_some_iff.1 h).1
  have e : l.take (k + 1) = l.take k ++ [x] := by rw [List.take_add_one, h]; rfl
  rw [e, List.map_append, List.map_cons, List.map_nil, joinL_snoc]
  congr 1
  have hlen : ((l.take k).map f).length = k := by simp; omega
  by_cases hk : k = 0
  · subst hk; simp
  · rw [if_neg hk, if_neg (by intro e; rw [e] at hlen; simp at hlen; omega)]
theorem joinL_le (sep : List UInt8) (x : List UInt8) : ∀ l m : List (List UInt8), (joinL sep l).length ≤ (joinL sep (l ++ m)).length
  | [], m => by simp [joinL]
  | [y], [] => by simp
  | [y], z :: r => by simp [joinL]
  | y :: z :: r, m => by
    have := joinL_le sep x (z :: r) m
    simp only [List.cons_append] at this ⊢
    unfold joinL
    simp only [List.length_append]
    omega
theorem joinL_upto {sep : List UInt8} {α : Type} (f : α → List UInt8) (l : List α) (k : Nat) : (joinL sep ((l.take k).map f)).length ≤ (joinL sep (l.map f)).length := by
  have := joinL_le sep [] ((l.take k).map f) ((l.drop k).map f)
  rwa [← List.map_append, List.take_append_drop] at this

set_option maxRecDepth 100000 in
set_option maxHeartbeats 4000000 in
theorem writeTerms_c (L : List Tm) (B b : Nat) (l : List UInt8) (w : World) (v : Value) (a : Addr) (hr : L.all (rightT 20) = true) (hb : Bd B b l w) (hc : TmS w B L v) (E : TEnv a w) (hV : 12 ≤ B) (hB : B ≤ w.heap.size) (hl : l.length + (joinL [44, 32] (L.map (showT 20))).length ≤ 1073741824) :
    Calls Tryz.prog 101 #[.pointer (some ⟨b, 0, none⟩), v, .func (.func 102) #[] #[]] w (Wrote B b l (joinL [44, 32] (L.map (showT 20))) w) := by
  obtain ⟨o1, cap1, rfl, hc1, hm1, S1⟩ := SlOf.open hc
  have HE := Lib.hid E
  have Hb := Lib.hid hb
  have Hr := Lib.hid hr
  have Hl := Lib.hid hl
  clear E hc hb hr hl
  go_enter Tryz.func101, Tryz.ntmps101
  go_wp2
  go_loopw [10] (fun i wr => ∃ k : Nat, k ≤ L.length ∧ i = .int .i64 k ∧ Bd B b (l ++ joinL [44, 32] ((L.take k).map (showT 20))) wr ∧ Kp B b w wr) (fun i _ => L.length - (intOf i).toNat)
  case atStart => exact ⟨0, Nat.zero_le _, rfl, by simpa [joinL] using Hb.out, Kp.refl _ _ _⟩
  case round =>
    obtain ⟨k, hk, rfl, hbk, hK⟩ := hrel
    have hsz := hK.below.size
    by_cases hlt : k < L.length
    · have hlt' : (k : Int) < (L.length : Int) := by omega
      obtain ⟨xe, ht⟩ : ∃ xe, L[k]? = some xe := ⟨L[k], List.getElem?_eq_getElem hlt⟩
      obtain ⟨a1, p3, q3, rfl, ha, Hc, c0, c1, c2, c3⟩ := tm_atB S1 hK.below ht
      have hal : (a1.add (k * 4)).block < wr.heap.size := by rw [addBlock]; omega
      have hj := joinL_take (sep := [44, 32]) (showT 20) ht
      have hup := joinL_upto (sep := [44, 32]) (showT 20) L (k + 1)
      have hrt : rightT 20 xe = true := List.all_eq_true.1 Hr.out xe (List.mem_of_getElem? ht)
      have Hj := Lib.hid hj
      obtain ⟨oc, hoc⟩ : ∃ o : Obj, o = .cells #[.int .i64 xe.op, .string xe.s, .int .i64 xe.n, .slice p3 xe.l.length q3] 79 := ⟨_, rfl⟩
      have b0 := hbk.alloc oc
      have k0 : Kp B b wr (wr.alloc oc) := Kp.alloc (by omega) _
      have R0 : Row wr.heap.size 79 [.int .i64 xe.op, .string xe.s, .int .i64 xe.n, .slice p3 xe.l.length q3] (wr.alloc oc) := by rw [hoc]; exact Row.new wr _ _
      have hbl := bdLt hbk
      have HW : Hid (∀ (W : World) (l : List UInt8), Bd B b l W → Kp B b (wr.alloc oc) W → l.length + (showT 20 xe).length ≤ 1073741824 → _) := Lib.hid fun W l hb k hl => writeTerm_c 20 xe B b l W _ a hrt hb (Hc.out.under (k0.below.trans k.below)) (HE.out.belowB hV ((hK.below.trans k0.below).trans k.below)) hV (by have := k.below.size; simp at this; omega) hl
      have HR : Hid (∀ W, Kp B b (wr.alloc oc) W → W.cell? ⟨wr.heap.size, 0, none⟩ = some (.int .i64 xe.op) ∧ W.cell? ⟨wr.heap.size, 1, none⟩ = some (.string xe.s) ∧ W.cell? ⟨wr.heap.size, 2, none⟩ = some (.int .i64 xe.n) ∧ W.cell? ⟨wr.heap.size, 3, none⟩ = some (.slice p3 xe.l.length q3) ∧ wr.heap.size < W.heap.size) := Lib.hid fun W K => by
        have R := R0.kp K (by omega) (by decide)
        have := K.below.size
        simp only [World.size_alloc] at this
        exact ⟨R.at 0 _ rfl, R.at 1 _ rfl, R.at 2 _ rfl, R.at 3 _ rfl, by omega⟩
      have HK0 := Lib.hid (hK.trans k0)
      have hL := Hl.out
      have hlen : (joinL [44, 32] ((L.take (k + 1)).map (showT 20))).length ≤ (joinL [44, 32] (L.map (showT 20))).length := hup
      rw [hj] at hlen
      clear R0 k0 hK ht Hc hbk hj hup hrt
      subst hoc
      by_cases h0 : k = 0
      · subst h0
        have e0 : l ++ joinL [44, 32] ((L.take 0).map (showT 20)) = l := by simp [joinL]
        rw [e0] at b0
        clear e0
        rw [if_pos rfl] at hlen
        simp only [List.nil_append] at hlen
        have hl2 : l.length + (showT 20 xe).length ≤ 1073741824 := by omega
        have ea : a1.add 0 = a1 := by unfold Addr.add; simp
        simp only [Nat.zero_mul, ea] at c0 c1 c2 c3 hal
        clear hL hlen
        go_wp2_with fail
        refine (HW.out _ _ b0 (Kp.refl _ _ _) hl2).mono ?_
        rintro e w2 ⟨rfl, b2, k2⟩
        have Hb2 : Hid (Bd B b (l ++ joinL [44, 32] ((L.take (0 + 1)).map (showT 20))) w2) := Lib.hid (by rw [Hj.out]; exact b2)
        have Hk2 := Lib.hid (HK0.out.trans k2)
        clear b2 k2 b0 c0 c1 c2 c3 hal ea
        go_wp2
        go_roundw
        case rel => exact ⟨0 + 1, hlt, by go_num, Hb2.out, Hk2.out⟩
        case measure => simp [intOf]; omega
      · have h0' : (0 : Int) < (k : Int) := by omega
        rw [if_neg h0] at hlen
        simp only [List.length_append, List.length_cons, List.length_nil] at hlen
        have hl2 : (l ++ joinL [44, 32] ((L.take k).map (showT 20)) ++ [44, 32]).length + (showT 20 xe).length ≤ 1073741824 := by simp only [List.length_append, List.length_cons, List.length_nil]; omega
        have hl3 : (l ++ joinL [44, 32] ((L.take k).map (showT 20))).length + (⟨#[44, 32]⟩ : ByteArray).size ≤ 140737488355328 := by simp only [List.length_append, show (⟨#[44, 32]⟩ : ByteArray).size = 2 from rfl]; omega
        have hf := Hj.out
        rw [if_neg h0] at hf
        have Hf := Lib.hid hf
        clear hL hlen Hj hf
        go_wp2_with fail
        refine (writeString_c B b _ ⟨#[44, 32]⟩ _ b0 hl3 (by simp; omega)).mono ?_
        rintro e w1 ⟨rfl, b1, k1⟩
        obtain ⟨x0, x1, x2, x3, hz0⟩ := HR.out _ k1
        have Hb1 := Lib.hid (show Bd B b (l ++ joinL [44, 32] ((L.take k).map (showT 20)) ++ [44, 32]) w1 from b1)
        have Hk1 := Lib.hid k1
        clear b1 k1 c0 c1 c2 c3 b0 hal hl3
        go_wp2_with fail
        refine (HW.out _ _ Hb1.out Hk1.out hl2).mono ?_
        rintro e w2 ⟨rfl, b2, k2⟩
        have Hb2 : Hid (Bd B b (l ++ joinL [44, 32] ((L.take (k + 1)).map (showT 20))) w2) := Lib.hid (by rw [Hf.out]; simpa using b2)
        have Hk2 := Lib.hid (HK0.out.trans (Hk1.out.trans k2))
        clear b2 k2 x0 x1 x2 x3 hz0
        go_wp2
        go_roundw
        case rel => exact ⟨k + 1, hlt, by go_num, Hb2.out, Hk2.out⟩
        case measure => simp [intOf]; omega
    · have hlt' : ¬ (k : Int) < (L.length : Int) := by omega
      have hkl : L.take k = L := List.take_of_length_le (by omega)
      rw [hkl] at hbk
      have Hbk := Lib.hid hbk
      have HKk := Lib.hid hK
      clear hbk hK
      go_wp2
      go_end0
      exact ⟨rfl, Hbk.out, HKk.out⟩
end Go.Proofs.YthjfkngfgomkbaaGreatDoor
