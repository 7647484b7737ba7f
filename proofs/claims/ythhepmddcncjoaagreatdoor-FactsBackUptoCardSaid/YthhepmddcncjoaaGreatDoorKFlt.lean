/- soriteslaw10.FactsTells. -/
import Derived.Test.YthhepmddcncjoaaGreatDoorKFt2
import Derived.Test.YthhepmddcncjoaaGreatDoorKFw
import Derived.Test.YthhepmddcncjoaaGreatDoorKTsmall
set_option linter.unusedSimpArgs false
set_option linter.unusedVariables false
namespace Go.Proofs.YthhepmddcncjoaaGreatDoor
open Go.RowKit

theorem tellV_form (b f : Bool) (x : List UInt8) : ∃ (S : ByteArray) (n : Int), tellV b f x = .tuple #[.string S, .int .i64 n] := by
  cases b
  · exact ⟨_, _, rfl⟩
  · cases f
    · exact ⟨_, _, rfl⟩
    · exact ⟨_, _, rfl⟩
theorem all_i64 {w : World} {B : Nat} {all : List (List Rw)} {v : Value} (h : SlOf w B 1 (RwsC w B) all v) : ∀ rs ∈ all, ∀ r ∈ rs, ∀ x ∈ r, I64 x.n := by
  intro rs hrs r hr x hx
  obtain ⟨o, c, rfl, _, _, S⟩ := SlOf.open h
  obtain ⟨i, hi⟩ := List.mem_iff_getElem?.1 hrs
  obtain ⟨a, cs, _, _, _, ⟨u, _, h1⟩, _⟩ := S.out i rs hi
  obtain ⟨o1, c1, rfl, _, _, S1⟩ := SlOf.open h1
  obtain ⟨j, hj⟩ := List.mem_iff_getElem?.1 hr
  obtain ⟨a2, cs2, _, _, _, ⟨u2, _, h2⟩, _⟩ := S1.out j r hj
  exact (vals_of h2 x hx).1
theorem right_decls {p : Pg} (h : rightP p = true) : ∀ d ∈ p.decls, rightD d = true := by
  unfold rightP at h
  simp only [Bool.and_eq_true, decide_eq_true_eq, List.all_eq_true] at h
  exact h.1.2
set_option maxRecDepth 100000 in
set_option maxHeartbeats 8000000 in
theorem factsTells_c (p : Pg) (v : Value) (all : List (List Rw)) (a b : Addr) (m : Int) (w : World) (cs : List Value) (hp : PgC w w.heap.size p cs) (hv : SlOf w w.heap.size 1 (RwsC w w.heap.size) all v) (hn : heldA all ≤ 1048576) (E : FEnv a b m w ∧ TabE w) :
    Calls Tryz.prog 5 #[.agg cs.toArray, v] w fun e w' => e = .returned (.bool true) ∧ Below w.heap.size w w' := by
  have HH := Lib.hid (fun (W : World) (hb : Below w.heap.size w W) => shown10_c a b m W (E.1.below hb))
  have HP := Lib.hid (fun (W : World) (hb : Below w.heap.size w W) => small_c p W cs ((hp.below hb).more hb.size))
  have HF := Lib.hid (fun (W : World) (hb : Below w.heap.size w W) => few_c all v W (rows_pastF hv hb) (by omega))
  have HT := Lib.hid (fun (hf : fewB all = true) (W : World) (hb : Below w.heap.size w W) => ptell_c p all v b W cs ((hp.below hb).more hb.size) (rows_pastF hv hb) (fun rs h1 r h2 x h3 => by have := fewB_row hf h1 h2 h3; omega) (fun hr hfit => tellT_len (right_decls hr) hfit hf (all_i64 hv)) (E.1.below hb).tree (E.2.below hb))
  have HU := Lib.hid (fun (hf : fewB all = true) (W : World) (hb : Below w.heap.size w W) => rtell_c p all v W cs ((hp.below hb).more hb.size) (rows_pastF hv hb) (fun rs h1 r h2 x h3 => by have := fewB_row hf h1 h2 h3; omega) (fun hr hfit => tellT_len (right_decls hr) hfit hf (all_i64 hv)))
  obtain ⟨p1, q1, r1, s1, rfl, _, _⟩ := hp.look
  obtain ⟨ov, cv, rfl, _⟩ := SlOf.uni hv
  obtain ⟨S, n, hS⟩ := tellV_form (rightP p) (fitA p.decls all) (tellT p.decls all)
  rw [hS] at HT HU
  clear hp E hv hn hS
  have HB0 : Hid (∀ (x : Obj), Below w.heap.size w (w.alloc x)) := Lib.hid fun x => (Below.refl _ _).alloc (Nat.le_refl _) _
  have HR0 := Lib.hid (rowNew w 25 [.slice p1 p.decls.length q1, .slice r1 p.rules.length s1])
  go_enter Tryz.func5, Tryz.ntmps5
  go_wp2_with fail
  refine (HH.out _ (HB0.out _)).mono ?_
  rintro e w1 ⟨rfl, b1⟩
  have B1 := Lib.hid ((HB0.out (.cells #[.slice p1 p.decls.length q1, .slice r1 p.rules.length s1] 25)).trans (b1.mono (by simp)))
  have R1 := Lib.hid ((b1.block w.heap.size (by simp)).trans HR0.out)
  have x0 : w1.cell? ⟨w.heap.size, 0, none⟩ = some (.slice p1 p.decls.length q1) := row_cells R1.out 0
  have x1 : w1.cell? ⟨w.heap.size, 1, none⟩ = some (.slice r1 p.rules.length s1) := row_cells R1.out 1
  have hz1 := heap_lt R1.out
  clear b1
  go_wp2_with fail
  refine (HP.out _ B1.out).mono ?_
  rintro e w2 ⟨rfl, b2⟩
  have B2 := Lib.hid (B1.out.trans (b2.mono B1.out.size))
  have R2 := Lib.hid ((b2.block _ (heap_lt R1.out)).trans R1.out)
  clear b2 x0 x1 hz1
  cases hsp : smallP p with
  | false =>
    rw [show smallI p = 0 by unfold smallI; rw [hsp]; rfl]
    clear hsp
    go_wp2
    go_ret
    exact ⟨rfl, B2.out⟩
  | true =>
    rw [show smallI p = 1 by unfold smallI; rw [hsp]; rfl]
    clear hsp
    go_wp2_with fail
    refine (HF.out _ B2.out).mono ?_
    rintro e w3 ⟨rfl, rfl⟩
    cases hf : fewB all with
    | false =>
      clear hf
      go_wp2
      go_ret
      exact ⟨rfl, B2.out⟩
    | true =>
      have HT2 := Lib.hid (HT.out hf w2 B2.out)
      have HU2 := Lib.hid (HU.out hf)
      have x0 : w2.cell? ⟨w.heap.size, 0, none⟩ = some (.slice p1 p.decls.length q1) := row_cells R2.out 0
      have x1 : w2.cell? ⟨w.heap.size, 1, none⟩ = some (.slice r1 p.rules.length s1) := row_cells R2.out 1
      have hz2 := heap_lt R2.out
      clear hf
      go_wp2_with fail
      refine HT2.out.mono ?_
      rintro e w4 ⟨rfl, b4⟩
      have B4 := Lib.hid (B2.out.trans (b4.mono B2.out.size))
      have R4 := Lib.hid ((b4.block _ (heap_lt R2.out)).trans R2.out)
      have y0 : w4.cell? ⟨w.heap.size, 0, none⟩ = some (.slice p1 p.decls.length q1) := row_cells R4.out 0
      have y1 : w4.cell? ⟨w.heap.size, 1, none⟩ = some (.slice r1 p.rules.length s1) := row_cells R4.out 1
      have hz4 := heap_lt R4.out
      clear b4 x0 x1 hz2
      go_wp2_with fail
      refine (HU2.out w4 B4.out).mono ?_
      rintro e w5 ⟨rfl, b5⟩
      have B5 := Lib.hid (B4.out.trans (b5.mono B4.out.size))
      clear b5 y0 y1 hz4
      go_wp2
      go_ret
      exact ⟨rfl, B5.out⟩
end Go.Proofs.YthhepmddcncjoaaGreatDoor
