/- soriteslaw10.FactsLines. -/
import Derived.Test.YthhepmddcncjoaaGreatDoorKFw
import Derived.Test.YthhepmddcncjoaaGreatDoorKFt1
set_option linter.unusedSimpArgs false
set_option linter.unusedVariables false
namespace Go.Proofs.YthhepmddcncjoaaGreatDoor
open Go.RowKit

theorem lineV_form (b : Bool) (x : List UInt8) : ∃ (S : ByteArray) (n : Int), lineV (codeL b) x = .tuple #[.string S, .int .i64 n] := by
  cases b
  · exact ⟨_, _, rfl⟩
  · exact ⟨_, _, rfl⟩
theorem SlOf.cut {α : Type} {w : World} {B z n c : Nat} {R : α → List Value → Prop} {l : List α} {o : Option Addr} (h : SlOf w B z R l (.slice o l.length c)) : SlOf w B z R (l.take n) (.slice o (l.take n).length c) := by
  rcases h with ⟨hv, rfl⟩ | ⟨a, cap, hv, h2, h3, h4, h5⟩
  · injection hv with e1 e2 e3
    subst e1; subst e3
    exact .inl ⟨by simp, by simp⟩
  · injection hv with e1 e2 e3
    subst e1; subst e3
    refine .inr ⟨a, c, rfl, by rw [List.length_take]; omega, h3, fun hne => h4 fun e => hne (by rw [e]; simp), fun i x hx => ?_⟩
    rw [List.getElem?_take] at hx
    split at hx
    · exact h5 i x hx
    · cases hx
theorem heldR_take (r : Rw) (n : Nat) : heldR (r.take n) ≤ heldR r := by
  have := sum_upto heldV r n
  unfold heldR
  omega
theorem line_big {d : De} {r : Rw} (hI : ∀ x ∈ r, I64 x.n) (hs : ∀ x ∈ r, x.s.size ≤ 5000) (hn : r.length ≤ 20) (hR : d.rel.size ≤ 1048576) : Big30 (lineT d.rel r) := by
  have h1 := rowT_len5 r fun x hx => ⟨hI x hx, hs x hx⟩
  unfold Big30 lineT
  rw [List.length_append, List.length_append]
  have h2 : d.rel.data.toList.length = d.rel.size := by simp
  rw [h2]
  show d.rel.size + ((rowT r).length + 1) ≤ _
  omega
set_option maxRecDepth 100000 in
set_option maxHeartbeats 8000000 in
theorem factsLines_c (d : De) (v : Value) (r : Rw) (a b : Addr) (m : Int) (w : World) (cs : List Value) (hd : DeC w w.heap.size d cs) (hdn : heldD d ≤ 1048576) (hv : SlOf w w.heap.size 3 VlC r v) (hn : heldR r ≤ 1048576) (E : FEnv a b m w ∧ TabE w) :
    Calls Tryz.prog 4 #[.agg cs.toArray, v] w fun e w' => e = .returned (.bool true) ∧ Below w.heap.size w w' := by
  obtain ⟨ov, cv, rfl, hcv, hmv, _⟩ := SlOf.open hv
  have hcut := hv.cut (n := 20)
  have hheld := heldR_take r 20
  have hlen : (r.take 20).length ≤ 20 := by rw [List.length_take]; omega
  have hm : (min (r.length : Int) 20).toNat = (r.take 20).length := by rw [List.length_take]; omega
  obtain ⟨t, ht⟩ : ∃ t, r.take 20 = t := ⟨_, rfl⟩
  rw [ht] at hcut hheld hlen hm
  have HM := Lib.hid hm
  have hrel : d.rel.size ≤ 1048576 := by unfold heldD at hdn; omega
  have HH := Lib.hid (fun (W : World) (hb : Below w.heap.size w W) => shown10_c a b m W (E.1.below hb))
  have HF := Lib.hid (fun (u : Value) (W : World) (hu : SlOf W W.heap.size 1 (RwsC W W.heap.size) [[t]] u) => few_c [[t]] u W hu (by unfold heldA heldW; simp only [List.map_cons, List.map_nil, List.sum_cons, List.sum_nil]; omega))
  have HT := Lib.hid (fun (hf : fewB [[t]] = true) (W : World) (hb : Below w.heap.size w W) => line_c d t W cs (.slice ov t.length cv) ((hd.below hb).more hb.size) (VlS.past hcut hb) (E.2.below hb) (fun _ => line_big (fun x hx => (vals_of hcut x hx).1) (fun x hx => by have := fewB_row hf (List.mem_singleton.2 rfl) (List.mem_singleton.2 rfl) hx; omega) hlen hrel) (fun x hx => by have := fewB_row hf (List.mem_singleton.2 rfl) (List.mem_singleton.2 rfl) hx; omega))
  have HU := Lib.hid (fun (hf : fewB [[t]] = true) (W : World) (hb : Below w.heap.size w W) => rline_c d t (.slice ov t.length cv) W cs ((hd.below hb).more hb.size) (VlS.past hcut hb) (fun x hx => by have := fewB_row hf (List.mem_singleton.2 rfl) (List.mem_singleton.2 rfl) hx; omega) hlen hrel)
  have HV := Lib.hid (fun (W : World) (hb : Below w.heap.size w W) => VlS.past hcut hb)
  obtain ⟨o0, k0, o1, k1, rfl, _⟩ := hd.look
  obtain ⟨S, n, hS⟩ := lineV_form (fitR d.types t) (lineT d.rel t)
  rw [hS] at HT HU
  clear hd hdn hv hn E hcut hheld hlen hm ht hrel hS
  have HB0 : Hid (∀ (x : Obj), Below w.heap.size w (w.alloc x)) := Lib.hid fun x => (Below.refl _ _).alloc (Nat.le_refl _) _
  have HR0 := Lib.hid (rowNew w 38 [.string d.rel, .slice o0 d.names.length k0, .slice o1 d.types.length k1, .bool d.inn, .bool d.out, .int .i64 d.line])
  go_enter Tryz.func4, Tryz.ntmps4
  go_wp2_with fail
  refine (HH.out _ (HB0.out _)).mono ?_
  rintro e w1 ⟨rfl, b1⟩
  have B1 := Lib.hid ((HB0.out (.cells #[.string d.rel, .slice o0 d.names.length k0, .slice o1 d.types.length k1, .bool d.inn, .bool d.out, .int .i64 d.line] 38)).trans (b1.mono (by simp)))
  have R1 := Lib.hid ((b1.block w.heap.size (by simp)).trans HR0.out)
  clear b1
  obtain ⟨W2, hW2⟩ : ∃ W2, (w1.alloc (.cells #[.slice ov t.length cv] 39)).alloc (.cells #[.slice (some ⟨w1.heap.size, 0, none⟩) 1 1] 41) = W2 := ⟨_, rfl⟩
  have hb2 : Below w1.heap.size w1 W2 := by rw [← hW2]; exact ((Below.refl _ w1).alloc (Nat.le_refl _) _).alloc (by simp) _
  have hr1 : Row w1.heap.size 39 [.slice ov t.length cv] W2 := by rw [← hW2]; exact row_more (newRow rfl) _
  have hr2 : Row (w1.heap.size + 1) 41 [.slice (some ⟨w1.heap.size, 0, none⟩) 1 1] W2 := by rw [← hW2]; exact newRow (by simp)
  have B2 := Lib.hid (B1.out.trans (hb2.mono B1.out.size))
  have hu1 : RwsS W2 W2.heap.size [t] (.slice (some ⟨w1.heap.size, 0, none⟩) 1 1) := sl_one hr1 (heap_lt hr1) rfl ⟨_, rfl, HV.out W2 B2.out⟩
  have HFe := Lib.hid (HF.out _ W2 (sl_one (x := [t]) hr2 (heap_lt hr2) rfl ⟨_, rfl, hu1⟩))
  have R2 := Lib.hid ((hb2.block _ (heap_lt R1.out)).trans R1.out)
  clear hb2 hr1 hr2 hu1
  go_wp2_with fail
  rw [HM.out]
  rw [hW2]
  refine HFe.out.mono ?_
  rintro e w3 ⟨rfl, rfl⟩
  cases hf : fewB [[t]] with
  | false =>
    clear hf
    go_wp2
    go_ret
    exact ⟨rfl, B2.out⟩
  | true =>
    have HT2 := Lib.hid (HT.out hf W2 B2.out)
    have HU2 := Lib.hid (HU.out hf)
    have x0 := row_cells R2.out 0
    have x1 := row_cells R2.out 1
    have x2 := row_cells R2.out 2
    have x3 := row_cells R2.out 3
    have x4 := row_cells R2.out 4
    have x5 := row_cells R2.out 5
    have hz2 := heap_lt R2.out
    clear hf
    go_wp2_with fail
    refine HT2.out.mono ?_
    rintro e w4 ⟨rfl, b4⟩
    have B4 := Lib.hid (B2.out.trans (b4.mono B2.out.size))
    have R4 := Lib.hid ((b4.block _ (heap_lt R2.out)).trans R2.out)
    have y0 := row_cells R4.out 0
    have y1 := row_cells R4.out 1
    have y2 := row_cells R4.out 2
    have y3 := row_cells R4.out 3
    have y4 := row_cells R4.out 4
    have y5 := row_cells R4.out 5
    have hz4 := heap_lt R4.out
    clear b4 x0 x1 x2 x3 x4 x5 hz2
    go_wp2_with fail
    refine (HU2.out w4 B4.out).mono ?_
    rintro e w5 ⟨rfl, b5⟩
    have B5 := Lib.hid (B4.out.trans (b5.mono B4.out.size))
    clear b5 y0 y1 y2 y3 y4 y5 hz4
    go_wp2
    go_ret
    exact ⟨rfl, B5.out⟩
end Go.Proofs.YthhepmddcncjoaaGreatDoor
