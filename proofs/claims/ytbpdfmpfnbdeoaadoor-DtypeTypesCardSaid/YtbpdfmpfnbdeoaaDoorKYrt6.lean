/- soritesref05.fitsLit, fitsRule. What the reference of dtype learns in a round, of a right rule. soritesref05.Types. The law DtypeTypes. -/
import Derived.Test.YtbpdfmpfnbdeoaaDoorKYrt2
import Derived.Laws.OwnMore
import Derived.Deep.LoopGhost
import Derived.Test.YtbpdfmpfnbdeoaaDoorKYplc
namespace Go.Proofs.YtbpdfmpfnbdeoaaDoor
open Go.RowKit

/-- Does a part of a body fit? -/
def fitsLB (ds : List De) (vs : List ByteArray) (ts : List Int) (t : Lt) : Bool :=
  if duoB t = true then pairFit vs ts t.x t.y
  else if t.op = 1 ∨ t.op = 2 then fitsAB ds vs ts t.a
  else fitsAB ds vs ts t.a && fitsR vs ts t.x 1 && ((t.op == 7) || fitsR vs ts t.y 1)
theorem fitsLB_duo {ds : List De} {vs : List ByteArray} {ts : List Int} {t : Lt} (h : duoB t = true) : fitsLB ds vs ts t = pairFit vs ts t.x t.y := by unfold fitsLB; rw [if_pos h]
theorem fitsLB_plain {ds : List De} {vs : List ByteArray} {ts : List Int} {t : Lt} (h : duoB t = false) (h1 : t.op = 1 ∨ t.op = 2) : fitsLB ds vs ts t = fitsAB ds vs ts t.a := by unfold fitsLB; rw [if_neg (by rw [h]; decide), if_pos h1]
theorem fitsLB_agg {ds : List De} {vs : List ByteArray} {ts : List Int} {t : Lt} (h : duoB t = false) (h1 : ¬ (t.op = 1 ∨ t.op = 2)) : fitsLB ds vs ts t = (fitsAB ds vs ts t.a && fitsR vs ts t.x 1 && ((t.op == 7) || fitsR vs ts t.y 1)) := by unfold fitsLB; rw [if_neg (by rw [h]; decide), if_neg h1]
set_option maxRecDepth 100000 in
set_option maxHeartbeats 8000000 in
theorem rfitsDuo_c (vs : List ByteArray) (vv : Value) (B g : Nat) (ds : List De) (v : Value) (t : Lt) (ts : List Int) (w : World) (cs : List Value) (hc : LtC w B t cs) (hT : TyS B g w vs vv ts)
    (hr : rightL t = true) (hdu : duoB t = true) (hv : ∀ u ∈ litTs t, u.op = 1 → u.s ∈ vs ∧ u.l = []) :
    Calls Tryd.prog 75 #[v, .agg cs.toArray, vv, .slice (some ⟨g, 0, none⟩) ts.length ts.length] w fun e w' => e = .returned (.bool (fitsLB ds vs ts t)) ∧ Below w.heap.size w w' := by
  obtain ⟨_, hx, hy⟩ := right_duo hr hdu
  have hop := duo_op hdu
  obtain ⟨ca, cx, cy, rfl, _, ha, hcx, hcy⟩ := hc
  have hca := ha
  obtain ⟨v0, rfl, _, hal⟩ := ha
  obtain ⟨o0, k0, rfl, _⟩ := SlOf.uni hal
  obtain ⟨o1, k1, rfl, _⟩ := hcx.look
  obtain ⟨o2, k2, rfl, _⟩ := hcy.look
  have hvx : ∀ u ∈ subT t.x, u.op = 1 → u.s ∈ vs ∧ u.l = [] := fun u hu => hv u (litTs_mem.2 (.inl hu))
  have hvy : ∀ u ∈ subT t.y, u.op = 1 → u.s ∈ vs ∧ u.l = [] := fun u hu => hv u (litTs_mem.2 (.inr (.inl hu)))
  have hb := hT.base
  have hrow := hT.row
  have HX := Lib.hid (fun (hx : rightT 20 t.x = true) (k : Int) (W : World) (h : Below w.heap.size w W) => rfits_c vs vv ts B g 20 t.x k W _ hx (hcx.under (h.mono hb)) (hT.kept h) hvx)
  have HY := Lib.hid (fun (hy : rightT 20 t.y = true) (k : Int) (W : World) (h : Below w.heap.size w W) => rfits_c vs vv ts B g 20 t.y k W _ hy (hcy.under (h.mono hb)) (hT.kept h) hvy)
  have HB0 : Hid (∀ (x : Obj), Below w.heap.size w (w.alloc x)) := Lib.hid fun x => (Below.refl _ _).alloc (Nat.le_refl _) _
  have HR : Hid (∀ (C : Obj) (cells : List Value) (W : World), C = .cells cells.toArray 45 (0, 0) → Below (w.heap.size + 1) (w.alloc C) W → W.heap[w.heap.size]? = some C) := Lib.hid fun C cells W hC hb => by
    rw [hb.block _ (by omega)]
    exact World.alloc_heap_new w C
  have HX1 := Lib.hid (HX.out hx 1)
  have HX2 := Lib.hid (HX.out hx 2)
  have HY1 := Lib.hid (HY.out hy 1)
  have HY2 := Lib.hid (HY.out hy 2)
  obtain ⟨x1, hx1⟩ : ∃ x1, fitsR vs ts t.x 1 = x1 := ⟨_, rfl⟩
  obtain ⟨x2, hx2⟩ : ∃ x2, fitsR vs ts t.x 2 = x2 := ⟨_, rfl⟩
  obtain ⟨y1, hy1⟩ : ∃ y1, fitsR vs ts t.y 1 = y1 := ⟨_, rfl⟩
  obtain ⟨y2, hy2⟩ : ∃ y2, fitsR vs ts t.y 2 = y2 := ⟨_, rfl⟩
  have HZ : Hid (fitsLB ds vs ts t = ((x1 && y1) || (x2 && y2))) := Lib.hid (by rw [fitsLB_duo hdu, ← hx1, ← hx2, ← hy1, ← hy2]; rfl)
  rw [hx1] at HX1
  rw [hx2] at HX2
  rw [hy1] at HY1
  rw [hy2] at HY2
  obtain ⟨X, hX⟩ : ∃ X, fitsLB ds vs ts t = X := ⟨_, rfl⟩
  rw [hX] at HZ ⊢
  have hop1 := hop.1
  have hop2 := hop.2
  obtain ⟨ov, kv, rfl, _⟩ := SlOf.uni hT.vars
  clear hT hcx hcy hca hal hv hvx hvy hx hy hr hdu hop hx1 hx2 hy1 hy2 hX HX HY HR
  simp only [List.cons_append, List.nil_append]
  go_enter Tryd.func75, Tryd.ntmps75
  go_wp2_with fail
  refine (HX1.out _ (HB0.out _)).mono ?_
  rintro e1 w1 ⟨rfl, b1⟩
  have r1 := (b1.block w.heap.size (by simp)).trans (World.alloc_heap_new w _)
  have B1 := Lib.hid ((HB0.out _).trans (b1.mono (by simp)))
  have c1_3 := row_cells r1 3
  have c1_4 := row_cells r1 4
  have c1_5 := row_cells r1 5
  have c1_6 := row_cells r1 6
  have c1_7 := row_cells r1 7
  have c1_8 := row_cells r1 8
  have c1_9 := row_cells r1 9
  have c1_10 := row_cells r1 10
  simp at c1_3 c1_4 c1_5 c1_6 c1_7 c1_8 c1_9 c1_10
  have R1 := Lib.hid r1
  have hz1 : w.heap.size < w1.heap.size := heap_lt r1
  clear b1 r1
  cases x1 with
  | false =>
    go_wp2_with fail
    refine (HX2.out _ (B1.out)).mono ?_
    rintro e2 w2 ⟨rfl, b2⟩
    have r2 := (b2.block w.heap.size hz1).trans R1.out
    have B2 := Lib.hid (B1.out.trans (b2.mono B1.out.size))
    have c2_7 := row_cells r2 7
    have c2_8 := row_cells r2 8
    have c2_9 := row_cells r2 9
    have c2_10 := row_cells r2 10
    simp at c2_7 c2_8 c2_9 c2_10
    have R2 := Lib.hid r2
    have hz2 : w.heap.size < w2.heap.size := heap_lt r2
    clear b2 r2
    cases x2 with
    | false =>
      go_wp2
      go_ret
      exact ⟨by rw [HZ.out]; rfl, B2.out⟩
    | true =>
      go_wp2_with fail
      refine (HY2.out _ (B2.out)).mono ?_
      rintro e3 w3 ⟨rfl, b3⟩
      have r3 := (b3.block w.heap.size hz2).trans R2.out
      have B3 := Lib.hid (B2.out.trans (b3.mono B2.out.size))
      have R3 := Lib.hid r3
      have hz3 : w.heap.size < w3.heap.size := heap_lt r3
      clear b3 r3
      go_wp2
      go_ret
      exact ⟨by rw [HZ.out]; rfl, B3.out⟩
  | true =>
    go_wp2_with fail
    refine (HY1.out _ (B1.out)).mono ?_
    rintro e2 w2 ⟨rfl, b2⟩
    have r2 := (b2.block w.heap.size hz1).trans R1.out
    have B2 := Lib.hid (B1.out.trans (b2.mono B1.out.size))
    have c2_3 := row_cells r2 3
    have c2_4 := row_cells r2 4
    have c2_5 := row_cells r2 5
    have c2_6 := row_cells r2 6
    have c2_7 := row_cells r2 7
    have c2_8 := row_cells r2 8
    have c2_9 := row_cells r2 9
    have c2_10 := row_cells r2 10
    simp at c2_3 c2_4 c2_5 c2_6 c2_7 c2_8 c2_9 c2_10
    have R2 := Lib.hid r2
    have hz2 : w.heap.size < w2.heap.size := heap_lt r2
    clear b2 r2
    cases y1 with
    | false =>
      go_wp2_with fail
      refine (HX2.out _ (B2.out)).mono ?_
      rintro e3 w3 ⟨rfl, b3⟩
      have r3 := (b3.block w.heap.size hz2).trans R2.out
      have B3 := Lib.hid (B2.out.trans (b3.mono B2.out.size))
      have c3_7 := row_cells r3 7
      have c3_8 := row_cells r3 8
      have c3_9 := row_cells r3 9
      have c3_10 := row_cells r3 10
      simp at c3_7 c3_8 c3_9 c3_10
      have R3 := Lib.hid r3
      have hz3 : w.heap.size < w3.heap.size := heap_lt r3
      clear b3 r3
      cases x2 with
      | false =>
        go_wp2
        go_ret
        exact ⟨by rw [HZ.out]; rfl, B3.out⟩
      | true =>
        go_wp2_with fail
        refine (HY2.out _ (B3.out)).mono ?_
        rintro e4 w4 ⟨rfl, b4⟩
        have r4 := (b4.block w.heap.size hz3).trans R3.out
        have B4 := Lib.hid (B3.out.trans (b4.mono B3.out.size))
        have R4 := Lib.hid r4
        have hz4 : w.heap.size < w4.heap.size := heap_lt r4
        clear b4 r4
        go_wp2
        go_ret
        exact ⟨by rw [HZ.out]; rfl, B4.out⟩
    | true =>
      go_wp2_with fail
      refine (HX2.out _ (B2.out)).mono ?_
      rintro e3 w3 ⟨rfl, b3⟩
      have r3 := (b3.block w.heap.size hz2).trans R2.out
      have B3 := Lib.hid (B2.out.trans (b3.mono B2.out.size))
      have c3_7 := row_cells r3 7
      have c3_8 := row_cells r3 8
      have c3_9 := row_cells r3 9
      have c3_10 := row_cells r3 10
      simp at c3_7 c3_8 c3_9 c3_10
      have R3 := Lib.hid r3
      have hz3 : w.heap.size < w3.heap.size := heap_lt r3
      clear b3 r3
      cases x2 with
      | false =>
        go_wp2
        go_ret
        exact ⟨by rw [HZ.out]; rfl, B3.out⟩
      | true =>
        go_wp2_with fail
        refine (HY2.out _ (B3.out)).mono ?_
        rintro e4 w4 ⟨rfl, b4⟩
        have r4 := (b4.block w.heap.size hz3).trans R3.out
        have B4 := Lib.hid (B3.out.trans (b4.mono B3.out.size))
        have R4 := Lib.hid r4
        have hz4 : w.heap.size < w4.heap.size := heap_lt r4
        clear b4 r4
        go_wp2
        go_ret
        exact ⟨by rw [HZ.out]; rfl, B4.out⟩
set_option maxRecDepth 100000 in
set_option maxHeartbeats 8000000 in
theorem rfitsPart_c (vs : List ByteArray) (vv : Value) (B g : Nat) (ds : List De) (v : Value) (t : Lt) (ts : List Int) (w : World) (cs : List Value) (hd : SlOf w B 6 (DeC w B) ds v) (hc : LtC w B t cs) (hT : TyS B g w vs vv ts)
    (hr : rightL t = true) (hdu : duoB t = false) (hbd : badA ds t.a = 0) (hv : ∀ u ∈ litTs t, u.op = 1 → u.s ∈ vs ∧ u.l = []) :
    Calls Tryd.prog 75 #[v, .agg cs.toArray, vv, .slice (some ⟨g, 0, none⟩) ts.length ts.length] w fun e w' => e = .returned (.bool (fitsLB ds vs ts t)) ∧ Below w.heap.size w w' := by
  have hno := duo_no hdu
  have hag := agg_or hdu
  have hrange := right_op hr
  obtain ⟨ca, cx, cy, rfl, _, ha, hcx, hcy⟩ := hc
  have hca := ha
  obtain ⟨v0, rfl, _, hal⟩ := ha
  obtain ⟨o0, k0, rfl, _⟩ := SlOf.uni hal
  obtain ⟨o1, k1, rfl, _⟩ := hcx.look
  obtain ⟨o2, k2, rfl, _⟩ := hcy.look
  have hvx : ∀ u ∈ subT t.x, u.op = 1 → u.s ∈ vs ∧ u.l = [] := fun u hu => hv u (litTs_mem.2 (.inl hu))
  have hvy : ∀ u ∈ subT t.y, u.op = 1 → u.s ∈ vs ∧ u.l = [] := fun u hu => hv u (litTs_mem.2 (.inr (.inl hu)))
  have hb := hT.base
  have hrow := hT.row
  have HX := Lib.hid (fun (hx : rightT 20 t.x = true) (k : Int) (W : World) (h : Below w.heap.size w W) => rfits_c vs vv ts B g 20 t.x k W _ hx (hcx.under (h.mono hb)) (hT.kept h) hvx)
  have HY := Lib.hid (fun (hy : rightT 20 t.y = true) (k : Int) (W : World) (h : Below w.heap.size w W) => rfits_c vs vv ts B g 20 t.y k W _ hy (hcy.under (h.mono hb)) (hT.kept h) hvy)
  have HB0 : Hid (∀ (x : Obj), Below w.heap.size w (w.alloc x)) := Lib.hid fun x => (Below.refl _ _).alloc (Nat.le_refl _) _
  have HR : Hid (∀ (C : Obj) (cells : List Value) (W : World), C = .cells cells.toArray 45 (0, 0) → Below (w.heap.size + 1) (w.alloc C) W → W.heap[w.heap.size]? = some C) := Lib.hid fun C cells W hC hb => by
    rw [hb.block _ (by omega)]
    exact World.alloc_heap_new w C
  have hva : ∀ u ∈ subTs t.a.l, u.op = 1 → u.s ∈ vs ∧ u.l = [] := fun u hu => hv u (litTs_mem.2 (.inr (.inr hu)))
  have hra : rightA t.a = true := hag.elim (fun h => (right_plain hr h).1) (fun h => (right_agg hr h).1)
  have HLA := Lib.hid (fun (W : World) (h : Below w.heap.size w W) => rfitsAtom_c vs vv B g ds v t.a ts W _ (SlOf.decl hd (h.mono hb) (Nat.le_refl _)) (hca.below (h.mono hb)) (hT.kept h) hbd (right_arg hra) hva)
  have HG : Hid (aggB t = true → rightT 20 t.x = true ∧ (t.op = 7 ∨ (t.op ≠ 7 ∧ rightT 20 t.y = true))) := Lib.hid fun hg => by
    obtain ⟨_, hx, hy⟩ := right_agg hr hg
    exact ⟨hx, hy.elim (fun h => .inl h.1) (fun h => .inr ⟨by omega, h.2.2⟩)⟩
  have HZ1 : Hid (t.op = 1 ∨ t.op = 2 → fitsLB ds vs ts t = fitsAB ds vs ts t.a) := Lib.hid (fitsLB_plain hdu)
  have HZ2 : Hid (¬ (t.op = 1 ∨ t.op = 2) → fitsLB ds vs ts t = (fitsAB ds vs ts t.a && fitsR vs ts t.x 1 && ((t.op == 7) || fitsR vs ts t.y 1))) := Lib.hid (fitsLB_agg hdu)
  obtain ⟨X, hX⟩ : ∃ X, fitsLB ds vs ts t = X := ⟨_, rfl⟩
  rw [hX] at HZ1 HZ2 ⊢
  obtain ⟨xa, hxa⟩ : ∃ xa, fitsAB ds vs ts t.a = xa := ⟨_, rfl⟩
  rw [hxa] at HZ1 HZ2 HLA
  obtain ⟨ov, kv, rfl, _⟩ := SlOf.uni hT.vars
  obtain ⟨od, kd, rfl, _⟩ := SlOf.uni hd
  clear hT hcx hcy hal hca hv hvx hvy hva hr hra hdu hbd hd hX hxa HR
  simp only [List.cons_append, List.nil_append]
  by_cases h12 : t.op = 1 ∨ t.op = 2
  · have HZ := Lib.hid (HZ1.out h12)
    clear hag hno HX HY HG HZ1 HZ2
    have h36 : ¬ 3 ≤ t.op := by omega
    go_enter Tryd.func75, Tryd.ntmps75
    go_wp2_with fail
    refine (HLA.out _ (HB0.out _)).mono ?_
    rintro e1 w1 ⟨rfl, b1⟩
    have r1 := (b1.block w.heap.size (by simp)).trans (World.alloc_heap_new w _)
    have B1 := Lib.hid ((HB0.out _).trans (b1.mono (by simp)))
    have c1_0 := row_cells r1 0
    simp at c1_0
    have R1 := Lib.hid r1
    have hz1 : w.heap.size < w1.heap.size := heap_lt r1
    clear b1 r1
    rcases h12 with h1 | h1
    · have ho1 : (t.op == 1) = true := by simp [h1]
      go_wp2
      go_ret
      exact ⟨by rw [HZ.out]; rfl, B1.out⟩
    · have ho1 : (t.op == 1) = false := by simp [h1]
      have ho2 : (t.op == 2) = true := by simp [h1]
      go_wp2
      go_ret
      exact ⟨by rw [HZ.out]; rfl, B1.out⟩
  · have hg : aggB t = true := hag.resolve_left h12
    obtain ⟨hx, hy⟩ := HG.out hg
    have HX1 := Lib.hid (HX.out hx 1)
    obtain ⟨x1, hx1⟩ : ∃ x1, fitsR vs ts t.x 1 = x1 := ⟨_, rfl⟩
    have hz := HZ2.out h12
    rw [hx1] at HX1 hz
    have h36 : 3 ≤ t.op := by omega
    have h67 : ¬ t.op ≤ 6 := by omega
    have ho1 : (t.op == 1) = false := by simp; omega
    have ho2 : (t.op == 2) = false := by simp; omega
    clear hag hno HZ1 HZ2 HG HX hx hx1 hg
    rcases hy with h7 | ⟨h7, hy⟩
    · have ho7 : (t.op == 7) = true := by simp [h7]
      have HZ : Hid (X = (xa && x1)) := Lib.hid (by rw [hz, ho7]; simp)
      clear hz HY
      go_enter Tryd.func75, Tryd.ntmps75
      go_wp2_with fail
      refine (HLA.out _ (HB0.out _)).mono ?_
      rintro e1 w1 ⟨rfl, b1⟩
      have r1 := (b1.block w.heap.size (by simp)).trans (World.alloc_heap_new w _)
      have B1 := Lib.hid ((HB0.out _).trans (b1.mono (by simp)))
      have c1_0 := row_cells r1 0
      have c1_3 := row_cells r1 3
      have c1_4 := row_cells r1 4
      have c1_5 := row_cells r1 5
      have c1_6 := row_cells r1 6
      simp at c1_0 c1_3 c1_4 c1_5 c1_6
      have R1 := Lib.hid r1
      have hz1 : w.heap.size < w1.heap.size := heap_lt r1
      clear b1 r1
      go_wp2_with fail
      refine (HX1.out _ (B1.out)).mono ?_
      rintro e2 w2 ⟨rfl, b2⟩
      have r2 := (b2.block w.heap.size hz1).trans R1.out
      have B2 := Lib.hid (B1.out.trans (b2.mono B1.out.size))
      have c2_0 := row_cells r2 0
      simp at c2_0
      have R2 := Lib.hid r2
      have hz2 : w.heap.size < w2.heap.size := heap_lt r2
      clear b2 r2
      cases xa with
      | false =>
        go_wp2
        go_ret
        exact ⟨by rw [HZ.out]; rfl, B2.out⟩
      | true =>
        cases x1 with
        | false =>
          go_wp2
          go_ret
          exact ⟨by rw [HZ.out]; rfl, B2.out⟩
        | true =>
          go_wp2
          go_ret
          exact ⟨by rw [HZ.out]; rfl, B2.out⟩
    · have ho7 : (t.op == 7) = false := by simp [h7]
      have HY1 := Lib.hid (HY.out hy 1)
      obtain ⟨y1, hy1⟩ : ∃ y1, fitsR vs ts t.y 1 = y1 := ⟨_, rfl⟩
      rw [hy1] at HY1 hz
      have HZ : Hid (X = (xa && x1 && y1)) := Lib.hid (by rw [hz, ho7]; simp)
      clear hz HY hy hy1
      go_enter Tryd.func75, Tryd.ntmps75
      go_wp2_with fail
      refine (HLA.out _ (HB0.out _)).mono ?_
      rintro e1 w1 ⟨rfl, b1⟩
      have r1 := (b1.block w.heap.size (by simp)).trans (World.alloc_heap_new w _)
      have B1 := Lib.hid ((HB0.out _).trans (b1.mono (by simp)))
      have c1_0 := row_cells r1 0
      have c1_3 := row_cells r1 3
      have c1_4 := row_cells r1 4
      have c1_5 := row_cells r1 5
      have c1_6 := row_cells r1 6
      simp at c1_0 c1_3 c1_4 c1_5 c1_6
      have R1 := Lib.hid r1
      have hz1 : w.heap.size < w1.heap.size := heap_lt r1
      clear b1 r1
      go_wp2_with fail
      refine (HX1.out _ (B1.out)).mono ?_
      rintro e2 w2 ⟨rfl, b2⟩
      have r2 := (b2.block w.heap.size hz1).trans R1.out
      have B2 := Lib.hid (B1.out.trans (b2.mono B1.out.size))
      have c2_0 := row_cells r2 0
      have c2_7 := row_cells r2 7
      have c2_8 := row_cells r2 8
      have c2_9 := row_cells r2 9
      have c2_10 := row_cells r2 10
      simp at c2_0 c2_7 c2_8 c2_9 c2_10
      have R2 := Lib.hid r2
      have hz2 : w.heap.size < w2.heap.size := heap_lt r2
      clear b2 r2
      go_wp2_with fail
      refine (HY1.out _ (B2.out)).mono ?_
      rintro e3 w3 ⟨rfl, b3⟩
      have r3 := (b3.block w.heap.size hz2).trans R2.out
      have B3 := Lib.hid (B2.out.trans (b3.mono B2.out.size))
      have R3 := Lib.hid r3
      have hz3 : w.heap.size < w3.heap.size := heap_lt r3
      clear b3 r3
      cases xa with
      | false =>
        go_wp2
        go_ret
        exact ⟨by rw [HZ.out]; rfl, B3.out⟩
      | true =>
        cases x1 with
        | false =>
          go_wp2
          go_ret
          exact ⟨by rw [HZ.out]; rfl, B3.out⟩
        | true =>
          go_wp2
          go_ret
          exact ⟨by rw [HZ.out]; rfl, B3.out⟩
/-- Does a rule fit? -/
def fitsRB (ds : List De) (vs : List ByteArray) (ts : List Int) (r : Ru) : Bool := fitsAB ds vs ts r.head && r.body.all (fitsLB ds vs ts)
theorem fitsRB_iff {ds : List De} {vs : List ByteArray} {ts : List Int} {r : Ru} : fitsRB ds vs ts r = true ↔ FitsU ds r vs ts := by
  unfold fitsRB
  rw [Bool.and_eq_true, List.all_eq_true]
  have hA : ∀ a : Am, fitsAB ds vs ts a = true ↔ ∀ x ∈ plc ds a, fitsR vs ts x.1 x.2 = true := fun a => by unfold fitsAB; rw [List.all_eq_true]
  constructor
  · rintro ⟨h1, h2⟩
    refine ⟨fun a ha => ?_, fun l hl hd => ?_, fun l hl hg => ?_⟩
    · rcases List.mem_cons.1 ha with rfl | ha
      · exact (hA _).1 h1
      · obtain ⟨l, hl, hd, rfl⟩ := mem_atomsL.1 ha
        have := h2 l hl
        rcases agg_or hd with h | h
        · rw [fitsLB_plain hd h] at this
          exact (hA _).1 this
        · have hn : ¬ (l.op = 1 ∨ l.op = 2) := by
            unfold aggB at h
            simp only [Bool.and_eq_true, Bool.not_eq_true', beq_eq_false_iff_ne] at h
            omega
          rw [fitsLB_agg hd hn] at this
          simp only [Bool.and_eq_true] at this
          exact (hA _).1 this.1.1
    · have := h2 l hl
      rwa [fitsLB_duo hd] at this
    · have := h2 l hl
      unfold aggB at hg
      simp only [Bool.and_eq_true, Bool.not_eq_true', beq_eq_false_iff_ne] at hg
      rw [fitsLB_agg hg.1.1 (by omega)] at this
      simp only [Bool.and_eq_true, Bool.or_eq_true, beq_iff_eq] at this
      exact ⟨this.1.2, this.2⟩
  · intro h
    refine ⟨(hA _).2 (h.atom _ (List.mem_cons_self ..)), fun l hl => ?_⟩
    cases hd : duoB l with
    | true => rw [fitsLB_duo hd]; exact h.duo l hl hd
    | false =>
      have ha := (hA _).2 (h.atom l.a (List.mem_cons_of_mem _ (mem_atomsL.2 ⟨l, hl, hd, rfl⟩)))
      rcases agg_or hd with h1 | h1
      · rw [fitsLB_plain hd h1]; exact ha
      · have hn : ¬ (l.op = 1 ∨ l.op = 2) := by
          have h1 := h1
          unfold aggB at h1
          simp only [Bool.and_eq_true, Bool.not_eq_true', beq_eq_false_iff_ne] at h1
          omega
        rw [fitsLB_agg hd hn]
        obtain ⟨g1, g2⟩ := h.agg l hl h1
        simp only [Bool.and_eq_true, Bool.or_eq_true, beq_iff_eq]
        exact ⟨⟨ha, g1⟩, g2⟩
set_option maxRecDepth 100000 in
set_option maxHeartbeats 8000000 in
theorem rfitsRule_c (vs : List ByteArray) (vv : Value) (B g : Nat) (ds : List De) (v : Value) (r : Ru) (ts : List Int) (w : World) (cs : List Value) (hd : SlOf w B 6 (DeC w B) ds v) (hc : RuC w B r cs) (hT : TyS B g w vs vv ts)
    (hr : rightR r = true) (hch : chkA ds (atomsR r) = 0) (hv : ∀ u ∈ termsR r, u.op = 1 → u.s ∈ vs ∧ u.l = []) :
    Calls Tryd.prog 48 #[v, .agg cs.toArray, vv, .slice (some ⟨g, 0, none⟩) ts.length ts.length] w fun e w' => e = .returned (.bool (fitsRB ds vs ts r)) ∧ Below w.heap.size w w' := by
  have hbad := chkA_iff.1 hch
  obtain ⟨o0, k0, o1, k1, rfl, _, hh, hbd⟩ := hc.look
  have hbase := hT.base
  have hrow := hT.row
  have HB0 : Hid (∀ (x : Obj), Below w.heap.size w (w.alloc x)) := Lib.hid fun x => (Below.refl _ _).alloc (Nat.le_refl _) _
  obtain ⟨o2, k2, e2, hc1, hm1, S1⟩ := SlOf.open hbd
  cases e2
  have HA := Lib.hid (fun (W : World) (h : Below w.heap.size w W) => rfitsAtom_c vs vv B g ds v r.head ts W _ (SlOf.decl hd (h.mono hbase) (Nat.le_refl _)) (hh.below (h.mono hbase)) (hT.kept h) (hbad _ (List.mem_cons_self ..)) (right_arg (right_atoms hr _ (List.mem_cons_self ..))) (fun u hu => hv u (List.mem_append_left _ hu)))
  have HL := Lib.hid (fun (t : Lt) (ht : t ∈ r.body) (W : World) (cs : List Value) (h : Below w.heap.size w W) (hc : LtC W B t cs) => show Calls Tryd.prog 75 #[v, .agg cs.toArray, vv, .slice (some ⟨g, 0, none⟩) ts.length ts.length] W fun e w' => e = .returned (.bool (fitsLB ds vs ts t)) ∧ Below W.heap.size W w' from by
    have hvt : ∀ u ∈ litTs t, u.op = 1 → u.s ∈ vs ∧ u.l = [] := fun u hu => hv u (List.mem_append_right _ (List.mem_flatMap.2 ⟨t, ht, hu⟩))
    cases hdu : duoB t with
    | true => exact rfitsDuo_c vs vv B g ds v t ts W cs hc (hT.kept h) (right_lits hr t ht) hdu hvt
    | false => exact rfitsPart_c vs vv B g ds v t ts W cs (SlOf.decl hd (h.mono hbase) (Nat.le_refl _)) hc (hT.kept h) (right_lits hr t ht) hdu (hbad _ (List.mem_cons_of_mem _ (mem_atomsL.2 ⟨t, ht, hdu, rfl⟩))) hvt)
  have HZ : Hid (fitsRB ds vs ts r = (fitsAB ds vs ts r.head && r.body.all (fitsLB ds vs ts))) := Lib.hid rfl
  obtain ⟨X, hX⟩ : ∃ X, fitsRB ds vs ts r = X := ⟨_, rfl⟩
  rw [hX] at HZ ⊢
  obtain ⟨xa, hxa⟩ : ∃ xa, fitsAB ds vs ts r.head = xa := ⟨_, rfl⟩
  rw [hxa] at HA HZ
  obtain ⟨ov, kv, rfl, _⟩ := SlOf.uni hT.vars
  obtain ⟨od, kd, rfl, _⟩ := SlOf.uni hd
  clear hd hc hT hr hch hv hbad hh hbd hX hxa
  go_enter Tryd.func48, Tryd.ntmps48
  go_wp2_with fail
  refine (HA.out _ (HB0.out _)).mono ?_
  rintro e w1 ⟨rfl, b1⟩
  have q1 := (b1.block w.heap.size (by simp)).trans (World.alloc_heap_new w _)
  have B1 := Lib.hid ((HB0.out _).trans (b1.mono (by simp)))
  have Q1 := Lib.hid q1
  clear b1 q1 HA
  go_wp2
  go_loopw [9, 10] (fun av iv wr => ∃ (j : Nat) (m : Bool), j ≤ r.body.length ∧ iv = .int .i64 j ∧ av = .bool m ∧ X = (m && (r.body.drop j).all (fitsLB ds vs ts)) ∧ Below w1.heap.size w1 wr) (fun _ iv _ => r.body.length - (intOf iv).toNat)
  case atStart => exact ⟨0, xa, Nat.zero_le _, rfl, rfl, HZ.out, Below.refl _ _⟩
  case round =>
    obtain ⟨j, m, hj, rfl, rfl, hL, hK⟩ := hrel
    have hBw : Below w.heap.size w wr := B1.out.trans (hK.mono B1.out.size)
    have qr := (hK.block w.heap.size (heap_lt Q1.out)).trans Q1.out
    have hz0 : w.heap.size < wr.heap.size := heap_lt qr
    have x0 : wr.cell? ⟨w.heap.size, 2, none⟩ = some (.slice o1 r.body.length k1) := row_cells qr 2
    have HLr := Lib.hid hL
    have HK := Lib.hid hK
    have HBw := Lib.hid hBw
    clear hL hK qr hBw
    by_cases hlt : j < r.body.length
    · have hlt3 : (j : Int) < (r.body.length : Int) := by omega
      cases m with
      | false =>
        have Hst : Hid (X = false) := Lib.hid (by rw [HLr.out, Bool.false_and])
        go_wp2
        go_ret
        exact ⟨by rw [Hst.out]; rfl, HBw.out⟩
      | true =>
        obtain ⟨t, ht⟩ : ∃ t, r.body[j]? = some t := ⟨_, List.getElem?_eq_getElem hlt⟩
        have Hst : Hid (X = (fitsLB ds vs ts t && (r.body.drop (j + 1)).all (fitsLB ds vs ts))) := Lib.hid (by rw [HLr.out, Bool.true_and, all_drop' (f := fitsLB ds vs ts) ht])
        obtain ⟨a, p0, q0, p1, q1, p2, q2, rfl, ha, Hc, c0, c1, c2, c3, c4, c5, c6, c7, c8, c9, c10⟩ := lt_in S1 (HBw.out.mono hbase) ht
        have hal : (a.add (j * 11)).block < wr.heap.size := by rw [addBlock]; have := HBw.out.size; omega
        have HCL := Lib.hid (HL.out t (List.mem_of_getElem? ht) wr _ HBw.out Hc.out)
        obtain ⟨xt, hxt⟩ : ∃ xt, fitsLB ds vs ts t = xt := ⟨_, rfl⟩
        rw [hxt] at HCL Hst
        clear ht hxt
        go_wp2_with fail
        refine HCL.out.mono ?_
        rintro e3 w3 ⟨rfl, b3⟩
        have HB3 := Lib.hid (HK.out.trans (b3.mono HK.out.size))
        clear b3 HCL
        go_wp2
        go_roundw
        case rel => exact ⟨j + 1, xt, hlt, by go_num, rfl, Hst.out, HB3.out⟩
        case measure => simp [intOf]; omega
    · have hlt3 : ¬ (j : Int) < (r.body.length : Int) := by omega
      obtain rfl : j = r.body.length := by omega
      go_wp2
      go_ret
      refine ⟨?_, HBw.out⟩
      rw [HLr.out, List.drop_eq_nil_of_le (Nat.le_refl _)]
      simp
end Go.Proofs.YtbpdfmpfnbdeoaaDoor
namespace Go.Proofs.YtbpdfmpfnbdeoaaDoor
open Go.RowKit

theorem chkA_app (ds : List De) : ∀ l m : List Am, chkA ds (l ++ m) = if chkA ds l = 0 then chkA ds m else chkA ds l
  | [], m => by simp [chkA]
  | t :: l, m => by
    show (if badA ds t = 0 then chkA ds (l ++ m) else badA ds t) = if (if badA ds t = 0 then chkA ds l else badA ds t) = 0 then chkA ds m else if badA ds t = 0 then chkA ds l else badA ds t
    by_cases h : badA ds t = 0
    · rw [if_pos h, if_pos h, chkA_app ds l m]
    · rw [if_neg h, if_neg h, if_neg h]
/-- What has been checked of a rule's atoms: the head's, and those of the first parts. -/
def chkK (ds : List De) (r : Ru) (k : Nat) : Nat := chkA ds (r.head :: atomsL (r.body.take k))
theorem chkK_zero (ds : List De) (r : Ru) : chkK ds r 0 = badA ds r.head := by
  unfold chkK
  show (if badA ds r.head = 0 then chkA ds [] else badA ds r.head) = _
  split
  · rename_i h; rw [h]; rfl
  · rfl
theorem chkK_all (ds : List De) (r : Ru) : chkK ds r r.body.length = chkA ds (atomsR r) := by
  unfold chkK
  rw [List.take_of_length_le (Nat.le_refl _)]
  rfl
theorem chkK_step {ds : List De} {r : Ru} {k : Nat} {t : Lt} (ht : r.body[k]? = some t) (h : chkK ds r k = 0) : chkK ds r (k + 1) = if duoB t = true then 0 else badA ds t.a := by
  unfold chkK at *
  rw [atomsL_take ht, ← List.cons_append, chkA_app, if_pos h]
  split
  · rfl
  · show (if badA ds t.a = 0 then chkA ds [] else badA ds t.a) = _
    split
    · rename_i h; rw [h]; rfl
    · rfl
theorem chkK_stop {ds : List De} {r : Ru} {k : Nat} (h : chkK ds r k ≠ 0) : chkA ds (atomsR r) = chkK ds r k := by
  unfold chkK at *
  unfold atomsR
  have : atomsL r.body = atomsL (r.body.take k) ++ atomsL (r.body.drop k) := by rw [← atomsL_app, List.take_append_drop]
  rw [this, ← List.cons_append, chkA_app, if_neg h]
theorem atE_zero {n : Nat} : (atE n == 0) = (n == 0) := by
  match n with
  | 0 => rfl
  | 1 => rfl
  | n + 2 => rfl

/-- What is told of variables. -/
def jR (ds : List De) (r : Ru) : ByteArray → Int → Prop := fun s k => DerR ds r s.data.toList k
theorem jR_12 {ds : List De} {r : Ru} (h : rightP ⟨ds, [r]⟩ = true) : ∀ s k, jR ds r s k → k = 1 ∨ k = 2 := fun _ _ d => der_ty (base_ty (right_types h)) d
theorem right_ru {ds : List De} {r : Ru} (h : rightP ⟨ds, [r]⟩ = true) : rightR r = true := by
  unfold rightP at h
  simp only [Bool.and_eq_true, List.all_cons, List.all_nil] at h
  exact h.2.1
theorem jR_asks {ds : List De} {r : Ru} (hr : rightR r = true) (hc : chkA ds (atomsR r) = 0) : Asks (fun t k => t.op = 1 → jR ds r t.s k) ds r :=
  (asks_base (P := fun t k => t.op = 1 → jR ds r t.s k) hr hc (fun t h0 h1 => by omega)).2 fun x hx h1 => .base (t := x.1) (k := x.2) hx h1
theorem pair_in {r : Ru} {t : Lt} (ht : t ∈ r.body) (hd : duoB t = true) : (t.x, t.y) ∈ prsL r.body := mem_prsL.2 ⟨t, ht, hd, rfl⟩
theorem jR_pair {ds : List De} {r : Ru} {t : Lt} (ht : t ∈ r.body) (hd : duoB t = true) : PairJ (jR ds r) t.x t.y ∧ PairJ (jR ds r) t.y t.x := by
  have hm := pair_in ht hd
  exact ⟨⟨fun h1 h2 h3 => .lc hm h1 h2 rfl h3, fun h1 h2 k d => .lv hm h1 h2 d⟩, ⟨fun h1 h2 h3 => .rc hm h1 h2 rfl h3, fun h1 h2 k d => .rv hm h1 h2 d⟩⟩
theorem vars_in {r : Ru} (hr : rightR r = true) : ∀ u ∈ termsR r, u.op = 1 → u.s ∈ varsV (termsR r) ∧ u.l = [] := fun u hu h1 => by
  refine ⟨(mem_varsV _ _).2 ⟨u, hu, h1, rfl⟩, ?_⟩
  unfold termsR at hu
  rcases List.mem_append.1 hu with hu | hu
  · exact rightA_leaf1 (right_atoms hr _ (List.mem_cons_self ..)) u hu h1
  · obtain ⟨t, ht, hu⟩ := List.mem_flatMap.1 hu
    exact rightL_leaf1 (right_lits hr t ht) u hu h1
theorem rlearnHead_c (ds : List De) (r : Ru) (hR : rightP ⟨ds, [r]⟩ = true) (hch : chkA ds (atomsR r) = 0) (vv v : Value) (B g : Nat) (ts : List Int) (w : World) (cs : List Value) (hd : SlOf w B 6 (DeC w B) ds v) (hc : AmC w B r.head cs) (hT : TyS B g w (varsV (termsR r)) vv ts) :
    Calls Tryd.prog 46 #[v, .agg cs.toArray, vv, .slice (some ⟨g, 0, none⟩) ts.length ts.length] w (LrnR (jR ds r) (varsV (termsR r)) (AllF (varsV (termsR r)) (plc ds r.head)) ts B g vv w) := by
  have hr := right_ru hR
  have A := jR_asks hr hch
  have hb := chkA_iff.1 hch r.head (List.mem_cons_self ..)
  refine rlearnAtom_c (jR ds r) _ vv B g ds v r.head ts w cs hd hc hT hb (fun u hu => vars_in hr u (List.mem_append_left _ hu)) (fun x hx h1 _ => (A.atom _ (List.mem_cons_self ..) x hx).1 h1) (fun x hx u hu h1 => ?_)
  obtain ⟨k, hk⟩ := (plc_mem hb).2 x hx
  exact (A.atom _ (List.mem_cons_self ..) _ hk).2 u hu h1
theorem rlearnLit_c (ds : List De) (r : Ru) (hR : rightP ⟨ds, [r]⟩ = true) (hch : chkA ds (atomsR r) = 0) (vv v : Value) (B g : Nat) (t : Lt) (ht : t ∈ r.body) (ts : List Int) (w : World) (cs : List Value) (hd : SlOf w B 6 (DeC w B) ds v) (hc : LtC w B t cs) (hT : TyS B g w (varsV (termsR r)) vv ts) (hS : SndT (jR ds r) (varsV (termsR r)) ts) :
    Calls Tryd.prog 47 #[v, .agg cs.toArray, vv, .slice (some ⟨g, 0, none⟩) ts.length ts.length] w (LrnR (jR ds r) (varsV (termsR r)) (LitN ds (varsV (termsR r)) t) ts B g vv w) := by
  have hr := right_ru hR
  have A := jR_asks hr hch
  have hv : ∀ u ∈ litTs t, u.op = 1 → u.s ∈ varsV (termsR r) ∧ u.l = [] := fun u hu => vars_in hr u (List.mem_append_right _ (List.mem_flatMap.2 ⟨t, ht, hu⟩))
  cases hdu : duoB t with
  | true =>
    obtain ⟨j1, j2⟩ := jR_pair (ds := ds) ht hdu
    exact rlearnDuo_c (jR ds r) (jR_12 hR) _ vv B g ds v t ts w cs hc hT hS (right_lits hr t ht) hdu hv j1 j2 (fun u hu h1 => hu.elim (fun h => (A.duo t ht hdu).1 u h h1) (fun h => (A.duo t ht hdu).2 u h h1))
  | false =>
    have hm : t.a ∈ atomsR r := List.mem_cons_of_mem _ (mem_atomsL.2 ⟨t, ht, hdu, rfl⟩)
    have hb := chkA_iff.1 hch t.a hm
    refine rlearnPart_c (jR ds r) _ vv B g ds v t ts w cs hd hc hT (right_lits hr t ht) hdu hb hv (fun x hx h1 _ => (A.atom _ hm x hx).1 h1) (fun x hx u hu h1 => ?_) (fun hg u hu h1 => ?_)
    · obtain ⟨k, hk⟩ := (plc_mem hb).2 x hx
      exact (A.atom _ hm _ hk).2 u hu h1
    · obtain ⟨f1, f2⟩ := A.agg t ht hg
      rcases hu with hu | hu
      · rcases mem_subT.1 hu with rfl | hu
        · exact f1.1 h1
        · exact f1.2 u hu h1
      · rcases mem_subT.1 hu with rfl | hu
        · exact f2.1 h1
        · exact f2.2 u hu h1
/-- What is asked of a whole round in which nothing is learned. -/
theorem still_of {ds : List De} {r : Ru} {vs : List ByteArray} {ts : List Int} (h1 : AllF vs (plc ds r.head) ts) (h2 : ∀ l ∈ r.body, LitN ds vs l ts) : StillR ds r vs ts := by
  have duo : ∀ l ∈ r.body, duoB l = true → nearP vs ts (l.x, l.y) ∧ (∀ u ∈ subTs l.x.l, knP vs ts u 1) ∧ (∀ u ∈ subTs l.y.l, knP vs ts u 1) := fun l hl hd => by
    have := h2 l hl
    unfold LitN at this
    rwa [if_pos hd] at this
  have part : ∀ l ∈ r.body, duoB l = false → AllF vs (plc ds l.a) ts ∧ (aggB l = true → Full (knP vs ts) l.x 1 ∧ Full (knP vs ts) l.y 1) := fun l hl hd => by
    have := h2 l hl
    unfold LitN at this
    rwa [if_neg (by rw [hd]; decide)] at this
  refine ⟨⟨fun a ha => ?_, fun l hl hd => (duo l hl hd).2, fun l hl hg => ?_⟩, fun l hl hd => (duo l hl hd).1⟩
  · rcases List.mem_cons.1 ha with rfl | ha
    · exact h1
    · obtain ⟨l, hl, hd, rfl⟩ := mem_atomsL.1 ha
      exact (part l hl hd).1
  · have hd : duoB l = false := by
      unfold aggB at hg
      simp only [Bool.and_eq_true, Bool.not_eq_true'] at hg
      exact hg.1.1
    exact (part l hl hd).2 hg
theorem zeros_le (ts : List Int) : zerosL ts ≤ ts.length := List.countP_le_length
theorem snd_zeros {J : ByteArray → Int → Prop} {vs : List ByteArray} {n : Nat} : SndT J vs (List.replicate n 0) := fun i s v _ h h0 => by
  obtain ⟨_, h⟩ := List.getElem?_eq_some_iff.1 h
  rw [List.getElem_replicate] at h
  exact absurd h.symm h0
end Go.Proofs.YtbpdfmpfnbdeoaaDoor
namespace Go.Proofs.YtbpdfmpfnbdeoaaDoor
open Go.RowKit

/-- How the reference's Types answers. -/
def RTypesR (ds : List De) (r : Ru) (n0 : Nat) (w : World) (e : Ending) (w' : World) : Prop :=
  ∃ v l k, e = .returned (.tuple #[v, .int .i64 k]) ∧ RefT ds r l k ∧ SlOf w' w'.heap.size 1 IntC l v ∧ Below n0 w w'
theorem rtypesR_nil {ds : List De} {r : Ru} {n0 : Nat} {w w' : World} {k : Int} (h : RefT ds r [] k) (hb : Below n0 w w') : RTypesR ds r n0 w (.returned (.tuple #[.slice none 0 0, .int .i64 k])) w' := ⟨_, _, _, rfl, h, .inl ⟨rfl, rfl⟩, hb⟩
set_option maxRecDepth 100000 in
set_option maxHeartbeats 16000000 in
theorem rtypes_c (ds : List De) (v : Value) (r : Ru) (cs : List Value) (w : World) (hd : SlOf w w.heap.size 6 (DeC w w.heap.size) ds v) (hc : RuC w w.heap.size r cs) (hlen : (termsR r).length ≤ 1000000) :
    Calls Tryd.prog 19 #[v, .agg cs.toArray] w (RTypesR ds r w.heap.size w) := by
  obtain ⟨o0, k0, o1, k1, rfl, _, hh, hbd⟩ := hc.look
  obtain ⟨od, kd, rfl, _⟩ := SlOf.uni hd
  obtain ⟨o2, k2, e2, hc1, hm1, S1⟩ := SlOf.open hbd
  cases e2
  obtain ⟨C, hC⟩ : ∃ C : Obj, .cells #[.string r.head.rel, .slice o0 r.head.l.length k0, .slice o1 r.body.length k1, .int .i64 r.line] 27 = C := ⟨_, rfl⟩
  have b1 : Below w.heap.size w (w.alloc C) := (Below.refl _ _).alloc (Nat.le_refl _) _
  have b2 : Below w.heap.size w ((w.alloc C).alloc C) := b1.alloc (by simp) _
  have HSL : SlOf ((w.alloc C).alloc C) ((w.alloc C).alloc C).heap.size 4 (RuC ((w.alloc C).alloc C) ((w.alloc C).alloc C).heap.size) [r] (.slice (some ⟨w.heap.size + 1, 0, none⟩) 1 1) := by
    have := rule_slice (w.alloc C) r ((hc.below b1).more b1.size)
    rw [hC] at this
    simpa using this
  have HR := Lib.hid (rright_c ⟨ds, [r]⟩ _ [.slice od ds.length kd, .slice (some ⟨w.heap.size + 1, 0, none⟩) 1 1] ⟨_, _, rfl, SlOf.decl hd b2 b2.size, HSL⟩)
  have B2 := Lib.hid b2
  have HD := Lib.hid hd
  have HC := Lib.hid hc
  have HH := Lib.hid hh
  have HLn := Lib.hid hlen
  subst hC
  clear hd hc hlen b1 b2 HSL hh hbd
  go_enter Tryd.func19, Tryd.ntmps19
  go_wp2_with fail
  refine HR.out.mono ?_
  rintro e3 w3 ⟨rfl, b3⟩
  have hz2 : w.heap.size + 2 ≤ w3.heap.size := by have := b3.size; simpa using this
  have r3 : w3.heap[w.heap.size]? = some (.cells #[.string r.head.rel, .slice o0 r.head.l.length k0, .slice o1 r.body.length k1, .int .i64 r.line] 27 (0, 0)) := by
    rw [b3.block _ (by simp; omega)]
    rw [Below.heap_alloc _ _ _ (by simp)]
    exact World.alloc_heap_new w _
  have B3 := Lib.hid (B2.out.trans (b3.mono B2.out.size))
  clear b3
  cases hr : rightP ⟨ds, [r]⟩ with
  | false =>
    have Ha := Lib.hid (RefT.tree hr)
    clear hr
    go_wp2
    go_ret2
    exact rtypesR_nil Ha.out B3.out
  | true =>
  have HRt := Lib.hid hr
  clear hr
  have R3 := Lib.hid r3
  have x0 : w3.cell? ⟨w.heap.size, 0, none⟩ = some (.string r.head.rel) := row_cells R3.out 0
  have x1 : w3.cell? ⟨w.heap.size, 1, none⟩ = some (.slice o0 r.head.l.length k0) := row_cells R3.out 1
  have hl3 : w.heap.size < w3.heap.size := by omega
  have HK := Lib.hid (rknown_c ds _ r.head w3 _ (SlOf.decl HD.out B3.out B3.out.size) ((HH.out.below B3.out).more B3.out.size))
  clear r3
  go_wp2_with fail
  refine HK.out.mono ?_
  rintro e4 w4 ⟨rfl, b4⟩
  have B4 := Lib.hid (B3.out.trans (b4.mono B3.out.size))
  have R4 := Lib.hid ((b4.block _ hl3).trans R3.out)
  obtain ⟨c0, hc0⟩ : ∃ c, badA ds r.head = c := ⟨_, rfl⟩
  rw [hc0]
  have HC0 : Hid (chkK ds r 0 = c0) := Lib.hid ((chkK_zero ds r).trans hc0)
  clear b4 HK x0 x1 hc0
  go_wp2
  go_loopw [7, 8] (fun ev iv wr => ∃ (k : Nat), k ≤ r.body.length ∧ iv = .int .i64 k ∧ ev = .int .i64 (atE (chkK ds r k)) ∧ Below w4.heap.size w4 wr) (fun _ iv _ => r.body.length - (intOf iv).toNat)
  case atStart => exact ⟨0, Nat.zero_le _, rfl, by rw [HC0.out], Below.refl _ _⟩
  case round =>
    obtain ⟨k, hk, rfl, rfl, hB⟩ := hrel
    have hBw : Below w.heap.size w wr := B4.out.trans (hB.mono B4.out.size)
    have qr := (hB.block w.heap.size (heap_lt R4.out)).trans R4.out
    have hz0 : w.heap.size < wr.heap.size := heap_lt qr
    have y2 : wr.cell? ⟨w.heap.size, 2, none⟩ = some (.slice o1 r.body.length k1) := row_cells qr 2
    have HB := Lib.hid hB
    have HBw := Lib.hid hBw
    have QR := Lib.hid qr
    obtain ⟨c, hcc⟩ : ∃ c, chkK ds r k = c := ⟨_, rfl⟩
    have HCk := Lib.hid hcc
    rw [hcc]
    clear hB hBw qr hcc
    by_cases hgo : k < r.body.length ∧ c = 0
    · obtain ⟨hlt, rfl⟩ := hgo
      have hlt3 : (k : Int) < (r.body.length : Int) := by omega
      have hk0 : (0 : Int) ≤ (k : Int) := by omega
      have ec : (atE 0 == 0) = true := rfl
      obtain ⟨t, ht⟩ : ∃ t, r.body[k]? = some t := ⟨_, List.getElem?_eq_getElem hlt⟩
      have Hst := Lib.hid (chkK_step ht HCk.out)
      have HLr := Lib.hid (right_lits (right_ru HRt.out) t (List.mem_of_getElem? ht))
      obtain ⟨a, p0, q0, p1, q1, p2, q2, rfl, ha, Hc, d0, d1, d2, d3, d4, d5, d6, d7, d8, d9, d10⟩ := lt_at S1 HBw.out ht
      have hal : (a.add (k * 11)).block < wr.heap.size := by rw [addBlock]; omega
      obtain ⟨_, _, _, _, _, _, ecs, _, hAm, _, _⟩ := Hc.out.look
      simp only [List.cons.injEq, Value.slice.injEq, true_and, and_true] at ecs
      obtain ⟨⟨rfl, rfl⟩, ⟨rfl, rfl⟩, rfl, rfl⟩ := ecs
      have HKn := Lib.hid (fun (W : World) (hb : Below wr.heap.size wr W) => rknown_c ds _ t.a W _ (SlOf.decl HD.out (HBw.out.trans (hb.mono HBw.out.size)) (Nat.le_trans HBw.out.size hb.size)) ((hAm.below hb).more hb.size))
      clear ht hAm
      by_cases hop : t.op < 3
      · have Hz : Hid (chkK ds r (k + 1) = badA ds t.a) := Lib.hid (by
          rw [Hst.out, if_neg]
          intro h
          have := duo_op h
          omega)
        go_wp2_with fail
        refine (HKn.out _ (Below.refl _ _)).mono ?_
        rintro e5 w5 ⟨rfl, b5⟩
        have HB5 := Lib.hid (HB.out.trans (b5.mono HB.out.size))
        clear b5 d0 d1 d2 d3 d4 d5 d6 d7 d8 d9 d10
        go_wp2
        go_roundw
        case rel => exact ⟨k + 1, hlt, by go_num, by rw [Hz.out], HB5.out⟩
        case measure => simp [intOf]; omega
      · by_cases hop6 : 6 < t.op
        · have Hz : Hid (chkK ds r (k + 1) = badA ds t.a) := Lib.hid (by
            rw [Hst.out, if_neg]
            intro h
            have := duo_op h
            omega)
          go_wp2_with fail
          refine (HKn.out _ (Below.refl _ _)).mono ?_
          rintro e5 w5 ⟨rfl, b5⟩
          have HB5 := Lib.hid (HB.out.trans (b5.mono HB.out.size))
          clear b5 d0 d1 d2 d3 d4 d5 d6 d7 d8 d9 d10
          go_wp2
          go_roundw
          case rel => exact ⟨k + 1, hlt, by go_num, by rw [Hz.out], HB5.out⟩
          case measure => simp [intOf]; omega
        · have Hz : Hid (chkK ds r (k + 1) = 0) := Lib.hid (by
            rw [Hst.out, if_pos]
            unfold duoB
            simp only [Bool.or_eq_true, beq_iff_eq]
            omega)
          go_wp2
          go_roundw
          case rel => exact ⟨k + 1, hlt, by go_num, by rw [Hz.out], HB.out⟩
          case measure => simp [intOf]; omega
    · by_cases hc0 : c = 0
      · subst hc0
        have hlt3 : ¬ (k : Int) < (r.body.length : Int) := by omega
        obtain rfl : k = r.body.length := by omega
        have HCH : Hid (chkA ds (atomsR r) = 0) := Lib.hid ((chkK_all ds r).symm.trans HCk.out)
        have ec : (atE 0 != 0) = false := rfl
        have HV := Lib.hid (vars5_c r wr _ ((HC.out.below HBw.out).more HBw.out.size) HLn.out)
        have z0 : wr.cell? ⟨w.heap.size, 0, none⟩ = some (.string r.head.rel) := row_cells QR.out 0
        have z1 : wr.cell? ⟨w.heap.size, 1, none⟩ = some (.slice o0 r.head.l.length k0) := row_cells QR.out 1
        have z3 : wr.cell? ⟨w.heap.size, 3, none⟩ = some (.int .i64 r.line) := row_cells QR.out 3
        go_wp2_with fail
        refine HV.out.mono ?_
        rintro e5 w5 ⟨vv, rfl, hS5, b5⟩
        have B5 := Lib.hid (HBw.out.trans (b5.mono HBw.out.size))
        have R5 := Lib.hid ((b5.block _ (heap_lt QR.out)).trans QR.out)
        rw [show varsA r = varsV (termsR r) from if_pos (right_ru HRt.out)] at hS5
        obtain ⟨vs, hvs⟩ : ∃ vs, varsV (termsR r) = vs := ⟨_, rfl⟩
        have Hvs := Lib.hid hvs
        have hvl : vs.length ≤ 1000000 := by rw [← hvs]; exact Nat.le_trans (varsV_len _) HLn.out
        have Hvl := Lib.hid hvl
        rw [hvs] at hS5
        have HS5 := Lib.hid hS5
        obtain ⟨ov, kv, rfl, _⟩ := SlOf.uni hS5
        obtain ⟨i0, hi, hy0, hy1, hy2⟩ := info_parts info_int
        have Kb : Hid (i0.bytes * vs.length ≤ 281474976710656) := Lib.hid (by rw [hy2]; omega)
        have Km : Hid (vs.length ≤ maxLen) := Lib.hid (by unfold maxLen; omega)
        obtain ⟨B, hBe⟩ : ∃ B, w5.heap.size = B := ⟨_, rfl⟩
        have HBe := Lib.hid hBe
        clear hS5 b5 HV z0 z1 z3 y2 hvs hvl
        go_wp2_with (first | (at_make; refine wpList_make_full _ rfl _ _ 37 rfl B 3 i0 _ 1 Tryd.underlying37 hi hy0 hy1 .i64 .i64 _ _ vs.length rfl rfl rfl rfl Kb.out Km.out (by rw [hBe]; exact Nat.le_refl _) ?_; rw [hBe]; intro w6 hown6 hg6; have O6 := Lib.hid hown6; have G6 := Lib.hid hg6; clear hown6 hg6))
        have hb6 : Below B w5 w6 := (Below.refl _ _).grown G6.out (by rw [hBe]; exact Nat.le_refl _) (fun q hq => by cases hq)
        have hmc : (madeCells (Value.int .i64 0).cells (vs.length * 1)).toList = (List.replicate vs.length (0 : Int)).map (Value.int .i64) := by
          rw [Nat.mul_one, List.map_replicate]
          exact toList_madeCells_one _ _
        have hT6 : TyS B B w6 vs (.slice ov vs.length kv) (List.replicate vs.length 0) := by
          have h1 := O6.out
          rw [hmc] at h1
          refine ⟨SlOf.str HS5.out (by rw [HBe.out]; exact hb6) (by rw [HBe.out]; exact Nat.le_refl _), by rw [List.length_replicate]; exact h1, List.length_replicate, by have := G6.out.size; omega⟩
        have B6 := Lib.hid (B5.out.trans (hb6.mono (by rw [← hBe]; exact B5.out.size)))
        have HB56 := Lib.hid hb6
        have hw5 : w.heap.size < B := by rw [← hBe]; exact heap_lt R5.out
        have R6 := Lib.hid ((hb6.block _ hw5).trans R5.out)
        have HT6 := Lib.hid hT6
        have Hin : Hid (∀ W, Kp (fun b => b = B) w6 W → Below B w5 W) := Lib.hid fun W hk => HB56.out.trans (hk.below (by have := HB56.out.size; omega) fun i hi e => by omega)
        have HLH : Hid (∀ (W : World) (ts : List Int), Kp (fun b => b = B) w6 W → ts.length = vs.length → TyS B B W vs (.slice ov vs.length kv) ts → Calls Tryd.prog 46 #[.slice od ds.length kd, .agg #[.string r.head.rel, .slice o0 r.head.l.length k0], .slice ov vs.length kv, .slice (some ⟨B, 0, none⟩) vs.length vs.length] W (LrnR (jR ds r) vs (AllF vs (plc ds r.head)) ts B B (.slice ov vs.length kv) W)) := Lib.hid fun W ts hk hl hT => by
          have hb := B5.out.trans ((Hin.out W hk).mono (by rw [← hBe]; exact B5.out.size))
          have := rlearnHead_c ds r HRt.out HCH.out (.slice ov vs.length kv) (.slice od ds.length kd) B B ts W _ (SlOf.decl HD.out hb (by omega)) ((HH.out.below hb).more (by omega)) (by rw [Hvs.out]; exact hT)
          rw [Hvs.out, hl] at this
          exact this
        have HLL : Hid (∀ (W : World) (t : Lt) (cs : List Value) (ts : List Int), t ∈ r.body → Kp (fun b => b = B) w6 W → ts.length = vs.length → LtC W B t cs → TyS B B W vs (.slice ov vs.length kv) ts → SndT (jR ds r) vs ts → Calls Tryd.prog 47 #[.slice od ds.length kd, .agg cs.toArray, .slice ov vs.length kv, .slice (some ⟨B, 0, none⟩) vs.length vs.length] W (LrnR (jR ds r) vs (LitN ds vs t) ts B B (.slice ov vs.length kv) W)) := Lib.hid fun W t cs ts ht hk hl hc hT hS => by
          have hb := B5.out.trans ((Hin.out W hk).mono (by rw [← hBe]; exact B5.out.size))
          have := rlearnLit_c ds r HRt.out HCH.out (.slice ov vs.length kv) (.slice od ds.length kd) B B t ht ts W cs (SlOf.decl HD.out hb (by omega)) hc (by rw [Hvs.out]; exact hT) (by rw [Hvs.out]; exact hS)
          rw [Hvs.out, hl] at this
          exact this
        have HFR : Hid (∀ (W : World) (ts : List Int), Kp (fun b => b = B) w6 W → ts.length = vs.length → TyS B B W vs (.slice ov vs.length kv) ts → Calls Tryd.prog 48 #[.slice od ds.length kd, .agg #[.string r.head.rel, .slice o0 r.head.l.length k0, .slice o1 r.body.length k1, .int .i64 r.line], .slice ov vs.length kv, .slice (some ⟨B, 0, none⟩) vs.length vs.length] W fun e w' => e = .returned (.bool (fitsRB ds vs ts r)) ∧ Below W.heap.size W w') := Lib.hid fun W ts hk hl hT => by
          have hb := B5.out.trans ((Hin.out W hk).mono (by rw [← hBe]; exact B5.out.size))
          have := rfitsRule_c vs (.slice ov vs.length kv) B B ds (.slice od ds.length kd) r ts W _ (SlOf.decl HD.out hb (by omega)) ((HC.out.below hb).more (by omega)) hT (right_ru HRt.out) HCH.out (by rw [← Hvs.out]; exact vars_in (right_ru HRt.out))
          rw [hl] at this
          exact this
        have HSL1 : Hid (SlIn w w.heap.size 11 (LtC w w.heap.size) r.body o1) := S1
        have HRk : Hid (∀ W, Kp (fun b => b = B) w6 W → W.heap[w.heap.size]? = some (.cells #[.string r.head.rel, .slice o0 r.head.l.length k0, .slice o1 r.body.length k1, .int .i64 r.line] 27 (0, 0))) := Lib.hid fun W hk => (hk.block _ (heap_lt R6.out) (by omega)).trans R6.out
        have HBk : Hid (∀ W, Kp (fun b => b = B) w6 W → Below w.heap.size w W) := Lib.hid fun W hk => B5.out.trans ((Hin.out W hk).mono (by rw [← hBe]; exact B5.out.size))
        clear hb6 hmc hT6 HR HC
        go_wp2_with fail
        go_loopg [11] (vs.length + 1) (fun q mv wr => ∃ (ts : List Int) (m : Bool), mv = .bool m ∧ ts.length = vs.length ∧ TyS B B wr vs (.slice ov vs.length kv) ts ∧ SndT (jR ds r) vs ts ∧ (m = false → StillR ds r vs ts) ∧ Kp (fun b => b = B) w6 wr ∧ zerosL ts + (if m then 1 else 0) ≤ q)
        case atStart => exact ⟨_, true, rfl, List.length_replicate, HT6.out, snd_zeros, fun h => (by cases h), Kp.refl _ _, by have := zeros_le (List.replicate vs.length (0 : Int)); rw [List.length_replicate] at this; simp; omega⟩
        case round =>
          obtain ⟨ts, m, rfl, htl, hTs, hSn, hSt, hKw, hq⟩ := hrel
          have HTs := Lib.hid hTs
          have HSn := Lib.hid hSn
          have HKw := Lib.hid hKw
          have Htl := Lib.hid htl
          have Hq := Lib.hid hq
          have qr := HRk.out _ hKw
          have g0 : wr.cell? ⟨w.heap.size, 0, none⟩ = some (.string r.head.rel) := row_cells qr 0
          have g1 : wr.cell? ⟨w.heap.size, 1, none⟩ = some (.slice o0 r.head.l.length k0) := row_cells qr 1
          have g2 : wr.cell? ⟨w.heap.size, 2, none⟩ = some (.slice o1 r.body.length k1) := row_cells qr 2
          have g3 : wr.cell? ⟨w.heap.size, 3, none⟩ = some (.int .i64 r.line) := row_cells qr 3
          have hzr : w.heap.size < wr.heap.size := heap_lt qr
          clear hTs hSn hKw htl hq qr
          cases m with
          | true =>
            have HCA := Lib.hid (HLH.out wr ts HKw.out Htl.out HTs.out)
            clear hSt
            go_wp2_with fail
            refine HCA.out.mono ?_
            rintro e7 w7 ⟨ts7, m7, rfl, hL7, hT7, hK7⟩
            have HL7 := Lib.hid hL7
            have HT7 := Lib.hid hT7
            have HK7 := Lib.hid (HKw.out.trans hK7)
            clear hL7 hT7 hK7 HCA g0 g1 g2 g3
            go_wp2
            go_loopw [11, 12] (fun mv iv wx => ∃ (ts2 : List Int) (m2 : Bool) (j : Nat), j ≤ r.body.length ∧ iv = .int .i64 j ∧ mv = .bool m2 ∧ Lrn (jR ds r) vs (fun t => AllF vs (plc ds r.head) t ∧ ∀ l ∈ r.body.take j, LitN ds vs l t) ts ts2 m2 ∧ TyS B B wx vs (.slice ov vs.length kv) ts2 ∧ Kp (fun b => b = B) w6 wx) (fun _ iv _ => r.body.length - (intOf iv).toNat)
            case atStart => exact ⟨ts7, m7, 0, Nat.zero_le _, rfl, rfl, HL7.out.mono fun h => ⟨h, by simp⟩, HT7.out, HK7.out⟩
            case round =>
              obtain ⟨ts2, m2, j, hj, rfl, rfl, hL2, hT2, hK2⟩ := hrel
              have HL2 := Lib.hid hL2
              have HT2 := Lib.hid hT2
              have HK2 := Lib.hid hK2
              have qr := HRk.out _ hK2
              have g2 : wr.cell? ⟨w.heap.size, 2, none⟩ = some (.slice o1 r.body.length k1) := row_cells qr 2
              have hzr : w.heap.size < wr.heap.size := heap_lt qr
              clear hL2 hT2 hK2 qr
              by_cases hlt : j < r.body.length
              · have hlt3 : (j : Int) < (r.body.length : Int) := by omega
                obtain ⟨t, ht⟩ : ∃ t, r.body[j]? = some t := ⟨_, List.getElem?_eq_getElem hlt⟩
                obtain ⟨a, p0, q0, p1, q1, p2, q2, rfl, ha, Hc, d0, d1, d2, d3, d4, d5, d6, d7, d8, d9, d10⟩ := lt_in HSL1 (HBk.out _ HK2.out) ht
                have hal : (a.add (j * 11)).block < wr.heap.size := by rw [addBlock]; omega
                have HCL := Lib.hid (HLL.out wr t _ ts2 (List.mem_of_getElem? ht) HK2.out (HL2.out.len.trans Htl.out) (Hc.out.more (by omega)) HT2.out (HL2.out.snd HSn.out))
                have Ht := Lib.hid ht
                clear ht
                go_wp2_with fail
                refine HCL.out.mono ?_
                rintro e8 w8 ⟨ts8, m8, rfl, hL8, hT8, hK8⟩
                have hx : Lrn (jR ds r) vs (fun t => AllF vs (plc ds r.head) t ∧ ∀ l ∈ r.body.take (j + 1), LitN ds vs l t) ts ts8 (m2 || m8) := (HL2.out.comp hL8).mono fun h => ⟨h.1.1, takes_all Ht.out h.1.2 h.2⟩
                have HL8 := Lib.hid hx
                have HT8 := Lib.hid hT8
                have HK8 := Lib.hid (HK2.out.trans hK8)
                clear hL8 hT8 hK8 HCL hx d0 d1 d2 d3 d4 d5 d6 d7 d8 d9 d10
                cases m2 with
                | true =>
                  go_wp2
                  go_roundw
                  case rel => exact ⟨ts8, true, j + 1, hlt, by go_num, rfl, HL8.out, HT8.out, HK8.out⟩
                  case measure => simp [intOf]; omega
                | false =>
                  go_wp2
                  go_roundw
                  case rel => exact ⟨ts8, m8, j + 1, hlt, by go_num, rfl, HL8.out, HT8.out, HK8.out⟩
                  case measure => simp [intOf]; omega
              · have hlt3 : ¬ (j : Int) < (r.body.length : Int) := by omega
                obtain rfl : j = r.body.length := by omega
                go_wp2
                go_roundg (zerosL ts2 + (if m2 then 1 else 0))
                case measure =>
                  have hq := Hq.out
                  simp only [if_true] at hq
                  cases m2 with
                  | true => have := HL2.out.less rfl; simp; omega
                  | false => have := (HL2.out.still rfl).1; subst this; simp; omega
                case rel =>
                  refine ⟨ts2, m2, rfl, HL2.out.len.trans Htl.out, HT2.out, HL2.out.snd HSn.out, fun hm => ?_, HK2.out, Nat.le_refl _⟩
                  obtain ⟨e, h1, h2⟩ := HL2.out.still hm
                  rw [e]
                  exact still_of h1 fun l hl => h2 l (by rw [List.take_of_length_le (Nat.le_refl _)]; exact hl)
          | false =>
            have HSt := Lib.hid (hSt rfl)
            clear hSt
            go_wp2
            go_loopw [14] (fun iv wx => ∃ (j : Nat), j ≤ ts.length ∧ iv = .int .i64 j ∧ (∀ x ∈ ts.take j, x ≠ 0) ∧ wx = wr) (fun iv _ => ts.length - (intOf iv).toNat)
            case atStart => exact ⟨0, Nat.zero_le _, rfl, by simp, rfl⟩
            case round =>
              obtain ⟨j, hj, rfl, hnz, rfl⟩ := hrel
              have Hnz := Lib.hid hnz
              clear hnz
              by_cases hlt : j < ts.length
              · have hltv : j < vs.length := by have := Htl.out; omega
                have hvl := Hvl.out
                have hlt3 : (j : Int) < (vs.length : Int) := by omega
                have hj0 : (0 : Int) ≤ (j : Int) := by omega
                obtain ⟨x, hx⟩ : ∃ x, ts[j]? = some x := ⟨_, List.getElem?_eq_getElem hlt⟩
                have c0 := HTs.out.cell hx
                have hgl : B < wr.heap.size := HTs.out.row.2
                by_cases h0 : x = 0
                · subst h0
                  have Ha : Hid (RefT ds r [] 53) := Lib.hid (RefT.unk (ts := ts) HRt.out HCH.out (by rw [Hvs.out]; exact Htl.out) (by rw [Hvs.out]; exact HSn.out) (by rw [Hvs.out]; exact HSt.out) (List.mem_of_getElem? hx))
                  clear hx
                  go_wp2
                  go_ret2
                  exact rtypesR_nil Ha.out (HBk.out _ HKw.out)
                · have hb0 : (x == 0) = false := by simpa using h0
                  have Hst : Hid (∀ y ∈ ts.take (j + 1), y ≠ 0) := Lib.hid (takes_all (P := fun y : Int => y ≠ 0) hx Hnz.out h0)
                  clear hx
                  go_wp2
                  go_roundw
                  case rel => exact ⟨j + 1, hlt, by go_num, Hst.out, trivial⟩
                  case measure => simp [intOf]; omega
              · obtain rfl : j = ts.length := by omega
                have hlt3 : ¬ ((ts.length : Nat) : Int) < (vs.length : Int) := by have := Htl.out; omega
                have hn0 : 0 ∉ ts := fun h => Hnz.out 0 (by rw [List.take_of_length_le (Nat.le_refl _)]; exact h) rfl
                have Hn0 := Lib.hid hn0
                have HCF := Lib.hid (HFR.out wr ts HKw.out Htl.out HTs.out)
                obtain ⟨b, hb⟩ : ∃ b, fitsRB ds vs ts r = b := ⟨_, rfl⟩
                have Hb := Lib.hid hb
                rw [hb] at HCF
                clear hn0 hb
                go_wp2_with fail
                refine HCF.out.mono ?_
                rintro e9 w9 ⟨rfl, b9⟩
                have HB9 := Lib.hid ((HBk.out _ HKw.out).trans (b9.mono (HBk.out _ HKw.out).size))
                have HT9 := Lib.hid (HTs.out.kept b9)
                clear b9 HCF g0 g1 g2 g3
                cases b with
                | false =>
                  have Ha : Hid (RefT ds r [] 53) := Lib.hid (RefT.bad (ts := ts) HRt.out HCH.out (by rw [Hvs.out]; exact Htl.out) (by rw [Hvs.out]; exact HSn.out) (by rw [Hvs.out]; exact HSt.out) Hn0.out (by rw [Hvs.out, ← fitsRB_iff, Hb.out]; decide))
                  go_wp2
                  go_ret2
                  exact rtypesR_nil Ha.out HB9.out
                | true =>
                  have Ha : Hid (RefT ds r ts 0) := Lib.hid (RefT.good HRt.out HCH.out (by rw [Hvs.out]; exact Htl.out) (by rw [Hvs.out]; exact HSn.out) (by rw [Hvs.out]; exact HSt.out) Hn0.out (by rw [Hvs.out, ← fitsRB_iff, Hb.out]))
                  go_wp2
                  go_ret2
                  refine ⟨_, _, _, rfl, Ha.out, ?_, HB9.out⟩
                  have hO := HT9.out.own
                  rw [Htl.out] at hO
                  refine sl_row (l := ts) (f := Value.int .i64) (T := 3) (base := B) (by rw [Htl.out]; exact hO) (fun n hn => ⟨rfl, ?_⟩)
                  obtain ⟨i, hi'⟩ := List.mem_iff_getElem?.1 hn
                  have hil := (List.getElem?_eq_some_iff.1 hi').1
                  have := jR_12 HRt.out _ _ (HSn.out i (vs[i]'(by have := Htl.out; omega)) n (List.getElem?_eq_getElem (by have := Htl.out; omega)) hi' (fun e => Hn0.out (e ▸ hn)))
                  unfold I64
                  omega
      · have ec : (atE c == 0) = false := by rw [atE_zero]; simpa using hc0
        have ec2 : (atE c != 0) = true := by unfold bne; rw [ec]; rfl
        have Ha : Hid (RefT ds r [] (atE c)) := Lib.hid (by
          have h := chkK_stop (ds := ds) (r := r) (k := k) (by rw [HCk.out]; exact hc0)
          rw [HCk.out] at h
          have := RefT.atom HRt.out (by rw [h]; exact hc0)
          rwa [h] at this)
        by_cases hlt : k < r.body.length
        · have hlt3 : (k : Int) < (r.body.length : Int) := by omega
          go_wp2
          go_ret2
          exact rtypesR_nil Ha.out HBw.out
        · have hlt3 : ¬ (k : Int) < (r.body.length : Int) := by omega
          go_wp2
          go_ret2
          exact rtypesR_nil Ha.out HBw.out
end Go.Proofs.YtbpdfmpfnbdeoaaDoor
namespace Go.Proofs.YtbpdfmpfnbdeoaaDoor
open Go.RowKit

set_option maxRecDepth 100000 in
set_option maxHeartbeats 8000000 in
theorem dtypeTypes_c (v : Value) (ds : List De) (r : Ru) (e a b c d : Addr) (w : World) (cs : List Value) (hd : SlOf w w.heap.size 6 (DeC w w.heap.size) ds v) (hr : RuC w w.heap.size r cs) (E : EnvY e a b c d w) :
    Calls Tryd.prog 4 #[v, .agg cs.toArray] w fun e w' => e = .returned (.bool true) ∧ Below w.heap.size w w' := by
  have HR := Lib.hid hr
  have HD := Lib.hid hd
  have HE := Lib.hid E
  have hb0 : ∀ C : Obj, Below w.heap.size w (w.alloc C) := fun C => (Below.refl _ _).alloc (Nat.le_refl _) _
  have HB0 := Lib.hid hb0
  have HH := Lib.hid (fun (W : World) (hb : Below w.heap.size w W) => shown5_c e a b c d W (E.below hb))
  have HS := Lib.hid (fun (W : World) (hb : Below w.heap.size w W) => small5_c ds v r cs W (SlOf.decl hd hb hb.size) ((hr.below hb).more hb.size))
  obtain ⟨od, kd, rfl, _⟩ := SlOf.uni hd
  obtain ⟨p1, q1, r1, s1, rfl, _, _, H2⟩ := hr.look
  clear hd hr E H2 hb0
  go_enter Tryd.func4, Tryd.ntmps4
  go_wp2_with fail
  refine (HH.out _ (HB0.out _)).mono ?_
  rintro e1 w1 ⟨rfl, b1⟩
  have r1' : w1.heap[w.heap.size]? = some (.cells #[.string r.head.rel, .slice p1 r.head.l.length q1, .slice r1 r.body.length s1, .int .i64 r.line] 27 (0, 0)) := (b1.block _ (by simp)).trans (World.alloc_heap_new w _)
  have x0 := row_cells r1' 0
  have x1 := row_cells r1' 1
  have x2 := row_cells r1' 2
  have x3 := row_cells r1' 3
  simp at x0 x1 x2 x3
  have hz1 : w.heap.size < w1.heap.size := by have := b1.size; simp at this; omega
  have B1 := Lib.hid ((HB0.out _).trans (b1.mono (by simp)))
  clear b1
  go_wp2_with fail
  refine (HS.out _ B1.out).mono ?_
  rintro e2 w2 ⟨rfl, b2⟩
  have r2' := (b2.block _ hz1).trans r1'
  have B2 := Lib.hid (B1.out.trans (b2.mono B1.out.size))
  have R2 := Lib.hid r2'
  clear x0 x1 x2 x3 b2 r1' r2'
  cases hs : smallP ⟨ds, [r]⟩ with
  | false =>
    clear hs
    go_wp2
    go_ret
    exact ⟨rfl, B2.out⟩
  | true =>
  have HT := Lib.hid (small_terms hs r (List.mem_cons_self ..))
  clear hs
  have x0 := row_cells R2.out 0
  have x1 := row_cells R2.out 1
  have x2 := row_cells R2.out 2
  have x3 := row_cells R2.out 3
  simp at x0 x1 x2 x3
  have hz2 : w.heap.size < w2.heap.size := heap_lt R2.out
  have hfew : (termsR r).length ≤ 1000000 := Nat.le_trans HT.out.1 (by decide)
  have hsz : ∀ t ∈ termsR r, t.s.size ≤ 1000000 := fun t ht => Nat.le_trans (HT.out.2 t ht) (by decide)
  have HT1 := Lib.hid (types_c ds _ r _ e a b c d w2 (SlOf.decl HD.out B2.out B2.out.size) ((HR.out.below B2.out).more B2.out.size) hfew hsz (HE.out.below B2.out))
  have HT2 := Lib.hid (fun (W : World) (hb : Below w.heap.size w W) => rtypes_c ds _ r _ W (SlOf.decl HD.out hb hb.size) ((HR.out.below hb).more hb.size) hfew)
  clear hfew hsz
  go_wp2_with fail
  refine HT1.out.mono ?_
  rintro e3 w3 ⟨v3, l3, k3, rfl, hA3, hS3, b3⟩
  have B3 := Lib.hid (B2.out.trans (b3.mono B2.out.size))
  have r3 := (b3.block _ hz2).trans R2.out
  have R3 := Lib.hid r3
  have HA3 := Lib.hid hA3
  have HS3 := Lib.hid hS3
  obtain ⟨o3, c3, rfl, _⟩ := SlOf.uni hS3
  clear x0 x1 x2 x3 b3 hA3 hS3 HT1 r3
  have x0 := row_cells R3.out 0
  have x1 := row_cells R3.out 1
  have x2 := row_cells R3.out 2
  have x3 := row_cells R3.out 3
  simp at x0 x1 x2 x3
  have hz3 : w.heap.size < w3.heap.size := heap_lt R3.out
  have HTT := Lib.hid (HT2.out w3 B3.out)
  go_wp2_with fail
  refine HTT.out.mono ?_
  rintro e4 w4 ⟨v4, l4, k4, rfl, hA4, hS4, b4⟩
  obtain ⟨rfl, rfl⟩ := ref_same HA3.out hA4
  have B4 := Lib.hid (B3.out.trans (b4.mono B3.out.size))
  have HI := Lib.hid (sameInts_c l3 l3 _ _ w4 (SlOf.int HS3.out b4 b4.size) hS4)
  obtain ⟨o4, c4, rfl, _⟩ := SlOf.uni hS4
  rw [decide_eq_true rfl] at HI
  have hk : (k3 == k3) = true := by simp
  clear x0 x1 x2 x3 b4 hA4 hS4 HTT
  go_wp2_with fail
  refine HI.out.mono ?_
  rintro e5 w5 ⟨rfl, b5⟩
  go_wp2
  go_ret
  exact ⟨rfl, B4.out.trans (b5.mono B4.out.size)⟩
end Go.Proofs.YtbpdfmpfnbdeoaaDoor
