/- dtree.Right, RightRule. -/
import Derived.Test.YtbpdfmpfnbdeoaaDoorTchk2
import Derived.Deep.RegionHeld3
namespace Go.Proofs.YtbpdfmpfnbdeoaaDoor
open Go.RowKit

theorem heldBrightRule_c {W w1 : World} (b : Below W.heap.size W.drew w1) {n g : Nat} {v0 v1 v2 v3 v4 : Value} (hn : n < W.heap.size) (hg : g < W.heap.size)
    (h : W.cell? ⟨n, 0, none⟩ = some v0 ∧ W.cell? ⟨n, 1, none⟩ = some v1 ∧ W.cell? ⟨n, 2, none⟩ = some v2 ∧ W.cell? ⟨n, 3, none⟩ = some v3 ∧ W.cell? ⟨g, 0, none⟩ = some v4) : w1.cell? ⟨n, 0, none⟩ = some v0 ∧ w1.cell? ⟨n, 1, none⟩ = some v1 ∧ w1.cell? ⟨n, 2, none⟩ = some v2 ∧ w1.cell? ⟨n, 3, none⟩ = some v3 ∧ w1.cell? ⟨g, 0, none⟩ = some v4 := by
  obtain ⟨h0, h1, h2, h3, h4⟩ := h
  exact ⟨(b.cell (p := ⟨n, 0, none⟩) hn).trans h0, (b.cell (p := ⟨n, 1, none⟩) hn).trans h1, (b.cell (p := ⟨n, 2, none⟩) hn).trans h2, (b.cell (p := ⟨n, 3, none⟩) hn).trans h3, (b.cell (p := ⟨g, 0, none⟩) hg).trans h4⟩

set_option maxRecDepth 100000 in
set_option maxHeartbeats 4000000 in
theorem rightRule_c (t : Ru) (a : Addr) (w : World) (cs : List Value) (hc : RuC w w.heap.size t cs) (E : TErr a w) :
    Calls Tryd.prog 35 #[.agg cs.toArray] w fun e w' => e = .returned (.bool (rightR t)) ∧ Below w.heap.size w w' := by
  have HC0 := fun (W : World) (hb : Below w.heap.size w W) => checkRule_c t a W cs ((hc.below hb).more hb.size) (E.below hb)
  obtain ⟨o0, k0, o1, k1, rfl, _, _, _⟩ := hc.look
  have HC := Lib.hid HC0
  have herr := E.err
  have hgs := E.size
  have HE := Lib.hid E
  clear E
  clear hc HC0
  have HB0 : Hid (∀ (x : Obj), Below w.heap.size w (w.alloc x)) := Lib.hid fun x => (Below.refl _ _).alloc (Nat.le_refl _) _
  have x0 : (w.alloc (.cells #[.string t.head.rel, .slice o0 t.head.l.length k0, .slice o1 t.body.length k1, .int .i64 t.line] 27)).cell? ⟨w.heap.size, 0, none⟩ = some (.string t.head.rel) := by go_simp
  have x1 : (w.alloc (.cells #[.string t.head.rel, .slice o0 t.head.l.length k0, .slice o1 t.body.length k1, .int .i64 t.line] 27)).cell? ⟨w.heap.size, 1, none⟩ = some (.slice o0 t.head.l.length k0) := by go_simp
  have x2 : (w.alloc (.cells #[.string t.head.rel, .slice o0 t.head.l.length k0, .slice o1 t.body.length k1, .int .i64 t.line] 27)).cell? ⟨w.heap.size, 2, none⟩ = some (.slice o1 t.body.length k1) := by go_simp
  have x3 : (w.alloc (.cells #[.string t.head.rel, .slice o0 t.head.l.length k0, .slice o1 t.body.length k1, .int .i64 t.line] 27)).cell? ⟨w.heap.size, 3, none⟩ = some (.int .i64 t.line) := by go_simp
  have xe : (w.alloc (.cells #[.string t.head.rel, .slice o0 t.head.l.length k0, .slice o1 t.body.length k1, .int .i64 t.line] 27)).cell? ⟨0, 0, none⟩ = some (.iface 193 (.pointer (some a))) := (HE.out.below (HB0.out _)).err
  have hgs2 : 0 < (w.alloc (.cells #[.string t.head.rel, .slice o0 t.head.l.length k0, .slice o1 t.body.length k1, .int .i64 t.line] 27)).heap.size := by first | (simp; omega) | simp
  cases hr : rightR t with
  | true =>
    rw [hr, okV_t] at HC
    go_enter Tryd.func35, Tryd.ntmps35
    go_wp2
    go_region_held3 (fun w' => w'.cell? ⟨w.heap.size, 0, none⟩ = some (.string t.head.rel) ∧ w'.cell? ⟨w.heap.size, 1, none⟩ = some (.slice o0 t.head.l.length k0) ∧ w'.cell? ⟨w.heap.size, 2, none⟩ = some (.slice o1 t.body.length k1) ∧ w'.cell? ⟨w.heap.size, 3, none⟩ = some (.int .i64 t.line) ∧ w'.cell? ⟨0, 0, none⟩ = some (.iface 193 (.pointer (some a)))) (first | exact ⟨x0, x1, x2, x3, xe⟩ | exact hk) (first | (go_at_call 60; refine (HC.out _ ((HB0.out _).drew)).mono ?_; rintro e w1 ⟨rfl, b1⟩; have hk := heldBrightRule_c b1 (by simp) hgs2 ⟨x0, x1, x2, x3, xe⟩) | (go_at_call 59; refine (is_nil _ _).mono ?_; rintro e w' ⟨rfl, rfl⟩))
    go_wp2
    go_ret
    exact ⟨rfl, (HB0.out _).trans (((Below.refl _ _).drew).trans (b1.mono (by simp)))⟩
  | false =>
    rw [hr, okV_f] at HC
    go_enter Tryd.func35, Tryd.ntmps35
    go_wp2
    go_region_held3 (fun w' => w'.cell? ⟨w.heap.size, 0, none⟩ = some (.string t.head.rel) ∧ w'.cell? ⟨w.heap.size, 1, none⟩ = some (.slice o0 t.head.l.length k0) ∧ w'.cell? ⟨w.heap.size, 2, none⟩ = some (.slice o1 t.body.length k1) ∧ w'.cell? ⟨w.heap.size, 3, none⟩ = some (.int .i64 t.line) ∧ w'.cell? ⟨0, 0, none⟩ = some (.iface 193 (.pointer (some a)))) (first | exact ⟨x0, x1, x2, x3, xe⟩ | exact hk) (first | (go_at_call 60; refine (HC.out _ ((HB0.out _).drew)).mono ?_; rintro e w1 ⟨rfl, b1⟩; have hk := heldBrightRule_c b1 (by simp) hgs2 ⟨x0, x1, x2, x3, xe⟩) | (go_at_call 59; refine (is_same _ _).mono ?_; rintro e w' ⟨rfl, rfl⟩))
    go_wp2
    go_ret
    exact ⟨rfl, (HB0.out _).trans (((Below.refl _ _).drew).trans (b1.mono (by simp)))⟩

theorem heldBright_c {W w1 : World} (b : Below W.heap.size W.drew w1) {n g : Nat} {v0 v1 v2 : Value} (hn : n < W.heap.size) (hg : g < W.heap.size)
    (h : W.cell? ⟨n, 0, none⟩ = some v0 ∧ W.cell? ⟨n, 1, none⟩ = some v1 ∧ W.cell? ⟨g, 0, none⟩ = some v2) : w1.cell? ⟨n, 0, none⟩ = some v0 ∧ w1.cell? ⟨n, 1, none⟩ = some v1 ∧ w1.cell? ⟨g, 0, none⟩ = some v2 := by
  obtain ⟨h0, h1, h2⟩ := h
  exact ⟨(b.cell (p := ⟨n, 0, none⟩) hn).trans h0, (b.cell (p := ⟨n, 1, none⟩) hn).trans h1, (b.cell (p := ⟨g, 0, none⟩) hg).trans h2⟩

set_option maxRecDepth 100000 in
set_option maxHeartbeats 4000000 in
theorem right_c (t : Pg) (a : Addr) (w : World) (cs : List Value) (hc : PgC w w.heap.size t cs) (E : TErr a w) :
    Calls Tryd.prog 41 #[.agg cs.toArray] w fun e w' => e = .returned (.bool (rightP t)) ∧ Below w.heap.size w w' := by
  have HC0 := fun (W : World) (hb : Below w.heap.size w W) => checkProg_c t a W cs ((hc.below hb).more hb.size) (E.below hb)
  obtain ⟨o0, k0, o1, k1, rfl, _, _⟩ := hc.look
  have HC := Lib.hid HC0
  have herr := E.err
  have hgs := E.size
  have HE := Lib.hid E
  clear E
  clear hc HC0
  have HB0 : Hid (∀ (x : Obj), Below w.heap.size w (w.alloc x)) := Lib.hid fun x => (Below.refl _ _).alloc (Nat.le_refl _) _
  have x0 : (w.alloc (.cells #[.slice o0 t.decls.length k0, .slice o1 t.rules.length k1] 51)).cell? ⟨w.heap.size, 0, none⟩ = some (.slice o0 t.decls.length k0) := by go_simp
  have x1 : (w.alloc (.cells #[.slice o0 t.decls.length k0, .slice o1 t.rules.length k1] 51)).cell? ⟨w.heap.size, 1, none⟩ = some (.slice o1 t.rules.length k1) := by go_simp
  have xe : (w.alloc (.cells #[.slice o0 t.decls.length k0, .slice o1 t.rules.length k1] 51)).cell? ⟨0, 0, none⟩ = some (.iface 193 (.pointer (some a))) := (HE.out.below (HB0.out _)).err
  have hgs2 : 0 < (w.alloc (.cells #[.slice o0 t.decls.length k0, .slice o1 t.rules.length k1] 51)).heap.size := by first | (simp; omega) | simp
  cases hr : rightP t with
  | true =>
    rw [hr, okV_t] at HC
    go_enter Tryd.func41, Tryd.ntmps41
    go_wp2
    go_region_held3 (fun w' => w'.cell? ⟨w.heap.size, 0, none⟩ = some (.slice o0 t.decls.length k0) ∧ w'.cell? ⟨w.heap.size, 1, none⟩ = some (.slice o1 t.rules.length k1) ∧ w'.cell? ⟨0, 0, none⟩ = some (.iface 193 (.pointer (some a)))) (first | exact ⟨x0, x1, xe⟩ | exact hk) (first | (go_at_call 67; refine (HC.out _ ((HB0.out _).drew)).mono ?_; rintro e w1 ⟨rfl, b1⟩; have hk := heldBright_c b1 (by simp) hgs2 ⟨x0, x1, xe⟩) | (go_at_call 59; refine (is_nil _ _).mono ?_; rintro e w' ⟨rfl, rfl⟩))
    go_wp2
    go_ret
    exact ⟨rfl, (HB0.out _).trans (((Below.refl _ _).drew).trans (b1.mono (by simp)))⟩
  | false =>
    rw [hr, okV_f] at HC
    go_enter Tryd.func41, Tryd.ntmps41
    go_wp2
    go_region_held3 (fun w' => w'.cell? ⟨w.heap.size, 0, none⟩ = some (.slice o0 t.decls.length k0) ∧ w'.cell? ⟨w.heap.size, 1, none⟩ = some (.slice o1 t.rules.length k1) ∧ w'.cell? ⟨0, 0, none⟩ = some (.iface 193 (.pointer (some a)))) (first | exact ⟨x0, x1, xe⟩ | exact hk) (first | (go_at_call 67; refine (HC.out _ ((HB0.out _).drew)).mono ?_; rintro e w1 ⟨rfl, b1⟩; have hk := heldBright_c b1 (by simp) hgs2 ⟨x0, x1, xe⟩) | (go_at_call 59; refine (is_same _ _).mono ?_; rintro e w' ⟨rfl, rfl⟩))
    go_wp2
    go_ret
    exact ⟨rfl, (HB0.out _).trans (((Below.refl _ _).drew).trans (b1.mono (by simp)))⟩

end Go.Proofs.YtbpdfmpfnbdeoaaDoor
