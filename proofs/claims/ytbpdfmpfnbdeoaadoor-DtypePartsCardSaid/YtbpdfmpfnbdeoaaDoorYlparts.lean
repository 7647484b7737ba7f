/- The law DtypeParts. -/
import Derived.Test.YtbpdfmpfnbdeoaaDoorYck
import Derived.Test.YtbpdfmpfnbdeoaaDoorYsh
import Derived.Deep.RegionHeld3
import Derived.Deep.Slices
namespace Go.Proofs.YtbpdfmpfnbdeoaaDoor
open Go.RowKit Go.Deep

theorem few_small {p : Pg} (h : smallP p = true) : FewP p := fun r hr => ⟨Nat.le_trans (small_terms h r hr).1 (by decide), fun t ht => Nat.le_trans ((small_terms h r hr).2 t ht) (by decide)⟩
theorem few_less {p : Pg} (h : FewP p) {l : List Ru} (hl : ∀ r ∈ l, r ∈ p.rules) : FewP ⟨p.decls, l⟩ := fun r hr => h r (hl r hr)
theorem heldP {W w1 : World} (b : Below W.heap.size W.drew w1) {n : Nat} {v0 v1 : Value} (hn : n < W.heap.size)
    (h : W.cell? ⟨n, 0, none⟩ = some v0 ∧ W.cell? ⟨n, 1, none⟩ = some v1) : w1.cell? ⟨n, 0, none⟩ = some v0 ∧ w1.cell? ⟨n, 1, none⟩ = some v1 :=
  ⟨(b.cell (p := ⟨n, 0, none⟩) hn).trans h.1, (b.cell (p := ⟨n, 1, none⟩) hn).trans h.2⟩
/-- A list's beginning, and one element alone. -/
theorem SlOf.take {α : Type} {w : World} {B z : Nat} {R : α → List Value → Prop} {l : List α} {a : Addr} {cap : Nat} (h : SlOf w B z R l (.slice (some a) l.length cap)) {i : Nat} (hi : i ≤ l.length) : SlOf w B z R (l.take i) (.slice (some a) i cap) := by
  rcases h with ⟨h, _⟩ | ⟨a', cap', e, h1, h2, h3, h4⟩
  · cases h
  · cases e
    refine .inr ⟨a, cap, by rw [List.length_take, Nat.min_eq_left hi], by rw [List.length_take]; omega, h2, fun hn => h3 (by rintro rfl; simp at hn), fun k x hx => ?_⟩
    rw [List.getElem?_take] at hx
    split at hx
    · exact h4 k x hx
    · cases hx
theorem SlOf.one {α : Type} {w : World} {B z : Nat} {R : α → List Value → Prop} {l : List α} {a : Addr} {cap : Nat} (h : SlOf w B z R l (.slice (some a) l.length cap)) {i : Nat} {x : α} (hi : l[i]? = some x) {c : Nat} (hc : 1 ≤ c) (hm : c ≤ maxLen) : SlOf w B z R [x] (.slice (some (a.add (i * z))) 1 c) := by
  rcases h with ⟨h, _⟩ | ⟨a', cap', e, h1, h2, h3, h4⟩
  · cases h
  · cases e
    have hl := (List.getElem?_eq_some_iff.1 hi).1
    refine .inr ⟨a.add (i * z), c, rfl, hc, hm, fun _ => by rw [addBlock]; exact h3 (by rintro rfl; simp at hl), fun k y hy => ?_⟩
    match k, hy with
    | 0, hy =>
      obtain rfl : x = y := by simpa using hy
      obtain ⟨cs, c1, c2, c3⟩ := h4 i x hi
      refine ⟨cs, c1, c2, fun j c hj => ?_⟩
      rw [Nat.zero_mul, Nat.zero_add, add_add]
      exact c3 j c hj
    | k + 1, hy => simp at hy

set_option maxRecDepth 100000 in
set_option maxHeartbeats 8000000 in
theorem dtypeParts_c (p : Pg) (i : Int) (e a b c d : Addr) (w : World) (cs : List Value) (hp : PgC w w.heap.size p cs) (_ : -9223372036854775808 ≤ i) (_ : i ≤ 9223372036854775807) (E : EnvY e a b c d w) :
    Calls Tryd.prog 7 #[.agg cs.toArray, .int .i64 i] w fun e w' => e = .returned (.bool true) ∧ Below w.heap.size w w' := by
  have HP := Lib.hid hp
  have HE := Lib.hid E
  have hb0 : ∀ C : Obj, Below w.heap.size w (w.alloc C) := fun C => (Below.refl _ _).alloc (Nat.le_refl _) _
  have HB0 := Lib.hid hb0
  have HH := Lib.hid (fun (W : World) (hb : Below w.heap.size w W) => shown5_c e a b c d W (E.below hb))
  have HS := Lib.hid (fun (W : World) (hb : Below w.heap.size w W) => small_c p W cs ((hp.below hb).more hb.size))
  obtain ⟨p1, q1, r1, s1, rfl, H1, H2⟩ := hp.look
  obtain ⟨o2, cap2, e2, hc2, hm2, _⟩ := SlOf.open H2
  cases e2
  have HD := Lib.hid H1
  have HRu := Lib.hid H2
  clear hp E H1 H2 hb0
  go_enter Tryd.func7, Tryd.ntmps7
  go_wp2_with fail
  refine (HH.out _ (HB0.out _)).mono ?_
  rintro e1 w1 ⟨rfl, b1⟩
  have x0 : w1.cell? ⟨w.heap.size, 0, none⟩ = some (.slice p1 p.decls.length q1) := (b1.cell (p := ⟨w.heap.size, 0, none⟩) (by simp)).trans (by go_simp)
  have x1 : w1.cell? ⟨w.heap.size, 1, none⟩ = some (.slice r1 p.rules.length s1) := (b1.cell (p := ⟨w.heap.size, 1, none⟩) (by simp)).trans (by go_simp)
  have hz1 : w.heap.size < w1.heap.size := by have := b1.size; simp at this; omega
  have B1 := Lib.hid ((HB0.out _).trans (b1.mono (by simp)))
  clear b1
  go_wp2_with fail
  refine (HS.out _ B1.out).mono ?_
  rintro e2 w2 ⟨rfl, b2⟩
  have y0 : w2.cell? ⟨w.heap.size, 0, none⟩ = some (.slice p1 p.decls.length q1) := (b2.cell (p := ⟨w.heap.size, 0, none⟩) hz1).trans x0
  have y1 : w2.cell? ⟨w.heap.size, 1, none⟩ = some (.slice r1 p.rules.length s1) := (b2.cell (p := ⟨w.heap.size, 1, none⟩) hz1).trans x1
  have hz2 : w.heap.size < w2.heap.size := by have := b2.size; omega
  have B2 := Lib.hid (B1.out.trans (b2.mono B1.out.size))
  clear x0 x1 b2
  unfold smallI
  cases hs : smallP p with
  | false =>
    clear hs
    go_wp2
    go_ret
    exact ⟨rfl, B2.out⟩
  | true =>
  have HFw := Lib.hid (few_small hs)
  clear hs
  by_cases h0 : i < 0
  · go_wp2
    go_ret
    exact ⟨rfl, B2.out⟩
  obtain ⟨n, rfl⟩ := Int.eq_ofNat_of_zero_le (show 0 ≤ i by omega)
  by_cases hn : n < p.rules.length
  · have hn' : ¬ ((p.rules.length : Int) ≤ (n : Int)) := by omega
    have hn2 : (n : Int) < (p.rules.length : Int) := by omega
    obtain ⟨xr, hxr⟩ : ∃ xr, p.rules[n]? = some xr := ⟨p.rules[n], List.getElem?_eq_getElem hn⟩
    have Hxr := Lib.hid hxr
    have HC := Lib.hid (fun (W : World) (hb : Below w2.heap.size w2 W) => check_c p _ e a b c d W ((HP.out.below (B2.out.trans (hb.mono B2.out.size))).more (by have := hb.size; have := B2.out.size; omega)) HFw.out (HE.out.below (B2.out.trans (hb.mono B2.out.size))))
    clear hxr
    go_wp2_with fail
    refine (HC.out _ (Below.refl _ _)).mono ?_
    rintro e3 w3 ⟨ln, ke, rfl, hA, b3⟩
    have z0 : w3.cell? ⟨w.heap.size, 0, none⟩ = some (.slice p1 p.decls.length q1) := (b3.cell (p := ⟨w.heap.size, 0, none⟩) hz2).trans y0
    have z1 : w3.cell? ⟨w.heap.size, 1, none⟩ = some (.slice r1 p.rules.length s1) := (b3.cell (p := ⟨w.heap.size, 1, none⟩) hz2).trans y1
    have hz3 : w.heap.size < w3.heap.size := by have := b3.size; omega
    have B3 := Lib.hid (B2.out.trans (b3.mono B2.out.size))
    have HA := Lib.hid hA
    clear y0 y1 b3 hA
    obtain ⟨ra, rfl⟩ : ∃ ra, r1 = some ra := by
      rcases HRu.out with ⟨h, h2⟩ | ⟨a, cap, h, _⟩
      · rw [h2] at hn; simp at hn
      · cases h; exact ⟨a, rfl⟩
    have hn3 : (n : Int) ≤ (s1 : Int) := by omega
    have hn4 : (n : Int) + 1 ≤ (s1 : Int) := by omega
    have hn5 : (0 : Int) ≤ (n : Int) := by omega
    have hn6 : (n : Int) ≤ (n : Int) + 1 := by omega
    have hn7 : (0 : Int) ≤ (n : Int) + 1 := by omega
    have hn8 : ¬ s1 = n := by omega
    have hw1 : IntKind.i64.wrap ((n : Int) + 1) = (n : Int) + 1 := IntWalk.i64_in _ (by omega)
    have hx0 := And.intro z0 z1
    go_wp2_with fail
    have HC2 := Lib.hid (fun (W : World) (hb : Below w3.heap.size w3 W) => check_c ⟨p.decls, p.rules.take n⟩ [.slice p1 p.decls.length q1, .slice (some ra) n s1] e a b c d W ⟨_, _, rfl, SlOf.decl HD.out (B3.out.trans (hb.mono B3.out.size)) (by have := hb.size; have := B3.out.size; omega), (SlOf.rule HRu.out (B3.out.trans (hb.mono B3.out.size)) (by have := hb.size; have := B3.out.size; omega)).take (by omega)⟩ (few_less HFw.out (fun r hr => List.mem_of_mem_take hr)) (HE.out.below (B3.out.trans (hb.mono B3.out.size))))
    go_region_held3 (fun w' => w'.cell? ⟨w.heap.size, 0, none⟩ = some (.slice p1 p.decls.length q1) ∧ w'.cell? ⟨w.heap.size, 1, none⟩ = some (.slice (some ra) p.rules.length s1)) (first | exact hx0 | exact hk) ((go_at_call 23; refine (HC2.out _ ((Below.refl _ _).drew)).mono ?_; rintro e4 w4 ⟨ln4, k4, rfl, hA4, b4⟩; have hk := heldP b4 hz3 hx0))
    have hz4 : w.heap.size < w4.heap.size := by have := b4.size; have e : w3.drew.heap.size = w3.heap.size := rfl; omega
    have B4 := Lib.hid (B3.out.trans ((drewB b4).mono B3.out.size))
    have HA4 := Lib.hid hA4
    clear hx0 z0 z1 b4 hA4
    go_wp2_with fail
    have HC3 := Lib.hid (fun (W : World) (hb : Below w4.heap.size w4 W) => check_c ⟨p.decls, [xr]⟩ [.slice p1 p.decls.length q1, .slice (some (ra.add (n * 4))) 1 (s1 - n)] e a b c d W ⟨_, _, rfl, SlOf.decl HD.out (B4.out.trans (hb.mono B4.out.size)) (by have := hb.size; have := B4.out.size; omega), (SlOf.rule HRu.out (B4.out.trans (hb.mono B4.out.size)) (by have := hb.size; have := B4.out.size; omega)).one Hxr.out (by omega) (by unfold maxLen; omega)⟩ (few_less HFw.out (fun r hr => by rw [List.mem_singleton.1 hr]; exact List.mem_of_getElem? Hxr.out)) (HE.out.below (B4.out.trans (hb.mono B4.out.size))))
    go_region_held3 (fun w' => w'.cell? ⟨w.heap.size, 0, none⟩ = some (.slice p1 p.decls.length q1) ∧ w'.cell? ⟨w.heap.size, 1, none⟩ = some (.slice (some ra) p.rules.length s1)) (first | exact hk | exact hk5) ((go_at_call 23; refine (HC3.out _ ((Below.refl _ _).drew)).mono ?_; rintro e5 w5 ⟨ln5, k5, rfl, hA5, b5⟩; have hk5 := heldP b5 hz4 hk))
    have B5 := Lib.hid (B4.out.trans ((drewB b5).mono B4.out.size))
    obtain ⟨m1, m2⟩ := cha_parts Hxr.out HA.out HA4.out hA5
    clear hk hk5 b5 hA5
    by_cases he : ke = 0
    · obtain ⟨rfl, rfl⟩ := m1 he
      subst he
      go_wp2
      go_ret
      exact ⟨rfl, B5.out⟩
    · have hor := m2 he
      have he' : (ke == 0) = false := by simpa using he
      by_cases h4 : k4 = 0
      · subst h4
        go_wp2
        go_ret
        exact ⟨rfl, B5.out⟩
      · have h4' : (k4 == 0) = false := by simpa using h4
        by_cases h30 : ke = 30
        · subst h30
          go_wp2
          go_ret
          exact ⟨rfl, B5.out⟩
        · have h30' : (ke == 30) = false := by simpa using h30
          obtain rfl : k4 = ke := by omega
          go_wp2
          go_ret
          exact ⟨rfl, B5.out⟩
  · have hn' : (p.rules.length : Int) ≤ (n : Int) := by omega
    go_wp2
    go_ret
    exact ⟨rfl, B2.out⟩
end Go.Proofs.YtbpdfmpfnbdeoaaDoor
