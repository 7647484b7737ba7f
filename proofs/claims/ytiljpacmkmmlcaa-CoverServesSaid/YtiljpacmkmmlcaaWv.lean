/- soriteslaw12.shown. -/
import Derived.Test.YtiljpacmkmmlcaaWr
import Derived.Test.YtiljpacmkmmlcaaWu
set_option linter.unusedSimpArgs false
set_option linter.unusedVariables false
namespace Go.Proofs.Ytiljpacmkmmlcaa
open Go.RowKit

theorem ints_row {W : World} {b N : Nat} {T : TypeId} {l : List Int} (h : W.heap[b]? = some (.cells (ivL l).toArray T (0, 0))) (hb : b < N) (hI : ∀ n ∈ l, I64 n) (hl : l.length ≤ 1000) : SlOf W N 1 IntC l (.slice (some ⟨b, 0, none⟩) l.length l.length) := by
  refine .inr ⟨⟨b, 0, none⟩, l.length, rfl, Nat.le_refl _, by unfold maxLen; omega, fun _ => hb, fun i x hi => ⟨[.int .i64 x], rfl, ⟨rfl, hI x (List.mem_of_getElem? hi)⟩, fun j c hj => ?_⟩⟩
  cases j with
  | succ j => simp at hj
  | zero =>
    have e : Value.int .i64 x = c := by simpa using hj
    subst e
    rw [Nat.mul_one, Nat.add_zero, add_none, Nat.zero_add]
    exact (row_cellsC h i).trans (by rw [List.getElem?_toArray]; exact ivL_at hi)
theorem sets_row {W : World} {b N : Nat} {T : TypeId} {ls : List (List Int)} {vs : List Value} (h : W.heap[b]? = some (.cells vs.toArray T (0, 0))) (hb : b < N) (hl : ls.length ≤ 1000) (hv : ∀ (i : Nat) (l : List Int), ls[i]? = some l → ∃ v, vs[i]? = some v ∧ SlOf W N 1 IntC l v) : SetsS W N ls (.slice (some ⟨b, 0, none⟩) ls.length ls.length) := by
  refine .inr ⟨⟨b, 0, none⟩, ls.length, rfl, Nat.le_refl _, by unfold maxLen; omega, fun _ => hb, fun i x hi => ?_⟩
  obtain ⟨v, h1, h2⟩ := hv i x hi
  refine ⟨[v], rfl, ⟨v, rfl, h2⟩, fun j c hj => ?_⟩
  cases j with
  | succ j => simp at hj
  | zero =>
    have e : v = c := by simpa using hj
    subst e
    rw [Nat.mul_one, Nat.add_zero, add_none, Nat.zero_add]
    exact (row_cellsC h i).trans (by rw [List.getElem?_toArray]; exact h1)
theorem least3a : LeastN 3 (RS [[0], [0, 1], [0, 1, 2]]) 1 := by
  refine least_chain (by decide) (fun i j hi hj hne => ?_) (fun i => RS.irr i)
  have : ∀ i j : Fin 3, i ≠ j → insideL ([[0], [0, 1], [0, 1, 2]].getD i []) ([[0], [0, 1], [0, 1, 2]].getD j []) = true ∨ insideL ([[0], [0, 1], [0, 1, 2]].getD j []) ([[0], [0, 1], [0, 1, 2]].getD i []) = true := by decide
  exact this ⟨i, hi⟩ ⟨j, hj⟩ (fun e => hne (by simpa using congrArg Fin.val e))
theorem least3b : LeastN 3 (RS [[0], [1], [0, 1]]) 2 := by
  refine ⟨⟨[0, 1], by decide, by decide, ?_, rfl⟩, fun i => if i = 1 then 1 else 0, fun i _ => by show (if i = 1 then 1 else 0) < 2; split <;> omega, fun i j hi hj hne e => ?_⟩
  · intro x hx y hy
    have : ∀ x ∈ [0, 1], ∀ y ∈ [0, 1], insideL ([[0], [1], [0, 1]].getD x []) ([[0], [1], [0, 1]].getD y []) = false := by decide
    intro h
    unfold RS at h
    rw [this x hx y hy] at h
    cases h
  · have : ∀ i j : Fin 3, i ≠ j → (if i.val = 1 then 1 else 0) = (if j.val = 1 then 1 else 0) → insideL ([[0], [1], [0, 1]].getD i []) ([[0], [1], [0, 1]].getD j []) = true ∨ insideL ([[0], [1], [0, 1]].getD j []) ([[0], [1], [0, 1]].getD i []) = true := by decide
    exact this ⟨i, hi⟩ ⟨j, hj⟩ (fun e => hne (by simpa using congrArg Fin.val e)) e
theorem least3c : LeastN 2 (RS [[1], [1, 2]]) 1 := by
  refine least_chain (by decide) (fun i j hi hj hne => ?_) (fun i => RS.irr i)
  have : ∀ i j : Fin 2, i ≠ j → insideL ([[1], [1, 2]].getD i []) ([[1], [1, 2]].getD j []) = true ∨ insideL ([[1], [1, 2]].getD j []) ([[1], [1, 2]].getD i []) = true := by decide
  exact this ⟨i, hi⟩ ⟨j, hj⟩ (fun e => hne (by simpa using congrArg Fin.val e))
theorem leastR_of {c : Int} {l : List (List Int)} {e : Ending} {n : Nat} (h : LeastR c l e) (hr : rightS c l = true) (h0 : l ≠ []) (hn : LeastN l.length (RS l) n) : e = .returned (.tuple #[.int .i64 (n : Int), .int .i64 0]) := by
  rcases h with ⟨h1, _⟩ | ⟨m, _, he, h2⟩
  · rw [hr] at h1; cases h1
  · rcases h2 with ⟨h2, _⟩ | ⟨_, h2⟩
    · exact absurd h2 h0
    · rw [he, least_one h2 hn]
theorem built2 {w W : World} {n0 : Nat} {a b c : List Int} {T1 T2 : TypeId} (hn : w.heap.size = n0) (hW : W = (((w.alloc (.cells (ivL a).toArray T1)).alloc (.cells (ivL b).toArray T1)).alloc (.cells (ivL c).toArray T1)).alloc (.cells #[.slice (some ⟨n0, 0, none⟩) a.length a.length, .slice (some ⟨n0 + 1, 0, none⟩) b.length b.length, .slice (some ⟨n0 + 1 + 1, 0, none⟩) c.length c.length] T2))
    (ha : ∀ n ∈ a, I64 n) (hb : ∀ n ∈ b, I64 n) (hc : ∀ n ∈ c, I64 n) (la : a.length ≤ 1000) (lb : b.length ≤ 1000) (lc : c.length ≤ 1000) : SetsS W W.heap.size [a, b, c] (.slice (some ⟨n0 + 1 + 1 + 1, 0, none⟩) 3 3) ∧ Below w.heap.size w W := by
  have hs : W.heap.size = n0 + 4 := by rw [hW]; simp; omega
  have h1 : W.heap[n0]? = some (.cells (ivL a).toArray T1 (0, 0)) := by rw [hW]; exact row_more (row_more (row_more (newRow hn) _) _) _
  have h2 : W.heap[n0 + 1]? = some (.cells (ivL b).toArray T1 (0, 0)) := by rw [hW]; exact row_more (row_more (newRow (by simp; omega)) _) _
  have h3 : W.heap[n0 + 1 + 1]? = some (.cells (ivL c).toArray T1 (0, 0)) := by rw [hW]; exact row_more (newRow (by simp; omega)) _
  have h4 : W.heap[n0 + 1 + 1 + 1]? = some (.cells [Value.slice (some ⟨n0, 0, none⟩) a.length a.length, .slice (some ⟨n0 + 1, 0, none⟩) b.length b.length, .slice (some ⟨n0 + 1 + 1, 0, none⟩) c.length c.length].toArray T2 (0, 0)) := by rw [hW]; exact newRow (by simp; omega)
  refine ⟨sets_row (ls := [a, b, c]) h4 (by omega) (by simp) fun i l hi => ?_, by rw [hW]; exact ((((Below.refl _ w).alloc (Nat.le_refl _) _).alloc (by simp) _).alloc (by simp <;> omega) _).alloc (by simp <;> omega) _⟩
  match i with
  | 0 =>
    have e : a = l := by simpa using hi
    subst e
    exact ⟨_, rfl, ints_row h1 (by omega) ha la⟩
  | 1 =>
    have e : b = l := by simpa using hi
    subst e
    exact ⟨_, rfl, ints_row h2 (by omega) hb lb⟩
  | 2 =>
    have e : c = l := by simpa using hi
    subst e
    exact ⟨_, rfl, ints_row h3 (by omega) hc lc⟩
  | i + 3 => simp at hi
theorem built1 {w W : World} {n0 : Nat} {a b : List Int} {T1 T2 : TypeId} (hn : w.heap.size = n0) (hW : W = ((w.alloc (.cells (ivL a).toArray T1)).alloc (.cells (ivL b).toArray T1)).alloc (.cells #[.slice (some ⟨n0, 0, none⟩) a.length a.length, .slice (some ⟨n0 + 1, 0, none⟩) b.length b.length] T2))
    (ha : ∀ n ∈ a, I64 n) (hb : ∀ n ∈ b, I64 n) (la : a.length ≤ 1000) (lb : b.length ≤ 1000) : SetsS W W.heap.size [a, b] (.slice (some ⟨n0 + 1 + 1, 0, none⟩) 2 2) ∧ Below w.heap.size w W := by
  have hs : W.heap.size = n0 + 3 := by rw [hW]; simp; omega
  have h1 : W.heap[n0]? = some (.cells (ivL a).toArray T1 (0, 0)) := by rw [hW]; exact row_more (row_more (newRow hn) _) _
  have h2 : W.heap[n0 + 1]? = some (.cells (ivL b).toArray T1 (0, 0)) := by rw [hW]; exact row_more (newRow (by simp; omega)) _
  have h4 : W.heap[n0 + 1 + 1]? = some (.cells [Value.slice (some ⟨n0, 0, none⟩) a.length a.length, .slice (some ⟨n0 + 1, 0, none⟩) b.length b.length].toArray T2 (0, 0)) := by rw [hW]; exact newRow (by simp; omega)
  refine ⟨sets_row (ls := [a, b]) h4 (by omega) (by simp) fun i l hi => ?_, by rw [hW]; exact (((Below.refl _ w).alloc (Nat.le_refl _) _).alloc (by simp) _).alloc (by simp <;> omega) _⟩
  match i with
  | 0 =>
    have e : a = l := by simpa using hi
    subst e
    exact ⟨_, rfl, ints_row h1 (by omega) ha la⟩
  | 1 =>
    have e : b = l := by simpa using hi
    subst e
    exact ⟨_, rfl, ints_row h2 (by omega) hb lb⟩
  | i + 2 => simp at hi
theorem i64s {l : List Int} (h : (l.all fun n => decide (-100 ≤ n) && decide (n ≤ 100)) = true) : ∀ n ∈ l, I64 n := fun n hn => by
  have := List.all_eq_true.1 h n hn
  simp at this
  unfold I64
  omega
/-- The orders of {1}, {1, 2}: one, of three columns, 1 ahead. -/
theorem shown_one {e : Ending} {W : World} (h : OrdersR 3 [[1], [1, 2]] e W) : ∃ (r : Value) (o : List Int), e = .returned (.tuple #[r, .int .i64 0]) ∧ SetsS W W.heap.size [o] r ∧ o.length = 3 ∧ o[0]? = some 1 := by
  rcases h with ⟨h1, _⟩ | ⟨r, os, _, he, hs, hn, hw, hv⟩
  · exact absurd h1 (by decide)
  · have h1 : os.length = 1 := by
      rcases hn with ⟨h2, _⟩ | ⟨_, h2⟩
      · cases h2
      · exact least_one h2 least3c
    obtain ⟨o, rfl⟩ : ∃ o, os = [o] := by
      match os, h1 with
      | [o], _ => exact ⟨o, rfl⟩
    have hwo : o.length = 3 := by
      unfold wholeL wholeO at hw
      simp at hw
      exact hw.1
    refine ⟨r, o, he, hs, hwo, ?_⟩
    obtain ⟨o', ho', hsv⟩ := hv [1] (by simp)
    rw [List.mem_singleton.1 ho'] at hsv
    match o, hwo with
    | [x, y, z], _ =>
      unfold servesL at hsv
      simp only [Bool.and_eq_true, within_iff] at hsv
      have := hsv.2.1 x (by simp)
      have hx : x = 1 := by simpa using this
      rw [hx]
      rfl
set_option maxRecDepth 100000 in
set_option maxHeartbeats 8000000 in
theorem shown12_c (w : World) : Calls Try.prog 9 #[] w fun e w' => e = .returned (.bool true) ∧ Below w.heap.size w w' := by
  have HL := Lib.hid (fun (l : List (List Int)) (v : Value) (W : World) => least_c 3 l v W)
  have HO := Lib.hid (fun (l : List (List Int)) (v : Value) (W : World) => orders_c 3 l v W)
  go_enter Try.func9, Try.ntmps9
  go_wp2_with fail
  have HA := Lib.hid (built2 (w := w) (n0 := w.heap.size) (a := [0]) (b := [0, 1]) (c := [0, 1, 2]) (T1 := 3) (T2 := 23) rfl rfl (i64s rfl) (i64s rfl) (i64s rfl) (by decide) (by decide) (by decide))
  refine (HL.out [[0], [0, 1], [0, 1, 2]] _ _ HA.out.1).mono ?_
  rintro e w1 ⟨hR, hb⟩
  obtain rfl := leastR_of hR (by decide) (by simp) least3a
  have HB1 := Lib.hid (HA.out.2.trans (hb.mono HA.out.2.size))
  clear hR hb HA
  go_wp2_with fail
  have HA := Lib.hid (built2 (w := w1) (n0 := w1.heap.size) (a := [0]) (b := [1]) (c := [0, 1]) (T1 := 3) (T2 := 23) rfl rfl (i64s rfl) (i64s rfl) (i64s rfl) (by decide) (by decide) (by decide))
  refine (HL.out [[0], [1], [0, 1]] _ _ HA.out.1).mono ?_
  rintro e w2 ⟨hR, hb⟩
  obtain rfl := leastR_of hR (by decide) (by simp) least3b
  have HB2 := Lib.hid (HB1.out.trans ((HA.out.2.trans (hb.mono HA.out.2.size)).mono HB1.out.size))
  clear hR hb HA
  go_wp2_with fail
  have HA := Lib.hid (built1 (w := w2) (n0 := w2.heap.size) (a := [1]) (b := [1, 2]) (T1 := 3) (T2 := 23) rfl rfl (i64s rfl) (i64s rfl) (by decide) (by decide))
  refine (HO.out [[1], [1, 2]] _ _ HA.out.1).mono ?_
  rintro e w3 ⟨hR, hb⟩
  obtain ⟨r, o, rfl, hs, hl3, h01⟩ := shown_one hR
  have HB3 := Lib.hid (HB2.out.trans ((HA.out.2.trans (hb.mono HA.out.2.size)).mono HB2.out.size))
  clear hR hb HA
  obtain ⟨o1, cap1, rfl, hc1, hm1, S1⟩ := SlOf.open hs
  obtain ⟨a, o3, c3, rfl, ha, hX, c0⟩ := set_at S1 (Below.refl _ _) (show ([o] : List (List Int))[0]? = some o from rfl)
  obtain ⟨o4, c4, e4, hc4, hm4, S4⟩ := SlOf.open hX
  cases e4
  obtain ⟨a4, rfl, ha4, _, d0⟩ := int_at S4 (Below.refl _ _) h01
  have hadd : ∀ (x : Addr), x.add 0 = x := fun x => by unfold Addr.add; simp
  rw [hadd] at c0 d0
  have el : (([o] : List (List Int)).length) = 1 := rfl
  rw [hl3] at c0 hc4
  rw [el] at hc1
  clear hX hs h01 S1 S4
  go_wp2_with fail
  have HI : Hid (SlOf ((w3.alloc (.cells (ivL [2, 0, 1]).toArray 3)).alloc (.cells (ivL [0, 2]).toArray 3)) ((w3.alloc (.cells (ivL [2, 0, 1]).toArray 3)).alloc (.cells (ivL [0, 2]).toArray 3)).heap.size 1 IntC [2, 0, 1] (.slice (some ⟨w3.heap.size, 0, none⟩) 3 3) ∧ SlOf ((w3.alloc (.cells (ivL [2, 0, 1]).toArray 3)).alloc (.cells (ivL [0, 2]).toArray 3)) ((w3.alloc (.cells (ivL [2, 0, 1]).toArray 3)).alloc (.cells (ivL [0, 2]).toArray 3)).heap.size 1 IntC [0, 2] (.slice (some ⟨w3.heap.size + 1, 0, none⟩) 2 2)) := Lib.hid
    ⟨ints_row (l := [2, 0, 1]) (T := 3) (row_more (newRow rfl) _) (by simp <;> omega) (i64s rfl) (by decide), ints_row (l := [0, 2]) (T := 3) (newRow (by simp)) (by simp) (i64s rfl) (by decide)⟩
  refine (serves_c [2, 0, 1] [0, 2] _ _ _ (by decide) HI.out.1 HI.out.2).mono ?_
  rintro e w4 ⟨rfl, hb4⟩
  have HB4 : Hid (Below w.heap.size w ((w3.alloc (.cells (ivL [2, 0, 1]).toArray 3)).alloc (.cells (ivL [0, 2]).toArray 3))) := Lib.hid (HB3.out.trans ((((Below.refl _ w3).alloc (Nat.le_refl _) _).alloc (by simp) _).mono HB3.out.size))
  have HB5 := Lib.hid (HB4.out.trans (hb4.mono HB4.out.size))
  have es : servesL [2, 0, 1] [0, 2] = true := by decide
  rw [es]
  clear hb4 es
  go_wp2
  go_ret
  exact ⟨rfl, HB5.out⟩
end Go.Proofs.Ytiljpacmkmmlcaa
