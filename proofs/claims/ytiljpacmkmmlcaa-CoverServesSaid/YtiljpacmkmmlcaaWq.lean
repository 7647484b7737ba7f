/- cover.Orders. -/
import Derived.Test.YtiljpacmkmmlcaaWp
set_option linter.unusedSimpArgs false
set_option linter.unusedVariables false
namespace Go.Proofs.Ytiljpacmkmmlcaa
open Go.RowKit

theorem infoR : (Try.prog.info? 23).map (fun i => (i.zero, i.size, i.bytes)) = some (some (.slice none 0 0), 1, 24) := by kernel_rfl
/-- Orders, each in a row of its own. -/
structure OrS (N : Nat) (W : World) (ov : Value) (us : List Value) (os : List (List Int)) : Prop where
  own : W.ownsRow N 23 1 ov os.length us
  row : ∀ (i : Nat) (v : Value) (o : List Int), us[i]? = some v → os[i]? = some o → W.ownsRow N 3 1 v o.length (ivL o)
section
variable {N : Nat} {W W' : World} {ov : Value} {us : List Value} {os : List (List Int)}
theorem OrS.nil (N : Nat) (W : World) : OrS N W (.slice none 0 0) [] [] := ⟨World.ownsRow_nil _ _ _ _, fun i v o h => by simp at h⟩
theorem OrS.len (h : OrS N W ov us os) : us.length = os.length := by have := h.own.1; omega
theorem own_other {b1 e1 z1 n1 : Nat} {v : Value} {xs : List Value} {row : Option Nat} (h : W.ownsRow b1 e1 z1 v n1 xs) (hg : W.grownBy W' row) (hne : ∀ j, row = some j → ∃ cur T, W.heap[j]? = some (.cells cur T (0, 0)) ∧ T ≠ e1) : W'.ownsRow b1 e1 z1 v n1 xs := by
  refine h.kept hg ?_
  cases hv : v.ownBlock with
  | none => exact .inl rfl
  | some j =>
    refine .inr fun e2 => ?_
    obtain ⟨cur, T, h1, h2⟩ := hne j e2.symm
    obtain ⟨cur', hc⟩ := own_type h j hv
    rw [h1] at hc
    cases hc
    exact h2 rfl
theorem own_row {b1 e1 z1 n1 : Nat} {v : Value} {xs : List Value} (h : W.ownsRow b1 e1 z1 v n1 xs) {e2 : TypeId} (hne : e1 ≠ e2) : ∀ j, v.ownBlock = some j → ∃ cur T, W.heap[j]? = some (.cells cur T (0, 0)) ∧ T ≠ e2 := fun j hj => by
  obtain ⟨cur, hc⟩ := own_type h j hj
  exact ⟨cur, e1, hc, hne⟩
theorem OrS.below (h : OrS N W ov us os) (hb : Below W.heap.size W W') : OrS N W' ov us os := ⟨own_past h.own hb, fun i v o h1 h2 => own_past (h.row i v o h1 h2) hb⟩
theorem OrS.kept {row : Option Nat} (h : OrS N W ov us os) (hg : W.grownBy W' row) (h1 : ∀ j, row = some j → ∃ cur T, W.heap[j]? = some (.cells cur T (0, 0)) ∧ T ≠ 23) (h2 : ∀ j, row = some j → ∃ cur T, W.heap[j]? = some (.cells cur T (0, 0)) ∧ T ≠ 3) : OrS N W' ov us os :=
  ⟨own_other h.own hg h1, fun i v o h3 h4 => own_other (h.row i v o h3 h4) hg h2⟩
theorem OrS.snoc {v ov' : Value} {o : List Int} {w3 : World} (h : OrS N W ov us os) (hv : W.ownsRow N 3 1 v o.length (ivL o)) (hg : W.grownBy w3 ov.ownBlock) (ho : w3.ownsRow N 23 1 ov' (os.length + 1) (us ++ [v])) : OrS N w3 ov' (us ++ [v]) (os ++ [o]) := by
  have hl := h.len
  refine ⟨by rw [List.length_append]; exact ho, fun i u d hu hd => ?_⟩
  rw [List.getElem?_append] at hu hd
  rw [hl] at hu
  split at hu
  · rename_i hi
    rw [if_pos hi] at hd
    exact own_other (h.row i u d hu hd) hg (own_row h.own (by decide))
  · rename_i hi
    rw [if_neg hi] at hd
    have e0 : i - os.length = 0 := by have := (List.getElem?_eq_some_iff.1 hu).1; simp at this; omega
    rw [e0] at hu hd
    have eu : v = u := by simpa using hu
    have ed : o = d := by simpa using hd
    subst eu; subst ed
    exact own_other hv hg (own_row h.own (by decide))
theorem OrS.sets (h : OrS N W ov us os) (hI : ∀ o ∈ os, ∀ n ∈ o, I64 n) : SetsS W W.heap.size os ov := by
  rcases h.own.2 with ⟨h1, h2⟩ | ⟨g, cap, cur, hv, hb, hg, hc, hx, _⟩
  · exact .inl ⟨h1, List.length_eq_zero_iff.1 h2⟩
  · refine .inr ⟨⟨g, 0, none⟩, cap, hv, hc, hx, fun _ => (Array.getElem?_eq_some_iff.1 hg).1, fun i o hi => ?_⟩
    obtain ⟨u, hu⟩ : ∃ u, us[i]? = some u := ⟨us[i]'(by rw [h.len]; exact (List.getElem?_eq_some_iff.1 hi).1), List.getElem?_eq_getElem _⟩
    refine ⟨[u], rfl, ⟨u, rfl, is_of_own (h.row i u o hu hi) (hI o (List.mem_of_getElem? hi))⟩, fun j c hj => ?_⟩
    cases j with
    | succ j => simp at hj
    | zero =>
      have e : u = c := by simpa using hj
      subst e
      rw [Nat.mul_one, Nat.add_zero]
      exact h.own.cells (g := g) (by rw [hv]; rfl) i _ hu
end
/-- What stands while orders are laid for chains: of the chains those to come. -/
structure OsI (w : World) (cc : Nat) (cv : Value) (vs : List Value) (cs : List (List Nat)) (k : Nat) (ov : Value) (us : List Value) (wr : World) : Prop where
  os : OrS w.heap.size wr ov us ((cs.take k).map (orderF cc))
  cv : wr.ownsRow w.heap.size 44 1 cv cs.length vs
  row : ∀ (i : Nat) (v : Value) (c : List Nat), k ≤ i → vs[i]? = some v → cs[i]? = some c → wr.ownsRow w.heap.size 54 1 v c.length (mvL c)
  b : Below w.heap.size w wr
theorem OsI.step {w w1 wr w2 w4 : World} {cc k : Nat} {cv ov ov' v r : Value} {vs us : List Value} {cs : List (List Nat)} {c : List Nat} (h : OsI w cc cv vs cs k ov us wr) (hsep : ∀ (i j : Nat) (v u : Value), i ≠ j → vs[i]? = some v → vs[j]? = some u → v.ownBlock = none ∨ v.ownBlock ≠ u.ownBlock)
    (hv : vs[k]? = some v) (hc : cs[k]? = some c) (hg : wr.grownBy w1 v.ownBlock) (hr : w1.ownsRow wr.heap.size 3 1 r (orderF cc c).length (ivL (orderF cc c))) (hb : Below w1.heap.size w1 w2) (hg2 : w2.grownBy w4 ov.ownBlock) (ho : w4.ownsRow w.heap.size 23 1 ov' (((cs.take k).map (orderF cc)).length + 1) (us ++ [r])) :
    OsI w cc cv vs cs (k + 1) ov' (us ++ [r]) w4 := by
  have hvr := h.row k v c (Nat.le_refl _) hv hc
  have os1 := (h.os.kept hg (own_row hvr (by decide)) (own_row hvr (by decide))).below hb
  have cv1 := own_past (own_other h.cv hg (own_row hvr (by decide))) hb
  have r1 : w2.ownsRow w.heap.size 3 1 r (orderF cc c).length (ivL (orderF cc c)) := by
    have := own_past hr hb
    exact ⟨this.1, this.2.imp id fun ⟨g, cap, cur, a1, a2, a3⟩ => ⟨g, cap, cur, a1, Nat.le_trans h.b.size a2, a3⟩⟩
  have e : (cs.take (k + 1)).map (orderF cc) = (cs.take k).map (orderF cc) ++ [orderF cc c] := by rw [List.take_add_one, hc]; simp
  refine ⟨by rw [e]; exact os1.snoc r1 hg2 ho, own_other cv1 hg2 (own_row os1.own (by decide)), fun i u d hi hu hd => ?_, ?_⟩
  · have h1 := h.row i u d (by omega) hu hd
    have h2 := own_past (h1.kept hg (hsep i k u v (by omega) hu hv)) hb
    exact own_other h2 hg2 (own_row os1.own (by decide))
  · exact (((h.b.grown hg h.b.size (fun j hj => (hvr.lt j hj).1)).trans (hb.mono (Nat.le_trans h.b.size hg.size)))).grown hg2 (Nat.le_trans h.b.size (Nat.le_trans hg.size hb.size)) (fun j hj => (os1.own.lt j hj).1)
def OrdersR (c : Int) (l : List (List Int)) (e : Ending) (w' : World) : Prop :=
  (rightS c l = false ∧ e = .returned (.tuple #[.slice none 0 0, .int .i64 110])) ∨ ∃ (r : Value) (os : List (List Int)), rightS c l = true ∧ e = .returned (.tuple #[r, .int .i64 0]) ∧ SetsS w' w'.heap.size os r ∧ ((l = [] ∧ os.length = 1) ∨ (l ≠ [] ∧ LeastN l.length (RS l) os.length)) ∧ wholeL c.toNat os = true ∧ ∀ s ∈ l, ∃ o ∈ os, servesL o s = true
theorem orders_math {c : Int} {l : List (List Int)} {cs : List (List Nat)} (h : rightS c l = true) (hc : Chains (l.map maskL) cs) : ((l = [] ∧ (cs.map (orderF c.toNat)).length = 1) ∨ (l ≠ [] ∧ LeastN l.length (RS l) (cs.map (orderF c.toNat)).length)) ∧ wholeL c.toNat (cs.map (orderF c.toNat)) = true ∧ (∀ s ∈ l, ∃ o ∈ cs.map (orderF c.toNat), servesL o s = true) ∧ ∀ o ∈ cs.map (orderF c.toNat), ∀ n ∈ o, I64 n := by
  obtain ⟨⟨h1, h8, _⟩, hset⟩ := rightS_iff.1 h
  have hset' : ∀ s ∈ l, setOk c s = true := fun s hs => by
    obtain ⟨i, hi⟩ := List.mem_iff_getElem?.1 hs
    exact (hset i s (List.getElem?_eq_some_iff.1 hi).1 hi).1
  have ec : ((c.toNat : Nat) : Int) = c := by omega
  have hlt : ∀ ch ∈ cs, ∀ m ∈ ch, m < 2 ^ c.toNat := fun ch hch m hm => by
    obtain ⟨s, hs, rfl⟩ := List.mem_map.1 (hc.sub ch hch m hm)
    exact mask_lt fun x hx => by have := (setOk_nn (hset' s hs)).1 x hx; omega
  have hw : ∀ ch ∈ cs, OrdI c.toNat (orderF c.toNat ch) (2 ^ c.toNat - 1) := fun ch hch => order_whole (hc.up ch hch) (hlt ch hch)
  refine ⟨?_, ?_, fun s hs => ?_, fun o ho n hn => ?_⟩
  · rw [List.length_map]
    rcases hc.n with ⟨a, b⟩ | ⟨a, b⟩
    · exact .inl ⟨masks_ne.1 a, b⟩
    · exact .inr ⟨fun e => a (masks_ne.2 e), RM_least h b⟩
  · unfold wholeL
    rw [List.all_eq_true]
    intro o ho
    obtain ⟨ch, hch, rfl⟩ := List.mem_map.1 ho
    have := hw ch hch
    unfold wholeO
    rw [Bool.and_eq_true, Bool.and_eq_true, decide_eq_true_eq, decide_eq_true_eq, List.all_eq_true]
    refine ⟨order_len this, fun x hx => ?_, this.nd⟩
    obtain ⟨j, rfl, hj, _⟩ := (this.mem x).1 hx
    rw [Bool.and_eq_true, decide_eq_true_eq, decide_eq_true_eq]
    omega
  · obtain ⟨ch, hch, hm⟩ := hc.all (maskL s) (List.mem_map.2 ⟨s, hs, rfl⟩)
    have ho := setOk_nn (hset' s hs)
    exact ⟨_, List.mem_map.2 ⟨ch, hch, rfl⟩, order_serves (hc.up ch hch) hm ho.2 fun x hx => by have := ho.1 x hx; omega⟩
  · obtain ⟨ch, hch, rfl⟩ := List.mem_map.1 ho
    obtain ⟨j, rfl, hj, _⟩ := ((hw ch hch).mem n).1 hn
    unfold I64
    omega
end Go.Proofs.Ytiljpacmkmmlcaa
