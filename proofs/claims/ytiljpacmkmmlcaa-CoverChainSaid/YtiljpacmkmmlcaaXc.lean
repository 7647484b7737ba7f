/- Columns that come one by one: sets within each other. Plain, and what stands while they are laid. -/
import Derived.Test.YtiljpacmkmmlcaaWv
import Derived.Test.YtiljpacmkmmlcaaCv2
set_option linter.unusedSimpArgs false
set_option linter.unusedVariables false
namespace Go.Proofs.Ytiljpacmkmmlcaa
open Go.RowKit

def metN (m : Nat → Bool) (j : Nat) : List Nat := (List.range j).filter m
def metC (m : Nat → Bool) (j : Nat) : List Int := (metN m j).map fun k : Nat => (k : Int)
theorem metC_zero (m : Nat → Bool) : metC m 0 = [] := rfl
theorem metC_yes {m : Nat → Bool} {j : Nat} (h : m j = true) : metC m (j + 1) = metC m j ++ [(j : Int)] := by
  unfold metC metN
  rw [List.range_succ, List.filter_append, List.map_append]
  simp [h]
theorem metC_no {m : Nat → Bool} {j : Nat} (h : m j = false) : metC m (j + 1) = metC m j := by
  unfold metC metN
  rw [List.range_succ, List.filter_append, List.map_append]
  simp [h]
theorem metN_mem {m : Nat → Bool} {j x : Nat} : x ∈ metN m j ↔ x < j ∧ m x = true := by
  unfold metN
  rw [List.mem_filter, List.mem_range]
theorem metC_mem {m : Nat → Bool} {j : Nat} {x : Int} (h : x ∈ metC m j) : ∃ k : Nat, x = k ∧ k < j ∧ m k = true := by
  obtain ⟨k, hk, rfl⟩ := List.mem_map.1 h
  exact ⟨k, rfl, metN_mem.1 hk⟩
theorem metC_len (m : Nat → Bool) (j : Nat) : (metC m j).length ≤ j := by
  unfold metC metN
  rw [List.length_map]
  exact Nat.le_trans (List.length_filter_le ..) (by rw [List.length_range]; exact Nat.le_refl _)
theorem rise_of {l : List Int} (h : l.Pairwise (· < ·)) : riseI l = true := riseI_iff.2 fun j x y hx hy => by
  obtain ⟨h1, rfl⟩ := List.getElem?_eq_some_iff.1 hx
  obtain ⟨h2, rfl⟩ := List.getElem?_eq_some_iff.1 hy
  exact List.pairwise_iff_getElem.1 h j (j + 1) h1 h2 (by omega)
theorem metC_rise (m : Nat → Bool) (j : Nat) : riseI (metC m j) = true := by
  refine rise_of ?_
  unfold metC metN
  rw [List.pairwise_map]
  exact List.Pairwise.imp (fun h => by omega) (List.Pairwise.filter _ List.pairwise_lt_range)
theorem metC_set {m : Nat → Bool} {q c : Nat} (hq : q < c) (hm : m q = false) : (∀ x ∈ metC m c, x ∈ metC (setB m q) c) ∧ (metC m c).length < (metC (setB m q) c).length := by
  have hsub : ∀ x ∈ metN m c, x ∈ metN (setB m q) c := fun x hx => by
    obtain ⟨h1, h2⟩ := metN_mem.1 hx
    exact metN_mem.2 ⟨h1, setB_mono h2⟩
  have hq2 : q ∈ metN (setB m q) c := metN_mem.2 ⟨hq, setB_same m q⟩
  have hnd : (q :: metN m c).Nodup := List.nodup_cons.2 ⟨fun h => (by rw [(metN_mem.1 h).2] at hm; cases hm), List.Pairwise.filter _ List.nodup_range⟩
  have := nsub_len (m := metN (setB m q) c) hnd fun x hx => by
    rcases List.mem_cons.1 hx with rfl | hx
    · exact hq2
    · exact hsub x hx
  refine ⟨fun x hx => ?_, ?_⟩
  · obtain ⟨k, hk, rfl⟩ := List.mem_map.1 hx
    exact List.mem_map.2 ⟨k, hsub k hk, rfl⟩
  · unfold metC
    rw [List.length_map, List.length_map]
    simp only [List.length_cons] at this
    omega
/-- Sets within each other, the last of them within what has come. -/
structure ChP (c : Nat) (m : Nat → Bool) (ss : List (List Int)) : Prop where
  ok : ∀ s ∈ ss, s ≠ [] ∧ riseI s = true ∧ ∀ x ∈ s, 0 ≤ x ∧ x < (c : Int)
  top : ∀ s ∈ ss, (∀ x ∈ s, x ∈ metC m c) ∧ s.length ≤ (metC m c).length
  pw : ss.Pairwise fun a b => insideL a b = true
theorem ChP.nil (c : Nat) (m : Nat → Bool) : ChP c m [] := ⟨fun s h => by simp at h, fun s h => by simp at h, List.Pairwise.nil⟩
theorem ChP.step {c : Nat} {m : Nat → Bool} {ss : List (List Int)} {q : Nat} (h : ChP c m ss) (hq : q < c) (hm : m q = false) : ChP c (setB m q) (ss ++ [metC (setB m q) c]) := by
  obtain ⟨h1, h2⟩ := metC_set hq hm
  refine ⟨fun s hs => ?_, fun s hs => ?_, ?_⟩
  · rcases List.mem_append.1 hs with hs | hs
    · exact h.ok s hs
    · rw [List.mem_singleton.1 hs]
      refine ⟨fun e => by rw [e] at h2; simp at h2, metC_rise _ _, fun x hx => ?_⟩
      obtain ⟨k, rfl, hk, _⟩ := metC_mem hx
      omega
  · rcases List.mem_append.1 hs with hs | hs
    · have := h.top s hs
      exact ⟨fun x hx => h1 x (this.1 x hx), by omega⟩
    · rw [List.mem_singleton.1 hs]
      exact ⟨fun x hx => hx, Nat.le_refl _⟩
  · rw [List.pairwise_append]
    refine ⟨h.pw, List.pairwise_singleton _ _, fun a ha b hb => ?_⟩
    rw [List.mem_singleton.1 hb]
    have := h.top a ha
    exact inside_iff.2 ⟨fun x hx => h1 x (this.1 x hx), by omega⟩
theorem ChP.right {c : Nat} {m : Nat → Bool} {ss : List (List Int)} (h : ChP c m ss) (h1 : 1 ≤ c) (h8 : c ≤ 8) (hn : ss.length ≤ 60) : rightS (c : Int) ss = true := by
  refine rightS_iff.2 ⟨⟨by omega, by omega, hn⟩, fun i s hi hs => ⟨?_, fun j t hj ht e => ?_⟩⟩
  · obtain ⟨a1, a2, a3⟩ := h.ok s (List.mem_of_getElem? hs)
    unfold setOk
    rw [Bool.and_eq_true, Bool.and_eq_true, List.all_eq_true]
    refine ⟨by cases s with | nil => exact absurd rfl a1 | cons x s => rfl, fun x hx => by simpa using a3 x hx, a2⟩
  · subst e
    obtain ⟨g1, e1⟩ := List.getElem?_eq_some_iff.1 ht
    obtain ⟨g2, e2⟩ := List.getElem?_eq_some_iff.1 hs
    have := (inside_iff.1 (List.pairwise_iff_getElem.1 h.pw j i g1 g2 hj)).2
    rw [e1, e2] at this
    omega
theorem ChP.one {c : Nat} {m : Nat → Bool} {ss : List (List Int)} (h : ChP c m ss) (h0 : ss ≠ []) : LeastN ss.length (RS ss) 1 := by
  have key : ∀ i j, i < j → j < ss.length → RS ss i j := fun i j hij hj => by
    have := List.pairwise_iff_getElem.1 h.pw i j (by omega) hj hij
    unfold RS
    rw [List.getD_eq_getElem?_getD, List.getD_eq_getElem?_getD, List.getElem?_eq_getElem (by omega), List.getElem?_eq_getElem hj]
    exact this
  refine least_chain (List.length_pos_iff.2 h0) (fun i j hi hj hne => ?_) (fun i => RS.irr i)
  rcases Nat.lt_or_gt_of_ne hne with hlt | hlt
  · exact .inl (key i j hlt hj)
  · exact .inr (key j i hlt hi)
theorem chain_least {c : Nat} {m : Nat → Bool} {ss : List (List Int)} {e : Ending} (h : ChP c m ss) (h1 : 1 ≤ c) (h8 : c ≤ 8) (hn : ss.length ≤ 60) (hR : LeastR (c : Int) ss e) : e = .returned (.tuple #[.int .i64 1, .int .i64 0]) := by
  have hr := h.right h1 h8 hn
  rcases hR with ⟨h2, _⟩ | ⟨n, _, rfl, hl⟩
  · rw [hr] at h2; cases h2
  · have e1 : n = 1 := by
      rcases hl with ⟨_, h3⟩ | ⟨h3, h4⟩
      · exact h3
      · exact least_one h4 (h.one h3)
    subst e1
    rfl
theorem chain_orders {c : Nat} {m : Nat → Bool} {ss : List (List Int)} {e : Ending} {w' : World} (h : ChP c m ss) (h1 : 1 ≤ c) (h8 : c ≤ 8) (hn : ss.length ≤ 60) (hR : OrdersR (c : Int) ss e w') :
    ∃ r o, e = .returned (.tuple #[r, .int .i64 0]) ∧ SetsS w' w'.heap.size [o] r ∧ wholeL c [o] = true ∧ ∀ s ∈ ss, servesL o s = true := by
  have hr := h.right h1 h8 hn
  rcases hR with ⟨h2, _⟩ | ⟨r, os, _, rfl, hos, hl, hw, hs⟩
  · rw [hr] at h2; cases h2
  · have e1 : os.length = 1 := by
      rcases hl with ⟨_, h3⟩ | ⟨h3, h4⟩
      · exact h3
      · exact least_one h4 (h.one h3)
    obtain ⟨o, rfl⟩ := List.length_eq_one_iff.1 e1
    rw [Int.toNat_natCast] at hw
    refine ⟨r, o, rfl, hos, hw, fun s hm => ?_⟩
    obtain ⟨o', ho, h5⟩ := hs s hm
    rw [List.mem_singleton.1 ho] at h5
    exact h5
theorem own_one {w : World} {b n : Nat} {e : TypeId} {v : Value} {xs : List Value} (h : w.ownsRow b e 1 v n xs) : v.oneCell' = true := by
  rcases h.2 with ⟨rfl, _⟩ | ⟨g, cap, cur, rfl, _⟩ <;> rfl
/-- What stands while sets are laid. -/
structure ChI (w : World) (c bm : Nat) (m : Nat → Bool) (ss : List (List Int)) (k : Nat) (sv : Value) (us : List Value) (wr : World) : Prop where
  met : wr.heap[bm]? = some (.cells (metCells m c).toArray 4 (0, 0))
  os : OrS w.heap.size wr sv us ss
  b : Below w.heap.size w wr
  p : ChP c m ss
  n : ss.length ≤ k
/-- One set more: its columns lie in a row laid since. -/
theorem ChI.more {w W1 wr w5 : World} {c bm k q : Nat} {m : Nat → Bool} {ss : List (List Int)} {sv sv' v : Value} {us : List Value} {W0 : World} (h : ChI w c bm m ss k sv us W0) (hbm : w.heap.size ≤ bm) (hq : q < c) (hm : m q = false) (hW1 : W1 = W0.setCell ⟨bm, q, none⟩ (.bool true)) (hb : Below W1.heap.size W1 wr)
    (hv : wr.ownsRow W1.heap.size 3 1 v (metC (setB m q) c).length (ivL (metC (setB m q) c))) (hg : wr.grownBy w5 sv.ownBlock) (ho : w5.ownsRow w.heap.size 23 1 sv' (ss.length + 1) (us ++ [v])) : ChI w c bm (setB m q) (ss ++ [metC (setB m q) c]) (k + 1) sv' (us ++ [v]) w5 := by
  have hb0 : Below w.heap.size w W1 := by rw [hW1]; exact h.b.setCell (p := ⟨bm, q, none⟩) hbm _
  have os1 : OrS w.heap.size W1 sv us ss := by
    rw [hW1]
    refine h.os.kept (grown_set W0 bm q _) (fun j e => ?_) (fun j e => ?_)
    · obtain rfl : bm = j := Option.some.inj e
      exact ⟨_, _, h.met, by decide⟩
    · obtain rfl : bm = j := Option.some.inj e
      exact ⟨_, _, h.met, by decide⟩
  have os2 := os1.below hb
  have met1 : wr.heap[bm]? = some (.cells (metCells (setB m q) c).toArray 4 (0, 0)) := by
    have h1 := set_rowC (i := q) h.met (.bool true)
    rw [metCells_set _ hq] at h1
    rw [← hW1] at h1
    exact (hb.block _ (Array.getElem?_eq_some_iff.1 h1).1).trans h1
  have hv' : wr.ownsRow w.heap.size 3 1 v (metC (setB m q) c).length (ivL (metC (setB m q) c)) :=
    ⟨hv.1, hv.2.imp id fun ⟨g, cap, cur, a1, a2, a3⟩ => ⟨g, cap, cur, a1, Nat.le_trans hb0.size a2, a3⟩⟩
  refine ⟨?_, os2.snoc hv' hg ho, ?_, h.p.step hq hm, by rw [List.length_append, List.length_singleton]; exact Nat.succ_le_succ h.n⟩
  · refine (hg.block bm (Array.getElem?_eq_some_iff.1 met1).1 fun e => ?_).trans met1
    obtain ⟨cur, T, h1, h2⟩ := own_row os2.own (e2 := 4) (by decide) bm e.symm
    rw [met1] at h1
    cases h1
    exact h2 rfl
  · exact (hb0.trans (hb.mono hb0.size)).grown hg (Nat.le_trans hb0.size hb.size) (fun j hj => (os2.own.lt j hj).1)
end Go.Proofs.Ytiljpacmkmmlcaa
