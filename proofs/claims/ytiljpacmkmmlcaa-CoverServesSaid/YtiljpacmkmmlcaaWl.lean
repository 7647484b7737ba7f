/- cover.chainsOf: chains in memory. -/
import Derived.Test.YtiljpacmkmmlcaaWk
import Derived.Test.YtiljpacmkmmlcaaKb
set_option linter.unusedSimpArgs false
set_option linter.unusedVariables false
namespace Go.Proofs.Ytiljpacmkmmlcaa
open Go.RowKit Go.Shelf

theorem infoM : (Try.prog.info? 44).map (fun i => (i.zero, i.size, i.bytes)) = some (some (.slice none 0 0), 1, 24) := by kernel_rfl
/-- Chains, each in a row of its own; N: where the rows begin. -/
structure ChS (N : Nat) (W : World) (cv : Value) (vs : List Value) (cs : List (List Nat)) : Prop where
  own : W.ownsRow N 44 1 cv cs.length vs
  row : ∀ (i : Nat) (v : Value) (c : List Nat), vs[i]? = some v → cs[i]? = some c → W.ownsRow N 54 1 v c.length (mvL c)
  sep : ∀ (i j : Nat) (v u : Value), i ≠ j → vs[i]? = some v → vs[j]? = some u → v.ownBlock = none ∨ v.ownBlock ≠ u.ownBlock
theorem own_type {W : World} {base e size n : Nat} {v : Value} {xs : List Value} (h : W.ownsRow base e size v n xs) : ∀ j, v.ownBlock = some j → ∃ cur, W.heap[j]? = some (.cells cur e (0, 0)) := by
  intro j hj
  rcases h.2 with ⟨rfl, _⟩ | ⟨g, cap, cur, rfl, _, hg, _⟩
  · cases hj
  · cases hj
    exact ⟨_, hg⟩
section
variable {N : Nat} {W W' : World} {cv : Value} {vs : List Value} {cs : List (List Nat)}
theorem ChS.nil (N : Nat) (W : World) : ChS N W (.slice none 0 0) [] [] := ⟨World.ownsRow_nil _ _ _ _, fun i v c h => by simp at h, fun i j v u _ h => by simp at h⟩
theorem ChS.len (h : ChS N W cv vs cs) : vs.length = cs.length := by have := h.own.1; omega
theorem ChS.kept {row : Option Nat} (h : ChS N W cv vs cs) (hg : W.grownBy W' row) (hne : ∀ j, row = some j → j < N ∨ ∃ cur T, W.heap[j]? = some (.cells cur T (0, 0)) ∧ T ≠ 44 ∧ T ≠ 54) : ChS N W' cv vs cs := by
  have key : ∀ {e : TypeId} {n : Nat} {v : Value} {xs : List Value}, (e = 44 ∨ e = 54) → W.ownsRow N e 1 v n xs → W'.ownsRow N e 1 v n xs := by
    intro e n v xs he h
    refine h.kept hg ?_
    cases hv : v.ownBlock with
    | none => exact .inl rfl
    | some j =>
      refine .inr fun e2 => ?_
      rcases hne j e2.symm with hn | ⟨cur, T, h1, h2, h3⟩
      · have := (h.lt j hv).1; omega
      · obtain ⟨cur', hc⟩ := own_type h j hv
        rw [h1] at hc
        cases hc
        rcases he with he | he
        · exact h2 he
        · exact h3 he
  exact ⟨key (.inl rfl) h.own, fun i v c h1 h2 => key (.inr rfl) (h.row i v c h1 h2), h.sep⟩
theorem ChS.below (h : ChS N W cv vs cs) (hb : Below W.heap.size W W') : ChS N W' cv vs cs := h.kept (grown_below hb none) fun j e => by cases e
theorem ChS.put {B : Nat} (h : ChS N W cv vs cs) (hp : Put B W W') : ChS N W' cv vs cs := by
  obtain ⟨l, o, o', q1, q2, q3, q4, rfl⟩ := hp
  have key : ∀ {e : TypeId} {n : Nat} {v : Value} {xs : List Value}, W.ownsRow N e 1 v n xs → (W.putObj l o').ownsRow N e 1 v n xs := by
    intro e n v xs h
    refine h.kept (row := some l) ⟨rfl, rfl, rfl, by simp, fun i hi hne => World.putObj_heap_other (fun e => hne (by rw [e]))⟩ (.inr fun e => ?_)
    obtain ⟨cs, T, fz, hx⟩ := own_cellsB h l e
    rw [q2] at hx
    cases hx
    cases q3
  exact ⟨key h.own, fun i v c h1 h2 => key (h.row i v c h1 h2), h.sep⟩
/-- One chain more, in a row that is newer than all. -/
theorem ChS.snoc {v cv' : Value} {c : List Nat} {w1 w3 : World} (h : ChS N W cv vs cs) (hb : Below W.heap.size W w1) (hv : w1.ownsRow W.heap.size 54 1 v c.length (mvL c)) (hN : N ≤ W.heap.size)
    (hg : w1.grownBy w3 cv.ownBlock) (ho : w3.ownsRow N 44 1 cv' (cs.length + 1) (vs ++ [v])) : ChS N w3 cv' (vs ++ [v]) (cs ++ [c]) := by
  have h1 := h.below hb
  have hvN : w1.ownsRow N 54 1 v c.length (mvL c) := ⟨hv.1, hv.2.imp id fun ⟨g, cap, cur, a1, a2, a3⟩ => ⟨g, cap, cur, a1, by omega, a3⟩⟩
  have key : ∀ {n : Nat} {v : Value} {xs : List Value}, w1.ownsRow N 54 1 v n xs → w3.ownsRow N 54 1 v n xs := by
    intro n v xs hx
    refine hx.kept hg ?_
    cases hvb : v.ownBlock with
    | none => exact .inl rfl
    | some j =>
      refine .inr fun e => ?_
      obtain ⟨c1, k1⟩ := own_type hx j hvb
      obtain ⟨c2, k2⟩ := own_type h1.own j e.symm
      rw [k1] at k2
      cases k2
  have hvl := h.len
  refine ⟨by rw [List.length_append]; exact ho, fun i u d hu hd => ?_, fun i j u u' hij hu hu' => ?_⟩
  · rw [List.getElem?_append] at hu hd
    rw [hvl] at hu
    split at hu
    · rename_i hi
      rw [if_pos hi] at hd
      exact key (h1.row i u d hu hd)
    · rename_i hi
      rw [if_neg hi] at hd
      have e0 : i - cs.length = 0 := by have := (List.getElem?_eq_some_iff.1 hu).1; simp at this; omega
      rw [e0] at hu hd
      have eu : v = u := by simpa using hu
      have ed : c = d := by simpa using hd
      subst eu; subst ed
      exact key hvN
  · have old : ∀ (i : Nat) (u : Value), vs[i]? = some u → i < cs.length → ∀ b, u.ownBlock = some b → b < W.heap.size := fun i u hu hi b hb => by
      exact ((h.row i u _ hu (List.getElem?_eq_getElem hi)).lt b hb).2
    have new : ∀ b, v.ownBlock = some b → W.heap.size ≤ b := fun b hb => (hv.lt b hb).1
    rw [List.getElem?_append] at hu hu'
    rw [hvl] at hu hu'
    split at hu
    · rename_i hi
      split at hu'
      · exact h.sep i j u u' hij hu hu'
      · rename_i hj
        have e0 : j - cs.length = 0 := by have := (List.getElem?_eq_some_iff.1 hu').1; simp at this; omega
        rw [e0] at hu'
        have eu : v = u' := by simpa using hu'
        subst eu
        cases hub : u.ownBlock with
        | none => exact .inl rfl
        | some b => exact .inr fun e => by have := old i u hu hi b hub; have := new b e.symm; omega
    · rename_i hi
      have e0 : i - cs.length = 0 := by have := (List.getElem?_eq_some_iff.1 hu).1; simp at this; omega
      rw [e0] at hu
      have eu : v = u := by simpa using hu
      subst eu
      split at hu'
      · rename_i hj
        cases hub : v.ownBlock with
        | none => exact .inl rfl
        | some b => exact .inr fun e => by have := old j u' hu' hj b e.symm; have := new b hub; omega
      · rename_i hj
        have e0' : j - cs.length = 0 := by have := (List.getElem?_eq_some_iff.1 hu').1; simp at this; omega
        have := (List.getElem?_eq_some_iff.1 hu).1
        omega
end
/-- What stands while the tops are gone through: n1 where p lies, cv the chains so far. -/
structure CoI (w : World) (sv : Value) (ms : List Nat) (B bel : Bh) (Ma Mb ca cb : Nat) (f g : Nat → Option Nat) (n1 k : Nat) (W : World) : Prop where
  og : OnG w sv (n1 + 2) W
  b3 : W.heap[n1]? = some (.cells #[.map (some Ma), .map (some Mb)] 60 (0, 0))
  st : ∃ (cv : Value) (vs : List Value) (cs : List (List Nat)), W.heap[n1 + 1]? = some (.cells #[cv] 47 (0, 0)) ∧ ChS (n1 + 3) W cv vs (cs.map fun l => l.map (VL ms)) ∧ CsOk B bel k cs
  ma : MapU Try.prog W 54 54 Ma ca f
  mb : MapU Try.prog W 54 54 Mb cb g
  le : k ≤ ms.length
section
variable {w : World} {sv : Value} {ms : List Nat} {B bel : Bh} {Ma Mb ca cb : Nat} {f g : Nat → Option Nat} {n1 k : Nat} {W W' : World}
theorem CoI.below (h : CoI w sv ms B bel Ma Mb ca cb f g n1 k W) (hb : Below W.heap.size W W') : CoI w sv ms B bel Ma Mb ca cb f g n1 k W' := by
  obtain ⟨cv, vs, cs, h1, h2, h3⟩ := h.st
  exact ⟨h.og.below hb, (hb.block _ (heapLt h.b3)).trans h.b3, ⟨cv, vs, cs, (hb.block _ (heapLt h1)).trans h1, h2.below hb, h3⟩, mu_below h.ma hb, mu_below h.mb hb, h.le⟩
theorem CoI.put {N : Nat} (h : CoI w sv ms B bel Ma Mb ca cb f g n1 k W) (hp : Put N W W') (hN : n1 + 3 ≤ N) (hw : w.heap.size ≤ n1) (hMa : Ma < n1) (hMb : Mb < n1) : CoI w sv ms B bel Ma Mb ca cb f g n1 k W' := by
  obtain ⟨cv, vs, cs, h1, h2, h3⟩ := h.st
  exact ⟨h.og.put hp (by omega), put_block hp h.b3 (.inl rfl), ⟨cv, vs, cs, put_block hp h1 (.inl rfl), h2.put hp, h3⟩, mu_put h.ma hp (by omega), mu_put h.mb hp (by omega), h.le⟩
theorem CoI.skip (h : CoI w sv ms B bel Ma Mb ca cb f g n1 k W) {y : Nat} (hk : k < ms.length) (hb : bel k = some y) : CoI w sv ms B bel Ma Mb ca cb f g n1 (k + 1) W := by
  obtain ⟨cv, vs, cs, h1, h2, h3⟩ := h.st
  exact ⟨h.og, h.b3, ⟨cv, vs, cs, h1, h2, h3.skip hb⟩, h.ma, h.mb, hk⟩
end
end Go.Proofs.Ytiljpacmkmmlcaa
