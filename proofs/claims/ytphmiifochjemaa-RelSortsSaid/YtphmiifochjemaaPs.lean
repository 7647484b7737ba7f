/- Rows that are sorted in place: what lies in their row, and how two change places. -/
import Derived.Test.YtphmiifochjemaaPcr
import Derived.Test.YtphmiifochjemaaSt2
import Derived.Test.YtphmiifochjemaaPri
namespace Go.Proofs.Ytphmiifochjemaa
open Go.RowKit

abbrev Hd := Rw × Value
instance : Inhabited Value := ⟨undef⟩
/-- The row g holds what hs says, and what lies there lies elsewhere than in it. -/
structure SrW (w0 : World) (g : Nat) (tl : List Value) (hs : List Hd) (W : World) : Prop where
  row : W.heap[g]? = some (.cells (hs.map Prod.snd ++ tl).toArray 23 (0, 0))
  see : ∀ x ∈ hs, SlOf (hide g W) W.heap.size 3 VlC x.1 x.2
  b : w0.grownBy W (some g)
theorem SrW.cell {w0 W : World} {g : Nat} {tl : List Value} {hs : List Hd} (h : SrW w0 g tl hs W) {i : Nat} {x : Hd} (hx : hs[i]? = some x) : W.cell? ⟨g, i, none⟩ = some x.2 := by
  have hi := (List.getElem?_eq_some_iff.1 hx).1
  rw [(row_cell h.row i).1]
  rw [List.getElem?_toArray, List.getElem?_append_left (by simpa using hi), List.getElem?_map, hx]
  rfl
theorem SrW.froz {w0 W : World} {g : Nat} {tl : List Value} {hs : List Hd} (h : SrW w0 g tl hs W) (i : Nat) : W.frozen? ⟨g, i, none⟩ = false := (row_cell h.row i).2
theorem SrW.lt {w0 W : World} {g : Nat} {tl : List Value} {hs : List Hd} (h : SrW w0 g tl hs W) : g < W.heap.size := heapLt h.row
theorem hide_to {α : Type} {W W' : World} {g B B' z : Nat} {R : α → List Value → Prop} {l : List α} {u : Value} (h : SlOf (hide g W) B z R l u) (hg : W.grownBy W' (some g)) (hB : B ≤ B') : SlOf (hide g W') B' z R l u :=
  sl_cellsTo h (fun p c hc => by
    obtain ⟨h1, h2⟩ := hide_cell.1 hc
    exact hide_cell.2 ⟨h1, (World.cell?_of_block (hg.block _ (World.block_lt_of_cell? _ _ h2) (fun e => h1 (Option.some.inj e)))).trans h2⟩) hB
theorem hide_out {α : Type} {W : World} {g B z : Nat} {R : α → List Value → Prop} {l : List α} {u : Value} (h : SlOf (hide g W) B z R l u) : SlOf W B z R l u :=
  sl_cellsTo h (fun p c hc => (hide_cell.1 hc).2) (Nat.le_refl _)
theorem SrW.below {w0 W W' : World} {g : Nat} {tl : List Value} {hs : List Hd} (h : SrW w0 g tl hs W) (hb : Below W.heap.size W W') : SrW w0 g tl hs W' :=
  ⟨(hb.block _ h.lt).trans h.row, fun x hx => hide_to (h.see x hx) (grown_below hb _) hb.size, grown_then h.b (grown_below hb none) (fun j e => by cases e)⟩
theorem SrW.drew {w0 W : World} {g : Nat} {tl : List Value} {hs : List Hd} (h : SrW w0 g tl hs W) : SrW w0 g tl hs W.drew := h.below (Below.refl _ _).drew
theorem SrW.drewN {w0 W : World} {g : Nat} {tl : List Value} {hs : List Hd} (h : SrW w0 g tl hs W) (n : Nat) : SrW w0 g tl hs (W.drewN n) := h.below (below_drewN (Below.refl _ _) n)
/-- One place written. -/
theorem SrW.set {w0 W : World} {g : Nat} {tl : List Value} {hs : List Hd} (h : SrW w0 g tl hs W) {i : Nat} {x : Hd} (hi : i < hs.length) (hx : SlOf (hide g W) W.heap.size 3 VlC x.1 x.2) : SrW w0 g tl (hs.set i x) (W.setCell ⟨g, i, none⟩ x.2) := by
  have hg := grown_set W g i x.2
  refine ⟨?_, fun y hy => ?_, grown_then h.b hg (fun j e => .inr e)⟩
  · rw [set_heap h.row]
    congr 2
    rw [List.setIfInBounds_toArray, List.set_append_left _ _ (by simpa using hi), List.map_set]
  · rcases List.mem_or_eq_of_mem_set hy with hy | rfl
    · exact hide_to (h.see y hy) hg hg.size
    · exact hide_to hx hg hg.size
theorem swap_list {α : Type} (A B C : List α) (x y : α) : ((A ++ x :: (B ++ y :: C)).set A.length y).set (A.length + 1 + B.length) x = A ++ y :: (B ++ x :: C) := by
  rw [List.set_append_right _ _ (Nat.le_refl _), Nat.sub_self, List.set_cons_zero, List.set_append_right _ _ (by omega), show A.length + 1 + B.length - A.length = B.length + 1 by omega, List.set_cons_succ, List.set_append_right _ _ (Nat.le_refl _), Nat.sub_self, List.set_cons_zero]
theorem swap_list' {α : Type} (A B C : List α) (x y : α) : ((A ++ x :: (B ++ y :: C)).set (A.length + 1 + B.length) x).set A.length y = A ++ y :: (B ++ x :: C) := by
  rw [List.set_comm _ _ (by omega), swap_list]
theorem SrW.swap {w0 W : World} {g : Nat} {tl : List Value} {A B C : List Hd} {x y : Hd} (h : SrW w0 g tl (A ++ x :: (B ++ y :: C)) W) {i j : Nat} (hi : A.length = i) (hj : A.length + 1 + B.length = j) :
    SrW w0 g tl (A ++ y :: (B ++ x :: C)) ((W.setCell ⟨g, i, none⟩ y.2).setCell ⟨g, j, none⟩ x.2) := by
  subst hi; subst hj
  have h1 := h.set (i := A.length) (x := y) (by simp) (h.see y (by simp))
  have h2 := h1.set (i := A.length + 1 + B.length) (x := x) (by simp; omega) (hide_to (h.see x (by simp)) (grown_set _ _ _ _) (grown_set W g A.length y.2).size)
  rw [swap_list] at h2
  exact h2
theorem SrW.swap' {w0 W : World} {g : Nat} {tl : List Value} {A B C : List Hd} {x y : Hd} (h : SrW w0 g tl (A ++ x :: (B ++ y :: C)) W) {i j : Nat} (hi : A.length = i) (hj : A.length + 1 + B.length = j) :
    SrW w0 g tl (A ++ y :: (B ++ x :: C)) ((W.setCell ⟨g, j, none⟩ x.2).setCell ⟨g, i, none⟩ y.2) := by
  subst hi; subst hj
  have h1 := h.set (i := A.length + 1 + B.length) (x := x) (by simp; omega) (h.see x (by simp))
  have h2 := h1.set (i := A.length) (x := y) (by simp) (hide_to (h.see y (by simp)) (grown_set _ _ _ _) (grown_set W g _ x.2).size)
  rw [swap_list'] at h2
  exact h2
/-- Behind the first store the other place still holds something. -/
theorem SrW.after {w0 W : World} {g : Nat} {tl : List Value} {hs : List Hd} (h : SrW w0 g tl hs W) {i j : Nat} (hij : i ≠ j) {y : Hd} (hy : hs[j]? = some y) (u : Value) : (W.setCell ⟨g, i, none⟩ u).cell? ⟨g, j, none⟩ = some y.2 ∧ (W.setCell ⟨g, i, none⟩ u).frozen? ⟨g, j, none⟩ = false :=
  ⟨(World.cell?_setCell_other _ _ _ _ (by intro e; simp only [Addr.mk.injEq] at e; omega)).trans (h.cell hy), by rw [World.frozen?_setCell]; exact h.froz j⟩
theorem SrW.cmp {w0 W : World} {g : Nat} {tl : List Value} {hs : List Hd} (h : SrW w0 g tl hs W) {x y : Hd} (hx : x ∈ hs) (hy : y ∈ hs) {W' : World} (hb : Below W.heap.size W W') :
    Calls Try.prog 15 #[x.2, y.2] W' fun e w' => e = .returned (.int .i64 (rwC x.1 y.1)) ∧ Below W'.heap.size W' w' :=
  pcompare_c x.1 y.1 x.2 y.2 W' (hide_out ((h.below hb).see x hx)) (hide_out ((h.below hb).see y hy))
end Go.Proofs.Ytphmiifochjemaa
