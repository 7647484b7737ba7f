/- dtype.varsOf's append of a name, in whatever order its operations come. -/
import Derived.Test.YtbpdfmpfnbdeoaaDoorFlow
import Derived.Test.YtbpdfmpfnbdeoaaDoorSpr
import Derived.Test.YtbpdfmpfnbdeoaaDoorShelf
import Derived.RangeFuncNested
import Derived.RangeFuncBox
import Derived.Deep.AppendLies
namespace Go.Proofs.YtbpdfmpfnbdeoaaDoor
open Go.RowKit

theorem dclone_c (s : ByteArray) (w : World) (hs : s.size ≤ 281474976710656) :
    Calls Tryd.prog 62 #[.string s] w fun e w' => e = .returned (.string s) ∧ Below w.heap.size w w' := by
  go_enter Tryd.func62, Tryd.ntmps62
  go_wp2_with fail
  refine (Tryd.stringslite_Clone s _ hs).mono ?_
  rintro e w1 ⟨rfl, b1⟩
  go_wp2
  go_ret
  exact ⟨rfl, b1⟩
theorem infoSt : (Tryd.prog.info? 9).map (fun i => (i.zero, i.size, i.bytes)) = some (some (.string ⟨#[]⟩), 1, 16) := by kernel_rfl

def slots8 : List (Option Tmp) := [some 23, some 24, some 25, some 26, some 27, some 28, none]
def D8 (i : Nat) : Option Tmp := (slots8[i]?).join
structure Cv where
  W0 : World
  a0 : Act
  L : Nat
  Bx : Nat
  nb : Nat
  lv : Value
  k : Nat
  xs : List Value
  s : ByteArray
structure CvOk (C : Cv) : Prop where
  size : 29 ≤ C.a0.tmps.size
  e4 : C.a0.eval (.tmp 4) = .pointer (some ⟨C.L, 0, none⟩)
  e5 : C.a0.eval (.tmp 5) = .pointer (some ⟨C.Bx, 0, none⟩)
  hL : Boxed C.W0 C.L 34 C.lv
  hs : C.W0.cell? ⟨C.Bx, 1, none⟩ = some (.string C.s)
  own : C.W0.ownsRow C.nb 9 1 C.lv C.k C.xs
  nL : C.lv.ownBlock ≠ some C.L
  nB : C.lv.ownBlock ≠ some C.Bx
  LB : C.Bx ≠ C.L
  sz : C.s.size ≤ 281474976710656
  nb : C.nb ≤ C.W0.heap.size
  kk : C.k ≤ 1000000
/-- What stands while the operations run. -/
structure Fv (C : Cv) (l : Array Bool) (val : Nat → Value) (w : World) : Prop where
  os : w.os = C.W0.os
  tape : w.tape = C.W0.tape
  output : w.output = C.W0.output
  size : C.W0.heap.size ≤ w.heap.size
  block : ∀ i, i < C.W0.heap.size → some i ≠ C.lv.ownBlock → i ≠ C.L → w.heap[i]? = C.W0.heap[i]?
  v0 : l.getD 0 false = true → val 0 = C.lv
  v1 : l.getD 1 false = true → val 1 = .pointer (some ⟨C.Bx, 1, none⟩)
  v2 : l.getD 2 false = true → val 2 = .string C.s
  v3 : l.getD 3 false = true → val 3 = .string C.s
  v4 : l.getD 4 false = true → l.getD 5 false = false → ∃ kb, val 4 = .slice (some ⟨kb, 0, none⟩) 1 1 ∧ C.W0.heap.size ≤ kb ∧ w.heap[kb]? = some (.cells #[.string C.s] 9 (0, 0))
  k2 : l.getD 2 false = true → l.getD 1 false = true
  k3 : l.getD 3 false = true → l.getD 2 false = true
  k4 : l.getD 4 false = true → l.getD 3 false = true
  k5 : l.getD 5 false = true → l.getD 0 false = true ∧ l.getD 4 false = true
  k6 : l.getD 6 false = true → l.getD 5 false = true
  own : l.getD 5 false = false → w.ownsRow C.nb 9 1 C.lv C.k C.xs
  own5 : l.getD 5 false = true → w.ownsRow C.nb 9 1 (val 5) (C.k + 1) (C.xs ++ [.string C.s]) ∧ ((val 5).ownBlock = C.lv.ownBlock ∨ ∃ g, (val 5).ownBlock = some g ∧ C.W0.heap.size ≤ g)
  box : l.getD 6 false = false → Boxed w C.L 34 C.lv
  box6 : l.getD 6 false = true → Boxed w C.L 34 (val 5)
theorem CvOk.lt {C : Cv} (ok : CvOk C) : C.L < C.W0.heap.size := ok.hL.lt
def St8 (P : Program) (Q : Exit → Act → World → Prop) (C : Cv) (i : Nat) (o : Oper) : Prop :=
  ∀ l val w, CvOk C → Fv C l val w → l.size = 7 → l.getD i false = false → (∀ e ∈ o.after, Region.binds .any e = true → l.getD e.on false = true) →
    ∀ (A : Act) (K : Act → World → Prop), A = actsL D8 l val (List.range 7) C.a0 → (∀ v w', Fv C (l.setIfInBounds i true) (updV val i v) w' → K (A.put o.dst v) w') → o.wp P A w K Q
def depB8 (o : Oper) (js : List Nat) : Bool := js.all fun j => o.after.any fun e => e.on == j && Region.binds .any e
theorem dep8 {o : Oper} {js : List Nat} (h : depB8 o js = true) {l : Array Bool} (hd : ∀ e ∈ o.after, Region.binds .any e = true → l.getD e.on false = true) : ∀ j ∈ js, l.getD j false = true := by
  intro j hj
  unfold depB8 at h
  rw [List.all_eq_true] at h
  have := h j hj
  rw [← Array.any_toList, List.any_eq_true] at this
  obtain ⟨e, he, h2⟩ := this
  have he := Array.mem_toList_iff.1 he
  rw [Bool.and_eq_true] at h2
  have e1 : e.on = j := by simpa using h2.1
  rw [← e1]
  exact hd e he h2.2
theorem ev8 {C : Cv} {l : Array Bool} {val : Nat → Value} {A : Act} (hA : A = actsL D8 l val (List.range 7) C.a0) (hs : 29 ≤ C.a0.tmps.size) {i s : Nat} (hl : l.getD i false = true) (hD : D8 i = some s) (hi : i < 7) (hs2 : s < 29) (hu : ∀ j ∈ List.range 7, j ≠ i → D8 j ≠ some s) : A.eval (.tmp s) = val i := by
  rw [hA]
  exact actsL_eval hl hD _ _ (List.mem_range.2 hi) List.nodup_range hu (Nat.lt_of_lt_of_le hs2 hs)
theorem far8 {C : Cv} {l : Array Bool} {val : Nat → Value} {A : Act} (hA : A = actsL D8 l val (List.range 7) C.a0) {s : Nat} (hu : ∀ j ∈ List.range 7, D8 j ≠ some s) : A.eval (.tmp s) = C.a0.eval (.tmp s) := by
  rw [hA]
  exact actsL_far _ _ hu
theorem fls8 {b : Bool} (h : ¬ b = true) : b = false := by cases b <;> simp_all
theorem mono8 {l : Array Bool} {i j : Nat} (hi : i < l.size) (h : l.getD j false = true) : (l.setIfInBounds i true).getD j false = true := by
  by_cases e : j = i
  · subst e; exact getD_same hi
  · rw [getD_set e]; exact h
/-- An operation ahead of the append that makes but new blocks. -/
theorem Fv.grow {C : Cv} {l : Array Bool} {val : Nat → Value} {w w' : World} {i : Nat} {v : Value} (hF : Fv C l val w) (hl : l.size = 7) (hi : i < 5) (h5 : l.getD 5 false = false) (hb : Below w.heap.size w w') (ok : CvOk C)
    (hk : (i = 2 → l.getD 1 false = true) ∧ (i = 3 → l.getD 2 false = true) ∧ (i = 4 → l.getD 3 false = true)) (n0 : i = 0 → v = C.lv) (n1 : i = 1 → v = .pointer (some ⟨C.Bx, 1, none⟩)) (n2 : i = 2 → v = .string C.s) (n3 : i = 3 → v = .string C.s) (n4 : i = 4 → ∃ kb, v = .slice (some ⟨kb, 0, none⟩) 1 1 ∧ C.W0.heap.size ≤ kb ∧ w'.heap[kb]? = some (.cells #[.string C.s] 9 (0, 0))) : Fv C (l.setIfInBounds i true) (updV val i v) w' := by
  have hi' : i < l.size := by omega
  have h6 : l.getD 6 false = false := fls8 fun h => by have := hF.k6 h; rw [h5] at this; cases this
  have g5 : (l.setIfInBounds i true).getD 5 false = false := by rw [getD_set (by omega)]; exact h5
  have g6 : (l.setIfInBounds i true).getD 6 false = false := by rw [getD_set (by omega)]; exact h6
  have keep : ∀ {j : Nat} {p : Value → Prop}, (l.setIfInBounds i true).getD j false = true → (j = i → p v) → (l.getD j false = true → p (val j)) → p (updV val i v j) := by
    intro j p h h1 h2
    by_cases e : j = i
    · subst e; rw [updV_same]; exact h1 rfl
    · rw [updV_other _ _ e]; rw [getD_set e] at h; exact h2 h
  have kk : ∀ (j j' : Nat), (i = j → l.getD j' false = true) → (l.getD j false = true → l.getD j' false = true) → (l.setIfInBounds i true).getD j false = true → (l.setIfInBounds i true).getD j' false = true := by
    intro j j' h1 h2 h
    by_cases e : j = i
    · exact mono8 hi' (h1 e.symm)
    · rw [getD_set e] at h; exact mono8 hi' (h2 h)
  refine ⟨hb.os.trans hF.os, hb.tape.trans hF.tape, hb.output.trans hF.output, Nat.le_trans hF.size hb.size, fun j hj h1 h2 => (hb.block j (Nat.lt_of_lt_of_le hj hF.size)).trans (hF.block j hj h1 h2),
    fun h => keep (p := fun x => x = C.lv) h (fun e => n0 e.symm) hF.v0, fun h => keep (p := fun x => x = _) h (fun e => n1 e.symm) hF.v1, fun h => keep (p := fun x => x = _) h (fun e => n2 e.symm) hF.v2, fun h => keep (p := fun x => x = _) h (fun e => n3 e.symm) hF.v3,
    fun h _ => keep (p := fun x => ∃ kb, x = .slice (some ⟨kb, 0, none⟩) 1 1 ∧ C.W0.heap.size ≤ kb ∧ w'.heap[kb]? = some (.cells #[.string C.s] 9 (0, 0))) h (fun e => n4 e.symm) (fun h4 => ?_),
    kk 2 1 hk.1 hF.k2, kk 3 2 hk.2.1 hF.k3, kk 4 3 hk.2.2 hF.k4, fun h => (by rw [g5] at h; cases h), fun h => (by rw [g6] at h; cases h), fun _ => own_below (hF.own h5) hb, fun h => (by rw [g5] at h; cases h), fun _ => ?_, fun h => (by rw [g6] at h; cases h)⟩
  · obtain ⟨kb, e1, e2, e3⟩ := hF.v4 h4 h5
    exact ⟨kb, e1, e2, (hb.block kb (Array.getElem?_eq_some_iff.1 e3).1).trans e3⟩
  · exact (hb.block C.L (Nat.lt_of_lt_of_le ok.lt hF.size)).trans (hF.box h6)
theorem st8_0 {Q : Exit → Act → World → Prop} {C : Cv} {o : Oper} (hop : o.op = .load 34 (.tmp 4)) : St8 Tryd.prog Q C 0 o := by
  intro l val w ok hF hl hf hd A K hA hK
  have h5 : l.getD 5 false = false := fls8 fun h => by have := (hF.k5 h).1; rw [hf] at this; cases this
  have h6 : l.getD 6 false = false := fls8 fun h => by have := hF.k6 h; rw [h5] at this; cases this
  have e8 : A.eval (.tmp 4) = .pointer (some ⟨C.L, 0, none⟩) := (far8 hA (by decide)).trans ok.e4
  have e8' := (show A.tmps.getD _ undef = _ from e8)
  rw [Array.getD_eq_getD_getElem?] at e8'
  have hc := (hF.box h6).cell
  unfold Oper.wp
  clear hA hd
  simp [execOp, hop, e8', hc, go_sem, Result.andThen]
  exact hK _ _ (hF.grow hl (by decide) h5 (Below.refl _ _) ok ⟨fun e => absurd e (by decide), fun e => absurd e (by decide), fun e => absurd e (by decide)⟩ (fun _ => rfl) (fun e => absurd e (by decide)) (fun e => absurd e (by decide)) (fun e => absurd e (by decide)) (fun e => absurd e (by decide)))
theorem st8_1 {Q : Exit → Act → World → Prop} {C : Cv} {o : Oper} (hop : o.op = .fieldAddr 43 (.tmp 5) 1) : St8 Tryd.prog Q C 1 o := by
  intro l val w ok hF hl hf hd A K hA hK
  have f2 : l.getD 2 false = false := fls8 fun h => by have := hF.k2 h; rw [hf] at this; cases this
  have f3 : l.getD 3 false = false := fls8 fun h => by have := hF.k3 h; rw [f2] at this; cases this
  have f4 : l.getD 4 false = false := fls8 fun h => by have := hF.k4 h; rw [f3] at this; cases this
  have h5 : l.getD 5 false = false := fls8 fun h => by have := (hF.k5 h).2; rw [f4] at this; cases this
  have e8 : A.eval (.tmp 5) = .pointer (some ⟨C.Bx, 0, none⟩) := (far8 hA (by decide)).trans ok.e5
  have e8' := (show A.tmps.getD _ undef = _ from e8)
  rw [Array.getD_eq_getD_getElem?] at e8'
  unfold Oper.wp
  clear hA hd
  simp [execOp, hop, e8', go_sem, Result.andThen]
  exact hK _ _ (hF.grow hl (by decide) h5 (Below.refl _ _) ok ⟨fun e => absurd e (by decide), fun e => absurd e (by decide), fun e => absurd e (by decide)⟩ (fun e => absurd e (by decide)) (fun _ => rfl) (fun e => absurd e (by decide)) (fun e => absurd e (by decide)) (fun e => absurd e (by decide)))
theorem st8_2 {Q : Exit → Act → World → Prop} {C : Cv} {o : Oper} (hop : o.op = .load 9 (.tmp 24)) (hdep : depB8 o [1] = true) : St8 Tryd.prog Q C 2 o := by
  intro l val w ok hF hl hf hd A K hA hK
  have l1 := dep8 hdep hd 1 (by simp)
  have f3 : l.getD 3 false = false := fls8 fun h => by have := hF.k3 h; rw [hf] at this; cases this
  have f4 : l.getD 4 false = false := fls8 fun h => by have := hF.k4 h; rw [f3] at this; cases this
  have h5 : l.getD 5 false = false := fls8 fun h => by have := (hF.k5 h).2; rw [f4] at this; cases this
  have e8 : A.eval (.tmp 24) = .pointer (some ⟨C.Bx, 1, none⟩) := (ev8 hA ok.size l1 rfl (by decide) (by decide) (by decide)).trans (hF.v1 l1)
  have e8' := (show A.tmps.getD _ undef = _ from e8)
  rw [Array.getD_eq_getD_getElem?] at e8'
  have hBx : C.Bx < C.W0.heap.size := World.block_lt_of_cell? _ _ ok.hs
  have hc : w.cell? ⟨C.Bx, 1, none⟩ = some (.string C.s) := (World.cell?_of_block (hF.block C.Bx hBx (fun e => ok.nB e.symm) ok.LB)).trans ok.hs
  unfold Oper.wp
  clear hA hd
  simp [execOp, hop, e8', hc, go_sem, Result.andThen]
  exact hK _ _ (hF.grow hl (by decide) h5 (Below.refl _ _) ok ⟨fun _ => l1, fun e => absurd e (by decide), fun e => absurd e (by decide)⟩ (fun e => absurd e (by decide)) (fun e => absurd e (by decide)) (fun _ => rfl) (fun e => absurd e (by decide)) (fun e => absurd e (by decide)))
theorem st8_3 {Q : Exit → Act → World → Prop} {C : Cv} {o : Oper} (hop : o.op = .call { callee := .value (.func 62), args := #[.tmp 25], argTypes := #[9] }) (hdep : depB8 o [2] = true) : St8 Tryd.prog Q C 3 o := by
  intro l val w ok hF hl hf hd A K hA hK
  have l2 := dep8 hdep hd 2 (by simp)
  have f4 : l.getD 4 false = false := fls8 fun h => by have := hF.k4 h; rw [hf] at this; cases this
  have h5 : l.getD 5 false = false := fls8 fun h => by have := (hF.k5 h).2; rw [f4] at this; cases this
  have e8 : A.eval (.tmp 25) = .string C.s := (ev8 hA ok.size l2 rfl (by decide) (by decide) (by decide)).trans (hF.v2 l2)
  have e8' := (show A.tmps.getD _ undef = _ from e8)
  rw [Array.getD_eq_getD_getElem?] at e8'
  have HCl := dclone_c C.s w ok.sz
  unfold Oper.wp
  clear hA hd
  simp [execOp, hop, e8', go_sem, Result.andThen]
  refine HCl.mono ?_
  rintro e w1 ⟨rfl, b1⟩
  exact hK (.string C.s) w1 (hF.grow hl (by decide) h5 b1 ok ⟨fun e => absurd e (by decide), fun _ => l2, fun e => absurd e (by decide)⟩ (fun e => absurd e (by decide)) (fun e => absurd e (by decide)) (fun e => absurd e (by decide)) (fun _ => rfl) (fun e => absurd e (by decide)))
theorem st8_4 {Q : Exit → Act → World → Prop} {C : Cv} {o : Oper} (hop : o.op = .buildSlice 34 1 #[(0, .tmp 26)]) (hdep : depB8 o [3] = true) : St8 Tryd.prog Q C 4 o := by
  intro l val w ok hF hl hf hd A K hA hK
  have l3 := dep8 hdep hd 3 (by simp)
  have h5 : l.getD 5 false = false := fls8 fun h => by have := (hF.k5 h).2; rw [hf] at this; cases this
  have e8 : A.eval (.tmp 26) = .string C.s := (ev8 hA ok.size l3 rfl (by decide) (by decide) (by decide)).trans (hF.v3 l3)
  have e8' := (show A.tmps.getD _ undef = _ from e8)
  rw [Array.getD_eq_getD_getElem?] at e8'
  unfold Oper.wp
  clear hA hd
  simp [execOp, hop, e8', go_sem, Result.andThen]
  exact hK (.slice (some ⟨w.heap.size, 0, none⟩) 1 1) _ (hF.grow hl (by decide) h5 ((Below.refl _ _).alloc (Nat.le_refl _) _) ok ⟨fun e => absurd e (by decide), fun e => absurd e (by decide), fun _ => l3⟩ (fun e => absurd e (by decide)) (fun e => absurd e (by decide)) (fun e => absurd e (by decide)) (fun e => absurd e (by decide)) (fun _ => ⟨w.heap.size, rfl, hF.size, World.alloc_heap_new w _⟩))
theorem st8_5 {Q : Exit → Act → World → Prop} {C : Cv} {o : Oper} (hop : o.op = .call { callee := .builtin .append, args := #[.tmp 23, .tmp 27], argTypes := #[34, 34] }) (hdep : depB8 o [0, 4] = true) : St8 Tryd.prog Q C 5 o := by
  intro l val w ok hF hl hf hd A K hA hK
  have l0 := dep8 hdep hd 0 (by simp)
  have l4 := dep8 hdep hd 4 (by simp)
  have h6 : l.getD 6 false = false := fls8 fun h => by have := hF.k6 h; rw [hf] at this; cases this
  obtain ⟨i0, hi, hz0, hz1, hz2⟩ := info_parts infoSt
  obtain ⟨kb, e4, hkb, hrow⟩ := hF.v4 l4 hf
  have e1 : A.eval (.tmp 23) = C.lv := (ev8 hA ok.size l0 rfl (by decide) (by decide) (by decide)).trans (hF.v0 l0)
  have e2 : A.eval (.tmp 27) = .slice (some ⟨kb, 0, none⟩) 1 1 := (ev8 hA ok.size l4 rfl (by decide) (by decide) (by decide)).trans e4
  have hsp : Spread w 1 (.slice (some ⟨kb, 0, none⟩) 1 1) 1 [.string C.s] := .inr ⟨_, _, rfl, rfl, World.news_of_block hrow, fun u hu => by simp at hu; subst hu; rfl⟩
  have hk := ok.kk
  have hsz := hF.size
  have hnb := ok.nb
  refine wp_append_any w _ _ 34 hop C.nb 9 i0 _ 1 16 Tryd.underlying34 hi hz0 hz1 hz2 rfl (by decide) C.lv C.k C.xs e1 (hF.own hf) _ 1 _ e2 hsp (by unfold maxLen; omega) (by omega) (by omega) fun v' w' hown hg hloc => ?_
  have hi' : 5 < l.size := by omega
  have g6 : (l.setIfInBounds 5 true).getD 6 false = false := by rw [getD_set (by decide)]; exact h6
  refine hK v' w' ⟨hg.os.trans hF.os, hg.tape.trans hF.tape, hg.output.trans hF.output, Nat.le_trans hF.size hg.size, fun j hj h1 h2 => (hg.block j (Nat.lt_of_lt_of_le hj hF.size) h1).trans (hF.block j hj h1 h2),
    ?_, ?_, ?_, ?_, fun _ h => (by rw [getD_same hi'] at h; cases h), ?_, ?_, ?_, fun _ => ⟨mono8 hi' l0, mono8 hi' l4⟩, fun h => (by rw [g6] at h; cases h), fun h => (by rw [getD_same hi'] at h; cases h), fun _ => ?_, fun _ => ?_, fun h => (by rw [g6] at h; cases h)⟩
  · intro h; rw [getD_set (by decide)] at h; rw [updV_other _ _ (by decide)]; exact hF.v0 h
  · intro h; rw [getD_set (by decide)] at h; rw [updV_other _ _ (by decide)]; exact hF.v1 h
  · intro h; rw [getD_set (by decide)] at h; rw [updV_other _ _ (by decide)]; exact hF.v2 h
  · intro h; rw [getD_set (by decide)] at h; rw [updV_other _ _ (by decide)]; exact hF.v3 h
  · intro h; rw [getD_set (by decide)] at h; exact mono8 hi' (hF.k2 h)
  · intro h; rw [getD_set (by decide)] at h; exact mono8 hi' (hF.k3 h)
  · intro h; rw [getD_set (by decide)] at h; exact mono8 hi' (hF.k4 h)
  · rw [updV_same]
    exact ⟨hown, hloc.imp (fun h => h) (fun h => ⟨_, h, hF.size⟩)⟩
  · exact (hg.block C.L (Nat.lt_of_lt_of_le ok.lt hF.size) (fun e => ok.nL e.symm)).trans (hF.box h6)
theorem st8_6 {Q : Exit → Act → World → Prop} {C : Cv} {o : Oper} (hop : o.op = .store 34 (.tmp 4) (.tmp 28)) (hdep : depB8 o [5] = true) : St8 Tryd.prog Q C 6 o := by
  intro l val w ok hF hl hf hd A K hA hK
  have l5 := dep8 hdep hd 5 (by simp)
  have e8 : A.eval (.tmp 4) = .pointer (some ⟨C.L, 0, none⟩) := (far8 hA (by decide)).trans ok.e4
  obtain ⟨h1, h2⟩ := hF.own5 l5
  obtain ⟨g, cap, ev, _, _⟩ := h1.form (by omega)
  have e9 : A.eval (.tmp 28) = .slice (some ⟨g, 0, none⟩) (C.k + 1) cap := (ev8 hA ok.size l5 rfl (by decide) (by decide) (by decide)).trans ev
  have e8' := (show A.tmps.getD _ undef = _ from e8)
  rw [Array.getD_eq_getD_getElem?] at e8'
  have e9' := (show A.tmps.getD _ undef = _ from e9)
  rw [Array.getD_eq_getD_getElem?] at e9'
  have hbx := hF.box hf
  have hc := hbx.cell
  have hfz := hbx.frozen
  have hLw : C.L < w.heap.size := hbx.lt
  have hnL : (val 5).ownBlock ≠ some C.L := by
    rcases h2 with h | ⟨g, h, hg⟩
    · rw [h]; exact ok.nL
    · rw [h]; intro e; have := Option.some.inj e; have := ok.lt; omega
  unfold Oper.wp
  clear hA hd
  simp [execOp, hop, e8', e9', hc, hfz, hLw, go_sem, Result.andThen]
  have hi' : 6 < l.size := by omega
  refine hK undef _ ⟨hF.os, hF.tape, hF.output, by simpa [World.setCell] using hF.size, fun j hj h3 h4 => (Below.heap_setCell _ ⟨C.L, 0, none⟩ _ j h4).trans (hF.block j hj h3 h4),
    ?_, ?_, ?_, ?_, fun _ h => (by rw [getD_set (by decide), l5] at h; cases h), ?_, ?_, ?_, ?_, fun _ => mono8 hi' l5, fun h => (by rw [getD_set (by decide), l5] at h; cases h), fun _ => ?_, fun h => (by rw [getD_same hi'] at h; cases h), fun _ => ?_⟩
  · intro h; rw [getD_set (by decide)] at h; rw [updV_other _ _ (by decide)]; exact hF.v0 h
  · intro h; rw [getD_set (by decide)] at h; rw [updV_other _ _ (by decide)]; exact hF.v1 h
  · intro h; rw [getD_set (by decide)] at h; rw [updV_other _ _ (by decide)]; exact hF.v2 h
  · intro h; rw [getD_set (by decide)] at h; rw [updV_other _ _ (by decide)]; exact hF.v3 h
  · intro h; rw [getD_set (by decide)] at h; exact mono8 hi' (hF.k2 h)
  · intro h; rw [getD_set (by decide)] at h; exact mono8 hi' (hF.k3 h)
  · intro h; rw [getD_set (by decide)] at h; exact mono8 hi' (hF.k4 h)
  · intro h; rw [getD_set (by decide)] at h; exact ⟨mono8 hi' (hF.k5 h).1, mono8 hi' (hF.k5 h).2⟩
  · rw [updV_other _ _ (by decide)]
    exact ⟨h1.kept (grownBy_setCell' w C.L _) (.inr hnL), h2⟩
  · rw [updV_other _ _ (by decide), ev]
    exact hbx.set _
end Go.Proofs.YtbpdfmpfnbdeoaaDoor
