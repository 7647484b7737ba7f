/- dtype.varsOf's append of a name, in whatever order its operations come. dtype.varsOf's region 8 as a whole. What is known of types: of, learn, learnNumbers, learnAlike; the map's block is all that they turn. errors.Is of one sentinel and another; dtype.numberOf. What the laws of layer 5 read of the listed variables, all together. Lists of relations and of numbers among the arguments, opened. -/
import Derived.Test.YtfcfehflocglpaaDoorKAny
import Derived.Test.YtfcfehflocglpaaDoorKSpr
import Derived.RangeFuncNested
import Derived.RangeFuncBox
import Derived.Deep.AppendLies
import Derived.Test.YtfcfehflocglpaaDoorKTchk2
import Derived.Test.YtfcfehflocglpaaDoorKTshape2
import Derived.Stop.Asserts
import Derived.ChangeArms
import Derived.ChangeSame
namespace Go.Proofs.YtfcfehflocglpaaDoor
open Go.RowKit

theorem dclone_c (s : ByteArray) (w : World) (hs : s.size ≤ 281474976710656) :
    Calls Tryd.prog 62 #[.string s] w fun e w' => e = .returned (.string s) ∧ Below w.heap.size w w' := by
  go_enter Tryd.func62, Tryd.ntmps62
  go_wp2_with fail
  refine (Tryd.stringslite_Clone s _ hs).mono ?_
  rintro e w1 ⟨rfl, b1⟩
  go_wp2
  go_ret
  exact ⟨rfl, b1⟩
theorem infoSt : (Tryd.prog.info? 9).map (fun i => (i.zero, i.size, i.bytes)) = some (some (.string ⟨#[]⟩), 1, 16) := by kernel_rfl

def slots8 : List (Option Tmp) := [some 23, some 24, some 25, some 26, some 27, some 28, none]
def D8 (i : Nat) : Option Tmp := (slots8[i]?).join
structure Cv where
  W0 : World
  a0 : Act
  L : Nat
  Bx : Nat
  nb : Nat
  lv : Value
  k : Nat
  xs : List Value
  s : ByteArray
structure CvOk (C : Cv) : Prop where
  size : 29 ≤ C.a0.tmps.size
  e4 : C.a0.eval (.tmp 4) = .pointer (some ⟨C.L, 0, none⟩)
  e5 : C.a0.eval (.tmp 5) = .pointer (some ⟨C.Bx, 0, none⟩)
  hL : Boxed C.W0 C.L 34 C.lv
  hs : C.W0.cell? ⟨C.Bx, 1, none⟩ = some (.string C.s)
  own : C.W0.ownsRow C.nb 9 1 C.lv C.k C.xs
  nL : C.lv.ownBlock ≠ some C.L
  nB : C.lv.ownBlock ≠ some C.Bx
  LB : C.Bx ≠ C.L
  sz : C.s.size ≤ 281474976710656
  nb : C.nb ≤ C.W0.heap.size
  kk : C.k ≤ 1000000
/-- What stands while the operations run. -/
structure Fv (C : Cv) (l : Array Bool) (val : Nat → Value) (w : World) : Prop where
  os : w.os = C.W0.os
  tape : w.tape = C.W0.tape
  output : w.output = C.W0.output
  size : C.W0.heap.size ≤ w.heap.size
  block : ∀ i, i < C.W0.heap.size → some i ≠ C.lv.ownBlock → i ≠ C.L → w.heap[i]? = C.W0.heap[i]?
  v0 : l.getD 0 false = true → val 0 = C.lv
  v1 : l.getD 1 false = true → val 1 = .pointer (some ⟨C.Bx, 1, none⟩)
  v2 : l.getD 2 false = true → val 2 = .string C.s
  v3 : l.getD 3 false = true → val 3 = .string C.s
  v4 : l.getD 4 false = true → l.getD 5 false = false → ∃ kb, val 4 = .slice (some ⟨kb, 0, none⟩) 1 1 ∧ C.W0.heap.size ≤ kb ∧ w.heap[kb]? = some (.cells #[.string C.s] 9 (0, 0))
  k2 : l.getD 2 false = true → l.getD 1 false = true
  k3 : l.getD 3 false = true → l.getD 2 false = true
  k4 : l.getD 4 false = true → l.getD 3 false = true
  k5 : l.getD 5 false = true → l.getD 0 false = true ∧ l.getD 4 false = true
  k6 : l.getD 6 false = true → l.getD 5 false = true
  own : l.getD 5 false = false → w.ownsRow C.nb 9 1 C.lv C.k C.xs
  own5 : l.getD 5 false = true → w.ownsRow C.nb 9 1 (val 5) (C.k + 1) (C.xs ++ [.string C.s]) ∧ ((val 5).ownBlock = C.lv.ownBlock ∨ ∃ g, (val 5).ownBlock = some g ∧ C.W0.heap.size ≤ g)
  box : l.getD 6 false = false → Boxed w C.L 34 C.lv
  box6 : l.getD 6 false = true → Boxed w C.L 34 (val 5)
theorem CvOk.lt {C : Cv} (ok : CvOk C) : C.L < C.W0.heap.size := ok.hL.lt
def St8 (P : Program) (Q : Exit → Act → World → Prop) (C : Cv) (i : Nat) (o : Oper) : Prop :=
  ∀ l val w, CvOk C → Fv C l val w → l.size = 7 → l.getD i false = false → (∀ e ∈ o.after, Region.binds .any e = true → l.getD e.on false = true) →
    ∀ (A : Act) (K : Act → World → Prop), A = actsL D8 l val (List.range 7) C.a0 → (∀ v w', Fv C (l.setIfInBounds i true) (updV val i v) w' → K (A.put o.dst v) w') → o.wp P A w K Q
def depB8 (o : Oper) (js : List Nat) : Bool := js.all fun j => o.after.any fun e => e.on == j && Region.binds .any e
theorem dep8 {o : Oper} {js : List Nat} (h : depB8 o js = true) {l : Array Bool} (hd : ∀ e ∈ o.after, Region.binds .any e = true → l.getD e.on false = true) : ∀ j ∈ js, l.getD j false = true := by
  intro j hj
  unfold depB8 at h
  rw [List.all_eq_true] at h
  have := h j hj
  rw [← Array.any_toList, List.any_eq_true] at this
  obtain ⟨e, he, h2⟩ := this
  have he := Array.mem_toList_iff.1 he
  rw [Bool.and_eq_true] at h2
  have e1 : e.on = j := by simpa using h2.1
  rw [← e1]
  exact hd e he h2.2
theorem ev8 {C : Cv} {l : Array Bool} {val : Nat → Value} {A : Act} (hA : A = actsL D8 l val (List.range 7) C.a0) (hs : 29 ≤ C.a0.tmps.size) {i s : Nat} (hl : l.getD i false = true) (hD : D8 i = some s) (hi : i < 7) (hs2 : s < 29) (hu : ∀ j ∈ List.range 7, j ≠ i → D8 j ≠ some s) : A.eval (.tmp s) = val i := by
  rw [hA]
  exact actsL_eval hl hD _ _ (List.mem_range.2 hi) List.nodup_range hu (Nat.lt_of_lt_of_le hs2 hs)
theorem far8 {C : Cv} {l : Array Bool} {val : Nat → Value} {A : Act} (hA : A = actsL D8 l val (List.range 7) C.a0) {s : Nat} (hu : ∀ j ∈ List.range 7, D8 j ≠ some s) : A.eval (.tmp s) = C.a0.eval (.tmp s) := by
  rw [hA]
  exact actsL_far _ _ hu
theorem fls8 {b : Bool} (h : ¬ b = true) : b = false := by cases b <;> simp_all
theorem mono8 {l : Array Bool} {i j : Nat} (hi : i < l.size) (h : l.getD j false = true) : (l.setIfInBounds i true).getD j false = true := by
  by_cases e : j = i
  · subst e; exact getD_same hi
  · rw [getD_set e]; exact h
/-- An operation ahead of the append that makes but new blocks. -/
theorem Fv.grow {C : Cv} {l : Array Bool} {val : Nat → Value} {w w' : World} {i : Nat} {v : Value} (hF : Fv C l val w) (hl : l.size = 7) (hi : i < 5) (h5 : l.getD 5 false = false) (hb : Below w.heap.size w w') (ok : CvOk C)
    (hk : (i = 2 → l.getD 1 false = true) ∧ (i = 3 → l.getD 2 false = true) ∧ (i = 4 → l.getD 3 false = true)) (n0 : i = 0 → v = C.lv) (n1 : i = 1 → v = .pointer (some ⟨C.Bx, 1, none⟩)) (n2 : i = 2 → v = .string C.s) (n3 : i = 3 → v = .string C.s) (n4 : i = 4 → ∃ kb, v = .slice (some ⟨kb, 0, none⟩) 1 1 ∧ C.W0.heap.size ≤ kb ∧ w'.heap[kb]? = some (.cells #[.string C.s] 9 (0, 0))) : Fv C (l.setIfInBounds i true) (updV val i v) w' := by
  have hi' : i < l.size := by omega
  have h6 : l.getD 6 false = false := fls8 fun h => by have := hF.k6 h; rw [h5] at this; cases this
  have g5 : (l.setIfInBounds i true).getD 5 false = false := by rw [getD_set (by omega)]; exact h5
  have g6 : (l.setIfInBounds i true).getD 6 false = false := by rw [getD_set (by omega)]; exact h6
  have keep : ∀ {j : Nat} {p : Value → Prop}, (l.setIfInBounds i true).getD j false = true → (j = i → p v) → (l.getD j false = true → p (val j)) → p (updV val i v j) := by
    intro j p h h1 h2
    by_cases e : j = i
    · subst e; rw [updV_same]; exact h1 rfl
    · rw [updV_other _ _ e]; rw [getD_set e] at h; exact h2 h
  have kk : ∀ (j j' : Nat), (i = j → l.getD j' false = true) → (l.getD j false = true → l.getD j' false = true) → (l.setIfInBounds i true).getD j false = true → (l.setIfInBounds i true).getD j' false = true := by
    intro j j' h1 h2 h
    by_cases e : j = i
    · exact mono8 hi' (h1 e.symm)
    · rw [getD_set e] at h; exact mono8 hi' (h2 h)
  refine ⟨hb.os.trans hF.os, hb.tape.trans hF.tape, hb.output.trans hF.output, Nat.le_trans hF.size hb.size, fun j hj h1 h2 => (hb.block j (Nat.lt_of_lt_of_le hj hF.size)).trans (hF.block j hj h1 h2),
    fun h => keep (p := fun x => x = C.lv) h (fun e => n0 e.symm) hF.v0, fun h => keep (p := fun x => x = _) h (fun e => n1 e.symm) hF.v1, fun h => keep (p := fun x => x = _) h (fun e => n2 e.symm) hF.v2, fun h => keep (p := fun x => x = _) h (fun e => n3 e.symm) hF.v3,
    fun h _ => keep (p := fun x => ∃ kb, x = .slice (some ⟨kb, 0, none⟩) 1 1 ∧ C.W0.heap.size ≤ kb ∧ w'.heap[kb]? = some (.cells #[.string C.s] 9 (0, 0))) h (fun e => n4 e.symm) (fun h4 => ?_),
    kk 2 1 hk.1 hF.k2, kk 3 2 hk.2.1 hF.k3, kk 4 3 hk.2.2 hF.k4, fun h => (by rw [g5] at h; cases h), fun h => (by rw [g6] at h; cases h), fun _ => own_below (hF.own h5) hb, fun h => (by rw [g5] at h; cases h), fun _ => ?_, fun h => (by rw [g6] at h; cases h)⟩
  · obtain ⟨kb, e1, e2, e3⟩ := hF.v4 h4 h5
    exact ⟨kb, e1, e2, (hb.block kb (Array.getElem?_eq_some_iff.1 e3).1).trans e3⟩
  · exact (hb.block C.L (Nat.lt_of_lt_of_le ok.lt hF.size)).trans (hF.box h6)
theorem st8_0 {Q : Exit → Act → World → Prop} {C : Cv} {o : Oper} (hop : o.op = .load 34 (.tmp 4)) : St8 Tryd.prog Q C 0 o := by
  intro l val w ok hF hl hf hd A K hA hK
  have h5 : l.getD 5 false = false := fls8 fun h => by have := (hF.k5 h).1; rw [hf] at this; cases this
  have h6 : l.getD 6 false = false := fls8 fun h => by have := hF.k6 h; rw [h5] at this; cases this
  have e8 : A.eval (.tmp 4) = .pointer (some ⟨C.L, 0, none⟩) := (far8 hA (by decide)).trans ok.e4
  have e8' := (show A.tmps.getD _ undef = _ from e8)
  rw [Array.getD_eq_getD_getElem?] at e8'
  have hc := (hF.box h6).cell
  unfold Oper.wp
  clear hA hd
  simp [execOp, hop, e8', hc, go_sem, Result.andThen]
  exact hK _ _ (hF.grow hl (by decide) h5 (Below.refl _ _) ok ⟨fun e => absurd e (by decide), fun e => absurd e (by decide), fun e => absurd e (by decide)⟩ (fun _ => rfl) (fun e => absurd e (by decide)) (fun e => absurd e (by decide)) (fun e => absurd e (by decide)) (fun e => absurd e (by decide)))
theorem st8_1 {Q : Exit → Act → World → Prop} {C : Cv} {o : Oper} (hop : o.op = .fieldAddr 43 (.tmp 5) 1) : St8 Tryd.prog Q C 1 o := by
  intro l val w ok hF hl hf hd A K hA hK
  have f2 : l.getD 2 false = false := fls8 fun h => by have := hF.k2 h; rw [hf] at this; cases this
  have f3 : l.getD 3 false = false := fls8 fun h => by have := hF.k3 h; rw [f2] at this; cases this
  have f4 : l.getD 4 false = false := fls8 fun h => by have := hF.k4 h; rw [f3] at this; cases this
  have h5 : l.getD 5 false = false := fls8 fun h => by have := (hF.k5 h).2; rw [f4] at this; cases this
  have e8 : A.eval (.tmp 5) = .pointer (some ⟨C.Bx, 0, none⟩) := (far8 hA (by decide)).trans ok.e5
  have e8' := (show A.tmps.getD _ undef = _ from e8)
  rw [Array.getD_eq_getD_getElem?] at e8'
  unfold Oper.wp
  clear hA hd
  simp [execOp, hop, e8', go_sem, Result.andThen]
  exact hK _ _ (hF.grow hl (by decide) h5 (Below.refl _ _) ok ⟨fun e => absurd e (by decide), fun e => absurd e (by decide), fun e => absurd e (by decide)⟩ (fun e => absurd e (by decide)) (fun _ => rfl) (fun e => absurd e (by decide)) (fun e => absurd e (by decide)) (fun e => absurd e (by decide)))
theorem st8_2 {Q : Exit → Act → World → Prop} {C : Cv} {o : Oper} (hop : o.op = .load 9 (.tmp 24)) (hdep : depB8 o [1] = true) : St8 Tryd.prog Q C 2 o := by
  intro l val w ok hF hl hf hd A K hA hK
  have l1 := dep8 hdep hd 1 (by simp)
  have f3 : l.getD 3 false = false := fls8 fun h => by have := hF.k3 h; rw [hf] at this; cases this
  have f4 : l.getD 4 false = false := fls8 fun h => by have := hF.k4 h; rw [f3] at this; cases this
  have h5 : l.getD 5 false = false := fls8 fun h => by have := (hF.k5 h).2; rw [f4] at this; cases this
  have e8 : A.eval (.tmp 24) = .pointer (some ⟨C.Bx, 1, none⟩) := (ev8 hA ok.size l1 rfl (by decide) (by decide) (by decide)).trans (hF.v1 l1)
  have e8' := (show A.tmps.getD _ undef = _ from e8)
  rw [Array.getD_eq_getD_getElem?] at e8'
  have hBx : C.Bx < C.W0.heap.size := World.block_lt_of_cell? _ _ ok.hs
  have hc : w.cell? ⟨C.Bx, 1, none⟩ = some (.string C.s) := (World.cell?_of_block (hF.block C.Bx hBx (fun e => ok.nB e.symm) ok.LB)).trans ok.hs
  unfold Oper.wp
  clear hA hd
  simp [execOp, hop, e8', hc, go_sem, Result.andThen]
  exact hK _ _ (hF.grow hl (by decide) h5 (Below.refl _ _) ok ⟨fun _ => l1, fun e => absurd e (by decide), fun e => absurd e (by decide)⟩ (fun e => absurd e (by decide)) (fun e => absurd e (by decide)) (fun _ => rfl) (fun e => absurd e (by decide)) (fun e => absurd e (by decide)))
theorem st8_3 {Q : Exit → Act → World → Prop} {C : Cv} {o : Oper} (hop : o.op = .call { callee := .value (.func 62), args := #[.tmp 25], argTypes := #[9] }) (hdep : depB8 o [2] = true) : St8 Tryd.prog Q C 3 o := by
  intro l val w ok hF hl hf hd A K hA hK
  have l2 := dep8 hdep hd 2 (by simp)
  have f4 : l.getD 4 false = false := fls8 fun h => by have := hF.k4 h; rw [hf] at this; cases this
  have h5 : l.getD 5 false = false := fls8 fun h => by have := (hF.k5 h).2; rw [f4] at this; cases this
  have e8 : A.eval (.tmp 25) = .string C.s := (ev8 hA ok.size l2 rfl (by decide) (by decide) (by decide)).trans (hF.v2 l2)
  have e8' := (show A.tmps.getD _ undef = _ from e8)
  rw [Array.getD_eq_getD_getElem?] at e8'
  have HCl := dclone_c C.s w ok.sz
  unfold Oper.wp
  clear hA hd
  simp [execOp, hop, e8', go_sem, Result.andThen]
  refine HCl.mono ?_
  rintro e w1 ⟨rfl, b1⟩
  exact hK (.string C.s) w1 (hF.grow hl (by decide) h5 b1 ok ⟨fun e => absurd e (by decide), fun _ => l2, fun e => absurd e (by decide)⟩ (fun e => absurd e (by decide)) (fun e => absurd e (by decide)) (fun e => absurd e (by decide)) (fun _ => rfl) (fun e => absurd e (by decide)))
theorem st8_4 {Q : Exit → Act → World → Prop} {C : Cv} {o : Oper} (hop : o.op = .buildSlice 34 1 #[(0, .tmp 26)]) (hdep : depB8 o [3] = true) : St8 Tryd.prog Q C 4 o := by
  intro l val w ok hF hl hf hd A K hA hK
  have l3 := dep8 hdep hd 3 (by simp)
  have h5 : l.getD 5 false = false := fls8 fun h => by have := (hF.k5 h).2; rw [hf] at this; cases this
  have e8 : A.eval (.tmp 26) = .string C.s := (ev8 hA ok.size l3 rfl (by decide) (by decide) (by decide)).trans (hF.v3 l3)
  have e8' := (show A.tmps.getD _ undef = _ from e8)
  rw [Array.getD_eq_getD_getElem?] at e8'
  unfold Oper.wp
  clear hA hd
  simp [execOp, hop, e8', go_sem, Result.andThen]
  exact hK (.slice (some ⟨w.heap.size, 0, none⟩) 1 1) _ (hF.grow hl (by decide) h5 ((Below.refl _ _).alloc (Nat.le_refl _) _) ok ⟨fun e => absurd e (by decide), fun e => absurd e (by decide), fun _ => l3⟩ (fun e => absurd e (by decide)) (fun e => absurd e (by decide)) (fun e => absurd e (by decide)) (fun e => absurd e (by decide)) (fun _ => ⟨w.heap.size, rfl, hF.size, World.alloc_heap_new w _⟩))
theorem st8_5 {Q : Exit → Act → World → Prop} {C : Cv} {o : Oper} (hop : o.op = .call { callee := .builtin .append, args := #[.tmp 23, .tmp 27], argTypes := #[34, 34] }) (hdep : depB8 o [0, 4] = true) : St8 Tryd.prog Q C 5 o := by
  intro l val w ok hF hl hf hd A K hA hK
  have l0 := dep8 hdep hd 0 (by simp)
  have l4 := dep8 hdep hd 4 (by simp)
  have h6 : l.getD 6 false = false := fls8 fun h => by have := hF.k6 h; rw [hf] at this; cases this
  obtain ⟨i0, hi, hz0, hz1, hz2⟩ := info_parts infoSt
  obtain ⟨kb, e4, hkb, hrow⟩ := hF.v4 l4 hf
  have e1 : A.eval (.tmp 23) = C.lv := (ev8 hA ok.size l0 rfl (by decide) (by decide) (by decide)).trans (hF.v0 l0)
  have e2 : A.eval (.tmp 27) = .slice (some ⟨kb, 0, none⟩) 1 1 := (ev8 hA ok.size l4 rfl (by decide) (by decide) (by decide)).trans e4
  have hsp : Spread w 1 (.slice (some ⟨kb, 0, none⟩) 1 1) 1 [.string C.s] := .inr ⟨_, _, rfl, rfl, World.news_of_block hrow, fun u hu => by simp at hu; subst hu; rfl⟩
  have hk := ok.kk
  have hsz := hF.size
  have hnb := ok.nb
  refine wp_append_any w _ _ 34 hop C.nb 9 i0 _ 1 16 Tryd.underlying34 hi hz0 hz1 hz2 rfl (by decide) C.lv C.k C.xs e1 (hF.own hf) _ 1 _ e2 hsp (by unfold maxLen; omega) (by omega) (by omega) fun v' w' hown hg hloc => ?_
  have hi' : 5 < l.size := by omega
  have g6 : (l.setIfInBounds 5 true).getD 6 false = false := by rw [getD_set (by decide)]; exact h6
  refine hK v' w' ⟨hg.os.trans hF.os, hg.tape.trans hF.tape, hg.output.trans hF.output, Nat.le_trans hF.size hg.size, fun j hj h1 h2 => (hg.block j (Nat.lt_of_lt_of_le hj hF.size) h1).trans (hF.block j hj h1 h2),
    ?_, ?_, ?_, ?_, fun _ h => (by rw [getD_same hi'] at h; cases h), ?_, ?_, ?_, fun _ => ⟨mono8 hi' l0, mono8 hi' l4⟩, fun h => (by rw [g6] at h; cases h), fun h => (by rw [getD_same hi'] at h; cases h), fun _ => ?_, fun _ => ?_, fun h => (by rw [g6] at h; cases h)⟩
  · intro h; rw [getD_set (by decide)] at h; rw [updV_other _ _ (by decide)]; exact hF.v0 h
  · intro h; rw [getD_set (by decide)] at h; rw [updV_other _ _ (by decide)]; exact hF.v1 h
  · intro h; rw [getD_set (by decide)] at h; rw [updV_other _ _ (by decide)]; exact hF.v2 h
  · intro h; rw [getD_set (by decide)] at h; rw [updV_other _ _ (by decide)]; exact hF.v3 h
  · intro h; rw [getD_set (by decide)] at h; exact mono8 hi' (hF.k2 h)
  · intro h; rw [getD_set (by decide)] at h; exact mono8 hi' (hF.k3 h)
  · intro h; rw [getD_set (by decide)] at h; exact mono8 hi' (hF.k4 h)
  · rw [updV_same]
    exact ⟨hown, hloc.imp (fun h => h) (fun h => ⟨_, h, hF.size⟩)⟩
  · exact (hg.block C.L (Nat.lt_of_lt_of_le ok.lt hF.size) (fun e => ok.nL e.symm)).trans (hF.box h6)
theorem st8_6 {Q : Exit → Act → World → Prop} {C : Cv} {o : Oper} (hop : o.op = .store 34 (.tmp 4) (.tmp 28)) (hdep : depB8 o [5] = true) : St8 Tryd.prog Q C 6 o := by
  intro l val w ok hF hl hf hd A K hA hK
  have l5 := dep8 hdep hd 5 (by simp)
  have e8 : A.eval (.tmp 4) = .pointer (some ⟨C.L, 0, none⟩) := (far8 hA (by decide)).trans ok.e4
  obtain ⟨h1, h2⟩ := hF.own5 l5
  obtain ⟨g, cap, ev, _, _⟩ := h1.form (by omega)
  have e9 : A.eval (.tmp 28) = .slice (some ⟨g, 0, none⟩) (C.k + 1) cap := (ev8 hA ok.size l5 rfl (by decide) (by decide) (by decide)).trans ev
  have e8' := (show A.tmps.getD _ undef = _ from e8)
  rw [Array.getD_eq_getD_getElem?] at e8'
  have e9' := (show A.tmps.getD _ undef = _ from e9)
  rw [Array.getD_eq_getD_getElem?] at e9'
  have hbx := hF.box hf
  have hc := hbx.cell
  have hfz := hbx.frozen
  have hLw : C.L < w.heap.size := hbx.lt
  have hnL : (val 5).ownBlock ≠ some C.L := by
    rcases h2 with h | ⟨g, h, hg⟩
    · rw [h]; exact ok.nL
    · rw [h]; intro e; have := Option.some.inj e; have := ok.lt; omega
  unfold Oper.wp
  clear hA hd
  simp [execOp, hop, e8', e9', hc, hfz, hLw, go_sem, Result.andThen]
  have hi' : 6 < l.size := by omega
  refine hK undef _ ⟨hF.os, hF.tape, hF.output, by simpa [World.setCell] using hF.size, fun j hj h3 h4 => (Below.heap_setCell _ ⟨C.L, 0, none⟩ _ j h4).trans (hF.block j hj h3 h4),
    ?_, ?_, ?_, ?_, fun _ h => (by rw [getD_set (by decide), l5] at h; cases h), ?_, ?_, ?_, ?_, fun _ => mono8 hi' l5, fun h => (by rw [getD_set (by decide), l5] at h; cases h), fun _ => ?_, fun h => (by rw [getD_same hi'] at h; cases h), fun _ => ?_⟩
  · intro h; rw [getD_set (by decide)] at h; rw [updV_other _ _ (by decide)]; exact hF.v0 h
  · intro h; rw [getD_set (by decide)] at h; rw [updV_other _ _ (by decide)]; exact hF.v1 h
  · intro h; rw [getD_set (by decide)] at h; rw [updV_other _ _ (by decide)]; exact hF.v2 h
  · intro h; rw [getD_set (by decide)] at h; rw [updV_other _ _ (by decide)]; exact hF.v3 h
  · intro h; rw [getD_set (by decide)] at h; exact mono8 hi' (hF.k2 h)
  · intro h; rw [getD_set (by decide)] at h; exact mono8 hi' (hF.k3 h)
  · intro h; rw [getD_set (by decide)] at h; exact mono8 hi' (hF.k4 h)
  · intro h; rw [getD_set (by decide)] at h; exact ⟨mono8 hi' (hF.k5 h).1, mono8 hi' (hF.k5 h).2⟩
  · rw [updV_other _ _ (by decide)]
    exact ⟨h1.kept (grownBy_setCell' w C.L _) (.inr hnL), h2⟩
  · rw [updV_other _ _ (by decide), ev]
    exact hbx.set _
end Go.Proofs.YtfcfehflocglpaaDoor
namespace Go.Proofs.YtfcfehflocglpaaDoor
open Go.RowKit

def AllAt (S : Nat → Oper → Prop) : Nat → List Oper → Prop
  | _, [] => True
  | k, o :: os => S k o ∧ AllAt S (k + 1) os
theorem AllAt.at {S : Nat → Oper → Prop} : ∀ {os : List Oper} {k i : Nat} {o : Oper}, AllAt S k os → os[i]? = some o → S (k + i) o
  | [], _, _, _, _, h => by simp at h
  | x :: os, k, 0, o, h, hi => by
    have : x = o := by simpa using hi
    subst this
    exact h.1
  | x :: os, k, i + 1, o, h, hi => by
    have := AllAt.at (i := i) h.2 (by simpa using hi)
    rwa [Nat.add_assoc, Nat.add_comm 1 i] at this
theorem d8_ne : ∀ i < 7, ∀ j < 7, j ≠ i → D8 j ≠ D8 i ∨ D8 i = none := by decide
theorem actsL_t {D : Nat → Option Tmp} {l : Array Bool} {val : Nat → Value} {i : Nat} {is : List Nat} {a : Act} (h : l.getD i false = true) : actsL D l val (i :: is) a = actsL D l val is (a.put (D i) (val i)) := by
  show actsL D l val is (if l.getD i false = true then a.put (D i) (val i) else a) = _
  rw [if_pos h]
theorem actsL_nil {D : Nat → Option Tmp} {l : Array Bool} {val : Nat → Value} {a : Act} : actsL D l val [] a = a := rfl
theorem acts8_all {l : Array Bool} {val : Nat → Value} (a : Act) (h : ∀ i, i < 7 → l.getD i false = true) : actsL D8 l val (List.range 7) a = (((((((a.put (some 23) (val 0)).put (some 24) (val 1)).put (some 25) (val 2)).put (some 26) (val 3)).put (some 27) (val 4)).put (some 28) (val 5)).put none (val 6)) := by
  rw [show List.range 7 = [0, 1, 2, 3, 4, 5, 6] by decide]
  refine (actsL_t (h 0 (by decide))).trans ?_
  refine (actsL_t (h 1 (by decide))).trans ?_
  refine (actsL_t (h 2 (by decide))).trans ?_
  refine (actsL_t (h 3 (by decide))).trans ?_
  refine (actsL_t (h 4 (by decide))).trans ?_
  refine (actsL_t (h 5 (by decide))).trans ?_
  refine (actsL_t (h 6 (by decide))).trans ?_
  simp only [show D8 0 = some 23 from rfl, show D8 1 = some 24 from rfl, show D8 2 = some 25 from rfl, show D8 3 = some 26 from rfl, show D8 4 = some 27 from rfl, show D8 5 = some 28 from rfl, show D8 6 = none from rfl]
  exact actsL_nil
theorem flow8 {P : Program} {ops : Array Oper} {Q : Exit → Act → World → Prop} (C : Cv) (ok : CvOk C) (h7 : ops.size = 7) (hdst : ops.toList.map (·.dst) = slots8)
    (hac : (ops.toList.zipIdx.all fun q => q.1.after.all fun e => decide (e.on < q.2)) = true) (hg : (ops.toList.all fun o => o.guard.isNone) = true) (hst : AllAt (St8 P Q C) 0 ops.toList)
    (fin : ∀ (val : Nat → Value) (w : World), w.os = C.W0.os → w.tape = C.W0.tape → w.output = C.W0.output → C.W0.heap.size ≤ w.heap.size → (∀ i, i < C.W0.heap.size → some i ≠ C.lv.ownBlock → i ≠ C.L → w.heap[i]? = C.W0.heap[i]?) →
      w.ownsRow C.nb 9 1 (val 5) (C.k + 1) (C.xs ++ [.string C.s]) → ((val 5).ownBlock = C.lv.ownBlock ∨ ∃ g, (val 5).ownBlock = some g ∧ C.W0.heap.size ≤ g) → Boxed w C.L 34 (val 5) →
      Q .normal (((((((C.a0.put (some 23) (val 0)).put (some 24) (val 1)).put (some 25) (val 2)).put (some 26) (val 3)).put (some 27) (val 4)).put (some 28) (val 5)).put none (val 6)) w) : wpAny P .any ops Q ops.size (Array.replicate ops.size false) C.a0 C.W0 := by
  have hat : ∀ (i : Nat) (o : Oper), ops[i]? = some o → ops.toList[i]? = some o := fun i o h => (Array.getElem?_toList ..).trans h
  have hD : ∀ (i : Nat) (o : Oper), ops[i]? = some o → o.dst = D8 i := by
    intro i o h
    unfold D8
    rw [← hdst, List.getElem?_map, hat i o h]
    rfl
  refine wpAny_flow D8 hD (fun i j hi hj => d8_ne i (by omega) j (by omega)) ?_ ?_ C.a0 (Fv C) ?_ ?_ C.W0 (fun _ => undef) ?_
  · intro i o h e he _
    have hm : (o, i) ∈ ops.toList.zipIdx := List.mem_zipIdx_iff_getElem?.2 (hat i o h)
    have := List.all_eq_true.1 hac _ hm
    have := Array.all_eq_true_iff_forall_mem.1 this e he
    simpa using this
  · intro i o h
    have := List.all_eq_true.1 hg o (List.mem_of_getElem? (hat i o h))
    simpa using this
  · intro l val w i o hF hl ho hf hd A K hA hK
    have := hst.at (hat i o ho)
    rw [Nat.zero_add] at this
    exact this l val w ok hF (by omega) hf hd A K (by rw [hA, h7]) hK
  · intro l val w hF hall
    have hall' : ∀ i, i < 7 → l.getD i false = true := fun i hi => hall i (by omega)
    rw [h7, acts8_all _ hall']
    obtain ⟨h1, h2⟩ := hF.own5 (hall' 5 (by decide))
    exact fin val w hF.os hF.tape hF.output hF.size hF.block h1 h2 (hF.box6 (hall' 6 (by decide)))
  · have hn : ∀ i, (Array.replicate ops.size false).getD i false = false := by
      intro i
      simp [Array.getD_eq_getD_getElem?, Array.getElem?_replicate]
      split <;> simp
    have ab : ∀ {p : Prop} {i : Nat}, (Array.replicate ops.size false).getD i false = true → p := fun {p i} h => by rw [hn] at h; cases h
    exact ⟨rfl, rfl, rfl, Nat.le_refl _, fun _ _ _ _ => rfl, ab, ab, ab, ab, fun h => ab h, ab, ab, ab, ab, ab, fun _ => ok.own, ab, fun _ => ok.hL, ab⟩
theorem flow8' {P : Program} {ops : Array Oper} {Q : Exit → Act → World → Prop} {a0 : Act} {W0 : World} (L Bx nb : Nat) (lv : Value) (k : Nat) (xs : List Value) (s : ByteArray) (ok : CvOk ⟨W0, a0, L, Bx, nb, lv, k, xs, s⟩) (h7 : ops.size = 7) (hdst : ops.toList.map (·.dst) = slots8)
    (hac : (ops.toList.zipIdx.all fun q => q.1.after.all fun e => decide (e.on < q.2)) = true) (hg : (ops.toList.all fun o => o.guard.isNone) = true) (hst : AllAt (St8 P Q ⟨W0, a0, L, Bx, nb, lv, k, xs, s⟩) 0 ops.toList)
    (fin : ∀ (a : Act) (w : World) (v : Value), w.os = W0.os → w.tape = W0.tape → w.output = W0.output → W0.heap.size ≤ w.heap.size → (∀ i, i < W0.heap.size → some i ≠ lv.ownBlock → i ≠ L → w.heap[i]? = W0.heap[i]?) →
      w.ownsRow nb 9 1 v (k + 1) (xs ++ [.string s]) → (v.ownBlock = lv.ownBlock ∨ ∃ g, v.ownBlock = some g ∧ W0.heap.size ≤ g) → Boxed w L 34 v → Q .normal a w) : wpAny P .any ops Q ops.size (Array.replicate ops.size false) a0 W0 :=
  flow8 ⟨W0, a0, L, Bx, nb, lv, k, xs, s⟩ ok h7 hdst hac hg hst fun val w h1 h2 h3 h4 h5 h6 h8 h9 => fin _ w (val 5) h1 h2 h3 h4 h5 h6 h8 h9
end Go.Proofs.YtfcfehflocglpaaDoor
namespace Go.Proofs.YtfcfehflocglpaaDoor
open Go.RowKit

def errV (a : Addr) : Value := .iface 193 (.pointer (some a))
/-- What the laws of layer 5 read of the listed variables. -/
structure YEnv (n : Nat) (a b c d : Addr) (w : World) : Prop where
  ty : w.cell? ⟨1, 0, none⟩ = some (errV a)
  tw : w.cell? ⟨2, 0, none⟩ = some (errV b)
  no : w.cell? ⟨3, 0, none⟩ = some (errV c)
  ar : w.cell? ⟨4, 0, none⟩ = some (errV d)
  big : 1 < n ∧ 2 < n ∧ 3 < n ∧ 4 < n
theorem YEnv.below {n : Nat} {a b c d : Addr} {w w' : World} (h : YEnv n a b c d w) (k : Below n w w') : YEnv n a b c d w' := by
  have hb := h.big
  have e : ∀ g v, g < n → w.cell? ⟨g, 0, none⟩ = some v → w'.cell? ⟨g, 0, none⟩ = some v := fun g v hg h => (k.cell (by show g < n; exact hg)).trans h
  exact ⟨e _ _ hb.1 h.ty, e _ _ hb.2.1 h.tw, e _ _ hb.2.2.1 h.no, e _ _ hb.2.2.2 h.ar, hb⟩
theorem gB {W W' : World} (h : Below W.heap.size W W') (row : Option Nat) : W.grownBy W' row := ⟨h.os, h.tape, h.output, h.size, fun k hk _ => h.block k hk⟩
/-- What the map knows. -/
structure KnM (V : List (List UInt8)) (W : World) (B : Nat) (K : Kn) : Prop where
  map : MapI Tryd.prog W 9 3 B K.length (look K) K.length
  ok : KnOk K
  sub : ∀ x ∈ K, x.1 ∈ V
  ty : ∀ x ∈ K, x.2 = 1 ∨ x.2 = 2
theorem KnM.same {V : List (List UInt8)} {W W' : World} {B : Nat} {K : Kn} (h : KnM V W B K) (hb : W'.heap[B]? = W.heap[B]?) : KnM V W' B K :=
  ⟨by
    obtain ⟨D, ⟨es, clock, h1, h2⟩, h3⟩ := h.map
    exact ⟨D, ⟨es, clock, hb.trans h1, h2⟩, h3⟩, h.ok, h.sub, h.ty⟩
theorem KnM.lt {V : List (List UInt8)} {W : World} {B : Nat} {K : Kn} (h : KnM V W B K) : B < W.heap.size := h.map.lt
theorem KnM.below {V : List (List UInt8)} {W W' : World} {B n : Nat} {K : Kn} (h : KnM V W B K) (hb : Below n W W') (hn : B < n) : KnM V W' B K := h.same (hb.block B hn)
/-- How a function that learns answers. -/
inductive LearnR (V : List (List UInt8)) (W : World) (B : Nat) (a : Addr) : Option Kn → Ending → World → Prop
  | bad {W' : World} : W.grownBy W' (some B) → LearnR V W B a none (.returned (errV a)) W'
  | good {K' : Kn} {W' : World} : KnM V W' B K' → W.grownBy W' (some B) → LearnR V W B a (some K') (.returned .nilIface) W'
theorem boxY {W W1 : World} {B : Nat} (n : Nat) (hb : Below B W W1) (hn : n < B) : (∀ o, W1.cell? ⟨n, o, none⟩ = W.cell? ⟨n, o, none⟩) ∧ (∀ o, W1.frozen? ⟨n, o, none⟩ = W.frozen? ⟨n, o, none⟩) :=
  ⟨fun o => hb.cell (p := ⟨n, o, none⟩) hn, fun o => hb.frozen (p := ⟨n, o, none⟩) hn⟩
theorem nodup_sub : ∀ {l m : List (List UInt8)}, l.Nodup → (∀ x ∈ l, x ∈ m) → l.length ≤ m.length
  | [], _, _, _ => Nat.zero_le _
  | x :: l, m, hn, hs => by
    have hx := hs x (List.mem_cons_self ..)
    have hn' := List.nodup_cons.1 hn
    have := nodup_sub (m := m.erase x) hn'.2 (fun y hy => (List.mem_erase_of_ne (by rintro rfl; exact hn'.1 hy)).2 (hs y (List.mem_cons_of_mem _ hy)))
    rw [List.length_erase_of_mem hx] at this
    have := List.length_pos_of_mem hx
    simp only [List.length_cons]
    omega
theorem KnM.len {V : List (List UInt8)} {W : World} {B : Nat} {K : Kn} (h : KnM V W B K) : K.length ≤ V.length := by
  have := nodup_sub h.ok.nod (m := V) (fun x hx => by
    obtain ⟨y, hy, rfl⟩ := List.mem_map.1 hx
    exact h.sub y hy)
  rwa [List.length_map] at this
theorem look_ty {K : Kn} (h : ∀ x ∈ K, x.2 = 1 ∨ x.2 = 2) (s : List UInt8) : look K s = 0 ∨ look K s = 1 ∨ look K s = 2 := by
  induction K with
  | nil => exact .inl rfl
  | cons x K ih =>
    obtain ⟨a, k⟩ := x
    show (if a = s then k else look K s) = 0 ∨ (if a = s then k else look K s) = 1 ∨ (if a = s then k else look K s) = 2
    by_cases e : a = s
    · rw [if_pos e]; exact .inr (h (a, k) (List.mem_cons_self ..))
    · rw [if_neg e]; exact ih (fun x hx => h x (List.mem_cons_of_mem _ hx))
theorem ofK_ty {K : Kn} (h : ∀ x ∈ K, x.2 = 1 ∨ x.2 = 2) (t : Tm) : ofK K t = 0 ∨ ofK K t = 1 ∨ ofK K t = 2 := by
  unfold ofK tyC
  by_cases e : t.op = 1
  · rw [if_pos e]; exact look_ty h _
  · rw [if_neg e]
    by_cases e2 : t.op = 2 ∨ t.op = 5 ∨ t.op = 6 ∨ t.op = 7
    · rw [if_pos e2]; exact .inr (.inl rfl)
    · rw [if_neg e2]
      by_cases e3 : t.op = 3
      · rw [if_pos e3]; exact .inr (.inr rfl)
      · rw [if_neg e3]; exact .inl rfl

set_option maxRecDepth 100000 in
set_option maxHeartbeats 4000000 in
theorem of_c (t : Tm) (cs : List Value) (B n₀ : Nat) (V : List (List UInt8)) (K : Kn) (w : World) (hc : TmC w n₀ t cs) (hM : KnM V w B K) :
    Calls Tryd.prog 127 #[.map (some B), .agg cs.toArray] w fun e w' => e = .returned (.int .i64 (ofK K t)) ∧ Below w.heap.size w w' := by
  obtain ⟨v, rfl, _, hsz, _⟩ := hc.parts
  have zE : ∀ w : World, (zeroValue 3).run Tryd.prog w = .ok (.int .i64 0) w := fun w => by kernel_rfl
  have hB0 : ∀ x : Obj, Hid (Below w.heap.size w (w.alloc x)) := fun x => Lib.hid ((Below.refl _ _).alloc (Nat.le_refl _) _)
  have HM := Lib.hid hM.map
  clear hM hc
  by_cases h1 : t.op = 1
  · have Hq : Hid (ofK K t = look K t.s.data.toList) := Lib.hid (by unfold ofK; rw [if_pos h1]; rfl)
    go_enter Tryd.func127, Tryd.ntmps127
    go_wp2_with (at_lookup; refine wpList_mapI_get _ rfl _ _ 78 rfl 9 3 Tryd.underlying78 Tryd.underlying9 Tryd.underlying3 (zE _) B _ (look K) _ rfl (HM.out.alloc _) t.s rfl hsz ?_; intro _)
    go_ret
    exact ⟨by rw [Hq.out]; rfl, (hB0 _).out⟩
  · by_cases h2 : t.op = 2 ∨ t.op = 5 ∨ t.op = 6 ∨ t.op = 7
    · have Hq : Hid (ofK K t = 1) := Lib.hid (by unfold ofK tyC; rw [if_neg h1, if_pos h2])
      rcases h2 with h2 | h2 | h2 | h2
      all_goals
        go_enter Tryd.func127, Tryd.ntmps127
        go_wp2
        go_ret
        exact ⟨by rw [Hq.out]; rfl, (hB0 _).out⟩
    · have g2 : t.op ≠ 2 := fun h => h2 (.inl h)
      have g5 : t.op ≠ 5 := fun h => h2 (.inr (.inl h))
      have g6 : t.op ≠ 6 := fun h => h2 (.inr (.inr (.inl h)))
      have g7 : t.op ≠ 7 := fun h => h2 (.inr (.inr (.inr h)))
      by_cases h3 : t.op = 3
      · have Hq : Hid (ofK K t = 2) := Lib.hid (by unfold ofK tyC; rw [if_neg h1, if_neg h2, if_pos h3])
        clear h2
        go_enter Tryd.func127, Tryd.ntmps127
        go_wp2
        go_ret
        exact ⟨by rw [Hq.out]; rfl, (hB0 _).out⟩
      · have Hq : Hid (ofK K t = 0) := Lib.hid (by unfold ofK tyC; rw [if_neg h1, if_neg h2, if_neg h3])
        clear h2
        go_enter Tryd.func127, Tryd.ntmps127
        go_wp2
        go_ret
        exact ⟨by rw [Hq.out]; rfl, (hB0 _).out⟩

set_option maxRecDepth 100000 in
set_option maxHeartbeats 4000000 in
theorem learn_c (t : Tm) (k : Int) (cs : List Value) (B n₀ : Nat) (V : List (List UInt8)) (hV : V.length ≤ 1000000) (K : Kn) (a b c d : Addr) (w : World) (hc : TmC w n₀ t cs) (hB : n₀ ≤ B) (hM : KnM V w B K) (hv : t.op = 1 → nm t ∈ V) (hk : k = 1 ∨ k = 2) (E : YEnv n₀ a b c d w) :
    Calls Tryd.prog 96 #[.map (some B), .agg cs.toArray, .int .i64 k] w (LearnR V w B a (learn1 K t k)) := by
  obtain ⟨v, rfl, _, hsz, _⟩ := hc.parts
  have hB1 := hM.lt
  have hg0 : ∀ (x : Obj), Hid (w.grownBy (w.alloc x) (some B)) := fun x => Lib.hid (World.grownBy_alloc w x _)
  have HO := Lib.hid (fun (W : World) (hb : Below w.heap.size w W) => of_c t _ B n₀ V K W (TmC.under hc (hb.mono (by omega))) (hM.below hb hB1))
  have HE := Lib.hid E
  have HM := Lib.hid hM
  have HK2 := Lib.hid hk
  have hk1 : (k == 0) = false := by rcases hk with rfl | rfl <;> rfl
  clear hM E hc
  go_enter Tryd.func96, Tryd.ntmps96
  go_wp2_with fail
  refine (HO.out _ ((Below.refl _ _).alloc (Nat.le_refl _) _)).mono ?_
  rintro e w1 ⟨rfl, b1⟩
  have B1 : Below w.heap.size w w1 := ((Below.refl _ _).alloc (Nat.le_refl _) _).trans (b1.mono (by simp))
  have G1 := Lib.hid (gB B1 (some B))
  by_cases h1 : ofK K t = k
  · have Hq : Hid (learn1 K t k = some K) := Lib.hid (by unfold learn1; rw [if_pos h1])
    have h1' : (ofK K t == k) = true := by simpa using h1
    go_wp2
    go_ret
    rw [Hq.out]
    exact .good (HM.out.below B1 hB1) G1.out
  · have h1' : (ofK K t == k) = false := by simpa using h1
    obtain ⟨hc1, hf1⟩ := boxY w.heap.size b1 (by simp)
    by_cases h2 : ofK K t = 0
    · have h2' : (ofK K t != 0) = false := by simpa using h2
      by_cases h3 : t.op = 1
      · have hl : look K (nm t) = 0 := by unfold ofK at h2; rwa [if_pos h3] at h2
        have hk0 : k ≠ 0 := by rcases hk with rfl | rfl <;> decide
        have Hq : Hid (learn1 K t k = some (K ++ [(nm t, k)])) := Lib.hid (by unfold learn1; rw [if_neg h1, if_neg (fun h => h h2), if_pos h3])
        have HM1 := Lib.hid (HM.out.below B1 hB1)
        have hlen := HM.out.len
        have hf : updF (look K) t.s.data.toList k = look (K ++ [(nm t, k)]) := by
          funext s
          rw [look_snoc hl HM.out.ok.pos]
          rfl
        have Hf := Lib.hid hf
        have hle : Hid (K.length < maxLen) := Lib.hid (by unfold maxLen; omega)
        have hw : Hid ((Lit.int .i64 k).wf = true) := Lib.hid (by rcases hk with rfl | rfl <;> rfl)
        have Hk0 := Lib.hid hk0
        have Hl := Lib.hid hl
        have Hv := Lib.hid (hv h3)
        clear hf hk0 hl hv hk h1 h2
        go_wp2_with (at_mapUpdate; refine wpList_mapI_put _ rfl _ _ _ 78 rfl 9 3 Tryd.underlying78 Tryd.underlying9 Tryd.underlying3 B _ (look K) _ rfl HM1.out.map hle.out t.s k rfl rfl hsz Hk0.out hw.out ?_; intro w2 hm2 hg2)
        go_ret
        rw [Hq.out]
        refine .good ⟨?_, HM.out.ok.snoc Hl.out Hk0.out, ?_, ?_⟩ (G1.out.trans hg2)
        · rw [Hf.out, if_pos (show look K t.s.data.toList = 0 from Hl.out)] at hm2
          simpa using hm2
        · intro x hx
          rcases List.mem_append.1 hx with hx | hx
          · exact HM.out.sub x hx
          · cases List.mem_singleton.1 hx; exact Hv.out
        · intro x hx
          rcases List.mem_append.1 hx with hx | hx
          · exact HM.out.ty x hx
          · cases List.mem_singleton.1 hx; exact HK2.out
      · have Hq : Hid (learn1 K t k = some K) := Lib.hid (by unfold learn1; rw [if_neg h1, if_neg (fun h => h h2), if_neg h3])
        go_wp2
        go_ret
        rw [Hq.out]
        exact .good (HM.out.below B1 hB1) G1.out
    · have h2' : (ofK K t != 0) = true := by simpa using h2
      have Hq : Hid (learn1 K t k = none) := Lib.hid (by unfold learn1; rw [if_neg h1, if_pos h2])
      have cg := (HE.out.below (B1.mono (by omega))).ty
      unfold errV at cg
      go_wp2
      go_ret
      rw [Hq.out]
      exact .bad G1.out
end Go.Proofs.YtfcfehflocglpaaDoor
namespace Go.Proofs.YtfcfehflocglpaaDoor
open Go.RowKit Go.Extern Go.Extern.Rtype Go.Extern.Stop Go.Stop

theorem noIsE (v : Value) (xT : TypeId) (w : World) : (Instr.typeAssert (.iface 193 v) xT 163 true).run Tryd.prog w = .ok (.tuple #[.nilIface, .bool false]) w := run_typeAssert_lacksB Tryd.underlying163 (by kernel_rfl) (by kernel_rfl) v xT w
theorem noUnwrapE (v : Value) (xT : TypeId) (w : World) : (Instr.typeAssert (.iface 193 v) xT 166 true).run Tryd.prog w = .ok (.tuple #[.nilIface, .bool false]) w := run_typeAssert_lacksB Tryd.underlying166 (by kernel_rfl) (by kernel_rfl) v xT w
theorem noUnwrapsE (v : Value) (xT : TypeId) (w : World) : (Instr.typeAssert (.iface 193 v) xT 168 true).run Tryd.prog w = .ok (.tuple #[.nilIface, .bool false]) w := run_typeAssert_lacksB Tryd.underlying168 (by kernel_rfl) (by kernel_rfl) v xT w
set_option maxRecDepth 100000 in
set_option maxHeartbeats 2000000 in
/-- errors.Is(b, c), two sentinels. -/
theorem is_other (b c : Addr) (w : World) (hne : b ≠ c) {cb cc : Array Value} {tb tc : TypeId} (hb : w.heap[b.block]? = some (.cells cb tb (0, 0))) (hc : w.heap[c.block]? = some (.cells cc tc (0, 0))) :
    Calls Tryd.prog 59 #[.iface 193 (.pointer (some b)), .iface 193 (.pointer (some c))] w fun e w' => e = .returned (.bool false) ∧ w = w' := by
  obtain ⟨i, hi, hcmp⟩ := Option.map_eq_some_iff.1 isComp
  obtain ⟨j, hj, hjs⟩ := Option.map_eq_some_iff.1 isSize
  have h39 := @run_callFunc_extern Tryd.prog 83 _ Extern.ReflectliteType.typeOf Tryd.func83 (by kernel_rfl) (by kernel_rfl) (by kernel_rfl) (by kernel_rfl)
  have tT := isTypeOf
  have cT := isCalled
  have mR := isMethodComparable
  have nE := noIsE
  have uE := noUnwrapE
  have vE := noUnwrapsE
  have heq := run_eql_iface_ptr_other (P := Tryd.prog) w Tryd.underlying80 Tryd.underlying193 hi hcmp hj (by rw [hjs]; decide) hne hb hc
  clear hb hc
  go_enter Tryd.func59, Tryd.ntmps59
  go_wp2
  refine wp_loop_rounds 1 ?_
  rw [rounds_succ]
  go_wp2
  go_ret
  exact ⟨rfl, rfl⟩
/-- The four errors are four. -/
structure YDiff (a b c d : Addr) (w : World) : Prop where
  ab : a ≠ b
  ac : a ≠ c
  ad : a ≠ d
  cb : c ≠ b
  db : d ≠ b
  dc : d ≠ c
  ra : ∃ cs t, w.heap[a.block]? = some (.cells cs t (0, 0))
  rb : ∃ cs t, w.heap[b.block]? = some (.cells cs t (0, 0))
  rc : ∃ cs t, w.heap[c.block]? = some (.cells cs t (0, 0))
  rd : ∃ cs t, w.heap[d.block]? = some (.cells cs t (0, 0))
set_option maxRecDepth 100000 in
set_option maxHeartbeats 2000000 in
theorem num_ty (n : Nat) (a b c d : Addr) (w : World) (E : YEnv n a b c d w) (D : YDiff a b c d w) :
    Calls Tryd.prog 43 #[errV a] w fun e w' => e = .returned (.int .i64 53) ∧ w = w' := by
  have h1 := E.ty
  have h2 := E.tw
  have h3 := E.no
  have h4 := E.ar
  unfold errV at *
  obtain ⟨ca, ta, ra⟩ := D.ra
  obtain ⟨cb, tb, rb⟩ := D.rb
  obtain ⟨cc, tc, rc⟩ := D.rc
  obtain ⟨cd, td, rd⟩ := D.rd
  have Hab := Lib.hid (is_other a b w D.ab ra rb)
  have Hac := Lib.hid (is_other a c w D.ac ra rc)
  have Had := Lib.hid (is_other a d w D.ad ra rd)
  have Hcb := Lib.hid (is_other c b w D.cb rc rb)
  have Hdb := Lib.hid (is_other d b w D.db rd rb)
  have Hdc := Lib.hid (is_other d c w D.dc rd rc)
  clear ra rb rc rd E D
  go_enter Tryd.func43, Tryd.ntmps43
  go_wp2_with fail
  refine (Hab.out).mono ?_
  rintro e w' ⟨rfl, rfl⟩
  go_wp2_with fail
  refine (Hac.out).mono ?_
  rintro e w' ⟨rfl, rfl⟩
  go_wp2_with fail
  refine (Had.out).mono ?_
  rintro e w' ⟨rfl, rfl⟩
  go_wp2_with fail
  refine (is_same a w).mono ?_
  rintro e w' ⟨rfl, rfl⟩
  go_wp2
  go_ret
  exact ⟨rfl, rfl⟩
set_option maxRecDepth 100000 in
set_option maxHeartbeats 2000000 in
theorem num_no (n : Nat) (a b c d : Addr) (w : World) (E : YEnv n a b c d w) (D : YDiff a b c d w) :
    Calls Tryd.prog 43 #[errV c] w fun e w' => e = .returned (.int .i64 51) ∧ w = w' := by
  have h1 := E.ty
  have h2 := E.tw
  have h3 := E.no
  have h4 := E.ar
  unfold errV at *
  obtain ⟨ca, ta, ra⟩ := D.ra
  obtain ⟨cb, tb, rb⟩ := D.rb
  obtain ⟨cc, tc, rc⟩ := D.rc
  obtain ⟨cd, td, rd⟩ := D.rd
  have Hab := Lib.hid (is_other a b w D.ab ra rb)
  have Hac := Lib.hid (is_other a c w D.ac ra rc)
  have Had := Lib.hid (is_other a d w D.ad ra rd)
  have Hcb := Lib.hid (is_other c b w D.cb rc rb)
  have Hdb := Lib.hid (is_other d b w D.db rd rb)
  have Hdc := Lib.hid (is_other d c w D.dc rd rc)
  clear ra rb rc rd E D
  go_enter Tryd.func43, Tryd.ntmps43
  go_wp2_with fail
  refine (Hcb.out).mono ?_
  rintro e w' ⟨rfl, rfl⟩
  go_wp2_with fail
  refine (is_same c w).mono ?_
  rintro e w' ⟨rfl, rfl⟩
  go_wp2
  go_ret
  exact ⟨rfl, rfl⟩
set_option maxRecDepth 100000 in
set_option maxHeartbeats 2000000 in
theorem num_ar (n : Nat) (a b c d : Addr) (w : World) (E : YEnv n a b c d w) (D : YDiff a b c d w) :
    Calls Tryd.prog 43 #[errV d] w fun e w' => e = .returned (.int .i64 52) ∧ w = w' := by
  have h1 := E.ty
  have h2 := E.tw
  have h3 := E.no
  have h4 := E.ar
  unfold errV at *
  obtain ⟨ca, ta, ra⟩ := D.ra
  obtain ⟨cb, tb, rb⟩ := D.rb
  obtain ⟨cc, tc, rc⟩ := D.rc
  obtain ⟨cd, td, rd⟩ := D.rd
  have Hab := Lib.hid (is_other a b w D.ab ra rb)
  have Hac := Lib.hid (is_other a c w D.ac ra rc)
  have Had := Lib.hid (is_other a d w D.ad ra rd)
  have Hcb := Lib.hid (is_other c b w D.cb rc rb)
  have Hdb := Lib.hid (is_other d b w D.db rd rb)
  have Hdc := Lib.hid (is_other d c w D.dc rd rc)
  clear ra rb rc rd E D
  go_enter Tryd.func43, Tryd.ntmps43
  go_wp2_with fail
  refine (Hdb.out).mono ?_
  rintro e w' ⟨rfl, rfl⟩
  go_wp2_with fail
  refine (Hdc.out).mono ?_
  rintro e w' ⟨rfl, rfl⟩
  go_wp2_with fail
  refine (is_same d w).mono ?_
  rintro e w' ⟨rfl, rfl⟩
  go_wp2
  go_ret
  exact ⟨rfl, rfl⟩
set_option maxRecDepth 100000 in
set_option maxHeartbeats 2000000 in
theorem num_tw (n : Nat) (a b c d : Addr) (w : World) (E : YEnv n a b c d w) (D : YDiff a b c d w) :
    Calls Tryd.prog 43 #[errV b] w fun e w' => e = .returned (.int .i64 50) ∧ w = w' := by
  have h1 := E.ty
  have h2 := E.tw
  have h3 := E.no
  have h4 := E.ar
  unfold errV at *
  obtain ⟨ca, ta, ra⟩ := D.ra
  obtain ⟨cb, tb, rb⟩ := D.rb
  obtain ⟨cc, tc, rc⟩ := D.rc
  obtain ⟨cd, td, rd⟩ := D.rd
  have Hab := Lib.hid (is_other a b w D.ab ra rb)
  have Hac := Lib.hid (is_other a c w D.ac ra rc)
  have Had := Lib.hid (is_other a d w D.ad ra rd)
  have Hcb := Lib.hid (is_other c b w D.cb rc rb)
  have Hdb := Lib.hid (is_other d b w D.db rd rb)
  have Hdc := Lib.hid (is_other d c w D.dc rd rc)
  clear ra rb rc rd E D
  go_enter Tryd.func43, Tryd.ntmps43
  go_wp2_with fail
  refine (is_same b w).mono ?_
  rintro e w' ⟨rfl, rfl⟩
  go_wp2
  go_ret
  exact ⟨rfl, rfl⟩
set_option maxRecDepth 100000 in
set_option maxHeartbeats 2000000 in
theorem num_nil (n : Nat) (a b c d : Addr) (w : World) (E : YEnv n a b c d w) (D : YDiff a b c d w) :
    Calls Tryd.prog 43 #[.nilIface] w fun e w' => e = .returned (.int .i64 0) ∧ w = w' := by
  have h1 := E.ty
  have h2 := E.tw
  have h3 := E.no
  have h4 := E.ar
  unfold errV at *
  obtain ⟨ca, ta, ra⟩ := D.ra
  obtain ⟨cb, tb, rb⟩ := D.rb
  obtain ⟨cc, tc, rc⟩ := D.rc
  obtain ⟨cd, td, rd⟩ := D.rd
  have Hab := Lib.hid (is_other a b w D.ab ra rb)
  have Hac := Lib.hid (is_other a c w D.ac ra rc)
  have Had := Lib.hid (is_other a d w D.ad ra rd)
  have Hcb := Lib.hid (is_other c b w D.cb rc rb)
  have Hdb := Lib.hid (is_other d b w D.db rd rb)
  have Hdc := Lib.hid (is_other d c w D.dc rd rc)
  clear ra rb rc rd E D
  go_enter Tryd.func43, Tryd.ntmps43
  go_wp2_with fail
  refine (is_nil b w).mono ?_
  rintro e w' ⟨rfl, rfl⟩
  go_wp2_with fail
  refine (is_nil c w).mono ?_
  rintro e w' ⟨rfl, rfl⟩
  go_wp2_with fail
  refine (is_nil d w).mono ?_
  rintro e w' ⟨rfl, rfl⟩
  go_wp2_with fail
  refine (is_nil a w).mono ?_
  rintro e w' ⟨rfl, rfl⟩
  go_wp2
  go_ret
  exact ⟨rfl, rfl⟩
end Go.Proofs.YtfcfehflocglpaaDoor
namespace Go.Proofs.YtfcfehflocglpaaDoor
open Go.RowKit

structure EnvY (e a b c d : Addr) (w : World) : Prop where
  tr : TErr e w
  y : YEnv w.heap.size a b c d w
  df : YDiff a b c d w
theorem heap_lt {w : World} {i : Nat} {o : Obj} (h : w.heap[i]? = some o) : i < w.heap.size := (Array.getElem?_eq_some_iff.1 h).1
theorem YDiff.below {a b c d : Addr} {w w' : World} (h : YDiff a b c d w) (hb : Below w.heap.size w w') : YDiff a b c d w' := by
  have k : ∀ {x : Addr}, (∃ cs t, w.heap[x.block]? = some (.cells cs t (0, 0))) → ∃ cs t, w'.heap[x.block]? = some (.cells cs t (0, 0)) := fun ⟨cs, t, h⟩ => ⟨cs, t, (hb.block _ (heap_lt h)).trans h⟩
  exact ⟨h.ab, h.ac, h.ad, h.cb, h.db, h.dc, k h.ra, k h.rb, k h.rc, k h.rd⟩
theorem YEnv.more {n m : Nat} {a b c d : Addr} {w : World} (h : YEnv n a b c d w) (hm : n ≤ m) : YEnv m a b c d w := ⟨h.ty, h.tw, h.no, h.ar, by have := h.big; omega⟩
theorem EnvY.below {e a b c d : Addr} {w w' : World} (h : EnvY e a b c d w) (hb : Below w.heap.size w w') : EnvY e a b c d w' :=
  ⟨h.tr.below hb, (h.y.below hb).more hb.size, h.df.below hb⟩
end Go.Proofs.YtfcfehflocglpaaDoor
namespace Go.Proofs.YtfcfehflocglpaaDoor
open Go.RowKit Go.ChangeShapes Go.WideShapes

set_option maxRecDepth 100000 in
theorem open_decls {H : Type} {enc : TypeId × Value → H} {w : World} {b0 : Nat} {v : Value} {d : DataW H} {p : List MemPlace}
    (hv : Value.okWide Tryd.prog w .any b0 28 v) (h : DataW.Trod enc Tryd.prog w 0 (fun _ => true) true 28 v d p) : ∃ l, SlOf w w.heap.size 6 (DeC w w.heap.size) l v := by
  obtain ⟨o, len, cap, rfl⟩ := okWide_slice Tryd.underlying28 hv
  obtain ⟨fuel, hf⟩ := h
  exact open_sl (R := DeC w w.heap.size) Tryd.underlying28 cDecl (by omega) (fun m cs y hm hy => open_decl m cs y hy) hf
set_option maxRecDepth 100000 in
theorem open_ints {H : Type} {enc : TypeId × Value → H} {w : World} {b0 : Nat} {v : Value} {d : DataW H} {p : List MemPlace}
    (hv : Value.okWide Tryd.prog w .any b0 37 v) (h : DataW.Trod enc Tryd.prog w 0 (fun _ => true) true 37 v d p) : ∃ l, SlOf w w.heap.size 1 IntC l v := by
  obtain ⟨o, len, cap, rfl⟩ := okWide_slice Tryd.underlying37 hv
  obtain ⟨fuel, hf⟩ := h
  exact open_sl (R := IntC) Tryd.underlying37 cInt (by omega) (fun m cs y hm hy => by obtain ⟨s, e, _, z⟩ := DataW.trod_int Tryd.underlying3 hy; exact ⟨s, e, wf_i64 z⟩) hf
end Go.Proofs.YtfcfehflocglpaaDoor
