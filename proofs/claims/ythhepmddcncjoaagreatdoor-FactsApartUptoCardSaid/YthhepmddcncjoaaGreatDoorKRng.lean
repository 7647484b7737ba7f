/- A loop over an iterator that itself moves what the loop's rounds read, and that may yield nothing; appends of whole lists within a fence. Sorting in blocks that are merged in place: plain facts about lists, no program here. Runs of the same thing made one, two rising lists gone through at once: plain facts about lists, no program here. Values, rows, lists of rows as plain data, how they lie in memory, and how they are held against each other. soritesref08.texts, Vals, Compare, Rise. -/
import Derived.Test.YthhepmddcncjoaaGreatDoorKAny
import Derived.OneCell
import Derived.RangeFuncNested
import Derived.RangeFuncLeaves
import Derived.RangeFuncCalls
import Derived.Maps.OwnIn
import Derived.BigQuiet
import Derived.Deep.QuietTactic
import Derived.Deep.RegionHeld3
set_option linter.unusedSimpArgs false
set_option linter.unusedVariables false
namespace Go.Proofs.YthhepmddcncjoaaGreatDoor
open Go.RowKit

/-- A block of no cells becomes another such. -/
def Put (B : Nat) (W W' : World) : Prop := ∃ (l : Nat) (o o' : Obj), B ≤ l ∧ W.heap[l]? = some o ∧ o.isCells = false ∧ o'.isCells = false ∧ W' = W.putObj l o'
/-- What stays however the loop's own blocks turn. -/
def Firm (B : Nat) (S : World → Prop) : Prop := ∀ W W', Put B W W' → S W → S W'
def roundEnd (B : Nat) (W : World) (S : World → Prop) (X : Code → World → Prop) : Exit → Act → World → Prop
  | .normal, _, W' => KeepsFrom B W W' ∧ S W'
  | .ret, _, W' => KeepsFrom B W W' ∧ X .ret W'
  | .exit id, _, W' => KeepsFrom B W W' ∧ X (.exit id) W'
  | .goto t, _, W' => KeepsFrom B W W' ∧ X (.goto t) W'
  | .panic _, _, _ => False
  | .outgrown, _, _ => False

/-- An iterator that may yield nothing: it yields at A's states, goes on from B's by T, ends from them by E; a round that says no more ends it in X. -/
def Moves2 {α : Type} (F : Fence) (n : Nat) (P : Program) (gf : Nat) (args : Nat → Array Value) (enc : α → Array Value) (G : α → World → Prop) (T : α → World → α → World → Prop) (E : α → World → World → Prop) (x0 : α) : Prop :=
  ∀ (l : Nat) (A B : α → World → Prop) (X Z : World → Prop) (W : World),
    (∀ x W1, A x W1 → YieldAt F (n - 1) P l (enc x) W1 fun e W' => (e = .returned (.bool true) ∧ B x W') ∨ (e = .returned (.bool false) ∧ X W')) →
    (∀ x W1, B x W1 → G x W1 ∧ (∀ x' W2, T x W1 x' W2 → A x' W2) ∧ (∀ W2, E x W1 W2 → Z W2)) →
    B x0 W → CallsIn F n P gf (args l) W fun e W' => (∃ v, e = .returned v) ∧ (X W' ∨ Z W')
theorem range_moves2 {α : Type} {F : Fence} {n : Nat} {P : Program} {g : Operand} {ps : Array Tmp} {assign body : Code} {Q : Exit → Act → World → Prop} {a : Act} {w : World}
    (hro : F.round = none) (h1 : 1 ≤ n) {gf : Nat} {bd lb : Array Value} (hg : a.eval g = .func (.func gf) bd lb) (hFg : F.fn gf) (eg : ∀ args w, (callFunc gf args).run P w = .ok (.enter gf args) w)
    {enc : α → Array Value} {G : α → World → Prop} {T : α → World → α → World → Prop} {E : α → World → World → Prop} {x0 : α}
    (hit : Moves2 F (n - 1) P gf (fun l => bd ++ #[.func (.yield l) #[] #[]] ++ lb) enc G T E x0) (hps : ∀ x, (enc x).size = ps.size)
    (A B : α → World → Prop) (X : Code → World → Prop) (Z : World → Prop) (M : α → Act → World → Prop)
    (fB : ∀ x, Firm w.heap.size (B x)) (fX : ∀ c, Firm w.heap.size (X c)) (fZ : Firm w.heap.size Z) (fM : ∀ x a', Firm w.heap.size (M x a'))
    (h0 : ∀ o o', B x0 ((w.alloc o).alloc o'))
    (hB : ∀ x W1, B x W1 → G x W1 ∧ (∀ x' W2, T x W1 x' W2 → KeepsFrom w.heap.size W1 W2 ∧ A x' W2) ∧ (∀ W2, E x W1 W2 → KeepsFrom w.heap.size W1 W2 ∧ Z W2))
    (hassign : ∀ (l : Nat) (x : α) (W : World), A x W → assign.wpIn (F.inRound l) (n - 1 - 1) P (Exit.then (fun a' W' => KeepsFrom w.heap.size W W' ∧ M x a' W') (fun _ _ _ => False)) { tmps := (ps.zip (enc x)).foldl (fun t (p, v) => t.setIfInBounds p v) a.tmps, defers := [] } W)
    (hbody : ∀ (l : Nat) (x : α) (a' : Act) (W : World), M x a' W → body.wpIn (F.inRound l) (n - 1 - 1) P (roundEnd w.heap.size W (B x) X) a' W)
    (hdone : ∀ (D : Nat) (W : World), w.heap.size ≤ D → Z W → W.heap[D]? = some (.deferred (some [])) → Q .normal { a with defers := { target := .collected D, args := #[] } :: a.defers } W)
    (hstop : ∀ (D : Nat) (c : Code) (W : World), w.heap.size ≤ D → X c W → W.heap[D]? = some (.deferred (some [])) → c.wpIn F n P Q { a with defers := { target := .collected D, args := #[] } :: a.defers } W) :
    (Code.rangeFunc g ps assign body).wpIn F n P Q a w := by
  refine wpIn_rangeFunc fun fn hfn => ?_
  rw [hro]
  let rec_ : LoopState → Option Code → Loop := fun st pe => { state := st, pending := pe, fn, tmps := a.tmps, params := ps, assign, body, defers := w.heap.size }
  obtain ⟨W1, hW1⟩ : ∃ W1, (w.alloc (.deferred (some []))).alloc (.loop (rec_ .ready none)) = W1 := ⟨_, rfl⟩
  have h01 : B x0 W1 := by rw [← hW1]; exact h0 _ _
  have hl1 : ((w.alloc (.deferred (some []))).alloc (.loop (rec_ .ready none))).heap[w.heap.size + 1]? = some (.loop (rec_ .ready none)) := by
    have := World.alloc_heap_new (w.alloc (.deferred (some []))) (.loop (rec_ .ready none))
    rwa [World.size_alloc] at this
  have hd1 : ((w.alloc (.deferred (some []))).alloc (.loop (rec_ .ready none))).heap[w.heap.size]? = some (.deferred (some [])) :=
    (Below.heap_alloc _ _ _ (by simp)).trans (World.alloc_heap_new w _)
  rw [hW1] at hl1 hd1
  refine ⟨w.heap.size + 1, [{ target := .collected w.heap.size, args := #[] }], W1, { target := .fn (.func gf) lb, args := bd ++ #[.func (.yield (w.heap.size + 1)) #[] #[]] }, W1, gf, bd ++ #[.func (.yield (w.heap.size + 1)) #[] #[]] ++ lb, W1,
    by rw [← hW1]; exact run_enterLoop_outer _ _ _ _ _, ?_, ?_, ?_, fun _ => h1, ?_⟩
  · simp only [resolve, hg]
    simp [go_sem]
  · intro f' hf'
    simp [Target.leads] at hf'
    subst hf'
    exact hFg
  · simp [invoke, go_sem, eg]
  · refine (hit (w.heap.size + 1)
      (fun x W => A x W ∧ W.heap[w.heap.size + 1]? = some (.loop (rec_ .ready none)) ∧ W.heap[w.heap.size]? = some (.deferred (some [])))
      (fun x W => B x W ∧ W.heap[w.heap.size + 1]? = some (.loop (rec_ .ready none)) ∧ W.heap[w.heap.size]? = some (.deferred (some [])))
      (fun W => ∃ c, X c W ∧ W.heap[w.heap.size + 1]? = some (.loop (rec_ .done (some c))) ∧ W.heap[w.heap.size]? = some (.deferred (some [])))
      (fun W => Z W ∧ W.heap[w.heap.size + 1]? = some (.loop (rec_ .ready none)) ∧ W.heap[w.heap.size]? = some (.deferred (some [])))
      W1 ?_ ?_ ⟨h01, hl1, hd1⟩).mono ?_
    · rintro x W ⟨hA, hl, hd⟩
      have hy := run_yield (P := P) (args := enc x) hl (hps x)
      refine ⟨fn, _, assign, body, hy, roundIn_of_wpIn hfn (wpIn_mono (hassign (w.heap.size + 1) x W hA) ?_)⟩
      rintro e a' W2 hp
      cases e with
      | normal =>
        obtain ⟨hk, hM⟩ := hp
        have hl2 := hk.same _ _ (by omega) hl rfl
        have hd2 := hk.same _ _ (Nat.le_refl _) hd rfl
        have hlt := (Array.getElem?_eq_some_iff.1 hl2).1
        refine ⟨_, run_beginRound hl2 rfl, ?_⟩
        have hl3 : (W2.putObj (w.heap.size + 1) (.loop { rec_ .ready none with state := .busy })).heap[w.heap.size + 1]? = some (.loop { rec_ .ready none with state := .busy }) := World.putObj_heap_same hlt
        have hd3 : (W2.putObj (w.heap.size + 1) (.loop { rec_ .ready none with state := .busy })).heap[w.heap.size]? = some (.deferred (some [])) := (World.putObj_heap_other (by omega)).trans hd2
        refine wpIn_mono (hbody (w.heap.size + 1) x a' _ (fM x a' W2 _ ⟨_, _, _, by omega, hl2, rfl, rfl, rfl⟩ hM)) ?_
        have fin : ∀ (jump : Option Code) (W4 : World), KeepsFrom w.heap.size (W2.putObj (w.heap.size + 1) (.loop { rec_ .ready none with state := .busy })) W4 →
            (Instr.endRound (w.heap.size + 1) jump).run P W4 = .ok (.bool jump.isNone) (W4.putObj (w.heap.size + 1) (.loop (rec_ (if jump.isNone then .ready else .done) jump))) ∧
            Put w.heap.size W4 (W4.putObj (w.heap.size + 1) (.loop (rec_ (if jump.isNone then .ready else .done) jump))) ∧
            (W4.putObj (w.heap.size + 1) (.loop (rec_ (if jump.isNone then .ready else .done) jump))).heap[w.heap.size + 1]? = some (.loop (rec_ (if jump.isNone then .ready else .done) jump)) ∧
            (W4.putObj (w.heap.size + 1) (.loop (rec_ (if jump.isNone then .ready else .done) jump))).heap[w.heap.size]? = some (.deferred (some [])) := fun jump W4 hk4 => by
          have hl4 := hk4.same _ _ (by omega) hl3 rfl
          exact ⟨run_endRound (P := P) jump hl4, ⟨_, _, _, by omega, hl4, rfl, rfl, rfl⟩, World.putObj_heap_same (Array.getElem?_eq_some_iff.1 hl4).1, (World.putObj_heap_other (by omega)).trans (hk4.same _ _ (Nat.le_refl _) hd3 rfl)⟩
        rintro e a3 W4 hp
        cases e with
        | normal =>
          obtain ⟨r1, r2, r3, r4⟩ := fin none W4 hp.1
          exact ⟨_, _, r1, .inl ⟨rfl, fB x _ _ r2 hp.2, r3, r4⟩⟩
        | ret =>
          obtain ⟨r1, r2, r3, r4⟩ := fin (some .ret) W4 hp.1
          exact ⟨_, _, r1, .inr ⟨rfl, .ret, fX _ _ _ r2 hp.2, r3, r4⟩⟩
        | exit id =>
          obtain ⟨r1, r2, r3, r4⟩ := fin (some (.exit id)) W4 hp.1
          exact ⟨_, _, r1, .inr ⟨rfl, .exit id, fX _ _ _ r2 hp.2, r3, r4⟩⟩
        | goto t =>
          obtain ⟨r1, r2, r3, r4⟩ := fin (some (.goto t)) W4 hp.1
          exact ⟨_, _, r1, .inr ⟨rfl, .goto t, fX _ _ _ r2 hp.2, r3, r4⟩⟩
        | panic ch => exact hp.elim
        | outgrown => exact hp.elim
      | ret => exact hp.elim
      | exit id => exact hp.elim
      | goto t => exact hp.elim
      | panic ch => exact hp.elim
      | outgrown => exact hp.elim
    · rintro x W ⟨hb, hl, hd⟩
      obtain ⟨h2, h3, h4⟩ := hB x W hb
      refine ⟨h2, fun x' W2 ht => ?_, fun W2 he => ?_⟩
      · obtain ⟨k, hA⟩ := h3 x' W2 ht
        exact ⟨hA, k.same _ _ (by omega) hl rfl, k.same _ _ (Nat.le_refl _) hd rfl⟩
      · obtain ⟨k, hZ⟩ := h4 W2 he
        exact ⟨hZ, k.same _ _ (by omega) hl rfl, k.same _ _ (Nat.le_refl _) hd rfl⟩
    · rintro e W2 ⟨⟨v, rfl⟩, (⟨c, hX, hl, hd⟩ | ⟨hZ, hl, hd⟩)⟩
      · exact ⟨some c, _, run_endLoop (P := P) hl (by simp [rec_]), hstop _ c _ (Nat.le_refl _) (fX c _ _ ⟨_, _, _, by omega, hl, rfl, rfl, rfl⟩ hX) ((World.putObj_heap_other (by omega)).trans hd)⟩
      · exact ⟨none, _, run_endLoop (P := P) hl (by simp [rec_]), hdone _ _ (Nat.le_refl _) (fZ _ _ ⟨_, _, _, by omega, hl, rfl, rfl, rfl⟩ hZ) ((World.putObj_heap_other (by omega)).trans hd)⟩


section
variable {P : Program} {F : Fence} {nF : Nat} (w : World)
theorem wpListIn_append_any {ops : Array Oper} {rest : List Oper} {o : Oper} {a : Act} {Q : Exit → Act → World → Prop} (hgd : o.guard = none) (s x : Operand) (t : TypeId)
    (ho : o.op = .call { callee := .builtin .append, args := #[s, x], argTypes := #[t, t] })
    (base : Nat) (e : TypeId) (i : TypeInfo) (z : Value) (size bytes : Nat) (ht : P.underlying t = some (.slice e)) (hi : P.info? e = some i) (hz : i.zero = some z)
    (hsize : i.size = size) (hby : i.bytes = bytes) (hzs : z.cells.size = size) (hsz : 0 < size)
    (v : Value) (n : Nat) (xs : List Value) (hs : a.eval s = v) (hown : w.ownsRow base e size v n xs) (u : Value) (m : Nat) (news : List Value) (hx : a.eval x = u) (hu : Spread w size u m news)
    (h63 : n + m ≤ maxLen) (hbytes : (n + m) * bytes ≤ 140737488355328) (hbase : base ≤ w.heap.size)
    (h : ∀ v' w', w'.ownsRow base e size v' (n + m) (xs ++ news) → w.grownBy w' v.ownBlock → (v'.ownBlock = v.ownBlock ∨ v'.ownBlock = some w.heap.size) → wpListIn F nF P ops Q rest (a.put o.dst v') w') : wpListIn F nF P ops Q (o :: rest) a w := by
  refine wpListIn_plain hgd fun K hK => ?_
  obtain ⟨v', w', hr, h2, h3, h4⟩ := run_append_any (P := P) w base t o.type e i z size bytes ht hi hz hsize hby hzs hsz v n xs hown u m news hu h63 hbytes hbase
  unfold Oper.wpIn
  refine ⟨by simp [Oper.about, ho, resolve, Target.leads, Sem.run_pure], ?_⟩
  rw [Oper.semAt_plain F _ _ (by rw [ho]; intro c hc'; cases hc')]
  simp [execOp, ho, resolve, invoke, builtin, hs, hx, hr, Result.andThen]
  exact hK _ _ (h v' w' h2 h3 h4)
end
/-- A slice just built. -/
theorem own_built {W : World} {T : TypeId} {b z n : Nat} {cs : List Value} (h : W.heap[b]? = some (.cells cs.toArray T (0, 0))) (hz : cs.length = n * z) (hn : n ≤ maxLen) (base : Nat) (hb : base ≤ b) : W.ownsRow base T z (.slice (some ⟨b, 0, none⟩) n n) n cs :=
  ⟨hz, .inr ⟨b, n, cs.toArray, rfl, hb, h, Nat.le_refl _, hn, by simp [hz], by rw [List.take_of_length_le (by simp [hz])]⟩⟩
theorem put_cell {B : Nat} {W W' : World} (h : Put B W W') {p : Addr} {c : Value} (hc : W.cell? p = some c) : W'.cell? p = some c := by
  obtain ⟨l, o, o', _, ho, h1, h2, rfl⟩ := h
  obtain ⟨x, hx, hxc⟩ := cells_of_cell hc
  have hne : p.block ≠ l := fun e => by rw [e, ho] at hx; cases hx; rw [h1] at hxc; cases hxc
  exact (World.cell?_of_block (World.putObj_heap_other hne)).trans hc
theorem put_block {B : Nat} {W W' : World} (h : Put B W W') {i : Nat} {o : Obj} (ho : W.heap[i]? = some o) (hc : o.isCells = true ∨ i < B) : W'.heap[i]? = some o := by
  obtain ⟨l, x, y, hl, hx, h1, h2, rfl⟩ := h
  have hne : i ≠ l := by
    rcases hc with hc | hc
    · rintro rfl
      rw [ho] at hx; cases hx; rw [h1] at hc; cases hc
    · omega
  exact (World.putObj_heap_other hne).trans ho
theorem put_bel {B n : Nat} {w W W' : World} (h : Put B W W') (hb : Below n w W) (hn : n ≤ B) : Below n w W' := by
  obtain ⟨l, x, y, hl, hx, h1, h2, rfl⟩ := h
  exact ⟨hb.os, hb.tape, hb.output, by simpa using hb.size, fun i hi => (World.putObj_heap_other (by omega)).trans (hb.block i hi)⟩
theorem put_sz {B : Nat} {W W' : World} (h : Put B W W') : W'.heap.size = W.heap.size := by
  obtain ⟨l, x, y, hl, hx, h1, h2, rfl⟩ := h
  simp
/-- Lists of cells that stay where they are. -/
theorem sl_cellsTo {α : Type} {W W' : World} {B B' z : Nat} {R : α → List Value → Prop} {l : List α} {v : Value} (h : SlOf W B z R l v) (hk : ∀ p c, W.cell? p = some c → W'.cell? p = some c) (hB : B ≤ B') : SlOf W' B' z R l v := by
  rcases h with h | ⟨a, cap, h1, h2, h3, h4, h5⟩
  · exact .inl h
  · refine .inr ⟨a, cap, h1, h2, h3, fun h => Nat.lt_of_lt_of_le (h4 h) hB, fun i x hx => ?_⟩
    obtain ⟨cs, c1, c2, c3⟩ := h5 i x hx
    exact ⟨cs, c1, c2, fun j c hj => hk _ _ (c3 j c hj)⟩
end Go.Proofs.YthhepmddcncjoaaGreatDoor
namespace Go.Proofs.YthhepmddcncjoaaGreatDoor

section
variable {α : Type} {c : α → α → Int}
/-- No later one is less. -/
def upL (c : α → α → Int) (l : List α) : Prop := l.Pairwise fun x y => c x y ≤ 0
theorem up_nil : upL c [] := List.Pairwise.nil
theorem up_one (x : α) : upL c [x] := List.pairwise_singleton _ _
theorem up_app {l m : List α} : upL c (l ++ m) ↔ upL c l ∧ upL c m ∧ ∀ x ∈ l, ∀ y ∈ m, c x y ≤ 0 := List.pairwise_append
theorem up_sub {l m : List α} (h : upL c m) (hs : l.Sublist m) : upL c l := List.Pairwise.sublist hs h
theorem up_cons {x : α} {l : List α} : upL c (x :: l) ↔ (∀ y ∈ l, c x y ≤ 0) ∧ upL c l := List.pairwise_cons

/-! ### One put among sorted ones, from behind -/
/-- Y1, x, Y2 where Y1 Y2 is sorted, x is less than all of Y2, and not less than the last of Y1. -/
theorem up_put (hc : TotC c) {Y1 Y2 : List α} {x : α} (h : upL c (Y1 ++ Y2)) (h2 : ∀ y ∈ Y2, c x y ≤ 0) (h1 : ∀ y, Y1.getLast? = some y → c y x ≤ 0) : upL c (Y1 ++ x :: Y2) := by
  obtain ⟨u1, u2, u3⟩ := up_app.1 h
  have hall : ∀ y ∈ Y1, c y x ≤ 0 := by
    rcases List.eq_nil_or_concat Y1 with rfl | ⟨Y, z, rfl⟩
    · intro y hy; cases hy
    · rw [List.concat_eq_append] at *
      have hz := h1 z (by simp)
      intro y hy
      rcases List.mem_append.1 hy with hy | hy
      · exact hc.trans y z x ((up_app.1 u1).2.2 y hy z (by simp)) hz
      · rw [List.mem_singleton.1 hy]; exact hz
  refine up_app.2 ⟨u1, up_cons.2 ⟨h2, u2⟩, fun y hy z hz => ?_⟩
  rcases List.mem_cons.1 hz with rfl | hz
  · exact hall y hy
  · exact u3 y hy z hz

/-! ### Two sorted lists, merged about a middle -/
theorem up_four (hc : TotC c) {A1 A2 B1 B2 M1 M2 : List α} (hA : upL c (A1 ++ A2)) (hB : upL c (B1 ++ B2))
    (h1 : ∀ x ∈ A1, ∀ y ∈ B2, c x y ≤ 0) (h2 : ∀ x ∈ B1, ∀ y ∈ A2, c x y ≤ 0) (p1 : M1.Perm (A1 ++ B1)) (p2 : M2.Perm (A2 ++ B2)) (u1 : upL c M1) (u2 : upL c M2) : upL c (M1 ++ M2) ∧ (M1 ++ M2).Perm ((A1 ++ A2) ++ (B1 ++ B2)) := by
  obtain ⟨_, _, a3⟩ := up_app.1 hA
  obtain ⟨_, _, b3⟩ := up_app.1 hB
  refine ⟨up_app.2 ⟨u1, u2, fun x hx y hy => ?_⟩, ?_⟩
  · have hx := (p1.mem_iff).1 hx
    have hy := (p2.mem_iff).1 hy
    rcases List.mem_append.1 hx with hx | hx <;> rcases List.mem_append.1 hy with hy | hy
    · exact a3 x hx y hy
    · exact h1 x hx y hy
    · exact h2 x hx y hy
    · exact b3 x hx y hy
  · refine (p1.append p2).trans ?_
    rw [List.append_assoc, List.append_assoc]
    refine List.Perm.append_left A1 ?_
    rw [← List.append_assoc, ← List.append_assoc]
    exact List.Perm.append_right B2 List.perm_append_comm
/-- Which of two sorted lists' places the search of the merge finds: k of A's first stay ahead. -/
theorem up_cross (hc : TotC c) {A1 A2 B1 B2 : List α} (hA : upL c (A1 ++ A2)) (hB : upL c (B1 ++ B2))
    (h1 : A1 = [] ∨ B2 = [] ∨ ∃ x y, A1.getLast? = some x ∧ B2.head? = some y ∧ c x y ≤ 0)
    (h2 : B1 = [] ∨ A2 = [] ∨ ∃ x y, B1.getLast? = some x ∧ A2.head? = some y ∧ c x y ≤ 0) :
    (∀ x ∈ A1, ∀ y ∈ B2, c x y ≤ 0) ∧ ∀ x ∈ B1, ∀ y ∈ A2, c x y ≤ 0 := by
  have key : ∀ {X Y : List α}, upL c X → upL c Y → (X = [] ∨ Y = [] ∨ ∃ x y, X.getLast? = some x ∧ Y.head? = some y ∧ c x y ≤ 0) → ∀ x ∈ X, ∀ y ∈ Y, c x y ≤ 0 := by
    intro X Y uX uY h x hx y hy
    rcases h with rfl | rfl | ⟨a, b, ha, hb, hab⟩
    · cases hx
    · cases hy
    · rcases List.eq_nil_or_concat X with rfl | ⟨X', z, rfl⟩
      · cases hx
      · rw [List.concat_eq_append] at *
        cases Y with
        | nil => cases hy
        | cons b' Y' =>
          simp at ha hb
          subst ha; subst hb
          have e1 : c x z ≤ 0 := by
            rcases List.mem_append.1 hx with hx | hx
            · exact (up_app.1 uX).2.2 x hx z (by simp)
            · rw [List.mem_singleton.1 hx, hc.refl]; exact Int.le_refl _
          have e2 : c b' y ≤ 0 := by
            rcases List.mem_cons.1 hy with rfl | hy
            · rw [hc.refl]; exact Int.le_refl _
            · exact (up_cons.1 uY).1 y hy
          exact hc.trans x z y e1 (hc.trans z b' y hab e2)
  obtain ⟨a1, a2, _⟩ := up_app.1 hA
  obtain ⟨b1, b2, _⟩ := up_app.1 hB
  exact ⟨key a1 b2 h1, key b1 a2 h2⟩
/-- One put among sorted ones, ahead of the first that is not less. -/
theorem up_ins (hc : TotC c) {B1 B2 : List α} {x : α} (h : upL c (B1 ++ B2)) (h1 : ∀ y ∈ B1, c y x ≤ 0) (h2 : ∀ y ∈ B2, c x y ≤ 0) : upL c (B1 ++ x :: B2) := by
  obtain ⟨u1, u2, u3⟩ := up_app.1 h
  refine up_app.2 ⟨u1, up_cons.2 ⟨h2, u2⟩, fun y hy z hz => ?_⟩
  rcases List.mem_cons.1 hz with rfl | hz
  · exact h1 y hy
  · exact u3 y hy z hz
theorem up_at {l : List α} (h : upL c l) {i j : Nat} {x y : α} (hij : i < j) (hx : l[i]? = some x) (hy : l[j]? = some y) : c x y ≤ 0 := by
  obtain ⟨h1, h2⟩ := List.getElem?_eq_some_iff.1 hx
  obtain ⟨h3, h4⟩ := List.getElem?_eq_some_iff.1 hy
  have := List.pairwise_iff_getElem.1 h i j h1 h3 hij
  rw [h2, h4] at this
  exact this

/-! ### Blocks -/
/-- Each block of k is sorted. -/
def blL (c : α → α → Int) (k : Nat) (l : List α) : Prop := ∀ i, upL c ((l.drop (i * k)).take k)
theorem bl_nil (k : Nat) : blL c k [] := fun i => by simp [up_nil]
theorem bl_all {k : Nat} {l : List α} (h : blL c k l) (hk : l.length ≤ k) : upL c l := by
  have := h 0
  rw [Nat.zero_mul, List.drop_zero, List.take_of_length_le hk] at this
  exact this
theorem bl_small {k : Nat} {l : List α} (h : upL c l) : blL c k l := fun i => up_sub h ((List.take_sublist _ _).trans (List.drop_sublist _ _))
theorem bl_snoc {k q : Nat} {D M : List α} (hD : blL c k D) (hq : D.length = q * k) (hM : upL c M) : blL c k (D ++ M) := by
  intro i
  rcases Nat.lt_or_ge i q with h | h
  · have h1 : (i + 1) * k ≤ q * k := Nat.mul_le_mul_right k h
    rw [Nat.succ_mul] at h1
    rw [List.drop_append_of_le_length (by omega), List.take_append_of_le_length (by rw [List.length_drop]; omega)]
    exact hD i
  · have h1 : q * k ≤ i * k := Nat.mul_le_mul_right k h
    rw [List.drop_append, List.drop_of_length_le (by omega), List.nil_append]
    exact up_sub hM ((List.take_sublist _ _).trans (List.drop_sublist _ _))
theorem bl_two {k : Nat} {E : List α} (h : blL c k E) : upL c (E.take k) ∧ upL c ((E.drop k).take k) ∧ blL c k (E.drop (2 * k)) := by
  refine ⟨by simpa using h 0, by simpa using h 1, fun i => ?_⟩
  have := h (i + 2)
  rw [List.drop_drop]
  rw [show 2 * k + i * k = (i + 2) * k by rw [Nat.add_mul]; omega]
  exact this
end
end Go.Proofs.YthhepmddcncjoaaGreatDoor
namespace Go.Proofs.YthhepmddcncjoaaGreatDoor

section
variable {α : Type} {c : α → α → Int}
/-! ### Of each run of the same the first -/
def runL (c : α → α → Int) : α → List α → List α
  | _, [] => []
  | p, y :: r => if c y p = 0 then runL c y r else y :: runL c y r
def compL (c : α → α → Int) : List α → List α
  | [] => []
  | x :: r => x :: runL c x r
theorem run_rise (hc : TotC c) : ∀ {r : List α} {p x : α}, upL c (p :: r) → c x p = 0 → riseL c (x :: runL c p r) = true
  | [], _, _, _, _ => rfl
  | y :: r, p, x, h, h0 => by
    obtain ⟨h1, h2⟩ := up_cons.1 h
    have hpy := h1 y (by simp)
    have ha := hc.anti p y
    unfold runL
    split
    · rename_i he
      have : c x y = 0 := hc.eq_eq h0 (by omega)
      exact run_rise hc h2 this
    · rename_i he
      have h3 : c x y < 0 := hc.le_lt (b := p) (by omega) (by omega)
      have ih := run_rise hc h2 (hc.refl y)
      unfold riseL
      rw [ih, decide_eq_true h3]
      rfl
theorem comp_rise (hc : TotC c) : ∀ {l : List α}, upL c l → riseL c (compL c l) = true
  | [], _ => rfl
  | x :: r, h => run_rise hc h (hc.refl x)
theorem run_mem {P : α → Prop} (hP : ∀ x y, P x → P y → c x y = 0 → x = y) : ∀ {r : List α} {p : α}, P p → (∀ x ∈ r, P x) → ∀ x, (x = p ∨ x ∈ runL c p r) ↔ (x = p ∨ x ∈ r)
  | [], _, _, _, _ => Iff.rfl
  | y :: r, p, hp, hr, x => by
    have hy := hr y (by simp)
    have ih := run_mem hP hy (fun z hz => hr z (List.mem_cons_of_mem _ hz)) x
    unfold runL
    split
    · rename_i he
      have e := hP y p hy hp he
      subst e
      rw [ih, List.mem_cons]
      constructor
      · rintro (h | h)
        · exact .inl h
        · exact .inr (.inr h)
      · rintro (h | h | h)
        · exact .inl h
        · exact .inl h
        · exact .inr h
    · rw [List.mem_cons, List.mem_cons, ih]
theorem comp_mem {P : α → Prop} (hP : ∀ x y, P x → P y → c x y = 0 → x = y) : ∀ {l : List α}, (∀ x ∈ l, P x) → ∀ x, x ∈ compL c l ↔ x ∈ l
  | [], _, _ => Iff.rfl
  | y :: r, h, x => by
    have := run_mem hP (h y (by simp)) (fun z hz => h z (List.mem_cons_of_mem _ hz)) x
    unfold compL
    rw [List.mem_cons, List.mem_cons, this]
/-- Sorted, and of each run one: the same as each put where it belongs. -/
theorem comp_sort (hc : TotC c) {P : α → Prop} (hP : ∀ x y, P x → P y → c x y = 0 → x = y) {l d : List α} (hl : ∀ x ∈ l, P x) (hp : d.Perm l) (hu : upL c d) : compL c d = sortL c l :=
  rise_ext hc (comp_rise hc hu) (sort_rise hc l) fun x => by
    rw [comp_mem hP (fun y hy => hl y (hp.mem_iff.1 hy)), sort_mem hc hP hl, hp.mem_iff]
theorem run_len : ∀ (r : List α) (p : α), (runL c p r).length ≤ r.length
  | [], _ => Nat.le_refl _
  | y :: r, p => by
    have := run_len r y
    unfold runL
    split
    · rw [List.length_cons]; omega
    · rw [List.length_cons, List.length_cons]; omega

/-! ### Two lists at once -/
def bothL (c : α → α → Int) : List α → List α → List ((Bool × Bool) × α)
  | [], b => b.map fun y => ((false, true), y)
  | x :: a, [] => (x :: a).map fun x => ((true, false), x)
  | x :: a, y :: b => if c x y > 0 then ((false, true), y) :: bothL c (x :: a) b else if c x y = 0 then ((true, true), x) :: bothL c a b else ((true, false), x) :: bothL c a (y :: b)
  termination_by a b => a.length + b.length
theorem both_nil (b : List α) : bothL c [] b = b.map fun y => ((false, true), y) := by
  cases b <;> simp [bothL]
theorem both_nil' (a : List α) : bothL c a [] = a.map fun x => ((true, false), x) := by
  cases a <;> simp [bothL]
theorem both_gt {x y : α} {a b : List α} (h : c x y > 0) : bothL c (x :: a) (y :: b) = ((false, true), y) :: bothL c (x :: a) b := by
  rw [bothL, if_pos h]
theorem both_eq {x y : α} {a b : List α} (h : c x y = 0) : bothL c (x :: a) (y :: b) = ((true, true), x) :: bothL c a b := by
  rw [bothL, if_neg (by omega), if_pos h]
theorem both_lt {x y : α} {a b : List α} (h : c x y < 0) : bothL c (x :: a) (y :: b) = ((true, false), x) :: bothL c a (y :: b) := by
  rw [bothL, if_neg (by omega), if_neg (by omega)]
theorem both_len : ∀ (a b : List α), (bothL c a b).length ≤ a.length + b.length
  | [], b => by rw [both_nil]; simp
  | x :: a, [] => by rw [both_nil']; simp
  | x :: a, y :: b => by
    rcases Int.lt_or_le (c x y) 0 with h | h
    · rw [both_lt h]
      have := both_len a (y :: b)
      simp only [List.length_cons] at this ⊢
      omega
    · by_cases h0 : c x y = 0
      · rw [both_eq h0]
        have := both_len a b
        simp only [List.length_cons] at this ⊢
        omega
      · rw [both_gt (by omega)]
        have := both_len (x :: a) b
        simp only [List.length_cons] at this ⊢
        omega
  termination_by a b => a.length + b.length
/-- What comes is of the one or of the other, and in which of them it is told. -/
theorem both_mem (hc : TotC c) {P : α → Prop} (hP : ∀ x y, P x → P y → c x y = 0 → x = y) : ∀ {a b : List α}, (∀ x ∈ a, P x) → (∀ x ∈ b, P x) → riseL c a = true → riseL c b = true →
    ∀ p q x, ((p, q), x) ∈ bothL c a b ↔ (x ∈ a ∨ x ∈ b) ∧ (p = true ↔ x ∈ a) ∧ (q = true ↔ x ∈ b)
  | [], b, _, _, _, _, p, q, x => by
    rw [both_nil]
    simp only [List.mem_map, Prod.mk.injEq, List.not_mem_nil, false_or, iff_false]
    constructor
    · rintro ⟨y, hy, ⟨rfl, rfl⟩, rfl⟩; exact ⟨hy, by simp, by simp [hy]⟩
    · rintro ⟨h1, h2, h3⟩; exact ⟨x, h1, ⟨by simpa using h2, (h3.2 h1).symm⟩, rfl⟩
  | x0 :: a, [], _, _, _, _, p, q, x => by
    rw [both_nil']
    simp only [List.mem_map, Prod.mk.injEq, List.not_mem_nil, or_false, iff_false]
    constructor
    · rintro ⟨y, hy, ⟨rfl, rfl⟩, rfl⟩; exact ⟨hy, by simp [hy], by simp⟩
    · rintro ⟨h1, h2, h3⟩; exact ⟨x, h1, ⟨(h2.2 h1).symm, by simpa using h3⟩, rfl⟩
  | x0 :: a, y0 :: b, ha, hb, ra, rb, p, q, x => by
    have hx0 := ha x0 (by simp)
    have hy0 := hb y0 (by simp)
    have la := rise_all hc ra
    have lb := rise_all hc rb
    have hx0a : x0 ∉ a := fun h => by have := la x0 h; rw [hc.refl] at this; omega
    have hy0b : y0 ∉ b := fun h => by have := lb y0 h; rw [hc.refl] at this; omega
    have ha' : ∀ x ∈ a, P x := fun z hz => ha z (List.mem_cons_of_mem _ hz)
    have hb' : ∀ x ∈ b, P x := fun z hz => hb z (List.mem_cons_of_mem _ hz)
    rcases Int.lt_or_le (c x0 y0) 0 with h | h
    · rw [both_lt h, List.mem_cons, both_mem hc hP ha' hb (rise_tail ra) rb p q x]
      have hn : x0 ∉ y0 :: b := fun hm => by
        rcases List.mem_cons.1 hm with e | hm
        · rw [e, hc.refl] at h; omega
        · have h1 := lb x0 hm
          have h2 := hc.anti x0 y0
          omega
      simp only [Prod.mk.injEq]
      constructor
      · rintro (⟨⟨rfl, rfl⟩, rfl⟩ | ⟨h1, h2, h3⟩)
        · exact ⟨.inl (by simp), by simp, by simpa using hn⟩
        · refine ⟨?_, ?_, h3⟩
          · rcases h1 with h1 | h1
            · exact .inl (List.mem_cons_of_mem _ h1)
            · exact .inr h1
          · rw [h2]
            constructor
            · exact List.mem_cons_of_mem _
            · intro hm
              rcases List.mem_cons.1 hm with rfl | hm
              · rcases h1 with h1 | h1
                · exact h1
                · exact absurd h1 hn
              · exact hm
      · rintro ⟨h1, h2, h3⟩
        by_cases e : x = x0
        · subst e
          refine .inl ⟨⟨h2.2 (by simp), ?_⟩, rfl⟩
          cases q with
          | false => rfl
          | true => exact absurd (h3.1 rfl) hn
        · refine .inr ⟨?_, ?_, h3⟩
          · rcases h1 with h1 | h1
            · rcases List.mem_cons.1 h1 with h1 | h1
              · exact absurd h1 e
              · exact .inl h1
            · exact .inr h1
          · rw [h2, List.mem_cons]
            constructor
            · rintro (h | h)
              · exact absurd h e
              · exact h
            · exact .inr
    · by_cases h0 : c x0 y0 = 0
      · have e := hP x0 y0 hx0 hy0 h0
        subst e
        rw [both_eq h0, List.mem_cons, both_mem hc hP ha' hb' (rise_tail ra) (rise_tail rb) p q x]
        simp only [Prod.mk.injEq]
        constructor
        · rintro (⟨⟨rfl, rfl⟩, rfl⟩ | ⟨h1, h2, h3⟩)
          · exact ⟨.inl (by simp), by simp, by simp⟩
          · have hne : x ≠ x0 := by
              rintro rfl
              rcases h1 with h1 | h1
              · exact hx0a h1
              · exact hy0b h1
            refine ⟨?_, ?_, ?_⟩
            · rcases h1 with h1 | h1
              · exact .inl (List.mem_cons_of_mem _ h1)
              · exact .inr (List.mem_cons_of_mem _ h1)
            · rw [h2, List.mem_cons]; simp [hne]
            · rw [h3, List.mem_cons]; simp [hne]
        · rintro ⟨h1, h2, h3⟩
          by_cases e : x = x0
          · subst e
            exact .inl ⟨⟨h2.2 (by simp), h3.2 (by simp)⟩, rfl⟩
          · simp only [List.mem_cons, e, false_or] at h1 h2 h3
            exact .inr ⟨h1, h2, h3⟩
      · have h' : c y0 x0 < 0 := by have := hc.anti x0 y0; omega
        have hn : y0 ∉ x0 :: a := fun hm => by
          rcases List.mem_cons.1 hm with e | hm
          · rw [e, hc.refl] at h'; omega
          · have h1 := la y0 hm
            have h2 := hc.anti x0 y0
            omega
        rw [both_gt (by omega), List.mem_cons, both_mem hc hP ha hb' ra (rise_tail rb) p q x]
        simp only [Prod.mk.injEq]
        constructor
        · rintro (⟨⟨rfl, rfl⟩, rfl⟩ | ⟨h1, h2, h3⟩)
          · exact ⟨.inr (by simp), by simpa using hn, by simp⟩
          · have hne : x ≠ y0 := by
              rintro rfl
              rcases h1 with h1 | h1
              · exact hn h1
              · exact hy0b h1
            refine ⟨?_, h2, ?_⟩
            · rcases h1 with h1 | h1
              · exact .inl h1
              · exact .inr (List.mem_cons_of_mem _ h1)
            · rw [h3, List.mem_cons]; simp [hne]
        · rintro ⟨h1, h2, h3⟩
          by_cases e : x = y0
          · subst e
            refine .inl ⟨⟨?_, h3.2 (by simp)⟩, rfl⟩
            cases p with
            | false => rfl
            | true => exact absurd (h2.1 rfl) hn
          · refine .inr ⟨?_, h2, ?_⟩
            · rcases h1 with h1 | h1
              · exact .inl h1
              · rcases List.mem_cons.1 h1 with h1 | h1
                · exact absurd h1 e
                · exact .inr h1
            · rw [h3, List.mem_cons]; simp [e]
  termination_by a b => a.length + b.length
/-- What comes rises. -/
theorem both_lo (hc : TotC c) : ∀ {a b : List α} {z : α}, (∀ x ∈ a, c z x < 0) → (∀ x ∈ b, c z x < 0) → ∀ x ∈ (bothL c a b).map Prod.snd, c z x < 0
  | [], b, z, _, hb, x, hx => by
    rw [both_nil, List.map_map] at hx
    simp at hx
    exact hb x hx
  | x0 :: a, [], z, ha, _, x, hx => by
    rw [both_nil', List.map_map] at hx
    exact ha x (by simpa [eq_comm] using hx)
  | x0 :: a, y0 :: b, z, ha, hb, x, hx => by
    have ha' : ∀ x ∈ a, c z x < 0 := fun w hw => ha w (List.mem_cons_of_mem _ hw)
    have hb' : ∀ x ∈ b, c z x < 0 := fun w hw => hb w (List.mem_cons_of_mem _ hw)
    rcases Int.lt_or_le (c x0 y0) 0 with h | h
    · rw [both_lt h, List.map_cons, List.mem_cons] at hx
      rcases hx with rfl | hx
      · exact ha _ (by simp)
      · exact both_lo hc ha' hb x hx
    · by_cases h0 : c x0 y0 = 0
      · rw [both_eq h0, List.map_cons, List.mem_cons] at hx
        rcases hx with rfl | hx
        · exact ha _ (by simp)
        · exact both_lo hc ha' hb' x hx
      · rw [both_gt (by omega), List.map_cons, List.mem_cons] at hx
        rcases hx with rfl | hx
        · exact hb _ (by simp)
        · exact both_lo hc ha hb' x hx
  termination_by a b => a.length + b.length
theorem both_rise (hc : TotC c) : ∀ {a b : List α}, riseL c a = true → riseL c b = true → riseL c ((bothL c a b).map Prod.snd) = true
  | [], b, _, hb => by rw [both_nil, List.map_map]; simpa [Function.comp_def] using hb
  | x0 :: a, [], ha, _ => by rw [both_nil', List.map_map]; simpa [Function.comp_def] using ha
  | x0 :: a, y0 :: b, ha, hb => by
    have la := rise_all hc ha
    have lb := rise_all hc hb
    rcases Int.lt_or_le (c x0 y0) 0 with h | h
    · rw [both_lt h, List.map_cons]
      refine rise_cons (both_lo hc la fun x hx => ?_) (both_rise hc (rise_tail ha) hb)
      rcases List.mem_cons.1 hx with rfl | hx
      · exact h
      · exact hc.lt_le h (by have := lb x hx; omega)
    · by_cases h0 : c x0 y0 = 0
      · rw [both_eq h0, List.map_cons]
        exact rise_cons (both_lo hc la fun x hx => hc.le_lt (b := y0) (Int.le_of_eq h0) (lb x hx)) (both_rise hc (rise_tail ha) (rise_tail hb))
      · have h' : c y0 x0 < 0 := by have := hc.anti x0 y0; omega
        rw [both_gt (by omega), List.map_cons]
        refine rise_cons (both_lo hc (fun x hx => ?_) lb) (both_rise hc ha (rise_tail hb))
        rcases List.mem_cons.1 hx with rfl | hx
        · exact h'
        · exact hc.lt_le h' (by have := la x hx; omega)
  termination_by a b => a.length + b.length
theorem rise_map_filter (hc : TotC c) (f : (Bool × Bool) × α → Bool) {l : List ((Bool × Bool) × α)} (h : riseL c (l.map Prod.snd) = true) : riseL c ((l.filter f).map Prod.snd) = true := by
  induction l with
  | nil => rfl
  | cons x l ih =>
    have ih := ih (rise_tail h)
    rw [List.filter_cons]
    split
    · rw [List.map_cons]
      refine rise_cons (fun y hy => ?_) ih
      obtain ⟨z, hz, rfl⟩ := List.mem_map.1 hy
      exact rise_all hc h _ (List.mem_map.2 ⟨z, (List.mem_filter.1 hz).1, rfl⟩)
    · exact ih
/-- Both, gone through at once, are the union; what is not in the second one is what Minus asks for. -/
theorem both_union (hc : TotC c) {P : α → Prop} (hP : ∀ x y, P x → P y → c x y = 0 → x = y) {a b : List α} (ha : ∀ x ∈ a, P x) (hb : ∀ x ∈ b, P x) (ra : riseL c a = true) (rb : riseL c b = true) : (bothL c a b).map Prod.snd = unionL c a b := by
  refine rise_ext hc (both_rise hc ra rb) (union_rise hc b ra) fun x => ?_
  rw [union_mem hc hP ha hb, List.mem_map]
  constructor
  · rintro ⟨⟨⟨p, q⟩, y⟩, h, rfl⟩
    exact ((both_mem hc hP ha hb ra rb p q y).1 h).1
  · intro h
    haveI := Classical.propDecidable (x ∈ a)
    haveI := Classical.propDecidable (x ∈ b)
    exact ⟨((decide (x ∈ a), decide (x ∈ b)), x), (both_mem hc hP ha hb ra rb _ _ x).2 ⟨h, by simp, by simp⟩, rfl⟩
theorem both_minus (hc : TotC c) {P : α → Prop} (hP : ∀ x y, P x → P y → c x y = 0 → x = y) {a b : List α} (ha : ∀ x ∈ a, P x) (hb : ∀ x ∈ b, P x) (ra : riseL c a = true) (rb : riseL c b = true) : ((bothL c a b).filter fun p => !p.1.2).map Prod.snd = minusL c a b := by
  refine rise_ext hc (rise_map_filter hc _ (both_rise hc ra rb)) (rise_filter hc _ ra) fun x => ?_
  show _ ↔ x ∈ minusL c a b
  rw [minus_mem hc hP ha hb, List.mem_map]
  constructor
  · rintro ⟨⟨⟨p, q⟩, y⟩, h, rfl⟩
    obtain ⟨h1, h2⟩ := List.mem_filter.1 h
    obtain ⟨h3, h4, h5⟩ := (both_mem hc hP ha hb ra rb p q y).1 h1
    have hq : q = false := by simpa using h2
    have : y ∉ b := fun hy => by rw [h5.2 hy] at hq; cases hq
    rcases h3 with h3 | h3
    · exact ⟨h3, this⟩
    · exact absurd h3 this
  · rintro ⟨h1, h2⟩
    exact ⟨((true, false), x), List.mem_filter.2 ⟨(both_mem hc hP ha hb ra rb _ _ x).2 ⟨.inl h1, by simp [h1], by simp [h2]⟩, rfl⟩, rfl⟩
/-- One row beside rising ones. -/
theorem both_put (hc : TotC c) {P : α → Prop} (hP : ∀ x y, P x → P y → c x y = 0 → x = y) {a : List α} {t : α} (ha : ∀ x ∈ a, P x) (ht : P t) (ra : riseL c a = true) : (bothL c a [t]).map Prod.snd = putL c a t ∧ (bothL c a [t]).any (fun p => !p.1.1) = newL c a t := by
  have hb : ∀ x ∈ [t], P x := fun x hx => by rw [List.mem_singleton.1 hx]; exact ht
  refine ⟨both_union hc hP ha hb ra rfl, ?_⟩
  rw [new_in hc ra, Bool.eq_iff_iff, List.any_eq_true]
  constructor
  · rintro ⟨⟨⟨p, q⟩, y⟩, h, hp⟩
    obtain ⟨h1, h2, h3⟩ := (both_mem hc hP ha hb ra rfl p q y).1 h
    have hp : p = false := by simpa using hp
    have hya : y ∉ a := fun hy => by rw [h2.2 hy] at hp; cases hp
    have hyt : y = t := by
      rcases h1 with h1 | h1
      · exact absurd h1 hya
      · exact List.mem_singleton.1 h1
    subst hyt
    cases hi : inL c a y with
    | false => rfl
    | true => exact absurd ((in_mem hc hP ha ht).1 hi) hya
  · intro h
    have hta : t ∉ a := fun hm => by rw [(in_mem hc hP ha ht).2 hm] at h; cases h
    exact ⟨((false, true), t), (both_mem hc hP ha hb ra rfl _ _ t).2 ⟨.inr (by simp), by simp [hta], by simp⟩, rfl⟩
end
end Go.Proofs.YthhepmddcncjoaaGreatDoor
namespace Go.Proofs.YthhepmddcncjoaaGreatDoor
open Go.RowKit

structure Vl where
  sym : Bool
  n : Int
  s : ByteArray
def VlC (x : Vl) (cs : List Value) : Prop := cs = [.bool x.sym, .int .i64 x.n, .string x.s] ∧ I64 x.n ∧ x.s.size ≤ maxLen
abbrev Rw := List Vl
/-- A row's cell: a slice of values below B. -/
def RwC (w : World) (B : Nat) (r : Rw) (cs : List Value) : Prop := ∃ v, cs = [v] ∧ SlOf w B 3 VlC r v
abbrev RwsS (w : World) (B : Nat) (l : List Rw) (v : Value) : Prop := SlOf w B 1 (RwC w B) l v
theorem VlS.below {w w' : World} {B : Nat} {l : Rw} {v : Value} (h : SlOf w B 3 VlC l v) (hb : Below B w w') : SlOf w' B 3 VlC l v := SlOf.below h hb fun _ _ _ h => h
theorem VlS.more {w : World} {B B' : Nat} {l : Rw} {v : Value} (h : SlOf w B 3 VlC l v) (hB : B ≤ B') : SlOf w B' 3 VlC l v := SlOf.more h hB fun _ _ _ h => h
theorem VlS.past {w w' : World} {l : Rw} {v : Value} (h : SlOf w w.heap.size 3 VlC l v) (hb : Below w.heap.size w w') : SlOf w' w'.heap.size 3 VlC l v := VlS.more (VlS.below h hb) hb.size
theorem RwC.below {w w' : World} {B : Nat} {r : Rw} {cs : List Value} (h : RwC w B r cs) (hb : Below B w w') : RwC w' B r cs := by
  obtain ⟨v, h1, h2⟩ := h
  exact ⟨v, h1, VlS.below h2 hb⟩
theorem RwC.more {w : World} {B B' : Nat} {r : Rw} {cs : List Value} (h : RwC w B r cs) (hB : B ≤ B') : RwC w B' r cs := by
  obtain ⟨v, h1, h2⟩ := h
  exact ⟨v, h1, VlS.more h2 hB⟩
theorem RwsS.below {w w' : World} {B : Nat} {l : List Rw} {v : Value} (h : RwsS w B l v) (hb : Below B w w') : RwsS w' B l v := SlOf.below h hb fun _ _ _ h => h.below hb
theorem RwsS.more {w : World} {B B' : Nat} {l : List Rw} {v : Value} (h : RwsS w B l v) (hB : B ≤ B') : RwsS w B' l v := SlOf.more h hB fun _ _ _ h => h.more hB
theorem RwsS.past {w w' : World} {l : List Rw} {v : Value} (h : RwsS w w.heap.size l v) (hb : Below w.heap.size w w') : RwsS w' w'.heap.size l v := RwsS.more (RwsS.below h hb) hb.size
theorem CellsAt.n3 {w : World} {a : Addr} {o : Nat} {c0 c1 c2 : Value} (h : CellsAt w a o [c0, c1, c2]) : w.cell? (a.add o) = some c0 ∧ w.cell? ⟨(a.add o).block, (a.add o).off + 1, none⟩ = some c1 ∧ w.cell? ⟨(a.add o).block, (a.add o).off + 2, none⟩ = some c2 := by
  rw [← addNext a o 1 (by omega), ← addNext a o 2 (by omega)]
  exact ⟨h 0 _ rfl, h 1 _ rfl, h 2 _ rfl⟩
theorem vl_at {w wr : World} {B : Nat} {l : Rw} {o : Option Addr} {k : Nat} {x : Vl} (S : Hid (SlIn w B 3 VlC l o)) (hB : Below B w wr) (ht : l[k]? = some x) :
    ∃ a, o = some a ∧ a.block < B ∧ I64 x.n ∧ x.s.size ≤ maxLen ∧ wr.cell? (a.add (k * 3)) = some (.bool x.sym) ∧ wr.cell? ⟨(a.add (k * 3)).block, (a.add (k * 3)).off + 1, none⟩ = some (.int .i64 x.n) ∧ wr.cell? ⟨(a.add (k * 3)).block, (a.add (k * 3)).off + 2, none⟩ = some (.string x.s) := by
  obtain ⟨a, cs, rfl, ha, _, ⟨rfl, h1, h2⟩, h3⟩ := S.out k x ht
  exact ⟨a, rfl, ha, h1, h2, (h3.below ha hB).n3⟩
theorem rw_at {w wr : World} {l : List Rw} {o : Option Addr} {k : Nat} {r : Rw} (S : Hid (SlIn w w.heap.size 1 (RwC w w.heap.size) l o)) (hB : Below w.heap.size w wr) (ht : l[k]? = some r) :
    ∃ a o' cap', o = some a ∧ a.block < w.heap.size ∧ Hid (SlOf wr wr.heap.size 3 VlC r (.slice o' r.length cap')) ∧ wr.cell? (a.add k) = some (.slice o' r.length cap') ∧ Hid (RwC w w.heap.size r [.slice o' r.length cap']) := by
  obtain ⟨a, cs, rfl, ha, _, ⟨v, rfl, h1⟩, h2⟩ := S.out k r ht
  obtain ⟨o', cap', rfl, _⟩ := SlOf.uni h1
  have h3 := (h2.below ha hB).n1
  rw [Nat.mul_one] at h3
  exact ⟨a, o', cap', rfl, ha, Lib.hid (VlS.more (VlS.below h1 hB) hB.size), h3, Lib.hid ⟨_, rfl, h1⟩⟩

/-! ### How values and rows are held against each other -/
def byteC (a b : UInt8) : Int := if a < b then -1 else if b < a then 1 else 0
theorem byteC_tot : TotC byteC := by
  refine ⟨fun a b => ?_, fun a b => ?_, fun a b d => ?_⟩
  all_goals
    unfold byteC
    simp only [UInt8.lt_iff_toNat_lt]
  · split
    · exact .inl rfl
    · split
      · exact .inr (.inr rfl)
      · exact .inr (.inl rfl)
  · repeat' split
    all_goals omega
  · repeat' split
    all_goals omega
def intC (a b : Int) : Int := if a < b then -1 else if b < a then 1 else 0
theorem intC_tot : TotC intC := by
  refine ⟨fun a b => ?_, fun a b => ?_, fun a b d => ?_⟩
  all_goals unfold intC
  · split
    · exact .inl rfl
    · split
      · exact .inr (.inr rfl)
      · exact .inr (.inl rfl)
  · repeat' split
    all_goals omega
  · repeat' split
    all_goals omega
abbrev textC (a b : ByteArray) : Int := lexC byteC a.data.toList b.data.toList
theorem textC_tot : TotC textC := ⟨fun _ _ => byteC_tot.lex.range _ _, fun _ _ => byteC_tot.lex.anti _ _, fun _ _ _ => byteC_tot.lex.trans _ _ _⟩
def vlC (a b : Vl) : Int := if (a.sym != b.sym) = true then (if b.sym = true then -1 else 1) else if a.sym = true then textC a.s b.s else intC a.n b.n
theorem vlC_tot : TotC vlC := by
  refine ⟨fun a b => ?_, fun a b => ?_, fun a b d => ?_⟩
  · have h1 := textC_tot.range a.s b.s
    have h2 := intC_tot.range a.n b.n
    unfold vlC
    cases a.sym <;> cases b.sym <;> simp <;> assumption
  · have h1 := textC_tot.anti a.s b.s
    have h2 := intC_tot.anti a.n b.n
    unfold vlC
    cases a.sym <;> cases b.sym <;> simp <;> assumption
  · have h1 := textC_tot.trans a.s b.s d.s
    have h2 := intC_tot.trans a.n b.n d.n
    unfold vlC
    cases a.sym <;> cases b.sym <;> cases d.sym <;> simp <;> assumption
abbrev rwC : Rw → Rw → Int := lexC vlC
theorem rwC_tot : TotC rwC := vlC_tot.lex
/-- A value with nothing but what it is. -/
def cleanV (x : Vl) : Bool := if x.sym = true then x.n == 0 else x.s.toList.isEmpty
def cleanR (r : Rw) : Bool := r.all cleanV
theorem lex_zero {α : Type} {c : α → α → Int} {P : α → Prop} (hP : ∀ x y, P x → P y → c x y = 0 → x = y) : ∀ {a b : List α}, (∀ x ∈ a, P x) → (∀ x ∈ b, P x) → lexC c a b = 0 → a = b
  | [], [], _, _, _ => rfl
  | [], _ :: _, _, _, h => by simp [lexC] at h
  | _ :: _, [], _, _, h => by simp [lexC] at h
  | x :: a, y :: b, ha, hb, h => by
    unfold lexC at h
    split at h
    · rename_i h0
      rw [hP x y (ha x (by simp)) (hb y (by simp)) h0, lex_zero hP (fun z hz => ha z (List.mem_cons_of_mem _ hz)) (fun z hz => hb z (List.mem_cons_of_mem _ hz)) h]
    · rename_i h0
      exact absurd h h0
theorem byteC_zero {a b : UInt8} (h : byteC a b = 0) : a = b := by
  unfold byteC at h
  simp only [UInt8.lt_iff_toNat_lt] at h
  apply UInt8.toNat_inj.1
  split at h
  · omega
  · split at h <;> omega
theorem textC_zero {a b : ByteArray} (h : textC a b = 0) : a = b := by
  have h1 : a.data.toList = b.data.toList := lex_zero (P := fun _ => True) (fun _ _ _ _ h => byteC_zero h) (fun _ _ => trivial) (fun _ _ => trivial) h
  cases a; cases b
  simp only at h1
  rw [Array.toList_inj.1 h1]
theorem empty_eq {a b : ByteArray} (ha : a.toList.isEmpty = true) (hb : b.toList.isEmpty = true) : a = b := by
  rw [List.isEmpty_iff, Lib.toList_data] at ha hb
  cases a; cases b
  simp only at ha hb
  rw [Array.toList_inj.1 (ha.trans hb.symm)]
theorem vlC_zero {a b : Vl} (ha : cleanV a = true) (hb : cleanV b = true) (h : vlC a b = 0) : a = b := by
  obtain ⟨sa, na, ta⟩ := a
  obtain ⟨sb, nb, tb⟩ := b
  unfold vlC at h
  unfold cleanV at ha hb
  cases sa <;> cases sb <;> simp at h ha hb
  · have e : na = nb := by unfold intC at h; split at h <;> first | omega | (split at h <;> omega)
    rw [e, empty_eq (a := ta) (b := tb) (by simpa using ha) (by simpa using hb)]
  · rw [textC_zero h, ha, hb]
theorem rwC_zero (a b : Rw) (ha : cleanR a = true) (hb : cleanR b = true) (h : rwC a b = 0) : a = b :=
  lex_zero (P := fun x => cleanV x = true) (fun _ _ => vlC_zero) (fun x hx => List.all_eq_true.1 ha x hx) (fun x hx => List.all_eq_true.1 hb x hx) h
/-- Value by value the same. -/
def sameV (a b : Vl) : Bool := (a.sym == b.sym) && (a.n == b.n) && (a.s.toList == b.s.toList)
def sameW (a b : Rw) : Bool := allS sameV a b
def sameWs (a b : List Rw) : Bool := allS sameW a b
theorem allS_iff {α : Type} {f : α → α → Bool} (h : ∀ x y, f x y = true ↔ x = y) : ∀ {l m : List α}, allS f l m = true ↔ l = m
  | [], [] => by simp [allS]
  | [], _ :: _ => by simp [allS]
  | _ :: _, [] => by simp [allS]
  | x :: l, y :: m => by simp [allS, h, allS_iff h (l := l) (m := m)]
theorem sameV_iff (a b : Vl) : sameV a b = true ↔ a = b := by
  obtain ⟨sa, na, ta⟩ := a
  obtain ⟨sb, nb, tb⟩ := b
  unfold sameV
  simp only [Bool.and_eq_true, beq_iff_eq, Vl.mk.injEq]
  constructor
  · rintro ⟨⟨h1, h2⟩, h3⟩
    refine ⟨h1, h2, ?_⟩
    rw [Lib.toList_data, Lib.toList_data] at h3
    cases ta; cases tb
    simp only at h3
    rw [Array.toList_inj.1 h3]
  · rintro ⟨h1, h2, h3⟩
    exact ⟨⟨h1, h2⟩, by rw [h3]⟩
theorem sameWs_iff (a b : List Rw) : sameWs a b = true ↔ a = b := allS_iff fun _ _ => allS_iff sameV_iff
end Go.Proofs.YthhepmddcncjoaaGreatDoor
namespace Go.Proofs.YthhepmddcncjoaaGreatDoor
open Go.RowKit

theorem retI' {k : IntKind} {a b : Int} (h : a = b) : Ending.returned (.int k a) = .returned (.int k b) := by rw [h]
theorem lex_at {α : Type} {c : α → α → Int} {l m : List α} {k : Nat} {x y : α} (hx : l[k]? = some x) (hy : m[k]? = some y) : lexC c (l.drop k) (m.drop k) = if c x y = 0 then lexC c (l.drop (k + 1)) (m.drop (k + 1)) else c x y := by
  have h1 : l.drop k = x :: l.drop (k + 1) := by rw [List.drop_eq_getElem_cons (List.getElem?_eq_some_iff.1 hx).1, (List.getElem?_eq_some_iff.1 hx).2]
  have h2 : m.drop k = y :: m.drop (k + 1) := by rw [List.drop_eq_getElem_cons (List.getElem?_eq_some_iff.1 hy).1, (List.getElem?_eq_some_iff.1 hy).2]
  rw [h1, h2]
  rfl
theorem lex_lo {α : Type} {c : α → α → Int} {l m : List α} {k : Nat} (hl : l.length ≤ k) (hm : k < m.length) : lexC c (l.drop k) (m.drop k) = -1 := by
  rw [List.drop_of_length_le hl, List.drop_eq_getElem_cons hm]; rfl
theorem lex_hi {α : Type} {c : α → α → Int} {l m : List α} {k : Nat} (hl : k < l.length) (hm : m.length ≤ k) : lexC c (l.drop k) (m.drop k) = 1 := by
  rw [List.drop_of_length_le hm, List.drop_eq_getElem_cons hl]; rfl
theorem lex_no {α : Type} {c : α → α → Int} {l m : List α} {k : Nat} (hl : l.length ≤ k) (hm : m.length ≤ k) : lexC c (l.drop k) (m.drop k) = 0 := by
  rw [List.drop_of_length_le hl, List.drop_of_length_le hm]; rfl
theorem byte_at (a : ByteArray) (k : Nat) (h : k < a.size) : a.data.toList[k]? = some a[k] := by
  rw [List.getElem?_eq_getElem (by simpa using h)]; rfl

set_option maxRecDepth 100000 in
set_option maxHeartbeats 4000000 in
theorem rtexts_c (a b : ByteArray) (ha : a.size ≤ maxLen) (_ : b.size ≤ maxLen) (w : World) :
    Calls Tryz.prog 160 #[.string a, .string b] w fun e w' => e = .returned (.int .i64 (textC a b)) ∧ Below w.heap.size w w' := by
  unfold maxLen at ha
  have hla : a.data.toList.length = a.size := by simp
  have hlb : b.data.toList.length = b.size := by simp
  have HLA := Lib.hid hla
  have HLB := Lib.hid hlb
  clear hla hlb
  go_enter Tryz.func160, Tryz.ntmps160
  go_wp2
  go_loopw [5] (fun i wr => ∃ k : Nat, k ≤ a.size ∧ k ≤ b.size ∧ i = .int .i64 k ∧ textC a b = lexC byteC (a.data.toList.drop k) (b.data.toList.drop k) ∧ Below w.heap.size w wr) (fun i _ => a.size - (intOf i).toNat)
  case atStart => exact ⟨0, Nat.zero_le _, Nat.zero_le _, rfl, rfl, Below.refl _ _⟩
  case round =>
    obtain ⟨k, hka, hkb, rfl, hr, hB⟩ := hrel
    have Hr := Lib.hid hr
    clear hr
    by_cases h1 : k < a.size
    · have h1' : (k : Int) < (a.size : Int) := by omega
      by_cases h2 : k < b.size
      · have h2' : (k : Int) < (b.size : Int) := by omega
        have hk0 : (0 : Int) ≤ (k : Int) := by omega
        have Hst := Lib.hid (Hr.out.trans (lex_at (c := byteC) (byte_at a k h1) (byte_at b k h2)))
        obtain ⟨x, hx⟩ : ∃ x, a[k]'h1 = x := ⟨_, rfl⟩
        obtain ⟨y, hy⟩ : ∃ y, b[k]'h2 = y := ⟨_, rfl⟩
        rw [hx, hy] at Hst
        have Hc : Hid (byteC x y = if x.toNat < y.toNat then -1 else if y.toNat < x.toNat then 1 else 0) := Lib.hid (by unfold byteC; simp only [UInt8.lt_iff_toNat_lt])
        by_cases h3 : x.toNat < y.toNat
        · have h3' : (x.toNat : Int) < (y.toNat : Int) := by omega
          have Hz : Hid (textC a b = -1) := Lib.hid (by rw [Hst.out, Hc.out, if_pos h3]; rfl)
          go_wp2
          go_quiet (fail)
          go_wp2
          go_ret
          exact ⟨retI' Hz.out.symm, below_drewN hB _⟩
        · have h3' : ¬ (x.toNat : Int) < (y.toNat : Int) := by omega
          by_cases h4 : y.toNat < x.toNat
          · have h4' : (y.toNat : Int) < (x.toNat : Int) := by omega
            have Hz : Hid (textC a b = 1) := Lib.hid (by rw [Hst.out, Hc.out, if_neg h3, if_pos h4]; rfl)
            go_wp2
            go_quiet (fail)
            go_wp2
            go_quiet (fail)
            go_wp2
            go_ret
            exact ⟨retI' Hz.out.symm, below_drewN (below_drewN hB _) _⟩
          · have h4' : ¬ (y.toNat : Int) < (x.toNat : Int) := by omega
            have Hz : Hid (textC a b = lexC byteC (a.data.toList.drop (k + 1)) (b.data.toList.drop (k + 1))) := Lib.hid (by rw [Hst.out, Hc.out, if_neg h3, if_neg h4]; rfl)
            go_wp2
            go_quiet (fail)
            go_wp2
            go_quiet (fail)
            go_wp2
            go_roundw
            case rel => exact ⟨k + 1, h1, h2, by go_num, Hz.out, below_drewN hB _⟩
            case measure => simp [intOf]; omega
      · have h2' : ¬ (k : Int) < (b.size : Int) := by omega
        have h5 : ¬ (a.size : Int) < (b.size : Int) := by omega
        have h6 : (b.size : Int) < (a.size : Int) := by omega
        have Hz : Hid (textC a b = 1) := Lib.hid (by rw [Hr.out, lex_hi (by rw [HLA.out]; exact h1) (by rw [HLB.out]; omega)])
        go_wp2
        go_ret
        exact ⟨retI' Hz.out.symm, hB⟩
    · have h1' : ¬ (k : Int) < (a.size : Int) := by omega
      by_cases h2 : k < b.size
      · have h5 : (a.size : Int) < (b.size : Int) := by omega
        have Hz : Hid (textC a b = -1) := Lib.hid (by rw [Hr.out, lex_lo (by rw [HLA.out]; omega) (by rw [HLB.out]; exact h2)])
        go_wp2
        go_ret
        exact ⟨retI' Hz.out.symm, hB⟩
      · have h5 : ¬ (a.size : Int) < (b.size : Int) := by omega
        have h6 : ¬ (b.size : Int) < (a.size : Int) := by omega
        have Hz : Hid (textC a b = 0) := Lib.hid (by rw [Hr.out, lex_no (by rw [HLA.out]; omega) (by rw [HLB.out]; omega)])
        go_wp2
        go_ret
        exact ⟨retI' Hz.out.symm, hB⟩

set_option maxRecDepth 100000 in
set_option maxHeartbeats 4000000 in
theorem rvals_c (a b : Vl) (ha : a.s.size ≤ maxLen) (hb : b.s.size ≤ maxLen) (w : World) :
    Calls Tryz.prog 134 #[.agg #[.bool a.sym, .int .i64 a.n, .string a.s], .agg #[.bool b.sym, .int .i64 b.n, .string b.s]] w fun e w' => e = .returned (.int .i64 (vlC a b)) ∧ Below w.heap.size w w' := by
  obtain ⟨sa, na, ta⟩ := a
  obtain ⟨sb, nb, tb⟩ := b
  simp only at ha hb ⊢
  have HT := Lib.hid (fun w => rtexts_c ta tb ha hb w)
  have HB0 : Hid (∀ (x y : Obj), Below w.heap.size w ((w.alloc x).alloc y)) := Lib.hid fun x y => ((Below.refl _ _).alloc (Nat.le_refl _) x).alloc (by simp) y
  have HZ : Hid (vlC ⟨sa, na, ta⟩ ⟨sb, nb, tb⟩ = if (sa != sb) = true then (if sb = true then -1 else 1) else if sa = true then textC ta tb else if na < nb then -1 else if nb < na then 1 else 0) := Lib.hid rfl
  clear ha hb
  cases sa with
  | false =>
    cases sb with
    | false =>
      by_cases h1 : na < nb
      · have Hz : Hid (vlC ⟨false, na, ta⟩ ⟨false, nb, tb⟩ = -1) := Lib.hid (by rw [HZ.out]; simp [h1])
        go_enter Tryz.func134, Tryz.ntmps134
        go_wp2
        go_ret
        exact ⟨retI' Hz.out.symm, HB0.out _ _⟩
      · by_cases h2 : nb < na
        · have Hz : Hid (vlC ⟨false, na, ta⟩ ⟨false, nb, tb⟩ = 1) := Lib.hid (by rw [HZ.out]; simp [h1, h2])
          go_enter Tryz.func134, Tryz.ntmps134
          go_wp2
          go_ret
          exact ⟨retI' Hz.out.symm, HB0.out _ _⟩
        · have Hz : Hid (vlC ⟨false, na, ta⟩ ⟨false, nb, tb⟩ = 0) := Lib.hid (by rw [HZ.out]; simp [h1, h2])
          go_enter Tryz.func134, Tryz.ntmps134
          go_wp2
          go_ret
          exact ⟨retI' Hz.out.symm, HB0.out _ _⟩
    | true =>
      have Hz : Hid (vlC ⟨false, na, ta⟩ ⟨true, nb, tb⟩ = -1) := Lib.hid (by rw [HZ.out]; simp)
      go_enter Tryz.func134, Tryz.ntmps134
      go_wp2
      go_ret
      exact ⟨retI' Hz.out.symm, HB0.out _ _⟩
  | true =>
    cases sb with
    | false =>
      have Hz : Hid (vlC ⟨true, na, ta⟩ ⟨false, nb, tb⟩ = 1) := Lib.hid (by rw [HZ.out]; simp)
      go_enter Tryz.func134, Tryz.ntmps134
      go_wp2
      go_ret
      exact ⟨retI' Hz.out.symm, HB0.out _ _⟩
    | true =>
      have Hz : Hid (vlC ⟨true, na, ta⟩ ⟨true, nb, tb⟩ = textC ta tb) := Lib.hid (by rw [HZ.out]; simp)
      go_enter Tryz.func134, Tryz.ntmps134
      go_wp2_with fail
      refine (HT.out _).mono ?_
      rintro e w1 ⟨rfl, b1⟩
      go_wp2
      go_ret
      exact ⟨retI' Hz.out.symm, (HB0.out _ _).trans (b1.mono (by simp; omega))⟩

theorem held33 {W w1 : World} (b : Below W.heap.size W.drew w1) {p q : Addr} {v0 v1 v2 u0 u1 u2 : Value} (hp : p.block < W.heap.size) (hq : q.block < W.heap.size)
    (h : W.cell? p = some v0 ∧ W.cell? ⟨p.block, p.off + 1, none⟩ = some v1 ∧ W.cell? ⟨p.block, p.off + 2, none⟩ = some v2 ∧ W.cell? q = some u0 ∧ W.cell? ⟨q.block, q.off + 1, none⟩ = some u1 ∧ W.cell? ⟨q.block, q.off + 2, none⟩ = some u2) :
    w1.cell? p = some v0 ∧ w1.cell? ⟨p.block, p.off + 1, none⟩ = some v1 ∧ w1.cell? ⟨p.block, p.off + 2, none⟩ = some v2 ∧ w1.cell? q = some u0 ∧ w1.cell? ⟨q.block, q.off + 1, none⟩ = some u1 ∧ w1.cell? ⟨q.block, q.off + 2, none⟩ = some u2 := by
  obtain ⟨h0, h1, h2, h3, h4, h5⟩ := h
  exact ⟨(b.cell hp).trans h0, (b.cell (p := ⟨p.block, p.off + 1, none⟩) hp).trans h1, (b.cell (p := ⟨p.block, p.off + 2, none⟩) hp).trans h2, (b.cell hq).trans h3, (b.cell (p := ⟨q.block, q.off + 1, none⟩) hq).trans h4, (b.cell (p := ⟨q.block, q.off + 2, none⟩) hq).trans h5⟩

set_option maxRecDepth 100000 in
set_option maxHeartbeats 4000000 in
theorem rcompare_c (a b : Rw) (v u : Value) (w : World) (h1 : SlOf w w.heap.size 3 VlC a v) (h2 : SlOf w w.heap.size 3 VlC b u) :
    Calls Tryz.prog 101 #[v, u] w fun e w' => e = .returned (.int .i64 (rwC a b)) ∧ Below w.heap.size w w' := by
  obtain ⟨o1, cap1, rfl, hc1, hm1, S1⟩ := SlOf.open h1
  obtain ⟨o2, cap2, rfl, hc2, hm2, S2⟩ := SlOf.open h2
  clear h1 h2
  go_enter Tryz.func101, Tryz.ntmps101
  go_wp2
  go_loopw [5] (fun i wr => ∃ k : Nat, k ≤ a.length ∧ k ≤ b.length ∧ i = .int .i64 k ∧ rwC a b = lexC vlC (a.drop k) (b.drop k) ∧ Below w.heap.size w wr) (fun i _ => a.length - (intOf i).toNat)
  case atStart => exact ⟨0, Nat.zero_le _, Nat.zero_le _, rfl, rfl, Below.refl _ _⟩
  case round =>
    obtain ⟨k, hka, hkb, rfl, hr, hB⟩ := hrel
    have Hr := Lib.hid hr
    clear hr
    by_cases h1 : k < a.length
    · have h1' : (k : Int) < (a.length : Int) := by omega
      by_cases h2 : k < b.length
      · have h2' : (k : Int) < (b.length : Int) := by omega
        obtain ⟨x, hx⟩ : ∃ x, a[k]? = some x := ⟨a[k], List.getElem?_eq_getElem h1⟩
        obtain ⟨y, hy⟩ : ∃ y, b[k]? = some y := ⟨b[k], List.getElem?_eq_getElem h2⟩
        obtain ⟨p, rfl, hp, _, hxs, c0, c1, c2⟩ := vl_at S1 hB hx
        obtain ⟨q, rfl, hq, _, hys, d0, d1, d2⟩ := vl_at S2 hB hy
        have hBs := hB.size
        have hpl : (p.add (k * 3)).block < wr.heap.size := by rw [addBlock]; omega
        have hql : (q.add (k * 3)).block < wr.heap.size := by rw [addBlock]; omega
        have Hst := Lib.hid (Hr.out.trans (lex_at (c := vlC) hx hy))
        have HV := Lib.hid (fun w => rvals_c x y hxs hys w)
        clear hx hy
        obtain ⟨z, hz⟩ : ∃ z, vlC x y = z := ⟨_, rfl⟩
        rw [hz] at Hst HV
        clear hz
        go_wp2
        go_region_held3 (fun w' => w'.cell? (p.add (k * 3)) = some (.bool x.sym) ∧ w'.cell? ⟨(p.add (k * 3)).block, (p.add (k * 3)).off + 1, none⟩ = some (.int .i64 x.n) ∧ w'.cell? ⟨(p.add (k * 3)).block, (p.add (k * 3)).off + 2, none⟩ = some (.string x.s) ∧ w'.cell? (q.add (k * 3)) = some (.bool y.sym) ∧ w'.cell? ⟨(q.add (k * 3)).block, (q.add (k * 3)).off + 1, none⟩ = some (.int .i64 y.n) ∧ w'.cell? ⟨(q.add (k * 3)).block, (q.add (k * 3)).off + 2, none⟩ = some (.string y.s)) (first | exact ⟨c0, c1, c2, d0, d1, d2⟩ | exact hk) (first | (go_at_call 134; refine (HV.out _).mono ?_; rintro e w1 ⟨rfl, b1⟩; have hk := held33 b1 hpl hql ⟨c0, c1, c2, d0, d1, d2⟩))
        have hB3 := hB.trans (((Below.refl _ wr).drew).trans (b1.mono (by show _ ≤ wr.heap.size; omega)) |>.mono hBs)
        by_cases hz : z = 0
        · subst hz
          have Hz2 := Lib.hid (Hst.out.trans (if_pos rfl))
          go_wp2
          go_roundw
          case rel => exact ⟨k + 1, h1, h2, by go_num, Hz2.out, hB3⟩
          case measure => simp [intOf]; omega
        · have Hz2 := Lib.hid (Hst.out.trans (if_neg hz))
          have hz' : (z != 0) = true := by simpa using hz
          go_wp2
          go_ret
          exact ⟨retI' Hz2.out.symm, hB3⟩
      · have h2' : ¬ (k : Int) < (b.length : Int) := by omega
        have h5 : ¬ (a.length : Int) < (b.length : Int) := by omega
        have h6 : (b.length : Int) < (a.length : Int) := by omega
        have Hz : Hid (rwC a b = 1) := Lib.hid (by rw [Hr.out, lex_hi h1 (by omega)])
        go_wp2
        go_ret
        exact ⟨retI' Hz.out.symm, hB⟩
    · have h1' : ¬ (k : Int) < (a.length : Int) := by omega
      by_cases h2 : k < b.length
      · have h5 : (a.length : Int) < (b.length : Int) := by omega
        have Hz : Hid (rwC a b = -1) := Lib.hid (by rw [Hr.out, lex_lo (by omega) h2])
        go_wp2
        go_ret
        exact ⟨retI' Hz.out.symm, hB⟩
      · have h5 : ¬ (a.length : Int) < (b.length : Int) := by omega
        have h6 : ¬ (b.length : Int) < (a.length : Int) := by omega
        have Hz : Hid (rwC a b = 0) := Lib.hid (by rw [Hr.out, lex_no (by omega) (by omega)])
        go_wp2
        go_ret
        exact ⟨retI' Hz.out.symm, hB⟩
end Go.Proofs.YthhepmddcncjoaaGreatDoor
