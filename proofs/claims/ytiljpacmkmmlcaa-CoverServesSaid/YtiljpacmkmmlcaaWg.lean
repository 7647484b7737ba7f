/- cover.askBelow. -/
import Derived.Test.YtiljpacmkmmlcaaWf
import Derived.Test.YtiljpacmkmmlcaaMapU
set_option linter.unusedSimpArgs false
set_option linter.unusedVariables false
namespace Go.Proofs.Ytiljpacmkmmlcaa
open Go.RowKit Go.Shelf

attribute [local go_sem] Oper.semAt_some

theorem keepsC {B : Nat} {W W' : World} {row : Option Nat} (hg : W.grownBy W' row) (hr : ∀ j, row = some j → ∃ cs T fz, W.heap[j]? = some (.cells cs T fz)) : KeepsFrom B W W' :=
  (KeepsOthers.of_grownBy hg fun j o e ho => by
    obtain ⟨cs, T, fz, h⟩ := hr j e
    rw [h] at ho
    cases ho
    rfl).from B
theorem own_cellsB {W : World} {base e size n : Nat} {v : Value} {xs : List Value} (h : W.ownsRow base e size v n xs) : ∀ j, v.ownBlock = some j → ∃ cs T fz, W.heap[j]? = some (.cells cs T fz) := by
  intro j hj
  rcases h.2 with ⟨rfl, _⟩ | ⟨g, cap, cur, rfl, _, hg, _⟩
  · cases hj
  · cases hj
    exact ⟨_, _, _, hg⟩
/-- Which of some sets are below t and not asked for. -/
def newsL (ms : List Nat) (t : Nat) (f : Nat → Option Nat) : List Nat := ms.filter fun m => belowN m t && (f m).isNone
def askF (f : Nat → Option Nat) (l : List Nat) (t : Nat) : Nat → Option Nat := fun x => if x ∈ l then some t else f x
theorem news_skip {ms : List Nat} {t : Nat} {f : Nat → Option Nat} {i : Nat} : ∀ {j : Nat}, i ≤ j → NoB ms t i j → newsL (ms.take j) t f = newsL (ms.take i) t f
  | 0, h, _ => by rw [show i = 0 by omega]
  | j + 1, h, hn => by
    by_cases e : i = j + 1
    · rw [e]
    · rw [← news_skip (j := j) (by omega) (fun q y h1 h2 => hn q y h1 (by omega)), List.take_add_one]
      unfold newsL
      rw [List.filter_append]
      cases hj : ms[j]? with
      | none => simp
      | some y => simp [hn j y (by omega) (by omega) hj]
theorem news_step {ms : List Nat} {t : Nat} {f : Nat → Option Nat} {j y : Nat} (hy : ms[j]? = some y) (hb : belowN y t = true) : newsL (ms.take (j + 1)) t f = newsL (ms.take j) t f ++ if (f y).isNone = true then [y] else [] := by
  unfold newsL
  rw [List.take_add_one, hy, List.filter_append]
  cases hf : (f y).isNone <;> simp [hb, hf]
theorem news_mem {ms : List Nat} {t : Nat} {f : Nat → Option Nat} {j y : Nat} (hn : ms.Nodup) (hy : ms[j]? = some y) : y ∉ newsL (ms.take j) t f := by
  intro h
  have h1 := (List.mem_filter.1 h).1
  obtain ⟨i, hi⟩ := List.mem_iff_getElem?.1 h1
  rw [List.getElem?_take] at hi
  split at hi
  · rename_i hij
    have := (List.getElem?_inj (List.getElem?_eq_some_iff.1 hi).1 hn).1 (hi.trans hy.symm)
    omega
  · cases hi
theorem askF_snoc (f : Nat → Option Nat) (l : List Nat) (t y : Nat) : updU (askF f l t) y t = askF f (l ++ [y]) t := by
  funext x
  unfold updU askF
  by_cases e : x = y
  · subst e; simp
  · simp [e]
theorem news_len (ms : List Nat) (t : Nat) (f : Nat → Option Nat) : (newsL ms t f).length ≤ ms.length := List.length_filter_le ..
/-- What stands while one asks: n0 is where the call's own blocks begin. -/
structure AbI (wb w0 : World) (sv : Value) (ms : List Nat) (t M n : Nat) (f : Nat → Option Nat) (k : Nat) (W : World) : Prop where
  g : EaG wb sv t (w0.heap.size + 3) (w0.heap.size + 4) W
  gr : w0.grownBy W (some M)
  b4 : W.heap[w0.heap.size]? = some (.cells #[.int .u64 (t : Int)] 54 (0, 0))
  b5 : W.heap[w0.heap.size + 1]? = some (.cells #[.map (some M)] 58 (0, 0))
  row : ∃ v, W.heap[w0.heap.size + 2]? = some (.cells #[v] 44 (0, 0)) ∧ W.ownsRow (w0.heap.size + 5) 54 1 v (newsL (ms.take k) t f).length (mvL (newsL (ms.take k) t f))
  map : ∃ c, c ≤ n + k ∧ MapU Try.prog W 54 54 M c (askF f (newsL (ms.take k) t f) t)
  le : k ≤ ms.length
section
variable {wb w0 : World} {sv : Value} {ms : List Nat} {t M n : Nat} {f : Nat → Option Nat} {k : Nat} {W W' : World}
theorem AbI.below (h : AbI wb w0 sv ms t M n f k W) (hb : Below W.heap.size W W') : AbI wb w0 sv ms t M n f k W' := by
  obtain ⟨v, h1, h2⟩ := h.row
  obtain ⟨c, h3, h4⟩ := h.map
  exact ⟨h.g.below hb, h.gr.trans ((World.grownBy.trans (row := some M) (World.grownBy.but ⟨hb.os, hb.tape, hb.output, hb.size, fun i hi _ => hb.block i hi⟩ _) ⟨rfl, rfl, rfl, Nat.le_refl _, fun _ _ _ => rfl⟩)), (hb.block _ (heapLt h.b4)).trans h.b4, (hb.block _ (heapLt h.b5)).trans h.b5, ⟨v, (hb.block _ (heapLt h1)).trans h1, own_past h2 hb⟩, ⟨c, h3, h4.below hb h4.lt⟩, h.le⟩
theorem AbI.put {B : Nat} (h : AbI wb w0 sv ms t M n f k W) (hp : Put B W W') (hB : w0.heap.size + 5 ≤ B) (hwb : wb.heap.size ≤ w0.heap.size) (hM : M < w0.heap.size) : AbI wb w0 sv ms t M n f k W' := by
  obtain ⟨v, h1, h2⟩ := h.row
  obtain ⟨c, h3, h4⟩ := h.map
  have hk : ∀ i o, W.heap[i]? = some o → (o.isCells = true ∨ i < B) → W'.heap[i]? = some o := fun i o ho hc => put_block hp ho hc
  obtain ⟨l, o, o', q1, q2, q3, q4, rfl⟩ := hp
  refine ⟨h.g.put ⟨l, o, o', q1, q2, q3, q4, rfl⟩ (by omega), ?_, hk _ _ h.b4 (.inl rfl), hk _ _ h.b5 (.inl rfl), ⟨v, hk _ _ h1 (.inl rfl), ?_⟩, ⟨c, h3, h4.same (World.putObj_heap_other (by omega))⟩, h.le⟩
  · exact ⟨h.gr.os, h.gr.tape, h.gr.output, by simpa using h.gr.size, fun i hi hne => (World.putObj_heap_other (by omega)).trans (h.gr.block i hi hne)⟩
  · refine h2.kept (row := some l) ⟨rfl, rfl, rfl, by simp, fun i hi hne => World.putObj_heap_other (fun e => hne (by rw [e]))⟩ (.inr fun e => ?_)
    obtain ⟨cs, T, fz, hx⟩ := own_cellsB h2 l e
    rw [q2] at hx
    cases hx
    cases q3
theorem AbI.skip (h : AbI wb w0 sv ms t M n f k W) {j : Nat} (hj : k ≤ j) (hl : j ≤ ms.length) (hn : NoB ms t k j) : AbI wb w0 sv ms t M n f j W := by
  obtain ⟨v, h1, h2⟩ := h.row
  obtain ⟨c, h3, h4⟩ := h.map
  have e := news_skip (f := f) hj hn
  exact ⟨h.g, h.gr, h.b4, h.b5, ⟨v, h1, by rw [e]; exact h2⟩, ⟨c, by omega, by rw [e]; exact h4⟩, hl⟩
theorem AbI.old (h : AbI wb w0 sv ms t M n f k W) {y : Nat} (hy : ms[k]? = some y) (hb : belowN y t = true) (hf : (f y).isNone = false) : AbI wb w0 sv ms t M n f (k + 1) W := by
  obtain ⟨v, h1, h2⟩ := h.row
  obtain ⟨c, h3, h4⟩ := h.map
  have e := news_step (f := f) hy hb
  rw [if_neg (by rw [hf]; decide), List.append_nil] at e
  exact ⟨h.g, h.gr, h.b4, h.b5, ⟨v, h1, by rw [e]; exact h2⟩, ⟨c, by omega, by rw [e]; exact h4⟩, (List.getElem?_eq_some_iff.1 hy).1⟩
theorem AbI.new (h : AbI wb w0 sv ms t M n f k W) {y c : Nat} {v v' : Value} {w1 w3 : World} (hwb : wb.heap.size ≤ w0.heap.size) (hwM : wb.heap.size ≤ M) (hM : M < w0.heap.size) (hy : ms[k]? = some y) (hb : belowN y t = true) (hf : (f y).isNone = true)
    (hr : W.heap[w0.heap.size + 2]? = some (.cells #[v] 44 (0, 0))) (ho : W.ownsRow (w0.heap.size + 5) 54 1 v (newsL (ms.take k) t f).length (mvL (newsL (ms.take k) t f))) (hc : c ≤ n + k + 1)
    (h1 : W.grownBy w1 (some M)) (hm : MapU Try.prog w1 54 54 M c (updU (askF f (newsL (ms.take k) t f) t) y t))
    (h3 : w1.grownBy w3 v.ownBlock) (ho3 : w3.ownsRow (w0.heap.size + 5) 54 1 v' ((newsL (ms.take k) t f).length + 1) (mvL (newsL (ms.take k) t f) ++ [.int .u64 (y : Int)])) :
    AbI wb w0 sv ms t M n f (k + 1) (w3.setCell ⟨w0.heap.size + 2, 0, none⟩ v') := by
  have e := news_step (f := f) hy hb
  rw [if_pos hf] at e
  have hv : ∀ j, v.ownBlock = some j → w0.heap.size + 5 ≤ j := fun j hj => (ho.lt j hj).1
  have k1 : ∀ i o, i ≠ M → W.heap[i]? = some o → i < w0.heap.size + 5 → i ≠ w0.heap.size + 2 → (w3.setCell ⟨w0.heap.size + 2, 0, none⟩ v').heap[i]? = some o := fun i o hi hx hlt h2 => by
    have hl := heapLt hx
    have e1 : w1.heap[i]? = some o := (h1.block i hl (fun e => hi (Option.some.inj e))).trans hx
    have e3 : w3.heap[i]? = some o := (h3.block i (heapLt e1) (fun e => by have := hv i e.symm; omega)).trans e1
    exact (setOther h2).trans e3
  have hr1 : w1.heap[w0.heap.size + 2]? = some (.cells #[v] 44 (0, 0)) := (h1.block _ (heapLt hr) (fun e => by have := Option.some.inj e; omega)).trans hr
  have hr3 : w3.heap[w0.heap.size + 2]? = some (.cells #[v] 44 (0, 0)) := (h3.block _ (heapLt hr1) (fun e => by have := hv _ e.symm; omega)).trans hr1
  refine ⟨⟨⟨?_, ?_⟩, ?_⟩, ?_, ?_, ?_, ⟨v', setRow hr3, ?_⟩, ⟨c, by omega, ?_⟩, (List.getElem?_eq_some_iff.1 hy).1⟩
  · have hb0 := h.g.g.b
    refine ((hb0.grown h1 hb0.size (fun j hj => by have := Option.some.inj hj; omega)).grown h3 ?_ (fun j hj => by have := hv j hj; omega)).setCell (p := ⟨w0.heap.size + 2, 0, none⟩) (by show wb.heap.size ≤ w0.heap.size + 2; omega) _
    exact Nat.le_trans hb0.size h1.size
  · exact k1 _ _ (by omega) h.g.g.one (by omega) (by omega)
  · exact k1 _ _ (by omega) h.g.two (by omega) (by omega)
  · refine ⟨h3.os.trans (h1.os.trans h.gr.os), h3.tape.trans (h1.tape.trans h.gr.tape), h3.output.trans (h1.output.trans h.gr.output), ?_, fun i hi hne => ?_⟩
    · have := h.gr.size
      have := h1.size
      have := h3.size
      simp [World.setCell]
      omega
    · have e0 := h.gr.block i hi hne
      have hl : i < W.heap.size := Nat.lt_of_lt_of_le hi h.gr.size
      have e1 := h1.block i hl hne
      have e3 := h3.block i (Nat.lt_of_lt_of_le hl h1.size) (fun e => by have := hv i e.symm; omega)
      exact (setOther (by omega)).trans (e3.trans (e1.trans e0))
  · exact k1 _ _ (by omega) h.b4 (by omega) (by omega)
  · exact k1 _ _ (by omega) h.b5 (by omega) (by omega)
  · rw [e, List.length_append, mvL_snoc]
    exact ho3.kept (grown_set w3 _ 0 v') (by
      cases hvb : v'.ownBlock with
      | none => exact .inl rfl
      | some j => exact .inr (fun e => by have := (ho3.lt j hvb).1; have := Option.some.inj e; omega))
  · rw [e, ← askF_snoc]
    exact (hm.kept h3 (fun e => by have := hv M e.symm; omega)).same (setOther (by omega))
end
end Go.Proofs.Ytiljpacmkmmlcaa
