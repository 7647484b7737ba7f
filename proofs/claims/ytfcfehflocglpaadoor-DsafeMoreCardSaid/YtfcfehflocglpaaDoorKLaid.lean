/- What a list holds as cells: lists behind each other, an element put in another's place; cells of a row of one's own written. dtree.sameTerm and slices.EqualFunc over terms. dtree.sameAtom, sameLit, sameRule, and slices.EqualFunc over parts and rules. size, sizeAtom, sizeRule, long, Small of the laws of layer 3. long and Small of the laws of layer 3. dtree.hasShape, canBeReckoned, isCountOfColumns. -/
import Derived.Test.YtfcfehflocglpaaDoorKSpr
import Derived.OneCell
import Derived.Deep.Slices
import Derived.BigQuiet
import Derived.Deep.QuietTactic
namespace Go.Proofs.YtfcfehflocglpaaDoor
open Go.RowKit Go.Deep

def Laid {α : Type} (z : Nat) (L : α → List Value → Prop) (acc : List α) (xs : List Value) : Prop :=
  xs.length = acc.length * z ∧ ∀ i x, acc[i]? = some x → ∃ cs, cs.length = z ∧ L x cs ∧ ∀ j c, cs[j]? = some c → xs[i * z + j]? = some c
theorem Laid.nil {α : Type} {z : Nat} {L : α → List Value → Prop} : Laid z L [] [] := ⟨by simp, fun i x h => by simp at h⟩
theorem Laid.app {α : Type} {z : Nat} {L : α → List Value → Prop} {l m : List α} {xs ys : List Value} (h : Laid z L l xs) (k : Laid z L m ys) : Laid z L (l ++ m) (xs ++ ys) := by
  refine ⟨by rw [List.length_append, List.length_append, h.1, k.1, Nat.add_mul], fun i x hx => ?_⟩
  rcases Nat.lt_or_ge i l.length with hi | hi
  · rw [List.getElem?_append_left hi] at hx
    obtain ⟨cs, c1, c2, c3⟩ := h.2 i x hx
    refine ⟨cs, c1, c2, fun j c hj => ?_⟩
    have := c3 j c hj
    rw [List.getElem?_append_left (List.getElem?_eq_some_iff.1 this).1]
    exact this
  · rw [List.getElem?_append_right hi] at hx
    obtain ⟨cs, c1, c2, c3⟩ := k.2 _ x hx
    refine ⟨cs, c1, c2, fun j c hj => ?_⟩
    have := c3 j c hj
    have e : i * z + j - xs.length = (i - l.length) * z + j := by
      rw [h.1, Nat.sub_mul]
      have : l.length * z ≤ i * z := Nat.mul_le_mul_right _ hi
      omega
    rw [List.getElem?_append_right (by rw [h.1]; have : l.length * z ≤ i * z := Nat.mul_le_mul_right _ hi; omega), e]
    exact this
theorem Laid.one {α : Type} {z : Nat} {L : α → List Value → Prop} {x : α} {cs : List Value} (hz : cs.length = z) (h : L x cs) : Laid z L [x] cs := by
  refine ⟨by simp [hz], fun i y hy => ?_⟩
  cases i with
  | zero =>
    obtain rfl : x = y := by simpa using hy
    exact ⟨cs, hz, h, fun j c hj => by rw [Nat.zero_mul, Nat.zero_add]; exact hj⟩
  | succ i => simp at hy
theorem Laid.snoc {α : Type} {z : Nat} {L : α → List Value → Prop} {acc : List α} {xs : List Value} {x : α} {cs : List Value} (h : Laid z L acc xs) (hz : cs.length = z) (hx : L x cs) : Laid z L (acc ++ [x]) (xs ++ cs) := h.app (.one hz hx)
theorem Laid.mono {α : Type} {z : Nat} {L L' : α → List Value → Prop} {acc : List α} {xs : List Value} (h : Laid z L acc xs) (hL : ∀ x cs, L x cs → L' x cs) : Laid z L' acc xs :=
  ⟨h.1, fun i x hx => let ⟨cs, a, b, c⟩ := h.2 i x hx; ⟨cs, a, hL x cs b, c⟩⟩
/-- An element in the place of another one. -/
def putAt (xs : List Value) (k : Nat) (cs : List Value) : List Value := xs.take k ++ cs ++ xs.drop (k + cs.length)
theorem putAt_len {xs cs : List Value} {k : Nat} (h : k + cs.length ≤ xs.length) : (putAt xs k cs).length = xs.length := by
  unfold putAt
  simp only [List.length_append, List.length_take, List.length_drop]
  omega
theorem putAt_get {xs cs : List Value} {k : Nat} (h : k + cs.length ≤ xs.length) (i : Nat) : (putAt xs k cs)[i]? = if k ≤ i ∧ i < k + cs.length then cs[i - k]? else xs[i]? := by
  unfold putAt
  by_cases h1 : i < k
  · rw [if_neg (by omega), List.getElem?_append_left (by simp; omega), List.getElem?_append_left (by simp; omega), List.getElem?_take, if_pos h1]
  · by_cases h2 : i < k + cs.length
    · rw [if_pos ⟨by omega, h2⟩, List.getElem?_append_left (by simp; omega), List.getElem?_append_right (by simp; omega)]
      congr 1
      rw [List.length_take]
      omega
    · rw [if_neg (by omega), List.getElem?_append_right (by simp; omega), List.getElem?_drop]
      congr 1
      simp only [List.length_append, List.length_take]
      omega
theorem Laid.set {α : Type} {z : Nat} {L : α → List Value → Prop} {acc : List α} {xs : List Value} (h : Laid z L acc xs) {i : Nat} (hi : i < acc.length) {x : α} {cs : List Value} (hz : cs.length = z) (hx : L x cs) : Laid z L (acc.set i x) (putAt xs (i * z) cs) := by
  obtain ⟨h1, h2⟩ := h
  have hle : i * z + cs.length ≤ xs.length := by
    rw [h1, hz]
    calc i * z + z = (i + 1) * z := by rw [Nat.add_mul, Nat.one_mul]
      _ ≤ acc.length * z := Nat.mul_le_mul_right _ hi
  refine ⟨by rw [putAt_len hle, List.length_set, h1], fun k y hy => ?_⟩
  by_cases hk : k = i
  · subst hk
    rw [List.getElem?_set_self hi] at hy
    cases hy
    refine ⟨cs, hz, hx, fun j c hj => ?_⟩
    have hjz : j < cs.length := (List.getElem?_eq_some_iff.1 hj).1
    rw [putAt_get hle, if_pos (by omega), Nat.add_sub_cancel_left]
    exact hj
  · rw [List.getElem?_set_ne (Ne.symm hk)] at hy
    obtain ⟨ds, d1, d2, d3⟩ := h2 k y hy
    refine ⟨ds, d1, d2, fun j c hj => ?_⟩
    have hjz : j < z := by rw [← d1]; exact (List.getElem?_eq_some_iff.1 hj).1
    rw [putAt_get hle, if_neg ?_]
    · exact d3 j c hj
    · rw [hz]
      rcases Nat.lt_or_ge k i with h | h
      · have : (k + 1) * z ≤ i * z := Nat.mul_le_mul_right _ h
        rw [Nat.add_mul, Nat.one_mul] at this
        omega
      · have : (i + 1) * z ≤ k * z := Nat.mul_le_mul_right _ (by omega)
        rw [Nat.add_mul, Nat.one_mul] at this
        omega
theorem sl_laid {α : Type} {w : World} {B z : Nat} {R : α → List Value → Prop} {l : List α} {v : Value} (h : SlOf w B z R l v) (h1 : ∀ x cs, R x cs → ∀ u ∈ cs, u.oneCell' = true) : ∃ xs, Laid z R l xs ∧ Spread w z v l.length xs := by
  rcases h with ⟨rfl, rfl⟩ | ⟨a, cap, rfl, _, _, _, h5⟩
  · exact ⟨[], Laid.nil, .inl ⟨rfl, rfl, rfl⟩⟩
  · have key : ∀ k, k ≤ l.length → ∃ xs, Laid z R (l.take k) xs ∧ (∀ j u, xs[j]? = some u → w.cell? (a.add j) = some u) ∧ ∀ u ∈ xs, u.oneCell' = true := by
      intro k
      induction k with
      | zero => intro _; exact ⟨[], by simpa using Laid.nil, fun j u hu => by simp at hu, fun u hu => by simp at hu⟩
      | succ k ih =>
        intro hk
        obtain ⟨xs, e1, e2, e3⟩ := ih (by omega)
        have hx : l[k]? = some l[k] := List.getElem?_eq_getElem (by omega)
        obtain ⟨cs, c1, c2, c3⟩ := h5 k _ hx
        have hl : xs.length = k * z := by rw [e1.1, List.length_take, Nat.min_eq_left (by omega)]
        refine ⟨xs ++ cs, ?_, fun j u hu => ?_, fun u hu => ?_⟩
        · rw [List.take_add_one, hx]
          exact e1.snoc c1 c2
        · rcases Nat.lt_or_ge j xs.length with hj | hj
          · rw [List.getElem?_append_left hj] at hu
            exact e2 j u hu
          · rw [List.getElem?_append_right hj] at hu
            have := c3 _ u hu
            rw [← hl, Nat.add_sub_cancel' hj] at this
            exact this
        · rcases List.mem_append.1 hu with hu | hu
          · exact e3 u hu
          · exact h1 _ _ c2 u hu
    obtain ⟨xs, e1, e2, e3⟩ := key l.length (Nat.le_refl _)
    rw [List.take_length] at e1
    exact ⟨xs, e1, .inr ⟨a, cap, rfl, e1.1, e2, e3⟩⟩
theorem sl_own0 {α : Type} {w : World} {base : Nat} {e : TypeId} {z : Nat} {v : Value} {xs : List Value} {acc : List α} {P : α → List Value → Prop} (h : w.ownsRow base e z v acc.length xs) (hl : Laid z P acc xs) : SlOf w w.heap.size z P acc v := by
  rcases h.2 with ⟨rfl, h0⟩ | ⟨g, cap, cur, hv, hb, hg, hn, hc, hcur, ht⟩
  · exact .inl ⟨rfl, List.eq_nil_of_length_eq_zero h0⟩
  · refine .inr ⟨⟨g, 0, none⟩, cap, hv, hn, hc, fun _ => (Array.getElem?_eq_some_iff.1 hg).1, fun i x hx => ?_⟩
    obtain ⟨cs, hz, hP, hcs⟩ := hl.2 i x hx
    exact ⟨cs, hz, hP, fun j c hj => h.cells (g := g) (by rw [hv]; rfl) (i * z + j) c (hcs j c hj)⟩
theorem lt_one {w : World} {B : Nat} (x : Lt) (cs : List Value) (h : LtC w B x cs) : ∀ u ∈ cs, u.oneCell' = true := by
  obtain ⟨o0, k0, o1, k1, o2, k2, rfl, _⟩ := h.look
  intro y hy
  simp only [List.mem_cons, List.mem_nil_iff, or_false] at hy
  rcases hy with rfl | rfl | rfl | rfl | rfl | rfl | rfl | rfl | rfl | rfl | rfl <;> rfl
theorem de_one {w : World} {B : Nat} (x : De) (cs : List Value) (h : DeC w B x cs) : ∀ u ∈ cs, u.oneCell' = true := by
  obtain ⟨o0, k0, o1, k1, rfl, _⟩ := h.look
  intro y hy
  simp only [List.mem_cons, List.mem_nil_iff, or_false] at hy
  rcases hy with rfl | rfl | rfl | rfl | rfl | rfl <;> rfl
theorem ru_one {w : World} {B : Nat} (x : Ru) (cs : List Value) (h : RuC w B x cs) : ∀ u ∈ cs, u.oneCell' = true := by
  obtain ⟨o0, k0, o1, k1, rfl, _⟩ := h.look
  intro y hy
  simp only [List.mem_cons, List.mem_nil_iff, or_false] at hy
  rcases hy with rfl | rfl | rfl | rfl <;> rfl

/-! ### Parts of slices -/
theorem SlOf.take {α : Type} {w : World} {B z : Nat} {R : α → List Value → Prop} {l : List α} {a : Addr} {cap : Nat} (h : SlOf w B z R l (.slice (some a) l.length cap)) {i : Nat} (hi : i ≤ l.length) : SlOf w B z R (l.take i) (.slice (some a) i cap) := by
  rcases h with ⟨h, _⟩ | ⟨a', cap', e, h1, h2, h3, h4⟩
  · cases h
  · cases e
    refine .inr ⟨a, cap, by rw [List.length_take, Nat.min_eq_left hi], by rw [List.length_take]; omega, h2, fun hn => h3 (by rintro rfl; simp at hn), fun k x hx => ?_⟩
    rw [List.getElem?_take] at hx
    split at hx
    · exact h4 k x hx
    · cases hx
theorem SlOf.drop {α : Type} {w : World} {B z : Nat} {R : α → List Value → Prop} {l : List α} {a : Addr} {cap : Nat} (h : SlOf w B z R l (.slice (some a) l.length cap)) {i : Nat} (hi : i ≤ l.length) : SlOf w B z R (l.drop i) (.slice (if cap = i then some a else some (a.add (i * z))) (l.length - i) (cap - i)) := by
  rcases h with ⟨h, _⟩ | ⟨a', cap', e, h1, h2, h3, h4⟩
  · cases h
  · cases e
    by_cases hc : cap = i
    · rw [if_pos hc]
      have hd : l.drop i = [] := List.drop_of_length_le (by omega)
      rw [hd]
      exact .inr ⟨a, cap - i, by simp; omega, by simp, by omega, fun h => absurd rfl h, fun k x hx => by simp at hx⟩
    · rw [if_neg hc]
      refine .inr ⟨a.add (i * z), cap - i, by simp, by simp; omega, by omega, fun hn => by rw [addBlock]; exact h3 (by rintro rfl; simp at hn), fun k x hx => ?_⟩
      rw [List.getElem?_drop] at hx
      obtain ⟨cs, c1, c2, c3⟩ := h4 _ x hx
      refine ⟨cs, c1, c2, fun j c hj => ?_⟩
      rw [add_add, ← Nat.add_assoc, ← Nat.add_mul]
      exact c3 j c hj
theorem SlOf.one {α : Type} {w : World} {B z : Nat} {R : α → List Value → Prop} {l : List α} {a : Addr} {cap : Nat} (h : SlOf w B z R l (.slice (some a) l.length cap)) {i : Nat} {x : α} (hi : l[i]? = some x) {c : Nat} (hc : 1 ≤ c) (hm : c ≤ maxLen) : SlOf w B z R [x] (.slice (some (a.add (i * z))) 1 c) := by
  rcases h with ⟨h, _⟩ | ⟨a', cap', e, h1, h2, h3, h4⟩
  · cases h
  · cases e
    have hl := (List.getElem?_eq_some_iff.1 hi).1
    refine .inr ⟨a.add (i * z), c, rfl, hc, hm, fun _ => by rw [addBlock]; exact h3 (by rintro rfl; simp at hl), fun k y hy => ?_⟩
    match k, hy with
    | 0, hy =>
      obtain rfl : x = y := by simpa using hy
      obtain ⟨cs, c1, c2, c3⟩ := h4 i x hi
      refine ⟨cs, c1, c2, fun j c hj => ?_⟩
      rw [Nat.zero_mul, Nat.zero_add, add_add]
      exact c3 j c hj
    | k + 1, hy => simp at hy

/-! ### Cells of a row of one's own written -/
def setC (b : Nat) : Nat → List Value → World → World
  | _, [], w => w
  | k, x :: xs, w => setC b (k + 1) xs (w.setCell ⟨b, k, none⟩ x)
def wrC (cs : Array Value) : Nat → List Value → Array Value
  | _, [] => cs
  | k, x :: xs => wrC (cs.setIfInBounds k x) (k + 1) xs
theorem wrC_size : ∀ (xs : List Value) (k : Nat) (cs : Array Value), (wrC cs k xs).size = cs.size
  | [], _, _ => rfl
  | x :: xs, k, cs => by rw [wrC, wrC_size xs]; simp
theorem wrC_get : ∀ (xs : List Value) (k : Nat) (cs : Array Value) (i : Nat), k + xs.length ≤ cs.size → (wrC cs k xs)[i]? = if k ≤ i ∧ i < k + xs.length then xs[i - k]? else cs[i]?
  | [], k, cs, i, _ => by rw [wrC, if_neg (by simp)]
  | x :: xs, k, cs, i, h => by
    rw [List.length_cons] at h
    rw [wrC, wrC_get xs (k + 1) _ i (by simp; omega), List.length_cons]
    by_cases h1 : k + 1 ≤ i ∧ i < k + 1 + xs.length
    · rw [if_pos h1, if_pos (by omega), show i - k = (i - (k + 1)) + 1 by omega, List.getElem?_cons_succ]
    · rw [if_neg h1]
      by_cases h2 : i = k
      · subst h2
        rw [if_pos (by omega), Nat.sub_self, List.getElem?_cons_zero, Array.getElem?_setIfInBounds_self_of_lt (by omega)]
      · rw [if_neg (by omega), Array.getElem?_setIfInBounds_ne (by omega)]
theorem set_row {w : World} {b : Nat} {cs : Array Value} {T : TypeId} {fr : Nat × Nat} (hb : w.heap[b]? = some (.cells cs T fr)) (i : Nat) (v : Value) : (w.setCell ⟨b, i, none⟩ v).heap[b]? = some (.cells (cs.setIfInBounds i v) T fr) := by
  simp [World.setCell, Array.getElem?_modify, hb]
theorem setC_row {b : Nat} {T : TypeId} {fz : Nat × Nat} : ∀ (xs : List Value) (k : Nat) (w : World) (cs : Array Value), w.heap[b]? = some (.cells cs T fz) → (setC b k xs w).heap[b]? = some (.cells (wrC cs k xs) T fz)
  | [], _, _, _, h => h
  | x :: xs, k, w, cs, h => by rw [setC, wrC]; exact setC_row xs (k + 1) _ _ (set_row h k x)
theorem setC_grown {b : Nat} : ∀ (xs : List Value) (k : Nat) (w : World), w.grownBy (setC b k xs w) (some b) ∧ (setC b k xs w).heap.size = w.heap.size
  | [], _, w => ⟨⟨rfl, rfl, rfl, Nat.le_refl _, fun _ _ _ => rfl⟩, rfl⟩
  | x :: xs, k, w => by
    rw [setC]
    obtain ⟨h1, h2⟩ := setC_grown (b := b) xs (k + 1) (w.setCell ⟨b, k, none⟩ x)
    have hs : (w.setCell ⟨b, k, none⟩ x).heap.size = w.heap.size := by simp [World.setCell]
    refine ⟨⟨h1.os, h1.tape, h1.output, by rw [h2, hs]; exact Nat.le_refl _, fun i hi hne => (h1.block i (by rw [hs]; exact hi) hne).trans (Below.heap_setCell w ⟨b, k, none⟩ x i (fun e => hne (by rw [e])))⟩, h2.trans hs⟩
theorem own_put {W : World} {base g n cp z : Nat} {e : TypeId} {xs news : List Value} (h : W.ownsRow base e z (.slice (some ⟨g, 0, none⟩) n cp) n xs) {k : Nat} (hk : k + news.length ≤ xs.length) :
    (setC g k news W).ownsRow base e z (.slice (some ⟨g, 0, none⟩) n cp) n (putAt xs k news) := by
  obtain ⟨h1, h2⟩ := h
  rcases h2 with ⟨h3, _⟩ | ⟨g', cap, cur, hv, hb, hh, hc, hm, hsz, ht⟩
  · cases h3
  · cases hv
    have hle : n * z ≤ cur.size := by rw [hsz]; exact Nat.mul_le_mul_right z hc
    refine ⟨by rw [putAt_len hk]; exact h1, .inr ⟨g, cp, wrC cur k news, rfl, hb, setC_row news _ W cur hh, hc, hm, by rw [wrC_size]; exact hsz, ?_⟩⟩
    refine List.ext_getElem? fun i => ?_
    rw [List.getElem?_take, putAt_get hk]
    have hti := congrArg (fun l => l[i]?) ht
    simp only [List.getElem?_take] at hti
    by_cases hi : i < n * z
    · rw [if_pos hi, Array.getElem?_toList, wrC_get news _ _ _ (by omega)]
      rw [if_pos hi, Array.getElem?_toList] at hti
      by_cases hk2 : k ≤ i ∧ i < k + news.length
      · rw [if_pos hk2, if_pos hk2]
      · rw [if_neg hk2, if_neg hk2, hti]
    · rw [if_neg hi, if_neg (by omega), List.getElem?_eq_none (by omega)]
theorem own_at {W : World} {base g n cp z : Nat} {e : TypeId} {xs : List Value} (h : W.ownsRow base e z (.slice (some ⟨g, 0, none⟩) n cp) n xs) : (∀ j u, xs[j]? = some u → W.cell? ⟨g, j, none⟩ = some u) ∧ (∀ j, W.frozen? ⟨g, j, none⟩ = false) ∧ g < W.heap.size ∧ base ≤ g := by
  obtain ⟨h1, h2⟩ := h
  rcases h2 with ⟨h3, _⟩ | ⟨g', cap, cur, hv, hb, hh, hc, hm, hsz, ht⟩
  · cases h3
  · cases hv
    refine ⟨fun j u hu => ?_, fun j => ?_, (Array.getElem?_eq_some_iff.1 hh).1, hb⟩
    · rw [← ht, List.getElem?_take] at hu
      split at hu
      · unfold World.cell?
        rw [hh]
        simpa using hu
      · cases hu
    · unfold World.frozen?
      rw [hh]
      simp
theorem step_make_any {P : Program} (w : World) {ops : Array Oper} {o : Oper} {a : Act} {K : Act → World → Prop} {Q : Exit → Act → World → Prop} {E : Prop} (hgd : o.guard = none) (l c : Operand) (t : TypeId) (hop : o.op = Op.makeSlice t l c)
    (base : Nat) (e : TypeId) (i : TypeInfo) (z : Value) (size : Nat) (h1 : P.underlying t = some (.slice e)) (h2 : P.info? e = some i) (h3 : i.zero = some z) (h4 : i.size = size)
    (kl kc : IntKind) (n : Nat) (hl : a.eval l = .int kl 0) (hc : a.eval c = .int kc (n : Int)) (b2 : i.bytes * n ≤ 281474976710656) (b3 : n ≤ maxLen) (b4 : base ≤ w.heap.size)
    (hK : ∀ w', w'.ownsRow base e size (.slice (some ⟨w.heap.size, 0, none⟩) 0 n) 0 [] → w.grownBy w' none → K (a.put o.dst (.slice (some ⟨w.heap.size, 0, none⟩) 0 n)) w') :
    if Region.wanted o (yielded ops a.tmps) = true then Oper.wp P o a w K Q else E := by
  have hw : Region.wanted o (yielded ops a.tmps) = true := by simp [Region.wanted, hgd]
  rw [if_pos hw]
  exact wp_make_any w l c t hop base e i z size h1 h2 h3 h4 kl kc n hl hc b2 b3 b4 hK
theorem info_lit : (Tryd.prog.info? 45).map (fun i => (i.zero, i.size, i.bytes)) = some (some (.agg #[.int .i64 0, .string ⟨#[]⟩, .slice none 0 0, .int .i64 0, .string ⟨#[]⟩, .int .i64 0, .slice none 0 0, .int .i64 0, .string ⟨#[]⟩, .int .i64 0, .slice none 0 0]), 11, 160) := by kernel_rfl
end Go.Proofs.YtfcfehflocglpaaDoor
namespace Go.Proofs.YtfcfehflocglpaaDoor
open Go.RowKit

def SameTermAt (t : Tm) : Prop := ∀ (u : Tm) (w : World) (cs ds : List Value), TmC w w.heap.size t cs → TmC w w.heap.size u ds →
    Calls Tryd.prog 119 #[.agg cs.toArray, .agg ds.toArray] w fun e w' => e = .returned (.bool (sameT t u)) ∧ Below w.heap.size w w'

set_option maxRecDepth 100000 in
set_option maxHeartbeats 4000000 in
theorem equalTerms_c (l m : List Tm) (ih : ∀ t ∈ l, SameTermAt t) (v1 v2 : Value) (w : World) (h1 : TmS w w.heap.size l v1) (h2 : TmS w w.heap.size m v2) :
    Calls Tryd.prog 134 #[v1, v2, .func (.func 119) #[] #[]] w fun e w' => e = .returned (.bool (allS sameT l m)) ∧ Below w.heap.size w w' := by
  obtain ⟨o1, cap1, rfl, hc1, hm1, S1⟩ := SlOf.open h1
  obtain ⟨o2, cap2, rfl, hc2, hm2, S2⟩ := SlOf.open h2
  have IH := Lib.hid ih
  clear h1 h2 ih
  by_cases hlen : l.length = m.length
  · have q : ((l.length : Int) != (m.length : Int)) = false := by rw [hlen]; simp
    have Hlen := Lib.hid hlen
    clear hlen
    go_enter Tryd.func134, Tryd.ntmps134
    go_wp2
    go_loopw [17] (fun i wr => ∃ k : Nat, k ≤ l.length ∧ i = .int .i64 k ∧ allS sameT l m = allS sameT (l.drop k) (m.drop k) ∧ Below w.heap.size w wr) (fun i _ => l.length - (intOf i).toNat)
    case atStart => exact ⟨0, Nat.zero_le _, rfl, rfl, Below.refl _ _⟩
    case round =>
      obtain ⟨k, hk, rfl, hr, hB⟩ := hrel
      have Hr := Lib.hid hr
      clear hr
      have hBs := hB.size
      by_cases hlt : k < l.length
      · have hlt' : (k : Int) < (l.length : Int) := by omega
        have hlt2 : k < m.length := by have := Hlen.out; omega
        obtain ⟨t, ht⟩ : ∃ t, l[k]? = some t := ⟨l[k], List.getElem?_eq_getElem hlt⟩
        obtain ⟨u, hu⟩ : ∃ u, m[k]? = some u := ⟨m[k], List.getElem?_eq_getElem hlt2⟩
        obtain ⟨a, p1, q1, rfl, ha, Hc, c0, c1, c2, c3⟩ := tm_at S1 hB ht
        obtain ⟨b, p2, q2, rfl, hb, Hd, d0, d1, d2, d3⟩ := tm_at S2 hB hu
        have hal : (a.add (k * 4)).block < wr.heap.size := by rw [addBlock]; omega
        have hbl : (b.add (k * 4)).block < wr.heap.size := by rw [addBlock]; omega
        have Hs := Lib.hid (allS_drop (f := sameT) ht hu)
        have Ht := Lib.hid (List.mem_of_getElem? ht)
        clear ht hu
        have HI := Lib.hid (fun (W : World) (hb : Below wr.heap.size wr W) => IH.out t Ht.out u W _ _ ((Hc.out.under hb).more hb.size) ((Hd.out.under hb).more hb.size))
        go_wp2_with fail
        refine (HI.out _ (((Below.refl _ _).alloc (Nat.le_refl _) _).alloc (by simp) _)).mono ?_
        rintro e w1 ⟨rfl, b1⟩
        have hB1 := hB.trans ((((Below.refl _ wr).alloc (Nat.le_refl _) _).alloc (by simp) _).mono hBs |>.trans (b1.mono (by simp; omega)))
        cases hs : sameT t u
        · have Hz := Lib.hid (Hr.out.trans (Hs.out.trans (by rw [hs, Bool.false_and])))
          clear hs
          go_wp2
          go_ret
          exact ⟨by rw [Hz.out]; rfl, hB1⟩
        · have Hz := Lib.hid (Hr.out.trans (Hs.out.trans (by rw [hs, Bool.true_and])))
          clear hs
          go_wp2
          go_roundw
          case rel => exact ⟨k + 1, hlt, by go_num, Hz.out, hB1⟩
          case measure => simp [intOf]; omega
      · have hlt' : ¬ (k : Int) < (l.length : Int) := by omega
        have Hz := Lib.hid (allS_end (f := sameT) (l := l) (m := m) (k := k) (by omega) (by have := Hlen.out; omega))
        go_wp2
        go_ret
        exact ⟨by rw [Hr.out, Hz.out]; rfl, hB⟩
  · have q : ((l.length : Int) != (m.length : Int)) = true := by rw [bne_iff_ne]; omega
    have Hz := Lib.hid (allS_len (f := sameT) hlen)
    clear hlen
    go_enter Tryd.func134, Tryd.ntmps134
    go_wp2
    go_ret
    exact ⟨by rw [Hz.out]; rfl, Below.refl _ _⟩

set_option maxRecDepth 100000 in
set_option maxHeartbeats 4000000 in
theorem sameTerm_c (t : Tm) : SameTermAt t := by
  induction t using Tm.rec (motive_2 := fun l => ∀ t ∈ l, SameTermAt t) with
  | nil x hx => simp at hx
  | cons t ts ih ihs x hx =>
    rcases List.mem_cons.1 hx with rfl | hx
    · exact ih
    · exact ihs x hx
  | mk op s n l ih =>
    intro u w cs ds hc hd
    obtain ⟨p1, q1, rfl, _, _, _, t1⟩ := hc.look
    obtain ⟨p2, q2, rfl, _, _, _, t2⟩ := hd.look
    have Hs := Lib.hid (sameT_eq (.mk op s n l) u)
    have H := Lib.hid (fun (W : World) (hb : Below w.heap.size w W) => equalTerms_c l u.l ih _ _ W ((TmS.below t1 hb).more hb.size) ((TmS.below t2 hb).more hb.size))
    simp only [Tm.op_mk, Tm.s_mk, Tm.n_mk, Tm.l_mk] at Hs H ⊢
    clear hc hd t1 t2 ih
    obtain ⟨b1, hb1⟩ : ∃ b, (op == u.op) = b := ⟨_, rfl⟩
    obtain ⟨b2, hb2⟩ : ∃ b, (s.toList == u.s.toList) = b := ⟨_, rfl⟩
    obtain ⟨b3, hb3⟩ : ∃ b, (n == u.n) = b := ⟨_, rfl⟩
    have Hf : Hid ((b1 && b2 && b3) = false → sameT (.mk op s n l) u = false) := Lib.hid (by
      intro h
      rw [Hs.out, hb1, hb2, hb3, h, Bool.false_and])
    cases b1
    · have Hz := Lib.hid (Hf.out rfl)
      go_enter Tryd.func119, Tryd.ntmps119
      go_wp2
      go_ret
      exact ⟨by rw [Hz.out]; rfl, ((Below.refl _ _).alloc (Nat.le_refl _) _).alloc (by simp) _⟩
    cases b2
    · have Hz := Lib.hid (Hf.out rfl)
      go_enter Tryd.func119, Tryd.ntmps119
      go_wp2
      go_ret
      exact ⟨by rw [Hz.out]; rfl, ((Below.refl _ _).alloc (Nat.le_refl _) _).alloc (by simp) _⟩
    cases b3
    · have Hz := Lib.hid (Hf.out rfl)
      go_enter Tryd.func119, Tryd.ntmps119
      go_wp2
      go_ret
      exact ⟨by rw [Hz.out]; rfl, ((Below.refl _ _).alloc (Nat.le_refl _) _).alloc (by simp) _⟩
    have Hz : Hid (sameT (.mk op s n l) u = allS sameT l u.l) := Lib.hid (by rw [Hs.out, hb1, hb2, hb3]; rfl)
    go_enter Tryd.func119, Tryd.ntmps119
    go_wp2_with fail
    refine (H.out _ (((Below.refl _ _).alloc (Nat.le_refl _) _).alloc (by simp) _)).mono ?_
    rintro e w1 ⟨rfl, b1⟩
    go_wp2
    go_ret
    exact ⟨by rw [Hz.out]; rfl, (((Below.refl _ _).alloc (Nat.le_refl _) _).alloc (by simp) _).trans (b1.mono (by simp; omega))⟩
end Go.Proofs.YtfcfehflocglpaaDoor
namespace Go.Proofs.YtfcfehflocglpaaDoor
open Go.RowKit

set_option maxRecDepth 100000 in
set_option maxHeartbeats 4000000 in
theorem sameAtom_c (t u : Am) (w : World) (cs ds : List Value) (hc : AmC w w.heap.size t cs) (hd : AmC w w.heap.size u ds) :
    Calls Tryd.prog 120 #[.agg cs.toArray, .agg ds.toArray] w fun e w' => e = .returned (.bool (sameA t u)) ∧ Below w.heap.size w w' := by
  obtain ⟨p1, q1, rfl, _, t1⟩ := hc.look
  obtain ⟨p2, q2, rfl, _, t2⟩ := hd.look
  have H := Lib.hid (fun (W : World) (hb : Below w.heap.size w W) => equalTerms_c t.l u.l (fun x _ => sameTerm_c x) _ _ W ((TmS.below t1 hb).more hb.size) ((TmS.below t2 hb).more hb.size))
  clear hc hd t1 t2
  obtain ⟨b1, hb1⟩ : ∃ b, (t.rel.toList == u.rel.toList) = b := ⟨_, rfl⟩
  have Hz : Hid (sameA t u = (b1 && allS sameT t.l u.l)) := Lib.hid (by unfold sameA; rw [sameTs_all, hb1])
  cases b1
  · go_enter Tryd.func120, Tryd.ntmps120
    go_wp2
    go_ret
    exact ⟨by rw [Hz.out]; rfl, ((Below.refl _ _).alloc (Nat.le_refl _) _).alloc (by simp) _⟩
  · go_enter Tryd.func120, Tryd.ntmps120
    go_wp2_with fail
    refine (H.out _ (((Below.refl _ _).alloc (Nat.le_refl _) _).alloc (by simp) _)).mono ?_
    rintro e w1 ⟨rfl, b1⟩
    go_wp2
    go_ret
    exact ⟨by rw [Hz.out]; rfl, (((Below.refl _ _).alloc (Nat.le_refl _) _).alloc (by simp) _).trans (b1.mono (by simp; omega))⟩
end Go.Proofs.YtfcfehflocglpaaDoor
namespace Go.Proofs.YtfcfehflocglpaaDoor
open Go.RowKit

def SizeAt (t : Tm) : Prop := ∀ (left : Int) (w : World) (cs : List Value), 0 ≤ left → left ≤ 1000000 → TmC w w.heap.size t cs →
    Calls Tryd.prog 77 #[.agg cs.toArray, .int .i64 left] w fun e w' => e = .returned (.int .i64 (sizeT t left)) ∧ Below w.heap.size w w'

set_option maxRecDepth 100000 in
set_option maxHeartbeats 4000000 in
theorem size_c (t : Tm) : SizeAt t := by
  induction t using Tm.rec (motive_2 := fun l => ∀ t ∈ l, SizeAt t) with
  | nil x hx => simp at hx
  | cons t ts ih ihs x hx =>
    rcases List.mem_cons.1 hx with rfl | hx
    · exact ih
    · exact ihs x hx
  | mk op s n l ih =>
    intro left w cs hl0 hl1 hc
    obtain ⟨p1, q1, rfl, _, hz, _, t1⟩ := hc.look
    have Hs := Lib.hid (sizeT_mk op s n l left)
    simp only [Tm.op_mk, Tm.s_mk, Tm.n_mk, Tm.l_mk] at Hs t1 hz ⊢
    unfold maxLen at hz
    obtain ⟨o1, cap1, e1, hc1, hm1, S1⟩ := SlOf.open t1
    cases e1
    have IH := Lib.hid ih
    clear hc t1 ih
    have HB0 : Hid (∀ (x : Obj), Below w.heap.size w (w.alloc x)) := Lib.hid fun x => (Below.refl _ _).alloc (Nat.le_refl _) _
    by_cases hbig : 1000 < s.size
    · have Hz : Hid (sizeT (.mk op s n l) left = -1) := Lib.hid (by rw [Hs.out, if_pos hbig])
      have hbig' : (1000 : Int) < (s.size : Int) := by omega
      go_enter Tryd.func77, Tryd.ntmps77
      go_wp2
      go_ret
      exact ⟨retI (by rw [Hz.out]), HB0.out _⟩
    · have Hz : Hid (sizeT (.mk op s n l) left = foldS sizeT l (left - 1)) := Lib.hid (by rw [Hs.out, if_neg hbig])
      have hbig' : ¬ (1000 : Int) < (s.size : Int) := by omega
      clear Hs
      go_enter Tryd.func77, Tryd.ntmps77
      go_wp2
      go_loopw [1, 5] (fun lv i wr => ∃ (k : Nat) (L : Int), k ≤ l.length ∧ i = .int .i64 k ∧ lv = .int .i64 L ∧ -1 ≤ L ∧ L ≤ 1000000 ∧ foldS sizeT l (left - 1) = foldS sizeT (l.drop k) L ∧ Below (w.heap.size + 1) (w.alloc (.cells #[.int .i64 op, .string s, .int .i64 n, .slice p1 l.length q1] 43)) wr) (fun _ i _ => l.length - (intOf i).toNat)
      case atStart => exact ⟨0, left - 1, Nat.zero_le _, rfl, rfl, by omega, by omega, rfl, Below.refl _ _⟩
      case round =>
        obtain ⟨k, L, hk, rfl, rfl, hL0, hL1, hr, hB2⟩ := hrel
        have hB : Below w.heap.size w wr := (HB0.out _).trans (hB2.mono (by omega))
        have Hr := Lib.hid hr
        clear hr
        have hBs := hB2.size
        simp only [World.size_alloc] at hBs
        have hz0 : w.heap.size < wr.heap.size := by omega
        have x0 : wr.cell? ⟨w.heap.size, 3, none⟩ = some (.slice p1 l.length q1) := (hB2.cell (p := ⟨w.heap.size, 3, none⟩) (by show w.heap.size < _; omega)).trans (by go_simp)
        by_cases hlt : k < l.length
        · have hlt' : (k : Int) < (l.length : Int) := by omega
          by_cases hL : 0 ≤ L
          · obtain ⟨xe, ht⟩ : ∃ xe, l[k]? = some xe := ⟨l[k], List.getElem?_eq_getElem hlt⟩
            obtain ⟨a, p3, q3, rfl, ha, Hc, c0, c1, c2, c3⟩ := tm_at S1 hB ht
            have hal : (a.add (k * 4)).block < wr.heap.size := by rw [addBlock]; omega
            have Hst := Lib.hid (Hr.out.trans (foldS_drop (f := sizeT) ht hL))
            have Hm := Lib.hid (List.mem_of_getElem? ht)
            clear ht
            go_wp2_with fail
            refine (IH.out xe Hm.out L _ [_, _, _, _] hL (by omega) Hc.out).mono ?_
            rintro e w1 ⟨rfl, b1⟩
            have hB3 := hB2.trans (b1.mono (by omega))
            have lo := sizeT_lo xe L hL
            obtain ⟨L2, hL2⟩ : ∃ L2, sizeT xe L = L2 := ⟨_, rfl⟩
            rw [hL2] at lo ⊢
            have Hst2 : Hid _ := Lib.hid (Hst.out.trans (by rw [hL2]))
            clear hL2
            go_wp2
            go_roundw
            case rel => exact ⟨k + 1, L2, hlt, by go_num, rfl, lo.1, by omega, Hst2.out, hB3⟩
            case measure => simp [intOf]; omega
          · have Hz2 := Lib.hid (Hr.out.trans (foldS_neg sizeT (l.drop k) (by omega)))
            go_wp2
            (go_ret; exact ⟨retI (by rw [Hz.out, Hz2.out]), hB⟩)
        · have hlt' : ¬ (k : Int) < (l.length : Int) := by omega
          have Hz2 : Hid (foldS sizeT l (left - 1) = L) := Lib.hid (by rw [Hr.out, List.drop_of_length_le (by omega)]; rfl)
          go_wp2
          (go_ret; exact ⟨retI (by rw [Hz.out, Hz2.out]), hB⟩)

set_option maxRecDepth 100000 in
set_option maxHeartbeats 4000000 in
theorem sizeAtom_c (t : Am) (left : Int) (w : World) (cs : List Value) (hl0 : -1 ≤ left) (hl1 : left ≤ 1000000) (hc : AmC w w.heap.size t cs) :
    Calls Tryd.prog 76 #[.agg cs.toArray, .int .i64 left] w fun e w' => e = .returned (.int .i64 (sizeA t left)) ∧ Below w.heap.size w w' := by
  obtain ⟨p1, q1, rfl, hz, t1⟩ := hc.look
  unfold maxLen at hz
  obtain ⟨o1, cap1, e1, hc1, hm1, S1⟩ := SlOf.open t1
  cases e1
  clear hc t1
  have HB0 : Hid (∀ (x : Obj), Below w.heap.size w (w.alloc x)) := Lib.hid fun x => (Below.refl _ _).alloc (Nat.le_refl _) _
  by_cases hbig : 1000 < t.rel.size
  · have Hz : Hid (sizeA t left = -1) := Lib.hid (by unfold sizeA; rw [if_pos hbig])
    have hbig' : (1000 : Int) < (t.rel.size : Int) := by omega
    go_enter Tryd.func76, Tryd.ntmps76
    go_wp2
    go_ret
    exact ⟨retI (by rw [Hz.out]), HB0.out _⟩
  · have Hz : Hid (sizeA t left = foldS sizeT t.l left) := Lib.hid (by unfold sizeA; rw [if_neg hbig, sizeTs_fold])
    have hbig' : ¬ (1000 : Int) < (t.rel.size : Int) := by omega
    go_enter Tryd.func76, Tryd.ntmps76
    go_wp2
    go_loopw [1, 5] (fun lv i wr => ∃ (k : Nat) (L : Int), k ≤ t.l.length ∧ i = .int .i64 k ∧ lv = .int .i64 L ∧ -1 ≤ L ∧ L ≤ 1000000 ∧ foldS sizeT t.l (left) = foldS sizeT (t.l.drop k) L ∧ Below (w.heap.size + 1) (w.alloc (.cells #[.string t.rel, .slice p1 t.l.length q1] 24)) wr) (fun _ i _ => t.l.length - (intOf i).toNat)
    case atStart => exact ⟨0, left, Nat.zero_le _, rfl, rfl, by omega, by omega, rfl, Below.refl _ _⟩
    case round =>
      obtain ⟨k, L, hk, rfl, rfl, hL0, hL1, hr, hB2⟩ := hrel
      have hB : Below w.heap.size w wr := (HB0.out _).trans (hB2.mono (by omega))
      have Hr := Lib.hid hr
      clear hr
      have hBs := hB2.size
      simp only [World.size_alloc] at hBs
      have hz0 : w.heap.size < wr.heap.size := by omega
      have x0 : wr.cell? ⟨w.heap.size, 1, none⟩ = some (.slice p1 t.l.length q1) := (hB2.cell (p := ⟨w.heap.size, 1, none⟩) (by show w.heap.size < _; omega)).trans (by go_simp)
      by_cases hlt : k < t.l.length
      · have hlt' : (k : Int) < (t.l.length : Int) := by omega
        by_cases hL : 0 ≤ L
        · obtain ⟨xe, ht⟩ : ∃ xe, t.l[k]? = some xe := ⟨t.l[k], List.getElem?_eq_getElem hlt⟩
          obtain ⟨a, p3, q3, rfl, ha, Hc, c0, c1, c2, c3⟩ := tm_at S1 hB ht
          have hal : (a.add (k * 4)).block < wr.heap.size := by rw [addBlock]; omega
          have Hst := Lib.hid (Hr.out.trans (foldS_drop (f := sizeT) ht hL))
          have Hm := Lib.hid (List.mem_of_getElem? ht)
          clear ht
          go_wp2_with fail
          refine (size_c xe L _ [_, _, _, _] hL hL1 Hc.out).mono ?_
          rintro e w1 ⟨rfl, b1⟩
          have hB3 := hB2.trans (b1.mono (by omega))
          have lo := sizeT_lo xe L hL
          obtain ⟨L2, hL2⟩ : ∃ L2, sizeT xe L = L2 := ⟨_, rfl⟩
          rw [hL2] at lo ⊢
          have Hst2 : Hid _ := Lib.hid (Hst.out.trans (by rw [hL2]))
          clear hL2
          go_wp2
          go_roundw
          case rel => exact ⟨k + 1, L2, hlt, by go_num, rfl, lo.1, by omega, Hst2.out, hB3⟩
          case measure => simp [intOf]; omega
        · have Hz2 := Lib.hid (Hr.out.trans (foldS_neg sizeT (t.l.drop k) (by omega)))
          go_wp2
          (go_ret; exact ⟨retI (by rw [Hz.out, Hz2.out]), hB⟩)
      · have hlt' : ¬ (k : Int) < (t.l.length : Int) := by omega
        have Hz2 : Hid (foldS sizeT t.l (left) = L) := Lib.hid (by rw [Hr.out, List.drop_of_length_le (by omega)]; rfl)
        go_wp2
        (go_ret; exact ⟨retI (by rw [Hz.out, Hz2.out]), hB⟩)

set_option maxRecDepth 100000 in
set_option maxHeartbeats 4000000 in
theorem sizeRule_c (t : Ru) (left : Int) (w : World) (cs : List Value) (hl0 : 0 ≤ left) (hl1 : left ≤ 1000000) (hc : RuC w w.heap.size t cs) :
    Calls Tryd.prog 50 #[.agg cs.toArray, .int .i64 left] w fun e w' => e = .returned (.int .i64 (sizeR t left)) ∧ Below w.heap.size w w' := by
  obtain ⟨p1, q1, r1, s1, rfl, _, a1, t1⟩ := hc.look
  obtain ⟨o1, cap1, e1, hc1, hm1, S1⟩ := SlOf.open t1
  cases e1
  have HB0 : Hid (∀ (x : Obj), Below w.heap.size w (w.alloc x)) := Lib.hid fun x => (Below.refl _ _).alloc (Nat.le_refl _) _
  have HH := Lib.hid (fun (W : World) (hb : Below w.heap.size w W) => sizeAtom_c t.head (left - 1) W [_, _] (by omega) (by omega) ((a1.below hb).more hb.size))
  clear hc t1 a1
  have lo0 := sizeA_lo t.head (left - 1) (by omega)
  obtain ⟨A0, hA0⟩ : ∃ A0, sizeA t.head (left - 1) = A0 := ⟨_, rfl⟩
  have Hz : Hid (sizeR t left = foldS sizeL1 t.body A0) := Lib.hid (by unfold sizeR; rw [hA0])
  rw [hA0] at lo0 HH
  clear hA0
  go_enter Tryd.func50, Tryd.ntmps50
  go_wp2_with fail
  refine (HH.out _ (HB0.out _)).mono ?_
  rintro e w0 ⟨rfl, b0⟩
  have b0' := b0.mono (show w.heap.size + 1 ≤ _ by simp)
  go_wp2
  go_loopw [1, 5] (fun lv i wr => ∃ (k : Nat) (L : Int), k ≤ t.body.length ∧ i = .int .i64 k ∧ lv = .int .i64 L ∧ -1 ≤ L ∧ L ≤ 1000000 ∧ foldS sizeL1 t.body (A0) = foldS sizeL1 (t.body.drop k) L ∧ Below (w.heap.size + 1) (w.alloc (.cells #[.string t.head.rel, .slice p1 t.head.l.length q1, .slice r1 t.body.length s1, .int .i64 t.line] 27)) wr) (fun _ i _ => t.body.length - (intOf i).toNat)
  case atStart => exact ⟨0, A0, Nat.zero_le _, rfl, rfl, by omega, by omega, rfl, b0'⟩
  case round =>
    obtain ⟨k, L, hk, rfl, rfl, hL0, hL1, hr, hB2⟩ := hrel
    have hB : Below w.heap.size w wr := (HB0.out _).trans (hB2.mono (by omega))
    have Hr := Lib.hid hr
    clear hr
    have hBs := hB2.size
    simp only [World.size_alloc] at hBs
    have hz0 : w.heap.size < wr.heap.size := by omega
    have x0 : wr.cell? ⟨w.heap.size, 2, none⟩ = some (.slice r1 t.body.length s1) := (hB2.cell (p := ⟨w.heap.size, 2, none⟩) (by show w.heap.size < _; omega)).trans (by go_simp)
    by_cases hlt : k < t.body.length
    · have hlt' : (k : Int) < (t.body.length : Int) := by omega
      by_cases hL : 0 ≤ L
      · obtain ⟨xe, ht⟩ : ∃ xe, t.body[k]? = some xe := ⟨t.body[k], List.getElem?_eq_getElem hlt⟩
        obtain ⟨a, p3, q3, p4, q4, p5, q5, rfl, ha, Hc, c0, c1, c2, c3, c4, c5, c6, c7, c8, c9, c10⟩ := lt_at S1 hB ht
        have hal : (a.add (k * 11)).block < wr.heap.size := by rw [addBlock]; omega
        have Hst := Lib.hid (Hr.out.trans (foldS_drop (f := sizeL1) ht hL))
        have Hm := Lib.hid (List.mem_of_getElem? ht)
        clear ht
        obtain ⟨_, _, _, _, _, _, e1, _, La, Lx, Ly⟩ := Hc.out.look
        cases e1
        have HA := Lib.hid (fun (l : Int) (h0 : -1 ≤ l) (h1 : l ≤ 1000000) => sizeAtom_c xe.a l wr [_, _] h0 h1 La)
        have HX := Lib.hid (fun (l : Int) (W : World) (hb : Below wr.heap.size wr W) (h0 : 0 ≤ l) (h1 : l ≤ 1000000) => size_c xe.x l W [_, _, _, _] h0 h1 ((Lx.under hb).more hb.size))
        have HY := Lib.hid (fun (l : Int) (W : World) (hb : Below wr.heap.size wr W) (h0 : 0 ≤ l) (h1 : l ≤ 1000000) => size_c xe.y l W [_, _, _, _] h0 h1 ((Ly.under hb).more hb.size))
        clear La Lx Ly
        have lo := sizeL1_lo xe L hL
        have lo1 := sizeA_lo xe.a (L - 1) (by omega)
        obtain ⟨A1, hA1⟩ : ∃ A1, sizeA xe.a (L - 1) = A1 := ⟨_, rfl⟩
        have hs1 : sizeL1 xe L = if A1 < 0 then A1 else if sizeT xe.x A1 < 0 then sizeT xe.x A1 else sizeT xe.y (sizeT xe.x A1) := by unfold sizeL1; rw [hA1]
        go_wp2_with fail
        refine (HA.out _ (by omega) (by omega)).mono ?_
        rw [hA1]
        rw [hA1] at lo1
        rintro e w1 ⟨rfl, b1⟩
        obtain ⟨kc, kf⟩ := (⟨fun p h => b1.cell (p := p) h, fun p h => b1.frozen (p := p) h⟩ : (∀ p : Addr, p.block < _ → w1.cell? p = _) ∧ (∀ p : Addr, p.block < _ → w1.frozen? p = _))
        have g0 := (kc ⟨w.heap.size, 2, none⟩ hz0).trans x0
        have f3 := (kc ⟨(a.add (k * 11)).block, (a.add (k * 11)).off + 3, none⟩ hal).trans c3
        have f4 := (kc ⟨(a.add (k * 11)).block, (a.add (k * 11)).off + 4, none⟩ hal).trans c4
        have f5 := (kc ⟨(a.add (k * 11)).block, (a.add (k * 11)).off + 5, none⟩ hal).trans c5
        have f6 := (kc ⟨(a.add (k * 11)).block, (a.add (k * 11)).off + 6, none⟩ hal).trans c6
        have f7 := (kc ⟨(a.add (k * 11)).block, (a.add (k * 11)).off + 7, none⟩ hal).trans c7
        have f8 := (kc ⟨(a.add (k * 11)).block, (a.add (k * 11)).off + 8, none⟩ hal).trans c8
        have f9 := (kc ⟨(a.add (k * 11)).block, (a.add (k * 11)).off + 9, none⟩ hal).trans c9
        have f10 := (kc ⟨(a.add (k * 11)).block, (a.add (k * 11)).off + 10, none⟩ hal).trans c10
        have hB3 := hB2.trans (b1.mono (by omega))
        have hk1 := b1.size
        clear kc kf hA1
        by_cases n1 : A1 < 0
        · have n1' : ¬ 0 ≤ A1 := by omega
          have Hst2 : Hid _ := Lib.hid (Hst.out.trans (by rw [hs1, if_pos n1]))
          clear hs1
          go_wp2
          go_roundw
          case rel => exact ⟨k + 1, A1, hlt, by go_num, rfl, lo1.1, by omega, Hst2.out, hB3⟩
          case measure => simp [intOf]; omega
        · have n1' : 0 ≤ A1 := by omega
          rw [if_neg n1] at hs1
          have lo2 := sizeT_lo xe.x A1 n1'
          obtain ⟨A2, hA2⟩ : ∃ A2, sizeT xe.x A1 = A2 := ⟨_, rfl⟩
          rw [hA2] at hs1 lo2
          have Hs1 := Lib.hid hs1
          have HA2 := Lib.hid hA2
          clear hs1 hA2
          go_wp2_with fail
          refine (HX.out _ _ b1 n1' (by omega)).mono ?_
          rw [HA2.out]
          rintro e w2 ⟨rfl, b2⟩
          have b12 := b1.trans (b2.mono hk1)
          obtain ⟨kc, kf⟩ := (⟨fun p h => b12.cell (p := p) h, fun p h => b12.frozen (p := p) h⟩ : (∀ p : Addr, p.block < _ → w2.cell? p = _) ∧ (∀ p : Addr, p.block < _ → w2.frozen? p = _))
          have u0 := (kc ⟨w.heap.size, 2, none⟩ hz0).trans x0
          have u7 := (kc ⟨(a.add (k * 11)).block, (a.add (k * 11)).off + 7, none⟩ hal).trans c7
          have u8 := (kc ⟨(a.add (k * 11)).block, (a.add (k * 11)).off + 8, none⟩ hal).trans c8
          have u9 := (kc ⟨(a.add (k * 11)).block, (a.add (k * 11)).off + 9, none⟩ hal).trans c9
          have u10 := (kc ⟨(a.add (k * 11)).block, (a.add (k * 11)).off + 10, none⟩ hal).trans c10
          have hB4 := hB2.trans (b12.mono (by omega))
          clear kc kf
          by_cases n2 : A2 < 0
          · have n2' : ¬ 0 ≤ A2 := by omega
            have Hst2 : Hid _ := Lib.hid (Hst.out.trans (by rw [Hs1.out, if_pos n2]))
            go_wp2
            go_roundw
            case rel => exact ⟨k + 1, A2, hlt, by go_num, rfl, lo2.1, by omega, Hst2.out, hB4⟩
            case measure => simp [intOf]; omega
          · have n2' : 0 ≤ A2 := by omega
            have lo3 := sizeT_lo xe.y A2 n2'
            have Hst2 : Hid _ := Lib.hid (Hst.out.trans (by rw [Hs1.out, if_neg n2]))
            go_wp2_with fail
            refine (HY.out _ _ b12 n2' (by omega)).mono ?_
            rintro e w3 ⟨rfl, b3⟩
            have hk2 := b12.size
            have hB5 := hB2.trans ((b12.trans (b3.mono hk2)).mono (by omega))
            go_wp2
            go_roundw
            case rel => exact ⟨k + 1, _, hlt, by go_num, rfl, lo3.1, by omega, Hst2.out, hB5⟩
            case measure => simp [intOf]; omega
      · have Hz2 := Lib.hid (Hr.out.trans (foldS_neg sizeL1 (t.body.drop k) (by omega)))
        go_wp2
        (go_ret; exact ⟨retI (by rw [Hz.out, Hz2.out]), hB⟩)
    · have hlt' : ¬ (k : Int) < (t.body.length : Int) := by omega
      have Hz2 : Hid (foldS sizeL1 t.body (A0) = L) := Lib.hid (by rw [Hr.out, List.drop_of_length_le (by omega)]; rfl)
      go_wp2
      (go_ret; exact ⟨retI (by rw [Hz.out, Hz2.out]), hB⟩)

end Go.Proofs.YtfcfehflocglpaaDoor
namespace Go.Proofs.YtfcfehflocglpaaDoor
open Go.RowKit

theorem longB_drop {l : List ByteArray} {k : Nat} {t : ByteArray} (h : l[k]? = some t) : longB' (l.drop k) = (decide (1000 < t.size) || longB' (l.drop (k + 1))) := by
  have h1 : l.drop k = t :: l.drop (k + 1) := by rw [List.drop_eq_getElem_cons (List.getElem?_eq_some_iff.1 h).1, (List.getElem?_eq_some_iff.1 h).2]
  rw [h1]; rfl
theorem anyD_drop {α : Type} {f : α → Bool} {l : List α} {k : Nat} {t : α} (h : l[k]? = some t) : (l.drop k).any f = (f t || (l.drop (k + 1)).any f) := by
  have h1 : l.drop k = t :: l.drop (k + 1) := by rw [List.drop_eq_getElem_cons (List.getElem?_eq_some_iff.1 h).1, (List.getElem?_eq_some_iff.1 h).2]
  rw [h1]; rfl
theorem retB {a b : Bool} (h : a = b) : Ending.returned (.bool a) = .returned (.bool b) := by rw [h]

set_option maxRecDepth 100000 in
set_option maxHeartbeats 4000000 in
theorem long_c (l : List ByteArray) (v : Value) (w : World) (h : SlOf w w.heap.size 1 StrC l v) :
    Calls Tryd.prog 49 #[v] w fun e w' => e = .returned (.bool (longB' l)) ∧ w = w' := by
  obtain ⟨o1, cap1, rfl, hc1, hm1, S1⟩ := SlOf.open h
  clear h
  go_enter Tryd.func49, Tryd.ntmps49
  go_wp2
  go_loop [3] (fun i => ∃ k : Nat, k ≤ l.length ∧ i = .int .i64 k ∧ longB' l = longB' (l.drop k)) (fun i => l.length - (intOf i).toNat)
  case atStart => exact ⟨0, Nat.zero_le _, rfl, rfl⟩
  case round =>
    obtain ⟨k, hk, rfl, hr⟩ := hrel
    have Hr := Lib.hid hr
    clear hr
    by_cases hlt : k < l.length
    · have hlt' : (k : Int) < (l.length : Int) := by omega
      obtain ⟨xe, ht⟩ : ∃ xe, l[k]? = some xe := ⟨l[k], List.getElem?_eq_getElem hlt⟩
      obtain ⟨a, rfl, ha, hz, c0⟩ := str_at S1 (Below.refl _ _) ht
      have Hst := Lib.hid (Hr.out.trans (longB_drop ht))
      unfold maxLen at hz
      clear ht
      by_cases hbig : 1000 < xe.size
      · have hbig' : (1000 : Int) < (xe.size : Int) := by omega
        have Hz : Hid (longB' l = true) := Lib.hid (by rw [Hst.out, decide_eq_true hbig]; rfl)
        go_wp2
        go_ret
        exact ⟨by rw [Hz.out]; rfl, rfl⟩
      · have hbig' : ¬ (1000 : Int) < (xe.size : Int) := by omega
        have Hz : Hid (longB' l = longB' (l.drop (k + 1))) := Lib.hid (by rw [Hst.out, decide_eq_false hbig]; rfl)
        go_wp2
        go_round
        case rel => exact ⟨k + 1, hlt, by go_num, Hz.out⟩
        case measure => simp [intOf]; omega
    · have hlt' : ¬ (k : Int) < (l.length : Int) := by omega
      have Hz : Hid (longB' l = false) := Lib.hid (by rw [Hr.out, List.drop_of_length_le (by omega)]; rfl)
      go_wp2
      go_ret
      exact ⟨by rw [Hz.out]; rfl, rfl⟩

def smallI (p : Pg) : Int := if smallP p = true then 1 else 0
set_option maxRecDepth 100000 in
set_option maxHeartbeats 4000000 in
theorem small_c (t : Pg) (w : World) (cs : List Value) (hc : PgC w w.heap.size t cs) :
    Calls Tryd.prog 22 #[.agg cs.toArray] w fun e w' => e = .returned (.int .i64 (smallI t)) ∧ Below w.heap.size w w' := by
  obtain ⟨p1, q1, r1, s1, rfl, a1, t1⟩ := hc.look
  obtain ⟨o1, cap1, e1, hc1, hm1, S1⟩ := SlOf.open a1
  cases e1
  obtain ⟨o2, cap2, e2, hc2, hm2, S2⟩ := SlOf.open t1
  cases e2
  clear hc a1 t1
  have HB0 : Hid (∀ (x : Obj), Below w.heap.size w (w.alloc x)) := Lib.hid fun x => (Below.refl _ _).alloc (Nat.le_refl _) _
  go_enter Tryd.func22, Tryd.ntmps22
  go_wp2
  go_loopw [4] (fun i wr => ∃ k : Nat, k ≤ t.decls.length ∧ i = .int .i64 k ∧ t.decls.any bigD = (t.decls.drop k).any bigD ∧ Below (w.heap.size + 1) (w.alloc (.cells #[.slice p1 t.decls.length q1, .slice r1 t.rules.length s1] 51)) wr) (fun i _ => t.decls.length - (intOf i).toNat)
  case atStart => exact ⟨0, Nat.zero_le _, rfl, rfl, Below.refl _ _⟩
  case round =>
    obtain ⟨k, hk, rfl, hr, hB2⟩ := hrel
    have hB : Below w.heap.size w wr := (HB0.out _).trans (hB2.mono (by omega))
    have Hr := Lib.hid hr
    clear hr
    have hBs := hB2.size
    simp only [World.size_alloc] at hBs
    have hz0 : w.heap.size < wr.heap.size := by omega
    have x0 : wr.cell? ⟨w.heap.size, 0, none⟩ = some (.slice p1 t.decls.length q1) := (hB2.cell (p := ⟨w.heap.size, 0, none⟩) (by show w.heap.size < _; omega)).trans (by go_simp)
    by_cases hlt : k < t.decls.length
    · have hlt' : (k : Int) < (t.decls.length : Int) := by omega
      obtain ⟨xe, ht⟩ : ∃ xe, t.decls[k]? = some xe := ⟨t.decls[k], List.getElem?_eq_getElem hlt⟩
      obtain ⟨a, p3, q3, p4, q4, rfl, ha, Hc, c0, c1, c2, c3, c4, c5⟩ := de_at S1 hB ht
      have hal : (a.add (k * 6)).block < wr.heap.size := by rw [addBlock]; omega
      have Hst := Lib.hid (Hr.out.trans (anyD_drop (f := bigD) ht))
      clear ht
      obtain ⟨_, _, _, _, e1, hz, _, Ln, _⟩ := Hc.out.look
      cases e1
      unfold maxLen at hz
      have HL := Lib.hid (long_c xe.names _ wr Ln)
      clear Ln
      by_cases hbig : 1000 < xe.rel.size
      · have hbig' : (1000 : Int) < (xe.rel.size : Int) := by omega
        have Hz : Hid (smallI t = 0) := Lib.hid (by unfold smallI smallP; rw [Hst.out, bigD, decide_eq_true hbig]; simp)
        go_wp2
        go_ret
        exact ⟨retI (by rw [Hz.out]), hB⟩
      · have hbig' : ¬ (1000 : Int) < (xe.rel.size : Int) := by omega
        go_wp2_with fail
        refine HL.out.mono ?_
        rintro e w' ⟨rfl, rfl⟩
        cases hlg : longB' xe.names with
        | true =>
          have Hz : Hid (smallI t = 0) := Lib.hid (by unfold smallI smallP; rw [Hst.out, bigD, hlg]; simp)
          clear hlg
          go_wp2
          go_ret
          exact ⟨retI (by rw [Hz.out]), hB⟩
        | false =>
          have Hz : Hid (t.decls.any bigD = (t.decls.drop (k + 1)).any bigD) := Lib.hid (by rw [Hst.out, bigD, hlg, decide_eq_false hbig]; rfl)
          clear hlg
          go_wp2
          go_roundw
          case rel => exact ⟨k + 1, hlt, by go_num, Hz.out, hB2⟩
          case measure => simp [intOf]; omega
    · have hlt' : ¬ (k : Int) < (t.decls.length : Int) := by omega
      have HN : Hid (t.decls.any bigD = false) := Lib.hid (by rw [Hr.out, List.drop_of_length_le (by omega)]; rfl)
      clear Hr
      go_wp2
      go_loopw [3, 5] (fun lv i wr => ∃ (k : Nat) (L : Int), k ≤ t.rules.length ∧ i = .int .i64 k ∧ lv = .int .i64 L ∧ -1 ≤ L ∧ L ≤ 1000000 ∧ foldS sizeR t.rules (2000) = foldS sizeR (t.rules.drop k) L ∧ Below (w.heap.size + 1) (w.alloc (.cells #[.slice p1 t.decls.length q1, .slice r1 t.rules.length s1] 51)) wr) (fun _ i _ => t.rules.length - (intOf i).toNat)
      case atStart => exact ⟨0, 2000, Nat.zero_le _, rfl, rfl, by omega, by omega, rfl, hB2⟩
      case round =>
        obtain ⟨k, L, hk, rfl, rfl, hL0, hL1, hr, hB2⟩ := hrel
        have hB : Below w.heap.size w wr := (HB0.out _).trans (hB2.mono (by omega))
        have Hr := Lib.hid hr
        clear hr
        have hBs := hB2.size
        simp only [World.size_alloc] at hBs
        have hz0 : w.heap.size < wr.heap.size := by omega
        have x0 : wr.cell? ⟨w.heap.size, 1, none⟩ = some (.slice r1 t.rules.length s1) := (hB2.cell (p := ⟨w.heap.size, 1, none⟩) (by show w.heap.size < _; omega)).trans (by go_simp)
        by_cases hlt : k < t.rules.length
        · have hlt' : (k : Int) < (t.rules.length : Int) := by omega
          by_cases hL : 0 ≤ L
          · obtain ⟨xe, ht⟩ : ∃ xe, t.rules[k]? = some xe := ⟨t.rules[k], List.getElem?_eq_getElem hlt⟩
            obtain ⟨a, p3, q3, p4, q4, rfl, ha, Hc, c0, c1, c2, c3⟩ := ru_at S2 hB ht
            have hal : (a.add (k * 4)).block < wr.heap.size := by rw [addBlock]; omega
            have Hst := Lib.hid (Hr.out.trans (foldS_drop (f := sizeR) ht hL))
            have Hm := Lib.hid (List.mem_of_getElem? ht)
            clear ht
            go_wp2_with fail
            refine (sizeRule_c xe L _ [_, _, _, _] hL hL1 Hc.out).mono ?_
            rintro e w1 ⟨rfl, b1⟩
            have hB3 := hB2.trans (b1.mono (by omega))
            have lo := sizeR_lo xe L hL
            obtain ⟨L2, hL2⟩ : ∃ L2, sizeR xe L = L2 := ⟨_, rfl⟩
            rw [hL2] at lo ⊢
            have Hst2 : Hid _ := Lib.hid (Hst.out.trans (by rw [hL2]))
            clear hL2
            go_wp2
            go_roundw
            case rel => exact ⟨k + 1, L2, hlt, by go_num, rfl, lo.1, by omega, Hst2.out, hB3⟩
            case measure => simp [intOf]; omega
          · have Hz2 := Lib.hid (Hr.out.trans (foldS_neg sizeR (t.rules.drop k) (by omega)))
            have Hz4 : Hid (smallI t = 0) := Lib.hid (by unfold smallI smallP; rw [Hz2.out, decide_eq_false hL]; simp)
            have hL' : L < 0 := by omega
            go_wp2
            (go_ret; exact ⟨retI (by rw [Hz4.out]), hB⟩)
        · have hlt' : ¬ (k : Int) < (t.rules.length : Int) := by omega
          have Hz2 : Hid (foldS sizeR t.rules (2000) = L) := Lib.hid (by rw [Hr.out, List.drop_of_length_le (by omega)]; rfl)
          have Hz3 := Lib.hid Hz2.out
          have xd : wr.cell? ⟨w.heap.size, 0, none⟩ = some (.slice p1 t.decls.length q1) := (hB2.cell (p := ⟨w.heap.size, 0, none⟩) (by show w.heap.size < _; omega)).trans (by go_simp)
          by_cases f1 : L < 0
          · have Hz4 : Hid (smallI t = 0) := Lib.hid (by unfold smallI smallP; rw [Hz3.out, decide_eq_false (show ¬ 0 ≤ L by omega)]; simp)
            go_wp2
            (go_ret; exact ⟨retI (by rw [Hz4.out]), hB⟩)
          by_cases f2 : 100 < t.decls.length
          · have f2' : (100 : Int) < (t.decls.length : Int) := by omega
            have Hz4 : Hid (smallI t = 0) := Lib.hid (by unfold smallI smallP; rw [decide_eq_false (show ¬ t.decls.length ≤ 100 by omega)]; simp)
            go_wp2
            (go_ret; exact ⟨retI (by rw [Hz4.out]), hB⟩)
          have f2' : ¬ (100 : Int) < (t.decls.length : Int) := by omega
          by_cases f3 : 300 < t.rules.length
          · have f3' : (300 : Int) < (t.rules.length : Int) := by omega
            have Hz4 : Hid (smallI t = 0) := Lib.hid (by unfold smallI smallP; rw [decide_eq_false (show ¬ t.rules.length ≤ 300 by omega)]; simp)
            go_wp2
            (go_ret; exact ⟨retI (by rw [Hz4.out]), hB⟩)
          have f3' : ¬ (300 : Int) < (t.rules.length : Int) := by omega
          have Hz4 : Hid (smallI t = 1) := Lib.hid (by unfold smallI smallP; rw [Hz3.out, decide_eq_true (show 0 ≤ L by omega), decide_eq_true (show t.rules.length ≤ 300 by omega), decide_eq_true (show t.decls.length ≤ 100 by omega), HN.out]; rfl)
          go_wp2
          (go_ret; exact ⟨retI (by rw [Hz4.out]), hB⟩)
end Go.Proofs.YtfcfehflocglpaaDoor
namespace Go.Proofs.YtfcfehflocglpaaDoor
open Go.RowKit

theorem kept {W w1 : World} {B : Nat} (hb : Below B W w1) : (∀ b o, b < B → w1.cell? ⟨b, o, none⟩ = W.cell? ⟨b, o, none⟩) ∧ (∀ b o, b < B → w1.frozen? ⟨b, o, none⟩ = W.frozen? ⟨b, o, none⟩) :=
  ⟨fun b o h => hb.cell (p := ⟨b, o, none⟩) h, fun b o h => hb.frozen (p := ⟨b, o, none⟩) h⟩
theorem count_c (n : Int) (w : World) : Calls Tryd.prog 125 #[.int .i64 n] w fun e w' => e = .returned (.bool (decide (1 ≤ n) && decide (n ≤ 8))) ∧ w = w' := by
  by_cases h1 : 1 ≤ n
  · by_cases h2 : n ≤ 8
    · go_enter Tryd.func125, Tryd.ntmps125
      go_wp2
      go_ret
      exact ⟨retB (by simp <;> omega), rfl⟩
    · go_enter Tryd.func125, Tryd.ntmps125
      go_wp2
      go_ret
      exact ⟨retB (by simp <;> omega), rfl⟩
  · go_enter Tryd.func125, Tryd.ntmps125
    go_wp2
    go_ret
    exact ⟨retB (by simp <;> omega), rfl⟩
theorem rec_c (t : Tm) (w : World) (cs : List Value) (hc : TmC w w.heap.size t cs) :
    Calls Tryd.prog 142 #[.agg cs.toArray] w fun e w' => e = .returned (.bool (recB t)) ∧ Below w.heap.size w w' := by
  obtain ⟨p1, q1, rfl, _, _, _, _⟩ := hc.look
  have Hz : Hid (recB t = ((t.op != 3) && (t.op != 4))) := Lib.hid rfl
  clear hc
  obtain ⟨b1, hb1⟩ : ∃ b, (t.op != 3) = b := ⟨_, rfl⟩
  obtain ⟨b2, hb2⟩ : ∃ b, (t.op != 4) = b := ⟨_, rfl⟩
  cases b1
  · go_enter Tryd.func142, Tryd.ntmps142
    go_wp2
    go_ret
    exact ⟨retB (by rw [Hz.out, hb1]; rfl), (Below.refl _ _).alloc (Nat.le_refl _) _⟩
  · cases b2
    · go_enter Tryd.func142, Tryd.ntmps142
      go_wp2
      go_ret
      exact ⟨retB (by rw [Hz.out, hb1, hb2]; rfl), (Below.refl _ _).alloc (Nat.le_refl _) _⟩
    · go_enter Tryd.func142, Tryd.ntmps142
      go_wp2
      go_ret
      exact ⟨retB (by rw [Hz.out, hb1, hb2]; rfl), (Below.refl _ _).alloc (Nat.le_refl _) _⟩

theorem empty_int (l : List Tm) : l.isEmpty = ((l.length : Int) == 0) := by cases l <;> simp <;> omega

set_option maxRecDepth 100000 in
set_option maxHeartbeats 4000000 in
theorem shape_leaf (op : Int) (s : ByteArray) (n : Int) (l : List Tm) (hop : twoB op = false) (w : World) (cs : List Value) (hc : TmC w w.heap.size (.mk op s n l) cs) :
    Calls Tryd.prog 133 #[.agg cs.toArray] w fun e w' => e = .returned (.bool (shapeB (.mk op s n l))) ∧ Below w.heap.size w w' := by
  obtain ⟨p1, q1, rfl, _, hz, _, t1⟩ := hc.look
  simp only [Tm.op_mk, Tm.s_mk, Tm.n_mk, Tm.l_mk] at hz t1 ⊢
  clear hc t1
  have hs0 : shapeB (.mk op s n l) = leafB (.mk op s n l) := by unfold shapeB; simp [hop]
  have h5 : (op == 5) = false := by unfold twoB at hop; simp at hop ⊢; exact hop.1.1
  have h6 : (op == 6) = false := by unfold twoB at hop; simp at hop ⊢; exact hop.1.2
  have h7 : (op == 7) = false := by unfold twoB at hop; simp at hop ⊢; exact hop.2
  obtain ⟨bn, hbn⟩ : ∃ b, (n == 0) = b := ⟨_, rfl⟩
  obtain ⟨bl, hbl⟩ : ∃ b, ((l.length : Int) == 0) = b := ⟨_, rfl⟩
  have hle := empty_int l
  rw [hbl] at hle
  have A0 : Hid (Below w.heap.size w (w.alloc (.cells #[.int .i64 op, .string s, .int .i64 n, .slice p1 l.length q1] 43))) := Lib.hid ((Below.refl _ _).alloc (Nat.le_refl _) _)
  by_cases o1 : op = 1
  · subst o1
    have Hz : Hid (shapeB (.mk 1 s n l) = (nameB s.data.toList && bn && bl)) := Lib.hid (by rw [hs0, ← hle, ← hbn]; rfl)
    have HN := Lib.hid (fun w => isName_any s w hz)
    clear hs0 hle
    go_enter Tryd.func133, Tryd.ntmps133
    go_wp2_with fail
    refine (HN.out _).mono ?_
    rintro e w1 ⟨rfl, b1⟩
    have B1 := A0.out.trans (b1.mono (by simp))
    obtain ⟨hc, hf⟩ := kept b1
    have hz1 : w.heap.size < w1.heap.size := by have := b1.size; simp at this; omega
    cases hnm : nameB s.data.toList
    · have Hz1 : Hid (shapeB (.mk 1 s n l) = false) := Lib.hid (by rw [Hz.out, hnm]; rfl)
      clear hnm
      go_wp2
      go_ret
      exact ⟨by rw [Hz1.out]; rfl, B1⟩
    · have Hz1 : Hid (shapeB (.mk 1 s n l) = (bn && bl)) := Lib.hid (by rw [Hz.out, hnm]; rfl)
      clear hnm
      cases bn <;> cases bl
      all_goals
        go_wp2
        go_ret
        exact ⟨by rw [Hz1.out]; rfl, B1⟩
  have e1 : (op == 1) = false := by simpa using o1
  by_cases o2 : op = 2
  · subst o2
    by_cases h0 : s.toList = []
    · have Hz : Hid (shapeB (.mk 2 s n l) = bl) := Lib.hid (by rw [hs0, ← hle]; show (s.toList.isEmpty && l.isEmpty) = _; rw [h0]; rfl)
      clear hs0 hle
      cases bl
      all_goals
        go_enter Tryd.func133, Tryd.ntmps133
        go_wp2
        go_ret
        exact ⟨by rw [Hz.out]; rfl, A0.out⟩
    · have Hz : Hid (shapeB (.mk 2 s n l) = false) := Lib.hid (by rw [hs0]; show (s.toList.isEmpty && l.isEmpty) = _; simp [h0])
      clear hs0 hle
      go_enter Tryd.func133, Tryd.ntmps133
      go_wp2
      go_ret
      exact ⟨by rw [Hz.out]; rfl, A0.out⟩
  have e2 : (op == 2) = false := by simpa using o2
  by_cases o3 : op = 3
  · subst o3
    have Hz : Hid (shapeB (.mk 3 s n l) = (bn && bl)) := Lib.hid (by rw [hs0, ← hle, ← hbn]; rfl)
    clear hs0 hle
    cases bn <;> cases bl
    all_goals
      go_enter Tryd.func133, Tryd.ntmps133
      go_wp2
      go_ret
      exact ⟨by rw [Hz.out]; rfl, A0.out⟩
  have e3 : (op == 3) = false := by simpa using o3
  by_cases o4 : op = 4
  · subst o4
    by_cases h0 : s.toList = []
    · have Hz : Hid (shapeB (.mk 4 s n l) = (bn && bl)) := Lib.hid (by rw [hs0, ← hle, ← hbn]; show (s.toList.isEmpty && (n == 0) && l.isEmpty) = _; rw [h0]; rfl)
      clear hs0 hle
      cases bn <;> cases bl
      all_goals
        go_enter Tryd.func133, Tryd.ntmps133
        go_wp2
        go_ret
        exact ⟨by rw [Hz.out]; rfl, A0.out⟩
    · have Hz : Hid (shapeB (.mk 4 s n l) = false) := Lib.hid (by rw [hs0]; show (s.toList.isEmpty && (n == 0) && l.isEmpty) = _; simp [h0])
      clear hs0 hle
      go_enter Tryd.func133, Tryd.ntmps133
      go_wp2
      go_ret
      exact ⟨by rw [Hz.out]; rfl, A0.out⟩
  have e4 : (op == 4) = false := by simpa using o4
  have Hz : Hid (shapeB (.mk op s n l) = false) := Lib.hid (by rw [hs0]; unfold leafB; simp [o1, o2, o3, o4])
  clear hs0 hle o1 o2 o3 o4 hop
  go_enter Tryd.func133, Tryd.ntmps133
  go_wp2
  go_ret
  exact ⟨by rw [Hz.out]; rfl, A0.out⟩
end Go.Proofs.YtfcfehflocglpaaDoor
