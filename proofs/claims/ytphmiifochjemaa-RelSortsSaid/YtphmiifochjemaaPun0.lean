/- Rows of one's own that are seen in blocks of values alone: what an iterator's own arrays, boxes and lists do does not turn them. -/
import Derived.Test.YtphmiifochjemaaPeb
import Derived.Test.YtphmiifochjemaaPcr
import Derived.Test.YtphmiifochjemaaPri
namespace Go.Proofs.Ytphmiifochjemaa
open Go.RowKit

/-- The world with every block hidden that is no block of values. -/
def seeO (o : Obj) : Obj := match o with
  | .cells cs T fr => if T = 35 then .cells cs T fr else .cells #[] 0
  | _ => .cells #[] 0
def seeV (w : World) : World := { w with heap := w.heap.map seeO }
theorem seeV_size (w : World) : (seeV w).heap.size = w.heap.size := by simp [seeV]
theorem seeV_heap (w : World) (k : Nat) : (seeV w).heap[k]? = (w.heap[k]?).map seeO := by simp [seeV]
/-- Blocks of values that lay lie as they did. -/
def KeepV (W W' : World) : Prop := W.heap.size ≤ W'.heap.size ∧ ∀ (k : Nat) (cs : Array Value) (fr : Nat × Nat), W.heap[k]? = some (.cells cs 35 fr) → W'.heap[k]? = some (.cells cs 35 fr)
theorem KeepV.trans {a b c : World} (h : KeepV a b) (k : KeepV b c) : KeepV a c := ⟨Nat.le_trans h.1 k.1, fun i cs fr hi => k.2 i cs fr (h.2 i cs fr hi)⟩
theorem KeepV.below {W W' : World} (h : Below W.heap.size W W') : KeepV W W' := ⟨h.size, fun k _ _ hk => (h.block k (heapLt hk)).trans hk⟩
theorem KeepV.grown {W W' : World} {row : Option Nat} (h : W.grownBy W' row) (hr : ∀ g, row = some g → ∃ (cs : Array Value) (T : TypeId) (fr : Nat × Nat), W.heap[g]? = some (.cells cs T fr) ∧ T ≠ 35) : KeepV W W' :=
  ⟨h.size, fun k cs fr hk => (h.block k (heapLt hk) (fun e => by
    obtain ⟨cs', T, fr', h1, h2⟩ := hr k e.symm
    rw [hk] at h1
    cases h1
    exact h2 rfl)).trans hk⟩
theorem KeepV.put {B : Nat} {W W' : World} (h : Put B W W') : KeepV W W' := ⟨by rw [put_sz h]; omega, fun _ _ _ hk => put_block h hk (.inl rfl)⟩
theorem KeepV.tm {B : Nat} {W W' : World} (h : TmW B W W') : KeepV W W' := by
  obtain ⟨row, h1, h2⟩ := h
  exact .grown h1 fun g e => by
    obtain ⟨_, cs, hc⟩ := h2 g e
    exact ⟨cs, _, _, hc, by decide⟩
theorem seeV_cell {W W' : World} (h : KeepV W W') {p : Addr} {c : Value} (hc : (seeV W).cell? p = some c) : (seeV W').cell? p = some c := by
  unfold World.cell? at hc ⊢
  rw [seeV_heap] at hc ⊢
  cases hk : W.heap[p.block]? with
  | none => rw [hk] at hc; simp at hc
  | some o =>
    rw [hk, Option.map_some] at hc
    cases o with
    | cells cs T fr =>
      by_cases hT : T = 35
      · subst hT
        rw [h.2 _ _ _ hk, Option.map_some]
        exact hc
      · simp [seeO, hT] at hc
    | _ => simp [seeO] at hc
theorem see_keep {W W' : World} {B B' : Nat} {r : Rw} {u : Value} (h : SlOf (seeV W) B 3 VlC r u) (hk : KeepV W W') (hB : B ≤ B') : SlOf (seeV W') B' 3 VlC r u :=
  sl_cellsTo h (fun _ _ hc => seeV_cell hk hc) hB
theorem seeV_out {W : World} {B : Nat} {r : Rw} {u : Value} (h : SlOf (seeV W) B 3 VlC r u) : SlOf W B 3 VlC r u := by
  refine sl_cellsTo h (fun p c hc => ?_) (Nat.le_refl _)
  unfold World.cell? at hc ⊢
  rw [seeV_heap] at hc
  cases hk : W.heap[p.block]? with
  | none => rw [hk] at hc; simp at hc
  | some o =>
    rw [hk, Option.map_some] at hc
    cases o with
    | cells cs T fr =>
      by_cases hT : T = 35
      · subst hT; exact hc
      · simp [seeO, hT] at hc
    | _ => simp [seeO] at hc
/-- A row just copied. -/
theorem copy_seeV {W : World} {base : Nat} {u : Value} {r : Rw} {xs : List Value} (ho : W.ownsRow base 35 3 u r.length xs) (hl : Laid 3 VlC r xs) : SlOf (seeV W) W.heap.size 3 VlC r u := by
  have h2 : (seeV W).ownsRow base 35 3 u r.length xs := by
    refine ⟨ho.1, ?_⟩
    rcases ho.2 with h | ⟨g, cap, cur, e1, e2, e3, e4⟩
    · exact .inl h
    · exact .inr ⟨g, cap, cur, e1, e2, by rw [seeV_heap, e3]; simp [seeO], e4⟩
  have := sl_own0 h2 hl
  rwa [seeV_size] at this
/-- Rows of one's own, put into a list of one's own that lies in a box nb. -/
structure RoB (w : World) (nb : Nat) (hs : List Hd) (W : World) : Prop where
  own : ∃ v, W.heap[nb]? = some (.cells #[v] 22 (0, 0)) ∧ W.ownsRow w.heap.size 23 1 v hs.length (hs.map Prod.snd)
  see : ∀ x ∈ hs, SlOf (seeV W) W.heap.size 3 VlC x.1 x.2
  b : Below w.heap.size w W
theorem own_same {W W' : World} {base e z n : Nat} {v : Value} {xs : List Value} (h : W.ownsRow base e z v n xs) (hk : ∀ (g : Nat) (cs : Array Value), W.heap[g]? = some (.cells cs e (0, 0)) → W'.heap[g]? = some (.cells cs e (0, 0))) : W'.ownsRow base e z v n xs := by
  refine ⟨h.1, ?_⟩
  rcases h.2 with h2 | ⟨g, cap, cur, e1, e2, e3, e4⟩
  · exact .inl h2
  · exact .inr ⟨g, cap, cur, e1, e2, hk g cur e3, e4⟩
theorem RoB.keep {w W W' : World} {nb : Nat} {hs : List Hd} (h : RoB w nb hs W) (hv : KeepV W W') (h22 : ∀ (g : Nat) (cs : Array Value), W.heap[g]? = some (.cells cs 23 (0, 0)) → W'.heap[g]? = some (.cells cs 23 (0, 0))) (hnb : ∀ (v : Value), W.heap[nb]? = some (.cells #[v] 22 (0, 0)) → W'.heap[nb]? = some (.cells #[v] 22 (0, 0))) (hb : Below w.heap.size w W') : RoB w nb hs W' := by
  obtain ⟨v, h1, h2⟩ := h.own
  exact ⟨⟨v, hnb v h1, own_same h2 h22⟩, fun x hx => see_keep (h.see x hx) hv hv.1, hb⟩
theorem RoB.below {w W W' : World} {nb : Nat} {hs : List Hd} (h : RoB w nb hs W) (hb : Below W.heap.size W W') : RoB w nb hs W' :=
  h.keep (.below hb) (fun g _ hg => (hb.block g (heapLt hg)).trans hg) (fun _ hg => (hb.block nb (heapLt hg)).trans hg) (h.b.trans (hb.mono h.b.size))
theorem RoB.put {w W W' : World} {nb B : Nat} {hs : List Hd} (h : RoB w nb hs W) (hp : Put B W W') (hB : w.heap.size ≤ B) : RoB w nb hs W' :=
  h.keep (.put hp) (fun _ _ hg => put_block hp hg (.inl rfl)) (fun _ hg => put_block hp hg (.inl rfl)) (put_bel hp h.b hB)
theorem tm_block {B : Nat} {W W' : World} (h : TmW B W W') {k : Nat} {cs : Array Value} {T : TypeId} (hk : W.heap[k]? = some (.cells cs T (0, 0))) (hT : T ≠ 57) : W'.heap[k]? = some (.cells cs T (0, 0)) := by
  obtain ⟨row, h1, h2⟩ := h
  refine (h1.block k (heapLt hk) (fun e => ?_)).trans hk
  obtain ⟨_, cs', hc⟩ := h2 k e.symm
  rw [hk] at hc
  cases hc
  exact hT rfl
theorem tm_below {w W W' : World} {B : Nat} (h : TmW B W W') (hb : Below w.heap.size w W) (hB : w.heap.size ≤ B) : Below w.heap.size w W' := by
  obtain ⟨row, h1, h2⟩ := h
  exact hb.grown h1 hb.size fun k e => Nat.le_trans hB (h2 k e).1
theorem RoB.tm {w W W' : World} {nb B : Nat} {hs : List Hd} (h : RoB w nb hs W) (ht : TmW B W W') (hB : w.heap.size ≤ B) : RoB w nb hs W' :=
  h.keep (.tm ht) (fun _ _ hg => tm_block ht hg (by decide)) (fun _ hg => tm_block ht hg (by decide)) (tm_below ht h.b hB)
theorem tm_keeps {W W' : World} {B0 : Nat} (h : TmW B0 W W') (B : Nat) : KeepsFrom B W W' := by
  obtain ⟨row, h1, h2⟩ := h
  refine ⟨h1.size, fun k o _ hk ho => (h1.block k (heapLt hk) (fun e => ?_)).trans hk⟩
  obtain ⟨_, cs, hc⟩ := h2 k e.symm
  rw [hk] at hc
  cases hc
  cases ho
end Go.Proofs.Ytphmiifochjemaa
