/- What a list holds as cells; a world with a block hidden; rows of one's own whose values lie elsewhere. -/
import Derived.Test.YtphmiifochjemaaPr
import Derived.Test.YtphmiifochjemaaOwn
namespace Go.Proofs.Ytphmiifochjemaa
open Go.RowKit

def Laid {α : Type} (z : Nat) (L : α → List Value → Prop) (acc : List α) (xs : List Value) : Prop :=
  xs.length = acc.length * z ∧ ∀ i x, acc[i]? = some x → ∃ cs, cs.length = z ∧ L x cs ∧ ∀ j c, cs[j]? = some c → xs[i * z + j]? = some c
theorem Laid.nil {α : Type} {z : Nat} {L : α → List Value → Prop} : Laid z L [] [] := ⟨by simp, fun i x h => by simp at h⟩
theorem Laid.app {α : Type} {z : Nat} {L : α → List Value → Prop} {l m : List α} {xs ys : List Value} (h : Laid z L l xs) (k : Laid z L m ys) : Laid z L (l ++ m) (xs ++ ys) := by
  refine ⟨by rw [List.length_append, List.length_append, h.1, k.1, Nat.add_mul], fun i x hx => ?_⟩
  rcases Nat.lt_or_ge i l.length with hi | hi
  · rw [List.getElem?_append_left hi] at hx
    obtain ⟨cs, c1, c2, c3⟩ := h.2 i x hx
    refine ⟨cs, c1, c2, fun j c hj => ?_⟩
    have := c3 j c hj
    rw [List.getElem?_append_left (List.getElem?_eq_some_iff.1 this).1]
    exact this
  · rw [List.getElem?_append_right hi] at hx
    obtain ⟨cs, c1, c2, c3⟩ := k.2 _ x hx
    refine ⟨cs, c1, c2, fun j c hj => ?_⟩
    have := c3 j c hj
    have e : i * z + j - xs.length = (i - l.length) * z + j := by
      rw [h.1, Nat.sub_mul]
      have : l.length * z ≤ i * z := Nat.mul_le_mul_right _ hi
      omega
    rw [List.getElem?_append_right (by rw [h.1]; have : l.length * z ≤ i * z := Nat.mul_le_mul_right _ hi; omega), e]
    exact this
theorem Laid.one {α : Type} {z : Nat} {L : α → List Value → Prop} {x : α} {cs : List Value} (hz : cs.length = z) (h : L x cs) : Laid z L [x] cs := by
  refine ⟨by simp [hz], fun i y hy => ?_⟩
  cases i with
  | zero =>
    obtain rfl : x = y := by simpa using hy
    exact ⟨cs, hz, h, fun j c hj => by rw [Nat.zero_mul, Nat.zero_add]; exact hj⟩
  | succ i => simp at hy
theorem Laid.snoc {α : Type} {z : Nat} {L : α → List Value → Prop} {acc : List α} {xs : List Value} {x : α} {cs : List Value} (h : Laid z L acc xs) (hz : cs.length = z) (hx : L x cs) : Laid z L (acc ++ [x]) (xs ++ cs) := h.app (.one hz hx)
theorem Laid.mono {α : Type} {z : Nat} {L L' : α → List Value → Prop} {acc : List α} {xs : List Value} (h : Laid z L acc xs) (hL : ∀ x cs, L x cs → L' x cs) : Laid z L' acc xs :=
  ⟨h.1, fun i x hx => let ⟨cs, a, b, c⟩ := h.2 i x hx; ⟨cs, a, hL x cs b, c⟩⟩
theorem sl_laid {α : Type} {w : World} {B z : Nat} {R : α → List Value → Prop} {l : List α} {v : Value} (h : SlOf w B z R l v) (h1 : ∀ x cs, R x cs → ∀ u ∈ cs, u.oneCell' = true) : ∃ xs, Laid z R l xs ∧ Spread w z v l.length xs := by
  rcases h with ⟨rfl, rfl⟩ | ⟨a, cap, rfl, _, _, _, h5⟩
  · exact ⟨[], Laid.nil, .inl ⟨rfl, rfl, rfl⟩⟩
  · have key : ∀ k, k ≤ l.length → ∃ xs, Laid z R (l.take k) xs ∧ (∀ j u, xs[j]? = some u → w.cell? (a.add j) = some u) ∧ ∀ u ∈ xs, u.oneCell' = true := by
      intro k
      induction k with
      | zero => intro _; exact ⟨[], by simpa using Laid.nil, fun j u hu => by simp at hu, fun u hu => by simp at hu⟩
      | succ k ih =>
        intro hk
        obtain ⟨xs, e1, e2, e3⟩ := ih (by omega)
        have hx : l[k]? = some l[k] := List.getElem?_eq_getElem (by omega)
        obtain ⟨cs, c1, c2, c3⟩ := h5 k _ hx
        have hl : xs.length = k * z := by rw [e1.1, List.length_take, Nat.min_eq_left (by omega)]
        refine ⟨xs ++ cs, ?_, fun j u hu => ?_, fun u hu => ?_⟩
        · rw [List.take_add_one, hx]
          exact e1.snoc c1 c2
        · rcases Nat.lt_or_ge j xs.length with hj | hj
          · rw [List.getElem?_append_left hj] at hu
            exact e2 j u hu
          · rw [List.getElem?_append_right hj] at hu
            have := c3 _ u hu
            rw [← hl, Nat.add_sub_cancel' hj] at this
            exact this
        · rcases List.mem_append.1 hu with hu | hu
          · exact e3 u hu
          · exact h1 _ _ c2 u hu
    obtain ⟨xs, e1, e2, e3⟩ := key l.length (Nat.le_refl _)
    rw [List.take_length] at e1
    exact ⟨xs, e1, .inr ⟨a, cap, rfl, e1.1, e2, e3⟩⟩
theorem sl_own0 {α : Type} {w : World} {base : Nat} {e : TypeId} {z : Nat} {v : Value} {xs : List Value} {acc : List α} {P : α → List Value → Prop} (h : w.ownsRow base e z v acc.length xs) (hl : Laid z P acc xs) : SlOf w w.heap.size z P acc v := by
  rcases h.2 with ⟨rfl, h0⟩ | ⟨g, cap, cur, hv, hb, hg, hn, hc, hcur, ht⟩
  · exact .inl ⟨rfl, List.eq_nil_of_length_eq_zero h0⟩
  · refine .inr ⟨⟨g, 0, none⟩, cap, hv, hn, hc, fun _ => (Array.getElem?_eq_some_iff.1 hg).1, fun i x hx => ?_⟩
    obtain ⟨cs, hz, hP, hcs⟩ := hl.2 i x hx
    exact ⟨cs, hz, hP, fun j c hj => h.cells (g := g) (by rw [hv]; rfl) (i * z + j) c (hcs j c hj)⟩
def hide (b : Nat) (w : World) : World := { w with heap := w.heap.mapIdx fun i o => if i = b then .cells #[] 0 else o }
theorem hide_heap (b : Nat) (w : World) (k : Nat) : (hide b w).heap[k]? = (w.heap[k]?).map fun o => if k = b then .cells #[] 0 else o := by simp [hide]
theorem hide_size (b : Nat) (w : World) : (hide b w).heap.size = w.heap.size := by simp [hide]
theorem hide_other {b k : Nat} (w : World) (h : k ≠ b) : (hide b w).heap[k]? = w.heap[k]? := by
  rw [hide_heap]
  cases hw : w.heap[k]? with
  | none => rfl
  | some o => rw [Option.map_some, if_neg h]
theorem hide_cell {b : Nat} {w : World} {p : Addr} {v : Value} : (hide b w).cell? p = some v ↔ p.block ≠ b ∧ w.cell? p = some v := by
  by_cases hp : p.block = b
  · constructor
    · intro h
      exfalso
      unfold World.cell? at h
      rw [hide_heap] at h
      cases hw : w.heap[p.block]? with
      | none => rw [hw] at h; simp at h
      | some o => rw [hw, Option.map_some, if_pos hp] at h; simp at h
    · rintro ⟨h, _⟩
      exact absurd hp h
  · rw [World.cell?_of_block (hide_other w hp)]
    exact ⟨fun h => ⟨hp, h⟩, fun h => h.2⟩
/-- The world with a slice's own block hidden. -/
def hideV (v : Value) (w : World) : World :=
  match v.ownBlock with
  | some g => hide g w
  | none => w
theorem hideV_cell {v : Value} {w : World} {p : Addr} {c : Value} : (hideV v w).cell? p = some c ↔ some p.block ≠ v.ownBlock ∧ w.cell? p = some c := by
  unfold hideV
  cases v.ownBlock with
  | none => simp
  | some g =>
    simp only
    rw [hide_cell]
    exact ⟨fun h => ⟨fun e => h.1 (Option.some.inj e), h.2⟩, fun h => ⟨fun e => h.1 (by rw [e]), h.2⟩⟩
theorem hideV_nil (w : World) : hideV (.slice none 0 0) w = w := rfl

theorem vl_one (x : Vl) (cs : List Value) (h : VlC x cs) : ∀ u ∈ cs, u.oneCell' = true := by
  obtain ⟨rfl, _, _⟩ := h
  intro y hy
  simp only [List.mem_cons, List.mem_nil_iff, or_false] at hy
  rcases hy with rfl | rfl | rfl <;> rfl
theorem own_hide {W : World} {base e size n : Nat} {u v : Value} {xs : List Value} (h : W.ownsRow base e size u n xs) (hv : ∀ g, v.ownBlock = some g → g < base) : (hideV v W).ownsRow base e size u n xs := by
  refine ⟨h.1, ?_⟩
  rcases h.2 with h2 | ⟨g, cap, cur, e1, e2, e3, e4⟩
  · exact .inl h2
  · refine .inr ⟨g, cap, cur, e1, e2, ?_, e4⟩
    unfold hideV
    cases hb : v.ownBlock with
    | none => exact e3
    | some k => exact (hide_other W (by have := hv k hb; omega)).trans e3
theorem hideV_size (v : Value) (w : World) : (hideV v w).heap.size = w.heap.size := by
  unfold hideV
  cases v.ownBlock with
  | none => rfl
  | some g => exact hide_size g w
/-- What is seen apart from one row stays so, when that row and nothing else has turned. -/
theorem see_grown {α : Type} {W W' : World} {v v' : Value} {B B' z : Nat} {R : α → List Value → Prop} {l : List α} {u : Value} (h : SlOf (hideV v W) B z R l u) (hg : W.grownBy W' v.ownBlock) (hv : v'.ownBlock = v.ownBlock ∨ v'.ownBlock = some W.heap.size) (hB : B ≤ B') : SlOf (hideV v' W') B' z R l u := by
  refine sl_cellsTo h (fun p c hc => ?_) hB
  obtain ⟨h1, h2⟩ := hideV_cell.1 hc
  have hlt := World.block_lt_of_cell? _ _ h2
  refine hideV_cell.2 ⟨fun e => ?_, (World.cell?_of_block (hg.block _ hlt (fun e => h1 e))).trans h2⟩
  rcases hv with hv | hv
  · rw [hv] at e; exact h1 e
  · rw [hv] at e; have := Option.some.inj e; omega
theorem see_below {α : Type} {W W' : World} {v : Value} {B B' z : Nat} {R : α → List Value → Prop} {l : List α} {u : Value} (h : SlOf (hideV v W) B z R l u) (hb : Below W.heap.size W W') (hB : B ≤ B') : SlOf (hideV v W') B' z R l u :=
  sl_cellsTo h (fun p c hc => by
    obtain ⟨h1, h2⟩ := hideV_cell.1 hc
    exact hideV_cell.2 ⟨h1, (hb.cell (World.block_lt_of_cell? _ _ h2)).trans h2⟩) hB
theorem see_out {α : Type} {W : World} {v : Value} {B z : Nat} {R : α → List Value → Prop} {l : List α} {u : Value} (h : SlOf (hideV v W) B z R l u) : SlOf W B z R l u :=
  sl_cellsTo h (fun p c hc => (hideV_cell.1 hc).2) (Nat.le_refl _)
/-- Rows of one's own, whose values lie elsewhere. -/
structure RoR (w : World) (base : Nat) (v : Value) (hs : List (Rw × Value)) (W : World) : Prop where
  own : W.ownsRow base 23 1 v hs.length (hs.map Prod.snd)
  see : ∀ x ∈ hs, SlOf (hideV v W) W.heap.size 3 VlC x.1 x.2
  b : Below base w W
theorem RoR.below {w W W' : World} {base : Nat} {v : Value} {hs : List (Rw × Value)} (h : RoR w base v hs W) (hb : Below W.heap.size W W') (hB : base ≤ W.heap.size) : RoR w base v hs W' :=
  ⟨own_past h.own hb, fun x hx => see_below (h.see x hx) hb hb.size, h.b.trans (hb.mono hB)⟩
theorem RoR.rows {w W : World} {base : Nat} {v : Value} {hs : List (Rw × Value)} (h : RoR w base v hs W) : RwsS W W.heap.size (hs.map Prod.fst) v := by
  have h1 : SlOf W W.heap.size 1 HdC hs v := sl_own0 h.own ⟨by simp, fun i x hx => ⟨[x.2], rfl, rfl, fun j c hj => by
    have hj0 : j = 0 := by have := (List.getElem?_eq_some_iff.1 hj).1; simp at this; omega
    subst hj0
    rw [Nat.mul_one, Nat.add_zero, List.getElem?_map, hx]
    simpa using hj⟩⟩
  rcases h1 with ⟨rfl, rfl⟩ | ⟨a, cap, e1, e2, e3, e4, e5⟩
  · exact .inl ⟨rfl, rfl⟩
  · refine .inr ⟨a, cap, by rw [List.length_map]; exact e1, by rw [List.length_map]; exact e2, e3, fun hne => e4 (by rintro rfl; exact hne rfl), fun i r hr => ?_⟩
    rw [List.getElem?_map] at hr
    cases hx : hs[i]? with
    | none => rw [hx] at hr; cases hr
    | some x =>
      rw [hx] at hr
      cases hr
      obtain ⟨cs, c1, c2, c3⟩ := e5 i x hx
      exact ⟨cs, c1, ⟨x.2, c2, see_out (h.see x (List.mem_of_getElem? hx))⟩, c3⟩
/-- A row of one's own put behind them. -/
theorem RoR.snoc {w W W' : World} {base : Nat} {v v' : Value} {hs : List (Rw × Value)} {r : Rw} {u : Value} (h : RoR w base v hs W) (hg : W.grownBy W' v.ownBlock) (hv : v'.ownBlock = v.ownBlock ∨ v'.ownBlock = some W.heap.size)
    (hu : SlOf (hideV v W) W.heap.size 3 VlC r u) (ho : W'.ownsRow base 23 1 v' (hs.length + 1) (hs.map Prod.snd ++ [u])) (hB : base ≤ W.heap.size) : RoR w base v' (hs ++ [(r, u)]) W' := by
  refine ⟨by simpa using ho, fun x hx => ?_, ?_⟩
  · rcases List.mem_append.1 hx with hx | hx
    · exact see_grown (h.see x hx) hg hv hg.size
    · rw [List.mem_singleton.1 hx]
      exact see_grown hu hg hv hg.size
  · exact h.b.grown hg hB (fun k hk => (h.own.lt k hk).1)
end Go.Proofs.Ytphmiifochjemaa
