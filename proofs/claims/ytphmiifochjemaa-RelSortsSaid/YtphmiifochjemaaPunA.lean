/- What Union, Minus and Add share. -/
import Derived.Test.YtphmiifochjemaaPun1
import Derived.Test.YtphmiifochjemaaAny
namespace Go.Proofs.Ytphmiifochjemaa
open Go.RowKit Go.Shelf

attribute [local go_sem] Oper.semAt_some

theorem both_fst : ∀ (A B : List Hd), (bothL hdC A B).map (fun p => (p.1, p.2.1)) = bothL rwC (A.map Prod.fst) (B.map Prod.fst) := by
  intro A B
  induction h : A.length + B.length using Nat.strongRecOn generalizing A B with
  | _ n ih =>
    cases A with
    | nil => rw [both_nil, List.map_nil, both_nil, List.map_map, List.map_map]; rfl
    | cons x A =>
      cases B with
      | nil => rw [both_nil', List.map_nil, both_nil', List.map_map, List.map_map]; rfl
      | cons y B =>
        simp only [List.length_cons] at h
        rcases Int.lt_trichotomy (rwC x.1 y.1) 0 with k | k | k
        · rw [both_lt (show hdC x y < 0 from k), List.map_cons, List.map_cons, List.map_cons, both_lt k, ih (A.length + (y :: B).length) (by simp only [List.length_cons]; omega) A (y :: B) rfl]
          rfl
        · rw [both_eq (show hdC x y = 0 from k), List.map_cons, List.map_cons, List.map_cons, both_eq k, ih (A.length + B.length) (by omega) A B rfl]
        · rw [both_gt (show 0 < hdC x y from k), List.map_cons, List.map_cons, List.map_cons, both_gt k, ih ((x :: A).length + B.length) (by simp only [List.length_cons]; omega) (x :: A) B rfl]
          rfl
theorem both_seen {a b : List Hd} {x : (Bool × Bool) × Hd} (h : x ∈ bothL hdC a b) : x.2 ∈ a ∨ x.2 ∈ b := by
  induction hn : a.length + b.length using Nat.strongRecOn generalizing a b with
  | _ n ih =>
    cases a with
    | nil =>
      rw [both_nil, List.mem_map] at h
      obtain ⟨y, hy, rfl⟩ := h
      exact .inr hy
    | cons p A =>
      cases b with
      | nil =>
        rw [both_nil', List.mem_map] at h
        obtain ⟨y, hy, rfl⟩ := h
        exact .inl hy
      | cons q B =>
        simp only [List.length_cons] at hn
        rcases Int.lt_trichotomy (hdC p q) 0 with k | k | k
        · rw [both_lt k] at h
          rcases List.mem_cons.1 h with rfl | h
          · exact .inl (List.mem_cons_self ..)
          · rcases ih (A.length + (q :: B).length) (by simp only [List.length_cons]; omega) h rfl with g | g
            · exact .inl (List.mem_cons_of_mem _ g)
            · exact .inr g
        · rw [both_eq k] at h
          rcases List.mem_cons.1 h with rfl | h
          · exact .inl (List.mem_cons_self ..)
          · rcases ih (A.length + B.length) (by omega) h rfl with g | g
            · exact .inl (List.mem_cons_of_mem _ g)
            · exact .inr (List.mem_cons_of_mem _ g)
        · rw [both_gt k] at h
          rcases List.mem_cons.1 h with rfl | h
          · exact .inr (List.mem_cons_self ..)
          · rcases ih ((p :: A).length + B.length) (by simp only [List.length_cons]; omega) h rfl with g | g
            · exact .inl g
            · exact .inr (List.mem_cons_of_mem _ g)
/-- What stands while both lists are gone through. -/
structure UnI (w w0 : World) (V1 V2 : Value) (B1 B2 nb : Nat) (rows : List Rw) (W : World) : Prop where
  g : PrG w0 V1 V2 22 22 B1 B2 W
  r : ∃ hs : List Hd, hs.map Prod.fst = rows ∧ RoB w nb hs W
section
variable {w w0 W W' : World} {V1 V2 : Value} {B1 B2 nb B : Nat} {rows : List Rw}
theorem UnI.put (h : UnI w w0 V1 V2 B1 B2 nb rows W) (hp : Put B W W') (hB : w0.heap.size ≤ B) (hw : w.heap.size ≤ w0.heap.size) : UnI w w0 V1 V2 B1 B2 nb rows W' := by
  obtain ⟨hs, h1, h2⟩ := h.r
  exact ⟨h.g.put hp hB, hs, h1, h2.put hp (by omega)⟩
theorem UnI.below (h : UnI w w0 V1 V2 B1 B2 nb rows W) (hb : Below W.heap.size W W') : UnI w w0 V1 V2 B1 B2 nb rows W' := by
  obtain ⟨hs, h1, h2⟩ := h.r
  exact ⟨h.g.below hb, hs, h1, h2.below hb⟩
theorem UnI.tm (h : UnI w w0 V1 V2 B1 B2 nb rows W) (ht : TmW w0.heap.size W W') (hw : w.heap.size ≤ w0.heap.size) : UnI w w0 V1 V2 B1 B2 nb rows W' := by
  obtain ⟨hs, h1, h2⟩ := h.r
  exact ⟨⟨tm_below ht h.g.b (Nat.le_refl _), tm_block ht h.g.one (by decide), tm_block ht h.g.two (by decide)⟩, hs, h1, h2.tm ht hw⟩
end
theorem RwsS.put2 {B : Nat} {W W' : World} {l : List Rw} {v : Value} (h : RwsS W W.heap.size l v) (hp : Put B W W') : RwsS W' W'.heap.size l v := by
  have hk : ∀ p c, W.cell? p = some c → W'.cell? p = some c := fun p c hc => put_cell hp hc
  have hz : W.heap.size ≤ W'.heap.size := by rw [put_sz hp]; omega
  exact SlOf.more (R := RwC W' W.heap.size) (by
    have := sl_cellsTo h hk (Nat.le_refl _)
    refine SlOf.more this (Nat.le_refl _) fun r _ cs ⟨v, e, hv⟩ => ⟨v, e, sl_cellsTo hv hk (Nat.le_refl _)⟩) hz fun r _ cs hr => hr.more hz
/-- The rows in the box, as a list. -/
theorem RoB.rows {w W : World} {nb : Nat} {hs : List Hd} {rows : List Rw} {v : Value} (h : RoB w nb hs W) (hh : hs.map Prod.fst = rows) (hv : W.heap[nb]? = some (.cells #[v] 22 (0, 0))) (ho : W.ownsRow w.heap.size 23 1 v hs.length (hs.map Prod.snd)) : RwsS W W.heap.size rows v := by
  subst hh
  have h1 : SlOf W W.heap.size 1 HdC hs v := sl_own0 ho ⟨by simp, fun i x hx => ⟨[x.2], rfl, rfl, fun j c hj => by
    have hj0 : j = 0 := by have := (List.getElem?_eq_some_iff.1 hj).1; simp at this; omega
    subst hj0
    rw [Nat.mul_one, Nat.add_zero, List.getElem?_map, hx]
    simpa using hj⟩⟩
  rcases h1 with ⟨rfl, rfl⟩ | ⟨a, cap, e1, e2, e3, e4, e5⟩
  · exact .inl ⟨rfl, rfl⟩
  · refine .inr ⟨a, cap, by rw [List.length_map]; exact e1, by rw [List.length_map]; exact e2, e3, fun hne => e4 (by rintro rfl; exact hne rfl), fun i r hr => ?_⟩
    rw [List.getElem?_map] at hr
    cases hx : hs[i]? with
    | none => rw [hx] at hr; cases hr
    | some x =>
      rw [hx] at hr
      cases hr
      obtain ⟨cs, c1, c2, c3⟩ := e5 i x hx
      exact ⟨cs, c1, ⟨x.2, c2, seeV_out (h.see x (List.mem_of_getElem? hx))⟩, c3⟩
theorem own_cells {W : World} {base e z n : Nat} {v : Value} {xs : List Value} (h : W.ownsRow base e z v n xs) : ∀ g, v.ownBlock = some g → ∃ cs : Array Value, W.heap[g]? = some (.cells cs e (0, 0)) := by
  intro g hg
  rcases h.2 with ⟨rfl, _⟩ | ⟨g', cap, cur, rfl, _, hr, _⟩
  · cases hg
  · cases hg
    exact ⟨_, hr⟩
/-- A list of one's own has grown: all else lies as it lay. -/
theorem grown_block {W W' : World} {base z n k : Nat} {v : Value} {xs : List Value} {cs : Array Value} {T : TypeId} (ho : W.ownsRow base 23 z v n xs) (hg : W.grownBy W' v.ownBlock) (hk : W.heap[k]? = some (.cells cs T (0, 0))) (hT : T ≠ 23) : W'.heap[k]? = some (.cells cs T (0, 0)) :=
  (hg.block k (heapLt hk) (fun e => by
    obtain ⟨cs', hc⟩ := own_cells ho k e.symm
    rw [hk] at hc
    cases hc
    exact hT rfl)).trans hk
theorem grown_keeps {W W' : World} {base z n : Nat} {v : Value} {xs : List Value} (ho : W.ownsRow base 23 z v n xs) (hg : W.grownBy W' v.ownBlock) (B : Nat) : KeepsFrom B W W' :=
  ⟨hg.size, fun k o _ hk hc => (hg.block k (heapLt hk) (fun e => by
    obtain ⟨cs', h⟩ := own_cells ho k e.symm
    rw [hk] at h
    cases h
    cases hc)).trans hk⟩
theorem set_keeps {W : World} {b : Nat} {v : Value} {cs : Array Value} {T : TypeId} (hb : W.heap[b]? = some (.cells cs T (0, 0))) (B : Nat) : KeepsFrom B W (W.setCell ⟨b, 0, none⟩ v) :=
  ⟨(grown_set W b 0 v).size, fun k o _ hk hc => (setOther (fun e => by
    subst e
    rw [hb] at hk
    cases hk
    cases hc)).trans hk⟩
theorem EbH.keepO {x : EbX} {nb : Nat} {W W' : World} (h : EbH x W) (hk : KeepO nb W W') (h1 : x.m ≠ nb) (h2 : x.z ≠ nb) : EbH x W' := ⟨hk _ _ _ h.at_ (by decide) h1, hk _ _ _ h.in_ (by decide) h2⟩
theorem EbH.below {x : EbX} {W W' : World} (h : EbH x W) (hb : Below W.heap.size W W') : EbH x W' := ⟨(hb.block _ (heapLt h.at_)).trans h.at_, (hb.block _ (heapLt h.in_)).trans h.in_⟩
theorem EbH.put {x : EbX} {B : Nat} {W W' : World} (h : EbH x W) (hp : Put B W W') : EbH x W' := ⟨put_block hp h.at_ (.inl rfl), put_block hp h.in_ (.inl rfl)⟩

end Go.Proofs.Ytphmiifochjemaa
