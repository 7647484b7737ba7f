/- rel.Add: what stands while both lists are gone through. -/
import Derived.Test.YtphmiifochjemaaPek
import Derived.Test.YtphmiifochjemaaPad1
import Derived.Test.YtphmiifochjemaaPunA
namespace Go.Proofs.Ytphmiifochjemaa
open Go.RowKit

/-- The list of one row, in a block of its own. -/
def KA (w1 : World) (tb : Nat) (tv : Value) (W : World) : Prop := Below w1.heap.size w1 W ∧ W.heap[tb]? = some (.cells #[tv] 23 (0, 0))
theorem KA.st (w1 : World) (tb : Nat) (tv : Value) : StK w1.heap.size (KA w1 tb tv) :=
  ⟨fun _ h => h.1.size, fun _ _ h hb => ⟨h.1.trans (hb.mono h.1.size), (hb.block _ (heapLt h.2)).trans h.2⟩,
   fun W W' m cs h hg hm hc => ⟨h.1.grown hg h.1.size (fun k hk => by cases hk; exact hm), (hg.block _ (heapLt h.2) (fun e => by
     cases e
     rw [h.2] at hc
     cases hc)).trans h.2⟩⟩
theorem KA.tm {w1 W W' : World} {tb : Nat} {tv : Value} (h : KA w1 tb tv W) (ht : TmW w1.heap.size W W') : KA w1 tb tv W' := ⟨tm_below ht h.1 (Nat.le_refl _), tm_block ht h.2 (by decide)⟩
theorem KA.put {w1 W W' : World} {tb B : Nat} {tv : Value} (h : KA w1 tb tv W) (hp : Put B W W') (hB : w1.heap.size ≤ B) : KA w1 tb tv W' := ⟨put_bel hp h.1 hB, put_block hp h.2 (.inl rfl)⟩
theorem KA.one {w1 : World} {tb : Nat} {tv : Value} {t : Rw} (ht : SlOf w1 w1.heap.size 3 VlC t tv) (W : World) (h : KA w1 tb tv W) : HsS W W.heap.size [((t, tv) : Hd)] (.slice (some ⟨tb, 0, none⟩) 1 1) := by
  refine ⟨.inr ⟨⟨tb, 0, none⟩, 1, rfl, Nat.le_refl _, by decide, fun _ => heapLt h.2, fun i x hx => ⟨[tv], rfl, ?_, fun j c hj => ?_⟩⟩, fun x hx => ?_⟩
  · cases i with
    | zero => cases hx; rfl
    | succ i => simp at hx
  · cases i with
    | zero =>
      cases j with
      | zero => cases hj; exact (row_cell h.2 0).1
      | succ j => simp at hj
    | succ i => simp at hx
  · rw [List.mem_singleton.1 hx]
    exact VlS.past ht h.1
structure AdI (w1 : World) (V1 V2 : Value) (B1 B2 nb ni tb : Nat) (tv : Value) (rows : List Rw) (bn : Bool) (W : World) : Prop where
  g : PrK (KA w1 tb tv) V1 V2 22 22 B1 B2 W
  r : ∃ hs : List Hd, hs.map Prod.fst = rows ∧ RoB w1 nb hs W
  nt : ∃ v, W.heap[nb]? = some (.cells #[v] 22 (0, 0)) ∧ v.ownBlock ≠ some tb
  ni : W.heap[ni]? = some (.cells #[.bool bn] 4 (0, 0))
section
variable {w1 W W' : World} {V1 V2 tv : Value} {B1 B2 nb ni tb B : Nat} {rows : List Rw} {bn : Bool}
theorem AdI.put (h : AdI w1 V1 V2 B1 B2 nb ni tb tv rows bn W) (hp : Put B W W') (hB : w1.heap.size ≤ B) : AdI w1 V1 V2 B1 B2 nb ni tb tv rows bn W' := by
  obtain ⟨hs, h1, h2⟩ := h.r
  obtain ⟨v, h3, h4⟩ := h.nt
  exact ⟨⟨h.g.b.put hp hB, put_block hp h.g.one (.inl rfl), put_block hp h.g.two (.inl rfl)⟩, ⟨hs, h1, h2.put hp hB⟩, ⟨v, put_block hp h3 (.inl rfl), h4⟩, put_block hp h.ni (.inl rfl)⟩
theorem AdI.below (h : AdI w1 V1 V2 B1 B2 nb ni tb tv rows bn W) (hb : Below W.heap.size W W') : AdI w1 V1 V2 B1 B2 nb ni tb tv rows bn W' := by
  obtain ⟨hs, h1, h2⟩ := h.r
  obtain ⟨v, h3, h4⟩ := h.nt
  exact ⟨h.g.below (KA.st _ _ _) hb, ⟨hs, h1, h2.below hb⟩, ⟨v, (hb.block _ (heapLt h3)).trans h3, h4⟩, (hb.block _ (heapLt h.ni)).trans h.ni⟩
theorem AdI.tm (h : AdI w1 V1 V2 B1 B2 nb ni tb tv rows bn W) (ht : TmW w1.heap.size W W') : AdI w1 V1 V2 B1 B2 nb ni tb tv rows bn W' := by
  obtain ⟨hs, h1, h2⟩ := h.r
  obtain ⟨v, h3, h4⟩ := h.nt
  exact ⟨⟨h.g.b.tm ht, tm_block ht h.g.one (by decide), tm_block ht h.g.two (by decide)⟩, ⟨hs, h1, h2.tm ht (Nat.le_refl _)⟩, ⟨v, tm_block ht h3 (by decide), h4⟩, tm_block ht h.ni (by decide)⟩
/-- The bool is stored. -/
theorem AdI.set (h : AdI w1 V1 V2 B1 B2 nb ni tb tv rows bn W) (b : Bool) (hl : w1.heap.size ≤ ni) : AdI w1 V1 V2 B1 B2 nb ni tb tv rows b (W.setCell ⟨ni, 0, none⟩ (.bool b)) := by
  obtain ⟨hs, h1, h2⟩ := h.r
  obtain ⟨v, h3, h4⟩ := h.nt
  have hg := grown_set W ni 0 (.bool b)
  have hk : ∀ (k : Nat) (o : Obj), W.heap[k]? = some o → (∀ fr, o ≠ .cells #[.bool bn] 4 fr) → (W.setCell ⟨ni, 0, none⟩ (.bool b)).heap[k]? = some o := fun k o ho hne => (setOther (fun e => by
    subst e
    rw [h.ni] at ho
    cases ho
    exact hne _ rfl)).trans ho
  have hc : ∀ (k : Nat) (cs : Array Value) (T : TypeId), T ≠ 4 → W.heap[k]? = some (.cells cs T (0, 0)) → (W.setCell ⟨ni, 0, none⟩ (.bool b)).heap[k]? = some (.cells cs T (0, 0)) := fun k cs T hT ho => hk k _ ho (fun fr e => by
    injection e with _ e2 _
    exact hT e2)
  have hb : Below w1.heap.size w1 (W.setCell ⟨ni, 0, none⟩ (.bool b)) := h2.b.setCell hl _
  refine ⟨⟨⟨hb, hc _ _ _ (by decide) h.g.b.2⟩, hc _ _ _ (by decide) h.g.one, hc _ _ _ (by decide) h.g.two⟩, ⟨hs, h1, h2.keep (.grown hg fun g e => by cases e; exact ⟨_, _, _, h.ni, by decide⟩) (fun g cs hg' => hc _ _ _ (by decide) hg') (fun v hv => hc _ _ _ (by decide) hv) hb⟩, ⟨v, hc _ _ _ (by decide) h3, h4⟩, setRow h.ni⟩
end
theorem EbH.set {x : EbX} {W : World} {ni : Nat} {bn b : Bool} (h : EbH x W) (hn : W.heap[ni]? = some (.cells #[.bool bn] 4 (0, 0))) : EbH x (W.setCell ⟨ni, 0, none⟩ (.bool b)) :=
  ⟨(setOther (fun e => by have := h.at_; rw [e, hn] at this; cases this)).trans h.at_, (setOther (fun e => by have := h.in_; rw [e, hn] at this; cases this)).trans h.in_⟩
theorem EbH.keepT {x : EbX} {nb tb : Nat} {W W' : World} (h : EbH x W) (hk : KeepT nb tb W W') (h1 : x.m ≠ nb) (h2 : x.z ≠ nb) : EbH x W' := ⟨hk _ _ _ h.at_ (.inl (by decide)) h1, hk _ _ _ h.in_ (.inl (by decide)) h2⟩
def newA {α : Type} (l : List ((Bool × Bool) × α)) : Bool := l.any fun p => !p.1.1
theorem newA_snoc {α : Type} {l : List ((Bool × Bool) × α)} {n : Nat} {x : (Bool × Bool) × α} (h : l[n]? = some x) : newA (l.take (n + 1)) = (newA (l.take n) || !x.1.1) := by
  unfold newA
  rw [take_snoc h, List.any_append]
  simp
end Go.Proofs.Ytphmiifochjemaa
