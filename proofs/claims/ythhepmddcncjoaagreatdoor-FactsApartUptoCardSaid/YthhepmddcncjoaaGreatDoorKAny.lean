/- A region that draws its order within a round of a loop over a function: as a plain one. A drawn region whose head only reads and whose tail, of one order, may end a round of a loop: in the widest fence. Slices in memory, element by element; lists held against each other. Comparisons that are total orders, lists of things that rise, sets of things as rising lists. Plain facts, no program here. A slice that a call owns, element by element; what a world that grew keeps. Appends of whole lists, nil or not. -/
import Derived.WalkKit
import Derived.RangeFuncNested
import Derived.Deep.RegionHeld3
import Derived.OrdersIn
import Derived.StillTailTactics
import Derived.Test.YthhepmddcncjoaaGreatDoorChecked
import Derived.WalkLawsBesides
import Derived.Below
import Derived.Lib.Hide
import Derived.Lib.Strings
import Derived.OneCell
import Derived.Laws.AppendOwn
import Derived.OwnWalk
import Derived.Deep.AppendLies
import Derived.Laws.OwnMore
set_option linter.unusedSimpArgs false
set_option linter.unusedVariables false
namespace Go.Proofs.YthhepmddcncjoaaGreatDoor
open Go.RowKit

def noDefer (ops : Array Oper) : Bool := ops.toList.all fun o => match o.op with | .defer _ => false | _ => true
theorem noDefer_spec {ops : Array Oper} (h : noDefer ops = true) {i : Nat} {o : Oper} (ho : ops[i]? = some o) (c : Call) : o.op ≠ .defer c := by
  intro e
  unfold noDefer at h
  rw [List.all_eq_true] at h
  have hm : o ∈ ops.toList := by
    obtain ⟨hi, rfl⟩ := Array.getElem?_eq_some_iff.1 ho
    simp
  have := h o hm
  rw [e] at this
  cases this
theorem upon_round {l n : Nat} {P : Program} {o : Oper} {a : Act} {K K' : Act → World → Prop} {Q : Exit → Act → World → Prop} (hK : ∀ a w, K a w → K' a w) {r : Result Next} (h : o.upon P a K Q r) : o.uponIn (Fence.wide.inRound l) n P a K' Q r := by
  cases r with
  | ok x w' =>
    cases x with
    | value v => exact hK _ _ h
    | skip => exact hK _ _ h
    | defer d => exact hK _ _ h
    | enter f args =>
      refine ⟨(fun h => by cases h), CallsIn.inRound l (callsIn_wide.2 (Calls.mono h ?_))⟩
      intro e w'' he
      cases e with
      | returned v => exact hK _ _ he
      | panicked c => exact he
      | outgrown => exact he
    | row row args =>
      refine ⟨(fun h => by cases h), ?_⟩
      have h : Rows P row args w' fun v w'' => K (a.put o.dst v) w'' := h
      intro c cs _
      obtain ⟨v, w'', r, s⟩ := h c cs
      exact ⟨v, w'', hK _ _ r, stepsIn_wide.2 s⟩
    | _ => exact h.elim
  | halt x w' =>
    cases x with
    | panic v => exact h
    | _ => exact h.elim
theorem any_round {l n : Nat} {P : Program} {md : Region.Mode} {ops : Array Oper} {Q : Exit → Act → World → Prop} (hd : noDefer ops = true) (hQ : ¬ LetsOut Q) : ∀ (fuel : Nat) (listed : Array Bool) (a : Act) (w : World), wpAny P md ops Q fuel listed a w → wpAnyIn (Fence.wide.inRound l) n P md ops Q fuel listed a w
  | 0, _, _, _, h => h
  | fuel + 1, listed, a, w, h => by
    refine ⟨h.1, fun i hi => ?_⟩
    have hi := h.2 i hi
    unfold wpOp at hi
    unfold wpOpIn
    cases ho : ops[i]? with
    | none =>
      rw [ho] at hi
      exact any_round hd hQ fuel _ _ _ hi
    | some o =>
      rw [ho] at hi
      simp only at hi ⊢
      split
      · next hw =>
        rw [if_pos hw] at hi
        rcases hi with hi | ⟨_, hl⟩
        · refine ⟨fun _ _ => trivial, ?_⟩
          rw [Oper.semAt_eq _ _ _ (noDefer_spec hd ho)]
          exact upon_round (fun a w h => any_round hd hQ fuel _ a w h) hi
        · exact absurd hl hQ
      · next hw =>
        rw [if_neg hw] at hi
        exact ⟨fun _ _ => trivial, any_round hd hQ fuel _ _ _ hi⟩
theorem region_round {l n id : Nat} {P : Program} {ops : Array Oper} {Q : Exit → Act → World → Prop} {S : World → Prop} {a : Act} {w : World} (hm : P.follows .mixedOrders = true) (hd : noDefer ops = true) (hQ : ¬ LetsOut Q)
    (h : wpAnyH P .any ops Q S ops.size (Array.replicate ops.size false) a w.drew) : (Code.region id ops true).wpIn (Fence.wide.inRound l) n P Q a w :=
  wpIn_region_any hm (any_round hd hQ _ _ _ _ (wpAny_of_held _ _ _ _ h))
theorem any_region {l n id : Nat} {P : Program} {ops : Array Oper} {Q : Exit → Act → World → Prop} {a : Act} {w : World} (hm : P.follows .mixedOrders = true) (hd : noDefer ops = true) (hQ : ¬ LetsOut Q)
    (h : wpAny P .any ops Q ops.size (Array.replicate ops.size false) a w.drew) : (Code.region id ops true).wpIn (Fence.wide.inRound l) n P Q a w :=
  wpIn_region_any hm (any_round hd hQ _ _ _ _ h)
end Go.Proofs.YthhepmddcncjoaaGreatDoor
namespace Go.Proofs.YthhepmddcncjoaaGreatDoor
open Go.RowKit

theorem upon_wide {n : Nat} {P : Program} {o : Oper} {a : Act} {K K' : Act → World → Prop} {Q : Exit → Act → World → Prop} (hK : ∀ a w, K a w → K' a w) {r : Result Next} (h : o.upon P a K Q r) : o.uponIn Fence.wide n P a K' Q r := by
  cases r with
  | ok x w' =>
    cases x with
    | value v => exact hK _ _ h
    | skip => exact hK _ _ h
    | defer d => exact hK _ _ h
    | enter f args =>
      refine ⟨(fun h => by cases h), callsIn_wide.2 (Calls.mono h ?_)⟩
      intro e w'' he
      cases e with
      | returned v => exact hK _ _ he
      | panicked c => exact he
      | outgrown => exact he
    | row row args =>
      refine ⟨(fun h => by cases h), ?_⟩
      have h : Rows P row args w' fun v w'' => K (a.put o.dst v) w'' := h
      intro c cs _
      obtain ⟨v, w'', r, s⟩ := h c cs
      exact ⟨v, w'', hK _ _ r, stepsIn_wide.2 s⟩
    | _ => exact h.elim
  | halt x w' =>
    cases x with
    | panic v => exact h
    | _ => exact h.elim
theorem stOp_wide {nF i : Nat} {P : Program} {ops : Array Oper} {a : Act} {w : World} {K : Act → Prop} {K' : Act → World → Prop} {Q : Exit → Act → World → Prop} (h : ∀ a, K a → K' a w) (hh : stOp P ops w i K a) : wpOpIn Fence.wide nF P ops Q i K' a w := by
  unfold stOp at hh
  unfold wpOpIn
  split
  · rename_i ho; simp only [ho] at hh; exact h _ hh
  · rename_i o ho
    simp only [ho] at hh
    split
    · rename_i hw
      simp only [hw, if_true] at hh
      refine ⟨fun _ _ => trivial, ?_⟩
      rw [show Fence.wide.round = none from rfl, Oper.semAt_none]
      have := Oper.wp_of_still (K' := K') (Q' := Q) h hh
      unfold Oper.wp at this
      exact upon_wide (fun _ _ h => h) this
    · rename_i hw
      simp only [hw] at hh
      exact ⟨fun _ _ => trivial, h _ hh⟩
theorem anyIn_of_head {nF n g : Nat} {P : Program} {ops : Array Oper} {md : Region.Mode} {w : World} {L : Array Bool → Act → Prop} {Q : Exit → Act → World → Prop} (hL : ∀ listed a, L listed a → wpAnyIn Fence.wide nF P md ops Q g listed a w) :
    ∀ (f : Nat) (listed : Array Bool) (a : Act), wpAnyL P md ops w n L f listed a → wpAnyIn Fence.wide nF P md ops Q (f + g) listed a w
  | 0, listed, a, h => by rw [Nat.zero_add]; exact hL _ _ h
  | f + 1, listed, a, h => by
    rw [show f + 1 + g = (f + g) + 1 by omega]
    exact ⟨fun h0 => absurd h0 h.1, fun i hi => stOp_wide (fun a' h' => anyIn_of_head hL f _ a' h') (h.2 i hi).2⟩
theorem anyIn_of_seq {F : Fence} {nF : Nat} {P : Program} {ops : Array Oper} {md : Region.Mode} {Q : Exit → Act → World → Prop} : ∀ (l : List Oper) (k : Nat) (listed : Array Bool) (a : Act) (w : World), (∀ j, l[j]? = ops[k + j]?) →
    Region.seqB md ops l.length k listed = true → wpListIn F nF P ops Q l a w → wpAnyIn F nF P md ops Q l.length listed a w
  | [], _, _, _, _, _, hB, h => ⟨by simpa [Region.seqB] using hB, h⟩
  | o :: l, k, listed, a, w, hl, hB, h => by
    have h0 : ops[k]? = some o := by simpa using (hl 0).symm
    simp only [List.length_cons, Region.seqB, Bool.and_eq_true, decide_eq_true_eq] at hB
    refine ⟨fun h1 => (by rw [hB.1] at h1; cases h1), fun i hi => ?_⟩
    rw [hB.1] at hi
    have hik : i = k := by simpa using hi
    subst hik
    have hw : wpOpIn F nF P ops Q i (wpListIn F nF P ops Q l) a w := by unfold wpOpIn; simp only [h0]; exact h
    exact wpOpIn_mono (fun a' w' h' => anyIn_of_seq l (i + 1) _ a' w' (fun j => by have := hl (j + 1); simpa [Nat.add_assoc, Nat.add_comm 1 j] using this) hB.2 h') hw
/-- The head only reads; the tail has one order. -/
theorem region_still_wide {m id : Nat} {P : Program} {Q : Exit → Act → World → Prop} {a : Act} {w : World} {l : List Oper} (n : Nat) (hm : P.follows .mixedOrders = true) (hB : Region.lexTailB .any l.toArray n = true)
    (h : wpStill P l.toArray w.drew (fun a' => wpListIn Fence.wide m P l.toArray Q (l.drop n) a' w.drew) (l.take n) a) : (Code.region id l.toArray true).wpIn Fence.wide m P Q a w := by
  simp only [Region.lexTailB, Bool.and_eq_true, decide_eq_true_eq] at hB
  obtain ⟨⟨⟨⟨hsel, hn⟩, hs⟩, hc⟩, hlex⟩ := hB
  have hn' : n < l.length := by simpa using hn
  have htl : (l.take n).length = n := by simp; omega
  have hdl : (l.drop n).length = l.toArray.size - n := by simp
  have inv0 : HeadInv .any l.toArray n (Array.replicate l.toArray.size false) :=
    ⟨by simp, fun j oj _ hl => (by rw [getD_replicate_false] at hl; cases hl), fun t _ ht => getD_in (by simpa using ht) (getD_replicate_false _ _)⟩
  have H := wpAnyL_lex (md := .any) (g := l.toArray.size - n) hsel hs hc hn (l.take n) 0 _ a (fun j hj => by
    have hj' : j < n := by rw [htl] at hj; exact hj
    simp [hj']) (by simpa using htl) inv0 (by rw [htl]; exact hlex) h
  refine wpIn_region_any hm ?_
  have := anyIn_of_head (nF := m) (Q := Q) (g := l.toArray.size - n) (fun listed a' hL => by
    have := anyIn_of_seq (F := Fence.wide) (nF := m) (md := .any) (Q := Q) (l.drop n) n listed a' w.drew (fun j => by simp [List.getElem?_drop]) (by rw [hdl]; exact hL.1) hL.2
    rwa [hdl] at this) _ _ _ H
  rw [htl, show n + (l.toArray.size - n) = l.toArray.size by omega] at this
  exact this
end Go.Proofs.YthhepmddcncjoaaGreatDoor
namespace Go.Proofs.YthhepmddcncjoaaGreatDoor
open Go.RowKit

/-- From address a on, o cells further, lie the cells cs. -/
def CellsAt (w : World) (a : Addr) (o : Nat) (cs : List Value) : Prop := ∀ j c, cs[j]? = some c → w.cell? (a.add (o + j)) = some c
def I64 (n : Int) : Prop := -9223372036854775808 ≤ n ∧ n ≤ 9223372036854775807

/-- A slice below block B whose elements, of z cells each, hold what R says. -/
def SlOf {α : Type} (w : World) (B z : Nat) (R : α → List Value → Prop) (l : List α) (v : Value) : Prop :=
  (v = .slice none 0 0 ∧ l = []) ∨ ∃ (a : Addr) (cap : Nat), v = .slice (some a) l.length cap ∧ l.length ≤ cap ∧ cap ≤ maxLen ∧ (l ≠ [] → a.block < B) ∧
    ∀ (i : Nat) (x : α), l[i]? = some x → ∃ cs, cs.length = z ∧ R x cs ∧ CellsAt w a (i * z) cs

theorem addBlock (a : Addr) (n : Nat) : (a.add n).block = a.block := by unfold Addr.add; split <;> rfl
theorem addNext (a : Addr) (i j : Nat) (hj : 0 < j) : a.add (i + j) = ⟨(a.add i).block, (a.add i).off + j, none⟩ := by
  unfold Addr.add
  by_cases hi : i = 0
  · subst hi
    rw [Nat.zero_add, if_neg (by omega), if_pos rfl]
  · rw [if_neg (by omega), if_neg hi]
    simp [Nat.add_assoc]
theorem CellsAt.below {w w' : World} {B : Nat} {a : Addr} {o : Nat} {cs : List Value} (h : CellsAt w a o cs) (hB : a.block < B) (hb : Below B w w') : CellsAt w' a o cs :=
  fun j c hc => (hb.cell (by rw [addBlock]; exact hB)).trans (h j c hc)
theorem SlOf.below {α : Type} {w w' : World} {B z : Nat} {R R' : α → List Value → Prop} {l : List α} {v : Value} (h : SlOf w B z R l v) (hb : Below B w w') (hR : ∀ x ∈ l, ∀ cs, R x cs → R' x cs) : SlOf w' B z R' l v := by
  rcases h with h | ⟨a, cap, h1, h2, h3, h4, h5⟩
  · exact .inl h
  · refine .inr ⟨a, cap, h1, h2, h3, h4, fun i x hx => ?_⟩
    obtain ⟨cs, hl, hr, hc⟩ := h5 i x hx
    exact ⟨cs, hl, hR x (List.mem_of_getElem? hx) cs hr, hc.below (h4 (by rintro rfl; simp at hx)) hb⟩
theorem SlOf.more {α : Type} {w : World} {B B' z : Nat} {R R' : α → List Value → Prop} {l : List α} {v : Value} (h : SlOf w B z R l v) (hB : B ≤ B') (hR : ∀ x ∈ l, ∀ cs, R x cs → R' x cs) : SlOf w B' z R' l v := by
  rcases h with h | ⟨a, cap, h1, h2, h3, h4, h5⟩
  · exact .inl h
  · refine .inr ⟨a, cap, h1, h2, h3, fun h => Nat.lt_of_lt_of_le (h4 h) hB, fun i x hx => ?_⟩
    obtain ⟨cs, hl, hr, hc⟩ := h5 i x hx
    exact ⟨cs, hl, hR x (List.mem_of_getElem? hx) cs hr, hc⟩
def StrC (s : ByteArray) (cs : List Value) : Prop := cs = [.string s] ∧ s.size ≤ maxLen
def IntC (n : Int) (cs : List Value) : Prop := cs = [.int .i64 n] ∧ I64 n
/-- A slice, nil or not, in one form. -/
theorem SlOf.uni {α : Type} {w : World} {B z : Nat} {R : α → List Value → Prop} {l : List α} {v : Value} (h : SlOf w B z R l v) : ∃ (o : Option Addr) (cap : Nat), v = .slice o l.length cap ∧ l.length ≤ cap ∧ cap ≤ maxLen ∧
    ∀ (i : Nat) (x : α), l[i]? = some x → ∃ (a : Addr) (cs : List Value), o = some a ∧ a.block < B ∧ cs.length = z ∧ R x cs ∧ CellsAt w a (i * z) cs := by
  rcases h with ⟨rfl, rfl⟩ | ⟨a, cap, h1, h2, h3, h4, h5⟩
  · exact ⟨none, 0, rfl, Nat.le_refl _, Nat.zero_le _, fun i x hx => by simp at hx⟩
  · refine ⟨some a, cap, h1, h2, h3, fun i x hx => ?_⟩
    obtain ⟨cs, hl, hr, hc⟩ := h5 i x hx
    exact ⟨a, cs, rfl, h4 (by rintro rfl; simp at hx), hl, hr, hc⟩
/-- What the walk reads of four cells. -/
theorem CellsAt.four {w : World} {a : Addr} {o : Nat} {c0 c1 c2 c3 : Value} (h : CellsAt w a o [c0, c1, c2, c3]) : w.cell? (a.add o) = some c0 ∧ w.cell? ⟨(a.add o).block, (a.add o).off + 1, none⟩ = some c1 ∧ w.cell? ⟨(a.add o).block, (a.add o).off + 2, none⟩ = some c2 ∧ w.cell? ⟨(a.add o).block, (a.add o).off + 3, none⟩ = some c3 := by
  rw [← addNext a o 1 (by omega), ← addNext a o 2 (by omega), ← addNext a o 3 (by omega)]
  exact ⟨h 0 _ rfl, h 1 _ rfl, h 2 _ rfl, h 3 _ rfl⟩

/-- What lies in a slice's place, of whatever kind; for the rounds of a walk. -/
def SlIn {α : Type} (w : World) (B z : Nat) (R : α → List Value → Prop) (l : List α) (o : Option Addr) : Prop :=
  ∀ (i : Nat) (x : α), l[i]? = some x → ∃ (a : Addr) (cs : List Value), o = some a ∧ a.block < B ∧ cs.length = z ∧ R x cs ∧ CellsAt w a (i * z) cs
theorem SlOf.open {α : Type} {w : World} {B z : Nat} {R : α → List Value → Prop} {l : List α} {v : Value} (h : SlOf w B z R l v) : ∃ (o : Option Addr) (cap : Nat), v = .slice o l.length cap ∧ l.length ≤ cap ∧ cap ≤ 9223372036854775807 ∧ Hid (SlIn w B z R l o) := by
  obtain ⟨o, cap, h1, h2, h3, h4⟩ := SlOf.uni h
  exact ⟨o, cap, h1, h2, by unfold maxLen at h3; omega, Lib.hid h4⟩
theorem CellsAt.n1 {w : World} {a : Addr} {o : Nat} {c0 : Value} (h : CellsAt w a o [c0]) : w.cell? (a.add o) = some c0 := by
  exact h 0 _ rfl
theorem CellsAt.n2 {w : World} {a : Addr} {o : Nat} {c0 c1 : Value} (h : CellsAt w a o [c0, c1]) : w.cell? (a.add o) = some c0 ∧ w.cell? ⟨(a.add o).block, (a.add o).off + 1, none⟩ = some c1 := by
  rw [← addNext a o 1 (by omega)]
  exact ⟨h 0 _ rfl, h 1 _ rfl⟩
theorem SlOf.str {w w' : World} {B B' : Nat} {l : List ByteArray} {v : Value} (h : SlOf w B 1 StrC l v) (hb : Below B w w') (hB : B ≤ B') : SlOf w' B' 1 StrC l v := SlOf.more (SlOf.below h hb fun _ _ _ h => h) hB fun _ _ _ h => h
theorem SlOf.int {w w' : World} {B B' : Nat} {l : List Int} {v : Value} (h : SlOf w B 1 IntC l v) (hb : Below B w w') (hB : B ≤ B') : SlOf w' B' 1 IntC l v := SlOf.more (SlOf.below h hb fun _ _ _ h => h) hB fun _ _ _ h => h
theorem str_at {w wr : World} {l : List ByteArray} {o : Option Addr} {k : Nat} {t : ByteArray} (S : Hid (SlIn w w.heap.size 1 StrC l o)) (hB : Below w.heap.size w wr) (ht : l[k]? = some t) :
    ∃ a, o = some a ∧ a.block < w.heap.size ∧ t.size ≤ maxLen ∧ wr.cell? (a.add k) = some (.string t) := by
  obtain ⟨a, cs, rfl, ha, _, ⟨rfl, hz⟩, h2⟩ := S.out k t ht
  have := (h2.below ha hB).n1
  rw [Nat.mul_one] at this
  exact ⟨a, rfl, ha, hz, this⟩
theorem int_at {w wr : World} {l : List Int} {o : Option Addr} {k : Nat} {t : Int} (S : Hid (SlIn w w.heap.size 1 IntC l o)) (hB : Below w.heap.size w wr) (ht : l[k]? = some t) :
    ∃ a, o = some a ∧ a.block < w.heap.size ∧ I64 t ∧ wr.cell? (a.add k) = some (.int .i64 t) := by
  obtain ⟨a, cs, rfl, ha, _, ⟨rfl, hz⟩, h2⟩ := S.out k t ht
  have := (h2.below ha hB).n1
  rw [Nat.mul_one] at this
  exact ⟨a, rfl, ha, hz, this⟩
def allS {α : Type} (f : α → α → Bool) : List α → List α → Bool
  | [], [] => true
  | t :: ts, u :: us => f t u && allS f ts us
  | _, _ => false
theorem allS_len {α : Type} {f : α → α → Bool} : ∀ {l m : List α}, l.length ≠ m.length → allS f l m = false
  | [], [], h => absurd rfl h
  | [], _ :: _, _ => rfl
  | _ :: _, [], _ => rfl
  | t :: l, u :: m, h => by
    unfold allS
    rw [allS_len (l := l) (m := m) (by simpa using h), Bool.and_false]
theorem allS_drop {α : Type} {f : α → α → Bool} {l m : List α} {k : Nat} {t u : α} (ht : l[k]? = some t) (hu : m[k]? = some u) : allS f (l.drop k) (m.drop k) = (f t u && allS f (l.drop (k + 1)) (m.drop (k + 1))) := by
  have h1 : l.drop k = t :: l.drop (k + 1) := by rw [List.drop_eq_getElem_cons (List.getElem?_eq_some_iff.1 ht).1, (List.getElem?_eq_some_iff.1 ht).2]
  have h2 : m.drop k = u :: m.drop (k + 1) := by rw [List.drop_eq_getElem_cons (List.getElem?_eq_some_iff.1 hu).1, (List.getElem?_eq_some_iff.1 hu).2]
  rw [h1, h2]
  rfl
theorem allS_end {α : Type} {f : α → α → Bool} {l m : List α} {k : Nat} (hl : l.length ≤ k) (hm : m.length ≤ k) : allS f (l.drop k) (m.drop k) = true := by
  rw [List.drop_of_length_le hl, List.drop_of_length_le hm]; rfl

end Go.Proofs.YthhepmddcncjoaaGreatDoor
namespace Go.Proofs.YthhepmddcncjoaaGreatDoor

/-- A comparison: -1, 0, 1; turned round it is the opposite; it goes over a third one. -/
structure TotC {α : Type} (c : α → α → Int) : Prop where
  range : ∀ a b, c a b = -1 ∨ c a b = 0 ∨ c a b = 1
  anti : ∀ a b, c b a = - c a b
  trans : ∀ a b d, c a b ≤ 0 → c b d ≤ 0 → c a d ≤ 0
section
variable {α : Type} {c : α → α → Int}
theorem TotC.refl (h : TotC c) (a : α) : c a a = 0 := by have := h.anti a a; omega
theorem TotC.lt_le (h : TotC c) {a b d : α} (h1 : c a b < 0) (h2 : c b d ≤ 0) : c a d < 0 := by
  have h3 := h.trans a b d (by omega) h2
  have h4 := h.anti a d
  have h5 := h.anti a b
  rcases Int.lt_or_le (c a d) 0 with h6 | h6
  · exact h6
  · have := h.trans b d a h2 (by omega)
    omega
theorem TotC.le_lt (h : TotC c) {a b d : α} (h1 : c a b ≤ 0) (h2 : c b d < 0) : c a d < 0 := by
  have h3 := h.trans a b d h1 (by omega)
  have h4 := h.anti a d
  have h5 := h.anti b d
  rcases Int.lt_or_le (c a d) 0 with h6 | h6
  · exact h6
  · have := h.trans d a b (by omega) h1
    omega
theorem TotC.eq_eq (h : TotC c) {a b d : α} (h1 : c a b = 0) (h2 : c b d = 0) : c a d = 0 := by
  have h3 := h.trans a b d (by omega) (by omega)
  have h4 := h.anti a b
  have h5 := h.anti b d
  have h6 := h.trans d b a (by omega) (by omega)
  have h7 := h.anti a d
  omega
theorem TotC.congr (h : TotC c) {a b d : α} (h1 : c a b = 0) : c a d = c b d := by
  have ha := h.anti a b
  rcases h.range b d with h2 | h2 | h2
  · have := h.le_lt (a := a) (b := b) (d := d) (by omega) (by omega)
    have := h.range a d
    omega
  · rw [h2]; exact h.eq_eq h1 h2
  · have h3 := h.anti b d
    have h4 := h.lt_le (a := d) (b := b) (d := a) (by omega) (by omega)
    have h5 := h.anti a d
    have := h.range a d
    omega

/-! ### Lists, place by place -/
def lexC (c : α → α → Int) : List α → List α → Int
  | [], [] => 0
  | [], _ :: _ => -1
  | _ :: _, [] => 1
  | a :: x, b :: y => if c a b = 0 then lexC c x y else c a b
theorem TotC.lex (h : TotC c) : TotC (lexC c) := by
  refine ⟨?_, ?_, ?_⟩
  · intro a
    induction a with
    | nil => intro b; cases b <;> simp [lexC]
    | cons a x ih =>
      intro b
      cases b with
      | nil => simp [lexC]
      | cons b y =>
        unfold lexC
        split
        · exact ih y
        · exact h.range a b
  · intro a
    induction a with
    | nil => intro b; cases b <;> simp [lexC]
    | cons a x ih =>
      intro b
      cases b with
      | nil => simp [lexC]
      | cons b y =>
        have hab := h.anti a b
        unfold lexC
        by_cases h0 : c a b = 0
        · rw [if_pos h0, if_pos (by omega)]; exact ih y
        · rw [if_neg h0, if_neg (by omega)]; exact hab
  · intro a
    induction a with
    | nil =>
      intro b d _ _
      cases d <;> simp [lexC]
    | cons a x ih =>
      intro b d
      cases b with
      | nil => intro h1; simp [lexC] at h1
      | cons b y =>
        cases d with
        | nil => intro _ h2; simp [lexC] at h2
        | cons d z =>
          unfold lexC
          intro h1 h2
          by_cases hab : c a b = 0
          · rw [if_pos hab] at h1
            rw [h.congr hab]
            by_cases hbd : c b d = 0
            · rw [if_pos hbd] at h2 ⊢
              exact ih y z h1 h2
            · rw [if_neg hbd] at h2 ⊢
              exact h2
          · rw [if_neg hab] at h1
            have h3 : c b d ≤ 0 := by
              by_cases hbd : c b d = 0
              · omega
              · rw [if_neg hbd] at h2; exact h2
            have h4 := h.lt_le (a := a) (b := b) (d := d) (by omega) h3
            rw [if_neg (by omega)]
            omega

/-! ### Rising lists -/
def riseL (c : α → α → Int) : List α → Bool
  | [] => true
  | [_] => true
  | a :: b :: l => decide (c a b < 0) && riseL c (b :: l)
theorem rise_tail {a : α} {l : List α} (h : riseL c (a :: l) = true) : riseL c l = true := by
  cases l with
  | nil => rfl
  | cons b l => unfold riseL at h; rw [Bool.and_eq_true] at h; exact h.2
theorem rise_all (hc : TotC c) : ∀ {l : List α} {a : α}, riseL c (a :: l) = true → ∀ x ∈ l, c a x < 0
  | [], _, _, x, hx => by simp at hx
  | b :: l, a, h, x, hx => by
    unfold riseL at h
    rw [Bool.and_eq_true, decide_eq_true_eq] at h
    rcases List.mem_cons.1 hx with rfl | hx
    · exact h.1
    · exact hc.lt_le h.1 (by have := rise_all hc h.2 x hx; omega)
theorem rise_cons {l : List α} {a : α} (h1 : ∀ x ∈ l, c a x < 0) (h2 : riseL c l = true) : riseL c (a :: l) = true := by
  cases l with
  | nil => rfl
  | cons b l => unfold riseL; rw [Bool.and_eq_true, decide_eq_true_eq]; exact ⟨h1 b (by simp), h2⟩
/-- Two rising lists of the same things are one. -/
theorem rise_ext (hc : TotC c) : ∀ {l m : List α}, riseL c l = true → riseL c m = true → (∀ x, x ∈ l ↔ x ∈ m) → l = m
  | [], [], _, _, _ => rfl
  | [], b :: m, _, _, h => by have := (h b).2 (by simp); simp at this
  | a :: l, [], _, _, h => by have := (h a).1 (by simp); simp at this
  | a :: l, b :: m, hl, hm, h => by
    have e : a = b := by
      have h1 := (h a).1 (by simp)
      have h2 := (h b).2 (by simp)
      rcases List.mem_cons.1 h1 with h1 | h1
      · exact h1
      · rcases List.mem_cons.1 h2 with h2 | h2
        · exact h2.symm
        · have h3 := rise_all hc hm a h1
          have h4 := rise_all hc hl b h2
          have h5 := hc.anti a b
          omega
    subst e
    have : l = m := rise_ext hc (rise_tail hl) (rise_tail hm) (fun x => by
      constructor
      · intro hx
        rcases List.mem_cons.1 ((h x).1 (List.mem_cons_of_mem _ hx)) with h1 | h1
        · subst h1
          have := rise_all hc hl x hx
          rw [hc.refl] at this
          omega
        · exact h1
      · intro hx
        rcases List.mem_cons.1 ((h x).2 (List.mem_cons_of_mem _ hx)) with h1 | h1
        · subst h1
          have := rise_all hc hm x hx
          rw [hc.refl] at this
          omega
        · exact h1)
    rw [this]

/-! ### A thing put among rising ones -/
def putL (c : α → α → Int) : List α → α → List α
  | [], t => [t]
  | a :: l, t => if c a t < 0 then a :: putL c l t else if c a t = 0 then a :: l else t :: a :: l
def newL (c : α → α → Int) : List α → α → Bool
  | [], _ => true
  | a :: l, t => if c a t < 0 then newL c l t else if c a t = 0 then false else true
def inL (c : α → α → Int) (l : List α) (t : α) : Bool := l.any fun x => decide (c x t = 0)
/-- Where nothing but the same compares as the same. -/
def Apart (c : α → α → Int) (l : List α) : Prop := ∀ x ∈ l, ∀ y ∈ l, c x y = 0 → x = y
theorem put_mem (hc : TotC c) {t : α} : ∀ {l : List α}, (∀ x ∈ l, c x t = 0 → x = t) → ∀ x, x ∈ putL c l t ↔ x ∈ l ∨ x = t
  | [], _, x => by simp [putL]
  | a :: l, h, x => by
    unfold putL
    split
    · rw [List.mem_cons, put_mem hc (fun y hy => h y (List.mem_cons_of_mem _ hy)) x, List.mem_cons]
      constructor
      · rintro (h1 | h1 | h1)
        · exact .inl (.inl h1)
        · exact .inl (.inr h1)
        · exact .inr h1
      · rintro ((h1 | h1) | h1)
        · exact .inl h1
        · exact .inr (.inl h1)
        · exact .inr (.inr h1)
    · split
      · rename_i h0
        have e := h a (by simp) h0
        subst e
        constructor
        · exact .inl
        · rintro (h1 | h1)
          · exact h1
          · rw [h1]; simp
      · simp only [List.mem_cons]
        constructor
        · rintro (h1 | h1)
          · exact .inr h1
          · exact .inl h1
        · rintro (h1 | h1)
          · exact .inr h1
          · exact .inl h1
theorem put_lo (hc : TotC c) {a t : α} : ∀ {l : List α}, (∀ x ∈ l, c a x < 0) → c a t < 0 → ∀ x ∈ putL c l t, c a x < 0
  | [], _, h2, x, hx => by simp [putL] at hx; rw [hx]; exact h2
  | b :: l, h1, h2, x, hx => by
    unfold putL at hx
    split at hx
    · rcases List.mem_cons.1 hx with rfl | hx
      · exact h1 x (by simp)
      · exact put_lo hc (fun y hy => h1 y (List.mem_cons_of_mem _ hy)) h2 x hx
    · split at hx
      · exact h1 x hx
      · rcases List.mem_cons.1 hx with rfl | hx
        · exact h2
        · exact h1 x hx
theorem put_rise (hc : TotC c) {t : α} : ∀ {l : List α}, riseL c l = true → riseL c (putL c l t) = true
  | [], _ => rfl
  | a :: l, h => by
    unfold putL
    split
    · rename_i h0
      exact rise_cons (put_lo hc (rise_all hc h) h0) (put_rise hc (rise_tail h))
    · split
      · exact h
      · rename_i h0 h1
        have h2 : c t a < 0 := by have := hc.anti a t; have := hc.range a t; omega
        exact rise_cons (fun x hx => by
          rcases List.mem_cons.1 hx with rfl | hx
          · exact h2
          · exact hc.lt_le h2 (by have := rise_all hc h x hx; omega)) h
theorem put_len : ∀ (l : List α) (t : α), (putL c l t).length = l.length + (if newL c l t = true then 1 else 0)
  | [], t => rfl
  | a :: l, t => by
    unfold putL newL
    split
    · rw [List.length_cons, put_len l t, List.length_cons]; omega
    · split
      · simp
      · simp
theorem new_in (hc : TotC c) {t : α} : ∀ {l : List α}, riseL c l = true → newL c l t = !inL c l t
  | [], _ => rfl
  | a :: l, h => by
    unfold newL
    have ih := new_in hc (t := t) (rise_tail h)
    have e : inL c (a :: l) t = (decide (c a t = 0) || inL c l t) := rfl
    split
    · rw [ih, e, decide_eq_false (by omega)]; rfl
    · split
      · rename_i h0
        rw [e, decide_eq_true h0]; rfl
      · rename_i h0 h1
        have : inL c l t = false := by
          unfold inL
          rw [List.any_eq_false]
          intro x hx
          have h2 : c t a < 0 := by have := hc.anti a t; have := hc.range a t; omega
          have h3 := hc.lt_le h2 (show c a x ≤ 0 by have := rise_all hc h x hx; omega)
          have := hc.anti t x
          simp only [decide_eq_true_eq]
          omega
        rw [e, decide_eq_false h1, this]; rfl
def sortL (c : α → α → Int) (l : List α) : List α := l.foldl (putL c) []
def unionL (c : α → α → Int) (a b : List α) : List α := b.foldl (putL c) a
def minusL (c : α → α → Int) (a b : List α) : List α := a.filter fun x => !inL c b x
theorem fold_rise (hc : TotC c) : ∀ (b a : List α), riseL c a = true → riseL c (b.foldl (putL c) a) = true
  | [], _, h => h
  | t :: b, a, h => fold_rise hc b (putL c a t) (put_rise hc h)
theorem sort_rise (hc : TotC c) (l : List α) : riseL c (sortL c l) = true := fold_rise hc l [] rfl
theorem union_rise (hc : TotC c) {a : List α} (b : List α) (h : riseL c a = true) : riseL c (unionL c a b) = true := fold_rise hc b a h
/-- Things of a kind P, of which none but the same compare as the same. -/
theorem fold_mem (hc : TotC c) {P : α → Prop} (hP : ∀ x y, P x → P y → c x y = 0 → x = y) : ∀ (b a : List α), (∀ x ∈ a, P x) → (∀ x ∈ b, P x) → (∀ x, x ∈ b.foldl (putL c) a ↔ x ∈ a ∨ x ∈ b) ∧ ∀ x ∈ b.foldl (putL c) a, P x
  | [], a, ha, _ => by simpa using ha
  | t :: b, a, ha, hb => by
    have ht := hb t (by simp)
    have hm := put_mem hc (t := t) (l := a) (fun x hx h0 => hP x t (ha x hx) ht h0)
    have ha' : ∀ x ∈ putL c a t, P x := fun x hx => by
      rcases (hm x).1 hx with h1 | h1
      · exact ha x h1
      · rw [h1]; exact ht
    obtain ⟨h1, h2⟩ := fold_mem hc hP b (putL c a t) ha' (fun x hx => hb x (List.mem_cons_of_mem _ hx))
    refine ⟨fun x => ?_, h2⟩
    rw [List.foldl_cons, h1 x, hm x, List.mem_cons]
    constructor
    · rintro ((h3 | h3) | h3)
      · exact .inl h3
      · exact .inr (.inl h3)
      · exact .inr (.inr h3)
    · rintro (h3 | h3 | h3)
      · exact .inl (.inl h3)
      · exact .inl (.inr h3)
      · exact .inr h3
theorem sort_mem (hc : TotC c) {P : α → Prop} (hP : ∀ x y, P x → P y → c x y = 0 → x = y) {l : List α} (hl : ∀ x ∈ l, P x) (x : α) : x ∈ sortL c l ↔ x ∈ l := by
  have := (fold_mem hc hP l [] (by simp) hl).1 x
  unfold sortL
  simpa using this
theorem union_mem (hc : TotC c) {P : α → Prop} (hP : ∀ x y, P x → P y → c x y = 0 → x = y) {a b : List α} (ha : ∀ x ∈ a, P x) (hb : ∀ x ∈ b, P x) (x : α) : x ∈ unionL c a b ↔ x ∈ a ∨ x ∈ b := (fold_mem hc hP b a ha hb).1 x
theorem in_mem (hc : TotC c) {P : α → Prop} (hP : ∀ x y, P x → P y → c x y = 0 → x = y) {l : List α} (hl : ∀ x ∈ l, P x) {t : α} (ht : P t) : inL c l t = true ↔ t ∈ l := by
  unfold inL
  rw [List.any_eq_true]
  constructor
  · rintro ⟨x, hx, h⟩
    rw [← hP x t (hl x hx) ht (by simpa using h)]
    exact hx
  · intro h
    exact ⟨t, h, by simp [hc.refl]⟩
theorem rise_filter (hc : TotC c) (f : α → Bool) : ∀ {l : List α}, riseL c l = true → riseL c (l.filter f) = true
  | [], _ => rfl
  | a :: l, h => by
    have ih := rise_filter hc f (rise_tail h)
    rw [List.filter_cons]
    split
    · exact rise_cons (fun x hx => rise_all hc h x (List.mem_filter.1 hx).1) ih
    · exact ih
theorem sort_same (hc : TotC c) {P : α → Prop} (hP : ∀ x y, P x → P y → c x y = 0 → x = y) {l : List α} (hl : ∀ x ∈ l, P x) (h : riseL c l = true) : sortL c l = l :=
  rise_ext hc (sort_rise hc l) h (sort_mem hc hP hl)
theorem union_comm (hc : TotC c) {P : α → Prop} (hP : ∀ x y, P x → P y → c x y = 0 → x = y) {a b : List α} (ha : ∀ x ∈ a, P x) (hb : ∀ x ∈ b, P x) (ra : riseL c a = true) (rb : riseL c b = true) : unionL c a b = unionL c b a :=
  rise_ext hc (union_rise hc b ra) (union_rise hc a rb) (fun x => by rw [union_mem hc hP ha hb, union_mem hc hP hb ha]; exact Or.comm)
theorem minus_mem (hc : TotC c) {P : α → Prop} (hP : ∀ x y, P x → P y → c x y = 0 → x = y) {a b : List α} (ha : ∀ x ∈ a, P x) (hb : ∀ x ∈ b, P x) (x : α) : x ∈ minusL c a b ↔ x ∈ a ∧ x ∉ b := by
  unfold minusL
  rw [List.mem_filter]
  constructor
  · rintro ⟨h1, h2⟩
    refine ⟨h1, fun h3 => ?_⟩
    rw [(in_mem hc hP hb (ha x h1)).2 h3] at h2
    simp at h2
  · rintro ⟨h1, h2⟩
    refine ⟨h1, ?_⟩
    cases h3 : inL c b x with
    | false => rfl
    | true => exact absurd ((in_mem hc hP hb (ha x h1)).1 h3) h2
theorem union_minus (hc : TotC c) {P : α → Prop} (hP : ∀ x y, P x → P y → c x y = 0 → x = y) {a b : List α} (ha : ∀ x ∈ a, P x) (hb : ∀ x ∈ b, P x) (ra : riseL c a = true) (_ : riseL c b = true) : unionL c (minusL c a b) b = unionL c a b := by
  have hz : ∀ x ∈ minusL c a b, P x := fun x hx => ha x (List.mem_filter.1 hx).1
  refine rise_ext hc (union_rise hc b (rise_filter hc _ ra)) (union_rise hc b ra) (fun x => ?_)
  rw [union_mem hc hP hz hb, union_mem hc hP ha hb, minus_mem hc hP ha hb]
  by_cases h : x ∈ b
  · simp [h]
  · simp [h]
theorem fold_len (hc : TotC c) {P : α → Prop} (hP : ∀ x y, P x → P y → c x y = 0 → x = y) {a0 : List α} (ha0 : ∀ x ∈ a0, P x) : ∀ (b a : List α), (∀ x ∈ a, P x) → (∀ x ∈ b, P x) → riseL c a = true → riseL c b = true → (∀ x, x ∈ a → x ∈ a0 ∨ ∀ y ∈ b, c x y < 0) → (∀ x ∈ a0, x ∈ a) →
    (b.foldl (putL c) a).length = a.length + (minusL c b a0).length
  | [], a, _, _, _, _, _, _ => by simp [minusL]
  | t :: b, a, ha, hb, ra, rb, h1, h2 => by
    have ht := hb t (by simp)
    have hb' : ∀ x ∈ b, P x := fun x hx => hb x (List.mem_cons_of_mem _ hx)
    have hm := put_mem hc (t := t) (l := a) (fun x hx h0 => hP x t (ha x hx) ht h0)
    have ha' : ∀ x ∈ putL c a t, P x := fun x hx => by
      rcases (hm x).1 hx with h3 | h3
      · exact ha x h3
      · rw [h3]; exact ht
    have ih := fold_len hc hP ha0 b (putL c a t) ha' hb' (put_rise hc ra) (rise_tail rb) (fun x hx => by
      rcases (hm x).1 hx with h3 | h3
      · rcases h1 x h3 with h4 | h4
        · exact .inl h4
        · exact .inr fun y hy => h4 y (List.mem_cons_of_mem _ hy)
      · rw [h3]; exact .inr (rise_all hc rb)) (fun x hx => (hm x).2 (.inl (h2 x hx)))
    have e : inL c a t = inL c a0 t := by
      rw [Bool.eq_iff_iff, in_mem hc hP ha ht, in_mem hc hP ha0 ht]
      refine ⟨fun h => ?_, h2 t⟩
      rcases h1 t h with h3 | h3
      · exact h3
      · have := h3 t (by simp)
        rw [hc.refl] at this
        omega
    rw [List.foldl_cons, ih, put_len, new_in hc ra, e]
    unfold minusL
    rw [List.filter_cons]
    cases inL c a0 t <;> simp <;> omega
/-- As many as the one's, and the other one's that are not there. -/
theorem union_len (hc : TotC c) {P : α → Prop} (hP : ∀ x y, P x → P y → c x y = 0 → x = y) {a b : List α} (ha : ∀ x ∈ a, P x) (hb : ∀ x ∈ b, P x) (ra : riseL c a = true) (rb : riseL c b = true) : (unionL c a b).length = a.length + (minusL c b a).length :=
  fold_len hc hP ha b a ha hb ra rb (fun _ hx => .inl hx) (fun _ hx => hx)
end
end Go.Proofs.YthhepmddcncjoaaGreatDoor
namespace Go.Proofs.YthhepmddcncjoaaGreatDoor
open Go.RowKit

theorem grown_set (w : World) (b i : Nat) (u : Value) : w.grownBy (w.setCell ⟨b, i, none⟩ u) (some b) :=
  ⟨rfl, rfl, rfl, by simp [World.setCell], fun k _ hk => Below.heap_setCell w ⟨b, i, none⟩ u k (fun e => hk (by rw [e]))⟩
theorem grown_below {w w' : World} (h : Below w.heap.size w w') (row : Option Nat) : w.grownBy w' row := ⟨h.os, h.tape, h.output, h.size, fun k hk _ => h.block k hk⟩
theorem grown_then {a b c : World} {row row' : Option Nat} (h : a.grownBy b row) (k : b.grownBy c row') (hr : ∀ j, row' = some j → a.heap.size ≤ j ∨ row = some j) : a.grownBy c row :=
  ⟨k.os.trans h.os, k.tape.trans h.tape, k.output.trans h.output, Nat.le_trans h.size k.size, fun i hi hne =>
    (k.block i (Nat.lt_of_lt_of_le hi h.size) (fun e => by
      rcases hr i e.symm with h1 | h1
      · omega
      · exact hne h1.symm)).trans (h.block i hi hne)⟩
theorem grown_refl (w : World) (row : Option Nat) : w.grownBy w row := ⟨rfl, rfl, rfl, Nat.le_refl _, fun _ _ _ => rfl⟩
/-- A block of cells behind a store. -/
theorem set_heap {w : World} {b i : Nat} {cs : Array Value} {T : TypeId} {fr : Nat × Nat} (hb : w.heap[b]? = some (.cells cs T fr)) (v : Value) : (w.setCell ⟨b, i, none⟩ v).heap[b]? = some (.cells (cs.setIfInBounds i v) T fr) := by
  simp [World.setCell, Array.getElem?_modify, hb]
theorem row_cell {w : World} {k : Nat} {cs : Array Value} {t : TypeId} (h : w.heap[k]? = some (.cells cs t (0, 0))) (i : Nat) : w.cell? ⟨k, i, none⟩ = cs[i]? ∧ w.frozen? ⟨k, i, none⟩ = false := by
  simp [World.cell?, World.frozen?, h]
theorem own_past {W W' : World} {B e size n : Nat} {v : Value} {xs : List Value} (h : W.ownsRow B e size v n xs) (b : Below W.heap.size W W') : W'.ownsRow B e size v n xs :=
  h.kept (row := none) (grown_below b none) (by cases v.ownBlock <;> simp)
theorem own_form {w : World} {base e size n : Nat} {v : Value} {xs : List Value} (h : w.ownsRow base e size v n xs) (hn : 0 < n) : ∃ g cap, v = .slice (some ⟨g, 0, none⟩) n cap ∧ base ≤ g := by
  rcases h.2 with ⟨_, h0⟩ | ⟨g, cap, cur, hv, hb, _⟩
  · omega
  · exact ⟨g, cap, hv, hb⟩
/-- What has just been made holds its cells. -/
theorem news_new (W : World) (cs : List Value) (T : TypeId) (m : Nat) (hm : W.heap.size = m) : ∀ j u, cs[j]? = some u → (W.alloc (.cells cs.toArray T)).cell? ((⟨m, 0, none⟩ : Addr).add j) = some u := by
  subst hm
  intro j u hu
  have hadd : (⟨W.heap.size, 0, none⟩ : Addr).add j = ⟨W.heap.size, j, none⟩ := by unfold Addr.add; split <;> simp_all
  rw [hadd, (row_cell (heap_alloc_new W _) j).1]
  simpa using hu

/-! ### Owned, element by element -/
def Owned {α : Type} (W : World) (base : Nat) (T : TypeId) (z : Nat) (R : α → List Value → Prop) (v : Value) (l : List α) : Prop :=
  ∃ css : List (List Value), css.length = l.length ∧ (∀ (i : Nat) (x : α), l[i]? = some x → ∃ cs, css[i]? = some cs ∧ cs.length = z ∧ R x cs) ∧ W.ownsRow base T z v l.length css.flatten
section
variable {α : Type} {W W' : World} {base : Nat} {T : TypeId} {z : Nat} {R : α → List Value → Prop} {v v' : Value} {l : List α}
theorem Owned.nil (W : World) (base : Nat) (T : TypeId) (z : Nat) (R : α → List Value → Prop) : Owned W base T z R (.slice none 0 0) ([] : List α) :=
  ⟨[], rfl, fun i x hx => by simp at hx, World.ownsRow_nil _ _ _ _⟩
theorem Owned.lt (h : Owned W base T z R v l) : ∀ k, v.ownBlock = some k → base ≤ k ∧ k < W.heap.size := by
  obtain ⟨_, _, _, h3⟩ := h
  exact h3.lt
theorem Owned.kept {row : Option Nat} (h : Owned W base T z R v l) (hg : W.grownBy W' row) (hne : ∀ k, row = some k → v.ownBlock ≠ some k) : Owned W' base T z R v l := by
  obtain ⟨css, h1, h2, h3⟩ := h
  refine ⟨css, h1, h2, h3.kept hg ?_⟩
  cases row with
  | none => cases v.ownBlock <;> simp
  | some k => exact .inr (hne k rfl)
theorem Owned.past (h : Owned W base T z R v l) (b : Below W.heap.size W W') : Owned W' base T z R v l := h.kept (grown_below b none) (fun k e => by cases e)
theorem Owned.snoc {x : α} {cs : List Value} {css : List (List Value)} (h1 : css.length = l.length) (h2 : ∀ (i : Nat) (x : α), l[i]? = some x → ∃ cs, css[i]? = some cs ∧ cs.length = z ∧ R x cs) (hz : cs.length = z) (hR : R x cs)
    (h : W.ownsRow base T z v (l.length + 1) (css.flatten ++ cs)) : Owned W base T z R v (l ++ [x]) := by
  refine ⟨css ++ [cs], by simp [h1], fun i y hy => ?_, by simpa using h⟩
  rcases Nat.lt_or_ge i l.length with hi | hi
  · rw [List.getElem?_append_left hi] at hy
    obtain ⟨c, e, r⟩ := h2 i y hy
    exact ⟨c, by rw [List.getElem?_append_left (by omega)]; exact e, r⟩
  · rw [List.getElem?_append_right hi] at hy
    have hi2 : i = l.length := by
      rcases Nat.lt_or_ge (i - l.length) 1 with h3 | h3
      · omega
      · rw [List.getElem?_eq_none (by simpa using h3)] at hy; cases hy
    subst hi2
    simp only [Nat.sub_self, List.getElem?_cons_zero, Option.some.injEq] at hy
    subst hy
    exact ⟨cs, by rw [List.getElem?_append_right (by omega), h1]; simp, hz, hR⟩
theorem flat_get : ∀ (css : List (List Value)) (i j : Nat) (cs : List Value) (c : Value), (∀ x ∈ css, x.length = z) → css[i]? = some cs → cs[j]? = some c → css.flatten[i * z + j]? = some c
  | [], i, j, cs, c, _, h, _ => by simp at h
  | x :: css, 0, j, cs, c, hz, h, hc => by
    simp only [List.getElem?_cons_zero, Option.some.injEq] at h
    subst h
    rw [List.flatten_cons, Nat.zero_mul, Nat.zero_add, List.getElem?_append_left (List.getElem?_eq_some_iff.1 hc).1]
    exact hc
  | x :: css, i + 1, j, cs, c, hz, h, hc => by
    rw [List.getElem?_cons_succ] at h
    have hx := hz x (by simp)
    rw [List.flatten_cons, List.getElem?_append_right (by rw [hx, Nat.succ_mul]; omega), hx, show (i + 1) * z + j - z = i * z + j by rw [Nat.succ_mul]; omega]
    exact flat_get css i j cs c (fun y hy => hz y (by simp [hy])) h hc
/-- What a call owns is a slice as contracts want it. -/
theorem Owned.slOf {R' : α → List Value → Prop} (h : Owned W base T z R v l) (hR : ∀ x cs, R x cs → R' x cs) : SlOf W W.heap.size z R' l v := by
  obtain ⟨css, h1, h2, h3⟩ := h
  have hall : ∀ x ∈ css, x.length = z := by
    intro x hx
    obtain ⟨i, hi⟩ := List.mem_iff_getElem?.1 hx
    have hil : i < l.length := by rw [← h1]; exact (List.getElem?_eq_some_iff.1 hi).1
    obtain ⟨cs, e, hz, _⟩ := h2 i l[i] (List.getElem?_eq_getElem hil)
    rw [hi] at e
    cases e
    exact hz
  rcases h3.2 with ⟨rfl, h0⟩ | ⟨g, cap, cur, rfl, hb, hg, hnc, hcm, _, _⟩
  · exact .inl ⟨rfl, List.eq_nil_of_length_eq_zero h0⟩
  · refine .inr ⟨⟨g, 0, none⟩, cap, rfl, hnc, hcm, fun _ => (Array.getElem?_eq_some_iff.1 hg).1, fun i x hx => ?_⟩
    obtain ⟨cs, e, hz, r⟩ := h2 i x hx
    exact ⟨cs, hz, hR x cs r, fun j c hj => h3.cells (g := g) rfl _ _ (flat_get css i j cs c hall e hj)⟩
end
end Go.Proofs.YthhepmddcncjoaaGreatDoor
namespace Go.Proofs.YthhepmddcncjoaaGreatDoor
open Go.RowKit

/-- What is appended, cell by cell. -/
def Spread (w : World) (z : Nat) (v : Value) (m : Nat) (news : List Value) : Prop :=
  (v = .slice none 0 0 ∧ m = 0 ∧ news = []) ∨ ∃ (ad : Addr) (c : Nat), v = .slice (some ad) m c ∧ news.length = m * z ∧ (∀ j u, news[j]? = some u → w.cell? (ad.add j) = some u) ∧ ∀ u ∈ news, u.oneCell' = true
theorem Spread.len {w : World} {z : Nat} {v : Value} {m : Nat} {news : List Value} (h : Spread w z v m news) : news.length = m * z := by
  rcases h with ⟨_, rfl, rfl⟩ | ⟨_, _, _, h, _⟩
  · simp
  · exact h
theorem Spread.cells {w w' : World} {z : Nat} {v : Value} {m : Nat} {news : List Value} (h : Spread w z v m news) (hk : ∀ p c, w.cell? p = some c → w'.cell? p = some c) : Spread w' z v m news := by
  rcases h with h | ⟨ad, c, h1, h2, h3, h4⟩
  · exact .inl h
  · exact .inr ⟨ad, c, h1, h2, fun j u hu => hk _ _ (h3 j u hu), h4⟩
/-- What owns some row and no other turns. -/
theorem Spread.own {w : World} {base : Nat} {e : TypeId} {z : Nat} {v : Value} {n : Nat} {xs : List Value} (h : w.ownsRow base e z v n xs) (h1 : ∀ u ∈ xs, u.oneCell' = true) : Spread w z v n xs := by
  rcases h.2 with ⟨rfl, rfl⟩ | ⟨g, cap, cur, hv, hb, hg, _⟩
  · exact .inl ⟨rfl, rfl, List.eq_nil_of_length_eq_zero (by rw [h.1]; simp)⟩
  · refine .inr ⟨⟨g, 0, none⟩, cap, hv, h.1, fun j u hu => ?_, h1⟩
    exact h.cells (g := g) (by rw [hv]; rfl) j u hu
theorem own_below {w w' : World} {base : Nat} {e : TypeId} {z : Nat} {v : Value} {n : Nat} {xs : List Value} (h : w.ownsRow base e z v n xs) (hb : Below w.heap.size w w') : w'.ownsRow base e z v n xs :=
  h.kept (row := none) ⟨hb.os, hb.tape, hb.output, hb.size, fun i hi _ => hb.block i hi⟩ (by cases hv : v.ownBlock with | none => exact .inl rfl | some g => exact .inr (by simp))

section
variable {P : Program} (w : World)
theorem run_append_any (base : Nat) (t ty e : TypeId) (i : TypeInfo) (z : Value) (size bytes : Nat) (ht : P.underlying t = some (.slice e)) (hi : P.info? e = some i) (hz : i.zero = some z)
    (hsize : i.size = size) (hby : i.bytes = bytes) (hzs : z.cells.size = size) (hsz : 0 < size)
    (v : Value) (n : Nat) (xs : List Value) (hown : w.ownsRow base e size v n xs) (u : Value) (m : Nat) (news : List Value) (hu : Spread w size u m news)
    (h63 : n + m ≤ maxLen) (hbytes : (n + m) * bytes ≤ 140737488355328) (hbase : base ≤ w.heap.size) :
    ∃ v' w', (Builtin.append_ #[t, t] ty #[v, u]).run P w = .ok v' w' ∧ w'.ownsRow base e size v' (n + m) (xs ++ news) ∧ w.grownBy w' v.ownBlock ∧ (v'.ownBlock = v.ownBlock ∨ v'.ownBlock = some w.heap.size) := by
  rcases hu with ⟨rfl, rfl, rfl⟩ | ⟨ad, c, rfl, h2, h3, h4⟩
  · refine ⟨v, w, run_append_owned_none (P := P) w base t ty e i size ht hi v n xs hown, by simpa using hown, ⟨rfl, rfl, rfl, Nat.le_refl _, fun _ _ _ => rfl⟩, .inl rfl⟩
  · obtain ⟨v', w', hr, k1, k2, _, k3⟩ := run_append_own_at (P := P) w base t ty e i z size bytes ht hi hz hsize hby hzs hsz v n xs hown ad m c news h2 h3 h4 h63 hbytes hbase
    exact ⟨v', w', hr, k1, k2, k3⟩
theorem wp_append_any {o : Oper} {a : Act} {K : Act → World → Prop} {Q : Exit → Act → World → Prop} (s x : Operand) (t : TypeId)
    (ho : o.op = .call { callee := .builtin .append, args := #[s, x], argTypes := #[t, t] })
    (base : Nat) (e : TypeId) (i : TypeInfo) (z : Value) (size bytes : Nat) (ht : P.underlying t = some (.slice e)) (hi : P.info? e = some i) (hz : i.zero = some z)
    (hsize : i.size = size) (hby : i.bytes = bytes) (hzs : z.cells.size = size) (hsz : 0 < size)
    (v : Value) (n : Nat) (xs : List Value) (hs : a.eval s = v) (hown : w.ownsRow base e size v n xs) (u : Value) (m : Nat) (news : List Value) (hx : a.eval x = u) (hu : Spread w size u m news)
    (h63 : n + m ≤ maxLen) (hbytes : (n + m) * bytes ≤ 140737488355328) (hbase : base ≤ w.heap.size)
    (h : ∀ v' w', w'.ownsRow base e size v' (n + m) (xs ++ news) → w.grownBy w' v.ownBlock → (v'.ownBlock = v.ownBlock ∨ v'.ownBlock = some w.heap.size) → K (a.put o.dst v') w') : o.wp P a w K Q := by
  obtain ⟨v', w', hr, h2, h3, h4⟩ := run_append_any (P := P) w base t o.type e i z size bytes ht hi hz hsize hby hzs hsz v n xs hown u m news hu h63 hbytes hbase
  unfold Oper.wp execOp
  simp only [ho, resolve, invoke, builtin, Sem.run_bind, Sem.run_pure, Result.andThen_ok, List.map_toArray, List.map_cons, List.map_nil, hs, hx, hr]
  exact h v' w' h2 h3 h4
theorem wpList_append_any {ops : Array Oper} {rest : List Oper} {o : Oper} {a : Act} {Q : Exit → Act → World → Prop} (hgd : o.guard = none) (s x : Operand) (t : TypeId)
    (ho : o.op = .call { callee := .builtin .append, args := #[s, x], argTypes := #[t, t] })
    (base : Nat) (e : TypeId) (i : TypeInfo) (z : Value) (size bytes : Nat) (ht : P.underlying t = some (.slice e)) (hi : P.info? e = some i) (hz : i.zero = some z)
    (hsize : i.size = size) (hby : i.bytes = bytes) (hzs : z.cells.size = size) (hsz : 0 < size)
    (v : Value) (n : Nat) (xs : List Value) (hs : a.eval s = v) (hown : w.ownsRow base e size v n xs) (u : Value) (m : Nat) (news : List Value) (hx : a.eval x = u) (hu : Spread w size u m news)
    (h63 : n + m ≤ maxLen) (hbytes : (n + m) * bytes ≤ 140737488355328) (hbase : base ≤ w.heap.size)
    (h : ∀ v' w', w'.ownsRow base e size v' (n + m) (xs ++ news) → w.grownBy w' v.ownBlock → (v'.ownBlock = v.ownBlock ∨ v'.ownBlock = some w.heap.size) → wpList P ops Q rest (a.put o.dst v') w') : wpList P ops Q (o :: rest) a w :=
  wpList_plain hgd fun _ hK => wp_append_any w s x t ho base e i z size bytes ht hi hz hsize hby hzs hsz v n xs hs hown u m news hx hu h63 hbytes hbase fun v' w' h2 h3 h4 => hK _ _ (h v' w' h2 h3 h4)
theorem step_append_any {ops : Array Oper} {o : Oper} {a : Act} {K : Act → World → Prop} {Q : Exit → Act → World → Prop} {E : Prop} (hgd : o.guard = none) (s x : Operand) (t : TypeId)
    (ho : o.op = .call { callee := .builtin .append, args := #[s, x], argTypes := #[t, t] })
    (base : Nat) (e : TypeId) (i : TypeInfo) (z : Value) (size bytes : Nat) (ht : P.underlying t = some (.slice e)) (hi : P.info? e = some i) (hz : i.zero = some z)
    (hsize : i.size = size) (hby : i.bytes = bytes) (hzs : z.cells.size = size) (hsz : 0 < size)
    (v : Value) (n : Nat) (xs : List Value) (hs : a.eval s = v) (hown : w.ownsRow base e size v n xs) (u : Value) (m : Nat) (news : List Value) (hx : a.eval x = u) (hu : Spread w size u m news)
    (h63 : n + m ≤ maxLen) (hbytes : (n + m) * bytes ≤ 140737488355328) (hbase : base ≤ w.heap.size)
    (h : ∀ v' w', w'.ownsRow base e size v' (n + m) (xs ++ news) → w.grownBy w' v.ownBlock → (v'.ownBlock = v.ownBlock ∨ v'.ownBlock = some w.heap.size) → K (a.put o.dst v') w') :
    if Region.wanted o (yielded ops a.tmps) = true then Oper.wp P o a w K Q else E := by
  have hw : Region.wanted o (yielded ops a.tmps) = true := by simp [Region.wanted, hgd]
  rw [if_pos hw]
  exact wp_append_any w s x t ho base e i z size bytes ht hi hz hsize hby hzs hsz v n xs hs hown u m news hx hu h63 hbytes hbase h
end


theorem wp_make_any {P : Program} (w : World) {o : Oper} {a : Act} {K : Act → World → Prop} {Q : Exit → Act → World → Prop} (l c : Operand) (t : TypeId) (hop : o.op = Op.makeSlice t l c)
    (base : Nat) (e : TypeId) (i : TypeInfo) (z : Value) (size : Nat) (h1 : P.underlying t = some (.slice e)) (h2 : P.info? e = some i) (h3 : i.zero = some z) (h4 : i.size = size)
    (kl kc : IntKind) (n : Nat) (hl : a.eval l = .int kl 0) (hc : a.eval c = .int kc (n : Int)) (b2 : i.bytes * n ≤ 281474976710656) (b3 : n ≤ maxLen) (b4 : base ≤ w.heap.size)
    (hK : ∀ w', w'.ownsRow base e size (.slice (some ⟨w.heap.size, 0, none⟩) 0 n) 0 [] → w.grownBy w' none → K (a.put o.dst (.slice (some ⟨w.heap.size, 0, none⟩) 0 n)) w') : o.wp P a w K Q := by
  obtain ⟨w', hrun, r1, r2⟩ := run_make_own (P := P) w base t e i z size h1 h2 h3 h4 kl kc n b2 b3 b4
  unfold Oper.wp
  simp [execOp, hop, hl, hc, hrun, Result.andThen]
  exact hK w' r1 r2
end Go.Proofs.YthhepmddcncjoaaGreatDoor
