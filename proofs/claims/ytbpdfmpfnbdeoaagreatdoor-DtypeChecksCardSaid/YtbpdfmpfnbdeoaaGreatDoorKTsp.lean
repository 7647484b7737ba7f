/- What is asked of programs as trees: alike, small, right, as plain functions. How atoms, parts, rules, relations lie in memory, cell by cell; what a walk reads of them; what a call keeps. What a list holds as cells: lists behind each other, an element put in another's place; cells of a row of one's own written. dtree.sameTerm and slices.EqualFunc over terms. dtree.sameAtom, sameLit, sameRule, and slices.EqualFunc over parts and rules. -/
import Derived.Test.YtbpdfmpfnbdeoaaGreatDoorKName
import Derived.OneCell
import Derived.Deep.Slices
import Derived.BigQuiet
import Derived.Deep.QuietTactic
namespace Go.Proofs.YtbpdfmpfnbdeoaaGreatDoor
open Go.RowKit

/-! ### Alike -/
mutual
def sameT : Tm → Tm → Bool
  | .mk o s n l, u => (o == u.op) && (s.toList == u.s.toList) && (n == u.n) && sameTs l u.l
def sameTs : List Tm → List Tm → Bool
  | [], [] => true
  | t :: ts, u :: us => sameT t u && sameTs ts us
  | _, _ => false
end
def sameA (a b : Am) : Bool := (a.rel.toList == b.rel.toList) && sameTs a.l b.l
def sameL (a b : Lt) : Bool := (a.op == b.op) && sameA a.a b.a && sameT a.x b.x && sameT a.y b.y
def sameR (a b : Ru) : Bool := sameA a.head b.head && allS sameL a.body b.body
def strE (s t : ByteArray) : Bool := s.toList == t.toList
def intE (s t : Int) : Bool := s == t
def sameD (a b : De) : Bool := strE a.rel b.rel && (a.inn == b.inn) && (a.out == b.out) && allS strE a.names b.names && allS intE a.types b.types
def sameP (a b : Pg) : Bool := allS sameD a.decls b.decls && allS sameR a.rules b.rules

theorem sameTs_all : ∀ l m : List Tm, sameTs l m = allS sameT l m
  | [], [] => by simp [sameTs, allS]
  | [], _ :: _ => by simp [sameTs, allS]
  | _ :: _, [] => by simp [sameTs, allS]
  | t :: l, u :: m => by simp [sameTs, allS, sameTs_all l m]
theorem sameT_eq (t u : Tm) : sameT t u = ((t.op == u.op) && (t.s.toList == u.s.toList) && (t.n == u.n) && allS sameT t.l u.l) := by
  cases t
  unfold sameT
  rw [sameTs_all]
  rfl
/-! ### Small -/
mutual
def sizeT : Tm → Int → Int
  | .mk _ s _ l, left => if 1000 < s.size then -1 else sizeTs l (left - 1)
def sizeTs : List Tm → Int → Int
  | [], left => left
  | t :: ts, left => if left < 0 then left else sizeTs ts (sizeT t left)
end
def sizeA (a : Am) (left : Int) : Int := if 1000 < a.rel.size then -1 else sizeTs a.l left
def sizeL1 (l : Lt) (left : Int) : Int := if sizeA l.a (left - 1) < 0 then sizeA l.a (left - 1) else if sizeT l.x (sizeA l.a (left - 1)) < 0 then sizeT l.x (sizeA l.a (left - 1)) else sizeT l.y (sizeT l.x (sizeA l.a (left - 1)))
def foldS {α : Type} (f : α → Int → Int) : List α → Int → Int
  | [], left => left
  | t :: ts, left => if left < 0 then left else foldS f ts (f t left)
def sizeR (r : Ru) (left : Int) : Int := foldS sizeL1 r.body (sizeA r.head (left - 1))
def longB' (l : List ByteArray) : Bool := l.any fun s => decide (1000 < s.size)
def bigD (d : De) : Bool := decide (1000 < d.rel.size) || longB' d.names
def smallP (p : Pg) : Bool := !(p.decls.any bigD) && decide (0 ≤ foldS sizeR p.rules 2000) && decide (p.decls.length ≤ 100) && decide (p.rules.length ≤ 300)
theorem sizeTs_fold : ∀ (l : List Tm) (left : Int), sizeTs l left = foldS sizeT l left
  | [], _ => by simp [sizeTs, foldS]
  | t :: ts, left => by unfold sizeTs foldS; rw [sizeTs_fold ts]
theorem sizeT_eq (t : Tm) (left : Int) : sizeT t left = if 1000 < t.s.size then -1 else foldS sizeT t.l (left - 1) := by
  cases t
  unfold sizeT
  rw [sizeTs_fold]
  rfl
theorem sizeT_mk (op : Int) (s : ByteArray) (n : Int) (l : List Tm) (left : Int) : sizeT (.mk op s n l) left = if 1000 < s.size then -1 else foldS sizeT l (left - 1) := by
  unfold sizeT
  rw [sizeTs_fold]
theorem retI {k : IntKind} {a b : Int} (h : a = b) : Ending.returned (.int k a) = .returned (.int k b) := by rw [h]
theorem foldS_neg {α : Type} (f : α → Int → Int) (l : List α) {left : Int} (h : left < 0) : foldS f l left = left := by
  cases l with
  | nil => rfl
  | cons t ts => unfold foldS; rw [if_pos h]
theorem foldS_drop {α : Type} {f : α → Int → Int} {l : List α} {k : Nat} {t : α} {left : Int} (ht : l[k]? = some t) (h : 0 ≤ left) : foldS f (l.drop k) left = foldS f (l.drop (k + 1)) (f t left) := by
  have h1 : l.drop k = t :: l.drop (k + 1) := by rw [List.drop_eq_getElem_cons (List.getElem?_eq_some_iff.1 ht).1, (List.getElem?_eq_some_iff.1 ht).2]
  rw [h1]
  show (if left < 0 then left else _) = _
  rw [if_neg (by omega)]
/-- Counting down goes no further than one below nothing. -/
theorem sizeT_lo (t : Tm) : ∀ left : Int, 0 ≤ left → -1 ≤ sizeT t left ∧ sizeT t left ≤ left := by
  induction t using Tm.rec (motive_2 := fun l => ∀ left : Int, -1 ≤ left → -1 ≤ foldS sizeT l left ∧ foldS sizeT l left ≤ left) with
  | mk op s n l ih =>
    intro left h
    rw [sizeT_eq]
    split
    · omega
    · have := ih (left - 1) (by omega)
      simp only [Tm.l_mk]
      omega
  | nil left h => exact ⟨h, Int.le_refl _⟩
  | cons t ts ih ihs left h =>
    unfold foldS
    split
    · exact ⟨h, Int.le_refl _⟩
    · have h1 := ih left (by omega)
      have h2 := ihs _ h1.1
      omega
theorem foldS_lo {α : Type} {f : α → Int → Int} (hf : ∀ x left, 0 ≤ left → -1 ≤ f x left ∧ f x left ≤ left) : ∀ (l : List α) (left : Int), -1 ≤ left → -1 ≤ foldS f l left ∧ foldS f l left ≤ left
  | [], left, h => ⟨h, Int.le_refl _⟩
  | t :: ts, left, h => by
    unfold foldS
    split
    · exact ⟨h, Int.le_refl _⟩
    · have h1 := hf t left (by omega)
      have h2 := foldS_lo hf ts _ h1.1
      omega
theorem sizeA_lo (a : Am) (left : Int) (h : -1 ≤ left) : -1 ≤ sizeA a left ∧ sizeA a left ≤ left := by
  unfold sizeA
  split
  · omega
  · rw [sizeTs_fold]; exact foldS_lo sizeT_lo _ _ h
theorem sizeL1_lo (l : Lt) (left : Int) (h : 0 ≤ left) : -1 ≤ sizeL1 l left ∧ sizeL1 l left ≤ left := by
  have h1 := sizeA_lo l.a (left - 1) (by omega)
  unfold sizeL1
  split
  · omega
  · have h2 := sizeT_lo l.x (sizeA l.a (left - 1)) (by omega)
    split
    · omega
    · have h3 := sizeT_lo l.y (sizeT l.x (sizeA l.a (left - 1))) (by omega)
      omega
theorem sizeR_lo (r : Ru) (left : Int) (h : 0 ≤ left) : -1 ≤ sizeR r left ∧ sizeR r left ≤ left := by
  have h1 := sizeA_lo r.head (left - 1) (by omega)
  have h2 := foldS_lo sizeL1_lo r.body _ h1.1
  unfold sizeR
  omega

/-! ### Right -/
def twoB (op : Int) : Bool := (op == 5) || (op == 6) || (op == 7)
def recB (t : Tm) : Bool := (t.op != 3) && (t.op != 4)
def leafB (t : Tm) : Bool :=
  if t.op = 1 then nameB t.s.data.toList && (t.n == 0) && t.l.isEmpty
  else if t.op = 2 then t.s.toList.isEmpty && t.l.isEmpty
  else if t.op = 3 then (t.n == 0) && t.l.isEmpty
  else if t.op = 4 then t.s.toList.isEmpty && (t.n == 0) && t.l.isEmpty
  else false
def rightT : Nat → Tm → Bool
  | 0, _ => false
  | h + 1, t => if twoB t.op = true then t.s.toList.isEmpty && (t.n == 0) && (match t.l with | [a, b] => recB a && rightT h a && (recB b && rightT h b) | _ => false) else leafB t
def rightA (a : Am) : Bool := nameB a.rel.data.toList && decide (1 ≤ a.l.length) && decide (a.l.length ≤ 8) && a.l.all (rightT 20)
def noT (t : Tm) : Bool := (t.op == 0) && t.s.toList.isEmpty && (t.n == 0) && t.l.isEmpty
def noA (a : Am) : Bool := a.rel.toList.isEmpty && a.l.isEmpty
def rightL (l : Lt) : Bool :=
  if l.op = 1 ∨ l.op = 2 then rightA l.a && noT l.x && noT l.y
  else if 3 ≤ l.op ∧ l.op ≤ 6 then noA l.a && rightT 20 l.x && rightT 20 l.y && (l.x.op != 4) && (l.y.op != 4)
  else if l.op = 7 then rightA l.a && rightT 20 l.x && ((l.x.op == 1) || (l.x.op == 2)) && noT l.y
  else if 8 ≤ l.op ∧ l.op ≤ 10 then rightA l.a && rightT 20 l.x && ((l.x.op == 1) || (l.x.op == 2)) && rightT 20 l.y && (l.y.op == 1)
  else false
def headT (fact : Bool) (t : Tm) : Bool := !((t.op == 4) || twoB t.op || ((t.op == 1) && fact))
def rightR (r : Ru) : Bool := rightA r.head && decide (r.body.length ≤ 20) && r.head.l.all (headT r.body.isEmpty) && r.body.all rightL
def rightTy (n : Int) : Bool := (n == 1) || (n == 2)
def rightD (d : De) : Bool := nameB d.rel.data.toList && decide (1 ≤ d.names.length) && decide (d.names.length ≤ 8) && decide (d.types.length = d.names.length) && d.names.all (fun s => nameB s.data.toList) && d.types.all rightTy
def rightP (p : Pg) : Bool := decide (p.decls.length ≤ 60) && decide (p.rules.length ≤ 200) && p.decls.all rightD && p.rules.all rightR

/-- As the program goes: every node, with its level. -/
def shapeB (t : Tm) : Bool := if twoB t.op = true then t.s.toList.isEmpty && (t.n == 0) && (match t.l with | [a, b] => recB a && recB b | _ => false) else leafB t
mutual
def okT : Nat → Tm → Bool
  | lv, .mk o s n l => decide (lv ≤ 20) && shapeB (.mk o s n l) && okTs (lv + 1) l
def okTs : Nat → List Tm → Bool
  | _, [] => true
  | lv, t :: ts => okT lv t && okTs lv ts
end
theorem okT_eq (lv : Nat) (t : Tm) : okT lv t = (decide (lv ≤ 20) && shapeB t && okTs (lv + 1) t.l) := by cases t; unfold okT; rfl
theorem okTs_all (lv : Nat) : ∀ l : List Tm, okTs lv l = l.all (okT lv)
  | [] => by simp [okTs]
  | t :: ts => by unfold okTs; rw [okTs_all lv ts, List.all_cons]
theorem leaf_nil {t : Tm} (h : leafB t = true) : t.l = [] := by
  unfold leafB at h
  split at h
  · simp at h; exact h.2
  · split at h
    · simp at h; exact h.2
    · split at h
      · simp at h; exact h.2
      · split at h
        · simp at h; exact h.2
        · cases h
theorem ok_right : ∀ (h : Nat) (t : Tm), h ≤ 20 → okT (21 - h) t = rightT h t
  | 0, t, _ => by rw [okT_eq]; unfold rightT; simp
  | h + 1, t, hh => by
    have ih : ∀ u, okT (21 - h) u = rightT h u := fun u => ok_right h u (by omega)
    rw [okT_eq, show 21 - (h + 1) + 1 = 21 - h by omega]
    have hd : decide (21 - (h + 1) ≤ 20) = true := by simp
    rw [hd, Bool.true_and]
    unfold rightT shapeB
    by_cases h2 : twoB t.op = true
    · rw [if_pos h2, if_pos h2]
      match hl : t.l with
      | [] => simp
      | [a] => simp
      | [a, b] =>
        simp only [okTs, ih, Bool.and_true]
        cases t.s.toList.isEmpty <;> cases (t.n == 0) <;> cases recB a <;> cases recB b <;> cases rightT h a <;> cases rightT h b <;> rfl
      | a :: b :: c :: r => simp
    · rw [if_neg h2, if_neg h2]
      cases hf : leafB t with
      | false => rfl
      | true => rw [leaf_nil hf]; rfl

end Go.Proofs.YtbpdfmpfnbdeoaaGreatDoor
namespace Go.Proofs.YtbpdfmpfnbdeoaaGreatDoor
open Go.RowKit

theorem CellsAt.n6 {w : World} {a : Addr} {o : Nat} {c0 c1 c2 c3 c4 c5 : Value} (h : CellsAt w a o [c0, c1, c2, c3, c4, c5]) : w.cell? (a.add o) = some c0 ∧ w.cell? ⟨(a.add o).block, (a.add o).off + 1, none⟩ = some c1 ∧ w.cell? ⟨(a.add o).block, (a.add o).off + 2, none⟩ = some c2 ∧ w.cell? ⟨(a.add o).block, (a.add o).off + 3, none⟩ = some c3 ∧ w.cell? ⟨(a.add o).block, (a.add o).off + 4, none⟩ = some c4 ∧ w.cell? ⟨(a.add o).block, (a.add o).off + 5, none⟩ = some c5 := by
  rw [← addNext a o 1 (by omega), ← addNext a o 2 (by omega), ← addNext a o 3 (by omega), ← addNext a o 4 (by omega), ← addNext a o 5 (by omega)]
  exact ⟨h 0 _ rfl, h 1 _ rfl, h 2 _ rfl, h 3 _ rfl, h 4 _ rfl, h 5 _ rfl⟩
theorem CellsAt.n11 {w : World} {a : Addr} {o : Nat} {c0 c1 c2 c3 c4 c5 c6 c7 c8 c9 c10 : Value} (h : CellsAt w a o [c0, c1, c2, c3, c4, c5, c6, c7, c8, c9, c10]) : w.cell? (a.add o) = some c0 ∧ w.cell? ⟨(a.add o).block, (a.add o).off + 1, none⟩ = some c1 ∧ w.cell? ⟨(a.add o).block, (a.add o).off + 2, none⟩ = some c2 ∧ w.cell? ⟨(a.add o).block, (a.add o).off + 3, none⟩ = some c3 ∧ w.cell? ⟨(a.add o).block, (a.add o).off + 4, none⟩ = some c4 ∧ w.cell? ⟨(a.add o).block, (a.add o).off + 5, none⟩ = some c5 ∧ w.cell? ⟨(a.add o).block, (a.add o).off + 6, none⟩ = some c6 ∧ w.cell? ⟨(a.add o).block, (a.add o).off + 7, none⟩ = some c7 ∧ w.cell? ⟨(a.add o).block, (a.add o).off + 8, none⟩ = some c8 ∧ w.cell? ⟨(a.add o).block, (a.add o).off + 9, none⟩ = some c9 ∧ w.cell? ⟨(a.add o).block, (a.add o).off + 10, none⟩ = some c10 := by
  rw [← addNext a o 1 (by omega), ← addNext a o 2 (by omega), ← addNext a o 3 (by omega), ← addNext a o 4 (by omega), ← addNext a o 5 (by omega), ← addNext a o 6 (by omega), ← addNext a o 7 (by omega), ← addNext a o 8 (by omega), ← addNext a o 9 (by omega), ← addNext a o 10 (by omega)]
  exact ⟨h 0 _ rfl, h 1 _ rfl, h 2 _ rfl, h 3 _ rfl, h 4 _ rfl, h 5 _ rfl, h 6 _ rfl, h 7 _ rfl, h 8 _ rfl, h 9 _ rfl, h 10 _ rfl⟩

theorem AmC.look {w : World} {B : Nat} {t : Am} {cs : List Value} (h : AmC w B t cs) : ∃ o cap, cs = [.string t.rel, .slice o t.l.length cap] ∧ t.rel.size ≤ maxLen ∧ TmS w B t.l (.slice o t.l.length cap) := by
  obtain ⟨v, rfl, h1, h2⟩ := h
  obtain ⟨o, cap, rfl, _⟩ := SlOf.uni h2
  exact ⟨o, cap, rfl, h1, h2⟩
theorem LtC.look {w : World} {B : Nat} {t : Lt} {cs : List Value} (h : LtC w B t cs) : ∃ o0 k0 o1 k1 o2 k2, cs = [.int .i64 t.op, .string t.a.rel, .slice o0 t.a.l.length k0, .int .i64 t.x.op, .string t.x.s, .int .i64 t.x.n, .slice o1 t.x.l.length k1, .int .i64 t.y.op, .string t.y.s, .int .i64 t.y.n, .slice o2 t.y.l.length k2] ∧ I64 t.op ∧
    AmC w B t.a [.string t.a.rel, .slice o0 t.a.l.length k0] ∧ TmC w B t.x [.int .i64 t.x.op, .string t.x.s, .int .i64 t.x.n, .slice o1 t.x.l.length k1] ∧ TmC w B t.y [.int .i64 t.y.op, .string t.y.s, .int .i64 t.y.n, .slice o2 t.y.l.length k2] := by
  obtain ⟨ca, cx, cy, rfl, h1, h2, h3, h4⟩ := h
  obtain ⟨o0, k0, rfl, _⟩ := h2.look
  obtain ⟨o1, k1, rfl, _⟩ := h3.look
  obtain ⟨o2, k2, rfl, _⟩ := h4.look
  exact ⟨o0, k0, o1, k1, o2, k2, rfl, h1, h2, h3, h4⟩
theorem RuC.look {w : World} {B : Nat} {t : Ru} {cs : List Value} (h : RuC w B t cs) : ∃ o0 k0 o1 k1, cs = [.string t.head.rel, .slice o0 t.head.l.length k0, .slice o1 t.body.length k1, .int .i64 t.line] ∧ I64 t.line ∧
    AmC w B t.head [.string t.head.rel, .slice o0 t.head.l.length k0] ∧ SlOf w B 11 (LtC w B) t.body (.slice o1 t.body.length k1) := by
  obtain ⟨ca, v, rfl, h1, h2, h3⟩ := h
  obtain ⟨o0, k0, rfl, _⟩ := h2.look
  obtain ⟨o1, k1, rfl, _⟩ := SlOf.uni h3
  exact ⟨o0, k0, o1, k1, rfl, h1, h2, h3⟩
theorem DeC.look {w : World} {B : Nat} {d : De} {cs : List Value} (h : DeC w B d cs) : ∃ o0 k0 o1 k1, cs = [.string d.rel, .slice o0 d.names.length k0, .slice o1 d.types.length k1, .bool d.inn, .bool d.out, .int .i64 d.line] ∧ d.rel.size ≤ maxLen ∧ I64 d.line ∧
    SlOf w B 1 StrC d.names (.slice o0 d.names.length k0) ∧ SlOf w B 1 IntC d.types (.slice o1 d.types.length k1) := by
  obtain ⟨v, u, rfl, h1, h2, h3, h4⟩ := h
  obtain ⟨o0, k0, rfl, _⟩ := SlOf.uni h3
  obtain ⟨o1, k1, rfl, _⟩ := SlOf.uni h4
  exact ⟨o0, k0, o1, k1, rfl, h1, h2, h3, h4⟩
theorem PgC.look {w : World} {B : Nat} {d : Pg} {cs : List Value} (h : PgC w B d cs) : ∃ o0 k0 o1 k1, cs = [.slice o0 d.decls.length k0, .slice o1 d.rules.length k1] ∧
    SlOf w B 6 (DeC w B) d.decls (.slice o0 d.decls.length k0) ∧ SlOf w B 4 (RuC w B) d.rules (.slice o1 d.rules.length k1) := by
  obtain ⟨v, u, rfl, h3, h4⟩ := h
  obtain ⟨o0, k0, rfl, _⟩ := SlOf.uni h3
  obtain ⟨o1, k1, rfl, _⟩ := SlOf.uni h4
  exact ⟨o0, k0, o1, k1, rfl, h3, h4⟩
theorem SlOf.lit {w w' : World} {B B' : Nat} {l : List Lt} {v : Value} (h : SlOf w B 11 (LtC w B) l v) (hb : Below B w w') (hB : B ≤ B') : SlOf w' B' 11 (LtC w' B') l v := SlOf.more (SlOf.below h hb fun _ _ _ h => h.below hb) hB fun _ _ _ h => h.more hB
theorem SlOf.rule {w w' : World} {B B' : Nat} {l : List Ru} {v : Value} (h : SlOf w B 4 (RuC w B) l v) (hb : Below B w w') (hB : B ≤ B') : SlOf w' B' 4 (RuC w' B') l v := SlOf.more (SlOf.below h hb fun _ _ _ h => h.below hb) hB fun _ _ _ h => h.more hB
theorem SlOf.decl {w w' : World} {B B' : Nat} {l : List De} {v : Value} (h : SlOf w B 6 (DeC w B) l v) (hb : Below B w w') (hB : B ≤ B') : SlOf w' B' 6 (DeC w' B') l v := SlOf.more (SlOf.below h hb fun _ _ _ h => h.below hb) hB fun _ _ _ h => h.more hB

theorem lt_at {w wr : World} {l : List Lt} {o : Option Addr} {k : Nat} {t : Lt} (S : Hid (SlIn w w.heap.size 11 (LtC w w.heap.size) l o)) (hB : Below w.heap.size w wr) (ht : l[k]? = some t) :
    ∃ a o0 k0 o1 k1 o2 k2, o = some a ∧ a.block < w.heap.size ∧ Hid (LtC wr wr.heap.size t [.int .i64 t.op, .string t.a.rel, .slice o0 t.a.l.length k0, .int .i64 t.x.op, .string t.x.s, .int .i64 t.x.n, .slice o1 t.x.l.length k1, .int .i64 t.y.op, .string t.y.s, .int .i64 t.y.n, .slice o2 t.y.l.length k2]) ∧
      wr.cell? (a.add (k * 11)) = some (.int .i64 t.op) ∧ wr.cell? ⟨(a.add (k * 11)).block, (a.add (k * 11)).off + 1, none⟩ = some (.string t.a.rel) ∧ wr.cell? ⟨(a.add (k * 11)).block, (a.add (k * 11)).off + 2, none⟩ = some (.slice o0 t.a.l.length k0) ∧ wr.cell? ⟨(a.add (k * 11)).block, (a.add (k * 11)).off + 3, none⟩ = some (.int .i64 t.x.op) ∧ wr.cell? ⟨(a.add (k * 11)).block, (a.add (k * 11)).off + 4, none⟩ = some (.string t.x.s) ∧ wr.cell? ⟨(a.add (k * 11)).block, (a.add (k * 11)).off + 5, none⟩ = some (.int .i64 t.x.n) ∧ wr.cell? ⟨(a.add (k * 11)).block, (a.add (k * 11)).off + 6, none⟩ = some (.slice o1 t.x.l.length k1) ∧ wr.cell? ⟨(a.add (k * 11)).block, (a.add (k * 11)).off + 7, none⟩ = some (.int .i64 t.y.op) ∧ wr.cell? ⟨(a.add (k * 11)).block, (a.add (k * 11)).off + 8, none⟩ = some (.string t.y.s) ∧ wr.cell? ⟨(a.add (k * 11)).block, (a.add (k * 11)).off + 9, none⟩ = some (.int .i64 t.y.n) ∧ wr.cell? ⟨(a.add (k * 11)).block, (a.add (k * 11)).off + 10, none⟩ = some (.slice o2 t.y.l.length k2) := by
  obtain ⟨a, cs, rfl, ha, _, h1, h2⟩ := S.out k t ht
  obtain ⟨o0, k0, o1, k1, o2, k2, rfl, _⟩ := h1.look
  exact ⟨a, o0, k0, o1, k1, o2, k2, rfl, ha, Lib.hid ((h1.below hB).more hB.size), (h2.below ha hB).n11⟩
theorem ru_at {w wr : World} {l : List Ru} {o : Option Addr} {k : Nat} {t : Ru} (S : Hid (SlIn w w.heap.size 4 (RuC w w.heap.size) l o)) (hB : Below w.heap.size w wr) (ht : l[k]? = some t) :
    ∃ a o0 k0 o1 k1, o = some a ∧ a.block < w.heap.size ∧ Hid (RuC wr wr.heap.size t [.string t.head.rel, .slice o0 t.head.l.length k0, .slice o1 t.body.length k1, .int .i64 t.line]) ∧
      wr.cell? (a.add (k * 4)) = some (.string t.head.rel) ∧ wr.cell? ⟨(a.add (k * 4)).block, (a.add (k * 4)).off + 1, none⟩ = some (.slice o0 t.head.l.length k0) ∧ wr.cell? ⟨(a.add (k * 4)).block, (a.add (k * 4)).off + 2, none⟩ = some (.slice o1 t.body.length k1) ∧ wr.cell? ⟨(a.add (k * 4)).block, (a.add (k * 4)).off + 3, none⟩ = some (.int .i64 t.line) := by
  obtain ⟨a, cs, rfl, ha, _, h1, h2⟩ := S.out k t ht
  obtain ⟨o0, k0, o1, k1, rfl, _⟩ := h1.look
  exact ⟨a, o0, k0, o1, k1, rfl, ha, Lib.hid ((h1.below hB).more hB.size), (h2.below ha hB).four⟩
theorem de_at {w wr : World} {l : List De} {o : Option Addr} {k : Nat} {t : De} (S : Hid (SlIn w w.heap.size 6 (DeC w w.heap.size) l o)) (hB : Below w.heap.size w wr) (ht : l[k]? = some t) :
    ∃ a o0 k0 o1 k1, o = some a ∧ a.block < w.heap.size ∧ Hid (DeC wr wr.heap.size t [.string t.rel, .slice o0 t.names.length k0, .slice o1 t.types.length k1, .bool t.inn, .bool t.out, .int .i64 t.line]) ∧
      wr.cell? (a.add (k * 6)) = some (.string t.rel) ∧ wr.cell? ⟨(a.add (k * 6)).block, (a.add (k * 6)).off + 1, none⟩ = some (.slice o0 t.names.length k0) ∧ wr.cell? ⟨(a.add (k * 6)).block, (a.add (k * 6)).off + 2, none⟩ = some (.slice o1 t.types.length k1) ∧ wr.cell? ⟨(a.add (k * 6)).block, (a.add (k * 6)).off + 3, none⟩ = some (.bool t.inn) ∧ wr.cell? ⟨(a.add (k * 6)).block, (a.add (k * 6)).off + 4, none⟩ = some (.bool t.out) ∧ wr.cell? ⟨(a.add (k * 6)).block, (a.add (k * 6)).off + 5, none⟩ = some (.int .i64 t.line) := by
  obtain ⟨a, cs, rfl, ha, _, h1, h2⟩ := S.out k t ht
  obtain ⟨o0, k0, o1, k1, rfl, _⟩ := h1.look
  exact ⟨a, o0, k0, o1, k1, rfl, ha, Lib.hid ((h1.below hB).more hB.size), (h2.below ha hB).n6⟩
theorem held44 {W w1 : World} (b : Below W.heap.size W.drew w1) {x0 x1 i0 i1 : Nat} {p q : Addr} {v0 v1 v2 v3 v4 v5 v6 v7 v8 v9 : Value} (hx0 : x0 < W.heap.size) (hx1 : x1 < W.heap.size) (hp : p.block < W.heap.size) (hq : q.block < W.heap.size)
    (h : W.cell? ⟨x0, i0, none⟩ = some v0 ∧ W.cell? ⟨x1, i1, none⟩ = some v1 ∧ W.cell? p = some v2 ∧ W.cell? ⟨p.block, p.off + 1, none⟩ = some v3 ∧ W.cell? ⟨p.block, p.off + 2, none⟩ = some v4 ∧ W.cell? ⟨p.block, p.off + 3, none⟩ = some v5 ∧ W.cell? q = some v6 ∧ W.cell? ⟨q.block, q.off + 1, none⟩ = some v7 ∧ W.cell? ⟨q.block, q.off + 2, none⟩ = some v8 ∧ W.cell? ⟨q.block, q.off + 3, none⟩ = some v9) :
    w1.cell? ⟨x0, i0, none⟩ = some v0 ∧ w1.cell? ⟨x1, i1, none⟩ = some v1 ∧ w1.cell? p = some v2 ∧ w1.cell? ⟨p.block, p.off + 1, none⟩ = some v3 ∧ w1.cell? ⟨p.block, p.off + 2, none⟩ = some v4 ∧ w1.cell? ⟨p.block, p.off + 3, none⟩ = some v5 ∧ w1.cell? q = some v6 ∧ w1.cell? ⟨q.block, q.off + 1, none⟩ = some v7 ∧ w1.cell? ⟨q.block, q.off + 2, none⟩ = some v8 ∧ w1.cell? ⟨q.block, q.off + 3, none⟩ = some v9 := by
  obtain ⟨h0, h1, h2, h3, h4, h5, h6, h7, h8, h9⟩ := h
  exact ⟨(b.cell (p := ⟨x0, i0, none⟩) hx0).trans h0, (b.cell (p := ⟨x1, i1, none⟩) hx1).trans h1, (b.cell hp).trans h2, (b.cell (p := ⟨p.block, p.off + 1, none⟩) hp).trans h3, (b.cell (p := ⟨p.block, p.off + 2, none⟩) hp).trans h4, (b.cell (p := ⟨p.block, p.off + 3, none⟩) hp).trans h5, (b.cell hq).trans h6, (b.cell (p := ⟨q.block, q.off + 1, none⟩) hq).trans h7, (b.cell (p := ⟨q.block, q.off + 2, none⟩) hq).trans h8, (b.cell (p := ⟨q.block, q.off + 3, none⟩) hq).trans h9⟩
theorem held11 {W w1 : World} (b : Below W.heap.size W.drew w1) {x0 x1 i0 i1 : Nat} {p q : Addr} {v0 v1 v2 v3 v4 v5 v6 v7 v8 v9 v10 v11 v12 v13 v14 v15 v16 v17 v18 v19 v20 v21 v22 v23 : Value} (hx0 : x0 < W.heap.size) (hx1 : x1 < W.heap.size) (hp : p.block < W.heap.size) (hq : q.block < W.heap.size)
    (h : W.cell? ⟨x0, i0, none⟩ = some v0 ∧ W.cell? ⟨x1, i1, none⟩ = some v1 ∧ W.cell? p = some v2 ∧ W.cell? ⟨p.block, p.off + 1, none⟩ = some v3 ∧ W.cell? ⟨p.block, p.off + 2, none⟩ = some v4 ∧ W.cell? ⟨p.block, p.off + 3, none⟩ = some v5 ∧ W.cell? ⟨p.block, p.off + 4, none⟩ = some v6 ∧ W.cell? ⟨p.block, p.off + 5, none⟩ = some v7 ∧ W.cell? ⟨p.block, p.off + 6, none⟩ = some v8 ∧ W.cell? ⟨p.block, p.off + 7, none⟩ = some v9 ∧ W.cell? ⟨p.block, p.off + 8, none⟩ = some v10 ∧ W.cell? ⟨p.block, p.off + 9, none⟩ = some v11 ∧ W.cell? ⟨p.block, p.off + 10, none⟩ = some v12 ∧ W.cell? q = some v13 ∧ W.cell? ⟨q.block, q.off + 1, none⟩ = some v14 ∧ W.cell? ⟨q.block, q.off + 2, none⟩ = some v15 ∧ W.cell? ⟨q.block, q.off + 3, none⟩ = some v16 ∧ W.cell? ⟨q.block, q.off + 4, none⟩ = some v17 ∧ W.cell? ⟨q.block, q.off + 5, none⟩ = some v18 ∧ W.cell? ⟨q.block, q.off + 6, none⟩ = some v19 ∧ W.cell? ⟨q.block, q.off + 7, none⟩ = some v20 ∧ W.cell? ⟨q.block, q.off + 8, none⟩ = some v21 ∧ W.cell? ⟨q.block, q.off + 9, none⟩ = some v22 ∧ W.cell? ⟨q.block, q.off + 10, none⟩ = some v23) :
    w1.cell? ⟨x0, i0, none⟩ = some v0 ∧ w1.cell? ⟨x1, i1, none⟩ = some v1 ∧ w1.cell? p = some v2 ∧ w1.cell? ⟨p.block, p.off + 1, none⟩ = some v3 ∧ w1.cell? ⟨p.block, p.off + 2, none⟩ = some v4 ∧ w1.cell? ⟨p.block, p.off + 3, none⟩ = some v5 ∧ w1.cell? ⟨p.block, p.off + 4, none⟩ = some v6 ∧ w1.cell? ⟨p.block, p.off + 5, none⟩ = some v7 ∧ w1.cell? ⟨p.block, p.off + 6, none⟩ = some v8 ∧ w1.cell? ⟨p.block, p.off + 7, none⟩ = some v9 ∧ w1.cell? ⟨p.block, p.off + 8, none⟩ = some v10 ∧ w1.cell? ⟨p.block, p.off + 9, none⟩ = some v11 ∧ w1.cell? ⟨p.block, p.off + 10, none⟩ = some v12 ∧ w1.cell? q = some v13 ∧ w1.cell? ⟨q.block, q.off + 1, none⟩ = some v14 ∧ w1.cell? ⟨q.block, q.off + 2, none⟩ = some v15 ∧ w1.cell? ⟨q.block, q.off + 3, none⟩ = some v16 ∧ w1.cell? ⟨q.block, q.off + 4, none⟩ = some v17 ∧ w1.cell? ⟨q.block, q.off + 5, none⟩ = some v18 ∧ w1.cell? ⟨q.block, q.off + 6, none⟩ = some v19 ∧ w1.cell? ⟨q.block, q.off + 7, none⟩ = some v20 ∧ w1.cell? ⟨q.block, q.off + 8, none⟩ = some v21 ∧ w1.cell? ⟨q.block, q.off + 9, none⟩ = some v22 ∧ w1.cell? ⟨q.block, q.off + 10, none⟩ = some v23 := by
  obtain ⟨h0, h1, h2, h3, h4, h5, h6, h7, h8, h9, h10, h11, h12, h13, h14, h15, h16, h17, h18, h19, h20, h21, h22, h23⟩ := h
  exact ⟨(b.cell (p := ⟨x0, i0, none⟩) hx0).trans h0, (b.cell (p := ⟨x1, i1, none⟩) hx1).trans h1, (b.cell hp).trans h2, (b.cell (p := ⟨p.block, p.off + 1, none⟩) hp).trans h3, (b.cell (p := ⟨p.block, p.off + 2, none⟩) hp).trans h4, (b.cell (p := ⟨p.block, p.off + 3, none⟩) hp).trans h5, (b.cell (p := ⟨p.block, p.off + 4, none⟩) hp).trans h6, (b.cell (p := ⟨p.block, p.off + 5, none⟩) hp).trans h7, (b.cell (p := ⟨p.block, p.off + 6, none⟩) hp).trans h8, (b.cell (p := ⟨p.block, p.off + 7, none⟩) hp).trans h9, (b.cell (p := ⟨p.block, p.off + 8, none⟩) hp).trans h10, (b.cell (p := ⟨p.block, p.off + 9, none⟩) hp).trans h11, (b.cell (p := ⟨p.block, p.off + 10, none⟩) hp).trans h12, (b.cell hq).trans h13, (b.cell (p := ⟨q.block, q.off + 1, none⟩) hq).trans h14, (b.cell (p := ⟨q.block, q.off + 2, none⟩) hq).trans h15, (b.cell (p := ⟨q.block, q.off + 3, none⟩) hq).trans h16, (b.cell (p := ⟨q.block, q.off + 4, none⟩) hq).trans h17, (b.cell (p := ⟨q.block, q.off + 5, none⟩) hq).trans h18, (b.cell (p := ⟨q.block, q.off + 6, none⟩) hq).trans h19, (b.cell (p := ⟨q.block, q.off + 7, none⟩) hq).trans h20, (b.cell (p := ⟨q.block, q.off + 8, none⟩) hq).trans h21, (b.cell (p := ⟨q.block, q.off + 9, none⟩) hq).trans h22, (b.cell (p := ⟨q.block, q.off + 10, none⟩) hq).trans h23⟩
theorem held66 {W w1 : World} (b : Below W.heap.size W.drew w1) {x0 x1 i0 i1 : Nat} {p q : Addr} {v0 v1 v2 v3 v4 v5 v6 v7 v8 v9 v10 v11 v12 v13 : Value} (hx0 : x0 < W.heap.size) (hx1 : x1 < W.heap.size) (hp : p.block < W.heap.size) (hq : q.block < W.heap.size)
    (h : W.cell? ⟨x0, i0, none⟩ = some v0 ∧ W.cell? ⟨x1, i1, none⟩ = some v1 ∧ W.cell? p = some v2 ∧ W.cell? ⟨p.block, p.off + 1, none⟩ = some v3 ∧ W.cell? ⟨p.block, p.off + 2, none⟩ = some v4 ∧ W.cell? ⟨p.block, p.off + 3, none⟩ = some v5 ∧ W.cell? ⟨p.block, p.off + 4, none⟩ = some v6 ∧ W.cell? ⟨p.block, p.off + 5, none⟩ = some v7 ∧ W.cell? q = some v8 ∧ W.cell? ⟨q.block, q.off + 1, none⟩ = some v9 ∧ W.cell? ⟨q.block, q.off + 2, none⟩ = some v10 ∧ W.cell? ⟨q.block, q.off + 3, none⟩ = some v11 ∧ W.cell? ⟨q.block, q.off + 4, none⟩ = some v12 ∧ W.cell? ⟨q.block, q.off + 5, none⟩ = some v13) :
    w1.cell? ⟨x0, i0, none⟩ = some v0 ∧ w1.cell? ⟨x1, i1, none⟩ = some v1 ∧ w1.cell? p = some v2 ∧ w1.cell? ⟨p.block, p.off + 1, none⟩ = some v3 ∧ w1.cell? ⟨p.block, p.off + 2, none⟩ = some v4 ∧ w1.cell? ⟨p.block, p.off + 3, none⟩ = some v5 ∧ w1.cell? ⟨p.block, p.off + 4, none⟩ = some v6 ∧ w1.cell? ⟨p.block, p.off + 5, none⟩ = some v7 ∧ w1.cell? q = some v8 ∧ w1.cell? ⟨q.block, q.off + 1, none⟩ = some v9 ∧ w1.cell? ⟨q.block, q.off + 2, none⟩ = some v10 ∧ w1.cell? ⟨q.block, q.off + 3, none⟩ = some v11 ∧ w1.cell? ⟨q.block, q.off + 4, none⟩ = some v12 ∧ w1.cell? ⟨q.block, q.off + 5, none⟩ = some v13 := by
  obtain ⟨h0, h1, h2, h3, h4, h5, h6, h7, h8, h9, h10, h11, h12, h13⟩ := h
  exact ⟨(b.cell (p := ⟨x0, i0, none⟩) hx0).trans h0, (b.cell (p := ⟨x1, i1, none⟩) hx1).trans h1, (b.cell hp).trans h2, (b.cell (p := ⟨p.block, p.off + 1, none⟩) hp).trans h3, (b.cell (p := ⟨p.block, p.off + 2, none⟩) hp).trans h4, (b.cell (p := ⟨p.block, p.off + 3, none⟩) hp).trans h5, (b.cell (p := ⟨p.block, p.off + 4, none⟩) hp).trans h6, (b.cell (p := ⟨p.block, p.off + 5, none⟩) hp).trans h7, (b.cell hq).trans h8, (b.cell (p := ⟨q.block, q.off + 1, none⟩) hq).trans h9, (b.cell (p := ⟨q.block, q.off + 2, none⟩) hq).trans h10, (b.cell (p := ⟨q.block, q.off + 3, none⟩) hq).trans h11, (b.cell (p := ⟨q.block, q.off + 4, none⟩) hq).trans h12, (b.cell (p := ⟨q.block, q.off + 5, none⟩) hq).trans h13⟩
theorem held4 {W w1 : World} (b : Below W.heap.size W.drew w1) {x0 i0 : Nat} {p : Addr} {v0 v1 v2 v3 v4 : Value} (hx0 : x0 < W.heap.size) (hp : p.block < W.heap.size)
    (h : W.cell? ⟨x0, i0, none⟩ = some v0 ∧ W.cell? p = some v1 ∧ W.cell? ⟨p.block, p.off + 1, none⟩ = some v2 ∧ W.cell? ⟨p.block, p.off + 2, none⟩ = some v3 ∧ W.cell? ⟨p.block, p.off + 3, none⟩ = some v4) :
    w1.cell? ⟨x0, i0, none⟩ = some v0 ∧ w1.cell? p = some v1 ∧ w1.cell? ⟨p.block, p.off + 1, none⟩ = some v2 ∧ w1.cell? ⟨p.block, p.off + 2, none⟩ = some v3 ∧ w1.cell? ⟨p.block, p.off + 3, none⟩ = some v4 := by
  obtain ⟨h0, h1, h2, h3, h4⟩ := h
  exact ⟨(b.cell (p := ⟨x0, i0, none⟩) hx0).trans h0, (b.cell hp).trans h1, (b.cell (p := ⟨p.block, p.off + 1, none⟩) hp).trans h2, (b.cell (p := ⟨p.block, p.off + 2, none⟩) hp).trans h3, (b.cell (p := ⟨p.block, p.off + 3, none⟩) hp).trans h4⟩
end Go.Proofs.YtbpdfmpfnbdeoaaGreatDoor
namespace Go.Proofs.YtbpdfmpfnbdeoaaGreatDoor
open Go.RowKit Go.Deep

def Laid {α : Type} (z : Nat) (L : α → List Value → Prop) (acc : List α) (xs : List Value) : Prop :=
  xs.length = acc.length * z ∧ ∀ i x, acc[i]? = some x → ∃ cs, cs.length = z ∧ L x cs ∧ ∀ j c, cs[j]? = some c → xs[i * z + j]? = some c
theorem Laid.nil {α : Type} {z : Nat} {L : α → List Value → Prop} : Laid z L [] [] := ⟨by simp, fun i x h => by simp at h⟩
theorem Laid.app {α : Type} {z : Nat} {L : α → List Value → Prop} {l m : List α} {xs ys : List Value} (h : Laid z L l xs) (k : Laid z L m ys) : Laid z L (l ++ m) (xs ++ ys) := by
  refine ⟨by rw [List.length_append, List.length_append, h.1, k.1, Nat.add_mul], fun i x hx => ?_⟩
  rcases Nat.lt_or_ge i l.length with hi | hi
  · rw [List.getElem?_append_left hi] at hx
    obtain ⟨cs, c1, c2, c3⟩ := h.2 i x hx
    refine ⟨cs, c1, c2, fun j c hj => ?_⟩
    have := c3 j c hj
    rw [List.getElem?_append_left (List.getElem?_eq_some_iff.1 this).1]
    exact this
  · rw [List.getElem?_append_right hi] at hx
    obtain ⟨cs, c1, c2, c3⟩ := k.2 _ x hx
    refine ⟨cs, c1, c2, fun j c hj => ?_⟩
    have := c3 j c hj
    have e : i * z + j - xs.length = (i - l.length) * z + j := by
      rw [h.1, Nat.sub_mul]
      have : l.length * z ≤ i * z := Nat.mul_le_mul_right _ hi
      omega
    rw [List.getElem?_append_right (by rw [h.1]; have : l.length * z ≤ i * z := Nat.mul_le_mul_right _ hi; omega), e]
    exact this
theorem Laid.one {α : Type} {z : Nat} {L : α → List Value → Prop} {x : α} {cs : List Value} (hz : cs.length = z) (h : L x cs) : Laid z L [x] cs := by
  refine ⟨by simp [hz], fun i y hy => ?_⟩
  cases i with
  | zero =>
    obtain rfl : x = y := by simpa using hy
    exact ⟨cs, hz, h, fun j c hj => by rw [Nat.zero_mul, Nat.zero_add]; exact hj⟩
  | succ i => simp at hy
theorem Laid.snoc {α : Type} {z : Nat} {L : α → List Value → Prop} {acc : List α} {xs : List Value} {x : α} {cs : List Value} (h : Laid z L acc xs) (hz : cs.length = z) (hx : L x cs) : Laid z L (acc ++ [x]) (xs ++ cs) := h.app (.one hz hx)
theorem Laid.mono {α : Type} {z : Nat} {L L' : α → List Value → Prop} {acc : List α} {xs : List Value} (h : Laid z L acc xs) (hL : ∀ x cs, L x cs → L' x cs) : Laid z L' acc xs :=
  ⟨h.1, fun i x hx => let ⟨cs, a, b, c⟩ := h.2 i x hx; ⟨cs, a, hL x cs b, c⟩⟩
/-- An element in the place of another one. -/
def putAt (xs : List Value) (k : Nat) (cs : List Value) : List Value := xs.take k ++ cs ++ xs.drop (k + cs.length)
theorem putAt_len {xs cs : List Value} {k : Nat} (h : k + cs.length ≤ xs.length) : (putAt xs k cs).length = xs.length := by
  unfold putAt
  simp only [List.length_append, List.length_take, List.length_drop]
  omega
theorem putAt_get {xs cs : List Value} {k : Nat} (h : k + cs.length ≤ xs.length) (i : Nat) : (putAt xs k cs)[i]? = if k ≤ i ∧ i < k + cs.length then cs[i - k]? else xs[i]? := by
  unfold putAt
  by_cases h1 : i < k
  · rw [if_neg (by omega), List.getElem?_append_left (by simp; omega), List.getElem?_append_left (by simp; omega), List.getElem?_take, if_pos h1]
  · by_cases h2 : i < k + cs.length
    · rw [if_pos ⟨by omega, h2⟩, List.getElem?_append_left (by simp; omega), List.getElem?_append_right (by simp; omega)]
      congr 1
      rw [List.length_take]
      omega
    · rw [if_neg (by omega), List.getElem?_append_right (by simp; omega), List.getElem?_drop]
      congr 1
      simp only [List.length_append, List.length_take]
      omega
theorem Laid.set {α : Type} {z : Nat} {L : α → List Value → Prop} {acc : List α} {xs : List Value} (h : Laid z L acc xs) {i : Nat} (hi : i < acc.length) {x : α} {cs : List Value} (hz : cs.length = z) (hx : L x cs) : Laid z L (acc.set i x) (putAt xs (i * z) cs) := by
  obtain ⟨h1, h2⟩ := h
  have hle : i * z + cs.length ≤ xs.length := by
    rw [h1, hz]
    calc i * z + z = (i + 1) * z := by rw [Nat.add_mul, Nat.one_mul]
      _ ≤ acc.length * z := Nat.mul_le_mul_right _ hi
  refine ⟨by rw [putAt_len hle, List.length_set, h1], fun k y hy => ?_⟩
  by_cases hk : k = i
  · subst hk
    rw [List.getElem?_set_self hi] at hy
    cases hy
    refine ⟨cs, hz, hx, fun j c hj => ?_⟩
    have hjz : j < cs.length := (List.getElem?_eq_some_iff.1 hj).1
    rw [putAt_get hle, if_pos (by omega), Nat.add_sub_cancel_left]
    exact hj
  · rw [List.getElem?_set_ne (Ne.symm hk)] at hy
    obtain ⟨ds, d1, d2, d3⟩ := h2 k y hy
    refine ⟨ds, d1, d2, fun j c hj => ?_⟩
    have hjz : j < z := by rw [← d1]; exact (List.getElem?_eq_some_iff.1 hj).1
    rw [putAt_get hle, if_neg ?_]
    · exact d3 j c hj
    · rw [hz]
      rcases Nat.lt_or_ge k i with h | h
      · have : (k + 1) * z ≤ i * z := Nat.mul_le_mul_right _ h
        rw [Nat.add_mul, Nat.one_mul] at this
        omega
      · have : (i + 1) * z ≤ k * z := Nat.mul_le_mul_right _ (by omega)
        rw [Nat.add_mul, Nat.one_mul] at this
        omega
theorem sl_laid {α : Type} {w : World} {B z : Nat} {R : α → List Value → Prop} {l : List α} {v : Value} (h : SlOf w B z R l v) (h1 : ∀ x cs, R x cs → ∀ u ∈ cs, u.oneCell' = true) : ∃ xs, Laid z R l xs ∧ Spread w z v l.length xs := by
  rcases h with ⟨rfl, rfl⟩ | ⟨a, cap, rfl, _, _, _, h5⟩
  · exact ⟨[], Laid.nil, .inl ⟨rfl, rfl, rfl⟩⟩
  · have key : ∀ k, k ≤ l.length → ∃ xs, Laid z R (l.take k) xs ∧ (∀ j u, xs[j]? = some u → w.cell? (a.add j) = some u) ∧ ∀ u ∈ xs, u.oneCell' = true := by
      intro k
      induction k with
      | zero => intro _; exact ⟨[], by simpa using Laid.nil, fun j u hu => by simp at hu, fun u hu => by simp at hu⟩
      | succ k ih =>
        intro hk
        obtain ⟨xs, e1, e2, e3⟩ := ih (by omega)
        have hx : l[k]? = some l[k] := List.getElem?_eq_getElem (by omega)
        obtain ⟨cs, c1, c2, c3⟩ := h5 k _ hx
        have hl : xs.length = k * z := by rw [e1.1, List.length_take, Nat.min_eq_left (by omega)]
        refine ⟨xs ++ cs, ?_, fun j u hu => ?_, fun u hu => ?_⟩
        · rw [List.take_add_one, hx]
          exact e1.snoc c1 c2
        · rcases Nat.lt_or_ge j xs.length with hj | hj
          · rw [List.getElem?_append_left hj] at hu
            exact e2 j u hu
          · rw [List.getElem?_append_right hj] at hu
            have := c3 _ u hu
            rw [← hl, Nat.add_sub_cancel' hj] at this
            exact this
        · rcases List.mem_append.1 hu with hu | hu
          · exact e3 u hu
          · exact h1 _ _ c2 u hu
    obtain ⟨xs, e1, e2, e3⟩ := key l.length (Nat.le_refl _)
    rw [List.take_length] at e1
    exact ⟨xs, e1, .inr ⟨a, cap, rfl, e1.1, e2, e3⟩⟩
theorem sl_own0 {α : Type} {w : World} {base : Nat} {e : TypeId} {z : Nat} {v : Value} {xs : List Value} {acc : List α} {P : α → List Value → Prop} (h : w.ownsRow base e z v acc.length xs) (hl : Laid z P acc xs) : SlOf w w.heap.size z P acc v := by
  rcases h.2 with ⟨rfl, h0⟩ | ⟨g, cap, cur, hv, hb, hg, hn, hc, hcur, ht⟩
  · exact .inl ⟨rfl, List.eq_nil_of_length_eq_zero h0⟩
  · refine .inr ⟨⟨g, 0, none⟩, cap, hv, hn, hc, fun _ => (Array.getElem?_eq_some_iff.1 hg).1, fun i x hx => ?_⟩
    obtain ⟨cs, hz, hP, hcs⟩ := hl.2 i x hx
    exact ⟨cs, hz, hP, fun j c hj => h.cells (g := g) (by rw [hv]; rfl) (i * z + j) c (hcs j c hj)⟩
theorem lt_one {w : World} {B : Nat} (x : Lt) (cs : List Value) (h : LtC w B x cs) : ∀ u ∈ cs, u.oneCell' = true := by
  obtain ⟨o0, k0, o1, k1, o2, k2, rfl, _⟩ := h.look
  intro y hy
  simp only [List.mem_cons, List.mem_nil_iff, or_false] at hy
  rcases hy with rfl | rfl | rfl | rfl | rfl | rfl | rfl | rfl | rfl | rfl | rfl <;> rfl
theorem de_one {w : World} {B : Nat} (x : De) (cs : List Value) (h : DeC w B x cs) : ∀ u ∈ cs, u.oneCell' = true := by
  obtain ⟨o0, k0, o1, k1, rfl, _⟩ := h.look
  intro y hy
  simp only [List.mem_cons, List.mem_nil_iff, or_false] at hy
  rcases hy with rfl | rfl | rfl | rfl | rfl | rfl <;> rfl
theorem ru_one {w : World} {B : Nat} (x : Ru) (cs : List Value) (h : RuC w B x cs) : ∀ u ∈ cs, u.oneCell' = true := by
  obtain ⟨o0, k0, o1, k1, rfl, _⟩ := h.look
  intro y hy
  simp only [List.mem_cons, List.mem_nil_iff, or_false] at hy
  rcases hy with rfl | rfl | rfl | rfl <;> rfl

/-! ### Parts of slices -/
theorem SlOf.take {α : Type} {w : World} {B z : Nat} {R : α → List Value → Prop} {l : List α} {a : Addr} {cap : Nat} (h : SlOf w B z R l (.slice (some a) l.length cap)) {i : Nat} (hi : i ≤ l.length) : SlOf w B z R (l.take i) (.slice (some a) i cap) := by
  rcases h with ⟨h, _⟩ | ⟨a', cap', e, h1, h2, h3, h4⟩
  · cases h
  · cases e
    refine .inr ⟨a, cap, by rw [List.length_take, Nat.min_eq_left hi], by rw [List.length_take]; omega, h2, fun hn => h3 (by rintro rfl; simp at hn), fun k x hx => ?_⟩
    rw [List.getElem?_take] at hx
    split at hx
    · exact h4 k x hx
    · cases hx
theorem SlOf.drop {α : Type} {w : World} {B z : Nat} {R : α → List Value → Prop} {l : List α} {a : Addr} {cap : Nat} (h : SlOf w B z R l (.slice (some a) l.length cap)) {i : Nat} (hi : i ≤ l.length) : SlOf w B z R (l.drop i) (.slice (if cap = i then some a else some (a.add (i * z))) (l.length - i) (cap - i)) := by
  rcases h with ⟨h, _⟩ | ⟨a', cap', e, h1, h2, h3, h4⟩
  · cases h
  · cases e
    by_cases hc : cap = i
    · rw [if_pos hc]
      have hd : l.drop i = [] := List.drop_of_length_le (by omega)
      rw [hd]
      exact .inr ⟨a, cap - i, by simp; omega, by simp, by omega, fun h => absurd rfl h, fun k x hx => by simp at hx⟩
    · rw [if_neg hc]
      refine .inr ⟨a.add (i * z), cap - i, by simp, by simp; omega, by omega, fun hn => by rw [addBlock]; exact h3 (by rintro rfl; simp at hn), fun k x hx => ?_⟩
      rw [List.getElem?_drop] at hx
      obtain ⟨cs, c1, c2, c3⟩ := h4 _ x hx
      refine ⟨cs, c1, c2, fun j c hj => ?_⟩
      rw [add_add, ← Nat.add_assoc, ← Nat.add_mul]
      exact c3 j c hj
theorem SlOf.one {α : Type} {w : World} {B z : Nat} {R : α → List Value → Prop} {l : List α} {a : Addr} {cap : Nat} (h : SlOf w B z R l (.slice (some a) l.length cap)) {i : Nat} {x : α} (hi : l[i]? = some x) {c : Nat} (hc : 1 ≤ c) (hm : c ≤ maxLen) : SlOf w B z R [x] (.slice (some (a.add (i * z))) 1 c) := by
  rcases h with ⟨h, _⟩ | ⟨a', cap', e, h1, h2, h3, h4⟩
  · cases h
  · cases e
    have hl := (List.getElem?_eq_some_iff.1 hi).1
    refine .inr ⟨a.add (i * z), c, rfl, hc, hm, fun _ => by rw [addBlock]; exact h3 (by rintro rfl; simp at hl), fun k y hy => ?_⟩
    match k, hy with
    | 0, hy =>
      obtain rfl : x = y := by simpa using hy
      obtain ⟨cs, c1, c2, c3⟩ := h4 i x hi
      refine ⟨cs, c1, c2, fun j c hj => ?_⟩
      rw [Nat.zero_mul, Nat.zero_add, add_add]
      exact c3 j c hj
    | k + 1, hy => simp at hy

/-! ### Cells of a row of one's own written -/
def setC (b : Nat) : Nat → List Value → World → World
  | _, [], w => w
  | k, x :: xs, w => setC b (k + 1) xs (w.setCell ⟨b, k, none⟩ x)
def wrC (cs : Array Value) : Nat → List Value → Array Value
  | _, [] => cs
  | k, x :: xs => wrC (cs.setIfInBounds k x) (k + 1) xs
theorem wrC_size : ∀ (xs : List Value) (k : Nat) (cs : Array Value), (wrC cs k xs).size = cs.size
  | [], _, _ => rfl
  | x :: xs, k, cs => by rw [wrC, wrC_size xs]; simp
theorem wrC_get : ∀ (xs : List Value) (k : Nat) (cs : Array Value) (i : Nat), k + xs.length ≤ cs.size → (wrC cs k xs)[i]? = if k ≤ i ∧ i < k + xs.length then xs[i - k]? else cs[i]?
  | [], k, cs, i, _ => by rw [wrC, if_neg (by simp)]
  | x :: xs, k, cs, i, h => by
    rw [List.length_cons] at h
    rw [wrC, wrC_get xs (k + 1) _ i (by simp; omega), List.length_cons]
    by_cases h1 : k + 1 ≤ i ∧ i < k + 1 + xs.length
    · rw [if_pos h1, if_pos (by omega), show i - k = (i - (k + 1)) + 1 by omega, List.getElem?_cons_succ]
    · rw [if_neg h1]
      by_cases h2 : i = k
      · subst h2
        rw [if_pos (by omega), Nat.sub_self, List.getElem?_cons_zero, Array.getElem?_setIfInBounds_self_of_lt (by omega)]
      · rw [if_neg (by omega), Array.getElem?_setIfInBounds_ne (by omega)]
theorem set_row {w : World} {b : Nat} {cs : Array Value} {T : TypeId} {fr : Nat × Nat} (hb : w.heap[b]? = some (.cells cs T fr)) (i : Nat) (v : Value) : (w.setCell ⟨b, i, none⟩ v).heap[b]? = some (.cells (cs.setIfInBounds i v) T fr) := by
  simp [World.setCell, Array.getElem?_modify, hb]
theorem setC_row {b : Nat} {T : TypeId} {fz : Nat × Nat} : ∀ (xs : List Value) (k : Nat) (w : World) (cs : Array Value), w.heap[b]? = some (.cells cs T fz) → (setC b k xs w).heap[b]? = some (.cells (wrC cs k xs) T fz)
  | [], _, _, _, h => h
  | x :: xs, k, w, cs, h => by rw [setC, wrC]; exact setC_row xs (k + 1) _ _ (set_row h k x)
theorem setC_grown {b : Nat} : ∀ (xs : List Value) (k : Nat) (w : World), w.grownBy (setC b k xs w) (some b) ∧ (setC b k xs w).heap.size = w.heap.size
  | [], _, w => ⟨⟨rfl, rfl, rfl, Nat.le_refl _, fun _ _ _ => rfl⟩, rfl⟩
  | x :: xs, k, w => by
    rw [setC]
    obtain ⟨h1, h2⟩ := setC_grown (b := b) xs (k + 1) (w.setCell ⟨b, k, none⟩ x)
    have hs : (w.setCell ⟨b, k, none⟩ x).heap.size = w.heap.size := by simp [World.setCell]
    refine ⟨⟨h1.os, h1.tape, h1.output, by rw [h2, hs]; exact Nat.le_refl _, fun i hi hne => (h1.block i (by rw [hs]; exact hi) hne).trans (Below.heap_setCell w ⟨b, k, none⟩ x i (fun e => hne (by rw [e])))⟩, h2.trans hs⟩
theorem own_put {W : World} {base g n cp z : Nat} {e : TypeId} {xs news : List Value} (h : W.ownsRow base e z (.slice (some ⟨g, 0, none⟩) n cp) n xs) {k : Nat} (hk : k + news.length ≤ xs.length) :
    (setC g k news W).ownsRow base e z (.slice (some ⟨g, 0, none⟩) n cp) n (putAt xs k news) := by
  obtain ⟨h1, h2⟩ := h
  rcases h2 with ⟨h3, _⟩ | ⟨g', cap, cur, hv, hb, hh, hc, hm, hsz, ht⟩
  · cases h3
  · cases hv
    have hle : n * z ≤ cur.size := by rw [hsz]; exact Nat.mul_le_mul_right z hc
    refine ⟨by rw [putAt_len hk]; exact h1, .inr ⟨g, cp, wrC cur k news, rfl, hb, setC_row news _ W cur hh, hc, hm, by rw [wrC_size]; exact hsz, ?_⟩⟩
    refine List.ext_getElem? fun i => ?_
    rw [List.getElem?_take, putAt_get hk]
    have hti := congrArg (fun l => l[i]?) ht
    simp only [List.getElem?_take] at hti
    by_cases hi : i < n * z
    · rw [if_pos hi, Array.getElem?_toList, wrC_get news _ _ _ (by omega)]
      rw [if_pos hi, Array.getElem?_toList] at hti
      by_cases hk2 : k ≤ i ∧ i < k + news.length
      · rw [if_pos hk2, if_pos hk2]
      · rw [if_neg hk2, if_neg hk2, hti]
    · rw [if_neg hi, if_neg (by omega), List.getElem?_eq_none (by omega)]
theorem own_at {W : World} {base g n cp z : Nat} {e : TypeId} {xs : List Value} (h : W.ownsRow base e z (.slice (some ⟨g, 0, none⟩) n cp) n xs) : (∀ j u, xs[j]? = some u → W.cell? ⟨g, j, none⟩ = some u) ∧ (∀ j, W.frozen? ⟨g, j, none⟩ = false) ∧ g < W.heap.size ∧ base ≤ g := by
  obtain ⟨h1, h2⟩ := h
  rcases h2 with ⟨h3, _⟩ | ⟨g', cap, cur, hv, hb, hh, hc, hm, hsz, ht⟩
  · cases h3
  · cases hv
    refine ⟨fun j u hu => ?_, fun j => ?_, (Array.getElem?_eq_some_iff.1 hh).1, hb⟩
    · rw [← ht, List.getElem?_take] at hu
      split at hu
      · unfold World.cell?
        rw [hh]
        simpa using hu
      · cases hu
    · unfold World.frozen?
      rw [hh]
      simp
theorem step_make_any {P : Program} (w : World) {ops : Array Oper} {o : Oper} {a : Act} {K : Act → World → Prop} {Q : Exit → Act → World → Prop} {E : Prop} (hgd : o.guard = none) (l c : Operand) (t : TypeId) (hop : o.op = Op.makeSlice t l c)
    (base : Nat) (e : TypeId) (i : TypeInfo) (z : Value) (size : Nat) (h1 : P.underlying t = some (.slice e)) (h2 : P.info? e = some i) (h3 : i.zero = some z) (h4 : i.size = size)
    (kl kc : IntKind) (n : Nat) (hl : a.eval l = .int kl 0) (hc : a.eval c = .int kc (n : Int)) (b2 : i.bytes * n ≤ 281474976710656) (b3 : n ≤ maxLen) (b4 : base ≤ w.heap.size)
    (hK : ∀ w', w'.ownsRow base e size (.slice (some ⟨w.heap.size, 0, none⟩) 0 n) 0 [] → w.grownBy w' none → K (a.put o.dst (.slice (some ⟨w.heap.size, 0, none⟩) 0 n)) w') :
    if Region.wanted o (yielded ops a.tmps) = true then Oper.wp P o a w K Q else E := by
  have hw : Region.wanted o (yielded ops a.tmps) = true := by simp [Region.wanted, hgd]
  rw [if_pos hw]
  exact wp_make_any w l c t hop base e i z size h1 h2 h3 h4 kl kc n hl hc b2 b3 b4 hK
theorem info_lit : (Tryz.prog.info? 56).map (fun i => (i.zero, i.size, i.bytes)) = some (some (.agg #[.int .i64 0, .string ⟨#[]⟩, .slice none 0 0, .int .i64 0, .string ⟨#[]⟩, .int .i64 0, .slice none 0 0, .int .i64 0, .string ⟨#[]⟩, .int .i64 0, .slice none 0 0]), 11, 160) := by kernel_rfl
end Go.Proofs.YtbpdfmpfnbdeoaaGreatDoor
namespace Go.Proofs.YtbpdfmpfnbdeoaaGreatDoor
open Go.RowKit

def SameTermAt (t : Tm) : Prop := ∀ (u : Tm) (w : World) (cs ds : List Value), TmC w w.heap.size t cs → TmC w w.heap.size u ds →
    Calls Tryz.prog 142 #[.agg cs.toArray, .agg ds.toArray] w fun e w' => e = .returned (.bool (sameT t u)) ∧ Below w.heap.size w w'

set_option maxRecDepth 100000 in
set_option maxHeartbeats 4000000 in
theorem equalTerms_c (l m : List Tm) (ih : ∀ t ∈ l, SameTermAt t) (v1 v2 : Value) (w : World) (h1 : TmS w w.heap.size l v1) (h2 : TmS w w.heap.size m v2) :
    Calls Tryz.prog 152 #[v1, v2, .func (.func 142) #[] #[]] w fun e w' => e = .returned (.bool (allS sameT l m)) ∧ Below w.heap.size w w' := by
  obtain ⟨o1, cap1, rfl, hc1, hm1, S1⟩ := SlOf.open h1
  obtain ⟨o2, cap2, rfl, hc2, hm2, S2⟩ := SlOf.open h2
  have IH := Lib.hid ih
  clear h1 h2 ih
  by_cases hlen : l.length = m.length
  · have q : ((l.length : Int) != (m.length : Int)) = false := by rw [hlen]; simp
    have Hlen := Lib.hid hlen
    clear hlen
    go_enter Tryz.func152, Tryz.ntmps152
    go_wp2
    go_loopw [17] (fun i wr => ∃ k : Nat, k ≤ l.length ∧ i = .int .i64 k ∧ allS sameT l m = allS sameT (l.drop k) (m.drop k) ∧ Below w.heap.size w wr) (fun i _ => l.length - (intOf i).toNat)
    case atStart => exact ⟨0, Nat.zero_le _, rfl, rfl, Below.refl _ _⟩
    case round =>
      obtain ⟨k, hk, rfl, hr, hB⟩ := hrel
      have Hr := Lib.hid hr
      clear hr
      have hBs := hB.size
      by_cases hlt : k < l.length
      · have hlt' : (k : Int) < (l.length : Int) := by omega
        have hlt2 : k < m.length := by have := Hlen.out; omega
        obtain ⟨t, ht⟩ : ∃ t, l[k]? = some t := ⟨l[k], List.getElem?_eq_getElem hlt⟩
        obtain ⟨u, hu⟩ : ∃ u, m[k]? = some u := ⟨m[k], List.getElem?_eq_getElem hlt2⟩
        obtain ⟨a, p1, q1, rfl, ha, Hc, c0, c1, c2, c3⟩ := tm_at S1 hB ht
        obtain ⟨b, p2, q2, rfl, hb, Hd, d0, d1, d2, d3⟩ := tm_at S2 hB hu
        have hal : (a.add (k * 4)).block < wr.heap.size := by rw [addBlock]; omega
        have hbl : (b.add (k * 4)).block < wr.heap.size := by rw [addBlock]; omega
        have Hs := Lib.hid (allS_drop (f := sameT) ht hu)
        have Ht := Lib.hid (List.mem_of_getElem? ht)
        clear ht hu
        have HI := Lib.hid (fun (W : World) (hb : Below wr.heap.size wr W) => IH.out t Ht.out u W _ _ ((Hc.out.under hb).more hb.size) ((Hd.out.under hb).more hb.size))
        go_wp2_with fail
        refine (HI.out _ (((Below.refl _ _).alloc (Nat.le_refl _) _).alloc (by simp) _)).mono ?_
        rintro e w1 ⟨rfl, b1⟩
        have hB1 := hB.trans ((((Below.refl _ wr).alloc (Nat.le_refl _) _).alloc (by simp) _).mono hBs |>.trans (b1.mono (by simp; omega)))
        cases hs : sameT t u
        · have Hz := Lib.hid (Hr.out.trans (Hs.out.trans (by rw [hs, Bool.false_and])))
          clear hs
          go_wp2
          go_ret
          exact ⟨by rw [Hz.out]; rfl, hB1⟩
        · have Hz := Lib.hid (Hr.out.trans (Hs.out.trans (by rw [hs, Bool.true_and])))
          clear hs
          go_wp2
          go_roundw
          case rel => exact ⟨k + 1, hlt, by go_num, Hz.out, hB1⟩
          case measure => simp [intOf]; omega
      · have hlt' : ¬ (k : Int) < (l.length : Int) := by omega
        have Hz := Lib.hid (allS_end (f := sameT) (l := l) (m := m) (k := k) (by omega) (by have := Hlen.out; omega))
        go_wp2
        go_ret
        exact ⟨by rw [Hr.out, Hz.out]; rfl, hB⟩
  · have q : ((l.length : Int) != (m.length : Int)) = true := by rw [bne_iff_ne]; omega
    have Hz := Lib.hid (allS_len (f := sameT) hlen)
    clear hlen
    go_enter Tryz.func152, Tryz.ntmps152
    go_wp2
    go_ret
    exact ⟨by rw [Hz.out]; rfl, Below.refl _ _⟩

set_option maxRecDepth 100000 in
set_option maxHeartbeats 4000000 in
theorem sameTerm_c (t : Tm) : SameTermAt t := by
  induction t using Tm.rec (motive_2 := fun l => ∀ t ∈ l, SameTermAt t) with
  | nil x hx => simp at hx
  | cons t ts ih ihs x hx =>
    rcases List.mem_cons.1 hx with rfl | hx
    · exact ih
    · exact ihs x hx
  | mk op s n l ih =>
    intro u w cs ds hc hd
    obtain ⟨p1, q1, rfl, _, _, _, t1⟩ := hc.look
    obtain ⟨p2, q2, rfl, _, _, _, t2⟩ := hd.look
    have Hs := Lib.hid (sameT_eq (.mk op s n l) u)
    have H := Lib.hid (fun (W : World) (hb : Below w.heap.size w W) => equalTerms_c l u.l ih _ _ W ((TmS.below t1 hb).more hb.size) ((TmS.below t2 hb).more hb.size))
    simp only [Tm.op_mk, Tm.s_mk, Tm.n_mk, Tm.l_mk] at Hs H ⊢
    clear hc hd t1 t2 ih
    obtain ⟨b1, hb1⟩ : ∃ b, (op == u.op) = b := ⟨_, rfl⟩
    obtain ⟨b2, hb2⟩ : ∃ b, (s.toList == u.s.toList) = b := ⟨_, rfl⟩
    obtain ⟨b3, hb3⟩ : ∃ b, (n == u.n) = b := ⟨_, rfl⟩
    have Hf : Hid ((b1 && b2 && b3) = false → sameT (.mk op s n l) u = false) := Lib.hid (by
      intro h
      rw [Hs.out, hb1, hb2, hb3, h, Bool.false_and])
    cases b1
    · have Hz := Lib.hid (Hf.out rfl)
      go_enter Tryz.func142, Tryz.ntmps142
      go_wp2
      go_ret
      exact ⟨by rw [Hz.out]; rfl, ((Below.refl _ _).alloc (Nat.le_refl _) _).alloc (by simp) _⟩
    cases b2
    · have Hz := Lib.hid (Hf.out rfl)
      go_enter Tryz.func142, Tryz.ntmps142
      go_wp2
      go_ret
      exact ⟨by rw [Hz.out]; rfl, ((Below.refl _ _).alloc (Nat.le_refl _) _).alloc (by simp) _⟩
    cases b3
    · have Hz := Lib.hid (Hf.out rfl)
      go_enter Tryz.func142, Tryz.ntmps142
      go_wp2
      go_ret
      exact ⟨by rw [Hz.out]; rfl, ((Below.refl _ _).alloc (Nat.le_refl _) _).alloc (by simp) _⟩
    have Hz : Hid (sameT (.mk op s n l) u = allS sameT l u.l) := Lib.hid (by rw [Hs.out, hb1, hb2, hb3]; rfl)
    go_enter Tryz.func142, Tryz.ntmps142
    go_wp2_with fail
    refine (H.out _ (((Below.refl _ _).alloc (Nat.le_refl _) _).alloc (by simp) _)).mono ?_
    rintro e w1 ⟨rfl, b1⟩
    go_wp2
    go_ret
    exact ⟨by rw [Hz.out]; rfl, (((Below.refl _ _).alloc (Nat.le_refl _) _).alloc (by simp) _).trans (b1.mono (by simp; omega))⟩
end Go.Proofs.YtbpdfmpfnbdeoaaGreatDoor
namespace Go.Proofs.YtbpdfmpfnbdeoaaGreatDoor
open Go.RowKit

set_option maxRecDepth 100000 in
set_option maxHeartbeats 4000000 in
theorem sameAtom_c (t u : Am) (w : World) (cs ds : List Value) (hc : AmC w w.heap.size t cs) (hd : AmC w w.heap.size u ds) :
    Calls Tryz.prog 143 #[.agg cs.toArray, .agg ds.toArray] w fun e w' => e = .returned (.bool (sameA t u)) ∧ Below w.heap.size w w' := by
  obtain ⟨p1, q1, rfl, _, t1⟩ := hc.look
  obtain ⟨p2, q2, rfl, _, t2⟩ := hd.look
  have H := Lib.hid (fun (W : World) (hb : Below w.heap.size w W) => equalTerms_c t.l u.l (fun x _ => sameTerm_c x) _ _ W ((TmS.below t1 hb).more hb.size) ((TmS.below t2 hb).more hb.size))
  clear hc hd t1 t2
  obtain ⟨b1, hb1⟩ : ∃ b, (t.rel.toList == u.rel.toList) = b := ⟨_, rfl⟩
  have Hz : Hid (sameA t u = (b1 && allS sameT t.l u.l)) := Lib.hid (by unfold sameA; rw [sameTs_all, hb1])
  cases b1
  · go_enter Tryz.func143, Tryz.ntmps143
    go_wp2
    go_ret
    exact ⟨by rw [Hz.out]; rfl, ((Below.refl _ _).alloc (Nat.le_refl _) _).alloc (by simp) _⟩
  · go_enter Tryz.func143, Tryz.ntmps143
    go_wp2_with fail
    refine (H.out _ (((Below.refl _ _).alloc (Nat.le_refl _) _).alloc (by simp) _)).mono ?_
    rintro e w1 ⟨rfl, b1⟩
    go_wp2
    go_ret
    exact ⟨by rw [Hz.out]; rfl, (((Below.refl _ _).alloc (Nat.le_refl _) _).alloc (by simp) _).trans (b1.mono (by simp; omega))⟩
end Go.Proofs.YtbpdfmpfnbdeoaaGreatDoor
