/- Terms, atoms, parts, rules, relations, programs as plain data, and how they lie in memory. -/
import Derived.Test.YtbpdfmpfnbdeoaaDoorName
import Derived.Test.YtbpdfmpfnbdeoaaDoorSl
import Derived.Below
import Derived.Lib.Hide
namespace Go.Proofs.YtbpdfmpfnbdeoaaDoor
open Go.RowKit

inductive Tm where
  | mk (op : Int) (s : ByteArray) (n : Int) (l : List Tm)
def Tm.op : Tm → Int | .mk o _ _ _ => o
def Tm.s : Tm → ByteArray | .mk _ s _ _ => s
def Tm.n : Tm → Int | .mk _ _ n _ => n
def Tm.l : Tm → List Tm | .mk _ _ _ l => l
@[simp] theorem Tm.op_mk (o : Int) (s : ByteArray) (n : Int) (l : List Tm) : (Tm.mk o s n l).op = o := rfl
@[simp] theorem Tm.s_mk (o : Int) (s : ByteArray) (n : Int) (l : List Tm) : (Tm.mk o s n l).s = s := rfl
@[simp] theorem Tm.n_mk (o : Int) (s : ByteArray) (n : Int) (l : List Tm) : (Tm.mk o s n l).n = n := rfl
@[simp] theorem Tm.l_mk (o : Int) (s : ByteArray) (n : Int) (l : List Tm) : (Tm.mk o s n l).l = l := rfl

structure Am where
  rel : ByteArray
  l : List Tm
structure Lt where
  op : Int
  a : Am
  x : Tm
  y : Tm
structure Ru where
  head : Am
  body : List Lt
  line : Int
structure De where
  rel : ByteArray
  names : List ByteArray
  types : List Int
  inn : Bool
  out : Bool
  line : Int
structure Pg where
  decls : List De
  rules : List Ru

inductive TmC (w : World) (B : Nat) : Tm → List Value → Prop where
  | nil (op : Int) (s : ByteArray) (n : Int) : I64 op → s.size ≤ maxLen → I64 n → TmC w B (.mk op s n []) [.int .i64 op, .string s, .int .i64 n, .slice none 0 0]
  | row (op : Int) (s : ByteArray) (n : Int) (l : List Tm) (a : Addr) (cap : Nat) (cs : Nat → List Value) : I64 op → s.size ≤ maxLen → I64 n → l.length ≤ cap → cap ≤ maxLen → (l ≠ [] → a.block < B) →
      (∀ i x, l[i]? = some x → TmC w B x (cs i)) → (∀ i x, l[i]? = some x → (cs i).length = 4 ∧ CellsAt w a (i * 4) (cs i)) →
      TmC w B (.mk op s n l) [.int .i64 op, .string s, .int .i64 n, .slice (some a) l.length cap]
abbrev TmS (w : World) (B : Nat) (l : List Tm) (v : Value) : Prop := SlOf w B 4 (TmC w B) l v

/-- What a term's cells are. -/
theorem TmC.parts {w : World} {B : Nat} {t : Tm} {cs : List Value} (h : TmC w B t cs) : ∃ v, cs = [.int .i64 t.op, .string t.s, .int .i64 t.n, v] ∧ I64 t.op ∧ t.s.size ≤ maxLen ∧ I64 t.n ∧ TmS w B t.l v := by
  cases h with
  | nil op s n h1 h2 h3 => exact ⟨_, rfl, h1, h2, h3, .inl ⟨rfl, rfl⟩⟩
  | row op s n l a cap cs h1 h2 h3 h4 h5 h6 h7 h8 => exact ⟨_, rfl, h1, h2, h3, .inr ⟨a, cap, rfl, h4, h5, h6, fun i x hx => ⟨cs i, (h8 i x hx).1, h7 i x hx, (h8 i x hx).2⟩⟩⟩
theorem TmC.of {w : World} {B : Nat} {op : Int} {s : ByteArray} {n : Int} {l : List Tm} {v : Value} (h1 : I64 op) (h2 : s.size ≤ maxLen) (h3 : I64 n) (h : TmS w B l v) : TmC w B (.mk op s n l) [.int .i64 op, .string s, .int .i64 n, v] := by
  rcases h with ⟨rfl, rfl⟩ | ⟨a, cap, rfl, h4, h5, h6, h7⟩
  · exact .nil op s n h1 h2 h3
  · let cs : Nat → List Value := fun i => if h : i < l.length then (h7 i l[i] (List.getElem?_eq_getElem h)).choose else []
    have hcs : ∀ i x, l[i]? = some x → (cs i).length = 4 ∧ TmC w B x (cs i) ∧ CellsAt w a (i * 4) (cs i) := by
      intro i x hx
      obtain ⟨hi, e⟩ := List.getElem?_eq_some_iff.1 hx
      subst e
      simp only [cs, dif_pos hi]
      exact (h7 i l[i] (List.getElem?_eq_getElem hi)).choose_spec
    exact .row op s n l a cap cs h1 h2 h3 h4 h5 h6 (fun i x hx => (hcs i x hx).2.1) (fun i x hx => ⟨(hcs i x hx).1, (hcs i x hx).2.2⟩)

theorem TmC.under {w w' : World} {B : Nat} {t : Tm} {cs : List Value} (h : TmC w B t cs) (hb : Below B w w') : TmC w' B t cs := by
  induction h with
  | nil op s n h1 h2 h3 => exact .nil op s n h1 h2 h3
  | row op s n l a cap cs h1 h2 h3 h4 h5 h6 _ h8 ih => exact .row op s n l a cap cs h1 h2 h3 h4 h5 h6 ih fun i x hx => ⟨(h8 i x hx).1, (h8 i x hx).2.below (h6 (by rintro rfl; simp at hx)) hb⟩
theorem TmC.more {w : World} {B B' : Nat} {t : Tm} {cs : List Value} (h : TmC w B t cs) (hB : B ≤ B') : TmC w B' t cs := by
  induction h with
  | nil op s n h1 h2 h3 => exact .nil op s n h1 h2 h3
  | row op s n l a cap cs h1 h2 h3 h4 h5 h6 _ h8 ih => exact .row op s n l a cap cs h1 h2 h3 h4 h5 (fun h => Nat.lt_of_lt_of_le (h6 h) hB) ih h8
theorem TmS.below {w w' : World} {B : Nat} {l : List Tm} {v : Value} (h : TmS w B l v) (hb : Below B w w') : TmS w' B l v := SlOf.below h hb fun _ _ _ h => TmC.under h hb
theorem TmS.more {w : World} {B B' : Nat} {l : List Tm} {v : Value} (h : TmS w B l v) (hB : B ≤ B') : TmS w B' l v := SlOf.more h hB fun _ _ _ h => h.more hB

/-- An atom's cells, a part's, a rule's, a relation's, a program's. -/
def AmC (w : World) (B : Nat) (a : Am) (cs : List Value) : Prop := ∃ v, cs = [.string a.rel, v] ∧ a.rel.size ≤ maxLen ∧ TmS w B a.l v
def LtC (w : World) (B : Nat) (t : Lt) (cs : List Value) : Prop := ∃ ca cx cy, cs = .int .i64 t.op :: (ca ++ cx ++ cy) ∧ I64 t.op ∧ AmC w B t.a ca ∧ TmC w B t.x cx ∧ TmC w B t.y cy
def RuC (w : World) (B : Nat) (r : Ru) (cs : List Value) : Prop := ∃ ca v, cs = ca ++ [v, .int .i64 r.line] ∧ I64 r.line ∧ AmC w B r.head ca ∧ SlOf w B 11 (LtC w B) r.body v
def DeC (w : World) (B : Nat) (d : De) (cs : List Value) : Prop := ∃ v u, cs = [.string d.rel, v, u, .bool d.inn, .bool d.out, .int .i64 d.line] ∧ d.rel.size ≤ maxLen ∧ I64 d.line ∧ SlOf w B 1 StrC d.names v ∧ SlOf w B 1 IntC d.types u
def PgC (w : World) (B : Nat) (p : Pg) (cs : List Value) : Prop := ∃ v u, cs = [v, u] ∧ SlOf w B 6 (DeC w B) p.decls v ∧ SlOf w B 4 (RuC w B) p.rules u

theorem AmC.below {w w' : World} {B : Nat} {t : Am} {cs : List Value} (h : AmC w B t cs) (hb : Below B w w') : AmC w' B t cs := by
  obtain ⟨v, h1, h2, h3⟩ := h
  exact ⟨v, h1, h2, TmS.below h3 hb⟩
theorem AmC.more {w : World} {B B' : Nat} {t : Am} {cs : List Value} (h : AmC w B t cs) (hB : B ≤ B') : AmC w B' t cs := by
  obtain ⟨v, h1, h2, h3⟩ := h
  exact ⟨v, h1, h2, TmS.more h3 hB⟩
theorem LtC.below {w w' : World} {B : Nat} {t : Lt} {cs : List Value} (h : LtC w B t cs) (hb : Below B w w') : LtC w' B t cs := by
  obtain ⟨ca, cx, cy, h1, h2, h3, h4, h5⟩ := h
  exact ⟨ca, cx, cy, h1, h2, h3.below hb, h4.under hb, h5.under hb⟩
theorem LtC.more {w : World} {B B' : Nat} {t : Lt} {cs : List Value} (h : LtC w B t cs) (hB : B ≤ B') : LtC w B' t cs := by
  obtain ⟨ca, cx, cy, h1, h2, h3, h4, h5⟩ := h
  exact ⟨ca, cx, cy, h1, h2, h3.more hB, h4.more hB, h5.more hB⟩
theorem RuC.below {w w' : World} {B : Nat} {t : Ru} {cs : List Value} (h : RuC w B t cs) (hb : Below B w w') : RuC w' B t cs := by
  obtain ⟨ca, v, h1, h2, h3, h4⟩ := h
  exact ⟨ca, v, h1, h2, h3.below hb, SlOf.below h4 hb fun _ _ _ h => h.below hb⟩
theorem RuC.more {w : World} {B B' : Nat} {t : Ru} {cs : List Value} (h : RuC w B t cs) (hB : B ≤ B') : RuC w B' t cs := by
  obtain ⟨ca, v, h1, h2, h3, h4⟩ := h
  exact ⟨ca, v, h1, h2, h3.more hB, SlOf.more h4 hB fun _ _ _ h => h.more hB⟩
theorem DeC.below {w w' : World} {B : Nat} {t : De} {cs : List Value} (h : DeC w B t cs) (hb : Below B w w') : DeC w' B t cs := by
  obtain ⟨v, u, h1, h2, h3, h4, h5⟩ := h
  exact ⟨v, u, h1, h2, h3, SlOf.below h4 hb fun _ _ _ h => h, SlOf.below h5 hb fun _ _ _ h => h⟩
theorem DeC.more {w : World} {B B' : Nat} {t : De} {cs : List Value} (h : DeC w B t cs) (hB : B ≤ B') : DeC w B' t cs := by
  obtain ⟨v, u, h1, h2, h3, h4, h5⟩ := h
  exact ⟨v, u, h1, h2, h3, SlOf.more h4 hB fun _ _ _ h => h, SlOf.more h5 hB fun _ _ _ h => h⟩
theorem PgC.below {w w' : World} {B : Nat} {t : Pg} {cs : List Value} (h : PgC w B t cs) (hb : Below B w w') : PgC w' B t cs := by
  obtain ⟨v, u, h1, h2, h3⟩ := h
  exact ⟨v, u, h1, SlOf.below h2 hb fun _ _ _ h => h.below hb, SlOf.below h3 hb fun _ _ _ h => h.below hb⟩
theorem PgC.more {w : World} {B B' : Nat} {t : Pg} {cs : List Value} (h : PgC w B t cs) (hB : B ≤ B') : PgC w B' t cs := by
  obtain ⟨v, u, h1, h2, h3⟩ := h
  exact ⟨v, u, h1, SlOf.more h2 hB fun _ _ _ h => h.more hB, SlOf.more h3 hB fun _ _ _ h => h.more hB⟩
theorem TmC.len {w : World} {B : Nat} {t : Tm} {cs : List Value} (h : TmC w B t cs) : cs.length = 4 := by obtain ⟨v, rfl, _⟩ := h.parts; rfl
theorem AmC.len {w : World} {B : Nat} {t : Am} {cs : List Value} (h : AmC w B t cs) : cs.length = 2 := by obtain ⟨v, rfl, _⟩ := h; rfl
theorem LtC.len {w : World} {B : Nat} {t : Lt} {cs : List Value} (h : LtC w B t cs) : cs.length = 11 := by
  obtain ⟨ca, cx, cy, rfl, _, h1, h2, h3⟩ := h
  simp [h1.len, h2.len, h3.len]
theorem RuC.len {w : World} {B : Nat} {t : Ru} {cs : List Value} (h : RuC w B t cs) : cs.length = 4 := by
  obtain ⟨ca, v, rfl, _, h1, _⟩ := h
  simp [h1.len]
theorem DeC.len {w : World} {B : Nat} {t : De} {cs : List Value} (h : DeC w B t cs) : cs.length = 6 := by obtain ⟨v, u, rfl, _⟩ := h; rfl

theorem TmC.look {w : World} {B : Nat} {t : Tm} {cs : List Value} (h : TmC w B t cs) : ∃ o cap, cs = [.int .i64 t.op, .string t.s, .int .i64 t.n, .slice o t.l.length cap] ∧ I64 t.op ∧ t.s.size ≤ maxLen ∧ I64 t.n ∧ TmS w B t.l (.slice o t.l.length cap) := by
  obtain ⟨v, rfl, h1, h2, h3, h4⟩ := h.parts
  obtain ⟨o, cap, rfl, _⟩ := SlOf.uni h4
  exact ⟨o, cap, rfl, h1, h2, h3, h4⟩
/-- A term in a slice, as a round of a walk reads it. -/
theorem tm_at {w wr : World} {l : List Tm} {o : Option Addr} {k : Nat} {t : Tm} (S : Hid (SlIn w w.heap.size 4 (TmC w w.heap.size) l o)) (hB : Below w.heap.size w wr) (ht : l[k]? = some t) :
    ∃ a o' cap', o = some a ∧ a.block < w.heap.size ∧ Hid (TmC wr wr.heap.size t [.int .i64 t.op, .string t.s, .int .i64 t.n, .slice o' t.l.length cap']) ∧
      wr.cell? (a.add (k * 4)) = some (.int .i64 t.op) ∧ wr.cell? ⟨(a.add (k * 4)).block, (a.add (k * 4)).off + 1, none⟩ = some (.string t.s) ∧ wr.cell? ⟨(a.add (k * 4)).block, (a.add (k * 4)).off + 2, none⟩ = some (.int .i64 t.n) ∧ wr.cell? ⟨(a.add (k * 4)).block, (a.add (k * 4)).off + 3, none⟩ = some (.slice o' t.l.length cap') := by
  obtain ⟨a, cs, rfl, ha, _, h1, h2⟩ := S.out k t ht
  obtain ⟨o', cap', rfl, _⟩ := h1.look
  exact ⟨a, o', cap', rfl, ha, Lib.hid ((h1.under hB).more hB.size), (h2.below ha hB).four⟩
end Go.Proofs.YtbpdfmpfnbdeoaaDoor
