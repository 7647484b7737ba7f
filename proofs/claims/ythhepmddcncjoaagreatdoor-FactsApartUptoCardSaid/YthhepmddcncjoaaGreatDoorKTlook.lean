/- How atoms, parts, rules, relations lie in memory, cell by cell; what a walk reads of them; what a call keeps. Rows of cells: small facts. Two values held against each other. dtype.Find: the first relation of a name. dtree.sameTerm and slices.EqualFunc over terms. dtree.sameAtom, sameLit, sameRule, and slices.EqualFunc over parts and rules. size, sizeAtom, sizeRule, long, Small of the laws of layer 3. -/
import Derived.Test.YthhepmddcncjoaaGreatDoorKRef
import Derived.RangeFuncRecord
import Derived.WalkMore
import Derived.Deep.LoopGhost
import Derived.BigQuiet
import Derived.Deep.QuietTactic
set_option linter.unusedSimpArgs false
set_option linter.unusedVariables false
namespace Go.Proofs.YthhepmddcncjoaaGreatDoor
open Go.RowKit

theorem CellsAt.n6 {w : World} {a : Addr} {o : Nat} {c0 c1 c2 c3 c4 c5 : Value} (h : CellsAt w a o [c0, c1, c2, c3, c4, c5]) : w.cell? (a.add o) = some c0 ∧ w.cell? ⟨(a.add o).block, (a.add o).off + 1, none⟩ = some c1 ∧ w.cell? ⟨(a.add o).block, (a.add o).off + 2, none⟩ = some c2 ∧ w.cell? ⟨(a.add o).block, (a.add o).off + 3, none⟩ = some c3 ∧ w.cell? ⟨(a.add o).block, (a.add o).off + 4, none⟩ = some c4 ∧ w.cell? ⟨(a.add o).block, (a.add o).off + 5, none⟩ = some c5 := by
  rw [← addNext a o 1 (by omega), ← addNext a o 2 (by omega), ← addNext a o 3 (by omega), ← addNext a o 4 (by omega), ← addNext a o 5 (by omega)]
  exact ⟨h 0 _ rfl, h 1 _ rfl, h 2 _ rfl, h 3 _ rfl, h 4 _ rfl, h 5 _ rfl⟩
theorem CellsAt.n11 {w : World} {a : Addr} {o : Nat} {c0 c1 c2 c3 c4 c5 c6 c7 c8 c9 c10 : Value} (h : CellsAt w a o [c0, c1, c2, c3, c4, c5, c6, c7, c8, c9, c10]) : w.cell? (a.add o) = some c0 ∧ w.cell? ⟨(a.add o).block, (a.add o).off + 1, none⟩ = some c1 ∧ w.cell? ⟨(a.add o).block, (a.add o).off + 2, none⟩ = some c2 ∧ w.cell? ⟨(a.add o).block, (a.add o).off + 3, none⟩ = some c3 ∧ w.cell? ⟨(a.add o).block, (a.add o).off + 4, none⟩ = some c4 ∧ w.cell? ⟨(a.add o).block, (a.add o).off + 5, none⟩ = some c5 ∧ w.cell? ⟨(a.add o).block, (a.add o).off + 6, none⟩ = some c6 ∧ w.cell? ⟨(a.add o).block, (a.add o).off + 7, none⟩ = some c7 ∧ w.cell? ⟨(a.add o).block, (a.add o).off + 8, none⟩ = some c8 ∧ w.cell? ⟨(a.add o).block, (a.add o).off + 9, none⟩ = some c9 ∧ w.cell? ⟨(a.add o).block, (a.add o).off + 10, none⟩ = some c10 := by
  rw [← addNext a o 1 (by omega), ← addNext a o 2 (by omega), ← addNext a o 3 (by omega), ← addNext a o 4 (by omega), ← addNext a o 5 (by omega), ← addNext a o 6 (by omega), ← addNext a o 7 (by omega), ← addNext a o 8 (by omega), ← addNext a o 9 (by omega), ← addNext a o 10 (by omega)]
  exact ⟨h 0 _ rfl, h 1 _ rfl, h 2 _ rfl, h 3 _ rfl, h 4 _ rfl, h 5 _ rfl, h 6 _ rfl, h 7 _ rfl, h 8 _ rfl, h 9 _ rfl, h 10 _ rfl⟩

theorem AmC.look {w : World} {B : Nat} {t : Am} {cs : List Value} (h : AmC w B t cs) : ∃ o cap, cs = [.string t.rel, .slice o t.l.length cap] ∧ t.rel.size ≤ maxLen ∧ TmS w B t.l (.slice o t.l.length cap) := by
  obtain ⟨v, rfl, h1, h2⟩ := h
  obtain ⟨o, cap, rfl, _⟩ := SlOf.uni h2
  exact ⟨o, cap, rfl, h1, h2⟩
theorem LtC.look {w : World} {B : Nat} {t : Lt} {cs : List Value} (h : LtC w B t cs) : ∃ o0 k0 o1 k1 o2 k2, cs = [.int .i64 t.op, .string t.a.rel, .slice o0 t.a.l.length k0, .int .i64 t.x.op, .string t.x.s, .int .i64 t.x.n, .slice o1 t.x.l.length k1, .int .i64 t.y.op, .string t.y.s, .int .i64 t.y.n, .slice o2 t.y.l.length k2] ∧ I64 t.op ∧
    AmC w B t.a [.string t.a.rel, .slice o0 t.a.l.length k0] ∧ TmC w B t.x [.int .i64 t.x.op, .string t.x.s, .int .i64 t.x.n, .slice o1 t.x.l.length k1] ∧ TmC w B t.y [.int .i64 t.y.op, .string t.y.s, .int .i64 t.y.n, .slice o2 t.y.l.length k2] := by
  obtain ⟨ca, cx, cy, rfl, h1, h2, h3, h4⟩ := h
  obtain ⟨o0, k0, rfl, _⟩ := h2.look
  obtain ⟨o1, k1, rfl, _⟩ := h3.look
  obtain ⟨o2, k2, rfl, _⟩ := h4.look
  exact ⟨o0, k0, o1, k1, o2, k2, rfl, h1, h2, h3, h4⟩
theorem RuC.look {w : World} {B : Nat} {t : Ru} {cs : List Value} (h : RuC w B t cs) : ∃ o0 k0 o1 k1, cs = [.string t.head.rel, .slice o0 t.head.l.length k0, .slice o1 t.body.length k1, .int .i64 t.line] ∧ I64 t.line ∧
    AmC w B t.head [.string t.head.rel, .slice o0 t.head.l.length k0] ∧ SlOf w B 11 (LtC w B) t.body (.slice o1 t.body.length k1) := by
  obtain ⟨ca, v, rfl, h1, h2, h3⟩ := h
  obtain ⟨o0, k0, rfl, _⟩ := h2.look
  obtain ⟨o1, k1, rfl, _⟩ := SlOf.uni h3
  exact ⟨o0, k0, o1, k1, rfl, h1, h2, h3⟩
theorem DeC.look {w : World} {B : Nat} {d : De} {cs : List Value} (h : DeC w B d cs) : ∃ o0 k0 o1 k1, cs = [.string d.rel, .slice o0 d.names.length k0, .slice o1 d.types.length k1, .bool d.inn, .bool d.out, .int .i64 d.line] ∧ d.rel.size ≤ maxLen ∧ I64 d.line ∧
    SlOf w B 1 StrC d.names (.slice o0 d.names.length k0) ∧ SlOf w B 1 IntC d.types (.slice o1 d.types.length k1) := by
  obtain ⟨v, u, rfl, h1, h2, h3, h4⟩ := h
  obtain ⟨o0, k0, rfl, _⟩ := SlOf.uni h3
  obtain ⟨o1, k1, rfl, _⟩ := SlOf.uni h4
  exact ⟨o0, k0, o1, k1, rfl, h1, h2, h3, h4⟩
theorem PgC.look {w : World} {B : Nat} {d : Pg} {cs : List Value} (h : PgC w B d cs) : ∃ o0 k0 o1 k1, cs = [.slice o0 d.decls.length k0, .slice o1 d.rules.length k1] ∧
    SlOf w B 6 (DeC w B) d.decls (.slice o0 d.decls.length k0) ∧ SlOf w B 4 (RuC w B) d.rules (.slice o1 d.rules.length k1) := by
  obtain ⟨v, u, rfl, h3, h4⟩ := h
  obtain ⟨o0, k0, rfl, _⟩ := SlOf.uni h3
  obtain ⟨o1, k1, rfl, _⟩ := SlOf.uni h4
  exact ⟨o0, k0, o1, k1, rfl, h3, h4⟩
theorem SlOf.lit {w w' : World} {B B' : Nat} {l : List Lt} {v : Value} (h : SlOf w B 11 (LtC w B) l v) (hb : Below B w w') (hB : B ≤ B') : SlOf w' B' 11 (LtC w' B') l v := SlOf.more (SlOf.below h hb fun _ _ _ h => h.below hb) hB fun _ _ _ h => h.more hB
theorem SlOf.rule {w w' : World} {B B' : Nat} {l : List Ru} {v : Value} (h : SlOf w B 4 (RuC w B) l v) (hb : Below B w w') (hB : B ≤ B') : SlOf w' B' 4 (RuC w' B') l v := SlOf.more (SlOf.below h hb fun _ _ _ h => h.below hb) hB fun _ _ _ h => h.more hB
theorem SlOf.decl {w w' : World} {B B' : Nat} {l : List De} {v : Value} (h : SlOf w B 6 (DeC w B) l v) (hb : Below B w w') (hB : B ≤ B') : SlOf w' B' 6 (DeC w' B') l v := SlOf.more (SlOf.below h hb fun _ _ _ h => h.below hb) hB fun _ _ _ h => h.more hB

theorem lt_at {w wr : World} {l : List Lt} {o : Option Addr} {k : Nat} {t : Lt} (S : Hid (SlIn w w.heap.size 11 (LtC w w.heap.size) l o)) (hB : Below w.heap.size w wr) (ht : l[k]? = some t) :
    ∃ a o0 k0 o1 k1 o2 k2, o = some a ∧ a.block < w.heap.size ∧ Hid (LtC wr wr.heap.size t [.int .i64 t.op, .string t.a.rel, .slice o0 t.a.l.length k0, .int .i64 t.x.op, .string t.x.s, .int .i64 t.x.n, .slice o1 t.x.l.length k1, .int .i64 t.y.op, .string t.y.s, .int .i64 t.y.n, .slice o2 t.y.l.length k2]) ∧
      wr.cell? (a.add (k * 11)) = some (.int .i64 t.op) ∧ wr.cell? ⟨(a.add (k * 11)).block, (a.add (k * 11)).off + 1, none⟩ = some (.string t.a.rel) ∧ wr.cell? ⟨(a.add (k * 11)).block, (a.add (k * 11)).off + 2, none⟩ = some (.slice o0 t.a.l.length k0) ∧ wr.cell? ⟨(a.add (k * 11)).block, (a.add (k * 11)).off + 3, none⟩ = some (.int .i64 t.x.op) ∧ wr.cell? ⟨(a.add (k * 11)).block, (a.add (k * 11)).off + 4, none⟩ = some (.string t.x.s) ∧ wr.cell? ⟨(a.add (k * 11)).block, (a.add (k * 11)).off + 5, none⟩ = some (.int .i64 t.x.n) ∧ wr.cell? ⟨(a.add (k * 11)).block, (a.add (k * 11)).off + 6, none⟩ = some (.slice o1 t.x.l.length k1) ∧ wr.cell? ⟨(a.add (k * 11)).block, (a.add (k * 11)).off + 7, none⟩ = some (.int .i64 t.y.op) ∧ wr.cell? ⟨(a.add (k * 11)).block, (a.add (k * 11)).off + 8, none⟩ = some (.string t.y.s) ∧ wr.cell? ⟨(a.add (k * 11)).block, (a.add (k * 11)).off + 9, none⟩ = some (.int .i64 t.y.n) ∧ wr.cell? ⟨(a.add (k * 11)).block, (a.add (k * 11)).off + 10, none⟩ = some (.slice o2 t.y.l.length k2) := by
  obtain ⟨a, cs, rfl, ha, _, h1, h2⟩ := S.out k t ht
  obtain ⟨o0, k0, o1, k1, o2, k2, rfl, _⟩ := h1.look
  exact ⟨a, o0, k0, o1, k1, o2, k2, rfl, ha, Lib.hid ((h1.below hB).more hB.size), (h2.below ha hB).n11⟩
theorem ru_at {w wr : World} {l : List Ru} {o : Option Addr} {k : Nat} {t : Ru} (S : Hid (SlIn w w.heap.size 4 (RuC w w.heap.size) l o)) (hB : Below w.heap.size w wr) (ht : l[k]? = some t) :
    ∃ a o0 k0 o1 k1, o = some a ∧ a.block < w.heap.size ∧ Hid (RuC wr wr.heap.size t [.string t.head.rel, .slice o0 t.head.l.length k0, .slice o1 t.body.length k1, .int .i64 t.line]) ∧
      wr.cell? (a.add (k * 4)) = some (.string t.head.rel) ∧ wr.cell? ⟨(a.add (k * 4)).block, (a.add (k * 4)).off + 1, none⟩ = some (.slice o0 t.head.l.length k0) ∧ wr.cell? ⟨(a.add (k * 4)).block, (a.add (k * 4)).off + 2, none⟩ = some (.slice o1 t.body.length k1) ∧ wr.cell? ⟨(a.add (k * 4)).block, (a.add (k * 4)).off + 3, none⟩ = some (.int .i64 t.line) := by
  obtain ⟨a, cs, rfl, ha, _, h1, h2⟩ := S.out k t ht
  obtain ⟨o0, k0, o1, k1, rfl, _⟩ := h1.look
  exact ⟨a, o0, k0, o1, k1, rfl, ha, Lib.hid ((h1.below hB).more hB.size), (h2.below ha hB).four⟩
theorem de_at {w wr : World} {l : List De} {o : Option Addr} {k : Nat} {t : De} (S : Hid (SlIn w w.heap.size 6 (DeC w w.heap.size) l o)) (hB : Below w.heap.size w wr) (ht : l[k]? = some t) :
    ∃ a o0 k0 o1 k1, o = some a ∧ a.block < w.heap.size ∧ Hid (DeC wr wr.heap.size t [.string t.rel, .slice o0 t.names.length k0, .slice o1 t.types.length k1, .bool t.inn, .bool t.out, .int .i64 t.line]) ∧
      wr.cell? (a.add (k * 6)) = some (.string t.rel) ∧ wr.cell? ⟨(a.add (k * 6)).block, (a.add (k * 6)).off + 1, none⟩ = some (.slice o0 t.names.length k0) ∧ wr.cell? ⟨(a.add (k * 6)).block, (a.add (k * 6)).off + 2, none⟩ = some (.slice o1 t.types.length k1) ∧ wr.cell? ⟨(a.add (k * 6)).block, (a.add (k * 6)).off + 3, none⟩ = some (.bool t.inn) ∧ wr.cell? ⟨(a.add (k * 6)).block, (a.add (k * 6)).off + 4, none⟩ = some (.bool t.out) ∧ wr.cell? ⟨(a.add (k * 6)).block, (a.add (k * 6)).off + 5, none⟩ = some (.int .i64 t.line) := by
  obtain ⟨a, cs, rfl, ha, _, h1, h2⟩ := S.out k t ht
  obtain ⟨o0, k0, o1, k1, rfl, _⟩ := h1.look
  exact ⟨a, o0, k0, o1, k1, rfl, ha, Lib.hid ((h1.below hB).more hB.size), (h2.below ha hB).n6⟩
theorem held44 {W w1 : World} (b : Below W.heap.size W.drew w1) {x0 x1 i0 i1 : Nat} {p q : Addr} {v0 v1 v2 v3 v4 v5 v6 v7 v8 v9 : Value} (hx0 : x0 < W.heap.size) (hx1 : x1 < W.heap.size) (hp : p.block < W.heap.size) (hq : q.block < W.heap.size)
    (h : W.cell? ⟨x0, i0, none⟩ = some v0 ∧ W.cell? ⟨x1, i1, none⟩ = some v1 ∧ W.cell? p = some v2 ∧ W.cell? ⟨p.block, p.off + 1, none⟩ = some v3 ∧ W.cell? ⟨p.block, p.off + 2, none⟩ = some v4 ∧ W.cell? ⟨p.block, p.off + 3, none⟩ = some v5 ∧ W.cell? q = some v6 ∧ W.cell? ⟨q.block, q.off + 1, none⟩ = some v7 ∧ W.cell? ⟨q.block, q.off + 2, none⟩ = some v8 ∧ W.cell? ⟨q.block, q.off + 3, none⟩ = some v9) :
    w1.cell? ⟨x0, i0, none⟩ = some v0 ∧ w1.cell? ⟨x1, i1, none⟩ = some v1 ∧ w1.cell? p = some v2 ∧ w1.cell? ⟨p.block, p.off + 1, none⟩ = some v3 ∧ w1.cell? ⟨p.block, p.off + 2, none⟩ = some v4 ∧ w1.cell? ⟨p.block, p.off + 3, none⟩ = some v5 ∧ w1.cell? q = some v6 ∧ w1.cell? ⟨q.block, q.off + 1, none⟩ = some v7 ∧ w1.cell? ⟨q.block, q.off + 2, none⟩ = some v8 ∧ w1.cell? ⟨q.block, q.off + 3, none⟩ = some v9 := by
  obtain ⟨h0, h1, h2, h3, h4, h5, h6, h7, h8, h9⟩ := h
  exact ⟨(b.cell (p := ⟨x0, i0, none⟩) hx0).trans h0, (b.cell (p := ⟨x1, i1, none⟩) hx1).trans h1, (b.cell hp).trans h2, (b.cell (p := ⟨p.block, p.off + 1, none⟩) hp).trans h3, (b.cell (p := ⟨p.block, p.off + 2, none⟩) hp).trans h4, (b.cell (p := ⟨p.block, p.off + 3, none⟩) hp).trans h5, (b.cell hq).trans h6, (b.cell (p := ⟨q.block, q.off + 1, none⟩) hq).trans h7, (b.cell (p := ⟨q.block, q.off + 2, none⟩) hq).trans h8, (b.cell (p := ⟨q.block, q.off + 3, none⟩) hq).trans h9⟩
theorem held11 {W w1 : World} (b : Below W.heap.size W.drew w1) {x0 x1 i0 i1 : Nat} {p q : Addr} {v0 v1 v2 v3 v4 v5 v6 v7 v8 v9 v10 v11 v12 v13 v14 v15 v16 v17 v18 v19 v20 v21 v22 v23 : Value} (hx0 : x0 < W.heap.size) (hx1 : x1 < W.heap.size) (hp : p.block < W.heap.size) (hq : q.block < W.heap.size)
    (h : W.cell? ⟨x0, i0, none⟩ = some v0 ∧ W.cell? ⟨x1, i1, none⟩ = some v1 ∧ W.cell? p = some v2 ∧ W.cell? ⟨p.block, p.off + 1, none⟩ = some v3 ∧ W.cell? ⟨p.block, p.off + 2, none⟩ = some v4 ∧ W.cell? ⟨p.block, p.off + 3, none⟩ = some v5 ∧ W.cell? ⟨p.block, p.off + 4, none⟩ = some v6 ∧ W.cell? ⟨p.block, p.off + 5, none⟩ = some v7 ∧ W.cell? ⟨p.block, p.off + 6, none⟩ = some v8 ∧ W.cell? ⟨p.block, p.off + 7, none⟩ = some v9 ∧ W.cell? ⟨p.block, p.off + 8, none⟩ = some v10 ∧ W.cell? ⟨p.block, p.off + 9, none⟩ = some v11 ∧ W.cell? ⟨p.block, p.off + 10, none⟩ = some v12 ∧ W.cell? q = some v13 ∧ W.cell? ⟨q.block, q.off + 1, none⟩ = some v14 ∧ W.cell? ⟨q.block, q.off + 2, none⟩ = some v15 ∧ W.cell? ⟨q.block, q.off + 3, none⟩ = some v16 ∧ W.cell? ⟨q.block, q.off + 4, none⟩ = some v17 ∧ W.cell? ⟨q.block, q.off + 5, none⟩ = some v18 ∧ W.cell? ⟨q.block, q.off + 6, none⟩ = some v19 ∧ W.cell? ⟨q.block, q.off + 7, none⟩ = some v20 ∧ W.cell? ⟨q.block, q.off + 8, none⟩ = some v21 ∧ W.cell? ⟨q.block, q.off + 9, none⟩ = some v22 ∧ W.cell? ⟨q.block, q.off + 10, none⟩ = some v23) :
    w1.cell? ⟨x0, i0, none⟩ = some v0 ∧ w1.cell? ⟨x1, i1, none⟩ = some v1 ∧ w1.cell? p = some v2 ∧ w1.cell? ⟨p.block, p.off + 1, none⟩ = some v3 ∧ w1.cell? ⟨p.block, p.off + 2, none⟩ = some v4 ∧ w1.cell? ⟨p.block, p.off + 3, none⟩ = some v5 ∧ w1.cell? ⟨p.block, p.off + 4, none⟩ = some v6 ∧ w1.cell? ⟨p.block, p.off + 5, none⟩ = some v7 ∧ w1.cell? ⟨p.block, p.off + 6, none⟩ = some v8 ∧ w1.cell? ⟨p.block, p.off + 7, none⟩ = some v9 ∧ w1.cell? ⟨p.block, p.off + 8, none⟩ = some v10 ∧ w1.cell? ⟨p.block, p.off + 9, none⟩ = some v11 ∧ w1.cell? ⟨p.block, p.off + 10, none⟩ = some v12 ∧ w1.cell? q = some v13 ∧ w1.cell? ⟨q.block, q.off + 1, none⟩ = some v14 ∧ w1.cell? ⟨q.block, q.off + 2, none⟩ = some v15 ∧ w1.cell? ⟨q.block, q.off + 3, none⟩ = some v16 ∧ w1.cell? ⟨q.block, q.off + 4, none⟩ = some v17 ∧ w1.cell? ⟨q.block, q.off + 5, none⟩ = some v18 ∧ w1.cell? ⟨q.block, q.off + 6, none⟩ = some v19 ∧ w1.cell? ⟨q.block, q.off + 7, none⟩ = some v20 ∧ w1.cell? ⟨q.block, q.off + 8, none⟩ = some v21 ∧ w1.cell? ⟨q.block, q.off + 9, none⟩ = some v22 ∧ w1.cell? ⟨q.block, q.off + 10, none⟩ = some v23 := by
  obtain ⟨h0, h1, h2, h3, h4, h5, h6, h7, h8, h9, h10, h11, h12, h13, h14, h15, h16, h17, h18, h19, h20, h21, h22, h23⟩ := h
  exact ⟨(b.cell (p := ⟨x0, i0, none⟩) hx0).trans h0, (b.cell (p := ⟨x1, i1, none⟩) hx1).trans h1, (b.cell hp).trans h2, (b.cell (p := ⟨p.block, p.off + 1, none⟩) hp).trans h3, (b.cell (p := ⟨p.block, p.off + 2, none⟩) hp).trans h4, (b.cell (p := ⟨p.block, p.off + 3, none⟩) hp).trans h5, (b.cell (p := ⟨p.block, p.off + 4, none⟩) hp).trans h6, (b.cell (p := ⟨p.block, p.off + 5, none⟩) hp).trans h7, (b.cell (p := ⟨p.block, p.off + 6, none⟩) hp).trans h8, (b.cell (p := ⟨p.block, p.off + 7, none⟩) hp).trans h9, (b.cell (p := ⟨p.block, p.off + 8, none⟩) hp).trans h10, (b.cell (p := ⟨p.block, p.off + 9, none⟩) hp).trans h11, (b.cell (p := ⟨p.block, p.off + 10, none⟩) hp).trans h12, (b.cell hq).trans h13, (b.cell (p := ⟨q.block, q.off + 1, none⟩) hq).trans h14, (b.cell (p := ⟨q.block, q.off + 2, none⟩) hq).trans h15, (b.cell (p := ⟨q.block, q.off + 3, none⟩) hq).trans h16, (b.cell (p := ⟨q.block, q.off + 4, none⟩) hq).trans h17, (b.cell (p := ⟨q.block, q.off + 5, none⟩) hq).trans h18, (b.cell (p := ⟨q.block, q.off + 6, none⟩) hq).trans h19, (b.cell (p := ⟨q.block, q.off + 7, none⟩) hq).trans h20, (b.cell (p := ⟨q.block, q.off + 8, none⟩) hq).trans h21, (b.cell (p := ⟨q.block, q.off + 9, none⟩) hq).trans h22, (b.cell (p := ⟨q.block, q.off + 10, none⟩) hq).trans h23⟩
theorem held66 {W w1 : World} (b : Below W.heap.size W.drew w1) {x0 x1 i0 i1 : Nat} {p q : Addr} {v0 v1 v2 v3 v4 v5 v6 v7 v8 v9 v10 v11 v12 v13 : Value} (hx0 : x0 < W.heap.size) (hx1 : x1 < W.heap.size) (hp : p.block < W.heap.size) (hq : q.block < W.heap.size)
    (h : W.cell? ⟨x0, i0, none⟩ = some v0 ∧ W.cell? ⟨x1, i1, none⟩ = some v1 ∧ W.cell? p = some v2 ∧ W.cell? ⟨p.block, p.off + 1, none⟩ = some v3 ∧ W.cell? ⟨p.block, p.off + 2, none⟩ = some v4 ∧ W.cell? ⟨p.block, p.off + 3, none⟩ = some v5 ∧ W.cell? ⟨p.block, p.off + 4, none⟩ = some v6 ∧ W.cell? ⟨p.block, p.off + 5, none⟩ = some v7 ∧ W.cell? q = some v8 ∧ W.cell? ⟨q.block, q.off + 1, none⟩ = some v9 ∧ W.cell? ⟨q.block, q.off + 2, none⟩ = some v10 ∧ W.cell? ⟨q.block, q.off + 3, none⟩ = some v11 ∧ W.cell? ⟨q.block, q.off + 4, none⟩ = some v12 ∧ W.cell? ⟨q.block, q.off + 5, none⟩ = some v13) :
    w1.cell? ⟨x0, i0, none⟩ = some v0 ∧ w1.cell? ⟨x1, i1, none⟩ = some v1 ∧ w1.cell? p = some v2 ∧ w1.cell? ⟨p.block, p.off + 1, none⟩ = some v3 ∧ w1.cell? ⟨p.block, p.off + 2, none⟩ = some v4 ∧ w1.cell? ⟨p.block, p.off + 3, none⟩ = some v5 ∧ w1.cell? ⟨p.block, p.off + 4, none⟩ = some v6 ∧ w1.cell? ⟨p.block, p.off + 5, none⟩ = some v7 ∧ w1.cell? q = some v8 ∧ w1.cell? ⟨q.block, q.off + 1, none⟩ = some v9 ∧ w1.cell? ⟨q.block, q.off + 2, none⟩ = some v10 ∧ w1.cell? ⟨q.block, q.off + 3, none⟩ = some v11 ∧ w1.cell? ⟨q.block, q.off + 4, none⟩ = some v12 ∧ w1.cell? ⟨q.block, q.off + 5, none⟩ = some v13 := by
  obtain ⟨h0, h1, h2, h3, h4, h5, h6, h7, h8, h9, h10, h11, h12, h13⟩ := h
  exact ⟨(b.cell (p := ⟨x0, i0, none⟩) hx0).trans h0, (b.cell (p := ⟨x1, i1, none⟩) hx1).trans h1, (b.cell hp).trans h2, (b.cell (p := ⟨p.block, p.off + 1, none⟩) hp).trans h3, (b.cell (p := ⟨p.block, p.off + 2, none⟩) hp).trans h4, (b.cell (p := ⟨p.block, p.off + 3, none⟩) hp).trans h5, (b.cell (p := ⟨p.block, p.off + 4, none⟩) hp).trans h6, (b.cell (p := ⟨p.block, p.off + 5, none⟩) hp).trans h7, (b.cell hq).trans h8, (b.cell (p := ⟨q.block, q.off + 1, none⟩) hq).trans h9, (b.cell (p := ⟨q.block, q.off + 2, none⟩) hq).trans h10, (b.cell (p := ⟨q.block, q.off + 3, none⟩) hq).trans h11, (b.cell (p := ⟨q.block, q.off + 4, none⟩) hq).trans h12, (b.cell (p := ⟨q.block, q.off + 5, none⟩) hq).trans h13⟩
theorem held4 {W w1 : World} (b : Below W.heap.size W.drew w1) {x0 i0 : Nat} {p : Addr} {v0 v1 v2 v3 v4 : Value} (hx0 : x0 < W.heap.size) (hp : p.block < W.heap.size)
    (h : W.cell? ⟨x0, i0, none⟩ = some v0 ∧ W.cell? p = some v1 ∧ W.cell? ⟨p.block, p.off + 1, none⟩ = some v2 ∧ W.cell? ⟨p.block, p.off + 2, none⟩ = some v3 ∧ W.cell? ⟨p.block, p.off + 3, none⟩ = some v4) :
    w1.cell? ⟨x0, i0, none⟩ = some v0 ∧ w1.cell? p = some v1 ∧ w1.cell? ⟨p.block, p.off + 1, none⟩ = some v2 ∧ w1.cell? ⟨p.block, p.off + 2, none⟩ = some v3 ∧ w1.cell? ⟨p.block, p.off + 3, none⟩ = some v4 := by
  obtain ⟨h0, h1, h2, h3, h4⟩ := h
  exact ⟨(b.cell (p := ⟨x0, i0, none⟩) hx0).trans h0, (b.cell hp).trans h1, (b.cell (p := ⟨p.block, p.off + 1, none⟩) hp).trans h2, (b.cell (p := ⟨p.block, p.off + 2, none⟩) hp).trans h3, (b.cell (p := ⟨p.block, p.off + 3, none⟩) hp).trans h4⟩
end Go.Proofs.YthhepmddcncjoaaGreatDoor
namespace Go.Proofs.YthhepmddcncjoaaGreatDoor
open Go.RowKit

theorem heap_lt {w : World} {i : Nat} {o : Obj} (h : w.heap[i]? = some o) : i < w.heap.size := (Array.getElem?_eq_some_iff.1 h).1
theorem row_cells {w : World} {b : Nat} {cs : Array Value} {T : TypeId} (h : w.heap[b]? = some (.cells cs T (0, 0))) (i : Nat) : w.cell? ⟨b, i, none⟩ = cs[i]? := by unfold World.cell?; rw [h]; rfl
theorem frz_row {w : World} {b : Nat} {cs : Array Value} {T : TypeId} (h : w.heap[b]? = some (.cells cs T (0, 0))) (i : Nat) : w.frozen? ⟨b, i, none⟩ = false := by unfold World.frozen?; rw [h]; simp
theorem drewB {n : Nat} {w w' : World} (h : Below n w.drew w') : Below n w w' := ⟨h.os, h.tape, h.output, h.size, h.block⟩
theorem rowNew (w : World) (T : TypeId) (cs : List Value) : (w.alloc (.cells cs.toArray T)).heap[w.heap.size]? = some (.cells cs.toArray T (0, 0)) := World.alloc_heap_new w _
theorem alB (w : World) (C : Obj) : Below w.heap.size w (w.alloc C) := (Below.refl _ _).alloc (Nat.le_refl _) _
theorem rowSet {w : World} {b : Nat} {cs : Array Value} {T : TypeId} {fz : Nat × Nat} (h : w.heap[b]? = some (.cells cs T fz)) (k : Nat) (u : Value) : (w.setCell ⟨b, k, none⟩ u).heap[b]? = some (.cells (cs.setIfInBounds k u) T fz) := by
  have hlt := (Array.getElem?_eq_some_iff.1 h).1
  have h' : w.heap[b] = .cells cs T fz := by simpa [Array.getElem?_eq_getElem hlt] using h
  show (w.heap.modify b _)[b]? = _
  rw [Array.getElem?_eq_getElem (by simpa using hlt), Array.getElem_modify_self, h']
  rfl
theorem set3 {w : World} {q : Nat} {T : TypeId} {c0 c1 c2 : Value} (h : w.heap[q]? = some (.cells #[c0, c1, c2] T (0, 0))) (v0 v1 v2 : Value) : (((w.setCell ⟨q, 0, none⟩ v0).setCell ⟨q, 1, none⟩ v1).setCell ⟨q, 2, none⟩ v2).heap[q]? = some (.cells #[v0, v1, v2] T (0, 0)) := by
  have h1 := rowSet h 0 v0
  have h2 := rowSet h1 1 v1
  have h3 := rowSet h2 2 v2
  simpa using h3
theorem set3B {n : Nat} {w0 w : World} {q : Nat} (h : Below n w0 w) (hq : n ≤ q) (v0 v1 v2 : Value) : Below n w0 (((w.setCell ⟨q, 0, none⟩ v0).setCell ⟨q, 1, none⟩ v1).setCell ⟨q, 2, none⟩ v2) :=
  ((h.setCell (p := ⟨q, 0, none⟩) hq v0).setCell (p := ⟨q, 1, none⟩) hq v1).setCell (p := ⟨q, 2, none⟩) hq v2
end Go.Proofs.YthhepmddcncjoaaGreatDoor
namespace Go.Proofs.YthhepmddcncjoaaGreatDoor
open Go.RowKit

theorem val_fields : (Tryz.prog.fieldsOf 51).toList.map (fun f => (f.name, f.type, f.offset)) = [("Sym", 4, 0), ("N", 2, 1), ("S", 9, 2)] := by kernel_rfl
theorem val_struct : Tryz.prog.underlying 51 = some (.struct (Tryz.prog.fieldsOf 51)) := by kernel_rfl
theorem val_held : Tryz.prog.stoodInHeld 51 = false := by kernel_rfl
theorem eqVal (a b : Bool) (n m : Int) (s t : ByteArray) (w : World) : (binOp .eql 51 (.agg #[.bool a, .int .i64 n, .string s]) (.agg #[.bool b, .int .i64 m, .string t])).run Tryz.prog w = .ok (.bool ((a == b) && (n == m) && (s.toList == t.toList))) w := by
  rw [run_eql_struct, run_equalIn_struct w 9999 _ _ _ val_struct val_held]
  have hf := val_fields
  generalize (Tryz.prog.fieldsOf 51).toList = fs at hf ⊢
  obtain ⟨f0, f1, f2, rfl⟩ : ∃ f0 f1 f2, fs = [f0, f1, f2] := by
    have hl : fs.length = 3 := by have := congrArg List.length hf; rwa [List.length_map] at this
    match fs, hl with
    | [x, y, z], _ => exact ⟨x, y, z, rfl⟩
  simp only [List.map_cons, List.map_nil, List.cons.injEq, Prod.mk.injEq, and_true] at hf
  obtain ⟨⟨e1, e2, e3⟩, ⟨e4, e5, e6⟩, e7, e8, e9⟩ := hf
  have ub := Tryz.underlying4
  have ui := Tryz.underlying2
  have us := Tryz.underlying9
  have zb := Tryz.sizeOf4
  have zi := Tryz.sizeOf2
  have zs := Tryz.sizeOf9
  have ab := Tryz.isAgg4
  have ai := Tryz.isAgg2
  have as' := Tryz.isAgg9
  cases h1 : (a == b) <;> cases h2 : (n == m) <;> cases h3 : (s.toList == t.toList) <;> simp [Op.eqFields, go_sem, e1, e2, e3, e4, e5, e6, e7, e8, e9, h1, h2, h3, ub, ui, us, zb, zi, zs, ab, ai, as', Result.andThen]
end Go.Proofs.YthhepmddcncjoaaGreatDoor
namespace Go.Proofs.YthhepmddcncjoaaGreatDoor
open Go.RowKit

def relY (s : ByteArray) (d : De) : Bool := d.rel.toList == s.toList
def ixY (s : ByteArray) : Nat → List De → Int
  | _, [] => -1
  | k, d :: l => if relY s d then k else ixY s (k + 1) l
theorem ixY_drop {s : ByteArray} {l : List De} {k : Nat} {d : De} (h : l[k]? = some d) : ixY s k (l.drop k) = if relY s d then (k : Int) else ixY s (k + 1) (l.drop (k + 1)) := by
  have h1 : l.drop k = d :: l.drop (k + 1) := by rw [List.drop_eq_getElem_cons (List.getElem?_eq_some_iff.1 h).1, (List.getElem?_eq_some_iff.1 h).2]
  rw [h1]; rfl
/-- A list's first relation of a name, and where it stands. -/
theorem ixY_cases (s : ByteArray) : ∀ (l : List De) (k : Nat), (ixY s k l = -1 ∧ ∀ d ∈ l, relY s d = false) ∨ ∃ (i : Nat) (d : De), ixY s k l = ((k + i : Nat) : Int) ∧ l[i]? = some d ∧ relY s d = true
  | [], _ => .inl ⟨rfl, fun _ h => by cases h⟩
  | d :: l, k => by
    unfold ixY
    cases h : relY s d with
    | true => exact .inr ⟨0, d, by simp, rfl, h⟩
    | false =>
      rcases ixY_cases s l (k + 1) with ⟨h1, h2⟩ | ⟨i, e, h1, h2, h3⟩
      · refine .inl ⟨by simpa using h1, fun x hx => ?_⟩
        rcases List.mem_cons.1 hx with rfl | hx
        · exact h
        · exact h2 x hx
      · exact .inr ⟨i + 1, e, by simp only [Bool.false_eq_true, if_false]; rw [h1]; congr 1; omega, h2, h3⟩
/-- The place and whether there is one. -/
def findY (s : ByteArray) (l : List De) : Option Nat := if ixY s 0 l < 0 then none else some (ixY s 0 l).toNat

def findV : Option Nat → Value
  | none => .tuple #[.int .i64 0, .bool false]
  | some i => .tuple #[.int .i64 i, .bool true]
set_option maxRecDepth 100000 in
set_option maxHeartbeats 4000000 in
theorem relIs_c (d : De) (s : ByteArray) (nb : Nat) (o0 o1 : Option Addr) (k0 k1 : Nat) (w : World) (c0 : w.cell? ⟨nb, 0, none⟩ = some (.string s)) :
    Calls Tryz.prog 114 #[.agg #[.string d.rel, .slice o0 d.names.length k0, .slice o1 d.types.length k1, .bool d.inn, .bool d.out, .int .i64 d.line], .pointer (some ⟨nb, 0, none⟩)] w fun e w' => e = .returned (.bool (relY s d)) ∧ Below w.heap.size w w' := by
  have HB0 : Hid (∀ (x : Obj), Below w.heap.size w (w.alloc x)) := Lib.hid fun x => (Below.refl _ _).alloc (Nat.le_refl _) _
  have hlt : nb < w.heap.size := World.block_lt_of_cell? _ _ c0
  go_enter Tryz.func114, Tryz.ntmps114
  go_wp2
  go_ret
  exact ⟨rfl, HB0.out _⟩
theorem de_in {n₀ : Nat} {w wr : World} {l : List De} {o : Option Addr} {k : Nat} {t : De} (S : Hid (SlIn w n₀ 6 (DeC w n₀) l o)) (hB : Below n₀ w wr) (ht : l[k]? = some t) :
    ∃ a o0 k0 o1 k1, o = some a ∧ a.block < n₀ ∧ Hid (DeC wr n₀ t [.string t.rel, .slice o0 t.names.length k0, .slice o1 t.types.length k1, .bool t.inn, .bool t.out, .int .i64 t.line]) ∧
      CellsAt wr a (k * 6) [.string t.rel, .slice o0 t.names.length k0, .slice o1 t.types.length k1, .bool t.inn, .bool t.out, .int .i64 t.line] := by
  obtain ⟨a, cs, rfl, ha, _, h1, h2⟩ := S.out k t ht
  obtain ⟨o0, k0, o1, k1, rfl, _⟩ := h1.look
  exact ⟨a, o0, k0, o1, k1, rfl, ha, Lib.hid (h1.below hB), h2.below ha hB⟩

set_option maxRecDepth 100000 in
set_option maxHeartbeats 4000000 in
theorem indexD_c (s : ByteArray) (nb n₀ : Nat) (l : List De) (v : Value) (w : World) (hl : SlOf w n₀ 6 (DeC w n₀) l v) (hn : n₀ ≤ w.heap.size) (hb : w.cell? ⟨nb, 0, none⟩ = some (.string s)) :
    Calls Tryz.prog 113 #[v, .func (.func 114) #[] #[.pointer (some ⟨nb, 0, none⟩)]] w fun e w' => e = .returned (.int .i64 (ixY s 0 l)) ∧ Below w.heap.size w w' := by
  obtain ⟨o, cap, rfl, hcap, hcm, S⟩ := SlOf.open hl
  have HB0 : Hid (Below w.heap.size w w) := Lib.hid (Below.refl _ _)
  have hnb : nb < w.heap.size := World.block_lt_of_cell? _ _ hb
  have Hb := Lib.hid hb
  clear hl hb
  go_enter Tryz.func113, Tryz.ntmps113
  go_wp2
  go_loopw [8] (fun i wr => ∃ k : Nat, k ≤ l.length ∧ i = .int .i64 (k : Int) ∧ ixY s 0 l = ixY s k (l.drop k) ∧ Below w.heap.size w wr) (fun i _ => l.length - (intOf i).toNat)
  case atStart => exact ⟨0, Nat.zero_le _, rfl, rfl, HB0.out⟩
  case round =>
    obtain ⟨k, hk, rfl, hix, hB⟩ := hrel
    have hBs := hB.size
    by_cases hlt : k < l.length
    · have hlt' : (k : Int) < (l.length : Int) := by omega
      obtain ⟨u, hu⟩ : ∃ u, l[k]? = some u := ⟨l[k], List.getElem?_eq_getElem hlt⟩
      obtain ⟨b, p1, q1, p2, q2, rfl, hbb, Hc, hca⟩ := de_in S (hB.mono hn) hu
      obtain ⟨c0, c1, c2, c3, c4, c5⟩ := hca.n6
      have hbl : (b.add (k * 6)).block < wr.heap.size := by rw [addBlock]; omega
      have Hix := Lib.hid (hix.trans (ixY_drop hu))
      have HF := Lib.hid (relIs_c u s nb p1 p2 q1 q2 wr ((hB.cell (p := ⟨nb, 0, none⟩) hnb).trans Hb.out))
      clear hu hix Hc hca
      go_wp2_with fail
      refine HF.out.mono ?_
      rintro e w2 ⟨rfl, b2⟩
      have HB2 := Lib.hid (hB.trans (b2.mono hBs))
      clear b2
      cases hp : relY s u with
      | true =>
        have Hr : Hid (ixY s 0 l = (k : Int)) := Lib.hid (by rw [Hix.out, if_pos hp])
        clear hp
        go_wp2
        go_ret
        exact ⟨by rw [Hr.out]; rfl, HB2.out⟩
      | false =>
        have Hr : Hid (ixY s 0 l = ixY s (k + 1) (l.drop (k + 1))) := Lib.hid (by rw [Hix.out, if_neg (by rw [hp]; decide)])
        clear hp
        go_wp2
        go_roundw
        case rel => exact ⟨k + 1, by omega, by go_num, Hr.out, HB2.out⟩
        case measure => simp [intOf]; omega
    · have hlt' : ¬ (k : Int) < (l.length : Int) := by omega
      have Hr : Hid (ixY s 0 l = -1) := Lib.hid (by rw [hix, List.drop_of_length_le (by omega)]; rfl)
      clear hix
      go_wp2
      go_ret
      exact ⟨by rw [Hr.out]; rfl, hB⟩

set_option maxRecDepth 100000 in
set_option maxHeartbeats 4000000 in
theorem find_c (s : ByteArray) (n₀ : Nat) (l : List De) (v : Value) (w : World) (hl : SlOf w n₀ 6 (DeC w n₀) l v) (hn : n₀ ≤ w.heap.size) :
    Calls Tryz.prog 82 #[v, .string s] w fun e w' => e = .returned (findV (findY s l)) ∧ Below w.heap.size w w' := by
  have hb1 : Below w.heap.size w (w.alloc (.cells #[.string s] 9)) := (Below.refl _ _).alloc (Nat.le_refl _) _
  have hr : (w.alloc (.cells #[.string s] 9)).cell? ⟨w.heap.size, 0, none⟩ = some (.string s) := by
    unfold World.cell?
    simp only []
    rw [World.alloc_heap_new]
    rfl
  have HH := Lib.hid (indexD_c s w.heap.size n₀ l v (w.alloc (.cells #[.string s] 9)) (SlOf.decl hl (hb1.mono hn) (Nat.le_refl _)) (by simp; omega) hr)
  have Hb1 := Lib.hid hb1
  have hcs := ixY_cases s l 0
  clear hl hb1 hr
  go_enter Tryz.func82, Tryz.ntmps82
  go_wp2_with fail
  refine HH.out.mono ?_
  rintro e w2 ⟨rfl, b2⟩
  have HB2 := Lib.hid (Hb1.out.trans (b2.mono Hb1.out.size))
  clear b2
  rcases hcs with ⟨h1, _⟩ | ⟨i, d, h1, h2, _⟩
  · have Hq : Hid (findY s l = none) := Lib.hid (by unfold findY; rw [h1]; rfl)
    rw [h1]
    go_wp2
    go_ret2
    exact ⟨by rw [Hq.out]; rfl, HB2.out⟩
  · have Hq : Hid (findY s l = some i) := Lib.hid (by
      unfold findY
      rw [h1, Nat.zero_add, if_neg (by omega)]
      simp)
    rw [h1, Nat.zero_add]
    have hi : ¬ ((i : Nat) : Int) < 0 := by omega
    clear h1
    go_wp2
    go_ret2
    exact ⟨by rw [Hq.out]; rfl, HB2.out⟩
end Go.Proofs.YthhepmddcncjoaaGreatDoor
namespace Go.Proofs.YthhepmddcncjoaaGreatDoor
open Go.RowKit

def SameTermAt (t : Tm) : Prop := ∀ (u : Tm) (w : World) (cs ds : List Value), TmC w w.heap.size t cs → TmC w w.heap.size u ds →
    Calls Tryz.prog 145 #[.agg cs.toArray, .agg ds.toArray] w fun e w' => e = .returned (.bool (sameT t u)) ∧ Below w.heap.size w w'

set_option maxRecDepth 100000 in
set_option maxHeartbeats 4000000 in
theorem equalTerms_c (l m : List Tm) (ih : ∀ t ∈ l, SameTermAt t) (v1 v2 : Value) (w : World) (h1 : TmS w w.heap.size l v1) (h2 : TmS w w.heap.size m v2) :
    Calls Tryz.prog 167 #[v1, v2, .func (.func 145) #[] #[]] w fun e w' => e = .returned (.bool (allS sameT l m)) ∧ Below w.heap.size w w' := by
  obtain ⟨o1, cap1, rfl, hc1, hm1, S1⟩ := SlOf.open h1
  obtain ⟨o2, cap2, rfl, hc2, hm2, S2⟩ := SlOf.open h2
  have IH := Lib.hid ih
  clear h1 h2 ih
  by_cases hlen : l.length = m.length
  · have q : ((l.length : Int) != (m.length : Int)) = false := by rw [hlen]; simp
    have Hlen := Lib.hid hlen
    clear hlen
    go_enter Tryz.func167, Tryz.ntmps167
    go_wp2
    go_loopw [17] (fun i wr => ∃ k : Nat, k ≤ l.length ∧ i = .int .i64 k ∧ allS sameT l m = allS sameT (l.drop k) (m.drop k) ∧ Below w.heap.size w wr) (fun i _ => l.length - (intOf i).toNat)
    case atStart => exact ⟨0, Nat.zero_le _, rfl, rfl, Below.refl _ _⟩
    case round =>
      obtain ⟨k, hk, rfl, hr, hB⟩ := hrel
      have Hr := Lib.hid hr
      clear hr
      have hBs := hB.size
      by_cases hlt : k < l.length
      · have hlt' : (k : Int) < (l.length : Int) := by omega
        have hlt2 : k < m.length := by have := Hlen.out; omega
        obtain ⟨t, ht⟩ : ∃ t, l[k]? = some t := ⟨l[k], List.getElem?_eq_getElem hlt⟩
        obtain ⟨u, hu⟩ : ∃ u, m[k]? = some u := ⟨m[k], List.getElem?_eq_getElem hlt2⟩
        obtain ⟨a, p1, q1, rfl, ha, Hc, c0, c1, c2, c3⟩ := tm_at S1 hB ht
        obtain ⟨b, p2, q2, rfl, hb, Hd, d0, d1, d2, d3⟩ := tm_at S2 hB hu
        have hal : (a.add (k * 4)).block < wr.heap.size := by rw [addBlock]; omega
        have hbl : (b.add (k * 4)).block < wr.heap.size := by rw [addBlock]; omega
        have Hs := Lib.hid (allS_drop (f := sameT) ht hu)
        have Ht := Lib.hid (List.mem_of_getElem? ht)
        clear ht hu
        have HI := Lib.hid (fun (W : World) (hb : Below wr.heap.size wr W) => IH.out t Ht.out u W _ _ ((Hc.out.under hb).more hb.size) ((Hd.out.under hb).more hb.size))
        go_wp2_with fail
        refine (HI.out _ (((Below.refl _ _).alloc (Nat.le_refl _) _).alloc (by simp) _)).mono ?_
        rintro e w1 ⟨rfl, b1⟩
        have hB1 := hB.trans ((((Below.refl _ wr).alloc (Nat.le_refl _) _).alloc (by simp) _).mono hBs |>.trans (b1.mono (by simp; omega)))
        cases hs : sameT t u
        · have Hz := Lib.hid (Hr.out.trans (Hs.out.trans (by rw [hs, Bool.false_and])))
          clear hs
          go_wp2
          go_ret
          exact ⟨by rw [Hz.out]; rfl, hB1⟩
        · have Hz := Lib.hid (Hr.out.trans (Hs.out.trans (by rw [hs, Bool.true_and])))
          clear hs
          go_wp2
          go_roundw
          case rel => exact ⟨k + 1, hlt, by go_num, Hz.out, hB1⟩
          case measure => simp [intOf]; omega
      · have hlt' : ¬ (k : Int) < (l.length : Int) := by omega
        have Hz := Lib.hid (allS_end (f := sameT) (l := l) (m := m) (k := k) (by omega) (by have := Hlen.out; omega))
        go_wp2
        go_ret
        exact ⟨by rw [Hr.out, Hz.out]; rfl, hB⟩
  · have q : ((l.length : Int) != (m.length : Int)) = true := by rw [bne_iff_ne]; omega
    have Hz := Lib.hid (allS_len (f := sameT) hlen)
    clear hlen
    go_enter Tryz.func167, Tryz.ntmps167
    go_wp2
    go_ret
    exact ⟨by rw [Hz.out]; rfl, Below.refl _ _⟩

set_option maxRecDepth 100000 in
set_option maxHeartbeats 4000000 in
theorem sameTerm_c (t : Tm) : SameTermAt t := by
  induction t using Tm.rec (motive_2 := fun l => ∀ t ∈ l, SameTermAt t) with
  | nil x hx => simp at hx
  | cons t ts ih ihs x hx =>
    rcases List.mem_cons.1 hx with rfl | hx
    · exact ih
    · exact ihs x hx
  | mk op s n l ih =>
    intro u w cs ds hc hd
    obtain ⟨p1, q1, rfl, _, _, _, t1⟩ := hc.look
    obtain ⟨p2, q2, rfl, _, _, _, t2⟩ := hd.look
    have Hs := Lib.hid (sameT_eq (.mk op s n l) u)
    have H := Lib.hid (fun (W : World) (hb : Below w.heap.size w W) => equalTerms_c l u.l ih _ _ W ((TmS.below t1 hb).more hb.size) ((TmS.below t2 hb).more hb.size))
    simp only [Tm.op_mk, Tm.s_mk, Tm.n_mk, Tm.l_mk] at Hs H ⊢
    clear hc hd t1 t2 ih
    obtain ⟨b1, hb1⟩ : ∃ b, (op == u.op) = b := ⟨_, rfl⟩
    obtain ⟨b2, hb2⟩ : ∃ b, (s.toList == u.s.toList) = b := ⟨_, rfl⟩
    obtain ⟨b3, hb3⟩ : ∃ b, (n == u.n) = b := ⟨_, rfl⟩
    have Hf : Hid ((b1 && b2 && b3) = false → sameT (.mk op s n l) u = false) := Lib.hid (by
      intro h
      rw [Hs.out, hb1, hb2, hb3, h, Bool.false_and])
    cases b1
    · have Hz := Lib.hid (Hf.out rfl)
      go_enter Tryz.func145, Tryz.ntmps145
      go_wp2
      go_ret
      exact ⟨by rw [Hz.out]; rfl, ((Below.refl _ _).alloc (Nat.le_refl _) _).alloc (by simp) _⟩
    cases b2
    · have Hz := Lib.hid (Hf.out rfl)
      go_enter Tryz.func145, Tryz.ntmps145
      go_wp2
      go_ret
      exact ⟨by rw [Hz.out]; rfl, ((Below.refl _ _).alloc (Nat.le_refl _) _).alloc (by simp) _⟩
    cases b3
    · have Hz := Lib.hid (Hf.out rfl)
      go_enter Tryz.func145, Tryz.ntmps145
      go_wp2
      go_ret
      exact ⟨by rw [Hz.out]; rfl, ((Below.refl _ _).alloc (Nat.le_refl _) _).alloc (by simp) _⟩
    have Hz : Hid (sameT (.mk op s n l) u = allS sameT l u.l) := Lib.hid (by rw [Hs.out, hb1, hb2, hb3]; rfl)
    go_enter Tryz.func145, Tryz.ntmps145
    go_wp2_with fail
    refine (H.out _ (((Below.refl _ _).alloc (Nat.le_refl _) _).alloc (by simp) _)).mono ?_
    rintro e w1 ⟨rfl, b1⟩
    go_wp2
    go_ret
    exact ⟨by rw [Hz.out]; rfl, (((Below.refl _ _).alloc (Nat.le_refl _) _).alloc (by simp) _).trans (b1.mono (by simp; omega))⟩
end Go.Proofs.YthhepmddcncjoaaGreatDoor
namespace Go.Proofs.YthhepmddcncjoaaGreatDoor
open Go.RowKit

set_option maxRecDepth 100000 in
set_option maxHeartbeats 4000000 in
theorem sameAtom_c (t u : Am) (w : World) (cs ds : List Value) (hc : AmC w w.heap.size t cs) (hd : AmC w w.heap.size u ds) :
    Calls Tryz.prog 146 #[.agg cs.toArray, .agg ds.toArray] w fun e w' => e = .returned (.bool (sameA t u)) ∧ Below w.heap.size w w' := by
  obtain ⟨p1, q1, rfl, _, t1⟩ := hc.look
  obtain ⟨p2, q2, rfl, _, t2⟩ := hd.look
  have H := Lib.hid (fun (W : World) (hb : Below w.heap.size w W) => equalTerms_c t.l u.l (fun x _ => sameTerm_c x) _ _ W ((TmS.below t1 hb).more hb.size) ((TmS.below t2 hb).more hb.size))
  clear hc hd t1 t2
  obtain ⟨b1, hb1⟩ : ∃ b, (t.rel.toList == u.rel.toList) = b := ⟨_, rfl⟩
  have Hz : Hid (sameA t u = (b1 && allS sameT t.l u.l)) := Lib.hid (by unfold sameA; rw [sameTs_all, hb1])
  cases b1
  · go_enter Tryz.func146, Tryz.ntmps146
    go_wp2
    go_ret
    exact ⟨by rw [Hz.out]; rfl, ((Below.refl _ _).alloc (Nat.le_refl _) _).alloc (by simp) _⟩
  · go_enter Tryz.func146, Tryz.ntmps146
    go_wp2_with fail
    refine (H.out _ (((Below.refl _ _).alloc (Nat.le_refl _) _).alloc (by simp) _)).mono ?_
    rintro e w1 ⟨rfl, b1⟩
    go_wp2
    go_ret
    exact ⟨by rw [Hz.out]; rfl, (((Below.refl _ _).alloc (Nat.le_refl _) _).alloc (by simp) _).trans (b1.mono (by simp; omega))⟩
end Go.Proofs.YthhepmddcncjoaaGreatDoor
namespace Go.Proofs.YthhepmddcncjoaaGreatDoor
open Go.RowKit

def SizeAt (t : Tm) : Prop := ∀ (left : Int) (w : World) (cs : List Value), 0 ≤ left → left ≤ 1000000 → TmC w w.heap.size t cs →
    Calls Tryz.prog 45 #[.agg cs.toArray, .int .i64 left] w fun e w' => e = .returned (.int .i64 (sizeT t left)) ∧ Below w.heap.size w w'

set_option maxRecDepth 100000 in
set_option maxHeartbeats 4000000 in
theorem size_c (t : Tm) : SizeAt t := by
  induction t using Tm.rec (motive_2 := fun l => ∀ t ∈ l, SizeAt t) with
  | nil x hx => simp at hx
  | cons t ts ih ihs x hx =>
    rcases List.mem_cons.1 hx with rfl | hx
    · exact ih
    · exact ihs x hx
  | mk op s n l ih =>
    intro left w cs hl0 hl1 hc
    obtain ⟨p1, q1, rfl, _, hz, _, t1⟩ := hc.look
    have Hs := Lib.hid (sizeT_mk op s n l left)
    simp only [Tm.op_mk, Tm.s_mk, Tm.n_mk, Tm.l_mk] at Hs t1 hz ⊢
    unfold maxLen at hz
    obtain ⟨o1, cap1, e1, hc1, hm1, S1⟩ := SlOf.open t1
    cases e1
    have IH := Lib.hid ih
    clear hc t1 ih
    have HB0 : Hid (∀ (x : Obj), Below w.heap.size w (w.alloc x)) := Lib.hid fun x => (Below.refl _ _).alloc (Nat.le_refl _) _
    by_cases hbig : 1000 < s.size
    · have Hz : Hid (sizeT (.mk op s n l) left = -1) := Lib.hid (by rw [Hs.out, if_pos hbig])
      have hbig' : (1000 : Int) < (s.size : Int) := by omega
      go_enter Tryz.func45, Tryz.ntmps45
      go_wp2
      go_ret
      exact ⟨retI (by rw [Hz.out]), HB0.out _⟩
    · have Hz : Hid (sizeT (.mk op s n l) left = foldS sizeT l (left - 1)) := Lib.hid (by rw [Hs.out, if_neg hbig])
      have hbig' : ¬ (1000 : Int) < (s.size : Int) := by omega
      clear Hs
      go_enter Tryz.func45, Tryz.ntmps45
      go_wp2
      go_loopw [1, 5] (fun lv i wr => ∃ (k : Nat) (L : Int), k ≤ l.length ∧ i = .int .i64 k ∧ lv = .int .i64 L ∧ -1 ≤ L ∧ L ≤ 1000000 ∧ foldS sizeT l (left - 1) = foldS sizeT (l.drop k) L ∧ Below (w.heap.size + 1) (w.alloc (.cells #[.int .i64 op, .string s, .int .i64 n, .slice p1 l.length q1] 88)) wr) (fun _ i _ => l.length - (intOf i).toNat)
      case atStart => exact ⟨0, left - 1, Nat.zero_le _, rfl, rfl, by omega, by omega, rfl, Below.refl _ _⟩
      case round =>
        obtain ⟨k, L, hk, rfl, rfl, hL0, hL1, hr, hB2⟩ := hrel
        have hB : Below w.heap.size w wr := (HB0.out _).trans (hB2.mono (by omega))
        have Hr := Lib.hid hr
        clear hr
        have hBs := hB2.size
        simp only [World.size_alloc] at hBs
        have hz0 : w.heap.size < wr.heap.size := by omega
        have x0 : wr.cell? ⟨w.heap.size, 3, none⟩ = some (.slice p1 l.length q1) := (hB2.cell (p := ⟨w.heap.size, 3, none⟩) (by show w.heap.size < _; omega)).trans (by go_simp)
        by_cases hlt : k < l.length
        · have hlt' : (k : Int) < (l.length : Int) := by omega
          by_cases hL : 0 ≤ L
          · obtain ⟨xe, ht⟩ : ∃ xe, l[k]? = some xe := ⟨l[k], List.getElem?_eq_getElem hlt⟩
            obtain ⟨a, p3, q3, rfl, ha, Hc, c0, c1, c2, c3⟩ := tm_at S1 hB ht
            have hal : (a.add (k * 4)).block < wr.heap.size := by rw [addBlock]; omega
            have Hst := Lib.hid (Hr.out.trans (foldS_drop (f := sizeT) ht hL))
            have Hm := Lib.hid (List.mem_of_getElem? ht)
            clear ht
            go_wp2_with fail
            refine (IH.out xe Hm.out L _ [_, _, _, _] hL (by omega) Hc.out).mono ?_
            rintro e w1 ⟨rfl, b1⟩
            have hB3 := hB2.trans (b1.mono (by omega))
            have lo := sizeT_lo xe L hL
            obtain ⟨L2, hL2⟩ : ∃ L2, sizeT xe L = L2 := ⟨_, rfl⟩
            rw [hL2] at lo ⊢
            have Hst2 : Hid _ := Lib.hid (Hst.out.trans (by rw [hL2]))
            clear hL2
            go_wp2
            go_roundw
            case rel => exact ⟨k + 1, L2, hlt, by go_num, rfl, lo.1, by omega, Hst2.out, hB3⟩
            case measure => simp [intOf]; omega
          · have Hz2 := Lib.hid (Hr.out.trans (foldS_neg sizeT (l.drop k) (by omega)))
            go_wp2
            (go_ret; exact ⟨retI (by rw [Hz.out, Hz2.out]), hB⟩)
        · have hlt' : ¬ (k : Int) < (l.length : Int) := by omega
          have Hz2 : Hid (foldS sizeT l (left - 1) = L) := Lib.hid (by rw [Hr.out, List.drop_of_length_le (by omega)]; rfl)
          go_wp2
          (go_ret; exact ⟨retI (by rw [Hz.out, Hz2.out]), hB⟩)

set_option maxRecDepth 100000 in
set_option maxHeartbeats 4000000 in
theorem sizeAtom_c (t : Am) (left : Int) (w : World) (cs : List Value) (hl0 : -1 ≤ left) (hl1 : left ≤ 1000000) (hc : AmC w w.heap.size t cs) :
    Calls Tryz.prog 44 #[.agg cs.toArray, .int .i64 left] w fun e w' => e = .returned (.int .i64 (sizeA t left)) ∧ Below w.heap.size w w' := by
  obtain ⟨p1, q1, rfl, hz, t1⟩ := hc.look
  unfold maxLen at hz
  obtain ⟨o1, cap1, e1, hc1, hm1, S1⟩ := SlOf.open t1
  cases e1
  clear hc t1
  have HB0 : Hid (∀ (x : Obj), Below w.heap.size w (w.alloc x)) := Lib.hid fun x => (Below.refl _ _).alloc (Nat.le_refl _) _
  by_cases hbig : 1000 < t.rel.size
  · have Hz : Hid (sizeA t left = -1) := Lib.hid (by unfold sizeA; rw [if_pos hbig])
    have hbig' : (1000 : Int) < (t.rel.size : Int) := by omega
    go_enter Tryz.func44, Tryz.ntmps44
    go_wp2
    go_ret
    exact ⟨retI (by rw [Hz.out]), HB0.out _⟩
  · have Hz : Hid (sizeA t left = foldS sizeT t.l left) := Lib.hid (by unfold sizeA; rw [if_neg hbig, sizeTs_fold])
    have hbig' : ¬ (1000 : Int) < (t.rel.size : Int) := by omega
    go_enter Tryz.func44, Tryz.ntmps44
    go_wp2
    go_loopw [1, 5] (fun lv i wr => ∃ (k : Nat) (L : Int), k ≤ t.l.length ∧ i = .int .i64 k ∧ lv = .int .i64 L ∧ -1 ≤ L ∧ L ≤ 1000000 ∧ foldS sizeT t.l (left) = foldS sizeT (t.l.drop k) L ∧ Below (w.heap.size + 1) (w.alloc (.cells #[.string t.rel, .slice p1 t.l.length q1] 58)) wr) (fun _ i _ => t.l.length - (intOf i).toNat)
    case atStart => exact ⟨0, left, Nat.zero_le _, rfl, rfl, by omega, by omega, rfl, Below.refl _ _⟩
    case round =>
      obtain ⟨k, L, hk, rfl, rfl, hL0, hL1, hr, hB2⟩ := hrel
      have hB : Below w.heap.size w wr := (HB0.out _).trans (hB2.mono (by omega))
      have Hr := Lib.hid hr
      clear hr
      have hBs := hB2.size
      simp only [World.size_alloc] at hBs
      have hz0 : w.heap.size < wr.heap.size := by omega
      have x0 : wr.cell? ⟨w.heap.size, 1, none⟩ = some (.slice p1 t.l.length q1) := (hB2.cell (p := ⟨w.heap.size, 1, none⟩) (by show w.heap.size < _; omega)).trans (by go_simp)
      by_cases hlt : k < t.l.length
      · have hlt' : (k : Int) < (t.l.length : Int) := by omega
        by_cases hL : 0 ≤ L
        · obtain ⟨xe, ht⟩ : ∃ xe, t.l[k]? = some xe := ⟨t.l[k], List.getElem?_eq_getElem hlt⟩
          obtain ⟨a, p3, q3, rfl, ha, Hc, c0, c1, c2, c3⟩ := tm_at S1 hB ht
          have hal : (a.add (k * 4)).block < wr.heap.size := by rw [addBlock]; omega
          have Hst := Lib.hid (Hr.out.trans (foldS_drop (f := sizeT) ht hL))
          have Hm := Lib.hid (List.mem_of_getElem? ht)
          clear ht
          go_wp2_with fail
          refine (size_c xe L _ [_, _, _, _] hL hL1 Hc.out).mono ?_
          rintro e w1 ⟨rfl, b1⟩
          have hB3 := hB2.trans (b1.mono (by omega))
          have lo := sizeT_lo xe L hL
          obtain ⟨L2, hL2⟩ : ∃ L2, sizeT xe L = L2 := ⟨_, rfl⟩
          rw [hL2] at lo ⊢
          have Hst2 : Hid _ := Lib.hid (Hst.out.trans (by rw [hL2]))
          clear hL2
          go_wp2
          go_roundw
          case rel => exact ⟨k + 1, L2, hlt, by go_num, rfl, lo.1, by omega, Hst2.out, hB3⟩
          case measure => simp [intOf]; omega
        · have Hz2 := Lib.hid (Hr.out.trans (foldS_neg sizeT (t.l.drop k) (by omega)))
          go_wp2
          (go_ret; exact ⟨retI (by rw [Hz.out, Hz2.out]), hB⟩)
      · have hlt' : ¬ (k : Int) < (t.l.length : Int) := by omega
        have Hz2 : Hid (foldS sizeT t.l (left) = L) := Lib.hid (by rw [Hr.out, List.drop_of_length_le (by omega)]; rfl)
        go_wp2
        (go_ret; exact ⟨retI (by rw [Hz.out, Hz2.out]), hB⟩)

set_option maxRecDepth 100000 in
set_option maxHeartbeats 4000000 in
theorem sizeRule_c (t : Ru) (left : Int) (w : World) (cs : List Value) (hl0 : 0 ≤ left) (hl1 : left ≤ 1000000) (hc : RuC w w.heap.size t cs) :
    Calls Tryz.prog 25 #[.agg cs.toArray, .int .i64 left] w fun e w' => e = .returned (.int .i64 (sizeR t left)) ∧ Below w.heap.size w w' := by
  obtain ⟨p1, q1, r1, s1, rfl, _, a1, t1⟩ := hc.look
  obtain ⟨o1, cap1, e1, hc1, hm1, S1⟩ := SlOf.open t1
  cases e1
  have HB0 : Hid (∀ (x : Obj), Below w.heap.size w (w.alloc x)) := Lib.hid fun x => (Below.refl _ _).alloc (Nat.le_refl _) _
  have HH := Lib.hid (fun (W : World) (hb : Below w.heap.size w W) => sizeAtom_c t.head (left - 1) W [_, _] (by omega) (by omega) ((a1.below hb).more hb.size))
  clear hc t1 a1
  have lo0 := sizeA_lo t.head (left - 1) (by omega)
  obtain ⟨A0, hA0⟩ : ∃ A0, sizeA t.head (left - 1) = A0 := ⟨_, rfl⟩
  have Hz : Hid (sizeR t left = foldS sizeL1 t.body A0) := Lib.hid (by unfold sizeR; rw [hA0])
  rw [hA0] at lo0 HH
  clear hA0
  go_enter Tryz.func25, Tryz.ntmps25
  go_wp2_with fail
  refine (HH.out _ (HB0.out _)).mono ?_
  rintro e w0 ⟨rfl, b0⟩
  have b0' := b0.mono (show w.heap.size + 1 ≤ _ by simp)
  go_wp2
  go_loopw [1, 5] (fun lv i wr => ∃ (k : Nat) (L : Int), k ≤ t.body.length ∧ i = .int .i64 k ∧ lv = .int .i64 L ∧ -1 ≤ L ∧ L ≤ 1000000 ∧ foldS sizeL1 t.body (A0) = foldS sizeL1 (t.body.drop k) L ∧ Below (w.heap.size + 1) (w.alloc (.cells #[.string t.head.rel, .slice p1 t.head.l.length q1, .slice r1 t.body.length s1, .int .i64 t.line] 61)) wr) (fun _ i _ => t.body.length - (intOf i).toNat)
  case atStart => exact ⟨0, A0, Nat.zero_le _, rfl, rfl, by omega, by omega, rfl, b0'⟩
  case round =>
    obtain ⟨k, L, hk, rfl, rfl, hL0, hL1, hr, hB2⟩ := hrel
    have hB : Below w.heap.size w wr := (HB0.out _).trans (hB2.mono (by omega))
    have Hr := Lib.hid hr
    clear hr
    have hBs := hB2.size
    simp only [World.size_alloc] at hBs
    have hz0 : w.heap.size < wr.heap.size := by omega
    have x0 : wr.cell? ⟨w.heap.size, 2, none⟩ = some (.slice r1 t.body.length s1) := (hB2.cell (p := ⟨w.heap.size, 2, none⟩) (by show w.heap.size < _; omega)).trans (by go_simp)
    by_cases hlt : k < t.body.length
    · have hlt' : (k : Int) < (t.body.length : Int) := by omega
      by_cases hL : 0 ≤ L
      · obtain ⟨xe, ht⟩ : ∃ xe, t.body[k]? = some xe := ⟨t.body[k], List.getElem?_eq_getElem hlt⟩
        obtain ⟨a, p3, q3, p4, q4, p5, q5, rfl, ha, Hc, c0, c1, c2, c3, c4, c5, c6, c7, c8, c9, c10⟩ := lt_at S1 hB ht
        have hal : (a.add (k * 11)).block < wr.heap.size := by rw [addBlock]; omega
        have Hst := Lib.hid (Hr.out.trans (foldS_drop (f := sizeL1) ht hL))
        have Hm := Lib.hid (List.mem_of_getElem? ht)
        clear ht
        obtain ⟨_, _, _, _, _, _, e1, _, La, Lx, Ly⟩ := Hc.out.look
        cases e1
        have HA := Lib.hid (fun (l : Int) (h0 : -1 ≤ l) (h1 : l ≤ 1000000) => sizeAtom_c xe.a l wr [_, _] h0 h1 La)
        have HX := Lib.hid (fun (l : Int) (W : World) (hb : Below wr.heap.size wr W) (h0 : 0 ≤ l) (h1 : l ≤ 1000000) => size_c xe.x l W [_, _, _, _] h0 h1 ((Lx.under hb).more hb.size))
        have HY := Lib.hid (fun (l : Int) (W : World) (hb : Below wr.heap.size wr W) (h0 : 0 ≤ l) (h1 : l ≤ 1000000) => size_c xe.y l W [_, _, _, _] h0 h1 ((Ly.under hb).more hb.size))
        clear La Lx Ly
        have lo := sizeL1_lo xe L hL
        have lo1 := sizeA_lo xe.a (L - 1) (by omega)
        obtain ⟨A1, hA1⟩ : ∃ A1, sizeA xe.a (L - 1) = A1 := ⟨_, rfl⟩
        have hs1 : sizeL1 xe L = if A1 < 0 then A1 else if sizeT xe.x A1 < 0 then sizeT xe.x A1 else sizeT xe.y (sizeT xe.x A1) := by unfold sizeL1; rw [hA1]
        go_wp2_with fail
        refine (HA.out _ (by omega) (by omega)).mono ?_
        rw [hA1]
        rw [hA1] at lo1
        rintro e w1 ⟨rfl, b1⟩
        obtain ⟨kc, kf⟩ := (⟨fun p h => b1.cell (p := p) h, fun p h => b1.frozen (p := p) h⟩ : (∀ p : Addr, p.block < _ → w1.cell? p = _) ∧ (∀ p : Addr, p.block < _ → w1.frozen? p = _))
        have g0 := (kc ⟨w.heap.size, 2, none⟩ hz0).trans x0
        have f3 := (kc ⟨(a.add (k * 11)).block, (a.add (k * 11)).off + 3, none⟩ hal).trans c3
        have f4 := (kc ⟨(a.add (k * 11)).block, (a.add (k * 11)).off + 4, none⟩ hal).trans c4
        have f5 := (kc ⟨(a.add (k * 11)).block, (a.add (k * 11)).off + 5, none⟩ hal).trans c5
        have f6 := (kc ⟨(a.add (k * 11)).block, (a.add (k * 11)).off + 6, none⟩ hal).trans c6
        have f7 := (kc ⟨(a.add (k * 11)).block, (a.add (k * 11)).off + 7, none⟩ hal).trans c7
        have f8 := (kc ⟨(a.add (k * 11)).block, (a.add (k * 11)).off + 8, none⟩ hal).trans c8
        have f9 := (kc ⟨(a.add (k * 11)).block, (a.add (k * 11)).off + 9, none⟩ hal).trans c9
        have f10 := (kc ⟨(a.add (k * 11)).block, (a.add (k * 11)).off + 10, none⟩ hal).trans c10
        have hB3 := hB2.trans (b1.mono (by omega))
        have hk1 := b1.size
        clear kc kf hA1
        by_cases n1 : A1 < 0
        · have n1' : ¬ 0 ≤ A1 := by omega
          have Hst2 : Hid _ := Lib.hid (Hst.out.trans (by rw [hs1, if_pos n1]))
          clear hs1
          go_wp2
          go_roundw
          case rel => exact ⟨k + 1, A1, hlt, by go_num, rfl, lo1.1, by omega, Hst2.out, hB3⟩
          case measure => simp [intOf]; omega
        · have n1' : 0 ≤ A1 := by omega
          rw [if_neg n1] at hs1
          have lo2 := sizeT_lo xe.x A1 n1'
          obtain ⟨A2, hA2⟩ : ∃ A2, sizeT xe.x A1 = A2 := ⟨_, rfl⟩
          rw [hA2] at hs1 lo2
          have Hs1 := Lib.hid hs1
          have HA2 := Lib.hid hA2
          clear hs1 hA2
          go_wp2_with fail
          refine (HX.out _ _ b1 n1' (by omega)).mono ?_
          rw [HA2.out]
          rintro e w2 ⟨rfl, b2⟩
          have b12 := b1.trans (b2.mono hk1)
          obtain ⟨kc, kf⟩ := (⟨fun p h => b12.cell (p := p) h, fun p h => b12.frozen (p := p) h⟩ : (∀ p : Addr, p.block < _ → w2.cell? p = _) ∧ (∀ p : Addr, p.block < _ → w2.frozen? p = _))
          have u0 := (kc ⟨w.heap.size, 2, none⟩ hz0).trans x0
          have u7 := (kc ⟨(a.add (k * 11)).block, (a.add (k * 11)).off + 7, none⟩ hal).trans c7
          have u8 := (kc ⟨(a.add (k * 11)).block, (a.add (k * 11)).off + 8, none⟩ hal).trans c8
          have u9 := (kc ⟨(a.add (k * 11)).block, (a.add (k * 11)).off + 9, none⟩ hal).trans c9
          have u10 := (kc ⟨(a.add (k * 11)).block, (a.add (k * 11)).off + 10, none⟩ hal).trans c10
          have hB4 := hB2.trans (b12.mono (by omega))
          clear kc kf
          by_cases n2 : A2 < 0
          · have n2' : ¬ 0 ≤ A2 := by omega
            have Hst2 : Hid _ := Lib.hid (Hst.out.trans (by rw [Hs1.out, if_pos n2]))
            go_wp2
            go_roundw
            case rel => exact ⟨k + 1, A2, hlt, by go_num, rfl, lo2.1, by omega, Hst2.out, hB4⟩
            case measure => simp [intOf]; omega
          · have n2' : 0 ≤ A2 := by omega
            have lo3 := sizeT_lo xe.y A2 n2'
            have Hst2 : Hid _ := Lib.hid (Hst.out.trans (by rw [Hs1.out, if_neg n2]))
            go_wp2_with fail
            refine (HY.out _ _ b12 n2' (by omega)).mono ?_
            rintro e w3 ⟨rfl, b3⟩
            have hk2 := b12.size
            have hB5 := hB2.trans ((b12.trans (b3.mono hk2)).mono (by omega))
            go_wp2
            go_roundw
            case rel => exact ⟨k + 1, _, hlt, by go_num, rfl, lo3.1, by omega, Hst2.out, hB5⟩
            case measure => simp [intOf]; omega
      · have Hz2 := Lib.hid (Hr.out.trans (foldS_neg sizeL1 (t.body.drop k) (by omega)))
        go_wp2
        (go_ret; exact ⟨retI (by rw [Hz.out, Hz2.out]), hB⟩)
    · have hlt' : ¬ (k : Int) < (t.body.length : Int) := by omega
      have Hz2 : Hid (foldS sizeL1 t.body (A0) = L) := Lib.hid (by rw [Hr.out, List.drop_of_length_le (by omega)]; rfl)
      go_wp2
      (go_ret; exact ⟨retI (by rw [Hz.out, Hz2.out]), hB⟩)

end Go.Proofs.YthhepmddcncjoaaGreatDoor
