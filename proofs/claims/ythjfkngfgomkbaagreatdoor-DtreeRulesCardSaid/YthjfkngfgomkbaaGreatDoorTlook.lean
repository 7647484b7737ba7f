/- How atoms, parts, rules, relations lie in memory, cell by cell; what a walk reads of them; what a call keeps. -/
import Derived.Test.YthjfkngfgomkbaaGreatDoorTsp
namespace Go.Proofs.YthjfkngfgomkbaaGreatDoor
open Go.RowKit

theorem CellsAt.n1 {w : World} {a : Addr} {o : Nat} {c0 : Value} (h : CellsAt w a o [c0]) : w.cell? (a.add o) = some c0 := by
  exact h 0 _ rfl
theorem CellsAt.n2 {w : World} {a : Addr} {o : Nat} {c0 c1 : Value} (h : CellsAt w a o [c0, c1]) : w.cell? (a.add o) = some c0 ∧ w.cell? ⟨(a.add o).block, (a.add o).off + 1, none⟩ = some c1 := by
  rw [← addNext a o 1 (by omega)]
  exact ⟨h 0 _ rfl, h 1 _ rfl⟩
theorem CellsAt.n6 {w : World} {a : Addr} {o : Nat} {c0 c1 c2 c3 c4 c5 : Value} (h : CellsAt w a o [c0, c1, c2, c3, c4, c5]) : w.cell? (a.add o) = some c0 ∧ w.cell? ⟨(a.add o).block, (a.add o).off + 1, none⟩ = some c1 ∧ w.cell? ⟨(a.add o).block, (a.add o).off + 2, none⟩ = some c2 ∧ w.cell? ⟨(a.add o).block, (a.add o).off + 3, none⟩ = some c3 ∧ w.cell? ⟨(a.add o).block, (a.add o).off + 4, none⟩ = some c4 ∧ w.cell? ⟨(a.add o).block, (a.add o).off + 5, none⟩ = some c5 := by
  rw [← addNext a o 1 (by omega), ← addNext a o 2 (by omega), ← addNext a o 3 (by omega), ← addNext a o 4 (by omega), ← addNext a o 5 (by omega)]
  exact ⟨h 0 _ rfl, h 1 _ rfl, h 2 _ rfl, h 3 _ rfl, h 4 _ rfl, h 5 _ rfl⟩
theorem CellsAt.n11 {w : World} {a : Addr} {o : Nat} {c0 c1 c2 c3 c4 c5 c6 c7 c8 c9 c10 : Value} (h : CellsAt w a o [c0, c1, c2, c3, c4, c5, c6, c7, c8, c9, c10]) : w.cell? (a.add o) = some c0 ∧ w.cell? ⟨(a.add o).block, (a.add o).off + 1, none⟩ = some c1 ∧ w.cell? ⟨(a.add o).block, (a.add o).off + 2, none⟩ = some c2 ∧ w.cell? ⟨(a.add o).block, (a.add o).off + 3, none⟩ = some c3 ∧ w.cell? ⟨(a.add o).block, (a.add o).off + 4, none⟩ = some c4 ∧ w.cell? ⟨(a.add o).block, (a.add o).off + 5, none⟩ = some c5 ∧ w.cell? ⟨(a.add o).block, (a.add o).off + 6, none⟩ = some c6 ∧ w.cell? ⟨(a.add o).block, (a.add o).off + 7, none⟩ = some c7 ∧ w.cell? ⟨(a.add o).block, (a.add o).off + 8, none⟩ = some c8 ∧ w.cell? ⟨(a.add o).block, (a.add o).off + 9, none⟩ = some c9 ∧ w.cell? ⟨(a.add o).block, (a.add o).off + 10, none⟩ = some c10 := by
  rw [← addNext a o 1 (by omega), ← addNext a o 2 (by omega), ← addNext a o 3 (by omega), ← addNext a o 4 (by omega), ← addNext a o 5 (by omega), ← addNext a o 6 (by omega), ← addNext a o 7 (by omega), ← addNext a o 8 (by omega), ← addNext a o 9 (by omega), ← addNext a o 10 (by omega)]
  exact ⟨h 0 _ rfl, h 1 _ rfl, h 2 _ rfl, h 3 _ rfl, h 4 _ rfl, h 5 _ rfl, h 6 _ rfl, h 7 _ rfl, h 8 _ rfl, h 9 _ rfl, h 10 _ rfl⟩

theorem AmC.look {w : World} {B : Nat} {t : Am} {cs : List Value} (h : AmC w B t cs) : ∃ o cap, cs = [.string t.rel, .slice o t.l.length cap] ∧ t.rel.size ≤ maxLen ∧ TmS w B t.l (.slice o t.l.length cap) := by
  obtain ⟨v, rfl, h1, h2⟩ := h
  obtain ⟨o, cap, rfl, _⟩ := SlOf.uni h2
  exact ⟨o, cap, rfl, h1, h2⟩
theorem LtC.look {w : World} {B : Nat} {t : Lt} {cs : List Value} (h : LtC w B t cs) : ∃ o0 k0 o1 k1 o2 k2, cs = [.int .i64 t.op, .string t.a.rel, .slice o0 t.a.l.length k0, .int .i64 t.x.op, .string t.x.s, .int .i64 t.x.n, .slice o1 t.x.l.length k1, .int .i64 t.y.op, .string t.y.s, .int .i64 t.y.n, .slice o2 t.y.l.length k2] ∧ I64 t.op ∧
    AmC w B t.a [.string t.a.rel, .slice o0 t.a.l.length k0] ∧ TmC w B t.x [.int .i64 t.x.op, .string t.x.s, .int .i64 t.x.n, .slice o1 t.x.l.length k1] ∧ TmC w B t.y [.int .i64 t.y.op, .string t.y.s, .int .i64 t.y.n, .slice o2 t.y.l.length k2] := by
  obtain ⟨ca, cx, cy, rfl, h1, h2, h3, h4⟩ := h
  obtain ⟨o0, k0, rfl, _⟩ := h2.look
  obtain ⟨o1, k1, rfl, _⟩ := h3.look
  obtain ⟨o2, k2, rfl, _⟩ := h4.look
  exact ⟨o0, k0, o1, k1, o2, k2, rfl, h1, h2, h3, h4⟩
theorem RuC.look {w : World} {B : Nat} {t : Ru} {cs : List Value} (h : RuC w B t cs) : ∃ o0 k0 o1 k1, cs = [.string t.head.rel, .slice o0 t.head.l.length k0, .slice o1 t.body.length k1, .int .i64 t.line] ∧ I64 t.line ∧
    AmC w B t.head [.string t.head.rel, .slice o0 t.head.l.length k0] ∧ SlOf w B 11 (LtC w B) t.body (.slice o1 t.body.length k1) := by
  obtain ⟨ca, v, rfl, h1, h2, h3⟩ := h
  obtain ⟨o0, k0, rfl, _⟩ := h2.look
  obtain ⟨o1, k1, rfl, _⟩ := SlOf.uni h3
  exact ⟨o0, k0, o1, k1, rfl, h1, h2, h3⟩
theorem DeC.look {w : World} {B : Nat} {d : De} {cs : List Value} (h : DeC w B d cs) : ∃ o0 k0 o1 k1, cs = [.string d.rel, .slice o0 d.names.length k0, .slice o1 d.types.length k1, .bool d.inn, .bool d.out, .int .i64 d.line] ∧ d.rel.size ≤ maxLen ∧ I64 d.line ∧
    SlOf w B 1 StrC d.names (.slice o0 d.names.length k0) ∧ SlOf w B 1 IntC d.types (.slice o1 d.types.length k1) := by
  obtain ⟨v, u, rfl, h1, h2, h3, h4⟩ := h
  obtain ⟨o0, k0, rfl, _⟩ := SlOf.uni h3
  obtain ⟨o1, k1, rfl, _⟩ := SlOf.uni h4
  exact ⟨o0, k0, o1, k1, rfl, h1, h2, h3, h4⟩
theorem PgC.look {w : World} {B : Nat} {d : Pg} {cs : List Value} (h : PgC w B d cs) : ∃ o0 k0 o1 k1, cs = [.slice o0 d.decls.length k0, .slice o1 d.rules.length k1] ∧
    SlOf w B 6 (DeC w B) d.decls (.slice o0 d.decls.length k0) ∧ SlOf w B 4 (RuC w B) d.rules (.slice o1 d.rules.length k1) := by
  obtain ⟨v, u, rfl, h3, h4⟩ := h
  obtain ⟨o0, k0, rfl, _⟩ := SlOf.uni h3
  obtain ⟨o1, k1, rfl, _⟩ := SlOf.uni h4
  exact ⟨o0, k0, o1, k1, rfl, h3, h4⟩
theorem SlOf.str {w w' : World} {B B' : Nat} {l : List ByteArray} {v : Value} (h : SlOf w B 1 StrC l v) (hb : Below B w w') (hB : B ≤ B') : SlOf w' B' 1 StrC l v := SlOf.more (SlOf.below h hb fun _ _ _ h => h) hB fun _ _ _ h => h
theorem SlOf.int {w w' : World} {B B' : Nat} {l : List Int} {v : Value} (h : SlOf w B 1 IntC l v) (hb : Below B w w') (hB : B ≤ B') : SlOf w' B' 1 IntC l v := SlOf.more (SlOf.below h hb fun _ _ _ h => h) hB fun _ _ _ h => h
theorem SlOf.lit {w w' : World} {B B' : Nat} {l : List Lt} {v : Value} (h : SlOf w B 11 (LtC w B) l v) (hb : Below B w w') (hB : B ≤ B') : SlOf w' B' 11 (LtC w' B') l v := SlOf.more (SlOf.below h hb fun _ _ _ h => h.below hb) hB fun _ _ _ h => h.more hB
theorem SlOf.rule {w w' : World} {B B' : Nat} {l : List Ru} {v : Value} (h : SlOf w B 4 (RuC w B) l v) (hb : Below B w w') (hB : B ≤ B') : SlOf w' B' 4 (RuC w' B') l v := SlOf.more (SlOf.below h hb fun _ _ _ h => h.below hb) hB fun _ _ _ h => h.more hB
theorem SlOf.decl {w w' : World} {B B' : Nat} {l : List De} {v : Value} (h : SlOf w B 6 (DeC w B) l v) (hb : Below B w w') (hB : B ≤ B') : SlOf w' B' 6 (DeC w' B') l v := SlOf.more (SlOf.below h hb fun _ _ _ h => h.below hb) hB fun _ _ _ h => h.more hB

theorem str_at {w wr : World} {l : List ByteArray} {o : Option Addr} {k : Nat} {t : ByteArray} (S : Hid (SlIn w w.heap.size 1 StrC l o)) (hB : Below w.heap.size w wr) (ht : l[k]? = some t) :
    ∃ a, o = some a ∧ a.block < w.heap.size ∧ t.size ≤ maxLen ∧ wr.cell? (a.add k) = some (.string t) := by
  obtain ⟨a, cs, rfl, ha, _, ⟨rfl, hz⟩, h2⟩ := S.out k t ht
  have := (h2.below ha hB).n1
  rw [Nat.mul_one] at this
  exact ⟨a, rfl, ha, hz, this⟩
theorem int_at {w wr : World} {l : List Int} {o : Option Addr} {k : Nat} {t : Int} (S : Hid (SlIn w w.heap.size 1 IntC l o)) (hB : Below w.heap.size w wr) (ht : l[k]? = some t) :
    ∃ a, o = some a ∧ a.block < w.heap.size ∧ I64 t ∧ wr.cell? (a.add k) = some (.int .i64 t) := by
  obtain ⟨a, cs, rfl, ha, _, ⟨rfl, hz⟩, h2⟩ := S.out k t ht
  have := (h2.below ha hB).n1
  rw [Nat.mul_one] at this
  exact ⟨a, rfl, ha, hz, this⟩
theorem lt_at {w wr : World} {l : List Lt} {o : Option Addr} {k : Nat} {t : Lt} (S : Hid (SlIn w w.heap.size 11 (LtC w w.heap.size) l o)) (hB : Below w.heap.size w wr) (ht : l[k]? = some t) :
    ∃ a o0 k0 o1 k1 o2 k2, o = some a ∧ a.block < w.heap.size ∧ Hid (LtC wr wr.heap.size t [.int .i64 t.op, .string t.a.rel, .slice o0 t.a.l.length k0, .int .i64 t.x.op, .string t.x.s, .int .i64 t.x.n, .slice o1 t.x.l.length k1, .int .i64 t.y.op, .string t.y.s, .int .i64 t.y.n, .slice o2 t.y.l.length k2]) ∧
      wr.cell? (a.add (k * 11)) = some (.int .i64 t.op) ∧ wr.cell? ⟨(a.add (k * 11)).block, (a.add (k * 11)).off + 1, none⟩ = some (.string t.a.rel) ∧ wr.cell? ⟨(a.add (k * 11)).block, (a.add (k * 11)).off + 2, none⟩ = some (.slice o0 t.a.l.length k0) ∧ wr.cell? ⟨(a.add (k * 11)).block, (a.add (k * 11)).off + 3, none⟩ = some (.int .i64 t.x.op) ∧ wr.cell? ⟨(a.add (k * 11)).block, (a.add (k * 11)).off + 4, none⟩ = some (.string t.x.s) ∧ wr.cell? ⟨(a.add (k * 11)).block, (a.add (k * 11)).off + 5, none⟩ = some (.int .i64 t.x.n) ∧ wr.cell? ⟨(a.add (k * 11)).block, (a.add (k * 11)).off + 6, none⟩ = some (.slice o1 t.x.l.length k1) ∧ wr.cell? ⟨(a.add (k * 11)).block, (a.add (k * 11)).off + 7, none⟩ = some (.int .i64 t.y.op) ∧ wr.cell? ⟨(a.add (k * 11)).block, (a.add (k * 11)).off + 8, none⟩ = some (.string t.y.s) ∧ wr.cell? ⟨(a.add (k * 11)).block, (a.add (k * 11)).off + 9, none⟩ = some (.int .i64 t.y.n) ∧ wr.cell? ⟨(a.add (k * 11)).block, (a.add (k * 11)).off + 10, none⟩ = some (.slice o2 t.y.l.length k2) := by
  obtain ⟨a, cs, rfl, ha, _, h1, h2⟩ := S.out k t ht
  obtain ⟨o0, k0, o1, k1, o2, k2, rfl, _⟩ := h1.look
  exact ⟨a, o0, k0, o1, k1, o2, k2, rfl, ha, Lib.hid ((h1.below hB).more hB.size), (h2.below ha hB).n11⟩
theorem ru_at {w wr : World} {l : List Ru} {o : Option Addr} {k : Nat} {t : Ru} (S : Hid (SlIn w w.heap.size 4 (RuC w w.heap.size) l o)) (hB : Below w.heap.size w wr) (ht : l[k]? = some t) :
    ∃ a o0 k0 o1 k1, o = some a ∧ a.block < w.heap.size ∧ Hid (RuC wr wr.heap.size t [.string t.head.rel, .slice o0 t.head.l.length k0, .slice o1 t.body.length k1, .int .i64 t.line]) ∧
      wr.cell? (a.add (k * 4)) = some (.string t.head.rel) ∧ wr.cell? ⟨(a.add (k * 4)).block, (a.add (k * 4)).off + 1, none⟩ = some (.slice o0 t.head.l.length k0) ∧ wr.cell? ⟨(a.add (k * 4)).block, (a.add (k * 4)).off + 2, none⟩ = some (.slice o1 t.body.length k1) ∧ wr.cell? ⟨(a.add (k * 4)).block, (a.add (k * 4)).off + 3, none⟩ = some (.int .i64 t.line) := by
  obtain ⟨a, cs, rfl, ha, _, h1, h2⟩ := S.out k t ht
  obtain ⟨o0, k0, o1, k1, rfl, _⟩ := h1.look
  exact ⟨a, o0, k0, o1, k1, rfl, ha, Lib.hid ((h1.below hB).more hB.size), (h2.below ha hB).four⟩
theorem de_at {w wr : World} {l : List De} {o : Option Addr} {k : Nat} {t : De} (S : Hid (SlIn w w.heap.size 6 (DeC w w.heap.size) l o)) (hB : Below w.heap.size w wr) (ht : l[k]? = some t) :
    ∃ a o0 k0 o1 k1, o = some a ∧ a.block < w.heap.size ∧ Hid (DeC wr wr.heap.size t [.string t.rel, .slice o0 t.names.length k0, .slice o1 t.types.length k1, .bool t.inn, .bool t.out, .int .i64 t.line]) ∧
      wr.cell? (a.add (k * 6)) = some (.string t.rel) ∧ wr.cell? ⟨(a.add (k * 6)).block, (a.add (k * 6)).off + 1, none⟩ = some (.slice o0 t.names.length k0) ∧ wr.cell? ⟨(a.add (k * 6)).block, (a.add (k * 6)).off + 2, none⟩ = some (.slice o1 t.types.length k1) ∧ wr.cell? ⟨(a.add (k * 6)).block, (a.add (k * 6)).off + 3, none⟩ = some (.bool t.inn) ∧ wr.cell? ⟨(a.add (k * 6)).block, (a.add (k * 6)).off + 4, none⟩ = some (.bool t.out) ∧ wr.cell? ⟨(a.add (k * 6)).block, (a.add (k * 6)).off + 5, none⟩ = some (.int .i64 t.line) := by
  obtain ⟨a, cs, rfl, ha, _, h1, h2⟩ := S.out k t ht
  obtain ⟨o0, k0, o1, k1, rfl, _⟩ := h1.look
  exact ⟨a, o0, k0, o1, k1, rfl, ha, Lib.hid ((h1.below hB).more hB.size), (h2.below ha hB).n6⟩
theorem held44 {W w1 : World} (b : Below W.heap.size W.drew w1) {x0 x1 i0 i1 : Nat} {p q : Addr} {v0 v1 v2 v3 v4 v5 v6 v7 v8 v9 : Value} (hx0 : x0 < W.heap.size) (hx1 : x1 < W.heap.size) (hp : p.block < W.heap.size) (hq : q.block < W.heap.size)
    (h : W.cell? ⟨x0, i0, none⟩ = some v0 ∧ W.cell? ⟨x1, i1, none⟩ = some v1 ∧ W.cell? p = some v2 ∧ W.cell? ⟨p.block, p.off + 1, none⟩ = some v3 ∧ W.cell? ⟨p.block, p.off + 2, none⟩ = some v4 ∧ W.cell? ⟨p.block, p.off + 3, none⟩ = some v5 ∧ W.cell? q = some v6 ∧ W.cell? ⟨q.block, q.off + 1, none⟩ = some v7 ∧ W.cell? ⟨q.block, q.off + 2, none⟩ = some v8 ∧ W.cell? ⟨q.block, q.off + 3, none⟩ = some v9) :
    w1.cell? ⟨x0, i0, none⟩ = some v0 ∧ w1.cell? ⟨x1, i1, none⟩ = some v1 ∧ w1.cell? p = some v2 ∧ w1.cell? ⟨p.block, p.off + 1, none⟩ = some v3 ∧ w1.cell? ⟨p.block, p.off + 2, none⟩ = some v4 ∧ w1.cell? ⟨p.block, p.off + 3, none⟩ = some v5 ∧ w1.cell? q = some v6 ∧ w1.cell? ⟨q.block, q.off + 1, none⟩ = some v7 ∧ w1.cell? ⟨q.block, q.off + 2, none⟩ = some v8 ∧ w1.cell? ⟨q.block, q.off + 3, none⟩ = some v9 := by
  obtain ⟨h0, h1, h2, h3, h4, h5, h6, h7, h8, h9⟩ := h
  exact ⟨(b.cell (p := ⟨x0, i0, none⟩) hx0).trans h0, (b.cell (p := ⟨x1, i1, none⟩) hx1).trans h1, (b.cell hp).trans h2, (b.cell (p := ⟨p.block, p.off + 1, none⟩) hp).trans h3, (b.cell (p := ⟨p.block, p.off + 2, none⟩) hp).trans h4, (b.cell (p := ⟨p.block, p.off + 3, none⟩) hp).trans h5, (b.cell hq).trans h6, (b.cell (p := ⟨q.block, q.off + 1, none⟩) hq).trans h7, (b.cell (p := ⟨q.block, q.off + 2, none⟩) hq).trans h8, (b.cell (p := ⟨q.block, q.off + 3, none⟩) hq).trans h9⟩
theorem held11 {W w1 : World} (b : Below W.heap.size W.drew w1) {x0 x1 i0 i1 : Nat} {p q : Addr} {v0 v1 v2 v3 v4 v5 v6 v7 v8 v9 v10 v11 v12 v13 v14 v15 v16 v17 v18 v19 v20 v21 v22 v23 : Value} (hx0 : x0 < W.heap.size) (hx1 : x1 < W.heap.size) (hp : p.block < W.heap.size) (hq : q.block < W.heap.size)
    (h : W.cell? ⟨x0, i0, none⟩ = some v0 ∧ W.cell? ⟨x1, i1, none⟩ = some v1 ∧ W.cell? p = some v2 ∧ W.cell? ⟨p.block, p.off + 1, none⟩ = some v3 ∧ W.cell? ⟨p.block, p.off + 2, none⟩ = some v4 ∧ W.cell? ⟨p.block, p.off + 3, none⟩ = some v5 ∧ W.cell? ⟨p.block, p.off + 4, none⟩ = some v6 ∧ W.cell? ⟨p.block, p.off + 5, none⟩ = some v7 ∧ W.cell? ⟨p.block, p.off + 6, none⟩ = some v8 ∧ W.cell? ⟨p.block, p.off + 7, none⟩ = some v9 ∧ W.cell? ⟨p.block, p.off + 8, none⟩ = some v10 ∧ W.cell? ⟨p.block, p.off + 9, none⟩ = some v11 ∧ W.cell? ⟨p.block, p.off + 10, none⟩ = some v12 ∧ W.cell? q = some v13 ∧ W.cell? ⟨q.block, q.off + 1, none⟩ = some v14 ∧ W.cell? ⟨q.block, q.off + 2, none⟩ = some v15 ∧ W.cell? ⟨q.block, q.off + 3, none⟩ = some v16 ∧ W.cell? ⟨q.block, q.off + 4, none⟩ = some v17 ∧ W.cell? ⟨q.block, q.off + 5, none⟩ = some v18 ∧ W.cell? ⟨q.block, q.off + 6, none⟩ = some v19 ∧ W.cell? ⟨q.block, q.off + 7, none⟩ = some v20 ∧ W.cell? ⟨q.block, q.off + 8, none⟩ = some v21 ∧ W.cell? ⟨q.block, q.off + 9, none⟩ = some v22 ∧ W.cell? ⟨q.block, q.off + 10, none⟩ = some v23) :
    w1.cell? ⟨x0, i0, none⟩ = some v0 ∧ w1.cell? ⟨x1, i1, none⟩ = some v1 ∧ w1.cell? p = some v2 ∧ w1.cell? ⟨p.block, p.off + 1, none⟩ = some v3 ∧ w1.cell? ⟨p.block, p.off + 2, none⟩ = some v4 ∧ w1.cell? ⟨p.block, p.off + 3, none⟩ = some v5 ∧ w1.cell? ⟨p.block, p.off + 4, none⟩ = some v6 ∧ w1.cell? ⟨p.block, p.off + 5, none⟩ = some v7 ∧ w1.cell? ⟨p.block, p.off + 6, none⟩ = some v8 ∧ w1.cell? ⟨p.block, p.off + 7, none⟩ = some v9 ∧ w1.cell? ⟨p.block, p.off + 8, none⟩ = some v10 ∧ w1.cell? ⟨p.block, p.off + 9, none⟩ = some v11 ∧ w1.cell? ⟨p.block, p.off + 10, none⟩ = some v12 ∧ w1.cell? q = some v13 ∧ w1.cell? ⟨q.block, q.off + 1, none⟩ = some v14 ∧ w1.cell? ⟨q.block, q.off + 2, none⟩ = some v15 ∧ w1.cell? ⟨q.block, q.off + 3, none⟩ = some v16 ∧ w1.cell? ⟨q.block, q.off + 4, none⟩ = some v17 ∧ w1.cell? ⟨q.block, q.off + 5, none⟩ = some v18 ∧ w1.cell? ⟨q.block, q.off + 6, none⟩ = some v19 ∧ w1.cell? ⟨q.block, q.off + 7, none⟩ = some v20 ∧ w1.cell? ⟨q.block, q.off + 8, none⟩ = some v21 ∧ w1.cell? ⟨q.block, q.off + 9, none⟩ = some v22 ∧ w1.cell? ⟨q.block, q.off + 10, none⟩ = some v23 := by
  obtain ⟨h0, h1, h2, h3, h4, h5, h6, h7, h8, h9, h10, h11, h12, h13, h14, h15, h16, h17, h18, h19, h20, h21, h22, h23⟩ := h
  exact ⟨(b.cell (p := ⟨x0, i0, none⟩) hx0).trans h0, (b.cell (p := ⟨x1, i1, none⟩) hx1).trans h1, (b.cell hp).trans h2, (b.cell (p := ⟨p.block, p.off + 1, none⟩) hp).trans h3, (b.cell (p := ⟨p.block, p.off + 2, none⟩) hp).trans h4, (b.cell (p := ⟨p.block, p.off + 3, none⟩) hp).trans h5, (b.cell (p := ⟨p.block, p.off + 4, none⟩) hp).trans h6, (b.cell (p := ⟨p.block, p.off + 5, none⟩) hp).trans h7, (b.cell (p := ⟨p.block, p.off + 6, none⟩) hp).trans h8, (b.cell (p := ⟨p.block, p.off + 7, none⟩) hp).trans h9, (b.cell (p := ⟨p.block, p.off + 8, none⟩) hp).trans h10, (b.cell (p := ⟨p.block, p.off + 9, none⟩) hp).trans h11, (b.cell (p := ⟨p.block, p.off + 10, none⟩) hp).trans h12, (b.cell hq).trans h13, (b.cell (p := ⟨q.block, q.off + 1, none⟩) hq).trans h14, (b.cell (p := ⟨q.block, q.off + 2, none⟩) hq).trans h15, (b.cell (p := ⟨q.block, q.off + 3, none⟩) hq).trans h16, (b.cell (p := ⟨q.block, q.off + 4, none⟩) hq).trans h17, (b.cell (p := ⟨q.block, q.off + 5, none⟩) hq).trans h18, (b.cell (p := ⟨q.block, q.off + 6, none⟩) hq).trans h19, (b.cell (p := ⟨q.block, q.off + 7, none⟩) hq).trans h20, (b.cell (p := ⟨q.block, q.off + 8, none⟩) hq).trans h21, (b.cell (p := ⟨q.block, q.off + 9, none⟩) hq).trans h22, (b.cell (p := ⟨q.block, q.off + 10, none⟩) hq).trans h23⟩
theorem held66 {W w1 : World} (b : Below W.heap.size W.drew w1) {x0 x1 i0 i1 : Nat} {p q : Addr} {v0 v1 v2 v3 v4 v5 v6 v7 v8 v9 v10 v11 v12 v13 : Value} (hx0 : x0 < W.heap.size) (hx1 : x1 < W.heap.size) (hp : p.block < W.heap.size) (hq : q.block < W.heap.size)
    (h : W.cell? ⟨x0, i0, none⟩ = some v0 ∧ W.cell? ⟨x1, i1, none⟩ = some v1 ∧ W.cell? p = some v2 ∧ W.cell? ⟨p.block, p.off + 1, none⟩ = some v3 ∧ W.cell? ⟨p.block, p.off + 2, none⟩ = some v4 ∧ W.cell? ⟨p.block, p.off + 3, none⟩ = some v5 ∧ W.cell? ⟨p.block, p.off + 4, none⟩ = some v6 ∧ W.cell? ⟨p.block, p.off + 5, none⟩ = some v7 ∧ W.cell? q = some v8 ∧ W.cell? ⟨q.block, q.off + 1, none⟩ = some v9 ∧ W.cell? ⟨q.block, q.off + 2, none⟩ = some v10 ∧ W.cell? ⟨q.block, q.off + 3, none⟩ = some v11 ∧ W.cell? ⟨q.block, q.off + 4, none⟩ = some v12 ∧ W.cell? ⟨q.block, q.off + 5, none⟩ = some v13) :
    w1.cell? ⟨x0, i0, none⟩ = some v0 ∧ w1.cell? ⟨x1, i1, none⟩ = some v1 ∧ w1.cell? p = some v2 ∧ w1.cell? ⟨p.block, p.off + 1, none⟩ = some v3 ∧ w1.cell? ⟨p.block, p.off + 2, none⟩ = some v4 ∧ w1.cell? ⟨p.block, p.off + 3, none⟩ = some v5 ∧ w1.cell? ⟨p.block, p.off + 4, none⟩ = some v6 ∧ w1.cell? ⟨p.block, p.off + 5, none⟩ = some v7 ∧ w1.cell? q = some v8 ∧ w1.cell? ⟨q.block, q.off + 1, none⟩ = some v9 ∧ w1.cell? ⟨q.block, q.off + 2, none⟩ = some v10 ∧ w1.cell? ⟨q.block, q.off + 3, none⟩ = some v11 ∧ w1.cell? ⟨q.block, q.off + 4, none⟩ = some v12 ∧ w1.cell? ⟨q.block, q.off + 5, none⟩ = some v13 := by
  obtain ⟨h0, h1, h2, h3, h4, h5, h6, h7, h8, h9, h10, h11, h12, h13⟩ := h
  exact ⟨(b.cell (p := ⟨x0, i0, none⟩) hx0).trans h0, (b.cell (p := ⟨x1, i1, none⟩) hx1).trans h1, (b.cell hp).trans h2, (b.cell (p := ⟨p.block, p.off + 1, none⟩) hp).trans h3, (b.cell (p := ⟨p.block, p.off + 2, none⟩) hp).trans h4, (b.cell (p := ⟨p.block, p.off + 3, none⟩) hp).trans h5, (b.cell (p := ⟨p.block, p.off + 4, none⟩) hp).trans h6, (b.cell (p := ⟨p.block, p.off + 5, none⟩) hp).trans h7, (b.cell hq).trans h8, (b.cell (p := ⟨q.block, q.off + 1, none⟩) hq).trans h9, (b.cell (p := ⟨q.block, q.off + 2, none⟩) hq).trans h10, (b.cell (p := ⟨q.block, q.off + 3, none⟩) hq).trans h11, (b.cell (p := ⟨q.block, q.off + 4, none⟩) hq).trans h12, (b.cell (p := ⟨q.block, q.off + 5, none⟩) hq).trans h13⟩
theorem held4 {W w1 : World} (b : Below W.heap.size W.drew w1) {x0 i0 : Nat} {p : Addr} {v0 v1 v2 v3 v4 : Value} (hx0 : x0 < W.heap.size) (hp : p.block < W.heap.size)
    (h : W.cell? ⟨x0, i0, none⟩ = some v0 ∧ W.cell? p = some v1 ∧ W.cell? ⟨p.block, p.off + 1, none⟩ = some v2 ∧ W.cell? ⟨p.block, p.off + 2, none⟩ = some v3 ∧ W.cell? ⟨p.block, p.off + 3, none⟩ = some v4) :
    w1.cell? ⟨x0, i0, none⟩ = some v0 ∧ w1.cell? p = some v1 ∧ w1.cell? ⟨p.block, p.off + 1, none⟩ = some v2 ∧ w1.cell? ⟨p.block, p.off + 2, none⟩ = some v3 ∧ w1.cell? ⟨p.block, p.off + 3, none⟩ = some v4 := by
  obtain ⟨h0, h1, h2, h3, h4⟩ := h
  exact ⟨(b.cell (p := ⟨x0, i0, none⟩) hx0).trans h0, (b.cell hp).trans h1, (b.cell (p := ⟨p.block, p.off + 1, none⟩) hp).trans h2, (b.cell (p := ⟨p.block, p.off + 2, none⟩) hp).trans h3, (b.cell (p := ⟨p.block, p.off + 3, none⟩) hp).trans h4⟩
end Go.Proofs.YthjfkngfgomkbaaGreatDoor
