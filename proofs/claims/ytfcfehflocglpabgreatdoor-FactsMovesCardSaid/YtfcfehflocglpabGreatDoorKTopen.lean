/- A program, a rule, a number among the arguments, opened. What is asked of programs as trees: alike, small, right, as plain functions. How atoms, parts, rules, relations lie in memory, cell by cell; what a walk reads of them; what a call keeps. Rows of cells: small facts. Two values held against each other. dtype.Find: the first relation of a name. dtree.sameTerm and slices.EqualFunc over terms. -/
import Derived.Test.YtfcfehflocglpabGreatDoorKBytes
import Derived.Deep.Slices
import Derived.Deep.Strs
import Derived.ChangeArms
import Derived.ChangeSame
import Derived.RangeFuncRecord
import Derived.WalkMore
import Derived.Deep.LoopGhost
import Derived.BigQuiet
import Derived.Deep.QuietTactic
set_option linter.unusedSimpArgs false
set_option linter.unusedVariables false
namespace Go.Proofs.YtfcfehflocglpabGreatDoor
open Go.RowKit Go.ChangeShapes Go.WideShapes Go.Deep

theorem parts2 {H : Type} {enc : TypeId × Value → H} {P : Program} {w : World} {base : Nat} {spare : Nat → Bool} {held : Bool} {t : TypeId} {f0 f1 : Field} {fuel : Nat} {cs : List Value} {x : DataW H × List MemPlace} (ht : P.underlying t = some (.struct #[f0, f1])) (h : DataW.trod enc P w base spare held fuel t cs = some x) :
    ∃ (y0 y1 : DataW H × List MemPlace) (n : Nat), fuel = n + 1 ∧ cs.length = P.cellsOf t ∧ DataW.trod enc P w base spare held n f0.type ((cs.drop f0.offset).take (P.cellsOf f0.type)) = some y0 ∧ DataW.trod enc P w base spare held n f1.type ((cs.drop f1.offset).take (P.cellsOf f1.type)) = some y1 := by
  obtain ⟨xs, n, hn, rfl, hl, hlen, hf⟩ := DataW.trod_struct ht h
  match xs, hlen with
  | [y0, y1], _ => exact ⟨y0, y1, n, hn, hl, by simpa using hf 0 f0 rfl, by simpa using hf 1 f1 rfl⟩

theorem parts3 {H : Type} {enc : TypeId × Value → H} {P : Program} {w : World} {base : Nat} {spare : Nat → Bool} {held : Bool} {t : TypeId} {f0 f1 f2 : Field} {fuel : Nat} {cs : List Value} {x : DataW H × List MemPlace} (ht : P.underlying t = some (.struct #[f0, f1, f2])) (h : DataW.trod enc P w base spare held fuel t cs = some x) :
    ∃ (y0 y1 y2 : DataW H × List MemPlace) (n : Nat), fuel = n + 1 ∧ cs.length = P.cellsOf t ∧ DataW.trod enc P w base spare held n f0.type ((cs.drop f0.offset).take (P.cellsOf f0.type)) = some y0 ∧ DataW.trod enc P w base spare held n f1.type ((cs.drop f1.offset).take (P.cellsOf f1.type)) = some y1 ∧ DataW.trod enc P w base spare held n f2.type ((cs.drop f2.offset).take (P.cellsOf f2.type)) = some y2 := by
  obtain ⟨xs, n, hn, rfl, hl, hlen, hf⟩ := DataW.trod_struct ht h
  match xs, hlen with
  | [y0, y1, y2], _ => exact ⟨y0, y1, y2, n, hn, hl, by simpa using hf 0 f0 rfl, by simpa using hf 1 f1 rfl, by simpa using hf 2 f2 rfl⟩

theorem parts4 {H : Type} {enc : TypeId × Value → H} {P : Program} {w : World} {base : Nat} {spare : Nat → Bool} {held : Bool} {t : TypeId} {f0 f1 f2 f3 : Field} {fuel : Nat} {cs : List Value} {x : DataW H × List MemPlace} (ht : P.underlying t = some (.struct #[f0, f1, f2, f3])) (h : DataW.trod enc P w base spare held fuel t cs = some x) :
    ∃ (y0 y1 y2 y3 : DataW H × List MemPlace) (n : Nat), fuel = n + 1 ∧ cs.length = P.cellsOf t ∧ DataW.trod enc P w base spare held n f0.type ((cs.drop f0.offset).take (P.cellsOf f0.type)) = some y0 ∧ DataW.trod enc P w base spare held n f1.type ((cs.drop f1.offset).take (P.cellsOf f1.type)) = some y1 ∧ DataW.trod enc P w base spare held n f2.type ((cs.drop f2.offset).take (P.cellsOf f2.type)) = some y2 ∧ DataW.trod enc P w base spare held n f3.type ((cs.drop f3.offset).take (P.cellsOf f3.type)) = some y3 := by
  obtain ⟨xs, n, hn, rfl, hl, hlen, hf⟩ := DataW.trod_struct ht h
  match xs, hlen with
  | [y0, y1, y2, y3], _ => exact ⟨y0, y1, y2, y3, n, hn, hl, by simpa using hf 0 f0 rfl, by simpa using hf 1 f1 rfl, by simpa using hf 2 f2 rfl, by simpa using hf 3 f3 rfl⟩

theorem parts6 {H : Type} {enc : TypeId × Value → H} {P : Program} {w : World} {base : Nat} {spare : Nat → Bool} {held : Bool} {t : TypeId} {f0 f1 f2 f3 f4 f5 : Field} {fuel : Nat} {cs : List Value} {x : DataW H × List MemPlace} (ht : P.underlying t = some (.struct #[f0, f1, f2, f3, f4, f5])) (h : DataW.trod enc P w base spare held fuel t cs = some x) :
    ∃ (y0 y1 y2 y3 y4 y5 : DataW H × List MemPlace) (n : Nat), fuel = n + 1 ∧ cs.length = P.cellsOf t ∧ DataW.trod enc P w base spare held n f0.type ((cs.drop f0.offset).take (P.cellsOf f0.type)) = some y0 ∧ DataW.trod enc P w base spare held n f1.type ((cs.drop f1.offset).take (P.cellsOf f1.type)) = some y1 ∧ DataW.trod enc P w base spare held n f2.type ((cs.drop f2.offset).take (P.cellsOf f2.type)) = some y2 ∧ DataW.trod enc P w base spare held n f3.type ((cs.drop f3.offset).take (P.cellsOf f3.type)) = some y3 ∧ DataW.trod enc P w base spare held n f4.type ((cs.drop f4.offset).take (P.cellsOf f4.type)) = some y4 ∧ DataW.trod enc P w base spare held n f5.type ((cs.drop f5.offset).take (P.cellsOf f5.type)) = some y5 := by
  obtain ⟨xs, n, hn, rfl, hl, hlen, hf⟩ := DataW.trod_struct ht h
  match xs, hlen with
  | [y0, y1, y2, y3, y4, y5], _ => exact ⟨y0, y1, y2, y3, y4, y5, n, hn, hl, by simpa using hf 0 f0 rfl, by simpa using hf 1 f1 rfl, by simpa using hf 2 f2 rfl, by simpa using hf 3 f3 rfl, by simpa using hf 4 f4 rfl, by simpa using hf 5 f5 rfl⟩

section
variable {H : Type} {enc : TypeId × Value → H} {w : World}

theorem cell_block {a : Addr} {v : Value} (h : w.cell? a = some v) : a.block < w.heap.size := by
  unfold World.cell? at h
  rcases Nat.lt_or_ge a.block w.heap.size with h' | h'
  · exact h'
  · simp [Array.getElem?_eq_none h'] at h

theorem open_sl {α : Type} {R : α → List Value → Prop} {z fuel : Nat} {t e : TypeId} {v : Value} {x : DataW H × List MemPlace} (ht : Tryz.prog.underlying t = some (.slice e)) (hz : Tryz.prog.cellsOf e = z) (hp : 0 < z)
    (hE : ∀ n cs y, n < fuel → DataW.trod enc Tryz.prog w 0 (fun _ => true) true n e cs = some y → ∃ b, R b cs)
    (h : DataW.trod enc Tryz.prog w 0 (fun _ => true) true fuel t [v] = some x) : ∃ l : List α, SlOf w w.heap.size z R l v := by
  rcases DataW.trod_slice ht h with ⟨hcs, _⟩ | ⟨a, len, cap, elems, rest, n, rfl, hcs, _, _, hl, hm, hlen, hel, _, _⟩
  · exact ⟨[], .inl ⟨(List.cons.inj hcs).1, rfl⟩⟩
  · rw [hz] at hel
    have each : ∀ i, i < len → ∃ b cs, cs.length = z ∧ R b cs ∧ CellsAt w a (i * z) cs := by
      intro i hi
      have h1 := hel i hi
      rw [List.getElem?_eq_getElem (by omega), Option.bind_eq_some_iff] at h1
      obtain ⟨cs, hc, htr⟩ := h1
      obtain ⟨b, hb⟩ := hE n cs _ (by omega) htr
      obtain ⟨_, hcl, hat⟩ := World.cells?_some hc
      refine ⟨b, cs, hcl, hb, fun j c hj => ?_⟩
      have hjz : j < z := by rw [← hcl]; exact (List.getElem?_eq_some_iff.1 hj).1
      have := hat j hjz
      rw [add_add] at this
      exact this.trans hj
    by_cases h0 : len = 0
    · subst h0
      exact ⟨[], .inr ⟨a, cap, (List.cons.inj hcs).1, hl, hm, fun h => absurd rfl h, fun i x hx => by simp at hx⟩⟩
    let f : (i : Nat) → i < len → α := fun i h => (each i h).choose
    have hf : ∀ i (h : i < len), ∃ cs, cs.length = z ∧ R (f i h) cs ∧ CellsAt w a (i * z) cs := fun i h => (each i h).choose_spec
    have hblk : a.block < w.heap.size := by
      obtain ⟨cs, hcl, _, hc⟩ := hf 0 (by omega)
      have := cell_block (hc 0 cs[0] (List.getElem?_eq_getElem (by omega)))
      rwa [addBlock] at this
    refine ⟨(List.finRange len).map fun i => f i.1 i.2, .inr ⟨a, cap, by rw [(List.cons.inj hcs).1]; simp, by simpa using hl, hm, fun _ => hblk, fun i y hy => ?_⟩⟩
    rw [List.getElem?_map, Option.map_eq_some_iff] at hy
    obtain ⟨j, hj, rfl⟩ := hy
    obtain ⟨hi, e⟩ := List.getElem?_eq_some_iff.1 hj
    simp only [List.getElem_finRange] at e
    subst e
    exact hf i (by simpa using hi)

theorem cTerm : Tryz.prog.cellsOf 88 = 4 := by kernel_rfl
theorem cAtom : Tryz.prog.cellsOf 58 = 2 := by kernel_rfl
theorem cLit : Tryz.prog.cellsOf 90 = 11 := by kernel_rfl
theorem cRule : Tryz.prog.cellsOf 61 = 4 := by kernel_rfl
theorem cDecl : Tryz.prog.cellsOf 38 = 6 := by kernel_rfl
theorem cProg : Tryz.prog.cellsOf 25 = 2 := by kernel_rfl
theorem cInt : Tryz.prog.cellsOf 3 = 1 := by kernel_rfl
theorem cInt64 : Tryz.prog.cellsOf 2 = 1 := by kernel_rfl
theorem cStr : Tryz.prog.cellsOf 9 = 1 := by kernel_rfl
theorem cBool : Tryz.prog.cellsOf 4 = 1 := by kernel_rfl
theorem cTerms : Tryz.prog.cellsOf 56 = 1 := by kernel_rfl
theorem cLits : Tryz.prog.cellsOf 59 = 1 := by kernel_rfl
theorem cRules : Tryz.prog.cellsOf 23 = 1 := by kernel_rfl
theorem cDecls : Tryz.prog.cellsOf 22 = 1 := by kernel_rfl
theorem cStrs : Tryz.prog.cellsOf 35 = 1 := by kernel_rfl
theorem cInts : Tryz.prog.cellsOf 36 = 1 := by kernel_rfl

theorem wf_i64 {n : Int} (h : (Lit.int .i64 n).wf = true) : I64 n := by
  simp only [Lit.wf, Bool.and_eq_true, decide_eq_true_eq] at h
  exact h

set_option maxRecDepth 100000 in
theorem open_term : ∀ (fuel : Nat) (cs : List Value) (x : DataW H × List MemPlace), DataW.trod enc Tryz.prog w 0 (fun _ => true) true fuel 88 cs = some x → ∃ t, TmC w w.heap.size t cs := by
  intro fuel
  induction fuel using Nat.strongRecOn with
  | _ fuel ih =>
    intro cs x h
    obtain ⟨y0, y1, y2, y3, n, rfl, hcl, h0, h1, h2, h3⟩ := parts4 Tryz.underlying88 h
    rw [cTerm] at hcl
    match cs, hcl with
    | [c0, c1, c2, c3], _ =>
      simp only [cInt, cInt64, cStr, cTerms, List.drop_zero, List.drop_succ_cons, List.take_succ_cons, List.take_zero] at h0 h1 h2 h3
      obtain ⟨k0, e0, _, w0⟩ := DataW.trod_int Tryz.underlying3 h0
      obtain ⟨s1, e1, _, z1⟩ := DataW.trod_string Tryz.underlying9 h1
      obtain ⟨k2, e2, _, w2⟩ := DataW.trod_int Tryz.underlying2 h2
      simp only [List.cons.injEq, and_true] at e0 e1 e2
      subst e0 e1 e2
      obtain ⟨l, hl⟩ := open_sl Tryz.underlying56 cTerm (by omega) (fun m cs y hm hy => ih m (by omega) cs y hy) h3
      exact ⟨.mk k0 s1 k2 l, TmC.of (wf_i64 w0) z1 (wf_i64 w2) hl⟩

set_option maxRecDepth 100000 in
theorem open_atom (fuel : Nat) (cs : List Value) (x : DataW H × List MemPlace) (h : DataW.trod enc Tryz.prog w 0 (fun _ => true) true fuel 58 cs = some x) : ∃ t, AmC w w.heap.size t cs := by
  obtain ⟨y0, y1, n, rfl, hcl, h0, h1⟩ := parts2 Tryz.underlying58 h
  rw [cAtom] at hcl
  match cs, hcl with
  | [c0, c1], _ =>
    simp only [cStr, cTerms, List.drop_zero, List.drop_succ_cons, List.take_succ_cons, List.take_zero] at h0 h1
    obtain ⟨s0, e0, _, z0⟩ := DataW.trod_string Tryz.underlying9 h0
    simp only [List.cons.injEq, and_true] at e0
    subst e0
    obtain ⟨l, hl⟩ := open_sl Tryz.underlying56 cTerm (by omega) (fun m cs y hm hy => open_term m cs y hy) h1
    exact ⟨⟨s0, l⟩, _, rfl, z0, hl⟩

set_option maxRecDepth 100000 in
theorem open_lit (fuel : Nat) (cs : List Value) (x : DataW H × List MemPlace) (h : DataW.trod enc Tryz.prog w 0 (fun _ => true) true fuel 90 cs = some x) : ∃ t, LtC w w.heap.size t cs := by
  obtain ⟨y0, y1, y2, y3, n, rfl, hcl, h0, h1, h2, h3⟩ := parts4 Tryz.underlying90 h
  rw [cLit] at hcl
  match cs, hcl with
  | [c0, c1, c2, c3, c4, c5, c6, c7, c8, c9, c10], _ =>
    simp only [cInt, cAtom, cTerm, List.drop_zero, List.drop_succ_cons, List.take_succ_cons, List.take_zero] at h0 h1 h2 h3
    obtain ⟨k0, e0, _, w0⟩ := DataW.trod_int Tryz.underlying3 h0
    simp only [List.cons.injEq, and_true] at e0
    subst e0
    obtain ⟨a, ha⟩ := open_atom _ _ _ h1
    obtain ⟨x, hx⟩ := open_term _ _ _ h2
    obtain ⟨y, hy⟩ := open_term _ _ _ h3
    exact ⟨⟨k0, a, x, y⟩, _, _, _, rfl, wf_i64 w0, ha, hx, hy⟩

set_option maxRecDepth 100000 in
theorem open_rule (fuel : Nat) (cs : List Value) (x : DataW H × List MemPlace) (h : DataW.trod enc Tryz.prog w 0 (fun _ => true) true fuel 61 cs = some x) : ∃ t, RuC w w.heap.size t cs := by
  obtain ⟨y0, y1, y2, n, rfl, hcl, h0, h1, h2⟩ := parts3 Tryz.underlying61 h
  rw [cRule] at hcl
  match cs, hcl with
  | [c0, c1, c2, c3], _ =>
    simp only [cInt, cAtom, cLits, List.drop_zero, List.drop_succ_cons, List.take_succ_cons, List.take_zero] at h0 h1 h2
    obtain ⟨k2, e2, _, w2⟩ := DataW.trod_int Tryz.underlying3 h2
    simp only [List.cons.injEq, and_true] at e2
    subst e2
    obtain ⟨a, ha⟩ := open_atom _ _ _ h0
    obtain ⟨l, hl⟩ := open_sl Tryz.underlying59 cLit (by omega) (fun m cs y hm hy => open_lit m cs y hy) h1
    exact ⟨⟨a, l, k2⟩, _, _, rfl, wf_i64 w2, ha, hl⟩

set_option maxRecDepth 100000 in
theorem open_decl (fuel : Nat) (cs : List Value) (x : DataW H × List MemPlace) (h : DataW.trod enc Tryz.prog w 0 (fun _ => true) true fuel 38 cs = some x) : ∃ t, DeC w w.heap.size t cs := by
  obtain ⟨y0, y1, y2, y3, y4, y5, n, rfl, hcl, h0, h1, h2, h3, h4, h5⟩ := parts6 Tryz.underlying38 h
  rw [cDecl] at hcl
  match cs, hcl with
  | [c0, c1, c2, c3, c4, c5], _ =>
    simp only [cInt, cStr, cStrs, cInts, cBool, List.drop_zero, List.drop_succ_cons, List.take_succ_cons, List.take_zero] at h0 h1 h2 h3 h4 h5
    obtain ⟨s0, e0, _, z0⟩ := DataW.trod_string Tryz.underlying9 h0
    obtain ⟨b3, e3, _⟩ := DataW.trod_bool Tryz.underlying4 h3
    obtain ⟨b4, e4, _⟩ := DataW.trod_bool Tryz.underlying4 h4
    obtain ⟨k5, e5, _, w5⟩ := DataW.trod_int Tryz.underlying3 h5
    simp only [List.cons.injEq, and_true] at e0 e3 e4 e5
    subst e0 e3 e4 e5
    obtain ⟨l, hl⟩ := open_sl (R := StrC) Tryz.underlying35 cStr (by omega) (fun m cs y hm hy => by obtain ⟨s, e, _, z⟩ := DataW.trod_string Tryz.underlying9 hy; exact ⟨s, e, z⟩) h1
    obtain ⟨m, hm⟩ := open_sl (R := IntC) Tryz.underlying36 cInt (by omega) (fun m cs y hm hy => by obtain ⟨s, e, _, z⟩ := DataW.trod_int Tryz.underlying3 hy; exact ⟨s, e, wf_i64 z⟩) h2
    exact ⟨⟨s0, l, m, b3, b4, k5⟩, _, _, rfl, z0, wf_i64 w5, hl, hm⟩

set_option maxRecDepth 100000 in
theorem open_prog (fuel : Nat) (cs : List Value) (x : DataW H × List MemPlace) (h : DataW.trod enc Tryz.prog w 0 (fun _ => true) true fuel 25 cs = some x) : ∃ t, PgC w w.heap.size t cs := by
  obtain ⟨y0, y1, n, rfl, hcl, h0, h1⟩ := parts2 Tryz.underlying25 h
  rw [cProg] at hcl
  match cs, hcl with
  | [c0, c1], _ =>
    simp only [cDecls, cRules, List.drop_zero, List.drop_succ_cons, List.take_succ_cons, List.take_zero] at h0 h1
    obtain ⟨l, hl⟩ := open_sl Tryz.underlying22 cDecl (by omega) (fun m cs y hm hy => open_decl m cs y hy) h0
    obtain ⟨m, hm⟩ := open_sl Tryz.underlying23 cRule (by omega) (fun m cs y hm hy => open_rule m cs y hy) h1
    exact ⟨⟨l, m⟩, _, _, rfl, hl, hm⟩
end
end Go.Proofs.YtfcfehflocglpabGreatDoor
namespace Go.Proofs.YtfcfehflocglpabGreatDoor
open Go.RowKit

/-! ### Alike -/
mutual
def sameT : Tm → Tm → Bool
  | .mk o s n l, u => (o == u.op) && (s.toList == u.s.toList) && (n == u.n) && sameTs l u.l
def sameTs : List Tm → List Tm → Bool
  | [], [] => true
  | t :: ts, u :: us => sameT t u && sameTs ts us
  | _, _ => false
end
def sameA (a b : Am) : Bool := (a.rel.toList == b.rel.toList) && sameTs a.l b.l
def sameL (a b : Lt) : Bool := (a.op == b.op) && sameA a.a b.a && sameT a.x b.x && sameT a.y b.y
def sameR (a b : Ru) : Bool := sameA a.head b.head && allS sameL a.body b.body
def strE (s t : ByteArray) : Bool := s.toList == t.toList
def intE (s t : Int) : Bool := s == t
def sameD (a b : De) : Bool := strE a.rel b.rel && (a.inn == b.inn) && (a.out == b.out) && allS strE a.names b.names && allS intE a.types b.types
def sameP (a b : Pg) : Bool := allS sameD a.decls b.decls && allS sameR a.rules b.rules

theorem sameTs_all : ∀ l m : List Tm, sameTs l m = allS sameT l m
  | [], [] => by simp [sameTs, allS]
  | [], _ :: _ => by simp [sameTs, allS]
  | _ :: _, [] => by simp [sameTs, allS]
  | t :: l, u :: m => by simp [sameTs, allS, sameTs_all l m]
theorem sameT_eq (t u : Tm) : sameT t u = ((t.op == u.op) && (t.s.toList == u.s.toList) && (t.n == u.n) && allS sameT t.l u.l) := by
  cases t
  unfold sameT
  rw [sameTs_all]
  rfl
/-! ### Small -/
mutual
def sizeT : Tm → Int → Int
  | .mk _ s _ l, left => if 1000 < s.size then -1 else sizeTs l (left - 1)
def sizeTs : List Tm → Int → Int
  | [], left => left
  | t :: ts, left => if left < 0 then left else sizeTs ts (sizeT t left)
end
def sizeA (a : Am) (left : Int) : Int := if 1000 < a.rel.size then -1 else sizeTs a.l left
def sizeL1 (l : Lt) (left : Int) : Int := if sizeA l.a (left - 1) < 0 then sizeA l.a (left - 1) else if sizeT l.x (sizeA l.a (left - 1)) < 0 then sizeT l.x (sizeA l.a (left - 1)) else sizeT l.y (sizeT l.x (sizeA l.a (left - 1)))
def foldS {α : Type} (f : α → Int → Int) : List α → Int → Int
  | [], left => left
  | t :: ts, left => if left < 0 then left else foldS f ts (f t left)
def sizeR (r : Ru) (left : Int) : Int := foldS sizeL1 r.body (sizeA r.head (left - 1))
def longB' (l : List ByteArray) : Bool := l.any fun s => decide (1000 < s.size)
def bigD (d : De) : Bool := decide (1000 < d.rel.size) || longB' d.names
def smallP (p : Pg) : Bool := !(p.decls.any bigD) && decide (0 ≤ foldS sizeR p.rules 2000) && decide (p.decls.length ≤ 100) && decide (p.rules.length ≤ 300)
theorem sizeTs_fold : ∀ (l : List Tm) (left : Int), sizeTs l left = foldS sizeT l left
  | [], _ => by simp [sizeTs, foldS]
  | t :: ts, left => by unfold sizeTs foldS; rw [sizeTs_fold ts]
theorem sizeT_eq (t : Tm) (left : Int) : sizeT t left = if 1000 < t.s.size then -1 else foldS sizeT t.l (left - 1) := by
  cases t
  unfold sizeT
  rw [sizeTs_fold]
  rfl
theorem sizeT_mk (op : Int) (s : ByteArray) (n : Int) (l : List Tm) (left : Int) : sizeT (.mk op s n l) left = if 1000 < s.size then -1 else foldS sizeT l (left - 1) := by
  unfold sizeT
  rw [sizeTs_fold]
theorem retI {k : IntKind} {a b : Int} (h : a = b) : Ending.returned (.int k a) = .returned (.int k b) := by rw [h]
theorem foldS_neg {α : Type} (f : α → Int → Int) (l : List α) {left : Int} (h : left < 0) : foldS f l left = left := by
  cases l with
  | nil => rfl
  | cons t ts => unfold foldS; rw [if_pos h]
theorem foldS_drop {α : Type} {f : α → Int → Int} {l : List α} {k : Nat} {t : α} {left : Int} (ht : l[k]? = some t) (h : 0 ≤ left) : foldS f (l.drop k) left = foldS f (l.drop (k + 1)) (f t left) := by
  have h1 : l.drop k = t :: l.drop (k + 1) := by rw [List.drop_eq_getElem_cons (List.getElem?_eq_some_iff.1 ht).1, (List.getElem?_eq_some_iff.1 ht).2]
  rw [h1]
  show (if left < 0 then left else _) = _
  rw [if_neg (by omega)]
/-- Counting down goes no further than one below nothing. -/
theorem sizeT_lo (t : Tm) : ∀ left : Int, 0 ≤ left → -1 ≤ sizeT t left ∧ sizeT t left ≤ left := by
  induction t using Tm.rec (motive_2 := fun l => ∀ left : Int, -1 ≤ left → -1 ≤ foldS sizeT l left ∧ foldS sizeT l left ≤ left) with
  | mk op s n l ih =>
    intro left h
    rw [sizeT_eq]
    split
    · omega
    · have := ih (left - 1) (by omega)
      simp only [Tm.l_mk]
      omega
  | nil left h => exact ⟨h, Int.le_refl _⟩
  | cons t ts ih ihs left h =>
    unfold foldS
    split
    · exact ⟨h, Int.le_refl _⟩
    · have h1 := ih left (by omega)
      have h2 := ihs _ h1.1
      omega
theorem foldS_lo {α : Type} {f : α → Int → Int} (hf : ∀ x left, 0 ≤ left → -1 ≤ f x left ∧ f x left ≤ left) : ∀ (l : List α) (left : Int), -1 ≤ left → -1 ≤ foldS f l left ∧ foldS f l left ≤ left
  | [], left, h => ⟨h, Int.le_refl _⟩
  | t :: ts, left, h => by
    unfold foldS
    split
    · exact ⟨h, Int.le_refl _⟩
    · have h1 := hf t left (by omega)
      have h2 := foldS_lo hf ts _ h1.1
      omega
theorem sizeA_lo (a : Am) (left : Int) (h : -1 ≤ left) : -1 ≤ sizeA a left ∧ sizeA a left ≤ left := by
  unfold sizeA
  split
  · omega
  · rw [sizeTs_fold]; exact foldS_lo sizeT_lo _ _ h
theorem sizeL1_lo (l : Lt) (left : Int) (h : 0 ≤ left) : -1 ≤ sizeL1 l left ∧ sizeL1 l left ≤ left := by
  have h1 := sizeA_lo l.a (left - 1) (by omega)
  unfold sizeL1
  split
  · omega
  · have h2 := sizeT_lo l.x (sizeA l.a (left - 1)) (by omega)
    split
    · omega
    · have h3 := sizeT_lo l.y (sizeT l.x (sizeA l.a (left - 1))) (by omega)
      omega
theorem sizeR_lo (r : Ru) (left : Int) (h : 0 ≤ left) : -1 ≤ sizeR r left ∧ sizeR r left ≤ left := by
  have h1 := sizeA_lo r.head (left - 1) (by omega)
  have h2 := foldS_lo sizeL1_lo r.body _ h1.1
  unfold sizeR
  omega

/-! ### Right -/
def twoB (op : Int) : Bool := (op == 5) || (op == 6) || (op == 7)
def recB (t : Tm) : Bool := (t.op != 3) && (t.op != 4)
def leafB (t : Tm) : Bool :=
  if t.op = 1 then nameB t.s.data.toList && (t.n == 0) && t.l.isEmpty
  else if t.op = 2 then t.s.toList.isEmpty && t.l.isEmpty
  else if t.op = 3 then (t.n == 0) && t.l.isEmpty
  else if t.op = 4 then t.s.toList.isEmpty && (t.n == 0) && t.l.isEmpty
  else false
def rightT : Nat → Tm → Bool
  | 0, _ => false
  | h + 1, t => if twoB t.op = true then t.s.toList.isEmpty && (t.n == 0) && (match t.l with | [a, b] => recB a && rightT h a && (recB b && rightT h b) | _ => false) else leafB t
def rightA (a : Am) : Bool := nameB a.rel.data.toList && decide (1 ≤ a.l.length) && decide (a.l.length ≤ 8) && a.l.all (rightT 20)
def noT (t : Tm) : Bool := (t.op == 0) && t.s.toList.isEmpty && (t.n == 0) && t.l.isEmpty
def noA (a : Am) : Bool := a.rel.toList.isEmpty && a.l.isEmpty
def rightL (l : Lt) : Bool :=
  if l.op = 1 ∨ l.op = 2 then rightA l.a && noT l.x && noT l.y
  else if 3 ≤ l.op ∧ l.op ≤ 6 then noA l.a && rightT 20 l.x && rightT 20 l.y && (l.x.op != 4) && (l.y.op != 4)
  else if l.op = 7 then rightA l.a && rightT 20 l.x && ((l.x.op == 1) || (l.x.op == 2)) && noT l.y
  else if 8 ≤ l.op ∧ l.op ≤ 10 then rightA l.a && rightT 20 l.x && ((l.x.op == 1) || (l.x.op == 2)) && rightT 20 l.y && (l.y.op == 1)
  else false
def headT (fact : Bool) (t : Tm) : Bool := !((t.op == 4) || twoB t.op || ((t.op == 1) && fact))
def rightR (r : Ru) : Bool := rightA r.head && decide (r.body.length ≤ 20) && r.head.l.all (headT r.body.isEmpty) && r.body.all rightL
def rightTy (n : Int) : Bool := (n == 1) || (n == 2)
def rightD (d : De) : Bool := nameB d.rel.data.toList && decide (1 ≤ d.names.length) && decide (d.names.length ≤ 8) && decide (d.types.length = d.names.length) && d.names.all (fun s => nameB s.data.toList) && d.types.all rightTy
def rightP (p : Pg) : Bool := decide (p.decls.length ≤ 60) && decide (p.rules.length ≤ 200) && p.decls.all rightD && p.rules.all rightR

/-- As the program goes: every node, with its level. -/
def shapeB (t : Tm) : Bool := if twoB t.op = true then t.s.toList.isEmpty && (t.n == 0) && (match t.l with | [a, b] => recB a && recB b | _ => false) else leafB t
mutual
def okT : Nat → Tm → Bool
  | lv, .mk o s n l => decide (lv ≤ 20) && shapeB (.mk o s n l) && okTs (lv + 1) l
def okTs : Nat → List Tm → Bool
  | _, [] => true
  | lv, t :: ts => okT lv t && okTs lv ts
end
theorem okT_eq (lv : Nat) (t : Tm) : okT lv t = (decide (lv ≤ 20) && shapeB t && okTs (lv + 1) t.l) := by cases t; unfold okT; rfl
theorem okTs_all (lv : Nat) : ∀ l : List Tm, okTs lv l = l.all (okT lv)
  | [] => by simp [okTs]
  | t :: ts => by unfold okTs; rw [okTs_all lv ts, List.all_cons]
theorem leaf_nil {t : Tm} (h : leafB t = true) : t.l = [] := by
  unfold leafB at h
  split at h
  · simp at h; exact h.2
  · split at h
    · simp at h; exact h.2
    · split at h
      · simp at h; exact h.2
      · split at h
        · simp at h; exact h.2
        · cases h
theorem ok_right : ∀ (h : Nat) (t : Tm), h ≤ 20 → okT (21 - h) t = rightT h t
  | 0, t, _ => by rw [okT_eq]; unfold rightT; simp
  | h + 1, t, hh => by
    have ih : ∀ u, okT (21 - h) u = rightT h u := fun u => ok_right h u (by omega)
    rw [okT_eq, show 21 - (h + 1) + 1 = 21 - h by omega]
    have hd : decide (21 - (h + 1) ≤ 20) = true := by simp
    rw [hd, Bool.true_and]
    unfold rightT shapeB
    by_cases h2 : twoB t.op = true
    · rw [if_pos h2, if_pos h2]
      match hl : t.l with
      | [] => simp
      | [a] => simp
      | [a, b] =>
        simp only [okTs, ih, Bool.and_true]
        cases t.s.toList.isEmpty <;> cases (t.n == 0) <;> cases recB a <;> cases recB b <;> cases rightT h a <;> cases rightT h b <;> rfl
      | a :: b :: c :: r => simp
    · rw [if_neg h2, if_neg h2]
      cases hf : leafB t with
      | false => rfl
      | true => rw [leaf_nil hf]; rfl

end Go.Proofs.YtfcfehflocglpabGreatDoor
namespace Go.Proofs.YtfcfehflocglpabGreatDoor
open Go.RowKit

theorem CellsAt.n6 {w : World} {a : Addr} {o : Nat} {c0 c1 c2 c3 c4 c5 : Value} (h : CellsAt w a o [c0, c1, c2, c3, c4, c5]) : w.cell? (a.add o) = some c0 ∧ w.cell? ⟨(a.add o).block, (a.add o).off + 1, none⟩ = some c1 ∧ w.cell? ⟨(a.add o).block, (a.add o).off + 2, none⟩ = some c2 ∧ w.cell? ⟨(a.add o).block, (a.add o).off + 3, none⟩ = some c3 ∧ w.cell? ⟨(a.add o).block, (a.add o).off + 4, none⟩ = some c4 ∧ w.cell? ⟨(a.add o).block, (a.add o).off + 5, none⟩ = some c5 := by
  rw [← addNext a o 1 (by omega), ← addNext a o 2 (by omega), ← addNext a o 3 (by omega), ← addNext a o 4 (by omega), ← addNext a o 5 (by omega)]
  exact ⟨h 0 _ rfl, h 1 _ rfl, h 2 _ rfl, h 3 _ rfl, h 4 _ rfl, h 5 _ rfl⟩
theorem CellsAt.n11 {w : World} {a : Addr} {o : Nat} {c0 c1 c2 c3 c4 c5 c6 c7 c8 c9 c10 : Value} (h : CellsAt w a o [c0, c1, c2, c3, c4, c5, c6, c7, c8, c9, c10]) : w.cell? (a.add o) = some c0 ∧ w.cell? ⟨(a.add o).block, (a.add o).off + 1, none⟩ = some c1 ∧ w.cell? ⟨(a.add o).block, (a.add o).off + 2, none⟩ = some c2 ∧ w.cell? ⟨(a.add o).block, (a.add o).off + 3, none⟩ = some c3 ∧ w.cell? ⟨(a.add o).block, (a.add o).off + 4, none⟩ = some c4 ∧ w.cell? ⟨(a.add o).block, (a.add o).off + 5, none⟩ = some c5 ∧ w.cell? ⟨(a.add o).block, (a.add o).off + 6, none⟩ = some c6 ∧ w.cell? ⟨(a.add o).block, (a.add o).off + 7, none⟩ = some c7 ∧ w.cell? ⟨(a.add o).block, (a.add o).off + 8, none⟩ = some c8 ∧ w.cell? ⟨(a.add o).block, (a.add o).off + 9, none⟩ = some c9 ∧ w.cell? ⟨(a.add o).block, (a.add o).off + 10, none⟩ = some c10 := by
  rw [← addNext a o 1 (by omega), ← addNext a o 2 (by omega), ← addNext a o 3 (by omega), ← addNext a o 4 (by omega), ← addNext a o 5 (by omega), ← addNext a o 6 (by omega), ← addNext a o 7 (by omega), ← addNext a o 8 (by omega), ← addNext a o 9 (by omega), ← addNext a o 10 (by omega)]
  exact ⟨h 0 _ rfl, h 1 _ rfl, h 2 _ rfl, h 3 _ rfl, h 4 _ rfl, h 5 _ rfl, h 6 _ rfl, h 7 _ rfl, h 8 _ rfl, h 9 _ rfl, h 10 _ rfl⟩

theorem AmC.look {w : World} {B : Nat} {t : Am} {cs : List Value} (h : AmC w B t cs) : ∃ o cap, cs = [.string t.rel, .slice o t.l.length cap] ∧ t.rel.size ≤ maxLen ∧ TmS w B t.l (.slice o t.l.length cap) := by
  obtain ⟨v, rfl, h1, h2⟩ := h
  obtain ⟨o, cap, rfl, _⟩ := SlOf.uni h2
  exact ⟨o, cap, rfl, h1, h2⟩
theorem LtC.look {w : World} {B : Nat} {t : Lt} {cs : List Value} (h : LtC w B t cs) : ∃ o0 k0 o1 k1 o2 k2, cs = [.int .i64 t.op, .string t.a.rel, .slice o0 t.a.l.length k0, .int .i64 t.x.op, .string t.x.s, .int .i64 t.x.n, .slice o1 t.x.l.length k1, .int .i64 t.y.op, .string t.y.s, .int .i64 t.y.n, .slice o2 t.y.l.length k2] ∧ I64 t.op ∧
    AmC w B t.a [.string t.a.rel, .slice o0 t.a.l.length k0] ∧ TmC w B t.x [.int .i64 t.x.op, .string t.x.s, .int .i64 t.x.n, .slice o1 t.x.l.length k1] ∧ TmC w B t.y [.int .i64 t.y.op, .string t.y.s, .int .i64 t.y.n, .slice o2 t.y.l.length k2] := by
  obtain ⟨ca, cx, cy, rfl, h1, h2, h3, h4⟩ := h
  obtain ⟨o0, k0, rfl, _⟩ := h2.look
  obtain ⟨o1, k1, rfl, _⟩ := h3.look
  obtain ⟨o2, k2, rfl, _⟩ := h4.look
  exact ⟨o0, k0, o1, k1, o2, k2, rfl, h1, h2, h3, h4⟩
theorem RuC.look {w : World} {B : Nat} {t : Ru} {cs : List Value} (h : RuC w B t cs) : ∃ o0 k0 o1 k1, cs = [.string t.head.rel, .slice o0 t.head.l.length k0, .slice o1 t.body.length k1, .int .i64 t.line] ∧ I64 t.line ∧
    AmC w B t.head [.string t.head.rel, .slice o0 t.head.l.length k0] ∧ SlOf w B 11 (LtC w B) t.body (.slice o1 t.body.length k1) := by
  obtain ⟨ca, v, rfl, h1, h2, h3⟩ := h
  obtain ⟨o0, k0, rfl, _⟩ := h2.look
  obtain ⟨o1, k1, rfl, _⟩ := SlOf.uni h3
  exact ⟨o0, k0, o1, k1, rfl, h1, h2, h3⟩
theorem DeC.look {w : World} {B : Nat} {d : De} {cs : List Value} (h : DeC w B d cs) : ∃ o0 k0 o1 k1, cs = [.string d.rel, .slice o0 d.names.length k0, .slice o1 d.types.length k1, .bool d.inn, .bool d.out, .int .i64 d.line] ∧ d.rel.size ≤ maxLen ∧ I64 d.line ∧
    SlOf w B 1 StrC d.names (.slice o0 d.names.length k0) ∧ SlOf w B 1 IntC d.types (.slice o1 d.types.length k1) := by
  obtain ⟨v, u, rfl, h1, h2, h3, h4⟩ := h
  obtain ⟨o0, k0, rfl, _⟩ := SlOf.uni h3
  obtain ⟨o1, k1, rfl, _⟩ := SlOf.uni h4
  exact ⟨o0, k0, o1, k1, rfl, h1, h2, h3, h4⟩
theorem PgC.look {w : World} {B : Nat} {d : Pg} {cs : List Value} (h : PgC w B d cs) : ∃ o0 k0 o1 k1, cs = [.slice o0 d.decls.length k0, .slice o1 d.rules.length k1] ∧
    SlOf w B 6 (DeC w B) d.decls (.slice o0 d.decls.length k0) ∧ SlOf w B 4 (RuC w B) d.rules (.slice o1 d.rules.length k1) := by
  obtain ⟨v, u, rfl, h3, h4⟩ := h
  obtain ⟨o0, k0, rfl, _⟩ := SlOf.uni h3
  obtain ⟨o1, k1, rfl, _⟩ := SlOf.uni h4
  exact ⟨o0, k0, o1, k1, rfl, h3, h4⟩
theorem SlOf.lit {w w' : World} {B B' : Nat} {l : List Lt} {v : Value} (h : SlOf w B 11 (LtC w B) l v) (hb : Below B w w') (hB : B ≤ B') : SlOf w' B' 11 (LtC w' B') l v := SlOf.more (SlOf.below h hb fun _ _ _ h => h.below hb) hB fun _ _ _ h => h.more hB
theorem SlOf.rule {w w' : World} {B B' : Nat} {l : List Ru} {v : Value} (h : SlOf w B 4 (RuC w B) l v) (hb : Below B w w') (hB : B ≤ B') : SlOf w' B' 4 (RuC w' B') l v := SlOf.more (SlOf.below h hb fun _ _ _ h => h.below hb) hB fun _ _ _ h => h.more hB
theorem SlOf.decl {w w' : World} {B B' : Nat} {l : List De} {v : Value} (h : SlOf w B 6 (DeC w B) l v) (hb : Below B w w') (hB : B ≤ B') : SlOf w' B' 6 (DeC w' B') l v := SlOf.more (SlOf.below h hb fun _ _ _ h => h.below hb) hB fun _ _ _ h => h.more hB

theorem lt_at {w wr : World} {l : List Lt} {o : Option Addr} {k : Nat} {t : Lt} (S : Hid (SlIn w w.heap.size 11 (LtC w w.heap.size) l o)) (hB : Below w.heap.size w wr) (ht : l[k]? = some t) :
    ∃ a o0 k0 o1 k1 o2 k2, o = some a ∧ a.block < w.heap.size ∧ Hid (LtC wr wr.heap.size t [.int .i64 t.op, .string t.a.rel, .slice o0 t.a.l.length k0, .int .i64 t.x.op, .string t.x.s, .int .i64 t.x.n, .slice o1 t.x.l.length k1, .int .i64 t.y.op, .string t.y.s, .int .i64 t.y.n, .slice o2 t.y.l.length k2]) ∧
      wr.cell? (a.add (k * 11)) = some (.int .i64 t.op) ∧ wr.cell? ⟨(a.add (k * 11)).block, (a.add (k * 11)).off + 1, none⟩ = some (.string t.a.rel) ∧ wr.cell? ⟨(a.add (k * 11)).block, (a.add (k * 11)).off + 2, none⟩ = some (.slice o0 t.a.l.length k0) ∧ wr.cell? ⟨(a.add (k * 11)).block, (a.add (k * 11)).off + 3, none⟩ = some (.int .i64 t.x.op) ∧ wr.cell? ⟨(a.add (k * 11)).block, (a.add (k * 11)).off + 4, none⟩ = some (.string t.x.s) ∧ wr.cell? ⟨(a.add (k * 11)).block, (a.add (k * 11)).off + 5, none⟩ = some (.int .i64 t.x.n) ∧ wr.cell? ⟨(a.add (k * 11)).block, (a.add (k * 11)).off + 6, none⟩ = some (.slice o1 t.x.l.length k1) ∧ wr.cell? ⟨(a.add (k * 11)).block, (a.add (k * 11)).off + 7, none⟩ = some (.int .i64 t.y.op) ∧ wr.cell? ⟨(a.add (k * 11)).block, (a.add (k * 11)).off + 8, none⟩ = some (.string t.y.s) ∧ wr.cell? ⟨(a.add (k * 11)).block, (a.add (k * 11)).off + 9, none⟩ = some (.int .i64 t.y.n) ∧ wr.cell? ⟨(a.add (k * 11)).block, (a.add (k * 11)).off + 10, none⟩ = some (.slice o2 t.y.l.length k2) := by
  obtain ⟨a, cs, rfl, ha, _, h1, h2⟩ := S.out k t ht
  obtain ⟨o0, k0, o1, k1, o2, k2, rfl, _⟩ := h1.look
  exact ⟨a, o0, k0, o1, k1, o2, k2, rfl, ha, Lib.hid ((h1.below hB).more hB.size), (h2.below ha hB).n11⟩
theorem ru_at {w wr : World} {l : List Ru} {o : Option Addr} {k : Nat} {t : Ru} (S : Hid (SlIn w w.heap.size 4 (RuC w w.heap.size) l o)) (hB : Below w.heap.size w wr) (ht : l[k]? = some t) :
    ∃ a o0 k0 o1 k1, o = some a ∧ a.block < w.heap.size ∧ Hid (RuC wr wr.heap.size t [.string t.head.rel, .slice o0 t.head.l.length k0, .slice o1 t.body.length k1, .int .i64 t.line]) ∧
      wr.cell? (a.add (k * 4)) = some (.string t.head.rel) ∧ wr.cell? ⟨(a.add (k * 4)).block, (a.add (k * 4)).off + 1, none⟩ = some (.slice o0 t.head.l.length k0) ∧ wr.cell? ⟨(a.add (k * 4)).block, (a.add (k * 4)).off + 2, none⟩ = some (.slice o1 t.body.length k1) ∧ wr.cell? ⟨(a.add (k * 4)).block, (a.add (k * 4)).off + 3, none⟩ = some (.int .i64 t.line) := by
  obtain ⟨a, cs, rfl, ha, _, h1, h2⟩ := S.out k t ht
  obtain ⟨o0, k0, o1, k1, rfl, _⟩ := h1.look
  exact ⟨a, o0, k0, o1, k1, rfl, ha, Lib.hid ((h1.below hB).more hB.size), (h2.below ha hB).four⟩
theorem de_at {w wr : World} {l : List De} {o : Option Addr} {k : Nat} {t : De} (S : Hid (SlIn w w.heap.size 6 (DeC w w.heap.size) l o)) (hB : Below w.heap.size w wr) (ht : l[k]? = some t) :
    ∃ a o0 k0 o1 k1, o = some a ∧ a.block < w.heap.size ∧ Hid (DeC wr wr.heap.size t [.string t.rel, .slice o0 t.names.length k0, .slice o1 t.types.length k1, .bool t.inn, .bool t.out, .int .i64 t.line]) ∧
      wr.cell? (a.add (k * 6)) = some (.string t.rel) ∧ wr.cell? ⟨(a.add (k * 6)).block, (a.add (k * 6)).off + 1, none⟩ = some (.slice o0 t.names.length k0) ∧ wr.cell? ⟨(a.add (k * 6)).block, (a.add (k * 6)).off + 2, none⟩ = some (.slice o1 t.types.length k1) ∧ wr.cell? ⟨(a.add (k * 6)).block, (a.add (k * 6)).off + 3, none⟩ = some (.bool t.inn) ∧ wr.cell? ⟨(a.add (k * 6)).block, (a.add (k * 6)).off + 4, none⟩ = some (.bool t.out) ∧ wr.cell? ⟨(a.add (k * 6)).block, (a.add (k * 6)).off + 5, none⟩ = some (.int .i64 t.line) := by
  obtain ⟨a, cs, rfl, ha, _, h1, h2⟩ := S.out k t ht
  obtain ⟨o0, k0, o1, k1, rfl, _⟩ := h1.look
  exact ⟨a, o0, k0, o1, k1, rfl, ha, Lib.hid ((h1.below hB).more hB.size), (h2.below ha hB).n6⟩
theorem held44 {W w1 : World} (b : Below W.heap.size W.drew w1) {x0 x1 i0 i1 : Nat} {p q : Addr} {v0 v1 v2 v3 v4 v5 v6 v7 v8 v9 : Value} (hx0 : x0 < W.heap.size) (hx1 : x1 < W.heap.size) (hp : p.block < W.heap.size) (hq : q.block < W.heap.size)
    (h : W.cell? ⟨x0, i0, none⟩ = some v0 ∧ W.cell? ⟨x1, i1, none⟩ = some v1 ∧ W.cell? p = some v2 ∧ W.cell? ⟨p.block, p.off + 1, none⟩ = some v3 ∧ W.cell? ⟨p.block, p.off + 2, none⟩ = some v4 ∧ W.cell? ⟨p.block, p.off + 3, none⟩ = some v5 ∧ W.cell? q = some v6 ∧ W.cell? ⟨q.block, q.off + 1, none⟩ = some v7 ∧ W.cell? ⟨q.block, q.off + 2, none⟩ = some v8 ∧ W.cell? ⟨q.block, q.off + 3, none⟩ = some v9) :
    w1.cell? ⟨x0, i0, none⟩ = some v0 ∧ w1.cell? ⟨x1, i1, none⟩ = some v1 ∧ w1.cell? p = some v2 ∧ w1.cell? ⟨p.block, p.off + 1, none⟩ = some v3 ∧ w1.cell? ⟨p.block, p.off + 2, none⟩ = some v4 ∧ w1.cell? ⟨p.block, p.off + 3, none⟩ = some v5 ∧ w1.cell? q = some v6 ∧ w1.cell? ⟨q.block, q.off + 1, none⟩ = some v7 ∧ w1.cell? ⟨q.block, q.off + 2, none⟩ = some v8 ∧ w1.cell? ⟨q.block, q.off + 3, none⟩ = some v9 := by
  obtain ⟨h0, h1, h2, h3, h4, h5, h6, h7, h8, h9⟩ := h
  exact ⟨(b.cell (p := ⟨x0, i0, none⟩) hx0).trans h0, (b.cell (p := ⟨x1, i1, none⟩) hx1).trans h1, (b.cell hp).trans h2, (b.cell (p := ⟨p.block, p.off + 1, none⟩) hp).trans h3, (b.cell (p := ⟨p.block, p.off + 2, none⟩) hp).trans h4, (b.cell (p := ⟨p.block, p.off + 3, none⟩) hp).trans h5, (b.cell hq).trans h6, (b.cell (p := ⟨q.block, q.off + 1, none⟩) hq).trans h7, (b.cell (p := ⟨q.block, q.off + 2, none⟩) hq).trans h8, (b.cell (p := ⟨q.block, q.off + 3, none⟩) hq).trans h9⟩
theorem held11 {W w1 : World} (b : Below W.heap.size W.drew w1) {x0 x1 i0 i1 : Nat} {p q : Addr} {v0 v1 v2 v3 v4 v5 v6 v7 v8 v9 v10 v11 v12 v13 v14 v15 v16 v17 v18 v19 v20 v21 v22 v23 : Value} (hx0 : x0 < W.heap.size) (hx1 : x1 < W.heap.size) (hp : p.block < W.heap.size) (hq : q.block < W.heap.size)
    (h : W.cell? ⟨x0, i0, none⟩ = some v0 ∧ W.cell? ⟨x1, i1, none⟩ = some v1 ∧ W.cell? p = some v2 ∧ W.cell? ⟨p.block, p.off + 1, none⟩ = some v3 ∧ W.cell? ⟨p.block, p.off + 2, none⟩ = some v4 ∧ W.cell? ⟨p.block, p.off + 3, none⟩ = some v5 ∧ W.cell? ⟨p.block, p.off + 4, none⟩ = some v6 ∧ W.cell? ⟨p.block, p.off + 5, none⟩ = some v7 ∧ W.cell? ⟨p.block, p.off + 6, none⟩ = some v8 ∧ W.cell? ⟨p.block, p.off + 7, none⟩ = some v9 ∧ W.cell? ⟨p.block, p.off + 8, none⟩ = some v10 ∧ W.cell? ⟨p.block, p.off + 9, none⟩ = some v11 ∧ W.cell? ⟨p.block, p.off + 10, none⟩ = some v12 ∧ W.cell? q = some v13 ∧ W.cell? ⟨q.block, q.off + 1, none⟩ = some v14 ∧ W.cell? ⟨q.block, q.off + 2, none⟩ = some v15 ∧ W.cell? ⟨q.block, q.off + 3, none⟩ = some v16 ∧ W.cell? ⟨q.block, q.off + 4, none⟩ = some v17 ∧ W.cell? ⟨q.block, q.off + 5, none⟩ = some v18 ∧ W.cell? ⟨q.block, q.off + 6, none⟩ = some v19 ∧ W.cell? ⟨q.block, q.off + 7, none⟩ = some v20 ∧ W.cell? ⟨q.block, q.off + 8, none⟩ = some v21 ∧ W.cell? ⟨q.block, q.off + 9, none⟩ = some v22 ∧ W.cell? ⟨q.block, q.off + 10, none⟩ = some v23) :
    w1.cell? ⟨x0, i0, none⟩ = some v0 ∧ w1.cell? ⟨x1, i1, none⟩ = some v1 ∧ w1.cell? p = some v2 ∧ w1.cell? ⟨p.block, p.off + 1, none⟩ = some v3 ∧ w1.cell? ⟨p.block, p.off + 2, none⟩ = some v4 ∧ w1.cell? ⟨p.block, p.off + 3, none⟩ = some v5 ∧ w1.cell? ⟨p.block, p.off + 4, none⟩ = some v6 ∧ w1.cell? ⟨p.block, p.off + 5, none⟩ = some v7 ∧ w1.cell? ⟨p.block, p.off + 6, none⟩ = some v8 ∧ w1.cell? ⟨p.block, p.off + 7, none⟩ = some v9 ∧ w1.cell? ⟨p.block, p.off + 8, none⟩ = some v10 ∧ w1.cell? ⟨p.block, p.off + 9, none⟩ = some v11 ∧ w1.cell? ⟨p.block, p.off + 10, none⟩ = some v12 ∧ w1.cell? q = some v13 ∧ w1.cell? ⟨q.block, q.off + 1, none⟩ = some v14 ∧ w1.cell? ⟨q.block, q.off + 2, none⟩ = some v15 ∧ w1.cell? ⟨q.block, q.off + 3, none⟩ = some v16 ∧ w1.cell? ⟨q.block, q.off + 4, none⟩ = some v17 ∧ w1.cell? ⟨q.block, q.off + 5, none⟩ = some v18 ∧ w1.cell? ⟨q.block, q.off + 6, none⟩ = some v19 ∧ w1.cell? ⟨q.block, q.off + 7, none⟩ = some v20 ∧ w1.cell? ⟨q.block, q.off + 8, none⟩ = some v21 ∧ w1.cell? ⟨q.block, q.off + 9, none⟩ = some v22 ∧ w1.cell? ⟨q.block, q.off + 10, none⟩ = some v23 := by
  obtain ⟨h0, h1, h2, h3, h4, h5, h6, h7, h8, h9, h10, h11, h12, h13, h14, h15, h16, h17, h18, h19, h20, h21, h22, h23⟩ := h
  exact ⟨(b.cell (p := ⟨x0, i0, none⟩) hx0).trans h0, (b.cell (p := ⟨x1, i1, none⟩) hx1).trans h1, (b.cell hp).trans h2, (b.cell (p := ⟨p.block, p.off + 1, none⟩) hp).trans h3, (b.cell (p := ⟨p.block, p.off + 2, none⟩) hp).trans h4, (b.cell (p := ⟨p.block, p.off + 3, none⟩) hp).trans h5, (b.cell (p := ⟨p.block, p.off + 4, none⟩) hp).trans h6, (b.cell (p := ⟨p.block, p.off + 5, none⟩) hp).trans h7, (b.cell (p := ⟨p.block, p.off + 6, none⟩) hp).trans h8, (b.cell (p := ⟨p.block, p.off + 7, none⟩) hp).trans h9, (b.cell (p := ⟨p.block, p.off + 8, none⟩) hp).trans h10, (b.cell (p := ⟨p.block, p.off + 9, none⟩) hp).trans h11, (b.cell (p := ⟨p.block, p.off + 10, none⟩) hp).trans h12, (b.cell hq).trans h13, (b.cell (p := ⟨q.block, q.off + 1, none⟩) hq).trans h14, (b.cell (p := ⟨q.block, q.off + 2, none⟩) hq).trans h15, (b.cell (p := ⟨q.block, q.off + 3, none⟩) hq).trans h16, (b.cell (p := ⟨q.block, q.off + 4, none⟩) hq).trans h17, (b.cell (p := ⟨q.block, q.off + 5, none⟩) hq).trans h18, (b.cell (p := ⟨q.block, q.off + 6, none⟩) hq).trans h19, (b.cell (p := ⟨q.block, q.off + 7, none⟩) hq).trans h20, (b.cell (p := ⟨q.block, q.off + 8, none⟩) hq).trans h21, (b.cell (p := ⟨q.block, q.off + 9, none⟩) hq).trans h22, (b.cell (p := ⟨q.block, q.off + 10, none⟩) hq).trans h23⟩
theorem held66 {W w1 : World} (b : Below W.heap.size W.drew w1) {x0 x1 i0 i1 : Nat} {p q : Addr} {v0 v1 v2 v3 v4 v5 v6 v7 v8 v9 v10 v11 v12 v13 : Value} (hx0 : x0 < W.heap.size) (hx1 : x1 < W.heap.size) (hp : p.block < W.heap.size) (hq : q.block < W.heap.size)
    (h : W.cell? ⟨x0, i0, none⟩ = some v0 ∧ W.cell? ⟨x1, i1, none⟩ = some v1 ∧ W.cell? p = some v2 ∧ W.cell? ⟨p.block, p.off + 1, none⟩ = some v3 ∧ W.cell? ⟨p.block, p.off + 2, none⟩ = some v4 ∧ W.cell? ⟨p.block, p.off + 3, none⟩ = some v5 ∧ W.cell? ⟨p.block, p.off + 4, none⟩ = some v6 ∧ W.cell? ⟨p.block, p.off + 5, none⟩ = some v7 ∧ W.cell? q = some v8 ∧ W.cell? ⟨q.block, q.off + 1, none⟩ = some v9 ∧ W.cell? ⟨q.block, q.off + 2, none⟩ = some v10 ∧ W.cell? ⟨q.block, q.off + 3, none⟩ = some v11 ∧ W.cell? ⟨q.block, q.off + 4, none⟩ = some v12 ∧ W.cell? ⟨q.block, q.off + 5, none⟩ = some v13) :
    w1.cell? ⟨x0, i0, none⟩ = some v0 ∧ w1.cell? ⟨x1, i1, none⟩ = some v1 ∧ w1.cell? p = some v2 ∧ w1.cell? ⟨p.block, p.off + 1, none⟩ = some v3 ∧ w1.cell? ⟨p.block, p.off + 2, none⟩ = some v4 ∧ w1.cell? ⟨p.block, p.off + 3, none⟩ = some v5 ∧ w1.cell? ⟨p.block, p.off + 4, none⟩ = some v6 ∧ w1.cell? ⟨p.block, p.off + 5, none⟩ = some v7 ∧ w1.cell? q = some v8 ∧ w1.cell? ⟨q.block, q.off + 1, none⟩ = some v9 ∧ w1.cell? ⟨q.block, q.off + 2, none⟩ = some v10 ∧ w1.cell? ⟨q.block, q.off + 3, none⟩ = some v11 ∧ w1.cell? ⟨q.block, q.off + 4, none⟩ = some v12 ∧ w1.cell? ⟨q.block, q.off + 5, none⟩ = some v13 := by
  obtain ⟨h0, h1, h2, h3, h4, h5, h6, h7, h8, h9, h10, h11, h12, h13⟩ := h
  exact ⟨(b.cell (p := ⟨x0, i0, none⟩) hx0).trans h0, (b.cell (p := ⟨x1, i1, none⟩) hx1).trans h1, (b.cell hp).trans h2, (b.cell (p := ⟨p.block, p.off + 1, none⟩) hp).trans h3, (b.cell (p := ⟨p.block, p.off + 2, none⟩) hp).trans h4, (b.cell (p := ⟨p.block, p.off + 3, none⟩) hp).trans h5, (b.cell (p := ⟨p.block, p.off + 4, none⟩) hp).trans h6, (b.cell (p := ⟨p.block, p.off + 5, none⟩) hp).trans h7, (b.cell hq).trans h8, (b.cell (p := ⟨q.block, q.off + 1, none⟩) hq).trans h9, (b.cell (p := ⟨q.block, q.off + 2, none⟩) hq).trans h10, (b.cell (p := ⟨q.block, q.off + 3, none⟩) hq).trans h11, (b.cell (p := ⟨q.block, q.off + 4, none⟩) hq).trans h12, (b.cell (p := ⟨q.block, q.off + 5, none⟩) hq).trans h13⟩
theorem held4 {W w1 : World} (b : Below W.heap.size W.drew w1) {x0 i0 : Nat} {p : Addr} {v0 v1 v2 v3 v4 : Value} (hx0 : x0 < W.heap.size) (hp : p.block < W.heap.size)
    (h : W.cell? ⟨x0, i0, none⟩ = some v0 ∧ W.cell? p = some v1 ∧ W.cell? ⟨p.block, p.off + 1, none⟩ = some v2 ∧ W.cell? ⟨p.block, p.off + 2, none⟩ = some v3 ∧ W.cell? ⟨p.block, p.off + 3, none⟩ = some v4) :
    w1.cell? ⟨x0, i0, none⟩ = some v0 ∧ w1.cell? p = some v1 ∧ w1.cell? ⟨p.block, p.off + 1, none⟩ = some v2 ∧ w1.cell? ⟨p.block, p.off + 2, none⟩ = some v3 ∧ w1.cell? ⟨p.block, p.off + 3, none⟩ = some v4 := by
  obtain ⟨h0, h1, h2, h3, h4⟩ := h
  exact ⟨(b.cell (p := ⟨x0, i0, none⟩) hx0).trans h0, (b.cell hp).trans h1, (b.cell (p := ⟨p.block, p.off + 1, none⟩) hp).trans h2, (b.cell (p := ⟨p.block, p.off + 2, none⟩) hp).trans h3, (b.cell (p := ⟨p.block, p.off + 3, none⟩) hp).trans h4⟩
end Go.Proofs.YtfcfehflocglpabGreatDoor
namespace Go.Proofs.YtfcfehflocglpabGreatDoor
open Go.RowKit

theorem heap_lt {w : World} {i : Nat} {o : Obj} (h : w.heap[i]? = some o) : i < w.heap.size := (Array.getElem?_eq_some_iff.1 h).1
theorem row_cells {w : World} {b : Nat} {cs : Array Value} {T : TypeId} (h : w.heap[b]? = some (.cells cs T (0, 0))) (i : Nat) : w.cell? ⟨b, i, none⟩ = cs[i]? := by unfold World.cell?; rw [h]; rfl
theorem frz_row {w : World} {b : Nat} {cs : Array Value} {T : TypeId} (h : w.heap[b]? = some (.cells cs T (0, 0))) (i : Nat) : w.frozen? ⟨b, i, none⟩ = false := by unfold World.frozen?; rw [h]; simp
theorem drewB {n : Nat} {w w' : World} (h : Below n w.drew w') : Below n w w' := ⟨h.os, h.tape, h.output, h.size, h.block⟩
theorem rowNew (w : World) (T : TypeId) (cs : List Value) : (w.alloc (.cells cs.toArray T)).heap[w.heap.size]? = some (.cells cs.toArray T (0, 0)) := World.alloc_heap_new w _
theorem alB (w : World) (C : Obj) : Below w.heap.size w (w.alloc C) := (Below.refl _ _).alloc (Nat.le_refl _) _
theorem rowSet {w : World} {b : Nat} {cs : Array Value} {T : TypeId} {fz : Nat × Nat} (h : w.heap[b]? = some (.cells cs T fz)) (k : Nat) (u : Value) : (w.setCell ⟨b, k, none⟩ u).heap[b]? = some (.cells (cs.setIfInBounds k u) T fz) := by
  have hlt := (Array.getElem?_eq_some_iff.1 h).1
  have h' : w.heap[b] = .cells cs T fz := by simpa [Array.getElem?_eq_getElem hlt] using h
  show (w.heap.modify b _)[b]? = _
  rw [Array.getElem?_eq_getElem (by simpa using hlt), Array.getElem_modify_self, h']
  rfl
theorem set3 {w : World} {q : Nat} {T : TypeId} {c0 c1 c2 : Value} (h : w.heap[q]? = some (.cells #[c0, c1, c2] T (0, 0))) (v0 v1 v2 : Value) : (((w.setCell ⟨q, 0, none⟩ v0).setCell ⟨q, 1, none⟩ v1).setCell ⟨q, 2, none⟩ v2).heap[q]? = some (.cells #[v0, v1, v2] T (0, 0)) := by
  have h1 := rowSet h 0 v0
  have h2 := rowSet h1 1 v1
  have h3 := rowSet h2 2 v2
  simpa using h3
theorem set3B {n : Nat} {w0 w : World} {q : Nat} (h : Below n w0 w) (hq : n ≤ q) (v0 v1 v2 : Value) : Below n w0 (((w.setCell ⟨q, 0, none⟩ v0).setCell ⟨q, 1, none⟩ v1).setCell ⟨q, 2, none⟩ v2) :=
  ((h.setCell (p := ⟨q, 0, none⟩) hq v0).setCell (p := ⟨q, 1, none⟩) hq v1).setCell (p := ⟨q, 2, none⟩) hq v2
end Go.Proofs.YtfcfehflocglpabGreatDoor
namespace Go.Proofs.YtfcfehflocglpabGreatDoor
open Go.RowKit

theorem val_fields : (Tryz.prog.fieldsOf 51).toList.map (fun f => (f.name, f.type, f.offset)) = [("Sym", 4, 0), ("N", 2, 1), ("S", 9, 2)] := by kernel_rfl
theorem val_struct : Tryz.prog.underlying 51 = some (.struct (Tryz.prog.fieldsOf 51)) := by kernel_rfl
theorem val_held : Tryz.prog.stoodInHeld 51 = false := by kernel_rfl
theorem eqVal (a b : Bool) (n m : Int) (s t : ByteArray) (w : World) : (binOp .eql 51 (.agg #[.bool a, .int .i64 n, .string s]) (.agg #[.bool b, .int .i64 m, .string t])).run Tryz.prog w = .ok (.bool ((a == b) && (n == m) && (s.toList == t.toList))) w := by
  rw [run_eql_struct, run_equalIn_struct w 9999 _ _ _ val_struct val_held]
  have hf := val_fields
  generalize (Tryz.prog.fieldsOf 51).toList = fs at hf ⊢
  obtain ⟨f0, f1, f2, rfl⟩ : ∃ f0 f1 f2, fs = [f0, f1, f2] := by
    have hl : fs.length = 3 := by have := congrArg List.length hf; rwa [List.length_map] at this
    match fs, hl with
    | [x, y, z], _ => exact ⟨x, y, z, rfl⟩
  simp only [List.map_cons, List.map_nil, List.cons.injEq, Prod.mk.injEq, and_true] at hf
  obtain ⟨⟨e1, e2, e3⟩, ⟨e4, e5, e6⟩, e7, e8, e9⟩ := hf
  have ub := Tryz.underlying4
  have ui := Tryz.underlying2
  have us := Tryz.underlying9
  have zb := Tryz.sizeOf4
  have zi := Tryz.sizeOf2
  have zs := Tryz.sizeOf9
  have ab := Tryz.isAgg4
  have ai := Tryz.isAgg2
  have as' := Tryz.isAgg9
  cases h1 : (a == b) <;> cases h2 : (n == m) <;> cases h3 : (s.toList == t.toList) <;> simp [Op.eqFields, go_sem, e1, e2, e3, e4, e5, e6, e7, e8, e9, h1, h2, h3, ub, ui, us, zb, zi, zs, ab, ai, as', Result.andThen]
end Go.Proofs.YtfcfehflocglpabGreatDoor
namespace Go.Proofs.YtfcfehflocglpabGreatDoor
open Go.RowKit

def relY (s : ByteArray) (d : De) : Bool := d.rel.toList == s.toList
def ixY (s : ByteArray) : Nat → List De → Int
  | _, [] => -1
  | k, d :: l => if relY s d then k else ixY s (k + 1) l
theorem ixY_drop {s : ByteArray} {l : List De} {k : Nat} {d : De} (h : l[k]? = some d) : ixY s k (l.drop k) = if relY s d then (k : Int) else ixY s (k + 1) (l.drop (k + 1)) := by
  have h1 : l.drop k = d :: l.drop (k + 1) := by rw [List.drop_eq_getElem_cons (List.getElem?_eq_some_iff.1 h).1, (List.getElem?_eq_some_iff.1 h).2]
  rw [h1]; rfl
/-- A list's first relation of a name, and where it stands. -/
theorem ixY_cases (s : ByteArray) : ∀ (l : List De) (k : Nat), (ixY s k l = -1 ∧ ∀ d ∈ l, relY s d = false) ∨ ∃ (i : Nat) (d : De), ixY s k l = ((k + i : Nat) : Int) ∧ l[i]? = some d ∧ relY s d = true
  | [], _ => .inl ⟨rfl, fun _ h => by cases h⟩
  | d :: l, k => by
    unfold ixY
    cases h : relY s d with
    | true => exact .inr ⟨0, d, by simp, rfl, h⟩
    | false =>
      rcases ixY_cases s l (k + 1) with ⟨h1, h2⟩ | ⟨i, e, h1, h2, h3⟩
      · refine .inl ⟨by simpa using h1, fun x hx => ?_⟩
        rcases List.mem_cons.1 hx with rfl | hx
        · exact h
        · exact h2 x hx
      · exact .inr ⟨i + 1, e, by simp only [Bool.false_eq_true, if_false]; rw [h1]; congr 1; omega, h2, h3⟩
/-- The place and whether there is one. -/
def findY (s : ByteArray) (l : List De) : Option Nat := if ixY s 0 l < 0 then none else some (ixY s 0 l).toNat

def findV : Option Nat → Value
  | none => .tuple #[.int .i64 0, .bool false]
  | some i => .tuple #[.int .i64 i, .bool true]
set_option maxRecDepth 100000 in
set_option maxHeartbeats 4000000 in
theorem relIs_c (d : De) (s : ByteArray) (nb : Nat) (o0 o1 : Option Addr) (k0 k1 : Nat) (w : World) (c0 : w.cell? ⟨nb, 0, none⟩ = some (.string s)) :
    Calls Tryz.prog 114 #[.agg #[.string d.rel, .slice o0 d.names.length k0, .slice o1 d.types.length k1, .bool d.inn, .bool d.out, .int .i64 d.line], .pointer (some ⟨nb, 0, none⟩)] w fun e w' => e = .returned (.bool (relY s d)) ∧ Below w.heap.size w w' := by
  have HB0 : Hid (∀ (x : Obj), Below w.heap.size w (w.alloc x)) := Lib.hid fun x => (Below.refl _ _).alloc (Nat.le_refl _) _
  have hlt : nb < w.heap.size := World.block_lt_of_cell? _ _ c0
  go_enter Tryz.func114, Tryz.ntmps114
  go_wp2
  go_ret
  exact ⟨rfl, HB0.out _⟩
theorem de_in {n₀ : Nat} {w wr : World} {l : List De} {o : Option Addr} {k : Nat} {t : De} (S : Hid (SlIn w n₀ 6 (DeC w n₀) l o)) (hB : Below n₀ w wr) (ht : l[k]? = some t) :
    ∃ a o0 k0 o1 k1, o = some a ∧ a.block < n₀ ∧ Hid (DeC wr n₀ t [.string t.rel, .slice o0 t.names.length k0, .slice o1 t.types.length k1, .bool t.inn, .bool t.out, .int .i64 t.line]) ∧
      CellsAt wr a (k * 6) [.string t.rel, .slice o0 t.names.length k0, .slice o1 t.types.length k1, .bool t.inn, .bool t.out, .int .i64 t.line] := by
  obtain ⟨a, cs, rfl, ha, _, h1, h2⟩ := S.out k t ht
  obtain ⟨o0, k0, o1, k1, rfl, _⟩ := h1.look
  exact ⟨a, o0, k0, o1, k1, rfl, ha, Lib.hid (h1.below hB), h2.below ha hB⟩

set_option maxRecDepth 100000 in
set_option maxHeartbeats 4000000 in
theorem indexD_c (s : ByteArray) (nb n₀ : Nat) (l : List De) (v : Value) (w : World) (hl : SlOf w n₀ 6 (DeC w n₀) l v) (hn : n₀ ≤ w.heap.size) (hb : w.cell? ⟨nb, 0, none⟩ = some (.string s)) :
    Calls Tryz.prog 113 #[v, .func (.func 114) #[] #[.pointer (some ⟨nb, 0, none⟩)]] w fun e w' => e = .returned (.int .i64 (ixY s 0 l)) ∧ Below w.heap.size w w' := by
  obtain ⟨o, cap, rfl, hcap, hcm, S⟩ := SlOf.open hl
  have HB0 : Hid (Below w.heap.size w w) := Lib.hid (Below.refl _ _)
  have hnb : nb < w.heap.size := World.block_lt_of_cell? _ _ hb
  have Hb := Lib.hid hb
  clear hl hb
  go_enter Tryz.func113, Tryz.ntmps113
  go_wp2
  go_loopw [8] (fun i wr => ∃ k : Nat, k ≤ l.length ∧ i = .int .i64 (k : Int) ∧ ixY s 0 l = ixY s k (l.drop k) ∧ Below w.heap.size w wr) (fun i _ => l.length - (intOf i).toNat)
  case atStart => exact ⟨0, Nat.zero_le _, rfl, rfl, HB0.out⟩
  case round =>
    obtain ⟨k, hk, rfl, hix, hB⟩ := hrel
    have hBs := hB.size
    by_cases hlt : k < l.length
    · have hlt' : (k : Int) < (l.length : Int) := by omega
      obtain ⟨u, hu⟩ : ∃ u, l[k]? = some u := ⟨l[k], List.getElem?_eq_getElem hlt⟩
      obtain ⟨b, p1, q1, p2, q2, rfl, hbb, Hc, hca⟩ := de_in S (hB.mono hn) hu
      obtain ⟨c0, c1, c2, c3, c4, c5⟩ := hca.n6
      have hbl : (b.add (k * 6)).block < wr.heap.size := by rw [addBlock]; omega
      have Hix := Lib.hid (hix.trans (ixY_drop hu))
      have HF := Lib.hid (relIs_c u s nb p1 p2 q1 q2 wr ((hB.cell (p := ⟨nb, 0, none⟩) hnb).trans Hb.out))
      clear hu hix Hc hca
      go_wp2_with fail
      refine HF.out.mono ?_
      rintro e w2 ⟨rfl, b2⟩
      have HB2 := Lib.hid (hB.trans (b2.mono hBs))
      clear b2
      cases hp : relY s u with
      | true =>
        have Hr : Hid (ixY s 0 l = (k : Int)) := Lib.hid (by rw [Hix.out, if_pos hp])
        clear hp
        go_wp2
        go_ret
        exact ⟨by rw [Hr.out]; rfl, HB2.out⟩
      | false =>
        have Hr : Hid (ixY s 0 l = ixY s (k + 1) (l.drop (k + 1))) := Lib.hid (by rw [Hix.out, if_neg (by rw [hp]; decide)])
        clear hp
        go_wp2
        go_roundw
        case rel => exact ⟨k + 1, by omega, by go_num, Hr.out, HB2.out⟩
        case measure => simp [intOf]; omega
    · have hlt' : ¬ (k : Int) < (l.length : Int) := by omega
      have Hr : Hid (ixY s 0 l = -1) := Lib.hid (by rw [hix, List.drop_of_length_le (by omega)]; rfl)
      clear hix
      go_wp2
      go_ret
      exact ⟨by rw [Hr.out]; rfl, hB⟩

set_option maxRecDepth 100000 in
set_option maxHeartbeats 4000000 in
theorem find_c (s : ByteArray) (n₀ : Nat) (l : List De) (v : Value) (w : World) (hl : SlOf w n₀ 6 (DeC w n₀) l v) (hn : n₀ ≤ w.heap.size) :
    Calls Tryz.prog 82 #[v, .string s] w fun e w' => e = .returned (findV (findY s l)) ∧ Below w.heap.size w w' := by
  have hb1 : Below w.heap.size w (w.alloc (.cells #[.string s] 9)) := (Below.refl _ _).alloc (Nat.le_refl _) _
  have hr : (w.alloc (.cells #[.string s] 9)).cell? ⟨w.heap.size, 0, none⟩ = some (.string s) := by
    unfold World.cell?
    simp only []
    rw [World.alloc_heap_new]
    rfl
  have HH := Lib.hid (indexD_c s w.heap.size n₀ l v (w.alloc (.cells #[.string s] 9)) (SlOf.decl hl (hb1.mono hn) (Nat.le_refl _)) (by simp; omega) hr)
  have Hb1 := Lib.hid hb1
  have hcs := ixY_cases s l 0
  clear hl hb1 hr
  go_enter Tryz.func82, Tryz.ntmps82
  go_wp2_with fail
  refine HH.out.mono ?_
  rintro e w2 ⟨rfl, b2⟩
  have HB2 := Lib.hid (Hb1.out.trans (b2.mono Hb1.out.size))
  clear b2
  rcases hcs with ⟨h1, _⟩ | ⟨i, d, h1, h2, _⟩
  · have Hq : Hid (findY s l = none) := Lib.hid (by unfold findY; rw [h1]; rfl)
    rw [h1]
    go_wp2
    go_ret2
    exact ⟨by rw [Hq.out]; rfl, HB2.out⟩
  · have Hq : Hid (findY s l = some i) := Lib.hid (by
      unfold findY
      rw [h1, Nat.zero_add, if_neg (by omega)]
      simp)
    rw [h1, Nat.zero_add]
    have hi : ¬ ((i : Nat) : Int) < 0 := by omega
    clear h1
    go_wp2
    go_ret2
    exact ⟨by rw [Hq.out]; rfl, HB2.out⟩
end Go.Proofs.YtfcfehflocglpabGreatDoor
namespace Go.Proofs.YtfcfehflocglpabGreatDoor
open Go.RowKit

def SameTermAt (t : Tm) : Prop := ∀ (u : Tm) (w : World) (cs ds : List Value), TmC w w.heap.size t cs → TmC w w.heap.size u ds →
    Calls Tryz.prog 145 #[.agg cs.toArray, .agg ds.toArray] w fun e w' => e = .returned (.bool (sameT t u)) ∧ Below w.heap.size w w'

set_option maxRecDepth 100000 in
set_option maxHeartbeats 4000000 in
theorem equalTerms_c (l m : List Tm) (ih : ∀ t ∈ l, SameTermAt t) (v1 v2 : Value) (w : World) (h1 : TmS w w.heap.size l v1) (h2 : TmS w w.heap.size m v2) :
    Calls Tryz.prog 167 #[v1, v2, .func (.func 145) #[] #[]] w fun e w' => e = .returned (.bool (allS sameT l m)) ∧ Below w.heap.size w w' := by
  obtain ⟨o1, cap1, rfl, hc1, hm1, S1⟩ := SlOf.open h1
  obtain ⟨o2, cap2, rfl, hc2, hm2, S2⟩ := SlOf.open h2
  have IH := Lib.hid ih
  clear h1 h2 ih
  by_cases hlen : l.length = m.length
  · have q : ((l.length : Int) != (m.length : Int)) = false := by rw [hlen]; simp
    have Hlen := Lib.hid hlen
    clear hlen
    go_enter Tryz.func167, Tryz.ntmps167
    go_wp2
    go_loopw [17] (fun i wr => ∃ k : Nat, k ≤ l.length ∧ i = .int .i64 k ∧ allS sameT l m = allS sameT (l.drop k) (m.drop k) ∧ Below w.heap.size w wr) (fun i _ => l.length - (intOf i).toNat)
    case atStart => exact ⟨0, Nat.zero_le _, rfl, rfl, Below.refl _ _⟩
    case round =>
      obtain ⟨k, hk, rfl, hr, hB⟩ := hrel
      have Hr := Lib.hid hr
      clear hr
      have hBs := hB.size
      by_cases hlt : k < l.length
      · have hlt' : (k : Int) < (l.length : Int) := by omega
        have hlt2 : k < m.length := by have := Hlen.out; omega
        obtain ⟨t, ht⟩ : ∃ t, l[k]? = some t := ⟨l[k], List.getElem?_eq_getElem hlt⟩
        obtain ⟨u, hu⟩ : ∃ u, m[k]? = some u := ⟨m[k], List.getElem?_eq_getElem hlt2⟩
        obtain ⟨a, p1, q1, rfl, ha, Hc, c0, c1, c2, c3⟩ := tm_at S1 hB ht
        obtain ⟨b, p2, q2, rfl, hb, Hd, d0, d1, d2, d3⟩ := tm_at S2 hB hu
        have hal : (a.add (k * 4)).block < wr.heap.size := by rw [addBlock]; omega
        have hbl : (b.add (k * 4)).block < wr.heap.size := by rw [addBlock]; omega
        have Hs := Lib.hid (allS_drop (f := sameT) ht hu)
        have Ht := Lib.hid (List.mem_of_getElem? ht)
        clear ht hu
        have HI := Lib.hid (fun (W : World) (hb : Below wr.heap.size wr W) => IH.out t Ht.out u W _ _ ((Hc.out.under hb).more hb.size) ((Hd.out.under hb).more hb.size))
        go_wp2_with fail
        refine (HI.out _ (((Below.refl _ _).alloc (Nat.le_refl _) _).alloc (by simp) _)).mono ?_
        rintro e w1 ⟨rfl, b1⟩
        have hB1 := hB.trans ((((Below.refl _ wr).alloc (Nat.le_refl _) _).alloc (by simp) _).mono hBs |>.trans (b1.mono (by simp; omega)))
        cases hs : sameT t u
        · have Hz := Lib.hid (Hr.out.trans (Hs.out.trans (by rw [hs, Bool.false_and])))
          clear hs
          go_wp2
          go_ret
          exact ⟨by rw [Hz.out]; rfl, hB1⟩
        · have Hz := Lib.hid (Hr.out.trans (Hs.out.trans (by rw [hs, Bool.true_and])))
          clear hs
          go_wp2
          go_roundw
          case rel => exact ⟨k + 1, hlt, by go_num, Hz.out, hB1⟩
          case measure => simp [intOf]; omega
      · have hlt' : ¬ (k : Int) < (l.length : Int) := by omega
        have Hz := Lib.hid (allS_end (f := sameT) (l := l) (m := m) (k := k) (by omega) (by have := Hlen.out; omega))
        go_wp2
        go_ret
        exact ⟨by rw [Hr.out, Hz.out]; rfl, hB⟩
  · have q : ((l.length : Int) != (m.length : Int)) = true := by rw [bne_iff_ne]; omega
    have Hz := Lib.hid (allS_len (f := sameT) hlen)
    clear hlen
    go_enter Tryz.func167, Tryz.ntmps167
    go_wp2
    go_ret
    exact ⟨by rw [Hz.out]; rfl, Below.refl _ _⟩

set_option maxRecDepth 100000 in
set_option maxHeartbeats 4000000 in
theorem sameTerm_c (t : Tm) : SameTermAt t := by
  induction t using Tm.rec (motive_2 := fun l => ∀ t ∈ l, SameTermAt t) with
  | nil x hx => simp at hx
  | cons t ts ih ihs x hx =>
    rcases List.mem_cons.1 hx with rfl | hx
    · exact ih
    · exact ihs x hx
  | mk op s n l ih =>
    intro u w cs ds hc hd
    obtain ⟨p1, q1, rfl, _, _, _, t1⟩ := hc.look
    obtain ⟨p2, q2, rfl, _, _, _, t2⟩ := hd.look
    have Hs := Lib.hid (sameT_eq (.mk op s n l) u)
    have H := Lib.hid (fun (W : World) (hb : Below w.heap.size w W) => equalTerms_c l u.l ih _ _ W ((TmS.below t1 hb).more hb.size) ((TmS.below t2 hb).more hb.size))
    simp only [Tm.op_mk, Tm.s_mk, Tm.n_mk, Tm.l_mk] at Hs H ⊢
    clear hc hd t1 t2 ih
    obtain ⟨b1, hb1⟩ : ∃ b, (op == u.op) = b := ⟨_, rfl⟩
    obtain ⟨b2, hb2⟩ : ∃ b, (s.toList == u.s.toList) = b := ⟨_, rfl⟩
    obtain ⟨b3, hb3⟩ : ∃ b, (n == u.n) = b := ⟨_, rfl⟩
    have Hf : Hid ((b1 && b2 && b3) = false → sameT (.mk op s n l) u = false) := Lib.hid (by
      intro h
      rw [Hs.out, hb1, hb2, hb3, h, Bool.false_and])
    cases b1
    · have Hz := Lib.hid (Hf.out rfl)
      go_enter Tryz.func145, Tryz.ntmps145
      go_wp2
      go_ret
      exact ⟨by rw [Hz.out]; rfl, ((Below.refl _ _).alloc (Nat.le_refl _) _).alloc (by simp) _⟩
    cases b2
    · have Hz := Lib.hid (Hf.out rfl)
      go_enter Tryz.func145, Tryz.ntmps145
      go_wp2
      go_ret
      exact ⟨by rw [Hz.out]; rfl, ((Below.refl _ _).alloc (Nat.le_refl _) _).alloc (by simp) _⟩
    cases b3
    · have Hz := Lib.hid (Hf.out rfl)
      go_enter Tryz.func145, Tryz.ntmps145
      go_wp2
      go_ret
      exact ⟨by rw [Hz.out]; rfl, ((Below.refl _ _).alloc (Nat.le_refl _) _).alloc (by simp) _⟩
    have Hz : Hid (sameT (.mk op s n l) u = allS sameT l u.l) := Lib.hid (by rw [Hs.out, hb1, hb2, hb3]; rfl)
    go_enter Tryz.func145, Tryz.ntmps145
    go_wp2_with fail
    refine (H.out _ (((Below.refl _ _).alloc (Nat.le_refl _) _).alloc (by simp) _)).mono ?_
    rintro e w1 ⟨rfl, b1⟩
    go_wp2
    go_ret
    exact ⟨by rw [Hz.out]; rfl, (((Below.refl _ _).alloc (Nat.le_refl _) _).alloc (by simp) _).trans (b1.mono (by simp; omega))⟩
end Go.Proofs.YtfcfehflocglpabGreatDoor
