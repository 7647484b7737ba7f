/- A program, a rule, a number among the arguments, opened. -/
import Derived.Test.YtbpdfmpfnbdeoaaDoorTm
import Derived.Deep.Slices
import Derived.Deep.Strs
import Derived.ChangeArms
import Derived.ChangeSame
namespace Go.Proofs.YtbpdfmpfnbdeoaaDoor
open Go.RowKit Go.ChangeShapes Go.WideShapes Go.Deep

theorem parts2 {H : Type} {enc : TypeId × Value → H} {P : Program} {w : World} {base : Nat} {spare : Nat → Bool} {held : Bool} {t : TypeId} {f0 f1 : Field} {fuel : Nat} {cs : List Value} {x : DataW H × List MemPlace} (ht : P.underlying t = some (.struct #[f0, f1])) (h : DataW.trod enc P w base spare held fuel t cs = some x) :
    ∃ (y0 y1 : DataW H × List MemPlace) (n : Nat), fuel = n + 1 ∧ cs.length = P.cellsOf t ∧ DataW.trod enc P w base spare held n f0.type ((cs.drop f0.offset).take (P.cellsOf f0.type)) = some y0 ∧ DataW.trod enc P w base spare held n f1.type ((cs.drop f1.offset).take (P.cellsOf f1.type)) = some y1 := by
  obtain ⟨xs, n, hn, rfl, hl, hlen, hf⟩ := DataW.trod_struct ht h
  match xs, hlen with
  | [y0, y1], _ => exact ⟨y0, y1, n, hn, hl, by simpa using hf 0 f0 rfl, by simpa using hf 1 f1 rfl⟩

theorem parts3 {H : Type} {enc : TypeId × Value → H} {P : Program} {w : World} {base : Nat} {spare : Nat → Bool} {held : Bool} {t : TypeId} {f0 f1 f2 : Field} {fuel : Nat} {cs : List Value} {x : DataW H × List MemPlace} (ht : P.underlying t = some (.struct #[f0, f1, f2])) (h : DataW.trod enc P w base spare held fuel t cs = some x) :
    ∃ (y0 y1 y2 : DataW H × List MemPlace) (n : Nat), fuel = n + 1 ∧ cs.length = P.cellsOf t ∧ DataW.trod enc P w base spare held n f0.type ((cs.drop f0.offset).take (P.cellsOf f0.type)) = some y0 ∧ DataW.trod enc P w base spare held n f1.type ((cs.drop f1.offset).take (P.cellsOf f1.type)) = some y1 ∧ DataW.trod enc P w base spare held n f2.type ((cs.drop f2.offset).take (P.cellsOf f2.type)) = some y2 := by
  obtain ⟨xs, n, hn, rfl, hl, hlen, hf⟩ := DataW.trod_struct ht h
  match xs, hlen with
  | [y0, y1, y2], _ => exact ⟨y0, y1, y2, n, hn, hl, by simpa using hf 0 f0 rfl, by simpa using hf 1 f1 rfl, by simpa using hf 2 f2 rfl⟩

theorem parts4 {H : Type} {enc : TypeId × Value → H} {P : Program} {w : World} {base : Nat} {spare : Nat → Bool} {held : Bool} {t : TypeId} {f0 f1 f2 f3 : Field} {fuel : Nat} {cs : List Value} {x : DataW H × List MemPlace} (ht : P.underlying t = some (.struct #[f0, f1, f2, f3])) (h : DataW.trod enc P w base spare held fuel t cs = some x) :
    ∃ (y0 y1 y2 y3 : DataW H × List MemPlace) (n : Nat), fuel = n + 1 ∧ cs.length = P.cellsOf t ∧ DataW.trod enc P w base spare held n f0.type ((cs.drop f0.offset).take (P.cellsOf f0.type)) = some y0 ∧ DataW.trod enc P w base spare held n f1.type ((cs.drop f1.offset).take (P.cellsOf f1.type)) = some y1 ∧ DataW.trod enc P w base spare held n f2.type ((cs.drop f2.offset).take (P.cellsOf f2.type)) = some y2 ∧ DataW.trod enc P w base spare held n f3.type ((cs.drop f3.offset).take (P.cellsOf f3.type)) = some y3 := by
  obtain ⟨xs, n, hn, rfl, hl, hlen, hf⟩ := DataW.trod_struct ht h
  match xs, hlen with
  | [y0, y1, y2, y3], _ => exact ⟨y0, y1, y2, y3, n, hn, hl, by simpa using hf 0 f0 rfl, by simpa using hf 1 f1 rfl, by simpa using hf 2 f2 rfl, by simpa using hf 3 f3 rfl⟩

theorem parts6 {H : Type} {enc : TypeId × Value → H} {P : Program} {w : World} {base : Nat} {spare : Nat → Bool} {held : Bool} {t : TypeId} {f0 f1 f2 f3 f4 f5 : Field} {fuel : Nat} {cs : List Value} {x : DataW H × List MemPlace} (ht : P.underlying t = some (.struct #[f0, f1, f2, f3, f4, f5])) (h : DataW.trod enc P w base spare held fuel t cs = some x) :
    ∃ (y0 y1 y2 y3 y4 y5 : DataW H × List MemPlace) (n : Nat), fuel = n + 1 ∧ cs.length = P.cellsOf t ∧ DataW.trod enc P w base spare held n f0.type ((cs.drop f0.offset).take (P.cellsOf f0.type)) = some y0 ∧ DataW.trod enc P w base spare held n f1.type ((cs.drop f1.offset).take (P.cellsOf f1.type)) = some y1 ∧ DataW.trod enc P w base spare held n f2.type ((cs.drop f2.offset).take (P.cellsOf f2.type)) = some y2 ∧ DataW.trod enc P w base spare held n f3.type ((cs.drop f3.offset).take (P.cellsOf f3.type)) = some y3 ∧ DataW.trod enc P w base spare held n f4.type ((cs.drop f4.offset).take (P.cellsOf f4.type)) = some y4 ∧ DataW.trod enc P w base spare held n f5.type ((cs.drop f5.offset).take (P.cellsOf f5.type)) = some y5 := by
  obtain ⟨xs, n, hn, rfl, hl, hlen, hf⟩ := DataW.trod_struct ht h
  match xs, hlen with
  | [y0, y1, y2, y3, y4, y5], _ => exact ⟨y0, y1, y2, y3, y4, y5, n, hn, hl, by simpa using hf 0 f0 rfl, by simpa using hf 1 f1 rfl, by simpa using hf 2 f2 rfl, by simpa using hf 3 f3 rfl, by simpa using hf 4 f4 rfl, by simpa using hf 5 f5 rfl⟩

section
variable {H : Type} {enc : TypeId × Value → H} {w : World}

theorem cell_block {a : Addr} {v : Value} (h : w.cell? a = some v) : a.block < w.heap.size := by
  unfold World.cell? at h
  rcases Nat.lt_or_ge a.block w.heap.size with h' | h'
  · exact h'
  · simp [Array.getElem?_eq_none h'] at h

theorem open_sl {α : Type} {R : α → List Value → Prop} {z fuel : Nat} {t e : TypeId} {v : Value} {x : DataW H × List MemPlace} (ht : Tryd.prog.underlying t = some (.slice e)) (hz : Tryd.prog.cellsOf e = z) (hp : 0 < z)
    (hE : ∀ n cs y, n < fuel → DataW.trod enc Tryd.prog w 0 (fun _ => true) true n e cs = some y → ∃ b, R b cs)
    (h : DataW.trod enc Tryd.prog w 0 (fun _ => true) true fuel t [v] = some x) : ∃ l : List α, SlOf w w.heap.size z R l v := by
  rcases DataW.trod_slice ht h with ⟨hcs, _⟩ | ⟨a, len, cap, elems, rest, n, rfl, hcs, _, _, hl, hm, hlen, hel, _, _⟩
  · exact ⟨[], .inl ⟨(List.cons.inj hcs).1, rfl⟩⟩
  · rw [hz] at hel
    have each : ∀ i, i < len → ∃ b cs, cs.length = z ∧ R b cs ∧ CellsAt w a (i * z) cs := by
      intro i hi
      have h1 := hel i hi
      rw [List.getElem?_eq_getElem (by omega), Option.bind_eq_some_iff] at h1
      obtain ⟨cs, hc, htr⟩ := h1
      obtain ⟨b, hb⟩ := hE n cs _ (by omega) htr
      obtain ⟨_, hcl, hat⟩ := World.cells?_some hc
      refine ⟨b, cs, hcl, hb, fun j c hj => ?_⟩
      have hjz : j < z := by rw [← hcl]; exact (List.getElem?_eq_some_iff.1 hj).1
      have := hat j hjz
      rw [add_add] at this
      exact this.trans hj
    by_cases h0 : len = 0
    · subst h0
      exact ⟨[], .inr ⟨a, cap, (List.cons.inj hcs).1, hl, hm, fun h => absurd rfl h, fun i x hx => by simp at hx⟩⟩
    let f : (i : Nat) → i < len → α := fun i h => (each i h).choose
    have hf : ∀ i (h : i < len), ∃ cs, cs.length = z ∧ R (f i h) cs ∧ CellsAt w a (i * z) cs := fun i h => (each i h).choose_spec
    have hblk : a.block < w.heap.size := by
      obtain ⟨cs, hcl, _, hc⟩ := hf 0 (by omega)
      have := cell_block (hc 0 cs[0] (List.getElem?_eq_getElem (by omega)))
      rwa [addBlock] at this
    refine ⟨(List.finRange len).map fun i => f i.1 i.2, .inr ⟨a, cap, by rw [(List.cons.inj hcs).1]; simp, by simpa using hl, hm, fun _ => hblk, fun i y hy => ?_⟩⟩
    rw [List.getElem?_map, Option.map_eq_some_iff] at hy
    obtain ⟨j, hj, rfl⟩ := hy
    obtain ⟨hi, e⟩ := List.getElem?_eq_some_iff.1 hj
    simp only [List.getElem_finRange] at e
    subst e
    exact hf i (by simpa using hi)

theorem cTerm : Tryd.prog.cellsOf 43 = 4 := by kernel_rfl
theorem cAtom : Tryd.prog.cellsOf 24 = 2 := by kernel_rfl
theorem cLit : Tryd.prog.cellsOf 45 = 11 := by kernel_rfl
theorem cRule : Tryd.prog.cellsOf 27 = 4 := by kernel_rfl
theorem cDecl : Tryd.prog.cellsOf 71 = 6 := by kernel_rfl
theorem cProg : Tryd.prog.cellsOf 51 = 2 := by kernel_rfl
theorem cInt : Tryd.prog.cellsOf 3 = 1 := by kernel_rfl
theorem cInt64 : Tryd.prog.cellsOf 2 = 1 := by kernel_rfl
theorem cStr : Tryd.prog.cellsOf 9 = 1 := by kernel_rfl
theorem cBool : Tryd.prog.cellsOf 4 = 1 := by kernel_rfl
theorem cTerms : Tryd.prog.cellsOf 22 = 1 := by kernel_rfl
theorem cLits : Tryd.prog.cellsOf 25 = 1 := by kernel_rfl
theorem cRules : Tryd.prog.cellsOf 49 = 1 := by kernel_rfl
theorem cDecls : Tryd.prog.cellsOf 28 = 1 := by kernel_rfl
theorem cStrs : Tryd.prog.cellsOf 34 = 1 := by kernel_rfl
theorem cInts : Tryd.prog.cellsOf 37 = 1 := by kernel_rfl

theorem wf_i64 {n : Int} (h : (Lit.int .i64 n).wf = true) : I64 n := by
  simp only [Lit.wf, Bool.and_eq_true, decide_eq_true_eq] at h
  exact h

set_option maxRecDepth 100000 in
theorem open_term : ∀ (fuel : Nat) (cs : List Value) (x : DataW H × List MemPlace), DataW.trod enc Tryd.prog w 0 (fun _ => true) true fuel 43 cs = some x → ∃ t, TmC w w.heap.size t cs := by
  intro fuel
  induction fuel using Nat.strongRecOn with
  | _ fuel ih =>
    intro cs x h
    obtain ⟨y0, y1, y2, y3, n, rfl, hcl, h0, h1, h2, h3⟩ := parts4 Tryd.underlying43 h
    rw [cTerm] at hcl
    match cs, hcl with
    | [c0, c1, c2, c3], _ =>
      simp only [cInt, cInt64, cStr, cTerms, List.drop_zero, List.drop_succ_cons, List.take_succ_cons, List.take_zero] at h0 h1 h2 h3
      obtain ⟨k0, e0, _, w0⟩ := DataW.trod_int Tryd.underlying3 h0
      obtain ⟨s1, e1, _, z1⟩ := DataW.trod_string Tryd.underlying9 h1
      obtain ⟨k2, e2, _, w2⟩ := DataW.trod_int Tryd.underlying2 h2
      simp only [List.cons.injEq, and_true] at e0 e1 e2
      subst e0 e1 e2
      obtain ⟨l, hl⟩ := open_sl Tryd.underlying22 cTerm (by omega) (fun m cs y hm hy => ih m (by omega) cs y hy) h3
      exact ⟨.mk k0 s1 k2 l, TmC.of (wf_i64 w0) z1 (wf_i64 w2) hl⟩

set_option maxRecDepth 100000 in
theorem open_atom (fuel : Nat) (cs : List Value) (x : DataW H × List MemPlace) (h : DataW.trod enc Tryd.prog w 0 (fun _ => true) true fuel 24 cs = some x) : ∃ t, AmC w w.heap.size t cs := by
  obtain ⟨y0, y1, n, rfl, hcl, h0, h1⟩ := parts2 Tryd.underlying24 h
  rw [cAtom] at hcl
  match cs, hcl with
  | [c0, c1], _ =>
    simp only [cStr, cTerms, List.drop_zero, List.drop_succ_cons, List.take_succ_cons, List.take_zero] at h0 h1
    obtain ⟨s0, e0, _, z0⟩ := DataW.trod_string Tryd.underlying9 h0
    simp only [List.cons.injEq, and_true] at e0
    subst e0
    obtain ⟨l, hl⟩ := open_sl Tryd.underlying22 cTerm (by omega) (fun m cs y hm hy => open_term m cs y hy) h1
    exact ⟨⟨s0, l⟩, _, rfl, z0, hl⟩

set_option maxRecDepth 100000 in
theorem open_lit (fuel : Nat) (cs : List Value) (x : DataW H × List MemPlace) (h : DataW.trod enc Tryd.prog w 0 (fun _ => true) true fuel 45 cs = some x) : ∃ t, LtC w w.heap.size t cs := by
  obtain ⟨y0, y1, y2, y3, n, rfl, hcl, h0, h1, h2, h3⟩ := parts4 Tryd.underlying45 h
  rw [cLit] at hcl
  match cs, hcl with
  | [c0, c1, c2, c3, c4, c5, c6, c7, c8, c9, c10], _ =>
    simp only [cInt, cAtom, cTerm, List.drop_zero, List.drop_succ_cons, List.take_succ_cons, List.take_zero] at h0 h1 h2 h3
    obtain ⟨k0, e0, _, w0⟩ := DataW.trod_int Tryd.underlying3 h0
    simp only [List.cons.injEq, and_true] at e0
    subst e0
    obtain ⟨a, ha⟩ := open_atom _ _ _ h1
    obtain ⟨x, hx⟩ := open_term _ _ _ h2
    obtain ⟨y, hy⟩ := open_term _ _ _ h3
    exact ⟨⟨k0, a, x, y⟩, _, _, _, rfl, wf_i64 w0, ha, hx, hy⟩

set_option maxRecDepth 100000 in
theorem open_rule (fuel : Nat) (cs : List Value) (x : DataW H × List MemPlace) (h : DataW.trod enc Tryd.prog w 0 (fun _ => true) true fuel 27 cs = some x) : ∃ t, RuC w w.heap.size t cs := by
  obtain ⟨y0, y1, y2, n, rfl, hcl, h0, h1, h2⟩ := parts3 Tryd.underlying27 h
  rw [cRule] at hcl
  match cs, hcl with
  | [c0, c1, c2, c3], _ =>
    simp only [cInt, cAtom, cLits, List.drop_zero, List.drop_succ_cons, List.take_succ_cons, List.take_zero] at h0 h1 h2
    obtain ⟨k2, e2, _, w2⟩ := DataW.trod_int Tryd.underlying3 h2
    simp only [List.cons.injEq, and_true] at e2
    subst e2
    obtain ⟨a, ha⟩ := open_atom _ _ _ h0
    obtain ⟨l, hl⟩ := open_sl Tryd.underlying25 cLit (by omega) (fun m cs y hm hy => open_lit m cs y hy) h1
    exact ⟨⟨a, l, k2⟩, _, _, rfl, wf_i64 w2, ha, hl⟩

set_option maxRecDepth 100000 in
theorem open_decl (fuel : Nat) (cs : List Value) (x : DataW H × List MemPlace) (h : DataW.trod enc Tryd.prog w 0 (fun _ => true) true fuel 71 cs = some x) : ∃ t, DeC w w.heap.size t cs := by
  obtain ⟨y0, y1, y2, y3, y4, y5, n, rfl, hcl, h0, h1, h2, h3, h4, h5⟩ := parts6 Tryd.underlying71 h
  rw [cDecl] at hcl
  match cs, hcl with
  | [c0, c1, c2, c3, c4, c5], _ =>
    simp only [cInt, cStr, cStrs, cInts, cBool, List.drop_zero, List.drop_succ_cons, List.take_succ_cons, List.take_zero] at h0 h1 h2 h3 h4 h5
    obtain ⟨s0, e0, _, z0⟩ := DataW.trod_string Tryd.underlying9 h0
    obtain ⟨b3, e3, _⟩ := DataW.trod_bool Tryd.underlying4 h3
    obtain ⟨b4, e4, _⟩ := DataW.trod_bool Tryd.underlying4 h4
    obtain ⟨k5, e5, _, w5⟩ := DataW.trod_int Tryd.underlying3 h5
    simp only [List.cons.injEq, and_true] at e0 e3 e4 e5
    subst e0 e3 e4 e5
    obtain ⟨l, hl⟩ := open_sl (R := StrC) Tryd.underlying34 cStr (by omega) (fun m cs y hm hy => by obtain ⟨s, e, _, z⟩ := DataW.trod_string Tryd.underlying9 hy; exact ⟨s, e, z⟩) h1
    obtain ⟨m, hm⟩ := open_sl (R := IntC) Tryd.underlying37 cInt (by omega) (fun m cs y hm hy => by obtain ⟨s, e, _, z⟩ := DataW.trod_int Tryd.underlying3 hy; exact ⟨s, e, wf_i64 z⟩) h2
    exact ⟨⟨s0, l, m, b3, b4, k5⟩, _, _, rfl, z0, wf_i64 w5, hl, hm⟩

set_option maxRecDepth 100000 in
theorem open_prog (fuel : Nat) (cs : List Value) (x : DataW H × List MemPlace) (h : DataW.trod enc Tryd.prog w 0 (fun _ => true) true fuel 51 cs = some x) : ∃ t, PgC w w.heap.size t cs := by
  obtain ⟨y0, y1, n, rfl, hcl, h0, h1⟩ := parts2 Tryd.underlying51 h
  rw [cProg] at hcl
  match cs, hcl with
  | [c0, c1], _ =>
    simp only [cDecls, cRules, List.drop_zero, List.drop_succ_cons, List.take_succ_cons, List.take_zero] at h0 h1
    obtain ⟨l, hl⟩ := open_sl Tryd.underlying28 cDecl (by omega) (fun m cs y hm hy => open_decl m cs y hy) h0
    obtain ⟨m, hm⟩ := open_sl Tryd.underlying49 cRule (by omega) (fun m cs y hm hy => open_rule m cs y hy) h1
    exact ⟨⟨l, m⟩, _, _, rfl, hl, hm⟩
end
end Go.Proofs.YtbpdfmpfnbdeoaaDoor
