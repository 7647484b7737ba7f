/- A slice of tokens among the arguments, opened. -/
import Derived.Test.YtkfdklamfmnalaaGreatDoorDshow
import Derived.Deep.Strs
import Derived.ChangeArms
import Derived.ChangeSame
namespace Go.Proofs.YtkfdklamfmnalaaGreatDoor
open Go.RowKit Go.ChangeShapes Go.WideShapes Go.Deep

theorem cellsTok : Tryz.prog.cellsOf 33 = 3 := by kernel_rfl
theorem cellsNum : Tryz.prog.cellsOf 3 = 1 := by kernel_rfl
theorem cellsStr : Tryz.prog.cellsOf 9 = 1 := by kernel_rfl

def TokAt (w : World) (a : Addr) (i : Nat) (t : TokI) : Prop :=
  (w.cell? (a.add (i * 3)) = some (.int .i64 t.kind) ∧ w.cell? (a.add (i * 3 + 1)) = some (.string t.s) ∧ w.cell? (a.add (i * 3 + 2)) = some (.int .i64 t.line)) ∧ t.s.size ≤ maxLen

set_option maxRecDepth 100000 in
theorem open_toks {H : Type} {enc : TypeId × Value → H} {w : World} {b0 : Nat} {v : Value} {d : DataW H} {p : List MemPlace}
    (hv : Value.okWide Tryz.prog w .any b0 24 v) (h : DataW.Trod enc Tryz.prog w 0 (fun _ => true) true 24 v d p) :
    ∃ ts : List TokI, SliceOf w w.heap.size v ts ∧ ∀ t ∈ ts, t.s.size ≤ maxLen := by
  obtain ⟨o, len, cap, rfl⟩ := okWide_slice Tryz.underlying24 hv
  obtain ⟨fuel, hf⟩ := h
  rcases open_slice Tryz.underlying24 hf with ⟨hcs, _⟩ | ⟨a, len', cap', m, n, D, Pl, hcs, _, hl, hm, hmm, _, hi⟩
  · have e : Value.slice o len cap = .slice none 0 0 := (List.cons.inj hcs).1
    exact ⟨[], .inl ⟨e, rfl⟩, by simp⟩
  · have e : Value.slice o len cap = .slice (some a) len' cap' := (List.cons.inj hcs).1
    rw [e] at hv ⊢
    have hblk : a.block < w.heap.size := by
      simp only [Value.okWide, Tryz.underlying24, Cell.okWide, Cell.ok] at hv
      obtain ⟨_, _, _, _, row, cells, hsh, _⟩ := hv
      unfold World.shape? at hsh
      rcases Nat.lt_or_ge a.block w.heap.size with h' | h'
      · exact h'
      · simp [Array.getElem?_eq_none h'] at hsh
    have hle : len' ≤ m := by rw [hmm]; split <;> omega
    have each : ∀ i, i < len' → ∃ t, TokAt w a i t := by
      intro i hil
      obtain ⟨cs', hc, ht⟩ := hi i (by omega)
      rw [cellsTok] at hc
      obtain ⟨_, hcl, hat⟩ := World.cells?_some hc
      obtain ⟨y0, y1, y2, k, _, _, t0, t1, t2⟩ := trod_struct3 Tryz.underlying33 ht
      match cs', hcl with
      | [c0, c1, c2], _ =>
        simp only [cellsNum, cellsStr, List.drop_zero, List.drop_succ_cons, List.take_succ_cons, List.take_zero] at t0 t1 t2
        obtain ⟨k0, e0, _, _⟩ := DataW.trod_int Tryz.underlying3 t0
        obtain ⟨s1, e1, _, z1⟩ := DataW.trod_string Tryz.underlying9 t1
        obtain ⟨k2, e2, _, _⟩ := DataW.trod_int Tryz.underlying3 t2
        have h0 := hat 0 (by omega)
        have h1 := hat 1 (by omega)
        have h2 := hat 2 (by omega)
        simp only [List.cons.injEq, and_true] at e0 e1 e2
        subst e0 e1 e2
        rw [add_add] at h0 h1 h2
        exact ⟨⟨k0, s1, k2⟩, ⟨h0, h1, h2⟩, z1⟩
    let f : Nat → TokI := fun i => if h : i < len' then (each i h).choose else ⟨0, ByteArray.empty, 0⟩
    have hf' : ∀ i, i < len' → TokAt w a i (f i) := by
      intro i h
      simp only [f, dif_pos h]
      exact (each i h).choose_spec
    refine ⟨(List.range len').map f, .inr ⟨a, cap', by simp, by simpa using hl, hm, hblk, fun i t ht => ?_⟩, fun t ht => ?_⟩
    · rw [List.getElem?_map, Option.map_eq_some_iff] at ht
      obtain ⟨j, hj, rfl⟩ := ht
      obtain ⟨hj1, hj2⟩ := List.getElem?_eq_some_iff.1 hj
      simp only [List.length_range] at hj1
      simp only [List.getElem_range] at hj2
      subst hj2
      exact (hf' i hj1).1
    · rw [List.mem_map] at ht
      obtain ⟨j, hj, rfl⟩ := ht
      exact (hf' j (List.mem_range.1 hj)).2
end Go.Proofs.YtkfdklamfmnalaaGreatDoor
