/- Lists of numbers, and lists of such lists, among the arguments, opened; what every law of package cover shares. -/
import Derived.Test.YtiljpacmkmmlcaaSl
import Derived.Test.YtiljpacmkmmlcaaCv1
import Derived.Test.YtiljpacmkmmlcaaRows
import Derived.ProofKit
import Derived.OpenShut
import Derived.Deep.Slices
import Derived.Deep.Strs
import Derived.ChangeArms
import Derived.ChangeSame
import Derived.SizedLaws
import Derived.JoinedOf
set_option linter.unusedSimpArgs false
set_option linter.unusedVariables false
namespace Go.Proofs.Ytiljpacmkmmlcaa
open Go.RowKit Go.ChangeShapes Go.WideShapes Go.Deep Go.ChangeAt

section
variable {H : Type} {enc : TypeId × Value → H} {w : World}

theorem cell_block {a : Addr} {v : Value} (h : w.cell? a = some v) : a.block < w.heap.size := by
  unfold World.cell? at h
  rcases Nat.lt_or_ge a.block w.heap.size with h' | h'
  · exact h'
  · simp [Array.getElem?_eq_none h'] at h

/-- A slice is opened, and each element's data with it. -/
theorem open_sl {α : Type} {R : α → List Value → Prop} {G : α → DataW H → Prop} {z fuel : Nat} {t e : TypeId} {v : Value} {x : DataW H × List MemPlace} (ht : Try.prog.underlying t = some (.slice e)) (hz : Try.prog.cellsOf e = z) (hp : 0 < z)
    (hE : ∀ n cs y, n < fuel → DataW.trod enc Try.prog w 0 (fun _ => true) true n e cs = some y → ∃ b, R b cs ∧ G b y.1)
    (h : DataW.trod enc Try.prog w 0 (fun _ => true) true fuel t [v] = some x) :
    ∃ l : List α, SlOf w w.heap.size z R l v ∧ (l = [] ∨ ∃ elems rest, x.1 = .slice elems rest ∧ elems.length = l.length ∧ ∀ (i : Nat) (b : α), l[i]? = some b → ∃ d, elems[i]? = some d ∧ G b d) := by
  rcases DataW.trod_slice ht h with ⟨hcs, _⟩ | ⟨a, len, cap, elems, rest, n, rfl, hcs, hx, _, hl, hm, hlen, hel, _, _⟩
  · exact ⟨[], .inl ⟨(List.cons.inj hcs).1, rfl⟩, .inl rfl⟩
  · rw [hz] at hel
    have each : ∀ i, i < len → ∃ b, (∃ cs, cs.length = z ∧ R b cs ∧ CellsAt w a (i * z) cs) ∧ ∃ d, (elems.map (·.1))[i]? = some d ∧ G b d := by
      intro i hi
      have h1 := hel i hi
      rw [List.getElem?_eq_getElem (by omega), Option.bind_eq_some_iff] at h1
      obtain ⟨cs, hc, htr⟩ := h1
      obtain ⟨b, hb, hg⟩ := hE n cs _ (by omega) htr
      obtain ⟨_, hcl, hat⟩ := World.cells?_some hc
      refine ⟨b, ⟨cs, hcl, hb, fun j c hj => ?_⟩, _, ?_, hg⟩
      · have hjz : j < z := by rw [← hcl]; exact (List.getElem?_eq_some_iff.1 hj).1
        have := hat j hjz
        rw [add_add] at this
        exact this.trans hj
      · rw [List.getElem?_map, List.getElem?_eq_getElem (by omega)]; rfl
    by_cases h0 : len = 0
    · subst h0
      exact ⟨[], .inr ⟨a, cap, (List.cons.inj hcs).1, hl, hm, fun h => absurd rfl h, fun i x hx => by simp at hx⟩, .inl rfl⟩
    let f : (i : Nat) → i < len → α := fun i h => (each i h).choose
    have hf : ∀ i (h : i < len), (∃ cs, cs.length = z ∧ R (f i h) cs ∧ CellsAt w a (i * z) cs) ∧ ∃ d, (elems.map (·.1))[i]? = some d ∧ G (f i h) d := fun i h => (each i h).choose_spec
    have hblk : a.block < w.heap.size := by
      obtain ⟨⟨cs, hcl, _, hc⟩, _⟩ := hf 0 (by omega)
      have := cell_block (hc 0 cs[0] (List.getElem?_eq_getElem (by omega)))
      rwa [addBlock] at this
    have hat : ∀ (i : Nat) (y : α), ((List.finRange len).map fun i => f i.1 i.2)[i]? = some y → (∃ cs, cs.length = z ∧ R y cs ∧ CellsAt w a (i * z) cs) ∧ ∃ d, (elems.map (·.1))[i]? = some d ∧ G y d := by
      intro i y hy
      rw [List.getElem?_map, Option.map_eq_some_iff] at hy
      obtain ⟨j, hj, rfl⟩ := hy
      obtain ⟨hi, e⟩ := List.getElem?_eq_some_iff.1 hj
      simp only [List.getElem_finRange] at e
      subst e
      exact hf i (by simpa using hi)
    have hll : ((List.finRange len).map fun i => f i.1 i.2).length = len := by simp
    generalize (List.finRange len).map (fun i => f i.1 i.2) = l at hat hll
    subst hll
    exact ⟨l, .inr ⟨a, cap, (List.cons.inj hcs).1, hl, hm, fun _ => hblk, fun i y hy => (hat i y hy).1⟩, .inr ⟨elems.map (·.1), rest.map (·.1), by rw [hx], by rw [List.length_map, hlen], fun i y hy => (hat i y hy).2⟩⟩

theorem cInt : Try.prog.cellsOf 3 = 1 := by kernel_rfl
theorem cInts : Try.prog.cellsOf 23 = 1 := by kernel_rfl
theorem wf_i64 {n : Int} (h : (Lit.int .i64 n).wf = true) : I64 n := by
  simp only [Lit.wf, Bool.and_eq_true, decide_eq_true_eq] at h
  exact h

theorem one_cell {fuel : Nat} {t e : TypeId} {cs : List Value} {x : DataW H × List MemPlace} (ht : Try.prog.underlying t = some (.slice e)) (h : DataW.trod enc Try.prog w 0 (fun _ => true) true fuel t cs = some x) : ∃ v, cs = [v] := by
  rcases DataW.trod_slice ht h with ⟨hcs, _⟩ | ⟨a, len, cap, _, _, _, _, hcs, _⟩
  · exact ⟨_, hcs⟩
  · exact ⟨_, hcs⟩
set_option maxRecDepth 100000 in
theorem open_intsf (fuel : Nat) (cs : List Value) (x : DataW H × List MemPlace) (h : DataW.trod enc Try.prog w 0 (fun _ => true) true fuel 23 cs = some x) (hc : ∃ v, cs = [v]) : ∃ r, IntsC w w.heap.size r cs := by
  obtain ⟨v, rfl⟩ := hc
  obtain ⟨r, h1, _⟩ := open_sl (R := IntC) (G := fun _ _ => True) Try.underlying23 cInt (by omega) (fun m cs y hm hy => by obtain ⟨s, e, _, z⟩ := DataW.trod_int Try.underlying3 hy; exact ⟨s, ⟨e, wf_i64 z⟩, trivial⟩) h
  exact ⟨r, v, rfl, h1⟩
theorem open_ints {b0 : Nat} {v : Value} {d : DataW H} {p : List MemPlace}
    (hv : Value.okWide Try.prog w .any b0 23 v) (h : DataW.Trod enc Try.prog w 0 (fun _ => true) true 23 v d p) : ∃ l, SlOf w w.heap.size 1 IntC l v := by
  obtain ⟨o, len, cap, rfl⟩ := okWide_slice Try.underlying23 hv
  obtain ⟨fuel, hf⟩ := h
  obtain ⟨l, h1, _⟩ := open_sl (R := IntC) (G := fun _ _ => True) Try.underlying23 cInt (by omega) (fun m cs y hm hy => by obtain ⟨s, e, _, z⟩ := DataW.trod_int Try.underlying3 hy; exact ⟨s, ⟨e, wf_i64 z⟩, trivial⟩) hf
  exact ⟨l, h1⟩
theorem open_sets {b0 : Nat} {v : Value} {d : DataW H} {p : List MemPlace}
    (hv : Value.okWide Try.prog w .any b0 22 v) (h : DataW.Trod enc Try.prog w 0 (fun _ => true) true 22 v d p) : ∃ l, SetsS w w.heap.size l v := by
  obtain ⟨o, len, cap, rfl⟩ := okWide_slice Try.underlying22 hv
  obtain ⟨fuel, hf⟩ := h
  obtain ⟨l, h1, _⟩ := open_sl (R := IntsC w w.heap.size) (G := fun _ _ => True) Try.underlying22 cInts (by omega) (fun m cs y hm hy => by obtain ⟨r, hr⟩ := open_intsf m cs y hy (one_cell Try.underlying23 hy); exact ⟨r, hr, trivial⟩) hf
  exact ⟨l, h1⟩
end

theorem own : ownKnob Try.prog.godebug = none := by kernel_rfl
theorem laidOut : laidOutB Try.prog = true := by kernel_rfl
theorem int64_bounds {n : Int} (h : (Lit.int .i64 n).wf = true) : -9223372036854775808 ≤ n ∧ n ≤ 9223372036854775807 := by
  simp only [Lit.wf, Bool.and_eq_true, decide_eq_true_eq] at h
  exact h
theorem below_trodAll {H : Type} {enc : TypeId × Value → H} {W W' : World} (hb : Below W.heap.size W W') :
    ∀ {ts : List TypeId} {vs : List Value} {ds : List (DataW H)} {ps : List MemPlace}, (∀ t ∈ ts, Try.prog.readableRec t = true ∧ t < Try.prog.types.size) →
      DataW.TrodAll enc Try.prog W 0 (fun _ => true) true ts vs ds ps → (∀ x ∈ ps, x.block < W.heap.size) → DataW.TrodAll enc Try.prog W' 0 (fun b => decide (b < W.heap.size)) true ts vs ds ps
  | [], _, _, _, _, h, _ => by
    obtain ⟨rfl, rfl, rfl⟩ := trodAll_nil h
    exact trodAll_mk0
  | t :: ts, _, _, _, hr, h, hlt => by
    obtain ⟨v, vs', d, ds', p, q, rfl, rfl, rfl, h1, h2⟩ := trodAll_cons h
    exact trodAll_cons_mk (Below.trod laidOut (hr t (by simp)).1 (hr t (by simp)).2 h1 hb (fun x hx => hlt x (by simp [hx])))
      (below_trodAll hb (fun t' ht' => hr t' (by simp [ht'])) h2 (fun x hx => hlt x (by simp [hx])))

/-- A CALL THAT ANSWERS true AND TURNS NOTHING THAT LAY KEEPS THE LAW. -/
theorem law_post {H : Type} {enc : TypeId × Value → H} {f : Func} {s : ChangeSpec} {W W' : World} {args : Array Value} {ds gs : List (DataW H)} {before : List MemPlace}
    (hW : DataW.Whole enc Try.prog f.params.toList s.vars false W args.toList ds gs before) (hv : s.vars = []) (hrt : f.resultTypes = #[4])
    (hfn : s.fn H ds = { results := [.lit (.bool true)], args := ds }) (hr : ∀ t ∈ f.params.toList, Try.prog.readableRec t = true ∧ t < Try.prog.types.size) (hb : Below W.heap.size W W') :
    s.post enc Try.prog f false true false false W args (.bool true) W' := by
  have hlt : ∀ x ∈ before, x.block < W.heap.size := fun x hx => by simpa using hW.lt x hx
  have hW0 := hW
  obtain ⟨p, q, hA, hV, rfl, _, _⟩ := hW0
  rw [hv] at hV
  obtain ⟨rfl, rfl⟩ := trodVars_none hV
  have e1 : s.fn H (ds ++ []) = { results := [.lit (.bool true)], args := ds } := by rw [List.append_nil]; exact hfn
  refine ⟨ds, [], p ++ [], [], p, [], hW, ?_, ?_, ?_, World.keptBut_mono (fun _ h => h.elim) (hb.frame (fun _ => False)), fun h => by cases h⟩
  · rw [e1, hrt]
    exact trodAll_mk1 (shut_bool Try.underlying4 true)
  · rw [e1]
    exact below_trodAll hb hr hA (fun x hx => hlt x (by simp [hx]))
  · rw [e1, hv]
    rfl
end Go.Proofs.Ytiljpacmkmmlcaa
