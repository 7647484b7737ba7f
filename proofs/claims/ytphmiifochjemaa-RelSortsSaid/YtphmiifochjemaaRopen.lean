/- Values, rows, lists of rows among the arguments, opened; what every law of package rel shares. -/
import Derived.Test.YtphmiifochjemaaVl
import Derived.Test.YtphmiifochjemaaPcr
import Derived.Test.YtphmiifochjemaaRows
import Derived.ProofKit
import Derived.OpenShut
import Derived.Deep.Slices
import Derived.Deep.Strs
import Derived.ChangeArms
import Derived.ChangeSame
import Derived.SizedLaws
import Derived.JoinedOf
namespace Go.Proofs.Ytphmiifochjemaa
open Go.RowKit Go.ChangeShapes Go.WideShapes Go.Deep Go.ChangeAt

theorem parts3 {H : Type} {enc : TypeId × Value → H} {P : Program} {w : World} {base : Nat} {spare : Nat → Bool} {held : Bool} {t : TypeId} {f0 f1 f2 : Field} {fuel : Nat} {cs : List Value} {x : DataW H × List MemPlace} (ht : P.underlying t = some (.struct #[f0, f1, f2])) (h : DataW.trod enc P w base spare held fuel t cs = some x) :
    ∃ (y0 y1 y2 : DataW H × List MemPlace) (n : Nat), fuel = n + 1 ∧ cs.length = P.cellsOf t ∧ DataW.trod enc P w base spare held n f0.type ((cs.drop f0.offset).take (P.cellsOf f0.type)) = some y0 ∧ DataW.trod enc P w base spare held n f1.type ((cs.drop f1.offset).take (P.cellsOf f1.type)) = some y1 ∧ DataW.trod enc P w base spare held n f2.type ((cs.drop f2.offset).take (P.cellsOf f2.type)) = some y2 := by
  obtain ⟨xs, n, hn, rfl, hl, hlen, hf⟩ := DataW.trod_struct ht h
  match xs, hlen with
  | [y0, y1, y2], _ => exact ⟨y0, y1, y2, n, hn, hl, by simpa using hf 0 f0 rfl, by simpa using hf 1 f1 rfl, by simpa using hf 2 f2 rfl⟩

section
variable {H : Type} {enc : TypeId × Value → H} {w : World}

theorem cell_block {a : Addr} {v : Value} (h : w.cell? a = some v) : a.block < w.heap.size := by
  unfold World.cell? at h
  rcases Nat.lt_or_ge a.block w.heap.size with h' | h'
  · exact h'
  · simp [Array.getElem?_eq_none h'] at h

/-- A slice is opened, and each element's data with it. -/
theorem open_sl {α : Type} {R : α → List Value → Prop} {G : α → DataW H → Prop} {z fuel : Nat} {t e : TypeId} {v : Value} {x : DataW H × List MemPlace} (ht : Try.prog.underlying t = some (.slice e)) (hz : Try.prog.cellsOf e = z) (hp : 0 < z)
    (hE : ∀ n cs y, n < fuel → DataW.trod enc Try.prog w 0 (fun _ => true) true n e cs = some y → ∃ b, R b cs ∧ G b y.1)
    (h : DataW.trod enc Try.prog w 0 (fun _ => true) true fuel t [v] = some x) :
    ∃ l : List α, SlOf w w.heap.size z R l v ∧ (l = [] ∨ ∃ elems rest, x.1 = .slice elems rest ∧ elems.length = l.length ∧ ∀ (i : Nat) (b : α), l[i]? = some b → ∃ d, elems[i]? = some d ∧ G b d) := by
  rcases DataW.trod_slice ht h with ⟨hcs, _⟩ | ⟨a, len, cap, elems, rest, n, rfl, hcs, hx, _, hl, hm, hlen, hel, _, _⟩
  · exact ⟨[], .inl ⟨(List.cons.inj hcs).1, rfl⟩, .inl rfl⟩
  · rw [hz] at hel
    have each : ∀ i, i < len → ∃ b, (∃ cs, cs.length = z ∧ R b cs ∧ CellsAt w a (i * z) cs) ∧ ∃ d, (elems.map (·.1))[i]? = some d ∧ G b d := by
      intro i hi
      have h1 := hel i hi
      rw [List.getElem?_eq_getElem (by omega), Option.bind_eq_some_iff] at h1
      obtain ⟨cs, hc, htr⟩ := h1
      obtain ⟨b, hb, hg⟩ := hE n cs _ (by omega) htr
      obtain ⟨_, hcl, hat⟩ := World.cells?_some hc
      refine ⟨b, ⟨cs, hcl, hb, fun j c hj => ?_⟩, _, ?_, hg⟩
      · have hjz : j < z := by rw [← hcl]; exact (List.getElem?_eq_some_iff.1 hj).1
        have := hat j hjz
        rw [add_add] at this
        exact this.trans hj
      · rw [List.getElem?_map, List.getElem?_eq_getElem (by omega)]; rfl
    by_cases h0 : len = 0
    · subst h0
      exact ⟨[], .inr ⟨a, cap, (List.cons.inj hcs).1, hl, hm, fun h => absurd rfl h, fun i x hx => by simp at hx⟩, .inl rfl⟩
    let f : (i : Nat) → i < len → α := fun i h => (each i h).choose
    have hf : ∀ i (h : i < len), (∃ cs, cs.length = z ∧ R (f i h) cs ∧ CellsAt w a (i * z) cs) ∧ ∃ d, (elems.map (·.1))[i]? = some d ∧ G (f i h) d := fun i h => (each i h).choose_spec
    have hblk : a.block < w.heap.size := by
      obtain ⟨⟨cs, hcl, _, hc⟩, _⟩ := hf 0 (by omega)
      have := cell_block (hc 0 cs[0] (List.getElem?_eq_getElem (by omega)))
      rwa [addBlock] at this
    have hat : ∀ (i : Nat) (y : α), ((List.finRange len).map fun i => f i.1 i.2)[i]? = some y → (∃ cs, cs.length = z ∧ R y cs ∧ CellsAt w a (i * z) cs) ∧ ∃ d, (elems.map (·.1))[i]? = some d ∧ G y d := by
      intro i y hy
      rw [List.getElem?_map, Option.map_eq_some_iff] at hy
      obtain ⟨j, hj, rfl⟩ := hy
      obtain ⟨hi, e⟩ := List.getElem?_eq_some_iff.1 hj
      simp only [List.getElem_finRange] at e
      subst e
      exact hf i (by simpa using hi)
    have hll : ((List.finRange len).map fun i => f i.1 i.2).length = len := by simp
    generalize (List.finRange len).map (fun i => f i.1 i.2) = l at hat hll
    subst hll
    exact ⟨l, .inr ⟨a, cap, (List.cons.inj hcs).1, hl, hm, fun _ => hblk, fun i y hy => (hat i y hy).1⟩, .inr ⟨elems.map (·.1), rest.map (·.1), by rw [hx], by rw [List.length_map, hlen], fun i y hy => (hat i y hy).2⟩⟩

theorem cVal : Try.prog.cellsOf 35 = 3 := by kernel_rfl
theorem cRow : Try.prog.cellsOf 23 = 1 := by kernel_rfl
theorem cInt : Try.prog.cellsOf 3 = 1 := by kernel_rfl
theorem cInt64 : Try.prog.cellsOf 2 = 1 := by kernel_rfl
theorem cStr : Try.prog.cellsOf 9 = 1 := by kernel_rfl
theorem cBool : Try.prog.cellsOf 4 = 1 := by kernel_rfl
theorem bVal : Try.prog.bytesOf 35 = 32 := by kernel_rfl

theorem wf_i64 {n : Int} (h : (Lit.int .i64 n).wf = true) : I64 n := by
  simp only [Lit.wf, Bool.and_eq_true, decide_eq_true_eq] at h
  exact h

set_option maxRecDepth 100000 in
theorem open_val (fuel : Nat) (cs : List Value) (x : DataW H × List MemPlace) (h : DataW.trod enc Try.prog w 0 (fun _ => true) true fuel 35 cs = some x) : ∃ t, VlC t cs := by
  obtain ⟨y0, y1, y2, n, rfl, hcl, h0, h1, h2⟩ := parts3 Try.underlying35 h
  rw [cVal] at hcl
  match cs, hcl with
  | [c0, c1, c2], _ =>
    simp only [cBool, cInt64, cStr, List.drop_zero, List.drop_succ_cons, List.take_succ_cons, List.take_zero] at h0 h1 h2
    obtain ⟨b0, e0, _⟩ := DataW.trod_bool Try.underlying4 h0
    obtain ⟨k1, e1, _, w1⟩ := DataW.trod_int Try.underlying2 h1
    obtain ⟨s2, e2, _, z2⟩ := DataW.trod_string Try.underlying9 h2
    simp only [List.cons.injEq, and_true] at e0 e1 e2
    subst e0 e1 e2
    exact ⟨⟨b0, k1, s2⟩, rfl, wf_i64 w1, z2⟩
def smallD (t : TypeId) (d : DataW H) : Prop := (d.weights Try.prog t).all (· ≤ reachBytes) = true
theorem small_elem {t e : TypeId} {elems rest : List (DataW H)} (ht : Try.prog.underlying t = some (.slice e)) (h : smallD t (.slice elems rest)) : elems.length * Try.prog.bytesOf e ≤ reachBytes ∧ ∀ d ∈ elems, smallD e d := by
  unfold smallD at h
  rw [DataW.weights, ht] at h
  simp only [List.all_cons, List.all_append, Bool.and_eq_true, decide_eq_true_eq] at h
  obtain ⟨h1, h2, _⟩ := h
  refine ⟨Nat.le_trans (Nat.mul_le_mul_right _ (by omega)) h1, ?_⟩
  clear h1
  induction elems with
  | nil => intro d hd; cases hd
  | cons x r ih =>
    rw [DataW.weightsAll, List.all_append, Bool.and_eq_true] at h2
    intro d hd
    rcases List.mem_cons.1 hd with rfl | hd
    · exact h2.1
    · exact ih h2.2 d hd
set_option maxRecDepth 100000 in
theorem open_rowf (fuel : Nat) (cs : List Value) (x : DataW H × List MemPlace) (h : DataW.trod enc Try.prog w 0 (fun _ => true) true fuel 23 cs = some x) (hc : ∃ v, cs = [v]) : ∃ r, RwC w w.heap.size r cs ∧ (smallD 23 x.1 → FitW r) := by
  obtain ⟨v, rfl⟩ := hc
  obtain ⟨r, h1, h2⟩ := open_sl (R := VlC) (G := fun _ _ => True) Try.underlying23 cVal (by omega) (fun m cs y hm hy => by obtain ⟨t, ht⟩ := open_val m cs y hy; exact ⟨t, ht, trivial⟩) h
  refine ⟨r, ⟨v, rfl, h1⟩, fun hs => ?_⟩
  unfold FitW
  rcases h2 with rfl | ⟨elems, rest, hx, hl, _⟩
  · simp
  · rw [hx] at hs
    have := (small_elem Try.underlying23 hs).1
    rw [bVal, hl] at this
    unfold reachBytes at this
    omega
theorem one_cell {fuel : Nat} {t e : TypeId} {cs : List Value} {x : DataW H × List MemPlace} (ht : Try.prog.underlying t = some (.slice e)) (h : DataW.trod enc Try.prog w 0 (fun _ => true) true fuel t cs = some x) : ∃ v, cs = [v] := by
  rcases DataW.trod_slice ht h with ⟨hcs, _⟩ | ⟨a, len, cap, _, _, _, _, hcs, _⟩
  · exact ⟨_, hcs⟩
  · exact ⟨_, hcs⟩
theorem open_row {b0 : Nat} {v : Value} {d : DataW H} {p : List MemPlace}
    (hv : Value.okWide Try.prog w .any b0 23 v) (h : DataW.Trod enc Try.prog w 0 (fun _ => true) true 23 v d p) : ∃ r, SlOf w w.heap.size 3 VlC r v ∧ (smallD 23 d → FitW r) := by
  obtain ⟨o, len, cap, rfl⟩ := okWide_slice Try.underlying23 hv
  obtain ⟨fuel, hf⟩ := h
  obtain ⟨r, ⟨v, hv, h1⟩, h2⟩ := open_rowf fuel _ _ hf ⟨_, rfl⟩
  obtain rfl := (List.cons.inj hv).1
  exact ⟨r, h1, h2⟩
theorem open_rows {b0 : Nat} {v : Value} {d : DataW H} {p : List MemPlace}
    (hv : Value.okWide Try.prog w .any b0 22 v) (h : DataW.Trod enc Try.prog w 0 (fun _ => true) true 22 v d p) : ∃ l, RwsS w w.heap.size l v ∧ (smallD 22 d → ∀ r ∈ l, FitW r) := by
  obtain ⟨o, len, cap, rfl⟩ := okWide_slice Try.underlying22 hv
  obtain ⟨fuel, hf⟩ := h
  obtain ⟨l, h1, h2⟩ := open_sl (R := RwC w w.heap.size) (G := fun r d => smallD 23 d → FitW r) Try.underlying22 cRow (by omega) (fun m cs y hm hy => open_rowf m cs y hy (one_cell Try.underlying23 hy)) hf
  refine ⟨l, h1, fun hs r hr => ?_⟩
  rcases h2 with rfl | ⟨elems, rest, hx, hl, he⟩
  · cases hr
  · obtain ⟨i, hi⟩ := List.getElem?_of_mem hr
    obtain ⟨d', hd, hg⟩ := he i r hi
    have hx' : d = .slice elems rest := hx
    rw [hx'] at hs
    exact hg ((small_elem Try.underlying22 hs).2 d' (List.mem_of_getElem? hd))
end

theorem own : ownKnob Try.prog.godebug = none := by kernel_rfl
theorem laidOut : laidOutB Try.prog = true := by kernel_rfl
theorem int64_bounds {n : Int} (h : (Lit.int .i64 n).wf = true) : -9223372036854775808 ≤ n ∧ n ≤ 9223372036854775807 := by
  simp only [Lit.wf, Bool.and_eq_true, decide_eq_true_eq] at h
  exact h
theorem below_trodAll {H : Type} {enc : TypeId × Value → H} {W W' : World} (hb : Below W.heap.size W W') :
    ∀ {ts : List TypeId} {vs : List Value} {ds : List (DataW H)} {ps : List MemPlace}, (∀ t ∈ ts, Try.prog.readableRec t = true ∧ t < Try.prog.types.size) →
      DataW.TrodAll enc Try.prog W 0 (fun _ => true) true ts vs ds ps → (∀ x ∈ ps, x.block < W.heap.size) → DataW.TrodAll enc Try.prog W' 0 (fun b => decide (b < W.heap.size)) true ts vs ds ps
  | [], _, _, _, _, h, _ => by
    obtain ⟨rfl, rfl, rfl⟩ := trodAll_nil h
    exact trodAll_mk0
  | t :: ts, _, _, _, hr, h, hlt => by
    obtain ⟨v, vs', d, ds', p, q, rfl, rfl, rfl, h1, h2⟩ := trodAll_cons h
    exact trodAll_cons_mk (Below.trod laidOut (hr t (by simp)).1 (hr t (by simp)).2 h1 hb (fun x hx => hlt x (by simp [hx])))
      (below_trodAll hb (fun t' ht' => hr t' (by simp [ht'])) h2 (fun x hx => hlt x (by simp [hx])))

/-- A CALL THAT ANSWERS true AND TURNS NOTHING THAT LAY KEEPS THE LAW. -/
theorem law_post {H : Type} {enc : TypeId × Value → H} {f : Func} {s : ChangeSpec} {W W' : World} {args : Array Value} {ds gs : List (DataW H)} {before : List MemPlace}
    (hW : DataW.Whole enc Try.prog f.params.toList s.vars false W args.toList ds gs before) (hv : s.vars = []) (hrt : f.resultTypes = #[4])
    (hfn : s.fn H ds = { results := [.lit (.bool true)], args := ds }) (hr : ∀ t ∈ f.params.toList, Try.prog.readableRec t = true ∧ t < Try.prog.types.size) (hb : Below W.heap.size W W') :
    s.post enc Try.prog f false true false false W args (.bool true) W' := by
  have hlt : ∀ x ∈ before, x.block < W.heap.size := fun x hx => by simpa using hW.lt x hx
  have hW0 := hW
  obtain ⟨p, q, hA, hV, rfl, _, _⟩ := hW0
  rw [hv] at hV
  obtain ⟨rfl, rfl⟩ := trodVars_none hV
  have e1 : s.fn H (ds ++ []) = { results := [.lit (.bool true)], args := ds } := by rw [List.append_nil]; exact hfn
  refine ⟨ds, [], p ++ [], [], p, [], hW, ?_, ?_, ?_, World.keptBut_mono (fun _ h => h.elim) (hb.frame (fun _ => False)), fun h => by cases h⟩
  · rw [e1, hrt]
    exact trodAll_mk1 (shut_bool Try.underlying4 true)
  · rw [e1]
    exact below_trodAll hb hr hA (fun x hx => hlt x (by simp [hx]))
  · rw [e1, hv]
    rfl
end Go.Proofs.Ytphmiifochjemaa
