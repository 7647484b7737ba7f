/- dtype.varsOf: the names of a rule's variables, each once. Where a rule's terms lie: every term that the search for types asks of is among its terms. What Types and Check of dtype answer, as plain data, and what that is worth whatever the order of parts. What dtype.Check answers, as plain data; a program's first rules. -/
import Derived.Test.YtfcfehflocglpaaDoorKYvis
import Derived.Test.YtfcfehflocglpaaDoorKYap
import Derived.Test.YtfcfehflocglpaaDoorKAny
import Derived.Test.YtfcfehflocglpaaDoorKTchk2
import Derived.RangeFuncNested
import Derived.Test.YtfcfehflocglpaaDoorKYtypes
import Derived.Test.YtfcfehflocglpaaDoorKSpr
namespace Go.Proofs.YtfcfehflocglpaaDoor
open Go.RowKit Go.Shelf

attribute [local go_sem] Oper.semAt_some

/-- The map's block, the list's box, the list's row. -/
def SV (M L : Nat) (W : World) (i : Nat) : Prop := i = M ∨ i = L ∨ ∃ v, W.cell? ⟨L, 0, none⟩ = some v ∧ v.ownBlock = some i
theorem sv_cell {M L : Nat} {W W' : World} (h : W'.cell? ⟨L, 0, none⟩ = W.cell? ⟨L, 0, none⟩) (i : Nat) (hi : SV M L W' i) : SV M L W i := by
  rcases hi with h1 | h1 | ⟨v, h1, h2⟩
  · exact .inl h1
  · exact .inr (.inl h1)
  · exact .inr (.inr ⟨v, h ▸ h1, h2⟩)
theorem sv_grow (M L : Nat) : SGrow (SV M L) := fun W W' hw hb i hi => by
  have hL : L < W.heap.size := hw L (.inr (.inl rfl))
  exact sv_cell (World.cell?_of_block (hb.block L hL)) i hi
theorem sv_put {M L : Nat} (W : World) (l : Nat) (o o' : Obj) (hl : L < l) (ho : W.heap[l]? = some o) (hc : o.isCells = false) : KO (SV M L) W (W.putObj l o') := by
  have hsz : (W.putObj l o').heap.size = W.heap.size := by simp
  have hcell : (W.putObj l o').cell? ⟨L, 0, none⟩ = W.cell? ⟨L, 0, none⟩ := World.cell?_of_block (World.putObj_heap_other (by show L ≠ l; omega))
  refine ⟨by rw [hsz]; exact Nat.le_refl _, fun i x hi hx _ => ?_, fun i h => .inl (sv_cell hcell i h), fun h i hi => by rw [hsz]; exact h i (sv_cell hcell i hi)⟩
  have hne : i ≠ l := by rintro rfl; rw [ho] at hi; cases hi; rw [hc] at hx; cases hx
  exact (World.putObj_heap_other hne).trans hi
/-- A step that turns but what is owned. -/
theorem sv_step {M L : Nat} {W W' : World} {v v' : Value} (hsz : W.heap.size ≤ W'.heap.size) (hb : ∀ i, i < W.heap.size → i ≠ M → i ≠ L → some i ≠ v.ownBlock → W'.heap[i]? = W.heap[i]?) (hv : W.cell? ⟨L, 0, none⟩ = some v) (hv' : W'.cell? ⟨L, 0, none⟩ = some v')
    (hown : v'.ownBlock = v.ownBlock ∨ ∃ g, v'.ownBlock = some g ∧ W.heap.size ≤ g ∧ g < W'.heap.size) : KO (SV M L) W W' := by
  have key : ∀ i, SV M L W' i → SV M L W i ∨ (W.heap.size ≤ i ∧ i < W'.heap.size) := by
    rintro i (h1 | h1 | ⟨u, h1, h2⟩)
    · exact .inl (.inl h1)
    · exact .inl (.inr (.inl h1))
    · rw [hv'] at h1
      cases h1
      rcases hown with h | ⟨g, h, g1, g2⟩
      · exact .inl (.inr (.inr ⟨v, hv, h ▸ h2⟩))
      · rw [h] at h2; cases h2; exact .inr ⟨g1, g2⟩
  refine ⟨hsz, fun i o ho _ hs => ?_, fun i h => (key i h).imp id (·.1), fun hw i hi => ?_⟩
  · have hi := (Array.getElem?_eq_some_iff.1 ho).1
    exact (hb i hi (fun e => hs (.inl e)) (fun e => hs (.inr (.inl e))) (fun e => hs (.inr (.inr ⟨v, hv, e.symm⟩)))).trans ho
  · rcases key i hi with h | h
    · exact Nat.lt_of_lt_of_le (hw i h) hsz
    · exact h.2
theorem mapI_block {P : Program} {w w' : World} {kT eT : TypeId} {B n : Nat} {f : List UInt8 → Int} {c : Nat} (h : MapI P w kT eT B n f c) (hb : w'.heap[B]? = w.heap[B]?) : MapI P w' kT eT B n f c := by
  obtain ⟨D, ⟨es, clock, h1, h2⟩, h3⟩ := h
  exact ⟨D, ⟨es, clock, hb.trans h1, h2⟩, h3⟩
/-- The world with a block out of sight. -/
def veil (b : Nat) (W : World) : World := W.putObj b (.map #[] 0)
theorem veil_cell {b : Nat} {W : World} {p : Addr} {c : Value} (h : (veil b W).cell? p = some c) : p.block ≠ b ∧ W.cell? p = some c := by
  by_cases e : p.block = b
  · exfalso
    obtain ⟨o, ho, hc⟩ := cells_of_cell h
    have hlt : b < W.heap.size := by
      have := (Array.getElem?_eq_some_iff.1 ho).1
      unfold veil at this
      simp at this
      omega
    unfold veil at ho
    rw [e, World.putObj_heap_same hlt] at ho
    cases ho
    cases hc
  · exact ⟨e, (World.cell?_of_block (World.putObj_heap_other e)).symm.trans h⟩
theorem cell_veil {b : Nat} {W : World} {p : Addr} {c : Value} (h : W.cell? p = some c) (e : p.block ≠ b) : (veil b W).cell? p = some c := (World.cell?_of_block (World.putObj_heap_other e)).trans h

/-! ### The names, as they come -/
def cntV : List Tm → List UInt8 → Nat
  | [], _ => 0
  | t :: ts, s => cntV ts s + (if t.op = 1 ∧ nm t = s then 1 else 0)
theorem cntV_snoc (ts : List Tm) (t : Tm) (s : List UInt8) : cntV (ts ++ [t]) s = cntV ts s + (if t.op = 1 ∧ nm t = s then 1 else 0) := by
  induction ts with
  | nil => simp [cntV]
  | cons u ts ih => simp only [List.cons_append, cntV, ih]; omega
theorem cntV_le (ts : List Tm) (s : List UInt8) : cntV ts s ≤ ts.length := by
  induction ts with
  | nil => simp [cntV]
  | cons t ts ih => simp only [cntV, List.length_cons]; split <;> omega
def stepV (ts : List Tm) (acc : List ByteArray) (t : Tm) : List ByteArray := if t.op = 1 ∧ cntV ts (nm t) = 0 then acc ++ [t.s] else acc
/-- The variables of a list of terms, in the order in which they come. -/
def namesV : List Tm → List Tm → List ByteArray → List ByteArray
  | _, [], acc => acc
  | past, t :: ts, acc => namesV (past ++ [t]) ts (stepV past acc t)
def varsV (ts : List Tm) : List ByteArray := namesV [] ts []
theorem namesV_snoc : ∀ (ts past : List Tm) (acc : List ByteArray) (t : Tm), namesV past (ts ++ [t]) acc = stepV (past ++ ts) (namesV past ts acc) t
  | [], past, acc, t => by simp [namesV]
  | u :: ts, past, acc, t => by
    show namesV (past ++ [u]) (ts ++ [t]) _ = _
    rw [namesV_snoc ts]
    simp [namesV]
theorem varsV_snoc (ts : List Tm) (t : Tm) : varsV (ts ++ [t]) = stepV ts (varsV ts) t := by
  unfold varsV
  rw [namesV_snoc]
  simp
theorem varsV_len (ts : List Tm) : (varsV ts).length ≤ ts.length := by
  have key : ∀ (ts past : List Tm) (acc : List ByteArray), (namesV past ts acc).length ≤ acc.length + ts.length := by
    intro ts
    induction ts with
    | nil => intro past acc; simp [namesV]
    | cons t ts ih =>
      intro past acc
      refine Nat.le_trans (ih _ _) ?_
      unfold stepV
      split <;> simp <;> omega
  have := key ts [] []
  simpa [varsV] using this

set_option linter.unusedSimpArgs false in
set_option maxRecDepth 100000 in
set_option maxHeartbeats 4000000 in
theorem varsOf_in (r : Ru) (cs : List Value) (w : World) (hc : RuC w w.heap.size r cs) (hsm : ∀ t ∈ termsR r, t.op = 1 → t.s.size ≤ 281474976710656) (hlen : (termsR r).length ≤ 1000000) :
    CallsIn Fence.wide 6 Tryd.prog 36 #[.agg cs.toArray] w fun e w' => ∃ v, e = .returned v ∧ w'.ownsRow w.heap.size 9 1 v (varsV (termsR r)).length ((varsV (termsR r)).map Value.string) ∧ Below w.heap.size w w' := by
  obtain ⟨o0, k0, o1, k1, rfl, _⟩ := hc.look
  have hmm := @run_makeMap Tryd.prog
  have HC := Lib.hid hc
  clear hc
  refine callsIn_of_wp_marks Tryd.func36 rfl trivial ?_ rfl
  simp only [Tryd.ntmps36, List.size_toArray, List.length_cons, List.length_nil, Nat.reduceAdd, Nat.reduceSub, Array.replicate_succ, Array.replicate_zero, List.push_toArray, List.append_toArray, List.nil_append, List.cons_append]
  obtain ⟨n0, hn0⟩ : ∃ n0, w.heap.size = n0 := ⟨_, rfl⟩
  gi_wp2_with fail
  obtain ⟨W4, hW4⟩ : ∃ W4, ((((w.alloc (.cells #[.string r.head.rel, .slice o0 r.head.l.length k0, .slice o1 r.body.length k1, .int .i64 r.line] 27)).alloc (.map #[] 0)).alloc (.cells #[.map (some (n0 + 1))] 77)).alloc (.cells #[.slice none 0 0] 34)) = W4 := ⟨_, rfl⟩
  have hs4 : W4.heap.size = n0 + 4 := by rw [← hW4]; simp; omega
  have hb4 : Below n0 w W4 := by
    rw [← hW4]
    exact ((((Below.refl n0 w).alloc (by omega) _).alloc (by simp; omega) _).alloc (by simp; omega) _).alloc (by simp; omega) _
  have bl4 : Boxed W4 (n0 + 1 + 1 + 1) 34 (.slice none 0 0) := by
    have := Boxed.new (((w.alloc (.cells #[.string r.head.rel, .slice o0 r.head.l.length k0, .slice o1 r.body.length k1, .int .i64 r.line] 27)).alloc (.map #[] 0)).alloc (.cells #[.map (some (n0 + 1))] 77)) 34 (.slice none 0 0)
    rw [hW4] at this
    simpa [hn0] using this
  have bm4 : Boxed W4 (n0 + 1 + 1) 77 (.map (some (n0 + 1))) := by
    have := (Boxed.new ((w.alloc (.cells #[.string r.head.rel, .slice o0 r.head.l.length k0, .slice o1 r.body.length k1, .int .i64 r.line] 27)).alloc (.map #[] 0)) 77 (.map (some (n0 + 1)))).alloc (.cells #[.slice none 0 0] 34)
    rw [show ((w.alloc (.cells #[.string r.head.rel, .slice o0 r.head.l.length k0, .slice o1 r.body.length k1, .int .i64 r.line] 27)).alloc (.map #[] 0)).heap.size = n0 + 1 + 1 by simp [hn0], hW4] at this
    exact this
  have M4 : MapI Tryd.prog W4 9 3 (n0 + 1) 0 (fun _ => 0) 0 := by
    have := ((mapI_made Tryd.prog (w.alloc (.cells #[.string r.head.rel, .slice o0 r.head.l.length k0, .slice o1 r.body.length k1, .int .i64 r.line] 27)) 9 3).alloc (.cells #[.map (some (n0 + 1))] 77)).alloc (.cells #[.slice none 0 0] 34)
    rw [show (w.alloc (.cells #[.string r.head.rel, .slice o0 r.head.l.length k0, .slice o1 r.body.length k1, .int .i64 r.line] 27)).heap.size = n0 + 1 by simp [hn0], hW4] at this
    exact this
  have mb4 : ∃ o : Obj, W4.heap[n0 + 1]? = some o ∧ o.isCells = false := by
    obtain ⟨D, ⟨es, clock, h1, _⟩, _⟩ := M4
    exact ⟨_, h1, rfl⟩
  rw [hW4]
  have HE := Lib.hid (yeach_in 5 r _ W4 ((HC.out.below (by rw [hn0]; exact hb4)).more (by rw [hn0]; omega)))
  refine ⟨trivial, HE.out.mono ?_⟩
  rintro e W5 ⟨rfl, hW5⟩
  rw [hs4]
  clear hW4
  gi_wp2_with fail
  rw [← hW5]
  have hs5 : W5.heap.size = n0 + 5 := by rw [hW5]; simp; omega
  have hb45 : Below W4.heap.size W4 W5 := by rw [hW5]; exact (Below.refl _ _).alloc (Nat.le_refl _) _
  have hb5 : Below n0 w W5 := hb4.trans (hb45.mono (by omega))
  have bl5 : Boxed W5 (n0 + 1 + 1 + 1) 34 (.slice none 0 0) := (hb45.block _ bl4.lt).trans bl4
  have bm5 : Boxed W5 (n0 + 1 + 1) 77 (.map (some (n0 + 1))) := (hb45.block _ bm4.lt).trans bm4
  have M5 := M4.below hb45 M4.lt
  have mb5 : ∃ o : Obj, W5.heap[n0 + 1]? = some o ∧ o.isCells = false := by
    obtain ⟨D, ⟨es, clock, h1, _⟩, _⟩ := M5
    exact ⟨_, h1, rfl⟩
  have row5 : W5.heap[n0 + 4]? = some (.cells #[.string r.head.rel, .slice o0 r.head.l.length k0, .slice o1 r.body.length k1, .int .i64 r.line] 27 (0, 0)) := by rw [hW5, ← hs4]; exact World.alloc_heap_new W4 _
  have safe : Safe (SV (n0 + 1) (n0 + 1 + 1 + 1)) (veil (n0 + 1 + 1 + 1) W5) W5 := fun p c hp => by
    obtain ⟨h1, h2⟩ := veil_cell hp
    refine ⟨h2, World.block_lt_of_cell? _ _ h2, ?_⟩
    rintro (h3 | h3 | ⟨v, h3, h4⟩)
    · obtain ⟨o, ho, hc⟩ := cells_of_cell h2
      obtain ⟨o', ho', hc'⟩ := mb5
      rw [h3, ho'] at ho
      cases ho
      rw [hc'] at hc
      cases hc
    · exact h1 h3
    · rw [bl5.cell] at h3
      cases h3
      cases h4
  have wf5 : ∀ i, SV (n0 + 1) (n0 + 1 + 1 + 1) W5 i → i < W5.heap.size := by
    rintro i (h3 | h3 | ⟨v, h3, h4⟩)
    · omega
    · omega
    · rw [bl5.cell] at h3
      cases h3
      cases h4
  have hbv : Below n0 w (veil (n0 + 1 + 1 + 1) W5) :=
    ⟨hb5.os, hb5.tape, hb5.output, by unfold veil; simpa using hb5.size, fun i hi => (World.putObj_heap_other (by omega)).trans (hb5.block i hi)⟩
  have hcv : RuC (veil (n0 + 1 + 1 + 1) W5) n0 r [.string r.head.rel, .slice o0 r.head.l.length k0, .slice o1 r.body.length k1, .int .i64 r.line] := by have := HC.out; rw [hn0] at this; exact this.below hbv
  have hBv : CellsAt (veil (n0 + 1 + 1 + 1) W5) ⟨n0 + 4, 0, none⟩ 0 [.string r.head.rel, .slice o0 r.head.l.length k0, .slice o1 r.body.length k1, .int .i64 r.line] := fun j c hj => by
    refine cell_veil ?_ (by rw [addBlock]; show n0 + 4 ≠ _; omega)
    rw [Nat.zero_add]
    exact World.news_of_block row5 j c (by simpa using hj)
  clear hW5 hmm mb4 mb5 M4 bl4 bm4 hb45 HE
  refine wpIn_rangeFunc_ownH rfl (by omega) (gf := 87) (lb := #[.pointer (some ⟨n0 + 4, 0, none⟩)]) rfl trivial (enters_of Tryd.func87 (by kernel_rfl) rfl)
    (yeach_stops 5 (n0 + 4) n0 r [.string r.head.rel, .slice o0 r.head.l.length k0, .slice o1 r.body.length k1, .int .i64 r.line] (veil (n0 + 1 + 1 + 1) W5) W5 (SV (n0 + 1) (n0 + 1 + 1 + 1)) (sv_grow _ _) safe wf5 hBv hcv (G := fun t => t.op = 1 → t.s.size ≤ 281474976710656) hsm) (fun h k => h.trans k) ?hKb (Below.refl _ _) (fun _ => rfl)
    (fun pre W => (∃ v, Boxed W (n0 + 1 + 1 + 1) 34 v ∧ W.ownsRow n0 9 1 v (varsV (pre.map Ne.t)).length ((varsV (pre.map Ne.t)).map Value.string) ∧ True) ∧ Boxed W (n0 + 1 + 1) 77 (.map (some (n0 + 1))) ∧ (∃ c, MapI Tryd.prog W 9 3 (n0 + 1) pre.length (fun s => (cntV (pre.map Ne.t) s : Int)) c) ∧ KO (SV (n0 + 1) (n0 + 1 + 1 + 1)) W5 W ∧ Below n0 w W)
    (fun _ _ _ => False) ?hI (fun _ => fun _ _ _ _ h => h.elim) ⟨⟨_, bl5, World.ownsRow_nil _ _ _ _, trivial⟩, bm5, ⟨0, M5⟩, KO.refl _ _, hb5⟩
    (fun x a' W => ∃ Bx, W.heap[Bx]? = some (.cells x.cs.toArray 43 (0, 0)) ∧ n0 + 5 ≤ Bx ∧ a' = { tmps := #[.agg #[.string r.head.rel, .slice o0 r.head.l.length k0, .slice o1 r.body.length k1, .int .i64 r.line], .pointer (some ⟨n0, 0, none⟩), .slice none 0 0, .pointer (some ⟨n0 + 1 + 1, 0, none⟩), .pointer (some ⟨n0 + 1 + 1 + 1, 0, none⟩), .pointer (some ⟨Bx, 0, none⟩), .map (some (n0 + 1)), .agg #[.string r.head.rel, .slice o0 r.head.l.length k0, .slice o1 r.body.length k1, .int .i64 r.line], .func (.func 87) #[] #[.pointer (some ⟨n0 + 4, 0, none⟩)], .agg x.cs.toArray, undef, undef, undef, undef, undef, undef, undef, undef, undef, undef, undef, undef, undef, undef, undef, undef, undef, undef, undef, undef], defers := [] })
    ?hAx ?assign ?body ?done ?stop
  case hKb => exact fun W l o o' hl ho hc _ => sv_put W l o o' (by omega) ho hc
  case hI =>
    refine OwnFrom.and (Own.from (holdsRow_own n0 (n0 + 1 + 1 + 1) 34 9 1 (fun (pre : List (Ne (veil (n0 + 1 + 1 + 1) W5) n0 (fun t => t.op = 1 → t.s.size ≤ 281474976710656))) => (varsV (pre.map Ne.t)).length) (fun pre => (varsV (pre.map Ne.t)).map Value.string) (fun _ _ => True)) _) (OwnFrom.and (Own.from (boxed_own (n0 + 1 + 1) 77 (fun _ => .map (some (n0 + 1)))) _) ?_)
    rintro pre A B row ⟨⟨c, h1⟩, h2, h3⟩ hg hr
    refine ⟨⟨c, h1.kept hg (fun e => by have := (hr _ e.symm).1; omega)⟩, h2.trans ?_, ownFrom_below (β := Unit) (by rw [hn0]; exact Nat.le_refl _) (by omega) () A B row h3 hg hr⟩
    have hL : n0 + 1 + 1 + 1 < A.heap.size := by have := h2.size; omega
    have hcell : B.cell? ⟨n0 + 1 + 1 + 1, 0, none⟩ = A.cell? ⟨n0 + 1 + 1 + 1, 0, none⟩ := World.cell?_of_block (hg.block _ hL (fun e => by have h := (hr _ e.symm).1; change W5.heap.size ≤ n0 + 1 + 1 + 1 at h; omega))
    refine ⟨hg.size, fun i o ho hc _ => (hg.block i (Array.getElem?_eq_some_iff.1 ho).1 (fun e => ?_)).trans ho, fun i h => .inl (sv_cell hcell i h), fun hw i hi => Nat.lt_of_lt_of_le (hw i (sv_cell hcell i hi)) hg.size⟩
    obtain ⟨_, o', ho', hc'⟩ := hr _ e.symm
    rw [ho] at ho'
    cases ho'
    rw [hc] at hc'
    cases hc'
  case hAx =>
    rintro x a' _ A B row ⟨Bx, h1, h2, h3⟩ hg hr
    refine ⟨Bx, (hg.block Bx (Array.getElem?_eq_some_iff.1 h1).1 (fun e => ?_)).trans h1, h2, h3⟩
    obtain ⟨_, o', ho', hc'⟩ := hr _ e.symm
    rw [h1] at ho'
    cases ho'
    cases hc'
  case assign =>
    rintro lp pre ⟨t', cs', ok', gd'⟩ W K ⟨⟨v, h1, h2, _⟩, h3, ⟨c, h4⟩, h5, h6⟩ hK
    obtain ⟨o', k', rfl, _⟩ := ok'.look
    have hb1 := (Below.refl W.heap.size W).alloc (Nat.le_refl _) (.cells #[.int .i64 t'.op, .string t'.s, .int .i64 t'.n, .slice o' t'.l.length k'] 43)
    have hko := KO.of_below (sv_grow _ _) (h5.wf wf5) hb1
    have HK := Lib.hid (hK _ _ ((KeepsOthers.alloc W _).from _) hko ⟨⟨v, h1.alloc _, h2.alloc _, trivial⟩, h3.alloc _, ⟨c, h4.alloc _⟩, h5.trans hko, h6.trans (hb1.mono (by have := h6.size; omega))⟩ ⟨W.heap.size, World.alloc_heap_new W _, by have := h5.size; omega, rfl⟩)
    clear hK h1 h2 h3 h4 h5 h6 hb1 hko
    simp only [Ne.enc]
    gi_wp2
    exact HK.out
  case body =>
    rintro lp pre ⟨t', cs', ok', gd'⟩ a' W hlp hrec ⟨⟨v, h1, h2, _⟩, h3, ⟨c, h4⟩, h5, h6⟩ ⟨Bx, hrow, hBx, rfl⟩ hlen2
    obtain ⟨o', k', rfl, _, hsz, _⟩ := ok'.look
    have e0 : W.cell? ⟨Bx, 0, none⟩ = some (.int .i64 t'.op) := by unfold World.cell?; rw [hrow]; rfl
    have e1 : W.cell? ⟨Bx, 1, none⟩ = some (.string t'.s) := by unfold World.cell?; rw [hrow]; rfl
    have hBl : Bx < W.heap.size := (Array.getElem?_eq_some_iff.1 hrow).1
    have hm3 := h3.cell
    have hl3 := h3.lt
    have Hm := Lib.hid h4
    by_cases hop : t'.op = 1
    · have hne : ((t'.op : Int) != 1) = false := by simpa using hop
      have hsz' := gd' hop
      have hcl : cntV (pre.map Ne.t) t'.s.data.toList ≤ pre.length := by have := cntV_le (pre.map Ne.t) t'.s.data.toList; rwa [List.length_map] at this
      have hct0 : (0 : Int) ≤ (cntV (pre.map Ne.t) t'.s.data.toList : Int) := by omega
      have hct1 : (cntV (pre.map Ne.t) t'.s.data.toList : Int) ≤ 1000000 := by omega
      have hvM : v.ownBlock ≠ some (n0 + 1) := by
        intro e
        rcases h2.2 with ⟨rfl, _⟩ | ⟨g, cap, cur, rfl, _, hg, _⟩
        · cases e
        · obtain rfl : g = n0 + 1 := by simpa [Value.ownBlock] using e
          obtain ⟨D, ⟨es, clock, hm, _⟩, _⟩ := h4
          rw [hm] at hg
          cases hg
      have hf : updF (fun s => (cntV (pre.map Ne.t) s : Int)) t'.s.data.toList ((cntV (pre.map Ne.t) t'.s.data.toList : Int) + 1) = fun s => (cntV (pre.map Ne.t ++ [t']) s : Int) := by
        funext s
        rw [cntV_snoc]
        by_cases e : s = t'.s.data.toList
        · subst e; rw [updF_same, if_pos ⟨hop, rfl⟩]; omega
        · rw [updF_other _ _ e, if_neg (fun h => e h.2.symm)]; omega
      have zE : ∀ w : World, (zeroValue 3).run Tryd.prog w = .ok (.int .i64 0) w := fun w => by kernel_rfl
      have H1 := Lib.hid h1
      have H2 := Lib.hid h2
      have H3 := Lib.hid h3
      have H5 := Lib.hid h5
      have H6 := Lib.hid h6
      have Hrow := Lib.hid hrow
      have HvM := Lib.hid hvM
      have Hf := Lib.hid hf
      clear h1 h2 h3 h4 h5 h6 hrow hvM hf
      by_cases hz0 : cntV (pre.map Ne.t) t'.s.data.toList = 0
      · have hq : (((cntV (pre.map Ne.t) t'.s.data.toList : Nat) : Int) + 1 == 1) = true := by rw [hz0]; rfl
        have Hz0 := Lib.hid hz0
        clear hz0
        gi_wp2_with (first
          | (gi_at_lookup; refine wpListIn_mapI_get _ rfl _ _ 77 rfl 9 3 Tryd.underlying77 Tryd.underlying9 Tryd.underlying3 (zE _) (n0 + 1) pre.length (fun s => (cntV (pre.map Ne.t) s : Int)) c rfl Hm.out t'.s rfl hsz ?_; intro _)
          | (gi_at_mapUpdate; refine wpListIn_mapI_put _ rfl _ _ _ 77 rfl 9 3 Tryd.underlying77 Tryd.underlying9 Tryd.underlying3 (n0 + 1) pre.length (fun s => (cntV (pre.map Ne.t) s : Int)) c rfl Hm.out (by unfold maxLen; omega) t'.s ((cntV (pre.map Ne.t) t'.s.data.toList : Int) + 1) rfl rfl hsz (by omega) (WalkArith.wf_i64 (by omega)) ?_; intro w1 hM hg; rw [Hf.out] at hM; have hM1 := Lib.hid hM; have hg1 := Lib.hid hg; have m3' : w1.cell? ⟨n0 + 1 + 1, 0, none⟩ = some (.map (some (n0 + 1))) := (H3.out.kept hg (fun e => by have := Option.some.inj e; omega)).cell; have e1' : w1.cell? ⟨Bx, 1, none⟩ = some (.string t'.s) := (World.cell?_of_block (hg.block Bx hBl (fun e => by have := Option.some.inj e; omega))).trans e1; have hl3' : n0 + 1 + 1 < w1.heap.size := Nat.lt_of_lt_of_le hl3 hg.size; have hBl' : Bx < w1.heap.size := Nat.lt_of_lt_of_le hBl hg.size; clear hM hg)
          | (gi_at_lookup; refine wpListIn_mapI_get _ rfl _ _ 77 rfl 9 3 Tryd.underlying77 Tryd.underlying9 Tryd.underlying3 (zE _) (n0 + 1) (pre.length + 1) (fun s => (cntV (pre.map Ne.t ++ [t']) s : Int)) _ rfl hM1.out t'.s rfl hsz ?_; intro _; rw [show ((cntV (pre.map Ne.t ++ [t']) t'.s.data.toList : Nat) : Int) = (cntV (pre.map Ne.t) t'.s.data.toList : Int) + 1 from (congrFun Hf.out t'.s.data.toList).symm.trans (updF_same _ _ _)]))
        have W1 : W.grownBy w1 (some (n0 + 1)) := hg1.out
        have B1 : Boxed w1 (n0 + 1 + 1 + 1) 34 v := H1.out.kept W1 (fun e => by have := Option.some.inj e; omega)
        have O1 := H2.out.kept W1 (.inr HvM.out)
        have K1 : KO (SV (n0 + 1) (n0 + 1 + 1 + 1)) W w1 := sv_step (v := v) (v' := v) W1.size (fun i hi h1 _ _ => W1.block i hi (fun e => h1 (Option.some.inj e))) H1.out.cell B1.cell (.inl rfl)
        have D1 : Below n0 w w1 := H6.out.grown W1 (by have := H6.out.size; omega) (fun k e => by have := Option.some.inj e; omega)
        have F1 : KeepsFrom (n0 + 5) W w1 := KeepsFrom.of_grownBy W1 (fun j e => by have := Option.some.inj e; omega)
        have M1 : Boxed w1 (n0 + 1 + 1) 77 (.map (some (n0 + 1))) := H3.out.kept W1 (fun e => by have := Option.some.inj e; omega)
        have hL1 : (varsV (pre.map Ne.t)).length ≤ 1000000 := by have := varsV_len (pre.map Ne.t); rw [List.length_map] at this; omega
        have nL : v.ownBlock ≠ some (n0 + 1 + 1 + 1) := by
          intro e
          rcases H2.out.2 with ⟨rfl, _⟩ | ⟨g, cap, cur, rfl, _, hg, _⟩
          · cases e
          · obtain rfl : g = n0 + 1 + 1 + 1 := by simpa [Value.ownBlock] using e
            have h := H1.out
            unfold Boxed at h
            rw [hg] at h
            cases h
        have nB : v.ownBlock ≠ some Bx := by
          intro e
          rcases H2.out.2 with ⟨rfl, _⟩ | ⟨g, cap, cur, rfl, _, hg, _⟩
          · cases e
          · obtain rfl : g = Bx := by simpa [Value.ownBlock] using e
            have h := Hrow.out
            rw [hg] at h
            cases h
        have hst : varsV (pre.map Ne.t ++ [t']) = varsV (pre.map Ne.t) ++ [t'.s] := by rw [varsV_snoc]; unfold stepV; rw [if_pos ⟨hop, Hz0.out⟩]
        have n0w : n0 ≤ w1.heap.size := by have := D1.size; omega
        refine any_region (by kernel_rfl) (by kernel_rfl) (fun ⟨_, _, h⟩ => h) ?_
        refine flow8' (n0 + 1 + 1 + 1) Bx n0 v (varsV (pre.map Ne.t)).length ((varsV (pre.map Ne.t)).map Value.string) t'.s ?_ rfl (by kernel_rfl) (by kernel_rfl) (by kernel_rfl) ?_ ?_
        · exact ⟨by simp, rfl, rfl, B1, e1', O1, nL, nB, by show Bx ≠ n0 + 1 + 1 + 1; omega, hsz', n0w, hL1⟩
        · exact ⟨st8_0 rfl, st8_1 rfl, st8_2 rfl (by kernel_rfl), st8_3 rfl (by kernel_rfl), st8_4 rfl (by kernel_rfl), st8_5 rfl (by kernel_rfl), st8_6 rfl (by kernel_rfl), trivial⟩
        · intro a2 w2 v2 g1 g2 g3 g4 g5 g6 g7 g8
          replace g4 : w1.heap.size ≤ w2.heap.size := g4
          replace g5 : ∀ i, i < w1.heap.size → some i ≠ v.ownBlock → i ≠ n0 + 1 + 1 + 1 → w2.heap[i]? = w1.heap[i]? := g5
          replace g7 : v2.ownBlock = v.ownBlock ∨ ∃ g, v2.ownBlock = some g ∧ w1.heap.size ≤ g := g7
          have D2 : Below n0 w1 w2 := ⟨g1, g2, g3, g4, fun i hi => g5 i (by omega) (fun e => by have := (O1.lt i e.symm).1; omega) (by omega)⟩
          have K2 : KO (SV (n0 + 1) (n0 + 1 + 1 + 1)) w1 w2 := sv_step g4 (fun i hi _ h2 h3 => g5 i hi h3 h2) B1.cell g8.cell (g7.imp id fun ⟨g, h1, h2⟩ => ⟨g, h1, h2, (g6.lt g h1).2⟩)
          have F2 : KeepsFrom (n0 + 5) w1 w2 := by
            refine ⟨g4, fun i o hi ho hc => (g5 i (Array.getElem?_eq_some_iff.1 ho).1 (fun e => ?_) (by omega)).trans ho⟩
            rcases O1.2 with ⟨rfl, _⟩ | ⟨g, cap, cur, rfl, _, hg, _⟩
            · cases e
            · obtain rfl : i = g := by simpa [Value.ownBlock] using e
              rw [hg] at ho
              cases ho
              cases hc
          have M2 : Boxed w2 (n0 + 1 + 1) 77 (.map (some (n0 + 1))) := (g5 _ (by omega) (fun e => by
            rcases O1.2 with ⟨rfl, _⟩ | ⟨g, cap, cur, rfl, _, hg, _⟩
            · cases e
            · obtain rfl : n0 + 1 + 1 = g := by simpa [Value.ownBlock] using e
              have h := M1
              unfold Boxed at h
              rw [hg] at h
              cases h) (by omega)).trans M1
          have N2 : w2.heap[n0 + 1]? = w1.heap[n0 + 1]? := g5 _ (by omega) (fun e => HvM.out e.symm) (by omega)
          have F3 : KeepsFrom W5.heap.size W w2 := by rw [hs5]; exact F1.trans F2
          refine ⟨F3, K1.trans K2, ?_⟩
          simp only [List.map_append, List.map_cons, List.map_nil, List.length_append, List.length_cons, List.length_nil, hst]
          exact ⟨⟨v2, g8, g6, trivial⟩, M2, ⟨_, mapI_block hM1.out N2⟩, (H5.out.trans K1).trans K2, D1.trans D2⟩
      · have hq : (((cntV (pre.map Ne.t) t'.s.data.toList : Nat) : Int) + 1 == 1) = false := by
          rw [beq_eq_false_iff_ne]
          omega
        gi_wp2_with (first
          | (gi_at_lookup; refine wpListIn_mapI_get _ rfl _ _ 77 rfl 9 3 Tryd.underlying77 Tryd.underlying9 Tryd.underlying3 (zE _) (n0 + 1) pre.length (fun s => (cntV (pre.map Ne.t) s : Int)) c rfl Hm.out t'.s rfl hsz ?_; intro _)
          | (gi_at_mapUpdate; refine wpListIn_mapI_put _ rfl _ _ _ 77 rfl 9 3 Tryd.underlying77 Tryd.underlying9 Tryd.underlying3 (n0 + 1) pre.length (fun s => (cntV (pre.map Ne.t) s : Int)) c rfl Hm.out (by unfold maxLen; omega) t'.s ((cntV (pre.map Ne.t) t'.s.data.toList : Int) + 1) rfl rfl hsz (by omega) (WalkArith.wf_i64 (by omega)) ?_; intro w1 hM hg; rw [Hf.out] at hM; have hM1 := Lib.hid hM; have hg1 := Lib.hid hg; have m3' : w1.cell? ⟨n0 + 1 + 1, 0, none⟩ = some (.map (some (n0 + 1))) := (H3.out.kept hg (fun e => by have := Option.some.inj e; omega)).cell; have e1' : w1.cell? ⟨Bx, 1, none⟩ = some (.string t'.s) := (World.cell?_of_block (hg.block Bx hBl (fun e => by have := Option.some.inj e; omega))).trans e1; have hl3' : n0 + 1 + 1 < w1.heap.size := Nat.lt_of_lt_of_le hl3 hg.size; have hBl' : Bx < w1.heap.size := Nat.lt_of_lt_of_le hBl hg.size; clear hM hg)
          | (gi_at_lookup; refine wpListIn_mapI_get _ rfl _ _ 77 rfl 9 3 Tryd.underlying77 Tryd.underlying9 Tryd.underlying3 (zE _) (n0 + 1) (pre.length + 1) (fun s => (cntV (pre.map Ne.t ++ [t']) s : Int)) _ rfl hM1.out t'.s rfl hsz ?_; intro _; rw [show ((cntV (pre.map Ne.t ++ [t']) t'.s.data.toList : Nat) : Int) = (cntV (pre.map Ne.t) t'.s.data.toList : Int) + 1 from (congrFun Hf.out t'.s.data.toList).symm.trans (updF_same _ _ _)]))
        have W1 : W.grownBy w1 (some (n0 + 1)) := hg1.out
        have B1 : Boxed w1 (n0 + 1 + 1 + 1) 34 v := H1.out.kept W1 (fun e => by have := Option.some.inj e; omega)
        have O1 := H2.out.kept W1 (.inr HvM.out)
        have K1 : KO (SV (n0 + 1) (n0 + 1 + 1 + 1)) W w1 := sv_step (v := v) (v' := v) W1.size (fun i hi h1 _ _ => W1.block i hi (fun e => h1 (Option.some.inj e))) H1.out.cell B1.cell (.inl rfl)
        have D1 : Below n0 w w1 := H6.out.grown W1 (by have := H6.out.size; omega) (fun k e => by have := Option.some.inj e; omega)
        have F1 : KeepsFrom (n0 + 5) W w1 := KeepsFrom.of_grownBy W1 (fun j e => by have := Option.some.inj e; omega)
        have M1 : Boxed w1 (n0 + 1 + 1) 77 (.map (some (n0 + 1))) := H3.out.kept W1 (fun e => by have := Option.some.inj e; omega)
        have hst : varsV (pre.map Ne.t ++ [t']) = varsV (pre.map Ne.t) := by rw [varsV_snoc]; unfold stepV; rw [if_neg (fun h => hz0 h.2)]
        refine ⟨F1, K1, ?_⟩
        simp only [List.map_append, List.map_cons, List.map_nil, List.length_append, hst]
        exact ⟨⟨v, B1, O1⟩, M1, ⟨_, hM1.out⟩, H5.out.trans K1, D1⟩
    · have hne : ((t'.op : Int) != 1) = true := by simpa using hop
      have hst : varsV (pre.map Ne.t ++ [t']) = varsV (pre.map Ne.t) := by rw [varsV_snoc]; unfold stepV; rw [if_neg (fun h => hop h.1)]
      have hct : ∀ s, cntV (pre.map Ne.t ++ [t']) s = cntV (pre.map Ne.t) s := fun s => by rw [cntV_snoc, if_neg (fun h => hop h.1), Nat.add_zero]
      have H1 := Lib.hid h1
      have H2 := Lib.hid h2
      have H3 := Lib.hid h3
      have H5 := Lib.hid h5
      have H6 := Lib.hid h6
      clear h1 h2 h3 h4 h5 h6
      gi_wp2
      refine ⟨KeepsFrom.refl _ _, KO.refl _ _, ?_⟩
      simp only [List.map_append, List.map_cons, List.map_nil, List.length_append, hst, hct]
      exact ⟨⟨v, H1.out, H2.out⟩, H3.out, ⟨c, Hm.out.mono (Nat.le_succ _)⟩, H5.out, H6.out⟩
  case done =>
    rintro D ys W hD hys ⟨⟨v, h1, h2, _⟩, h3, ⟨c, h4⟩, h5, h6⟩ hK
    rw [hys] at h2
    have hDl : D < W.heap.size := (Array.getElem?_eq_some_iff.1 hK).1
    have hm3 := h1.cell
    have hne : n0 + 1 + 1 + 1 ≠ D := by omega
    have Hd := Lib.hid hK
    have H2 := Lib.hid h2
    have H6 := Lib.hid h6
    clear h1 h2 h3 h4 h5 h6 hK
    gi_wp2
    refine ⟨by simp, .inl ⟨_, _, rfl, run_takeDeferred Hd.out, ?_⟩⟩
    refine ⟨_, results_tmp rfl _ _ _, v, rfl, ?_, ?_⟩
    · rw [hn0]
      refine H2.out.kept (⟨rfl, rfl, rfl, by simp, fun i hi he => World.putObj_heap_other (fun e => he (by rw [e]))⟩ : W.grownBy (W.putObj D (.deferred none)) (some D)) (.inr fun e => ?_)
      rcases H2.out.2 with ⟨rfl, _⟩ | ⟨g, cap, cur, rfl, _, hg, _⟩
      · cases e
      · obtain rfl : g = D := by simpa [Value.ownBlock] using e
        have h := Hd.out
        rw [hg] at h
        cases h
    · rw [hn0]
      have D6 := H6.out
      exact ⟨D6.os, D6.tape, D6.output, by simpa using D6.size, fun i hi => (World.putObj_heap_other (by omega)).trans (D6.block i hi)⟩
  case stop => exact fun _ _ _ _ _ _ h => h.elim
end Go.Proofs.YtfcfehflocglpaaDoor
namespace Go.Proofs.YtfcfehflocglpaaDoor
open Go.RowKit

theorem sub_mem {u : Tm} : ∀ {l : List Tm}, u ∈ l → u ∈ subTs l
  | t :: l, h => by
    unfold subTs
    rcases List.mem_cons.1 h with rfl | h
    · exact List.mem_append_left _ (by rw [subT_eq]; exact List.mem_cons_self ..)
    · exact List.mem_append_right _ (sub_mem h)
mutual
theorem subT_child (u : Tm) : ∀ (t s : Tm), s ∈ subT t → u ∈ s.l → u ∈ subT t
  | .mk o b n l, s, hs, hu => by
    unfold subT at hs ⊢
    rcases List.mem_cons.1 hs with rfl | hs
    · exact List.mem_cons_of_mem _ (sub_mem hu)
    · exact List.mem_cons_of_mem _ (subTs_child u l s hs hu)
theorem subTs_child (u : Tm) : ∀ (l : List Tm) (s : Tm), s ∈ subTs l → u ∈ s.l → u ∈ subTs l
  | [], s, hs, _ => by unfold subTs at hs; cases hs
  | t :: l, s, hs, hu => by
    unfold subTs at hs ⊢
    rcases List.mem_append.1 hs with hs | hs
    · exact List.mem_append_left _ (subT_child u t s hs hu)
    · exact List.mem_append_right _ (subTs_child u l s hs hu)
end
theorem lit_terms {r : Ru} {l : Lt} (h : l ∈ r.body) {u : Tm} (hu : u ∈ litTs l) : u ∈ termsR r := List.mem_append_right _ (List.mem_flatMap.2 ⟨l, h, hu⟩)
theorem terms_child {r : Ru} {t u : Tm} (ht : t ∈ termsR r) (hu : u ∈ t.l) : u ∈ termsR r := by
  rcases List.mem_append.1 ht with ht | ht
  · exact List.mem_append_left _ (subTs_child u _ t ht hu)
  · obtain ⟨l, hl, ht⟩ := List.mem_flatMap.1 ht
    refine lit_terms hl ?_
    unfold litTs at ht ⊢
    rcases List.mem_append.1 ht with ht | ht
    · exact List.mem_append_left _ (subTs_child u _ t ht hu)
    · exact List.mem_append_right _ (subTs_child u _ t ht hu)
theorem terms_xy {r : Ru} {l : Lt} (h : l ∈ r.body) : l.x ∈ termsR r ∧ l.y ∈ termsR r :=
  ⟨lit_terms h (List.mem_append_left _ (sub_mem (List.mem_cons_self ..))), lit_terms h (List.mem_append_left _ (sub_mem (List.mem_cons_of_mem _ (List.mem_cons_self ..))))⟩
theorem atomsL_mem {t : Am} : ∀ {l : List Lt}, t ∈ atomsL l → ∃ x ∈ l, x.a = t
  | x :: l, h => by
    unfold atomsL at h
    split at h
    · obtain ⟨y, hy, e⟩ := atomsL_mem h
      exact ⟨y, List.mem_cons_of_mem _ hy, e⟩
    · rcases List.mem_cons.1 h with rfl | h
      · exact ⟨x, List.mem_cons_self .., rfl⟩
      · obtain ⟨y, hy, e⟩ := atomsL_mem h
        exact ⟨y, List.mem_cons_of_mem _ hy, e⟩
theorem terms_atom {r : Ru} {t : Am} (ht : t ∈ atomsR r) {u : Tm} (hu : u ∈ t.l) : u ∈ termsR r := by
  rcases List.mem_cons.1 ht with rfl | ht
  · exact List.mem_append_left _ (sub_mem hu)
  · obtain ⟨l, hl, rfl⟩ := atomsL_mem ht
    exact lit_terms hl (List.mem_append_right _ (sub_mem hu))

theorem varsOf_c (r : Ru) (cs : List Value) (w : World) (hc : RuC w w.heap.size r cs) (hsm : ∀ t ∈ termsR r, t.op = 1 → t.s.size ≤ 281474976710656) (hlen : (termsR r).length ≤ 1000000) :
    Calls Tryd.prog 36 #[.agg cs.toArray] w fun e w' => ∃ v, e = .returned v ∧ w'.ownsRow w.heap.size 9 1 v (varsV (termsR r)).length ((varsV (termsR r)).map Value.string) ∧ Below w.heap.size w w' := callsIn_wide.1 (varsOf_in r cs w hc hsm hlen)
/-- The search for types, of a rule whose terms are short and few, against relations with types. -/
theorem typesOf_all (ds : List De) (v : Value) (r : Ru) (cs : List Value) (a b' c d : Addr) (n0 : Nat) (w : World) (hn0 : w.heap.size = n0) (hd : SlOf w n0 6 (DeC w n0) ds v) (hc : RuC w n0 r cs)
    (hlen : (termsR r).length ≤ 1000000) (hS : ∀ t ∈ termsR r, t.s.size ≤ maxLen) (hty : ∀ e ∈ ds, ∀ k ∈ e.types, k = 1 ∨ k = 2) (E : YEnv n0 a b' c d w) :
    Calls Tryd.prog 42 #[v, .agg cs.toArray] w (TypR ((termsR r).map nm) n0 w a c d ds r) :=
  typesOf_c ds v r cs _ (by rw [List.length_map]; exact hlen) a b' c d n0 w hn0 hd hc (fun _ ht _ hu _ => List.mem_map.2 ⟨_, terms_atom ht hu, rfl⟩)
    (fun _ hl => ⟨fun _ => List.mem_map.2 ⟨_, (terms_xy hl).1, rfl⟩, fun _ => List.mem_map.2 ⟨_, (terms_xy hl).2, rfl⟩⟩) (fun _ ht _ hu _ => List.mem_map.2 ⟨_, terms_child ht hu, rfl⟩) hS hty E
end Go.Proofs.YtfcfehflocglpaaDoor
namespace Go.Proofs.YtfcfehflocglpaaDoor
open Go.RowKit

/-! ### The variables -/
theorem cntV_zero {ts : List Tm} {s : List UInt8} : cntV ts s = 0 ↔ ∀ t ∈ ts, t.op = 1 → nm t ≠ s := by
  induction ts with
  | nil => simp [cntV]
  | cons t ts ih =>
    unfold cntV
    by_cases h : t.op = 1 ∧ nm t = s
    · rw [if_pos h]
      exact ⟨fun e => by omega, fun e => absurd h.2 (e t (List.mem_cons_self ..) h.1)⟩
    · rw [if_neg h, Nat.add_zero, ih]
      refine ⟨fun e x hx h1 => ?_, fun e x hx => e x (List.mem_cons_of_mem _ hx)⟩
      rcases List.mem_cons.1 hx with rfl | hx
      · exact fun h2 => h ⟨h1, h2⟩
      · exact e x hx h1
theorem bytes_ext {s t : ByteArray} (h : s.data.toList = t.data.toList) : s = t := by
  cases s; cases t; congr 1; exact Array.toList_inj.1 h
theorem rev_ind {α : Type} {P : List α → Prop} (h0 : P []) (h1 : ∀ l x, P l → P (l ++ [x])) (l : List α) : P l := by
  have : ∀ m : List α, P m.reverse := by
    intro m
    induction m with
    | nil => exact h0
    | cons x m ih => rw [List.reverse_cons]; exact h1 _ _ ih
  rw [← List.reverse_reverse l]
  exact this _
theorem mem_varsV (ts : List Tm) : ∀ s : ByteArray, s ∈ varsV ts ↔ ∃ t ∈ ts, t.op = 1 ∧ t.s = s := by
  refine rev_ind (P := fun ts => ∀ s : ByteArray, s ∈ varsV ts ↔ ∃ t ∈ ts, t.op = 1 ∧ t.s = s) (fun s => ?_) (fun l t ih s => ?_) ts
  · exact ⟨fun h => (by cases h), fun ⟨t, h, _⟩ => by cases h⟩
  · rw [varsV_snoc]
    unfold stepV
    by_cases h : t.op = 1 ∧ cntV l (nm t) = 0
    · rw [if_pos h, List.mem_append, ih, List.mem_singleton]
      refine ⟨?_, ?_⟩
      · rintro (⟨u, h1, h2⟩ | rfl)
        · exact ⟨u, List.mem_append_left _ h1, h2⟩
        · exact ⟨t, List.mem_append_right _ (List.mem_cons_self ..), h.1, rfl⟩
      · rintro ⟨u, h1, h2, h3⟩
        rcases List.mem_append.1 h1 with h1 | h1
        · exact .inl ⟨u, h1, h2, h3⟩
        · rw [List.mem_singleton.1 h1] at h3; exact .inr h3.symm
    · rw [if_neg h, ih]
      refine ⟨fun ⟨u, h1, h2⟩ => ⟨u, List.mem_append_left _ h1, h2⟩, ?_⟩
      rintro ⟨u, h1, h2, h3⟩
      rcases List.mem_append.1 h1 with h1 | h1
      · exact ⟨u, h1, h2, h3⟩
      · have e := List.mem_singleton.1 h1
        subst e
        have hc : ¬ cntV l (nm u) = 0 := fun hz => h ⟨h2, hz⟩
        rw [cntV_zero] at hc
        have : ∃ x ∈ l, x.op = 1 ∧ nm x = nm u := by
          refine Classical.byContradiction fun hn => hc fun x hx h1 h2 => hn ⟨x, hx, h1, h2⟩
        obtain ⟨x, hx, x1, x2⟩ := this
        exact ⟨x, hx, x1, (bytes_ext x2).trans h3⟩
theorem nodup_varsV (ts : List Tm) : (varsV ts).Nodup := by
  refine rev_ind (P := fun ts => (varsV ts).Nodup) List.nodup_nil (fun l t ih => ?_) ts
  rw [varsV_snoc]
  unfold stepV
  by_cases h : t.op = 1 ∧ cntV l (nm t) = 0
  · rw [if_pos h]
    refine List.nodup_append.2 ⟨ih, by simp, ?_⟩
    rintro a ha b hb rfl
    rw [List.mem_singleton] at hb
    subst hb
    obtain ⟨u, h1, h2, h3⟩ := (mem_varsV l _).1 ha
    exact cntV_zero.1 h.2 u h1 h2 (by unfold nm; rw [h3])
  · rw [if_neg h]; exact ih
theorem nodup_sub' : ∀ {l m : List ByteArray}, l.Nodup → (∀ x ∈ l, x ∈ m) → l.length ≤ m.length
  | [], _, _, _ => Nat.zero_le _
  | x :: l, m, hn, hs => by
    obtain ⟨m1, m2, rfl⟩ := List.append_of_mem (hs x (List.mem_cons_self ..))
    have hn' := List.nodup_cons.1 hn
    have := nodup_sub' (m := m1 ++ m2) hn'.2 (fun y hy => by
      have := hs y (List.mem_cons_of_mem _ hy)
      rcases List.mem_append.1 this with h | h
      · exact List.mem_append_left _ h
      · rcases List.mem_cons.1 h with rfl | h
        · exact absurd hy hn'.1
        · exact List.mem_append_right _ h)
    simp only [List.length_append, List.length_cons] at this ⊢
    omega
theorem vars_len {a b : List Tm} (h : ∀ t, t ∈ a ↔ t ∈ b) : (varsV a).length = (varsV b).length := by
  refine Nat.le_antisymm (nodup_sub' (nodup_varsV _) fun s hs => ?_) (nodup_sub' (nodup_varsV _) fun s hs => ?_)
  · obtain ⟨t, h1, h2⟩ := (mem_varsV _ _).1 hs; exact (mem_varsV _ _).2 ⟨t, (h t).1 h1, h2⟩
  · obtain ⟨t, h1, h2⟩ := (mem_varsV _ _).1 hs; exact (mem_varsV _ _).2 ⟨t, (h t).2 h1, h2⟩

/-! ### Rules with fewer parts -/
structure Sub (r r' : Ru) : Prop where
  head : r.head = r'.head
  body : ∀ l ∈ r.body, l ∈ r'.body
theorem mem_atomsL {t : Am} {l : List Lt} : t ∈ atomsL l ↔ ∃ x ∈ l, duoB x = false ∧ x.a = t := by
  induction l with
  | nil => exact ⟨fun h => (by cases h), fun ⟨_, h, _⟩ => by cases h⟩
  | cons y l ih =>
    unfold atomsL
    cases hd : duoB y with
    | true =>
      simp only [if_true]
      rw [ih]
      refine ⟨fun ⟨x, h1, h2⟩ => ⟨x, List.mem_cons_of_mem _ h1, h2⟩, fun ⟨x, h1, h2, h3⟩ => ?_⟩
      rcases List.mem_cons.1 h1 with rfl | h1
      · rw [hd] at h2; cases h2
      · exact ⟨x, h1, h2, h3⟩
    | false =>
      simp only [Bool.false_eq_true, if_false]
      rw [List.mem_cons, ih]
      refine ⟨?_, fun ⟨x, h1, h2, h3⟩ => ?_⟩
      · rintro (rfl | ⟨x, h1, h2⟩)
        · exact ⟨y, List.mem_cons_self .., hd, rfl⟩
        · exact ⟨x, List.mem_cons_of_mem _ h1, h2⟩
      · rcases List.mem_cons.1 h1 with rfl | h1
        · exact .inl h3.symm
        · exact .inr ⟨x, h1, h2, h3⟩
theorem mem_prsL {p : Tm × Tm} {l : List Lt} : p ∈ prsL l ↔ ∃ x ∈ l, duoB x = true ∧ (x.x, x.y) = p := by
  induction l with
  | nil => exact ⟨fun h => (by cases h), fun ⟨_, h, _⟩ => by cases h⟩
  | cons y l ih =>
    unfold prsL
    cases hd : duoB y with
    | false =>
      simp only [Bool.false_eq_true, if_false]
      rw [ih]
      refine ⟨fun ⟨x, h1, h2⟩ => ⟨x, List.mem_cons_of_mem _ h1, h2⟩, fun ⟨x, h1, h2, h3⟩ => ?_⟩
      rcases List.mem_cons.1 h1 with rfl | h1
      · rw [hd] at h2; cases h2
      · exact ⟨x, h1, h2, h3⟩
    | true =>
      simp only [if_true]
      rw [List.mem_cons, ih]
      refine ⟨?_, fun ⟨x, h1, h2, h3⟩ => ?_⟩
      · rintro (rfl | ⟨x, h1, h2⟩)
        · exact ⟨y, List.mem_cons_self .., hd, rfl⟩
        · exact ⟨x, List.mem_cons_of_mem _ h1, h2⟩
      · rcases List.mem_cons.1 h1 with rfl | h1
        · exact .inl h3.symm
        · exact .inr ⟨x, h1, h2, h3⟩
theorem Sub.atoms {r r' : Ru} (h : Sub r r') : ∀ t ∈ atomsR r, t ∈ atomsR r' := fun t ht => by
  rcases List.mem_cons.1 ht with rfl | ht
  · rw [h.head]; exact List.mem_cons_self ..
  · obtain ⟨x, h1, h2⟩ := mem_atomsL.1 ht
    exact List.mem_cons_of_mem _ (mem_atomsL.2 ⟨x, h.body x h1, h2⟩)
theorem Sub.prs {r r' : Ru} (h : Sub r r') : ∀ t ∈ prsL r.body, t ∈ prsL r'.body := fun t ht => by
  obtain ⟨x, h1, h2⟩ := mem_prsL.1 ht
  exact mem_prsL.2 ⟨x, h.body x h1, h2⟩
theorem Sub.terms {r r' : Ru} (h : Sub r r') : ∀ t ∈ termsR r, t ∈ termsR r' := fun t ht => by
  rcases List.mem_append.1 ht with ht | ht
  · rw [h.head] at ht; exact List.mem_append_left _ ht
  · obtain ⟨l, h1, h2⟩ := List.mem_flatMap.1 ht
    exact List.mem_append_right _ (List.mem_flatMap.2 ⟨l, h.body l h1, h2⟩)
theorem mem_nums {l m : List Tm} (h : ∀ t ∈ l, t ∈ m) : ∀ x ∈ nums l, x ∈ nums m := fun x hx => by
  unfold nums at hx ⊢
  obtain ⟨t, h1, h2⟩ := List.mem_map.1 hx
  exact List.mem_map.2 ⟨t, h t h1, h2⟩
theorem Sub.base {r r' : Ru} (h : Sub r r') (ds : List De) : ∀ t ∈ baseL ds r, t ∈ baseL ds r' := fun t ht => by
  unfold baseL at ht ⊢
  rcases List.mem_append.1 ht with ht | ht
  · obtain ⟨a, h1, h2⟩ := List.mem_flatMap.1 ht
    exact List.mem_append_left _ (List.mem_flatMap.2 ⟨a, h.atoms a h1, h2⟩)
  · refine List.mem_append_right _ ?_
    rcases List.mem_append.1 ht with ht | ht
    · refine List.mem_append_left _ (mem_nums (fun u hu => ?_) t ht)
      obtain ⟨l, h1, h2⟩ := List.mem_flatMap.1 hu
      exact List.mem_flatMap.2 ⟨l, h.body l h1, h2⟩
    · refine List.mem_append_right _ (mem_nums (fun u hu => ?_) t ht)
      obtain ⟨l, h1, h2⟩ := List.mem_flatMap.1 hu
      exact List.mem_flatMap.2 ⟨l, h.terms l h1, h2⟩
theorem chkA_iff {ds : List De} {l : List Am} : chkA ds l = 0 ↔ ∀ t ∈ l, badA ds t = 0 := by
  refine ⟨fun h => ?_, chkA_all⟩
  induction l with
  | nil => intro t ht; cases ht
  | cons x l ih =>
    unfold chkA at h
    by_cases hx : badA ds x = 0
    · rw [if_pos hx] at h
      intro t ht
      rcases List.mem_cons.1 ht with rfl | ht
      · exact hx
      · exact ih h t ht
    · rw [if_neg hx] at h; exact absurd h hx
theorem Sub.chk {r r' : Ru} (h : Sub r r') {ds : List De} (hc : chkA ds (atomsR r') = 0) : chkA ds (atomsR r) = 0 := chkA_iff.2 fun t ht => chkA_iff.1 hc t (h.atoms t ht)

/-! ### What Types answers -/
abbrev DerR (ds : List De) (r : Ru) : List UInt8 → Int → Prop := Der (baseL ds r) (prsL r.body)
def Fits (ds : List De) (r : Ru) : Prop := NoConf (baseL ds r) (prsL r.body) ∧ ∀ t ∈ termsR r, t.op = 1 → ∃ k, k ≠ 0 ∧ DerR ds r (nm t) k
def atE : Nat → Int
  | 0 => 0
  | 1 => 51
  | _ => 52
theorem atE_ne {n : Nat} (h : n ≠ 0) : atE n = 51 ∨ atE n = 52 := by
  cases n with
  | zero => exact absurd rfl h
  | succ n => cases n with
    | zero => exact .inl rfl
    | succ n => exact .inr rfl
inductive TyA (ds : List De) (r : Ru) : List Int → Int → Prop
  | tree : rightP ⟨ds, [r]⟩ = false → TyA ds r [] 30
  | atom : rightP ⟨ds, [r]⟩ = true → chkA ds (atomsR r) ≠ 0 → TyA ds r [] (atE (chkA ds (atomsR r)))
  | none : rightP ⟨ds, [r]⟩ = true → chkA ds (atomsR r) = 0 → ¬ Fits ds r → TyA ds r [] 53
  | some {K : Kn} : rightP ⟨ds, [r]⟩ = true → chkA ds (atomsR r) = 0 → Fits ds r → (∀ s k, k ≠ 0 → (look K s = k ↔ DerR ds r s k)) → (∀ s, look K s = 0 ∨ look K s = 1 ∨ look K s = 2) → TyA ds r ((varsV (termsR r)).map fun s => look K s.data.toList) 0
theorem rightTy_or {n : Int} (h : rightTy n = true) : n = 1 ∨ n = 2 := by
  unfold rightTy at h
  simpa using h
theorem right_types {ds : List De} {l : List Ru} (h : rightP ⟨ds, l⟩ = true) : ∀ e ∈ ds, ∀ k ∈ e.types, k = 1 ∨ k = 2 := by
  intro e he k hk
  unfold rightP at h
  simp only [Bool.and_eq_true, List.all_eq_true] at h
  have := h.1.2 e he
  unfold rightD at this
  simp only [Bool.and_eq_true, List.all_eq_true] at this
  exact rightTy_or (this.2 k hk)
theorem base_ne {ds : List De} {r : Ru} (hty : ∀ e ∈ ds, ∀ k ∈ e.types, k = 1 ∨ k = 2) : ∀ x ∈ baseL ds r, x.2 ≠ 0 := fun x hx => by
  have one : ∀ l : List Tm, x ∈ nums l → x.2 ≠ 0 := fun l h => by
    unfold nums at h
    obtain ⟨t, _, rfl⟩ := List.mem_map.1 h
    show (1 : Int) ≠ 0
    decide
  unfold baseL at hx
  rcases List.mem_append.1 hx with hx | hx
  · obtain ⟨a, _, h2⟩ := List.mem_flatMap.1 hx
    unfold plc at h2
    split at h2
    · cases h2
    · split at h2
      · cases h2
      · rename_i d hd
        obtain ⟨t, k⟩ := x
        have hk := (List.of_mem_zip h2).2
        rcases hty d (List.mem_of_getElem? hd) k hk with rfl | rfl
        · show (1 : Int) ≠ 0
          decide
        · show (2 : Int) ≠ 0
          decide
  · rcases List.mem_append.1 hx with hx | hx
    · exact one _ hx
    · exact one _ hx

theorem TyA.len {ds : List De} {r : Ru} {l : List Int} (h : TyA ds r l 0) : l.length = (varsV (termsR r)).length := by
  generalize he : (0 : Int) = e at h
  cases h with
  | tree h => cases he
  | atom h1 h2 => rcases atE_ne h2 with h | h <;> rw [h] at he <;> cases he
  | none h1 h2 h3 => cases he
  | some h1 h2 h3 h4 h5 => simp
/-- The numbers of errors. -/
theorem TyA.errs {ds : List De} {r : Ru} {l : List Int} {e : Int} (h : TyA ds r l e) : (e = 30 ∧ rightP ⟨ds, [r]⟩ = false) ∨ (rightP ⟨ds, [r]⟩ = true ∧ ((e = atE (chkA ds (atomsR r)) ∧ (e = 51 ∨ e = 52) ∧ chkA ds (atomsR r) ≠ 0) ∨ (e = 53 ∧ chkA ds (atomsR r) = 0 ∧ ¬ Fits ds r) ∨ (e = 0 ∧ chkA ds (atomsR r) = 0 ∧ Fits ds r))) := by
  cases h with
  | tree h => exact .inl ⟨rfl, h⟩
  | atom h1 h2 => exact .inr ⟨h1, .inl ⟨rfl, atE_ne h2, h2⟩⟩
  | none h1 h2 h3 => exact .inr ⟨h1, .inr (.inl ⟨rfl, h2, h3⟩)⟩
  | some h1 h2 h3 h4 h5 => exact .inr ⟨h1, .inr (.inr ⟨rfl, h2, h3⟩)⟩
theorem TyA.nil {ds : List De} {r : Ru} {l : List Int} {e : Int} (h : TyA ds r l e) (he : e ≠ 0) : l = [] := by
  cases h with
  | tree h => rfl
  | atom h1 h2 => rfl
  | none h1 h2 h3 => rfl
  | some h1 h2 h3 h4 h5 => exact absurd rfl he
/-- One rule, one error. -/
theorem TyA.det {ds : List De} {r : Ru} {l l' : List Int} {e e' : Int} (h : TyA ds r l e) (k : TyA ds r l' e') : e = e' := by
  rcases h.errs with ⟨rfl, h1⟩ | ⟨h1, h2⟩ <;> rcases k.errs with ⟨rfl, k1⟩ | ⟨k1, k2⟩
  · rfl
  · rw [h1] at k1; cases k1
  · rw [h1] at k1; cases k1
  · rcases h2 with ⟨rfl, _, h2⟩ | ⟨rfl, h2, h3⟩ | ⟨rfl, h2, h3⟩ <;> rcases k2 with ⟨rfl, _, k2⟩ | ⟨rfl, k2, k3⟩ | ⟨rfl, k2, k3⟩
    · rfl
    · exact absurd k2 h2
    · exact absurd k2 h2
    · exact absurd h2 k2
    · rfl
    · exact absurd k3 h3
    · exact absurd h2 k2
    · exact absurd h3 k3
    · rfl
/-- The place of a name, and the type that stands there. -/
def placeV (l : List ByteArray) (s : ByteArray) : Int :=
  match l.findIdx? fun x => x.toList == s.toList with
  | none => -1
  | some i => i
def typedV (vars : List ByteArray) (types : List Int) (s : ByteArray) : Int := if placeV vars s < 0 ∨ (types.length : Int) ≤ placeV vars s then 0 else types.getD (placeV vars s).toNat 0
theorem place_mem {l : List ByteArray} {s : ByteArray} (h : s ∈ l) : ∃ i : Nat, placeV l s = i ∧ l[i]? = some s := by
  unfold placeV
  cases hf : l.findIdx? fun x => x.toList == s.toList with
  | none =>
    rw [List.findIdx?_eq_none_iff] at hf
    have := hf s h
    simp at this
  | some i =>
    obtain ⟨hi, h1, _⟩ := List.findIdx?_eq_some_iff_getElem.1 hf
    refine ⟨i, rfl, ?_⟩
    rw [List.getElem?_eq_getElem hi]
    congr 1
    have h1 : l[i].toList = s.toList := by simpa using h1
    rw [ByteArray.toList_eq, ByteArray.toList_eq] at h1
    exact bytes_ext h1
theorem typed_map {l : List ByteArray} {f : ByteArray → Int} {s : ByteArray} (h : s ∈ l) : typedV l (l.map f) s = f s := by
  obtain ⟨i, h1, h2⟩ := place_mem h
  have hi := (List.getElem?_eq_some_iff.1 h2).1
  unfold typedV
  rw [h1, if_neg (by rw [List.length_map]; omega)]
  simp [List.getD, h2]
theorem vars_ne {ds : List De} {r : Ru} {K : Kn} (hf : Fits ds r) (hK : ∀ s k, k ≠ 0 → (look K s = k ↔ DerR ds r s k)) {s : ByteArray} (hs : s ∈ varsV (termsR r)) : look K s.data.toList ≠ 0 ∧ DerR ds r s.data.toList (look K s.data.toList) := by
  obtain ⟨t, h1, h2, rfl⟩ := (mem_varsV _ _).1 hs
  obtain ⟨k, hk, hd⟩ := hf.2 t h1 h2
  have := (hK _ _ hk).2 hd
  show look K (nm t) ≠ 0 ∧ DerR ds r (nm t) (look K (nm t))
  rw [this]
  exact ⟨hk, hd⟩
/-- What is known of a rule is known of it with more parts. -/
theorem types_sub {ds : List De} {r r' : Ru} (hs : Sub r r') {l l' : List Int} (h : TyA ds r l 0) (h' : TyA ds r' l' 0) {s : ByteArray} (hv : s ∈ varsV (termsR r)) : typedV (varsV (termsR r)) l s = typedV (varsV (termsR r')) l' s ∧ (typedV (varsV (termsR r)) l s = 1 ∨ typedV (varsV (termsR r)) l s = 2) := by
  have hv' : s ∈ varsV (termsR r') := by
    obtain ⟨t, h1, h2⟩ := (mem_varsV _ _).1 hv
    exact (mem_varsV _ _).2 ⟨t, hs.terms t h1, h2⟩
  generalize he : (0 : Int) = e at h
  generalize he' : (0 : Int) = e' at h'
  cases h with
  | tree h => cases he
  | atom h1 h2 => rcases atE_ne h2 with h | h <;> rw [h] at he <;> cases he
  | none h1 h2 h3 => cases he
  | some h1 h2 h3 h4 h5 =>
    cases h' with
    | tree h => cases he'
    | atom h1 h2 => rcases atE_ne h2 with h | h <;> rw [h] at he' <;> cases he'
    | none h1 h2 h3 => cases he'
    | some g1 g2 g3 g4 g5 =>
      rw [typed_map hv, typed_map hv']
      obtain ⟨n1, d1⟩ := vars_ne h3 h4 hv
      exact ⟨((g4 _ _ n1).2 (d1.sub (hs.base ds) hs.prs)).symm, (h5 s.data.toList).resolve_left n1⟩
theorem Fits.of {ds : List De} {r r' : Ru} (h : Sub r r') (k : Sub r' r) (hf : Fits ds r') : Fits ds r :=
  ⟨hf.1.sub (h.base ds) h.prs, fun t ht hv => by
    obtain ⟨n, h1, h2⟩ := hf.2 t (h.terms t ht) hv
    exact ⟨n, h1, h2.sub (k.base ds) k.prs⟩⟩
/-- Parts in another order. -/
theorem types_moved {ds : List De} {r r' : Ru} (h : Sub r r') (k : Sub r' r) (hr : rightP ⟨ds, [r]⟩ = rightP ⟨ds, [r']⟩) {l l' : List Int} {e e' : Int} (a : TyA ds r l e) (a' : TyA ds r' l' e') : ((e = 51 ∨ e = 52) → (e' = 51 ∨ e' = 52)) ∧ (¬ (e = 51 ∨ e = 52) → e = e') := by
  rcases a.errs with ⟨rfl, h1⟩ | ⟨h1, h2⟩ <;> rcases a'.errs with ⟨rfl, k1⟩ | ⟨k1, k2⟩
  · exact ⟨fun h => by omega, fun _ => rfl⟩
  · rw [hr, k1] at h1; cases h1
  · rw [hr, k1] at h1; cases h1
  · rcases h2 with ⟨he, e1, h2⟩ | ⟨rfl, h2, h3⟩ | ⟨rfl, h2, h3⟩ <;> rcases k2 with ⟨he', e2, k2⟩ | ⟨rfl, k2, k3⟩ | ⟨rfl, k2, k3⟩
    · exact ⟨fun _ => e2, fun h => absurd e1 h⟩
    · exact absurd (h.chk k2) h2
    · exact absurd (h.chk k2) h2
    · exact absurd (k.chk h2) k2
    · exact ⟨fun h => by omega, fun _ => rfl⟩
    · exact absurd (k3.of h k) h3
    · exact absurd (k.chk h2) k2
    · exact absurd (h3.of k h) k3
    · exact ⟨fun h => by omega, fun _ => rfl⟩
/-- Parts taken away. -/
theorem types_less {ds : List De} {r r' : Ru} (h : Sub r r') (hr : rightP ⟨ds, [r]⟩ = true) {l l' : List Int} {e : Int} (a : TyA ds r l e) (a' : TyA ds r' l' 0) : e = 0 ∨ e = 53 := by
  have hc : chkA ds (atomsR r') = 0 := by
    rcases a'.errs with ⟨h, _⟩ | ⟨_, ⟨h, h', _⟩ | ⟨h, _⟩ | ⟨_, h, _⟩⟩
    · omega
    · omega
    · omega
    · exact h
  rcases a.errs with ⟨_, h1⟩ | ⟨_, ⟨_, _, h2⟩ | ⟨rfl, _⟩ | ⟨rfl, _⟩⟩
  · rw [hr] at h1; cases h1
  · exact absurd (h.chk hc) h2
  · exact .inr rfl
  · exact .inl rfl
end Go.Proofs.YtfcfehflocglpaaDoor
namespace Go.Proofs.YtfcfehflocglpaaDoor
open Go.RowKit

/-- No two of the first n relations have one name. -/
def NoTw (ds : List De) (n : Nat) : Prop := ∀ (i : Nat) (d : De), i < n → ds[i]? = some d → findY d.rel ds = some i
/-- A relation's name is found where it stands, or ahead. -/
theorem find_le {ds : List De} {i : Nat} {d : De} (h : ds[i]? = some d) : ∃ j : Nat, findY d.rel ds = some j ∧ j ≤ i := by
  have key : ∀ (l : List De) (k i : Nat), l[i]? = some d → ∃ j : Nat, ixY d.rel k l = ((k + j : Nat) : Int) ∧ j ≤ i := by
    intro l
    induction l with
    | nil => intro k i h; cases h
    | cons x l ih =>
      intro k i h
      unfold ixY
      cases hx : relY d.rel x with
      | true => exact ⟨0, by simp, Nat.zero_le _⟩
      | false =>
        cases i with
        | zero =>
          have e : x = d := by simpa using h
          subst e
          simp [relY] at hx
        | succ i =>
          obtain ⟨j, h1, h2⟩ := ih (k + 1) i (by simpa using h)
          exact ⟨j + 1, by simp only [Bool.false_eq_true, if_false]; rw [h1]; congr 1; omega, by omega⟩
  obtain ⟨j, h1, h2⟩ := key ds 0 i h
  refine ⟨j, ?_, h2⟩
  unfold findY
  rw [h1, Nat.zero_add, if_neg (by omega)]
  simp
inductive ChA (p : Pg) : Int → Int → Prop
  | tree : rightP p = false → ChA p 0 30
  | twice {i : Nat} {d : De} : rightP p = true → p.decls[i]? = some d → findY d.rel p.decls ≠ some i → NoTw p.decls i → ChA p d.line 50
  | rule {k : Nat} {r : Ru} {l : List Int} {e : Int} : rightP p = true → NoTw p.decls p.decls.length → p.rules[k]? = some r → (∀ (j : Nat) (r' : Ru), j < k → p.rules[j]? = some r' → ∃ l, TyA p.decls r' l 0) → TyA p.decls r l e → e ≠ 0 → ChA p r.line e
  | ok : rightP p = true → NoTw p.decls p.decls.length → (∀ r ∈ p.rules, ∃ l, TyA p.decls r l 0) → ChA p 0 0
theorem rightP_less {p : Pg} (h : rightP p = true) {l : List Ru} (hl : l.length ≤ p.rules.length) (hm : ∀ r ∈ l, r ∈ p.rules) : rightP ⟨p.decls, l⟩ = true := by
  unfold rightP at h ⊢
  simp only [Bool.and_eq_true, decide_eq_true_eq, List.all_eq_true] at h ⊢
  exact ⟨⟨⟨h.1.1.1, by omega⟩, h.1.2⟩, fun r hr => h.2 r (hm r hr)⟩
theorem rightP_one {p : Pg} (h : rightP p = true) {r : Ru} (hr : r ∈ p.rules) : rightP ⟨p.decls, [r]⟩ = true :=
  rightP_less h (by have := List.length_pos_of_mem hr; simp; omega) (fun x hx => by rw [List.mem_singleton.1 hx]; exact hr)
theorem ChA.right {p : Pg} {ln e : Int} (h : ChA p ln e) (he : e ≠ 30) : rightP p = true := by
  cases h with
  | tree h => exact absurd rfl he
  | twice h => exact h
  | rule h => exact h
  | ok h => exact h
/-- The first rules, and one alone. -/
theorem cha_parts {p : Pg} {i : Nat} {r : Ru} (hi : p.rules[i]? = some r) {ln e ln1 f ln2 g : Int} (h : ChA p ln e) (h1 : ChA ⟨p.decls, p.rules.take i⟩ ln1 f) (h2 : ChA ⟨p.decls, [r]⟩ ln2 g) :
    (e = 0 → f = 0 ∧ g = 0) ∧ (e ≠ 0 → f = 0 ∨ e = 30 ∨ f = e) := by
  have hm := List.mem_of_getElem? hi
  have ht : rightP p = true → rightP ⟨p.decls, p.rules.take i⟩ = true := fun hr => rightP_less hr (by simp; omega) (fun r hr => List.mem_of_mem_take hr)
  have ho : rightP p = true → rightP ⟨p.decls, [r]⟩ = true := fun hr => rightP_one hr hm
  have take_at : ∀ {j : Nat} {x : Ru}, (p.rules.take i)[j]? = some x → j < i ∧ p.rules[j]? = some x := by
    intro j x hj
    rw [List.getElem?_take] at hj
    split at hj
    · rename_i hlt; exact ⟨hlt, hj⟩
    · cases hj
  cases h with
  | tree hr => exact ⟨fun h => by omega, fun _ => .inr (.inl rfl)⟩
  | @twice k d hr hd hf hn =>
    refine ⟨fun h => by omega, fun _ => .inr (.inr ?_)⟩
    have hk := (List.getElem?_eq_some_iff.1 hd).1
    cases h1 with
    | tree h => rw [ht hr] at h; cases h
    | twice => rfl
    | rule _ h => exact absurd (h k d hk hd) hf
    | ok _ h => exact absurd (h k d hk hd) hf
  | @rule k x l e hr hn hk hb ha he =>
    refine ⟨fun h => absurd h he, fun _ => ?_⟩
    cases h1 with
    | tree h => rw [ht hr] at h; cases h
    | @twice k d _ hd hf => exact absurd (hn k d (List.getElem?_eq_some_iff.1 hd).1 hd) hf
    | @rule k' x' l' e' _ _ hk' hb' ha' he' =>
      obtain ⟨hlt, hk'⟩ := take_at hk'
      rcases Nat.lt_trichotomy k k' with h | h | h
      · obtain ⟨l2, h2⟩ := hb' k x h (by show (p.rules.take i)[k]? = some x; rw [List.getElem?_take, if_pos (by omega)]; exact hk)
        exact absurd (ha.det h2) he
      · subst h
        rw [hk] at hk'
        cases hk'
        exact .inr (.inr (ha'.det ha))
      · obtain ⟨l2, h2⟩ := hb k' x' h hk'
        exact absurd (TyA.det ha' h2) he'
    | ok => exact .inl rfl
  | ok hr hn ha =>
    refine ⟨fun _ => ⟨?_, ?_⟩, fun h => absurd rfl h⟩
    · cases h1 with
      | tree h => rw [ht hr] at h; cases h
      | @twice k d _ hd hf => exact absurd (hn k d (List.getElem?_eq_some_iff.1 hd).1 hd) hf
      | @rule k' x' l' e' _ _ hk' hb' ha' he' =>
        obtain ⟨l2, h2⟩ := ha x' (List.mem_of_getElem? (take_at hk').2)
        exact absurd (TyA.det ha' h2) he'
      | ok => rfl
    · cases h2 with
      | tree h => rw [ho hr] at h; cases h
      | @twice k d _ hd hf => exact absurd (hn k d (List.getElem?_eq_some_iff.1 hd).1 hd) hf
      | @rule k' x' l' e' _ _ hk' hb' ha' he' =>
        have hx : x' ∈ [r] := List.mem_of_getElem? hk'
        obtain ⟨l2, h2⟩ := ha x' (by rw [List.mem_singleton.1 hx]; exact hm)
        exact absurd (TyA.det ha' h2) he'
      | ok => rfl
end Go.Proofs.YtfcfehflocglpaaDoor
