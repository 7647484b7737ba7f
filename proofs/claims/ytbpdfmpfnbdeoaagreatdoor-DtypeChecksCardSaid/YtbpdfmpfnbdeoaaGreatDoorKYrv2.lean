/- soritesref05.TermVars, AtomVars. soriteslaw05.shown answers true. soritesref05.LitVars, Vars. soritesref05.Vars, Find, SameTexts. -/
import Derived.Test.YtbpdfmpfnbdeoaaGreatDoorKYtp
import Derived.Test.YtbpdfmpfnbdeoaaGreatDoorKAny
import Derived.Test.YtbpdfmpfnbdeoaaGreatDoorKTchk2
namespace Go.Proofs.YtbpdfmpfnbdeoaaGreatDoor
open Go.RowKit

theorem withV_varsV (b : List Tm) : withV [] (varsV b) = varsV b := by
  have := varsV_app [] b
  simpa [varsV, namesV] using this.symm
theorem varsV_node {t : Tm} (h : t.op ≠ 1) : varsV (subT t) = varsV (subTs t.l) := by
  rw [subT_eq, show t :: subTs t.l = [t] ++ subTs t.l from rfl, varsV_app]
  have : varsV [t] = [] := by
    have := varsV_snoc [] t
    rw [List.nil_append, stepV_mem, if_neg h] at this
    exact this
  rw [this, withV_varsV]
theorem varsV_leaf {t : Tm} (h : t.op = 1) (hl : t.l = []) : varsV (subT t) = [t.s] := by
  rw [subT_eq, hl]
  have := varsV_snoc [] t
  rw [List.nil_append, stepV_mem, if_pos h] at this
  rw [subTs, this]
  rfl
theorem subTs_prel (l : List Tm) (k : Nat) : (subTs (l.take k)).length ≤ (subTs l).length := by
  have := subTs_app (l.take k) (l.drop k)
  rw [List.take_append_drop] at this
  rw [this, List.length_append]
  omega
theorem subTs_one {l : List Tm} {k : Nat} {t : Tm} (h : l[k]? = some t) : subTs (l.take (k + 1)) = subTs (l.take k) ++ subT t := by
  rw [subTs_take h, subT_eq]
theorem vars_sum {l : List Tm} {k : Nat} {t : Tm} (h : l[k]? = some t) (hn : (subTs l).length ≤ 1000000) : (varsV (subTs (l.take k))).length + (varsV (subT t)).length ≤ 1000000 := by
  have h1 := varsV_len (subTs (l.take k))
  have h2 := varsV_len (subT t)
  have h3 := subTs_prel l (k + 1)
  rw [subTs_one h, List.length_append] at h3
  omega
theorem vars_step {l : List Tm} {k : Nat} {t : Tm} (h : l[k]? = some t) : varsV (subTs (l.take (k + 1))) = withV (varsV (subTs (l.take k))) (varsV (subT t)) := by rw [subTs_one h, varsV_app]
theorem subT_part {t c : Tm} (h : c ∈ t.l) : ∀ u ∈ subT c, u ∈ subT t := fun u hu => mem_subT.2 (.inr (mem_subTs.2 ⟨c, h, hu⟩))
theorem subT_less {t c : Tm} (h : c ∈ t.l) : (subT c).length ≤ (subT t).length := by
  obtain ⟨k, hk⟩ := List.mem_iff_getElem?.1 h
  have h3 := subTs_prel t.l (k + 1)
  rw [subTs_one hk, List.length_append] at h3
  rw [subT_eq t, List.length_cons]
  omega
theorem str_row1 {W : World} {B : Nat} {s : ByteArray} {T : TypeId} (h : W.heap[B]? = some (.cells #[.string s] T (0, 0))) (hs : s.size ≤ maxLen) : SlOf W W.heap.size 1 StrC [s] (.slice (some ⟨B, 0, none⟩) 1 1) :=
  sl_cells (l := [s]) (R := StrC) [[.string s]] h rfl (fun cs h => by rw [List.mem_singleton.1 h]; rfl) (fun i x cs hx hc => by
    match i, hx, hc with
    | 0, hx, hc => cases hx; cases hc; exact ⟨rfl, hs⟩) (by show 1 ≤ maxLen; decide)
set_option maxRecDepth 100000 in
set_option maxHeartbeats 4000000 in
theorem termVars_c : ∀ (n : Nat) (t : Tm) (w : World) (cs : List Value), SizeOf.sizeOf t ≤ n → TmC w w.heap.size t cs → (∀ u ∈ subT t, u.op = 1 → u.l = []) → (subT t).length ≤ 1000000 →
    Calls Tryz.prog 80 #[.agg cs.toArray] w (VarsR (varsV (subT t)) w.heap.size w) := by
  intro n
  induction n with
  | zero =>
    intro t w cs hs
    have : 0 < SizeOf.sizeOf t := by obtain ⟨o, s, n, l⟩ := t; simp only [Tm.mk.sizeOf_spec]; omega
    omega
  | succ n ih =>
    intro t w cs hs hc hv hn
    have IH := Lib.hid (fun (x : Tm) (hx : x ∈ t.l) (W : World) (cs : List Value) (hc : TmC W W.heap.size x cs) => ih x W cs (by have := size_part hx; omega) hc (fun u hu => hv u (subT_part hx u hu)) (Nat.le_trans (subT_less hx) hn))
    have HV1 : t.op = 1 → varsV (subT t) = [t.s] := fun h => varsV_leaf h (hv t mem_self h)
    have HV2 : t.op ≠ 1 → varsV (subT t) = varsV (subTs t.l) := fun h => varsV_node h
    have hn' : (subTs t.l).length ≤ 1000000 := by rw [subT_eq, List.length_cons] at hn; omega
    obtain ⟨V, hV⟩ : ∃ V, varsV (subT t) = V := ⟨_, rfl⟩
    rw [hV] at HV1 HV2 ⊢
    clear ih hv hn hs hV
    obtain ⟨op, s, nn, l⟩ := t
    obtain ⟨p1, q1, rfl, _, hzs, _, t1⟩ := hc.look
    simp only [Tm.op_mk, Tm.s_mk, Tm.n_mk, Tm.l_mk] at hzs t1 HV1 HV2 IH hn' ⊢
    have HB0 : Hid (∀ (x : Obj), Below w.heap.size w (w.alloc x)) := Lib.hid fun x => (Below.refl _ _).alloc (Nat.le_refl _) _
    obtain ⟨o1, cap1, e1, hc1, hm1, S1⟩ := SlOf.open t1
    cases e1
    have HN := Lib.hid hn'
    clear hc t1 hn'
    by_cases h1 : op = 1
    · have Hz := Lib.hid (HV1 h1)
      have Hs := Lib.hid hzs
      clear HV1 HV2 IH S1
      subst h1
      go_enter Tryz.func80, Tryz.ntmps80
      go_wp2
      go_ret
      refine ⟨_, rfl, ?_, ?_⟩
      · rw [Hz.out]
        refine str_row1 (T := 9) ?_ Hs.out
        have := World.alloc_heap_new (w.alloc (.cells #[.int .i64 1, .string s, .int .i64 nn, .slice p1 l.length q1] 51)) (.cells #[.string s] 9)
        simpa using this
      · exact (HB0.out _).alloc (by simp) _
    · have Hz := Lib.hid (HV2 h1)
      have hb1 : (op == 1) = false := by simpa using h1
      clear HV1 HV2
      go_enter Tryz.func80, Tryz.ntmps80
      go_wp2
      go_loopw [3, 4] (fun lv i wr => ∃ k : Nat, k ≤ l.length ∧ i = .int .i64 k ∧ SlOf wr wr.heap.size 1 StrC (varsV (subTs (l.take k))) lv ∧ Below (w.heap.size + 1) (w.alloc (.cells #[.int .i64 op, .string s, .int .i64 nn, .slice p1 l.length q1] 51)) wr) (fun _ i _ => l.length - (intOf i).toNat)
      case atStart => exact ⟨0, Nat.zero_le _, rfl, .inl ⟨rfl, by simp [subTs, varsV, namesV]⟩, Below.refl _ _⟩
      case round =>
        obtain ⟨k, hk, rfl, hsl, hB2⟩ := hrel
        have hB : Below w.heap.size w wr := (HB0.out _).trans (hB2.mono (by omega))
        have HSl := Lib.hid hsl
        have hBs := hB2.size
        simp only [World.size_alloc] at hBs
        have hz0 : w.heap.size < wr.heap.size := by omega
        have x0 : wr.cell? ⟨w.heap.size, 3, none⟩ = some (.slice p1 l.length q1) := (hB2.cell (p := ⟨w.heap.size, 3, none⟩) (by show w.heap.size < _; omega)).trans (by go_simp)
        obtain ⟨ov, kv, rfl, _⟩ := SlOf.uni hsl
        clear hsl
        by_cases hlt : k < l.length
        · have hlt3 : (k : Int) < (l.length : Int) := by omega
          obtain ⟨t, ht⟩ : ∃ t, l[k]? = some t := ⟨l[k], List.getElem?_eq_getElem hlt⟩
          obtain ⟨a, p3, q3, rfl, ha, Hc, c0, c1, c2, c3⟩ := tm_at S1 hB ht
          have hal : (a.add (k * 4)).block < wr.heap.size := by rw [addBlock]; omega
          have HC := Lib.hid (IH.out t (List.mem_of_getElem? ht) wr _ Hc.out)
          have Hst := Lib.hid (vars_step ht)
          have Hsum := Lib.hid (vars_sum ht HN.out)
          have HB := Lib.hid hB2
          clear ht hB2 hB
          go_wp2_with fail
          refine HC.out.mono ?_
          rintro e3 w3 ⟨v3, rfl, hS3, b3⟩
          have HW := Lib.hid (with_c _ _ _ _ w3 (SlOf.str HSl.out b3 b3.size) hS3 Hsum.out)
          have HB3 := Lib.hid (HB.out.trans (b3.mono (by have := HB.out.size; simp at this; omega)))
          obtain ⟨o3, k3, rfl, _⟩ := SlOf.uni hS3
          clear hS3 b3 HC
          go_wp2_with fail
          refine HW.out.mono ?_
          rintro e4 w4 ⟨v4, rfl, hS4, b4⟩
          have HS4 := Lib.hid hS4
          have HB4 := Lib.hid (HB3.out.trans (b4.mono (by have := HB3.out.size; simp at this; omega)))
          clear hS4 b4 HW
          go_wp2
          go_roundw
          case rel =>
            exact ⟨k + 1, hlt, by go_num, by rw [Hst.out]; exact HS4.out, HB4.out⟩
          case measure => simp [intOf]; omega
        · have hlt3 : ¬ (k : Int) < (l.length : Int) := by omega
          obtain rfl : k = l.length := by omega
          have HB := Lib.hid hB
          have HS2 := Lib.hid HSl.out
          rw [List.take_of_length_le (Nat.le_refl _)] at HS2
          clear hB hB2
          go_wp2
          go_ret
          refine ⟨_, rfl, ?_, HB.out⟩
          rw [Hz.out]
          exact HS2.out
/-- The variables of an atom. -/
def varsM (a : Am) : List ByteArray := varsV (subTs a.l)
set_option maxRecDepth 100000 in
set_option maxHeartbeats 4000000 in
theorem atomVars_c (t : Am) (w : World) (cs : List Value) (hc : AmC w w.heap.size t cs) (hv : ∀ u ∈ subTs t.l, u.op = 1 → u.l = []) (hn : (subTs t.l).length ≤ 1000000) :
    Calls Tryz.prog 43 #[.agg cs.toArray] w (VarsR (varsM t) w.heap.size w) := by
  have IH := Lib.hid (fun (x : Tm) (hx : x ∈ t.l) (W : World) (cs : List Value) (hc : TmC W W.heap.size x cs) => termVars_c _ x W cs (Nat.le_refl _) hc (fun u hu => hv u (mem_subTs.2 ⟨x, hx, hu⟩)) (by
    obtain ⟨k, hk⟩ := List.mem_iff_getElem?.1 hx
    have h3 := subTs_prel t.l (k + 1)
    rw [subTs_one hk, List.length_append] at h3
    omega))
  obtain ⟨rel, l⟩ := t
  obtain ⟨v0, rfl, hzr, t1⟩ := hc
  simp only at IH hn t1
  have HB0 : Hid (∀ (x : Obj), Below w.heap.size w (w.alloc x)) := Lib.hid fun x => (Below.refl _ _).alloc (Nat.le_refl _) _
  obtain ⟨p1, q1, rfl, hc1, hm1, S1⟩ := SlOf.open t1
  have HN := Lib.hid hn
  clear t1 hn hv
  unfold varsM
  go_enter Tryz.func43, Tryz.ntmps43
  go_wp2
  go_loopw [3, 4] (fun lv i wr => ∃ k : Nat, k ≤ l.length ∧ i = .int .i64 k ∧ SlOf wr wr.heap.size 1 StrC (varsV (subTs (l.take k))) lv ∧ Below (w.heap.size + 1) (w.alloc (.cells #[.string rel, .slice p1 l.length q1] 34)) wr) (fun _ i _ => l.length - (intOf i).toNat)
  case atStart => exact ⟨0, Nat.zero_le _, rfl, .inl ⟨rfl, by simp [subTs, varsV, namesV]⟩, Below.refl _ _⟩
  case round =>
    obtain ⟨k, hk, rfl, hsl, hB2⟩ := hrel
    have hB : Below w.heap.size w wr := (HB0.out _).trans (hB2.mono (by omega))
    have HSl := Lib.hid hsl
    have hBs := hB2.size
    simp only [World.size_alloc] at hBs
    have hz0 : w.heap.size < wr.heap.size := by omega
    have x0 : wr.cell? ⟨w.heap.size, 1, none⟩ = some (.slice p1 l.length q1) := (hB2.cell (p := ⟨w.heap.size, 1, none⟩) (by show w.heap.size < _; omega)).trans (by go_simp)
    obtain ⟨ov, kv, rfl, _⟩ := SlOf.uni hsl
    clear hsl
    by_cases hlt : k < l.length
    · have hlt3 : (k : Int) < (l.length : Int) := by omega
      obtain ⟨t, ht⟩ : ∃ t, l[k]? = some t := ⟨l[k], List.getElem?_eq_getElem hlt⟩
      obtain ⟨a, p3, q3, rfl, ha, Hc, c0, c1, c2, c3⟩ := tm_at S1 hB ht
      have hal : (a.add (k * 4)).block < wr.heap.size := by rw [addBlock]; omega
      have HC := Lib.hid (IH.out t (List.mem_of_getElem? ht) wr _ Hc.out)
      have Hst := Lib.hid (vars_step ht)
      have Hsum := Lib.hid (vars_sum ht HN.out)
      have HB := Lib.hid hB2
      clear ht hB2 hB
      go_wp2_with fail
      refine HC.out.mono ?_
      rintro e3 w3 ⟨v3, rfl, hS3, b3⟩
      have HW := Lib.hid (with_c _ _ _ _ w3 (SlOf.str HSl.out b3 b3.size) hS3 Hsum.out)
      have HB3 := Lib.hid (HB.out.trans (b3.mono (by have := HB.out.size; simp at this; omega)))
      obtain ⟨o3, k3, rfl, _⟩ := SlOf.uni hS3
      clear hS3 b3 HC
      go_wp2_with fail
      refine HW.out.mono ?_
      rintro e4 w4 ⟨v4, rfl, hS4, b4⟩
      have HS4 := Lib.hid hS4
      have HB4 := Lib.hid (HB3.out.trans (b4.mono (by have := HB3.out.size; simp at this; omega)))
      clear hS4 b4 HW
      go_wp2
      go_roundw
      case rel => exact ⟨k + 1, hlt, by go_num, by rw [Hst.out]; exact HS4.out, HB4.out⟩
      case measure => simp [intOf]; omega
    · have hlt3 : ¬ (k : Int) < (l.length : Int) := by omega
      obtain rfl : k = l.length := by omega
      have HB := Lib.hid hB
      have HS2 := Lib.hid HSl.out
      rw [List.take_of_length_le (Nat.le_refl _)] at HS2
      clear hB hB2
      go_wp2
      go_ret
      exact ⟨_, rfl, HS2.out, HB.out⟩
end Go.Proofs.YtbpdfmpfnbdeoaaGreatDoor
namespace Go.Proofs.YtbpdfmpfnbdeoaaGreatDoor
open Go.RowKit

theorem drewB {n : Nat} {w w' : World} (h : Below n w.drew w') : Below n w w' := ⟨h.os, h.tape, h.output, h.size, h.block⟩
def slots2 : List (Option Tmp) := [some 11, some 12, some 13, some 14, some 15, some 16, some 17, some 10, some 18, some 19, some 2, some 3]
def facts2 (B : Nat) : List (Value → World → Prop) :=
  [fun v w => SlOf w w.heap.size 6 (DeC w w.heap.size) [twoD] v, fun v _ => v = .agg (xyCells B).toArray, fun v _ => v = .agg (xyCells B).toArray, fun v _ => v = .agg (litCells B).toArray,
   fun v w => ∃ b, v = .slice (some ⟨b, 0, none⟩) 1 1 ∧ w.heap[b]? = some (.cells (litCells B).toArray 56 (0, 0)),
   fun v w => ∃ b, v = .agg (ruCells B b).toArray ∧ w.heap[b]? = some (.cells (litCells B).toArray 56 (0, 0)),
   fun v w => ∃ u, v = .tuple #[u, .int .i64 0] ∧ SlOf w w.heap.size 1 IntC [1, 2] u, fun v w => ∃ u, v = .tuple #[u, .int .i64 0] ∧ SlOf w w.heap.size 1 IntC [1, 2] u,
   fun v w => SlOf w w.heap.size 1 IntC [1, 2] v, fun v _ => v = .int .i64 0, fun v w => SlOf w w.heap.size 1 IntC [1, 2] v, fun v _ => v = .int .i64 0]
theorem facts2_mono (B : Nat) : ∀ p ∈ facts2 B, ∀ v w w', p v w → Below w.heap.size w w' → p v w' := by
  intro p hp v w w' h hb
  unfold facts2 at hp
  simp only [List.mem_cons, List.not_mem_nil, or_false] at hp
  rcases hp with rfl | rfl | rfl | rfl | rfl | rfl | rfl | rfl | rfl | rfl | rfl | rfl
  · exact SlOf.decl h hb hb.size
  · exact h
  · exact h
  · exact h
  · obtain ⟨b, h1, h2⟩ := h; exact ⟨b, h1, (hb.block b (heap_lt h2)).trans h2⟩
  · obtain ⟨b, h1, h2⟩ := h; exact ⟨b, h1, (hb.block b (heap_lt h2)).trans h2⟩
  · obtain ⟨u, h1, h2⟩ := h; exact ⟨u, h1, SlOf.int h2 hb hb.size⟩
  · obtain ⟨u, h1, h2⟩ := h; exact ⟨u, h1, SlOf.int h2 hb hb.size⟩
  · exact SlOf.int h hb hb.size
  · exact h
  · exact SlOf.int h hb hb.size
  · exact h
def vCells (s : ByteArray) : List Value := [.int .i64 1, .string s, .int .i64 0, .slice none 0 0]
def slots3 : List (Option Tmp) := [some 21, some 22, some 23, some 24, some 25, some 26, some 27, some 28, some 29, some 30, some 20, some 31, some 32, some 4, some 5]
def facts3 (B : Nat) : List (Value → World → Prop) :=
  [fun v w => SlOf w w.heap.size 6 (DeC w w.heap.size) [twoD] v, fun v _ => v = .agg (vCells xS).toArray, fun v _ => v = .agg (vCells xS).toArray,
   fun v w => ∃ A, v = .slice (some ⟨A, 0, none⟩) 2 2 ∧ TwoAt w A xS xS, fun v w => ∃ A, v = .agg (xyCells A).toArray ∧ TwoAt w A xS xS,
   fun v _ => v = .agg (xyCells B).toArray, fun v _ => v = .agg (litCells B).toArray,
   fun v w => ∃ b, v = .slice (some ⟨b, 0, none⟩) 1 1 ∧ w.heap[b]? = some (.cells (litCells B).toArray 56 (0, 0)),
   fun v w => ∃ A b, v = .agg (ruCells A b).toArray ∧ TwoAt w A xS xS ∧ w.heap[b]? = some (.cells (litCells B).toArray 56 (0, 0)),
   fun v _ => ∃ u, v = .tuple #[u, .int .i64 53], fun v _ => ∃ u, v = .tuple #[u, .int .i64 53], fun _ _ => True, fun v _ => v = .int .i64 53, fun _ _ => True, fun v _ => v = .int .i64 53]
theorem facts3_mono (B : Nat) : ∀ p ∈ facts3 B, ∀ v w w', p v w → Below w.heap.size w w' → p v w' := by
  intro p hp v w w' h hb
  unfold facts3 at hp
  simp only [List.mem_cons, List.not_mem_nil, or_false] at hp
  rcases hp with rfl | rfl | rfl | rfl | rfl | rfl | rfl | rfl | rfl | rfl | rfl | rfl | rfl | rfl | rfl
  · exact SlOf.decl h hb hb.size
  · exact h
  · exact h
  · obtain ⟨b, h1, h2⟩ := h; exact ⟨b, h1, (hb.block b (heap_lt h2)).trans h2⟩
  · obtain ⟨b, h1, h2⟩ := h; exact ⟨b, h1, (hb.block b (heap_lt h2)).trans h2⟩
  · exact h
  · exact h
  · obtain ⟨b, h1, h2⟩ := h; exact ⟨b, h1, (hb.block b (heap_lt h2)).trans h2⟩
  · obtain ⟨a, b, h1, h2, h3⟩ := h; exact ⟨a, b, h1, (hb.block a (heap_lt h2)).trans h2, (hb.block b (heap_lt h3)).trans h3⟩
  · exact h
  · exact h
  · exact h
  · exact h
  · exact h
  · exact h
set_option maxRecDepth 100000 in
set_option maxHeartbeats 8000000 in
theorem shown5_c (e a b' c d : Addr) (w : World) (E : EnvY e a b' c d w) : Calls Tryz.prog 7 #[] w fun e w' => e = .returned (.bool true) ∧ Below w.heap.size w w' := by
  have HE := Lib.hid E
  clear E
  go_enter Tryz.func7, Tryz.ntmps7
  go_wp2_with fail
  refine (v_c _ _).mono ?_
  rintro e1 w1 ⟨rfl, b1⟩
  go_wp2_with fail
  refine (v_c _ _).mono ?_
  rintro e2 w2 ⟨rfl, b2⟩
  go_wp2_with fail
  have B2 := Lib.hid (b1.trans (b2.mono b1.size))
  clear b1 b2
  obtain ⟨B, hB⟩ : ∃ B, w2.heap.size = B := ⟨_, rfl⟩
  obtain ⟨W3, hW3⟩ : ∃ W3, w2.alloc (.cells #[.int .i64 1, .string ⟨#[120]⟩, .int .i64 0, .slice none 0 0, .int .i64 1, .string ⟨#[121]⟩, .int .i64 0, .slice none 0 0] 51) = W3 := ⟨_, rfl⟩
  obtain ⟨W4, hW4⟩ : ∃ W4, W3.alloc (.cells #[.string ⟨#[112]⟩, .slice (some ⟨B, 0, none⟩) 2 2] 34) = W4 := ⟨_, rfl⟩
  have r3 : TwoAt W3 B xS yS := by unfold TwoAt; rw [← hW3, ← hB]; exact World.alloc_heap_new w2 _
  have z3 : W3.heap.size = B + 1 := by rw [← hW3, ← hB]; simp
  have r4 : TwoAt W4 B xS yS := by unfold TwoAt at *; rw [← hW4]; exact row_more r3 _
  have q4 : W4.heap[B + 1]? = some (.cells (xyCells B).toArray 34 (0, 0)) := by rw [← hW4, ← z3]; exact World.alloc_heap_new W3 _
  have b4 : Below w.heap.size w W4 := by
    rw [← hW4, ← hW3]
    exact (B2.out.alloc B2.out.size _).alloc (by have := B2.out.size; simp; omega) _
  rw [hB, hW3, hW4]
  have R4 := Lib.hid r4
  have Q4 := Lib.hid q4
  have B4 := Lib.hid b4
  clear r3 z3 r4 q4 b4 hW3 hW4 hB
  refine wp_region_any (by kernel_rfl) ?_
  (try (change wpAny _ _ _ _ _ _ _ (World.drew _)))
  refine wpAny_grow slots2 _ _ (facts2 B) (by kernel_rfl) (by kernel_rfl) (by kernel_rfl) (by kernel_rfl) (by kernel_rfl) (facts2_mono B) ⟨?s0, ?s1, ?s2, ?s3, ?s4, ?s5, ?s6, ?s7, ?s8, ?s9, ?s10, ?s11, trivial⟩ ?fin
  case s0 =>
    intro A w' K hb hfar hd hK
    unfold Oper.wp
    go_simp
    refine (two_c w').mono ?_
    rintro e3 w3 ⟨v, rfl, h3, b3⟩
    exact hK _ _ b3 (factG_mk rfl h3)
  case s1 =>
    intro A w' K hb hfar hd hK
    have e1 : A.tmps[1]?.getD undef = .pointer (some ⟨B + 1, 0, none⟩) := hfar 1 (by decide)
    have q := (hb.block _ (heap_lt Q4.out)).trans Q4.out
    have c0 : w'.cell? ⟨B + 1, 0, none⟩ = some (.string pS) := row_cells q 0
    have c1 : w'.cell? ⟨B + 1, 1, none⟩ = some (.slice (some ⟨B, 0, none⟩) 2 2) := row_cells q 1
    unfold Oper.wp
    simp [execOp, e1, c0, c1, go_sem, Result.andThen]
    exact hK _ _ (Below.refl _ _) (factG_mk rfl rfl)
  case s2 =>
    intro A w' K hb hfar hd hK
    have e1 : A.tmps[1]?.getD undef = .pointer (some ⟨B + 1, 0, none⟩) := hfar 1 (by decide)
    have q := (hb.block _ (heap_lt Q4.out)).trans Q4.out
    have c0 : w'.cell? ⟨B + 1, 0, none⟩ = some (.string pS) := row_cells q 0
    have c1 : w'.cell? ⟨B + 1, 1, none⟩ = some (.slice (some ⟨B, 0, none⟩) 2 2) := row_cells q 1
    unfold Oper.wp
    simp [execOp, e1, c0, c1, go_sem, Result.andThen]
    exact hK _ _ (Below.refl _ _) (factG_mk rfl rfl)
  case s3 =>
    intro A w' K hb hfar hd hK
    have e1 : A.tmps[13]?.getD undef = .agg (xyCells B).toArray := hd 2 13 rfl (by kernel_rfl) _ rfl
    unfold xyCells at e1
    unfold Oper.wp
    simp [execOp, e1, go_sem, Result.andThen]
    exact hK _ _ (Below.refl _ _) (factG_mk rfl rfl)
  case s4 =>
    intro A w' K hb hfar hd hK
    have e1 : A.tmps[14]?.getD undef = .agg (litCells B).toArray := hd 3 14 rfl (by kernel_rfl) _ rfl
    unfold litCells xyCells at e1
    unfold Oper.wp
    simp [execOp, e1, go_sem, Result.andThen]
    exact hK _ _ ((Below.refl _ _).alloc (Nat.le_refl _) _) (factG_mk rfl ⟨_, rfl, by first | exact World.alloc_heap_new w' _ | (unfold TwoAt xS; exact World.alloc_heap_new w' _)⟩)
  case s5 =>
    intro A w' K hb hfar hd hK
    have e1 : A.tmps[12]?.getD undef = .agg (xyCells B).toArray := hd 1 12 rfl (by kernel_rfl) _ rfl
    obtain ⟨b, e2, hr⟩ : ∃ b, A.tmps[15]?.getD undef = .slice (some ⟨b, 0, none⟩) 1 1 ∧ w'.heap[b]? = some (.cells (litCells B).toArray 56 (0, 0)) := hd 4 15 rfl (by kernel_rfl) _ rfl
    unfold xyCells at e1
    unfold Oper.wp
    simp [execOp, e1, e2, go_sem, Result.andThen]
    exact hK _ _ (Below.refl _ _) (factG_mk rfl ⟨b, rfl, hr⟩)
  case s6 =>
    intro A w' K hb hfar hd hK
    have e1 : SlOf w' w'.heap.size 6 (DeC w' w'.heap.size) [twoD] (A.tmps[11]?.getD undef) := hd 0 11 rfl (by kernel_rfl) _ rfl
    obtain ⟨b, e2, hr⟩ : ∃ b, A.tmps[16]?.getD undef = .agg (ruCells B b).toArray ∧ w'.heap[b]? = some (.cells (litCells B).toArray 56 (0, 0)) := hd 5 16 rfl (by kernel_rfl) _ rfl
    have hb' := B4.out.trans ((drewB hb).mono B4.out.size)
    have h2 : TwoAt w' B xS yS := (hb.block _ (heap_lt R4.out)).trans R4.out
    have hT := types_c [twoD] (A.tmps[11]?.getD undef) xyR (ruCells B b) e a b' c d w' e1 (xy_ru h2 h2 (by decide) (by decide) hr) xy_len.1 xy_len.2 (HE.out.below hb')
    unfold Oper.wp
    simp [execOp, e2, go_sem, Result.andThen]
    refine hT.mono ?_
    rintro e3 w3 ⟨u, l, k, rfl, h1, h2, b3⟩
    obtain ⟨rfl, rfl⟩ := types_xy h1
    exact hK _ _ b3 (factG_mk rfl ⟨u, rfl, h2⟩)
  case s7 =>
    intro A w' K hb hfar hd hK
    obtain ⟨u, e1, h1⟩ : ∃ u, A.tmps[17]?.getD undef = .tuple #[u, .int .i64 0] ∧ SlOf w' w'.heap.size 1 IntC [1, 2] u := hd 6 17 rfl (by kernel_rfl) _ rfl
    unfold Oper.wp
    simp [execOp, e1, go_sem, Result.andThen]
    exact hK _ _ (Below.refl _ _) (factG_mk rfl ⟨u, rfl, h1⟩)
  case s8 =>
    intro A w' K hb hfar hd hK
    obtain ⟨u, e1, h1⟩ : ∃ u, A.tmps[10]?.getD undef = .tuple #[u, .int .i64 0] ∧ SlOf w' w'.heap.size 1 IntC [1, 2] u := hd 7 10 rfl (by kernel_rfl) _ rfl
    unfold Oper.wp
    simp [execOp, e1, go_sem, Result.andThen]
    exact hK _ _ (Below.refl _ _) (factG_mk rfl h1)
  case s9 =>
    intro A w' K hb hfar hd hK
    obtain ⟨u, e1, h1⟩ : ∃ u, A.tmps[10]?.getD undef = .tuple #[u, .int .i64 0] ∧ SlOf w' w'.heap.size 1 IntC [1, 2] u := hd 7 10 rfl (by kernel_rfl) _ rfl
    unfold Oper.wp
    simp [execOp, e1, go_sem, Result.andThen]
    exact hK _ _ (Below.refl _ _) (factG_mk rfl rfl)
  case s10 =>
    intro A w' K hb hfar hd hK
    have e1 : SlOf w' w'.heap.size 1 IntC [1, 2] (A.tmps[18]?.getD undef) := hd 8 18 rfl (by kernel_rfl) _ rfl
    unfold Oper.wp
    simp [execOp, go_sem, Result.andThen]
    exact hK _ _ (Below.refl _ _) (factG_mk rfl e1)
  case s11 =>
    intro A w' K hb hfar hd hK
    have e1 : A.tmps[19]?.getD undef = .int .i64 0 := hd 9 19 rfl (by kernel_rfl) _ rfl
    unfold Oper.wp
    simp [execOp, e1, go_sem, Result.andThen]
    exact hK _ _ (Below.refl _ _) (factG_mk rfl rfl)
  case fin =>
    intro val w5 hF hb
    have f10 : SlOf w5 w5.heap.size 1 IntC [1, 2] (val 10) := hF 10 2 rfl _ rfl
    have f11 : val 11 = .int .i64 0 := hF 11 3 rfl _ rfl
    have r5 : TwoAt w5 B xS yS := (hb.block _ (heap_lt R4.out)).trans R4.out
    have q5 := (hb.block _ (heap_lt Q4.out)).trans Q4.out
    have B5 := Lib.hid (B4.out.trans ((drewB hb).mono B4.out.size))
    simp only [slots2, putsA, Nat.zero_add, Nat.reduceAdd, f11]
    obtain ⟨v0, e0⟩ : ∃ v, val 0 = v := ⟨_, rfl⟩
    obtain ⟨v1, e1⟩ : ∃ v, val 1 = v := ⟨_, rfl⟩
    obtain ⟨v2, e2⟩ : ∃ v, val 2 = v := ⟨_, rfl⟩
    obtain ⟨v3, e3⟩ : ∃ v, val 3 = v := ⟨_, rfl⟩
    obtain ⟨v4, e4⟩ : ∃ v, val 4 = v := ⟨_, rfl⟩
    obtain ⟨v5, e5⟩ : ∃ v, val 5 = v := ⟨_, rfl⟩
    obtain ⟨v6, e6⟩ : ∃ v, val 6 = v := ⟨_, rfl⟩
    obtain ⟨v7, e7⟩ : ∃ v, val 7 = v := ⟨_, rfl⟩
    obtain ⟨v8, e8⟩ : ∃ v, val 8 = v := ⟨_, rfl⟩
    obtain ⟨v9, e9⟩ : ∃ v, val 9 = v := ⟨_, rfl⟩
    obtain ⟨lv, e10⟩ : ∃ v, val 10 = v := ⟨_, rfl⟩
    rw [e10] at f10
    simp only [e0, e1, e2, e3, e4, e5, e6, e7, e8, e9, e10]
    clear hF hb f11 e0 e1 e2 e3 e4 e5 e6 e7 e8 e9 e10 val
    have F10 := Lib.hid f10
    have R5 := Lib.hid r5
    have Q5 := Lib.hid q5
    clear f10 r5 q5
    go_wp2_with fail
    go_simp
    refine wp_region_any (by kernel_rfl) ?_
    (try (change wpAny _ _ _ _ _ _ _ (World.drew _)))
    refine wpAny_grow slots3 _ _ (facts3 B) (by kernel_rfl) (by kernel_rfl) (by kernel_rfl) (by kernel_rfl) (by kernel_rfl) (facts3_mono B) ⟨?q0, ?q1, ?q2, ?q3, ?q4, ?q5, ?q6, ?q7, ?q8, ?q9, ?q10, ?q11, ?q12, ?q13, ?q14, trivial⟩ ?fin2
    case q0 =>
      intro A w' K hb hfar hd hK
      unfold Oper.wp
      go_simp
      refine (two_c w').mono ?_
      rintro e3 w3 ⟨v, rfl, h3, b3⟩
      exact hK _ _ b3 (factG_mk rfl h3)
    case q1 =>
      intro A w' K hb hfar hd hK
      unfold Oper.wp
      go_simp
      refine (v_c _ w').mono ?_
      rintro e3 w3 ⟨rfl, b3⟩
      exact hK _ _ b3 (factG_mk rfl rfl)
    case q2 =>
      intro A w' K hb hfar hd hK
      unfold Oper.wp
      go_simp
      refine (v_c _ w').mono ?_
      rintro e3 w3 ⟨rfl, b3⟩
      exact hK _ _ b3 (factG_mk rfl rfl)
    case q3 =>
      intro A w' K hb hfar hd hK
      have e1 : A.tmps[22]?.getD undef = .agg (vCells xS).toArray := hd 1 22 rfl (by kernel_rfl) _ rfl
      have e2 : A.tmps[23]?.getD undef = .agg (vCells xS).toArray := hd 2 23 rfl (by kernel_rfl) _ rfl
      unfold vCells at e1 e2
      unfold Oper.wp
      simp [execOp, e1, e2, go_sem, Result.andThen]
      exact hK _ _ ((Below.refl _ _).alloc (Nat.le_refl _) _) (factG_mk rfl ⟨_, rfl, by unfold TwoAt; exact World.alloc_heap_new w' _⟩)
    case q4 =>
      intro A w' K hb hfar hd hK
      obtain ⟨a1, e1, h1⟩ : ∃ a, A.tmps[24]?.getD undef = .slice (some ⟨a, 0, none⟩) 2 2 ∧ TwoAt w' a xS xS := hd 3 24 rfl (by kernel_rfl) _ rfl
      unfold Oper.wp
      simp [execOp, e1, go_sem, Result.andThen]
      exact hK _ _ (Below.refl _ _) (factG_mk rfl ⟨a1, rfl, h1⟩)
    case q5 =>
      intro A w' K hb hfar hd hK
      have e1 : A.tmps[1]?.getD undef = .pointer (some ⟨B + 1, 0, none⟩) := hfar 1 (by decide)
      have q := (hb.block _ (heap_lt Q5.out)).trans Q5.out
      have c0 : w'.cell? ⟨B + 1, 0, none⟩ = some (.string pS) := row_cells q 0
      have c1 : w'.cell? ⟨B + 1, 1, none⟩ = some (.slice (some ⟨B, 0, none⟩) 2 2) := row_cells q 1
      unfold Oper.wp
      simp [execOp, e1, c0, c1, go_sem, Result.andThen]
      exact hK _ _ (Below.refl _ _) (factG_mk rfl rfl)
    case q6 =>
      intro A w' K hb hfar hd hK
      have e1 : A.tmps[26]?.getD undef = .agg (xyCells B).toArray := hd 5 26 rfl (by kernel_rfl) _ rfl
      unfold xyCells at e1
      unfold Oper.wp
      simp [execOp, e1, go_sem, Result.andThen]
      exact hK _ _ (Below.refl _ _) (factG_mk rfl rfl)
    case q7 =>
      intro A w' K hb hfar hd hK
      have e1 : A.tmps[27]?.getD undef = .agg (litCells B).toArray := hd 6 27 rfl (by kernel_rfl) _ rfl
      unfold litCells xyCells at e1
      unfold Oper.wp
      simp [execOp, e1, go_sem, Result.andThen]
      exact hK _ _ ((Below.refl _ _).alloc (Nat.le_refl _) _) (factG_mk rfl ⟨_, rfl, by first | exact World.alloc_heap_new w' _ | (unfold TwoAt xS; exact World.alloc_heap_new w' _)⟩)
    case q8 =>
      intro A w' K hb hfar hd hK
      obtain ⟨a1, e1, h1⟩ : ∃ a, A.tmps[25]?.getD undef = .agg (xyCells a).toArray ∧ TwoAt w' a xS xS := hd 4 25 rfl (by kernel_rfl) _ rfl
      obtain ⟨b, e2, hr⟩ : ∃ b, A.tmps[28]?.getD undef = .slice (some ⟨b, 0, none⟩) 1 1 ∧ w'.heap[b]? = some (.cells (litCells B).toArray 56 (0, 0)) := hd 7 28 rfl (by kernel_rfl) _ rfl
      unfold xyCells at e1
      unfold Oper.wp
      simp [execOp, e1, e2, go_sem, Result.andThen]
      exact hK _ _ (Below.refl _ _) (factG_mk rfl ⟨a1, b, rfl, h1, hr⟩)
    case q9 =>
      intro A w' K hb hfar hd hK
      have e1 : SlOf w' w'.heap.size 6 (DeC w' w'.heap.size) [twoD] (A.tmps[21]?.getD undef) := hd 0 21 rfl (by kernel_rfl) _ rfl
      obtain ⟨a1, b, e2, h1, hr⟩ : ∃ a b, A.tmps[29]?.getD undef = .agg (ruCells a b).toArray ∧ TwoAt w' a xS xS ∧ w'.heap[b]? = some (.cells (litCells B).toArray 56 (0, 0)) := hd 8 29 rfl (by kernel_rfl) _ rfl
      have hb' := B5.out.trans ((drewB hb).mono B5.out.size)
      have h2 : TwoAt w' B xS yS := (hb.block _ (heap_lt R5.out)).trans R5.out
      have hT := types_c [twoD] (A.tmps[21]?.getD undef) xxR (ruCells a1 b) e a b' c d w' e1 (xy_ru h1 h2 (by decide) (by decide) hr) xx_len.1 xx_len.2 (HE.out.below hb')
      unfold Oper.wp
      simp [execOp, e2, go_sem, Result.andThen]
      refine hT.mono ?_
      rintro e3 w3 ⟨u, l, k, rfl, h1, h2, b3⟩
      obtain ⟨rfl, rfl⟩ := types_xx h1
      exact hK _ _ b3 (factG_mk rfl ⟨u, rfl⟩)
    case q10 =>
      intro A w' K hb hfar hd hK
      obtain ⟨u, e1⟩ : ∃ u, A.tmps[30]?.getD undef = .tuple #[u, .int .i64 53] := hd 9 30 rfl (by kernel_rfl) _ rfl
      unfold Oper.wp
      simp [execOp, e1, go_sem, Result.andThen]
      exact hK _ _ (Below.refl _ _) (factG_mk rfl ⟨u, rfl⟩)
    case q11 =>
      intro A w' K hb hfar hd hK
      obtain ⟨u, e1⟩ : ∃ u, A.tmps[20]?.getD undef = .tuple #[u, .int .i64 53] := hd 10 20 rfl (by kernel_rfl) _ rfl
      unfold Oper.wp
      simp [execOp, e1, go_sem, Result.andThen]
      exact hK _ _ (Below.refl _ _) (factG_mk rfl trivial)
    case q12 =>
      intro A w' K hb hfar hd hK
      obtain ⟨u, e1⟩ : ∃ u, A.tmps[20]?.getD undef = .tuple #[u, .int .i64 53] := hd 10 20 rfl (by kernel_rfl) _ rfl
      unfold Oper.wp
      simp [execOp, e1, go_sem, Result.andThen]
      exact hK _ _ (Below.refl _ _) (factG_mk rfl rfl)
    case q13 =>
      intro A w' K hb hfar hd hK
      unfold Oper.wp
      simp [execOp, go_sem, Result.andThen]
      exact hK _ _ (Below.refl _ _) (factG_mk rfl trivial)
    case q14 =>
      intro A w' K hb hfar hd hK
      have e1 : A.tmps[32]?.getD undef = .int .i64 53 := hd 12 32 rfl (by kernel_rfl) _ rfl
      unfold Oper.wp
      simp [execOp, e1, go_sem, Result.andThen]
      exact hK _ _ (Below.refl _ _) (factG_mk rfl rfl)
    case fin2 =>
      intro val w6 hF hb
      have f14 : val 14 = .int .i64 53 := hF 14 5 rfl _ rfl
      have B6 := Lib.hid (B5.out.trans ((drewB hb).mono B5.out.size))
      have h6 : SlOf w6 w6.heap.size 1 IntC [1, 2] lv := SlOf.int F10.out (drewB hb) hb.size
      obtain ⟨Z, hZ⟩ : ∃ Z : Obj, .cells #[.int .i64 1, .int .i64 2] 3 = Z := ⟨_, rfl⟩
      have b7 : Below w6.heap.size w6 (w6.alloc Z) := (Below.refl _ _).alloc (Nat.le_refl _) _
      have h7 : SlOf (w6.alloc Z) (w6.alloc Z).heap.size 1 IntC [1, 2] (.slice (some ⟨w6.heap.size, 0, none⟩) 2 2) := by
        refine sl_cells (l := [(1 : Int), 2]) [[.int .i64 1], [.int .i64 2]] (by rw [← hZ]; exact World.alloc_heap_new w6 _) rfl (by simp) ?_ (by decide)
        intro i x cs hx hc
        match i, hx, hc with
        | 0, hx, hc => simp at hx hc; subst hx hc; exact ⟨rfl, by unfold I64; decide⟩
        | 1, hx, hc => simp at hx hc; subst hx hc; exact ⟨rfl, by unfold I64; decide⟩
        | i + 2, hx, _ => simp at hx
      have HS := Lib.hid (sameInts_c [1, 2] [1, 2] _ _ _ (SlOf.int h6 b7 b7.size) h7)
      have B7 := Lib.hid (B6.out.trans (b7.mono B6.out.size))
      subst hZ
      obtain ⟨o6, k6, rfl, _⟩ := SlOf.uni h6
      simp only [slots3, putsA, Nat.zero_add, Nat.reduceAdd, f14]
      clear hF hb f14 h6 h7 b7
      go_simp
      go_wp2_with fail
      refine HS.out.mono ?_
      rintro e7 w7 ⟨rfl, b7⟩
      have B8 := Lib.hid (B7.out.trans (b7.mono B7.out.size))
      go_wp2
      go_ret
      exact ⟨rfl, B8.out⟩
end Go.Proofs.YtbpdfmpfnbdeoaaGreatDoor
namespace Go.Proofs.YtbpdfmpfnbdeoaaGreatDoor
open Go.RowKit

def slotsLV : List (Option Tmp) := [some 4, some 5, some 6, some 7, some 8, some 9, some 10, some 3]
def factsLV (B : Nat) (cx cy : Array Value) (X Y : List ByteArray) : List (Value → World → Prop) :=
  [fun v _ => v = .pointer (some ⟨B, 3, none⟩), fun v _ => v = .agg cx, fun v w => SlOf w w.heap.size 1 StrC X v, fun v _ => v = .pointer (some ⟨B, 7, none⟩), fun v _ => v = .agg cy, fun v w => SlOf w w.heap.size 1 StrC Y v,
   fun v w => SlOf w w.heap.size 1 StrC (withV X Y) v, fun v w => SlOf w w.heap.size 1 StrC (withV X Y) v]
theorem factsLV_mono (B : Nat) (cx cy : Array Value) (X Y : List ByteArray) : ∀ p ∈ factsLV B cx cy X Y, ∀ v w w', p v w → Below w.heap.size w w' → p v w' := by
  intro p hp v w w' h hb
  unfold factsLV at hp
  simp only [List.mem_cons, List.not_mem_nil, or_false] at hp
  rcases hp with rfl | rfl | rfl | rfl | rfl | rfl | rfl | rfl
  · exact h
  · exact h
  · exact SlOf.str h hb hb.size
  · exact h
  · exact h
  · exact SlOf.str h hb hb.size
  · exact SlOf.str h hb hb.size
  · exact SlOf.str h hb hb.size
theorem litTs_len (t : Lt) : (litTs t).length = (subT t.x).length + (subT t.y).length + (subTs t.a.l).length := by
  unfold litTs
  rw [List.length_append, subTs, subTs, subTs, List.append_nil, List.length_append]
theorem litTs_mem {t : Lt} {u : Tm} : u ∈ litTs t ↔ u ∈ subT t.x ∨ u ∈ subT t.y ∨ u ∈ subTs t.a.l := by
  unfold litTs
  rw [List.mem_append, subTs, subTs, subTs, List.append_nil, List.mem_append, or_assoc]
theorem litTs_vars (t : Lt) : varsV (litTs t) = withV (withV (varsV (subT t.x)) (varsV (subT t.y))) (varsM t.a) := by
  unfold litTs varsM
  rw [varsV_app, subTs, subTs, subTs, List.append_nil, varsV_app]
set_option maxRecDepth 100000 in
set_option maxHeartbeats 4000000 in
theorem litVars_c (t : Lt) (w : World) (cs : List Value) (hc : LtC w w.heap.size t cs) (hv : ∀ u ∈ litTs t, u.op = 1 → u.l = []) (hn : (litTs t).length ≤ 1000000) :
    Calls Tryz.prog 82 #[.agg cs.toArray] w (VarsR (varsV (litTs t)) w.heap.size w) := by
  have hlen := litTs_len t
  have hX : ∀ (W : World) (cs : List Value), TmC W W.heap.size t.x cs → Calls Tryz.prog 80 #[.agg cs.toArray] W (VarsR (varsV (subT t.x)) W.heap.size W) := fun W cs hc => termVars_c _ t.x W cs (Nat.le_refl _) hc (fun u hu => hv u (litTs_mem.2 (.inl hu))) (by omega)
  have hY : ∀ (W : World) (cs : List Value), TmC W W.heap.size t.y cs → Calls Tryz.prog 80 #[.agg cs.toArray] W (VarsR (varsV (subT t.y)) W.heap.size W) := fun W cs hc => termVars_c _ t.y W cs (Nat.le_refl _) hc (fun u hu => hv u (litTs_mem.2 (.inr (.inl hu)))) (by omega)
  have hA : ∀ (W : World) (cs : List Value), AmC W W.heap.size t.a cs → Calls Tryz.prog 43 #[.agg cs.toArray] W (VarsR (varsM t.a) W.heap.size W) := fun W cs hc => atomVars_c t.a W cs hc (fun u hu => hv u (litTs_mem.2 (.inr (.inr hu)))) (by omega)
  have l1 := varsV_len (subT t.x)
  have l2 := varsV_len (subT t.y)
  have l3 := varsV_len (subTs t.a.l)
  have l4 := withV_len (varsV (subT t.x)) (varsV (subT t.y))
  have HW1 := Lib.hid (fun (W : World) (v u : Value) (h1 : SlOf W W.heap.size 1 StrC (varsV (subT t.x)) v) (h2 : SlOf W W.heap.size 1 StrC (varsV (subT t.y)) u) => with_c _ _ v u W h1 h2 (by omega))
  have HW2 := Lib.hid (fun (W : World) (v u : Value) (h1 : SlOf W W.heap.size 1 StrC (withV (varsV (subT t.x)) (varsV (subT t.y))) v) (h2 : SlOf W W.heap.size 1 StrC (varsM t.a) u) => with_c _ _ v u W h1 h2 (by unfold varsM; omega))
  have HX := Lib.hid hX
  have HY := Lib.hid hY
  have HA := Lib.hid hA
  rw [litTs_vars]
  obtain ⟨X, hXe⟩ : ∃ X, varsV (subT t.x) = X := ⟨_, rfl⟩
  obtain ⟨Y, hYe⟩ : ∃ Y, varsV (subT t.y) = Y := ⟨_, rfl⟩
  obtain ⟨Z, hZe⟩ : ∃ Z, varsM t.a = Z := ⟨_, rfl⟩
  rw [hXe] at HX HW1 HW2 ⊢
  rw [hYe] at HY HW1 HW2 ⊢
  rw [hZe] at HA HW2 ⊢
  clear hX hY hA l1 l2 l3 l4 hXe hYe hZe hlen hv hn
  obtain ⟨ca, cx, cy, rfl, _, ha, hx, hy⟩ := hc
  obtain ⟨v0, rfl, _, hal⟩ := ha
  obtain ⟨o0, k0, rfl, _⟩ := SlOf.uni hal
  obtain ⟨o1, k1, rfl, _⟩ := hx.look
  obtain ⟨o2, k2, rfl, _⟩ := hy.look
  have Hx := Lib.hid hx
  have Hy := Lib.hid hy
  have Ha : Hid (AmC w w.heap.size t.a [.string t.a.rel, .slice o0 t.a.l.length k0]) := Lib.hid ⟨_, rfl, by assumption, hal⟩
  clear hx hy hal
  simp only [List.cons_append, List.nil_append]
  go_enter Tryz.func82, Tryz.ntmps82
  go_wp2_with fail
  obtain ⟨C, hC⟩ : ∃ C : Array Value, #[.int .i64 t.op, .string t.a.rel, .slice o0 t.a.l.length k0, .int .i64 t.x.op, .string t.x.s, .int .i64 t.x.n, .slice o1 t.x.l.length k1, .int .i64 t.y.op, .string t.y.s, .int .i64 t.y.n, .slice o2 t.y.l.length k2] = C := ⟨_, rfl⟩
  have r1 : (w.alloc (.cells #[.int .i64 t.op, .string t.a.rel, .slice o0 t.a.l.length k0, .int .i64 t.x.op, .string t.x.s, .int .i64 t.x.n, .slice o1 t.x.l.length k1, .int .i64 t.y.op, .string t.y.s, .int .i64 t.y.n, .slice o2 t.y.l.length k2] 56)).heap[w.heap.size]? = some (.cells #[.int .i64 t.op, .string t.a.rel, .slice o0 t.a.l.length k0, .int .i64 t.x.op, .string t.x.s, .int .i64 t.x.n, .slice o1 t.x.l.length k1, .int .i64 t.y.op, .string t.y.s, .int .i64 t.y.n, .slice o2 t.y.l.length k2] 56 (0, 0)) := World.alloc_heap_new w _
  have b1 : Below w.heap.size w (w.alloc (.cells #[.int .i64 t.op, .string t.a.rel, .slice o0 t.a.l.length k0, .int .i64 t.x.op, .string t.x.s, .int .i64 t.x.n, .slice o1 t.x.l.length k1, .int .i64 t.y.op, .string t.y.s, .int .i64 t.y.n, .slice o2 t.y.l.length k2] 56)) := (Below.refl _ _).alloc (Nat.le_refl _) _
  clear hC C
  generalize w.alloc (.cells #[.int .i64 t.op, .string t.a.rel, .slice o0 t.a.l.length k0, .int .i64 t.x.op, .string t.x.s, .int .i64 t.x.n, .slice o1 t.x.l.length k1, .int .i64 t.y.op, .string t.y.s, .int .i64 t.y.n, .slice o2 t.y.l.length k2] 56) = W1 at *
  have R1 := Lib.hid r1
  have B1 := Lib.hid b1
  clear r1 b1
  refine wp_region_any (by kernel_rfl) ?_
  (try (change wpAny _ _ _ _ _ _ _ (World.drew _)))
  refine wpAny_grow slotsLV _ _ (factsLV w.heap.size #[.int .i64 t.x.op, .string t.x.s, .int .i64 t.x.n, .slice o1 t.x.l.length k1] #[.int .i64 t.y.op, .string t.y.s, .int .i64 t.y.n, .slice o2 t.y.l.length k2] X Y) (by kernel_rfl) (by kernel_rfl) (by kernel_rfl) (by kernel_rfl) (by kernel_rfl) (factsLV_mono _ _ _ _ _) ⟨?s0, ?s1, ?s2, ?s3, ?s4, ?s5, ?s6, ?s7, trivial⟩ ?fin
  case s0 =>
    intro A w' K hb hfar hd hK
    have e1 : A.tmps[1]?.getD undef = .pointer (some ⟨w.heap.size, 0, none⟩) := hfar 1 (by decide)
    unfold Oper.wp
    simp [execOp, e1, go_sem, Result.andThen]
    exact hK _ _ (Below.refl _ _) (factG_mk rfl rfl)
  case s3 =>
    intro A w' K hb hfar hd hK
    have e1 : A.tmps[1]?.getD undef = .pointer (some ⟨w.heap.size, 0, none⟩) := hfar 1 (by decide)
    unfold Oper.wp
    simp [execOp, e1, go_sem, Result.andThen]
    exact hK _ _ (Below.refl _ _) (factG_mk rfl rfl)
  case s1 =>
    intro A w' K hb hfar hd hK
    have e1 : A.tmps[4]?.getD undef = .pointer (some ⟨w.heap.size, 3, none⟩) := hd 0 4 rfl (by kernel_rfl) _ rfl
    have q := (hb.block _ (heap_lt R1.out)).trans R1.out
    have c0 : w'.cell? ⟨w.heap.size, 3, none⟩ = some (.int .i64 t.x.op) := row_cells q 3
    have c1 : w'.cell? ⟨w.heap.size, 4, none⟩ = some (.string t.x.s) := row_cells q 4
    have c2 : w'.cell? ⟨w.heap.size, 5, none⟩ = some (.int .i64 t.x.n) := row_cells q 5
    have c3 : w'.cell? ⟨w.heap.size, 6, none⟩ = some (.slice o1 t.x.l.length k1) := row_cells q 6
    unfold Oper.wp
    simp [execOp, e1, c0, c1, c2, c3, go_sem, Result.andThen]
    exact hK _ _ (Below.refl _ _) (factG_mk rfl rfl)
  case s4 =>
    intro A w' K hb hfar hd hK
    have e1 : A.tmps[7]?.getD undef = .pointer (some ⟨w.heap.size, 7, none⟩) := hd 3 7 rfl (by kernel_rfl) _ rfl
    have q := (hb.block _ (heap_lt R1.out)).trans R1.out
    have c0 : w'.cell? ⟨w.heap.size, 7, none⟩ = some (.int .i64 t.y.op) := row_cells q 7
    have c1 : w'.cell? ⟨w.heap.size, 8, none⟩ = some (.string t.y.s) := row_cells q 8
    have c2 : w'.cell? ⟨w.heap.size, 9, none⟩ = some (.int .i64 t.y.n) := row_cells q 9
    have c3 : w'.cell? ⟨w.heap.size, 10, none⟩ = some (.slice o2 t.y.l.length k2) := row_cells q 10
    unfold Oper.wp
    simp [execOp, e1, c0, c1, c2, c3, go_sem, Result.andThen]
    exact hK _ _ (Below.refl _ _) (factG_mk rfl rfl)
  case s2 =>
    intro A w' K hb hfar hd hK
    have e1 : A.tmps[5]?.getD undef = .agg #[.int .i64 t.x.op, .string t.x.s, .int .i64 t.x.n, .slice o1 t.x.l.length k1] := hd 1 5 rfl (by kernel_rfl) _ rfl
    have hb' := B1.out.trans ((drewB hb).mono B1.out.size)
    have hT := HX.out w' _ ((Hx.out.under hb').more hb'.size)
    unfold Oper.wp
    simp [execOp, e1, go_sem, Result.andThen]
    refine hT.mono ?_
    rintro e3 w3 ⟨u, rfl, h2, b3⟩
    exact hK _ _ b3 (factG_mk rfl h2)
  case s5 =>
    intro A w' K hb hfar hd hK
    have e1 : A.tmps[8]?.getD undef = .agg #[.int .i64 t.y.op, .string t.y.s, .int .i64 t.y.n, .slice o2 t.y.l.length k2] := hd 4 8 rfl (by kernel_rfl) _ rfl
    have hb' := B1.out.trans ((drewB hb).mono B1.out.size)
    have hT := HY.out w' _ ((Hy.out.under hb').more hb'.size)
    unfold Oper.wp
    simp [execOp, e1, go_sem, Result.andThen]
    refine hT.mono ?_
    rintro e3 w3 ⟨u, rfl, h2, b3⟩
    exact hK _ _ b3 (factG_mk rfl h2)
  case s6 =>
    intro A w' K hb hfar hd hK
    have e1 : SlOf w' w'.heap.size 1 StrC X (A.tmps[6]?.getD undef) := hd 2 6 rfl (by kernel_rfl) _ rfl
    have e2 : SlOf w' w'.heap.size 1 StrC Y (A.tmps[9]?.getD undef) := hd 5 9 rfl (by kernel_rfl) _ rfl
    have hT := HW1.out w' _ _ e1 e2
    unfold Oper.wp
    simp [execOp, go_sem, Result.andThen]
    refine hT.mono ?_
    rintro e3 w3 ⟨u, rfl, h2, b3⟩
    exact hK _ _ b3 (factG_mk rfl h2)
  case s7 =>
    intro A w' K hb hfar hd hK
    have e1 : SlOf w' w'.heap.size 1 StrC (withV X Y) (A.tmps[10]?.getD undef) := hd 6 10 rfl (by kernel_rfl) _ rfl
    unfold Oper.wp
    simp [execOp, go_sem, Result.andThen]
    exact hK _ _ (Below.refl _ _) (factG_mk rfl e1)
  case fin =>
    intro val w4 hF hb
    have h7 : SlOf w4 w4.heap.size 1 StrC (withV X Y) (val 7) := hF 7 3 rfl _ rfl
    have q := (hb.block _ (heap_lt R1.out)).trans R1.out
    have c0 : w4.cell? ⟨w.heap.size, 1, none⟩ = some (.string t.a.rel) := row_cells q 1
    have c1 : w4.cell? ⟨w.heap.size, 2, none⟩ = some (.slice o0 t.a.l.length k0) := row_cells q 2
    have hb' := B1.out.trans ((drewB hb).mono B1.out.size)
    have HT := Lib.hid (HA.out w4 _ ((Ha.out.below hb').more hb'.size))
    have H7 := Lib.hid h7
    have B4 := Lib.hid hb'
    have hz : w.heap.size < w4.heap.size := heap_lt q
    obtain ⟨o7, k7, e7, _⟩ := SlOf.uni h7
    simp only [slotsLV, putsA, Nat.zero_add, Nat.reduceAdd]
    rw [e7] at H7
    simp only [e7]
    clear hF hb q hb' h7 e7
    go_simp
    go_wp2_with fail
    refine HT.out.mono ?_
    rintro e5 w5 ⟨v5, rfl, hS5, b5⟩
    have HW := Lib.hid (HW2.out w5 _ _ (SlOf.str H7.out b5 b5.size) hS5)
    have B5 := Lib.hid (B4.out.trans (b5.mono B4.out.size))
    obtain ⟨o5, k5, rfl, _⟩ := SlOf.uni hS5
    clear hS5 b5 HT c0 c1
    go_wp2_with fail
    refine HW.out.mono ?_
    rintro e6 w6 ⟨v6, rfl, hS6, b6⟩
    have HS6 := Lib.hid hS6
    have B6 := Lib.hid (B5.out.trans (b6.mono B5.out.size))
    clear hS6 b6 HW
    go_wp2
    go_ret
    exact ⟨_, rfl, HS6.out, B6.out⟩
end Go.Proofs.YtbpdfmpfnbdeoaaGreatDoor
namespace Go.Proofs.YtbpdfmpfnbdeoaaGreatDoor
open Go.RowKit

theorem rightT_leaf1 : ∀ (h : Nat) (t : Tm), rightT h t = true → ∀ u ∈ subT t, u.op = 1 → u.l = []
  | 0, t, hr => by unfold rightT at hr; cases hr
  | h + 1, t, hr => by
    intro u hu h1
    rcases rightT_cases hr with ⟨h2, a, b, hl, ha, hb⟩ | ⟨h2, hl, ho⟩
    · rcases mem_subT.1 hu with rfl | hu
      · have := twoB_op h2
        omega
      · rw [hl] at hu
        obtain ⟨c, hc, hu⟩ := mem_subTs.1 hu
        have hc : c = a ∨ c = b := by simpa using hc
        rcases hc with e | e
        · rw [e] at hu; exact rightT_leaf1 h a ha u hu h1
        · rw [e] at hu; exact rightT_leaf1 h b hb u hu h1
    · rcases mem_subT.1 hu with rfl | hu
      · exact hl
      · rw [hl] at hu; simp [subTs] at hu
theorem noT_leaf1 {t : Tm} (h : noT t = true) : ∀ u ∈ subT t, u.op = 1 → u.l = [] := fun u hu h1 => by
  obtain ⟨n1, n2⟩ := noT_op h
  rcases mem_subT.1 hu with rfl | hu
  · omega
  · rw [n2] at hu; simp [subTs] at hu
theorem rightA_leaf1 {a : Am} (h : rightA a = true) : ∀ u ∈ subTs a.l, u.op = 1 → u.l = [] := fun u hu => by
  obtain ⟨t, ht, hu⟩ := mem_subTs.1 hu
  exact rightT_leaf1 20 t (right_arg h t ht) u hu
theorem rightL_leaf1 {l : Lt} (h : rightL l = true) : ∀ u ∈ litTs l, u.op = 1 → u.l = [] := fun u hu => by
  cases hd : duoB l with
  | true =>
    obtain ⟨na, hx, hy⟩ := right_duo h hd
    rcases litTs_mem.1 hu with hu | hu | hu
    · exact rightT_leaf1 20 _ hx u hu
    · exact rightT_leaf1 20 _ hy u hu
    · rw [noA_l na] at hu; simp [subTs] at hu
  | false =>
    rcases agg_or hd with h1 | h1
    · obtain ⟨ha, hx, hy⟩ := right_plain h h1
      rcases litTs_mem.1 hu with hu | hu | hu
      · exact noT_leaf1 hx u hu
      · exact noT_leaf1 hy u hu
      · exact rightA_leaf1 ha u hu
    · obtain ⟨ha, hx, hy⟩ := right_agg h h1
      rcases litTs_mem.1 hu with hu | hu | hu
      · exact rightT_leaf1 20 _ hx u hu
      · rcases hy with ⟨_, hy⟩ | ⟨_, _, hy⟩
        · exact noT_leaf1 hy u hu
        · exact rightT_leaf1 20 _ hy u hu
      · exact rightA_leaf1 ha u hu
theorem body_step {l : List Lt} {k : Nat} {t : Lt} (a : List Tm) (h : l[k]? = some t) : varsV (a ++ (l.take (k + 1)).flatMap litTs) = withV (varsV (a ++ (l.take k).flatMap litTs)) (varsV (litTs t)) := by
  rw [termsR_take h, ← List.append_assoc, varsV_app]
theorem body_sum {l : List Lt} {k : Nat} {t : Lt} {a : List Tm} (h : l[k]? = some t) (hn : (a ++ l.flatMap litTs).length ≤ 1000000) : (varsV (a ++ (l.take k).flatMap litTs)).length + (varsV (litTs t)).length ≤ 1000000 := by
  have h1 := varsV_len (a ++ (l.take k).flatMap litTs)
  have h2 := varsV_len (litTs t)
  have h3 := (termsR_pre l (k + 1)).length_le
  rw [termsR_take h, List.length_append] at h3
  rw [List.length_append] at h1 hn
  omega
set_option maxRecDepth 100000 in
set_option maxHeartbeats 4000000 in
theorem vars5_c (r : Ru) (w : World) (cs : List Value) (hc : RuC w w.heap.size r cs) (hn : (termsR r).length ≤ 1000000) :
    Calls Tryz.prog 48 #[.agg cs.toArray] w (VarsR (varsA r) w.heap.size w) := by
  have HR := Lib.hid (fun (W : World) (hb : Below w.heap.size w W) => rrightRule_c r W cs ((hc.below hb).more hb.size))
  have HC := Lib.hid hc
  obtain ⟨o0, k0, o1, k1, rfl, _, hh, hbd⟩ := hc.look
  have HB0 : Hid (∀ (x : Obj), Below w.heap.size w (w.alloc x)) := Lib.hid fun x => (Below.refl _ _).alloc (Nat.le_refl _) _
  obtain ⟨o2, k2, e2, hc1, hm1, S1⟩ := SlOf.open hbd
  cases e2
  have HH := Lib.hid hh
  have HN := Lib.hid hn
  clear hc hh hbd hn
  go_enter Tryz.func48, Tryz.ntmps48
  go_wp2_with fail
  refine (HR.out _ (HB0.out _)).mono ?_
  rintro e w1 ⟨rfl, b1⟩
  have q1 := (b1.block w.heap.size (by simp)).trans (World.alloc_heap_new w _)
  have B1 := Lib.hid ((HB0.out _).trans (b1.mono (by simp)))
  have Q1 := Lib.hid q1
  clear b1 q1
  have HV1 : Hid (rightR r = true → varsA r = varsV (subTs r.head.l ++ r.body.flatMap litTs)) := Lib.hid fun h => by unfold varsA; rw [if_pos h]; rfl
  have HV0 : Hid (rightR r = false → varsA r = []) := Lib.hid fun h => by unfold varsA; rw [h]; rfl
  cases hr : rightR r with
  | false =>
    have HV := Lib.hid (HV0.out hr)
    clear hr
    go_wp2
    go_ret
    exact ⟨_, rfl, .inl ⟨rfl, HV.out⟩, B1.out⟩
  | true =>
    have hA : rightA r.head = true := right_atoms hr _ (List.mem_cons_self ..)
    have hL := right_lits hr
    have hlenA : (subTs r.head.l).length ≤ 1000000 := by
      have := HN.out
      unfold termsR at this
      rw [List.length_append] at this
      omega
    have HAV := Lib.hid (atomVars_c r.head w1 _ ((HH.out.below B1.out).more B1.out.size) (rightA_leaf1 hA) hlenA)
    have HLV := Lib.hid (fun (t : Lt) (ht : t ∈ r.body) (W : World) (cs : List Value) (hc : LtC W W.heap.size t cs) => litVars_c t W cs hc (rightL_leaf1 (hL t ht)) (by
      have := HN.out
      obtain ⟨k, hk⟩ := List.mem_iff_getElem?.1 ht
      have h3 := (termsR_pre r.body (k + 1)).length_le
      rw [termsR_take hk, List.length_append] at h3
      unfold termsR at this
      rw [List.length_append] at this
      omega))
    have c0 : w1.cell? ⟨w.heap.size, 0, none⟩ = some (.string r.head.rel) := row_cells Q1.out 0
    have c1 : w1.cell? ⟨w.heap.size, 1, none⟩ = some (.slice o0 r.head.l.length k0) := row_cells Q1.out 1
    have hz1 : w.heap.size < w1.heap.size := heap_lt Q1.out
    have HV := Lib.hid (HV1.out hr)
    clear hr hA hL hlenA
    unfold varsM at HAV
    go_wp2_with fail
    refine HAV.out.mono ?_
    rintro e w2 ⟨v2, rfl, hS2, b2⟩
    have q2 := (b2.block w.heap.size hz1).trans Q1.out
    have B2 := Lib.hid (B1.out.trans (b2.mono B1.out.size))
    have Q2 := Lib.hid q2
    have HS2 := Lib.hid hS2
    obtain ⟨ov, kv, rfl, _⟩ := SlOf.uni hS2
    clear q2 b2 hS2 HAV c0 c1
    go_wp2
    go_loopw [4, 5] (fun lv i wr => ∃ k : Nat, k ≤ r.body.length ∧ i = .int .i64 k ∧ SlOf wr wr.heap.size 1 StrC (varsV (subTs r.head.l ++ (r.body.take k).flatMap litTs)) lv ∧ Below w2.heap.size w2 wr) (fun _ i _ => r.body.length - (intOf i).toNat)
    case atStart => exact ⟨0, Nat.zero_le _, rfl, by simpa using HS2.out, Below.refl _ _⟩
    case round =>
      obtain ⟨k, hk, rfl, hsl, hB2⟩ := hrel
      have hB : Below w.heap.size w wr := B2.out.trans (hB2.mono B2.out.size)
      have HSl := Lib.hid hsl
      have qr := (hB2.block w.heap.size (heap_lt Q2.out)).trans Q2.out
      have hz0 : w.heap.size < wr.heap.size := heap_lt qr
      have x0 : wr.cell? ⟨w.heap.size, 2, none⟩ = some (.slice o1 r.body.length k1) := row_cells qr 2
      have hBs := hB2.size
      obtain ⟨ov2, kv2, rfl, _⟩ := SlOf.uni hsl
      clear hsl qr
      by_cases hlt : k < r.body.length
      · have hlt3 : (k : Int) < (r.body.length : Int) := by omega
        obtain ⟨t, ht⟩ : ∃ t, r.body[k]? = some t := ⟨_, List.getElem?_eq_getElem hlt⟩
        obtain ⟨a, p0, q0, p1, q1, p2, q2, rfl, ha, Hc, c0, c1, c2, c3, c4, c5, c6, c7, c8, c9, c10⟩ := lt_at S1 hB ht
        have hal : (a.add (k * 11)).block < wr.heap.size := by rw [addBlock]; have := B2.out.size; omega
        have HCL := Lib.hid (HLV.out t (List.mem_of_getElem? ht) wr _ Hc.out)
        have Hst := Lib.hid (body_step (subTs r.head.l) ht)
        have Hsum := Lib.hid (body_sum ht HN.out)
        have HB := Lib.hid hB2
        clear ht hB2 hB
        go_wp2_with fail
        refine HCL.out.mono ?_
        rintro e3 w3 ⟨v3, rfl, hS3, b3⟩
        have HW := Lib.hid (with_c _ _ _ _ w3 (SlOf.str HSl.out b3 b3.size) hS3 Hsum.out)
        have HB3 := Lib.hid (HB.out.trans (b3.mono HB.out.size))
        obtain ⟨o3, k3, rfl, _⟩ := SlOf.uni hS3
        clear hS3 b3 HCL
        go_wp2_with fail
        refine HW.out.mono ?_
        rintro e4 w4 ⟨v4, rfl, hS4, b4⟩
        have HS4 := Lib.hid hS4
        have HB4 := Lib.hid (HB3.out.trans (b4.mono HB3.out.size))
        clear hS4 b4 HW
        go_wp2
        go_roundw
        case rel => exact ⟨k + 1, hlt, by go_num, by rw [Hst.out]; exact HS4.out, HB4.out⟩
        case measure => simp [intOf]; omega
      · have hlt3 : ¬ (k : Int) < (r.body.length : Int) := by omega
        obtain rfl : k = r.body.length := by omega
        have HB := Lib.hid hB
        have HS3 := Lib.hid HSl.out
        rw [List.take_of_length_le (Nat.le_refl _)] at HS3
        clear hB hB2
        go_wp2
        go_ret
        exact ⟨_, rfl, by rw [HV.out]; exact HS3.out, HB.out⟩
theorem findY_hit {s : ByteArray} {l : List De} {k : Nat} {d : De} (hd : l[k]? = some d) (hn : ∀ x ∈ l.take k, relY s x = false) (hr : relY s d = true) : findY s l = some k := by
  have key : ∀ (l : List De) (j k : Nat), l[k]? = some d → (∀ x ∈ l.take k, relY s x = false) → ixY s j l = ((j + k : Nat) : Int) := by
    intro l
    induction l with
    | nil => intro j k h; simp at h
    | cons x l ih =>
      intro j k h hn
      cases k with
      | zero =>
        have : x = d := by simpa using h
        subst this
        unfold ixY
        rw [if_pos hr]
        rfl
      | succ k =>
        have hx := hn x (by simp)
        unfold ixY
        rw [hx, if_neg (by decide), ih (j + 1) k (by simpa using h) (fun y hy => hn y (by simp [hy]))]
        omega
  unfold findY
  rw [key l 0 k hd hn, if_neg (by omega)]
  simp
theorem findY_miss {s : ByteArray} {l : List De} (hn : ∀ x ∈ l, relY s x = false) : findY s l = none := by
  have key : ∀ (l : List De) (j : Nat), (∀ x ∈ l, relY s x = false) → ixY s j l = -1 := by
    intro l
    induction l with
    | nil => intro j _; rfl
    | cons x l ih =>
      intro j hn
      unfold ixY
      rw [hn x (List.mem_cons_self ..), if_neg (by decide)]
      exact ih _ fun y hy => hn y (List.mem_cons_of_mem _ hy)
  unfold findY
  rw [key l 0 hn, if_pos (by decide)]
set_option maxRecDepth 100000 in
set_option maxHeartbeats 4000000 in
theorem find5_c (s : ByteArray) (l : List De) (v : Value) (w : World) (hl : SlOf w w.heap.size 6 (DeC w w.heap.size) l v) :
    Calls Tryz.prog 34 #[v, .string s] w fun e w' => e = .returned (findV (findY s l)) ∧ Below w.heap.size w w' := by
  obtain ⟨o1, k1, rfl, _, _, S1⟩ := SlOf.open hl
  have HB0 : Hid (Below w.heap.size w w) := Lib.hid (Below.refl _ _)
  clear hl
  go_enter Tryz.func34, Tryz.ntmps34
  go_wp2
  go_loopw [6] (fun i wr => ∃ k : Nat, k ≤ l.length ∧ i = .int .i64 k ∧ (∀ x ∈ l.take k, relY s x = false) ∧ Below w.heap.size w wr) (fun i _ => l.length - (intOf i).toNat)
  case atStart => exact ⟨0, Nat.zero_le _, rfl, by simp, HB0.out⟩
  case round =>
    obtain ⟨k, hk, rfl, hr, hB⟩ := hrel
    have Hr := Lib.hid hr
    clear hr
    by_cases hlt : k < l.length
    · have hlt' : (k : Int) < (l.length : Int) := by omega
      obtain ⟨x, hx⟩ : ∃ x, l[k]? = some x := ⟨l[k], List.getElem?_eq_getElem hlt⟩
      obtain ⟨a, p0, q0, p1, q1, rfl, ha, Hc, c0, _⟩ := de_at S1 hB hx
      have hal : (a.add (k * 6)).block < wr.heap.size := by rw [addBlock]; have := hB.size; omega
      cases hxy : relY s x with
      | true =>
        have Hz : Hid (findY s l = some k) := Lib.hid (findY_hit hx Hr.out hxy)
        have hxe : (x.rel.toList == s.toList) = true := hxy
        clear hx
        go_wp2
        go_ret2
        exact ⟨by rw [Hz.out]; rfl, hB⟩
      | false =>
        have Hz : Hid (∀ x ∈ l.take (k + 1), relY s x = false) := Lib.hid fun y hy => by
          rw [List.take_add_one, hx] at hy
          rcases List.mem_append.1 hy with hy | hy
          · exact Hr.out y hy
          · rw [show y = x by simpa using hy]; exact hxy
        have hxe : (x.rel.toList == s.toList) = false := hxy
        clear hx
        go_wp2
        go_roundw
        case rel => exact ⟨k + 1, by omega, by go_num, Hz.out, hB⟩
        case measure => simp [intOf]; omega
    · have hlt' : ¬ (k : Int) < (l.length : Int) := by omega
      have Hz : Hid (findY s l = none) := Lib.hid (findY_miss fun x hx => Hr.out x (by rw [List.take_of_length_le (by omega)]; exact hx))
      go_wp2
      go_ret2
      exact ⟨by rw [Hz.out]; rfl, hB⟩
set_option maxRecDepth 100000 in
set_option maxHeartbeats 4000000 in
theorem sameTexts_c (l : List ByteArray) (v u : Value) (w : World) (h1 : SlOf w w.heap.size 1 StrC l v) (h2 : SlOf w w.heap.size 1 StrC l u) :
    Calls Tryz.prog 22 #[v, u] w fun e w' => e = .returned (.bool true) ∧ Below w.heap.size w w' := by
  obtain ⟨o1, k1, rfl, _, _, S1⟩ := SlOf.open h1
  obtain ⟨o2, k2, rfl, _, _, S2⟩ := SlOf.open h2
  have HB0 : Hid (Below w.heap.size w w) := Lib.hid (Below.refl _ _)
  clear h1 h2
  go_enter Tryz.func22, Tryz.ntmps22
  go_wp2
  go_loopw [5] (fun i wr => ∃ k : Nat, k ≤ l.length ∧ i = .int .i64 k ∧ Below w.heap.size w wr) (fun i _ => l.length - (intOf i).toNat)
  case atStart => exact ⟨0, Nat.zero_le _, rfl, HB0.out⟩
  case round =>
    obtain ⟨k, hk, rfl, hB⟩ := hrel
    by_cases hlt : k < l.length
    · have hlt' : (k : Int) < (l.length : Int) := by omega
      obtain ⟨x, hx⟩ : ∃ x, l[k]? = some x := ⟨l[k], List.getElem?_eq_getElem hlt⟩
      obtain ⟨a, rfl, ha, _, c0⟩ := str_at S1 hB hx
      obtain ⟨b, rfl, hb, _, d0⟩ := str_at S2 hB hx
      have g1 : decide (0 ≤ (k : Int)) = true := by simp
      have g2 : decide ((k : Int) < (l.length : Int)) = true := by simpa using hlt
      clear hx
      go_wp2_with fail
      go_quiet (fail)
      go_wp2
      go_roundw
      case rel => exact ⟨k + 1, by omega, by go_num, below_drewN hB⟩
      case measure => simp [intOf]; omega
    · have hlt' : ¬ (k : Int) < (l.length : Int) := by omega
      go_wp2
      go_ret
      exact ⟨rfl, hB⟩
end Go.Proofs.YtbpdfmpfnbdeoaaGreatDoor
