/- soriteslaw06.DsafeFacts: the walk. soriteslaw06.DsafeOnce: the walk. -/
import Derived.Test.YtfcfehflocglpaaDoorKZbd2
import Derived.Test.YtfcfehflocglpaaDoorKZn
import Derived.Test.YtfcfehflocglpaaDoorKYpl
import Derived.Laws.OwnMore
namespace Go.Proofs.YtfcfehflocglpaaDoor
open Go.RowKit

theorem info_tm6 : (Tryd.prog.info? 43).map (fun i => (i.zero, i.size, i.bytes)) = some (some (.agg #[.int .i64 0, .string ⟨#[]⟩, .int .i64 0, .slice none 0 0]), 4, 56) := by kernel_rfl
def intT (x : Int) : Tm := .mk 2 ⟨#[]⟩ x []
def intCells (x : Int) : List Value := [.int .i64 2, .string ⟨#[]⟩, .int .i64 x, .slice none 0 0]
def IntTC (t : Tm) (cs : List Value) : Prop := ∃ x, I64 x ∧ t = intT x ∧ cs = intCells x
def factR (rel : ByteArray) (l : List Int) : Ru := ⟨⟨rel, l.map intT⟩, [], 0⟩
theorem occ_ints (l : List Int) : occ (subTs (l.map intT)) = [] := by
  induction l with
  | nil => rfl
  | cons x l ih =>
    rw [List.map_cons, subTs_cons, occ_app, ih]
    rfl
theorem fact_safe (rel : ByteArray) (l : List Int) : safeZ (factR rel l) = true := by
  unfold safeZ
  rw [(order_none (r := factR rel l) rfl).2.2, Bool.true_and]
  show (occ (subTs (l.map intT))).all _ = true
  rw [occ_ints]
  rfl
theorem fact_ord (rel : ByteArray) (l : List Int) : ordE (factR rel l) = 0 ∨ ordE (factR rel l) = 30 := by
  unfold ordE
  rw [fact_safe]
  split
  · exact .inl rfl
  · exact .inr rfl
theorem subs_ints (l : List Int) : (subTs (l.map intT)).length = l.length := by
  induction l with
  | nil => rfl
  | cons x l ih => rw [List.map_cons, subTs_cons, List.length_append, ih, List.length_cons]; simp [intT, subT_eq, subTs]; omega
theorem fact_few (rel : ByteArray) (l : List Int) (hl : l.length ≤ 8) : FewR (factR rel l) ∧ FewP' (partsZ (factR rel l)) := by
  have h1 : (termsR (factR rel l)).length ≤ 2000 := by
    show (subTs (l.map intT) ++ []).length ≤ 2000
    rw [List.append_nil, subs_ints]
    omega
  refine ⟨few_small h1 fun t ht => ?_, fewP_small h1⟩
  have ht : t ∈ subTs (l.map intT) := by
    have h2 : termsR (factR rel l) = subTs (l.map intT) ++ [] := rfl
    rw [h2, List.append_nil] at ht
    exact ht
  have key : ∀ l : List Int, t ∈ subTs (l.map intT) → t.s = ⟨#[]⟩ := by
    intro l
    induction l with
    | nil => intro h; cases h
    | cons x l ih =>
      intro h
      rw [List.map_cons, subTs_cons] at h
      rcases List.mem_append.1 h with h | h
      · rw [subT_eq] at h
        rcases List.mem_cons.1 h with h | h
        · rw [h]; rfl
        · cases h
      · exact ih h
  rw [key l ht]
  decide
def slotsA : List (Option Tmp) := [some 25, some 26, some 27, some 28, some 29, some 30, some 31, some 32, some 33, some 34, none]
def factsA (qa k : Nat) (L v : Value) (ad : Addr) (x : Int) : List (Value → Prop) :=
  [fun u => u = .pointer (some ⟨qa, 1, none⟩), fun u => u = L, fun u => u = v, fun u => u = .int .i64 (k : Int), fun u => u = .pointer (some (ad.add k)), fun u => u = .int .i64 x, fun u => u = .agg (intCells x).toArray, fun _ => True, fun _ => True, fun u => u = .pointer (some ⟨qa, 1, none⟩), fun _ => True]
def depsA : List (Nat × Nat) := [(1, 0), (4, 2), (4, 3), (5, 4), (6, 5), (7, 6), (8, 1), (8, 7), (10, 8), (10, 9)]
set_option linter.unusedSimpArgs false in
set_option maxRecDepth 100000 in
set_option maxHeartbeats 16000000 in
theorem dsafeFacts_c (rel : ByteArray) (v : Value) (l : List Int) (t a u : Addr) (w : World) (hrel : rel.size ≤ maxLen) (hv : SlOf w w.heap.size 1 IntC l v) (E : EnvZ t a u w) :
    Calls Tryd.prog 10 #[.string rel, v] w fun e w' => e = .returned (.bool true) ∧ Below w.heap.size w w' := by
  obtain ⟨o1, k1, rfl, hc1, hm1, S1⟩ := SlOf.open hv
  obtain ⟨i0, hi, hz0, hz1, hz2⟩ := info_parts info_tm6
  have HE := Lib.hid E
  have HSh := Lib.hid (shown6_c t a u w E)
  have HB0 : Hid (Below w.heap.size w w) := Lib.hid (Below.refl _ _)
  clear hv E
  go_enter Tryd.func10, Tryd.ntmps10
  go_wp2_with fail
  refine HSh.out.mono ?_
  rintro e1 w1 ⟨rfl, b1⟩
  have B1 := Lib.hid b1
  clear b1 HSh
  go_wp2_with fail
  obtain ⟨qa, hqa⟩ : ∃ q, w1.heap.size = q := ⟨_, rfl⟩
  have hq0 : (w1.alloc (.cells #[.string rel, .slice none 0 0] 24)).heap[qa]? = some (.cells #[.string rel, .slice none 0 0] 24 (0, 0)) := by rw [← hqa]; exact World.alloc_heap_new w1 _
  have hb2 : Below w1.heap.size w1 (w1.alloc (.cells #[.string rel, .slice none 0 0] 24)) := (Below.refl _ _).alloc (Nat.le_refl _) _
  try rw [hqa]
  have Hq0 := Lib.hid hq0
  have Hb2 := Lib.hid hb2
  have Hqa := Lib.hid hqa
  have hql : w.heap.size ≤ qa := by rw [← hqa]; exact B1.out.size
  clear hq0 hb2 hqa
  go_loopw [7] (fun iv wr => ∃ (k : Nat) (L : Value) (xs : List Value), k ≤ l.length ∧ k ≤ 8 ∧ iv = .int .i64 k ∧ wr.heap[qa]? = some (.cells #[.string rel, L] 24 (0, 0)) ∧ wr.ownsRow qa 43 4 L k xs ∧ Hid (Laid 4 IntTC ((l.take k).map intT) xs) ∧ Hid (Below w1.heap.size w1 wr)) (fun iv _ => 8 - (intOf iv).toNat)
  case atStart => exact ⟨0, .slice none 0 0, [], Nat.zero_le _, Nat.zero_le _, rfl, Hq0.out, World.ownsRow_nil _ _ _ _, Lib.hid Laid.nil, Hb2⟩
  case round =>
    obtain ⟨k, L, xs, hk, hk8, rfl, hq, ho, HL, HB⟩ := hrel
    obtain ⟨oL, cL, rfl⟩ := own_shape ho
    have hlq := heap_lt hq
    have HBw := Lib.hid (B1.out.trans (HB.out.mono B1.out.size))
    have Hq := Lib.hid hq
    have HO := Lib.hid ho
    obtain ⟨y0, y1⟩ : wr.cell? ⟨qa, 0, none⟩ = some (.string rel) ∧ wr.cell? ⟨qa, 1, none⟩ = some (.slice oL k cL) := ⟨row_cells hq 0, row_cells hq 1⟩
    clear hq ho
    by_cases hlt : k < l.length ∧ k < 8
    · have hlt1 : (k : Int) < (l.length : Int) := by omega
      have hlt2 : (k : Int) < 8 := by omega
      have hk0 : (0 : Int) ≤ (k : Int) := by omega
      have wk : IntKind.i64.wrap ((k : Int) + 1) = (k : Int) + 1 := by rw [IntKind.wrap_i64]; omega
      obtain ⟨x, hx⟩ : ∃ x, l[k]? = some x := ⟨l[k], List.getElem?_eq_getElem hlt.1⟩
      obtain ⟨ad, rfl, had, hxI, hcx⟩ := int_at S1 HBw.out hx
      have Hcx := Lib.hid hcx
      have HxI := Lib.hid hxI
      have HS1 : Hid (k + 1 ≤ maxLen) := Lib.hid (by unfold maxLen; omega)
      have HS2 : Hid ((k + 1) * 56 ≤ 140737488355328) := Lib.hid (by omega)
      have Hst : Hid ((l.take (k + 1)).map intT = (l.take k).map intT ++ [intT x]) := Lib.hid (by rw [List.take_add_one, hx, List.map_append]; rfl)
      have hadw : (ad.add k).block < wr.heap.size := by rw [addBlock]; have := HBw.out.size; omega
      clear hx hcx hxI
      go_wp2_with fail
      refine wp_region_any (by kernel_rfl) ?_
      (try (change wpAny _ _ _ _ _ _ _ (World.drew _)))
      refine wpAny_say slotsA _ _ (FB 1 7 8 10 depsA (factsA qa k (.slice oL k cL) (.slice (some ad) l.length k1) ad x) wr.drew (fun v w => ∃ b, v = .slice (some ⟨b, 0, none⟩) 1 1 ∧ w.heap[b]? = some (.cells (intCells x).toArray 43 (0, 0)))
        (fun v w => w.heap[qa]? = some (.cells #[.string rel, .slice oL k cL] 24 (0, 0)) ∧ w.ownsRow qa 43 4 v (k + 1) (xs ++ intCells x) ∧ Below w1.heap.size w1 w)
        (fun w => ∃ L', w.heap[qa]? = some (.cells #[.string rel, L'] 24 (0, 0)) ∧ w.ownsRow qa 43 4 L' (k + 1) (xs ++ intCells x) ∧ Below w1.heap.size w1 w))
        (by kernel_rfl) (by kernel_rfl) (by kernel_rfl) (by kernel_rfl) (by kernel_rfl) ⟨?A0, ?A1, ?A2, ?A3, ?A4, ?A5, ?A6, ?A7, ?A8, ?A9, ?A10, trivial⟩ FB.start ?Afin
      case A0 =>
        intro l' val A' w' K hl hn' hd hF hfar hdep hK
        have e6 : A'.tmps[6]?.getD undef = .pointer (some ⟨qa, 0, none⟩) := hfar 6 (by decide)
        unfold Oper.wp
        simp [execOp, e6, go_sem, Result.andThen]
        exact hK _ _ (hF.read (by rw [hl]; decide) hn' (fun q hq h => by simp only [depsA, List.mem_cons, List.not_mem_nil, or_false] at hq; rcases hq with rfl | rfl | rfl | rfl | rfl | rfl | rfl | rfl | rfl | rfl <;> simp at h <;> exact hd _ (by kernel_rfl)) (fun p hp => by cases hp; rfl) (by decide) (by decide) (by decide))
      case A1 =>
        intro l' val A' w' K hl hn' hd hF hfar hdep hK
        have e1 : A'.tmps[25]?.getD undef = .pointer (some ⟨qa, 1, none⟩) := (hdep 0 25 rfl (by kernel_rfl)).trans (hF.rd 0 _ (hd 0 (by kernel_rfl)) rfl)
        have h8 : l'.getD 8 false = false := by
          cases h : l'.getD 8 false with
          | false => rfl
          | true => exact ntb hn' (hF.dp (8, 1) (by decide) h)
        have hb : Below wr.heap.size wr w' := by
          cases h7 : l'.getD 7 false with
          | false => exact (Below.refl _ wr).drew.trans (hF.s0 h7)
          | true => exact (Below.refl _ wr).drew.trans (hF.s7 h7 h8).1
        have cc : w'.cell? ⟨qa, 1, none⟩ = some (.slice oL k cL) := row_cells ((hb.block _ hlq).trans Hq.out) 1
        unfold Oper.wp
        simp [execOp, e1, cc, go_sem, Result.andThen]
        exact hK _ _ (hF.read (by rw [hl]; decide) hn' (fun q hq h => by simp only [depsA, List.mem_cons, List.not_mem_nil, or_false] at hq; rcases hq with rfl | rfl | rfl | rfl | rfl | rfl | rfl | rfl | rfl | rfl <;> simp at h <;> exact hd _ (by kernel_rfl)) (fun p hp => by cases hp; rfl) (by decide) (by decide) (by decide))
      case A2 =>
        intro l' val A' w' K hl hn' hd hF hfar hdep hK
        have e1 : A'.tmps[1]?.getD undef = .slice (some ad) l.length k1 := hfar 1 (by decide)
        unfold Oper.wp
        simp [execOp, e1, go_sem, Result.andThen]
        exact hK _ _ (hF.read (by rw [hl]; decide) hn' (fun q hq h => by simp only [depsA, List.mem_cons, List.not_mem_nil, or_false] at hq; rcases hq with rfl | rfl | rfl | rfl | rfl | rfl | rfl | rfl | rfl | rfl <;> simp at h <;> exact hd _ (by kernel_rfl)) (fun p hp => by cases hp; rfl) (by decide) (by decide) (by decide))
      case A3 =>
        intro l' val A' w' K hl hn' hd hF hfar hdep hK
        have e7 : A'.tmps[7]?.getD undef = .int .i64 (k : Int) := hfar 7 (by decide)
        unfold Oper.wp
        simp [execOp, e7, go_sem, Result.andThen]
        exact hK _ _ (hF.read (by rw [hl]; decide) hn' (fun q hq h => by simp only [depsA, List.mem_cons, List.not_mem_nil, or_false] at hq; rcases hq with rfl | rfl | rfl | rfl | rfl | rfl | rfl | rfl | rfl | rfl <;> simp at h <;> exact hd _ (by kernel_rfl)) (fun p hp => by cases hp; rfl) (by decide) (by decide) (by decide))
      case A4 =>
        intro l' val A' w' K hl hn' hd hF hfar hdep hK
        have e1 : A'.tmps[27]?.getD undef = .slice (some ad) l.length k1 := (hdep 2 27 rfl (by kernel_rfl)).trans (hF.rd 2 _ (hd 2 (by kernel_rfl)) rfl)
        have e2 : A'.tmps[28]?.getD undef = .int .i64 (k : Int) := (hdep 3 28 rfl (by kernel_rfl)).trans (hF.rd 3 _ (hd 3 (by kernel_rfl)) rfl)
        unfold Oper.wp
        simp [execOp, e1, e2, hlt1, hk0, go_sem, Result.andThen]
        exact hK _ _ (hF.read (by rw [hl]; decide) hn' (fun q hq h => by simp only [depsA, List.mem_cons, List.not_mem_nil, or_false] at hq; rcases hq with rfl | rfl | rfl | rfl | rfl | rfl | rfl | rfl | rfl | rfl <;> simp at h <;> exact hd _ (by kernel_rfl)) (fun p hp => by cases hp; rfl) (by decide) (by decide) (by decide))
      case A5 =>
        intro l' val A' w' K hl hn' hd hF hfar hdep hK
        have e1 : A'.tmps[29]?.getD undef = .pointer (some (ad.add k)) := (hdep 4 29 rfl (by kernel_rfl)).trans (hF.rd 4 _ (hd 4 (by kernel_rfl)) rfl)
        have h7 : l'.getD 7 false = false := by
          cases h : l'.getD 7 false with
          | false => rfl
          | true => exact ntb hn' (hF.dp (6, 5) (by decide) (hF.dp (7, 6) (by decide) h))
        have hb : Below wr.heap.size wr w' := (Below.refl _ wr).drew.trans (hF.s0 h7)
        have cc : w'.cell? (ad.add k) = some (.int .i64 x) := (World.cell?_of_block (hb.block _ hadw)).trans Hcx.out
        unfold Oper.wp
        simp [execOp, e1, cc, go_sem, Result.andThen]
        exact hK _ _ (hF.read (by rw [hl]; decide) hn' (fun q hq h => by simp only [depsA, List.mem_cons, List.not_mem_nil, or_false] at hq; rcases hq with rfl | rfl | rfl | rfl | rfl | rfl | rfl | rfl | rfl | rfl <;> simp at h <;> exact hd _ (by kernel_rfl)) (fun p hp => by cases hp; rfl) (by decide) (by decide) (by decide))
      case A6 =>
        intro l' val A' w' K hl hn' hd hF hfar hdep hK
        have e1 : A'.tmps[30]?.getD undef = .int .i64 x := (hdep 5 30 rfl (by kernel_rfl)).trans (hF.rd 5 _ (hd 5 (by kernel_rfl)) rfl)
        unfold Oper.wp
        simp [execOp, e1, go_sem, Result.andThen]
        exact hK _ _ (hF.read (by rw [hl]; decide) hn' (fun q hq h => by simp only [depsA, List.mem_cons, List.not_mem_nil, or_false] at hq; rcases hq with rfl | rfl | rfl | rfl | rfl | rfl | rfl | rfl | rfl | rfl <;> simp at h <;> exact hd _ (by kernel_rfl)) (fun p hp => by cases hp; rfl) (by decide) (by decide) (by decide))
      case A7 =>
        intro l' val A' w' K hl hn' hd hF hfar hdep hK
        have e1 : A'.tmps[31]?.getD undef = .agg (intCells x).toArray := (hdep 6 31 rfl (by kernel_rfl)).trans (hF.rd 6 _ (hd 6 (by kernel_rfl)) rfl)
        unfold intCells at e1
        unfold Oper.wp
        simp [execOp, e1, go_sem, Result.andThen]
        exact hK _ _ (hF.made (by rw [hl]; decide) hn' (fun q hq h => by simp only [depsA, List.mem_cons, List.not_mem_nil, or_false] at hq; rcases hq with rfl | rfl | rfl | rfl | rfl | rfl | rfl | rfl | rfl | rfl <;> simp at h <;> exact hd _ (by kernel_rfl)) (fun p hp => by cases hp; trivial) (by decide) (by decide) (by decide) (by decide) ((Below.refl _ _).alloc (Nat.le_refl _) _) ⟨_, rfl, World.alloc_heap_new w' _⟩)
      case A8 =>
        intro l' val A' w' K hl hn' hd hF hfar hdep hK
        have e1 : A'.tmps[26]?.getD undef = .slice oL k cL := (hdep 1 26 rfl (by kernel_rfl)).trans (hF.rd 1 _ (hd 1 (by kernel_rfl)) rfl)
        obtain ⟨hb', b, hvb, hrb⟩ := hF.s7 (hd 7 (by kernel_rfl)) hn'
        have e2 : A'.tmps[32]?.getD undef = .slice (some ⟨b, 0, none⟩) 1 1 := (hdep 7 32 rfl (by kernel_rfl)).trans hvb
        have hb : Below wr.heap.size wr w' := (Below.refl _ wr).drew.trans hb'
        have hB2 : Below w1.heap.size w1 w' := HB.out.trans (hb.mono HB.out.size)
        have hown := own_below HO.out hb
        refine wp_append_any w' (.tmp 26) (.tmp 32) 22 rfl qa 43 i0 _ 4 56 Tryd.underlying22 hi hz0 hz1 hz2 rfl (by decide) (.slice oL k cL) k _ (by simpa [Act.eval] using e1) hown (.slice (some ⟨b, 0, none⟩) 1 1) 1 (intCells x) (by simpa [Act.eval] using e2) (.inr ⟨⟨b, 0, none⟩, 1, rfl, rfl, World.news_of_block hrb, by simp [intCells, Value.oneCell']⟩) HS1.out HS2.out (by have := hb.size; omega) ?_
        intro v' w3 hown' hg _
        have hq3 := (hg.block _ (heap_lt ((hb.block _ hlq).trans Hq.out)) (fun e => row_obj hown ((hb.block _ hlq).trans Hq.out) (by decide) e.symm)).trans ((hb.block _ hlq).trans Hq.out)
        exact hK _ _ (hF.appended (by rw [hl]; decide) hn' (fun q hq h => by simp only [depsA, List.mem_cons, List.not_mem_nil, or_false] at hq; rcases hq with rfl | rfl | rfl | rfl | rfl | rfl | rfl | rfl | rfl | rfl <;> simp at h <;> exact hd _ (by kernel_rfl)) (fun p hp => by cases hp; trivial) (by decide) (by decide) (by decide) (by decide) ⟨hq3, hown', hB2.grown hg hB2.size (fun j hj => by rw [Hqa.out]; exact (hown.lt j hj).1)⟩)
      case A9 =>
        intro l' val A' w' K hl hn' hd hF hfar hdep hK
        have e6 : A'.tmps[6]?.getD undef = .pointer (some ⟨qa, 0, none⟩) := hfar 6 (by decide)
        unfold Oper.wp
        simp [execOp, e6, go_sem, Result.andThen]
        exact hK _ _ (hF.read (by rw [hl]; decide) hn' (fun q hq h => by simp only [depsA, List.mem_cons, List.not_mem_nil, or_false] at hq; rcases hq with rfl | rfl | rfl | rfl | rfl | rfl | rfl | rfl | rfl | rfl <;> simp at h <;> exact hd _ (by kernel_rfl)) (fun p hp => by cases hp; rfl) (by decide) (by decide) (by decide))
      case A10 =>
        intro l' val A' w' K hl hn' hd hF hfar hdep hK
        have e9 : A'.tmps[34]?.getD undef = .pointer (some ⟨qa, 1, none⟩) := (hdep 9 34 rfl (by kernel_rfl)).trans (hF.rd 9 _ (hd 9 (by kernel_rfl)) rfl)
        obtain ⟨hq3, hown3, hB3⟩ := hF.s8 (hd 8 (by kernel_rfl)) hn'
        obtain ⟨o8, c8, hv8⟩ := own_shape hown3
        have e8 : A'.tmps[33]?.getD undef = .slice o8 (k + 1) c8 := (hdep 8 33 rfl (by kernel_rfl)).trans hv8
        rw [hv8] at hown3
        have cc : w'.cell? ⟨qa, 1, none⟩ = some (.slice oL k cL) := row_cells hq3 1
        have cf := frz_row hq3 1
        have hq4 : (w'.setCell ⟨qa, 1, none⟩ (.slice o8 (k + 1) c8)).heap[qa]? = some (.cells #[.string rel, .slice o8 (k + 1) c8] 24 (0, 0)) := by simpa using rowSet hq3 1 (.slice o8 (k + 1) c8)
        have ho4 := own_set hown3 (b := qa) (k := 1) (u := .slice o8 (k + 1) c8) (row_obj hown3 hq3 (by decide))
        have hB4 := hB3.setCell (p := ⟨qa, 1, none⟩) (by show w1.heap.size ≤ qa; rw [Hqa.out]; exact Nat.le_refl _) (.slice o8 (k + 1) c8)
        unfold Oper.wp
        simp [execOp, e9, e8, cc, cf, go_sem, Result.andThen]
        exact hK undef _ (hF.stored (by rw [hl]; decide) hn' (fun q hq h => by simp only [depsA, List.mem_cons, List.not_mem_nil, or_false] at hq; rcases hq with rfl | rfl | rfl | rfl | rfl | rfl | rfl | rfl | rfl | rfl <;> simp at h <;> exact hd _ (by kernel_rfl)) (fun p hp => by cases hp; trivial) (by decide) (by decide) (by decide) (by decide) ⟨_, hq4, ho4, hB4⟩)
      case Afin =>
        intro l' val w3 hall hF
        obtain ⟨L', hq3, ho3, hB3⟩ := hF.s10 (hall 10 (by decide))
        simp only [slotsA, putsA, Nat.zero_add, Nat.reduceAdd]
        generalize val 0 = u0
        generalize val 1 = u1
        generalize val 2 = u2
        generalize val 3 = u3
        generalize val 4 = u4
        generalize val 5 = u5
        generalize val 6 = u6
        generalize val 7 = u7
        generalize val 8 = u8
        generalize val 9 = u9
        generalize val 10 = u10
        have Hq3 := Lib.hid hq3
        have HO3 := Lib.hid ho3
        have HB3 := Lib.hid hB3
        have HL3 : Hid (Laid 4 IntTC ((l.take (k + 1)).map intT) (xs ++ intCells x)) := Lib.hid (by rw [Hst.out]; exact HL.out.snoc rfl ⟨x, HxI.out, rfl, rfl⟩)
        clear hF hall hq3 ho3 hB3 val
        go_simp
        go_wp2
        go_roundw
        case rel => exact ⟨k + 1, L', xs ++ intCells x, by omega, by omega, by go_num, Hq3.out, HO3.out, HL3, HB3⟩
        case measure => simp [intOf]; omega
    · have HL2 : Hid (k = (l.take 8).length) := Lib.hid (by rw [List.length_take]; omega)
      have HTk : Hid ((l.take k).map intT = (l.take 8).map intT) := Lib.hid (by
        congr 1
        by_cases h8 : k = 8
        · rw [h8]
        · rw [List.take_of_length_le (by omega), List.take_of_length_le (by omega)])
      obtain ⟨m8, hm8⟩ : ∃ m, l.take 8 = m := ⟨_, rfl⟩
      have hm8l : m8.length ≤ 8 := by rw [← hm8, List.length_take]; omega
      rw [hm8] at HL2 HTk
      have HLm : Hid (Laid 4 IntTC (m8.map intT) xs) := Lib.hid (by rw [← HTk.out]; exact HL.out)
      have HFew := Lib.hid (fact_few rel m8 hm8l)
      have mk : ∀ W, Below wr.heap.size wr W → RuC W W.heap.size (factR rel m8) [.string rel, .slice oL k cL, .slice none 0 0, .int .i64 0] := fun W hb => by
        have h1 := own_below HO.out hb
        have h2 : TmS W W.heap.size (m8.map intT) (.slice oL k cL) := sl_own0 (acc := m8.map intT) (by rw [List.length_map, ← HL2.out]; exact h1) (HLm.out.mono fun t cs ht => by
          obtain ⟨x, hx, rfl, rfl⟩ := ht
          exact int_c W x hx)
        exact ⟨[.string rel, .slice oL k cL], .slice none 0 0, rfl, (by show I64 0; unfold I64; omega), ⟨_, rfl, hrel, h2⟩, .inl ⟨rfl, rfl⟩⟩
      have HMk := Lib.hid mk
      have hP1 := order_c (factR rel m8) _ t a u wr (HMk.out wr (Below.refl _ _)) HFew.out.1 HFew.out.2 (HE.out.below HBw.out)
      have HP1 := Lib.hid hP1
      have HP2 := Lib.hid (fun (W : World) (hb : Below wr.heap.size wr W) => invents6_c (factR rel m8) _ t a u W (HMk.out W hb) HFew.out.1 HFew.out.2 (HE.out.below (HBw.out.trans (hb.mono HBw.out.size))))
      have ho0 : orderZ (factR rel m8) = [] := (order_none (r := factR rel m8) rfl).1
      have hi0 : invZ (factR rel m8) = false := (order_none (r := factR rel m8) rfl).2.1
      have hfo := fact_ord rel m8
      have hcond : (k < l.length ∧ ¬ (k : Int) < 8 ∧ (k : Int) < (l.length : Int)) ∨ ¬ (k : Int) < (l.length : Int) := by omega
      clear hP1 mk
      rcases hcond with ⟨_, hc2, hc3⟩ | hc2
      · skip
        go_wp2_with fail
        refine HP1.out.mono ?_
        intro e2 w2 hT
        cases hT with
        | bad h0 b2 =>
          have h30 : ordE (factR rel m8) = 30 := hfo.resolve_left h0
          rw [h30]
          have HB2 := Lib.hid b2
          have hq2 := (b2.block _ hlq).trans Hq.out
          have z0 := row_cells hq2 0
          have z1 := row_cells hq2 1
          have hlq2 := heap_lt hq2
          clear b2 hq2 h0
          go_wp2_with fail
          refine (HP2.out w2 HB2.out).mono ?_
          intro e3 w3 hT2
          cases hT2 with
          | good h0 _ => rw [h30] at h0; cases h0
          | bad _ b3 =>
            rw [h30]
            have HBe := Lib.hid (HBw.out.trans ((HB2.out.trans (b3.mono HB2.out.size)).mono HBw.out.size))
            clear b3
            go_wp2
            go_ret
            exact ⟨rfl, HBe.out⟩
        | @good _ lv h0 hs b2 =>
          have hlv : ∃ o c, lv = .slice o 0 c := by
            rw [ho0] at hs
            obtain ⟨o, c, e, _⟩ := SlOf.uni hs
            exact ⟨o, c, e⟩
          obtain ⟨ol, cl, rfl⟩ := hlv
          have HB2 := Lib.hid b2
          have hq2 := (b2.block _ hlq).trans Hq.out
          have z0 := row_cells hq2 0
          have z1 := row_cells hq2 1
          have hlq2 := heap_lt hq2
          clear b2 hq2 hs
          go_wp2_with fail
          refine (HP2.out w2 HB2.out).mono ?_
          intro e3 w3 hT2
          cases hT2 with
          | bad h1 _ => exact absurd h0 h1
          | good _ b3 =>
            rw [hi0]
            have HBe := Lib.hid (HBw.out.trans ((HB2.out.trans (b3.mono HB2.out.size)).mono HBw.out.size))
            clear b3
            go_wp2
            go_ret
            exact ⟨rfl, HBe.out⟩
      · skip
        go_wp2_with fail
        refine HP1.out.mono ?_
        intro e2 w2 hT
        cases hT with
        | bad h0 b2 =>
          have h30 : ordE (factR rel m8) = 30 := hfo.resolve_left h0
          rw [h30]
          have HB2 := Lib.hid b2
          have hq2 := (b2.block _ hlq).trans Hq.out
          have z0 := row_cells hq2 0
          have z1 := row_cells hq2 1
          have hlq2 := heap_lt hq2
          clear b2 hq2 h0
          go_wp2_with fail
          refine (HP2.out w2 HB2.out).mono ?_
          intro e3 w3 hT2
          cases hT2 with
          | good h0 _ => rw [h30] at h0; cases h0
          | bad _ b3 =>
            rw [h30]
            have HBe := Lib.hid (HBw.out.trans ((HB2.out.trans (b3.mono HB2.out.size)).mono HBw.out.size))
            clear b3
            go_wp2
            go_ret
            exact ⟨rfl, HBe.out⟩
        | @good _ lv h0 hs b2 =>
          have hlv : ∃ o c, lv = .slice o 0 c := by
            rw [ho0] at hs
            obtain ⟨o, c, e, _⟩ := SlOf.uni hs
            exact ⟨o, c, e⟩
          obtain ⟨ol, cl, rfl⟩ := hlv
          have HB2 := Lib.hid b2
          have hq2 := (b2.block _ hlq).trans Hq.out
          have z0 := row_cells hq2 0
          have z1 := row_cells hq2 1
          have hlq2 := heap_lt hq2
          clear b2 hq2 hs
          go_wp2_with fail
          refine (HP2.out w2 HB2.out).mono ?_
          intro e3 w3 hT2
          cases hT2 with
          | bad h1 _ => exact absurd h0 h1
          | good _ b3 =>
            rw [hi0]
            have HBe := Lib.hid (HBw.out.trans ((HB2.out.trans (b3.mono HB2.out.size)).mono HBw.out.size))
            clear b3
            go_wp2
            go_ret
            exact ⟨rfl, HBe.out⟩
end Go.Proofs.YtfcfehflocglpaaDoor
namespace Go.Proofs.YtfcfehflocglpaaDoor
open Go.RowKit

theorem info_bl : (Tryd.prog.info? 4).map (fun i => (i.zero, i.size, i.bytes)) = some (some (.bool false), 1, 1) := by kernel_rfl
/-- What 'met' holds ahead of the i-th part of the order. -/
def metL (N : List Nat) (m i : Nat) : List Value := (List.range m).map fun j => .bool (decide (j ∈ N.take i))
theorem met_zero (N : List Nat) (m : Nat) : metL N m 0 = List.replicate m (.bool false) := by
  unfold metL
  refine List.ext_getElem? fun j => ?_
  rw [List.getElem?_map, List.getElem?_replicate]
  by_cases hj : j < m
  · rw [List.getElem?_range hj, if_pos hj]; simp
  · rw [List.getElem?_eq_none (by simpa using hj), if_neg hj]; rfl
theorem met_at {N : List Nat} {m i x : Nat} (hx : x < m) (hn : x ∉ N.take i) : (metL N m i)[x]? = some (.bool false) := by
  unfold metL
  rw [List.getElem?_map, List.getElem?_range hx]
  simp [hn]
theorem met_set {N : List Nat} {m i x : Nat} (h : N[i]? = some x) : (metL N m i).set x (.bool true) = metL N m (i + 1) := by
  refine List.ext_getElem? fun j => ?_
  unfold metL
  rw [List.getElem?_set, List.getElem?_map, List.getElem?_map, List.take_add_one, h, List.length_map, List.length_range]
  by_cases hj : j < m
  · rw [List.getElem?_range hj]
    by_cases hx : x = j
    · subst hx
      simp [hj]
    · rw [if_neg hx]
      simp [Ne.symm hx]
  · have h0 : (List.range m)[j]? = none := List.getElem?_eq_none (by simpa using hj)
    rw [h0]
    by_cases hx : x = j
    · subst hx
      simp [hj]
    · rw [if_neg hx]
      rfl
theorem fresh_at {N : List Nat} (hn : N.Nodup) {i x : Nat} (h : N[i]? = some x) : x ∉ N.take i := by
  intro hm
  obtain ⟨j, hj⟩ := List.mem_iff_getElem?.1 hm
  rw [List.getElem?_take] at hj
  split at hj
  · rename_i hji
    obtain ⟨hl, _⟩ := List.getElem?_eq_some_iff.1 hj
    have := (List.getElem?_inj hl hn).1 (hj.trans h.symm)
    omega
  · cases hj
theorem byZ_mono {B : Bd} {k k' : Int} (h : k ≤ k') {s : ByteArray} (hb : byZ B k s = true) : byZ B k' s = true := by
  unfold byZ at *
  simp only [Bool.and_eq_true, decide_eq_true_eq] at *
  exact ⟨hb.1, by omega⟩
theorem by_len (vs : List ByteArray) (B : Bd) {k k' : Int} (h : k ≤ k') : (vs.filter (byZ B k)).length ≤ (vs.filter (byZ B k')).length := by
  rw [← List.countP_eq_length_filter, ← List.countP_eq_length_filter]
  exact List.countP_mono_left fun x _ hx => byZ_mono h hx
theorem by_sub {vs : List ByteArray} {B : Bd} {k k' : Int} (h : k ≤ k') {s : ByteArray} (hs : s ∈ vs.filter (byZ B k)) : s ∈ vs.filter (byZ B k') :=
  List.mem_filter.2 ⟨(List.mem_filter.1 hs).1, byZ_mono h (List.mem_filter.1 hs).2⟩
theorem RuC.line0 {W : World} {n : Nat} {r : Ru} {c0 c1 c2 c3 : Value} (h : RuC W n r [c0, c1, c2, c3]) : RuC W n ⟨r.head, r.body, 0⟩ [c0, c1, c2, .int .i64 0] := by
  obtain ⟨ca, v, e, _, h2, h3⟩ := h
  obtain ⟨o0, k0, rfl, _⟩ := h2.look
  simp only [List.cons_append, List.nil_append, List.cons.injEq, and_true] at e
  obtain ⟨rfl, rfl, rfl, rfl⟩ := e
  exact ⟨_, _, rfl, by show I64 0; unfold I64; omega, h2, h3⟩
theorem ord_full {r : Ru} (h : ordE r = 0) : (ordN r).length = r.body.length := by
  unfold ordE at h
  split at h
  · split at h
    · rename_i h2
      unfold safeZ at h2
      exact come_len.1 (Bool.and_eq_true_iff.1 h2).1
    · cases h
  · cases h
set_option linter.unusedSimpArgs false in
set_option maxRecDepth 100000 in
set_option maxHeartbeats 16000000 in
theorem dsafeOnce_c (r : Ru) (t a u : Addr) (w : World) (cs : List Value) (hc : RuC w w.heap.size r cs) (E : EnvZ t a u w) :
    Calls Tryd.prog 8 #[.agg cs.toArray] w fun e w' => e = .returned (.bool true) ∧ Below w.heap.size w w' := by
  have HR := Lib.hid hc
  have HE := Lib.hid E
  have hb0 : ∀ C : Obj, Below w.heap.size w (w.alloc C) := fun C => (Below.refl _ _).alloc (Nat.le_refl _) _
  have HB0 := Lib.hid hb0
  have HH := Lib.hid (fun (W : World) (hb : Below w.heap.size w W) => shown6_c t a u W (E.below hb))
  have HS := Lib.hid (fun (W : World) (hb : Below w.heap.size w W) => small6_c r cs W ((hc.below hb).more hb.size))
  obtain ⟨o0, k0, o1, k1, rfl, _⟩ := hc.look
  obtain ⟨y0, hy, hy0, hy1, hy2⟩ := info_parts info_bl
  clear hc E hb0
  go_enter Tryd.func8, Tryd.ntmps8
  go_wp2_with fail
  refine (HH.out _ (HB0.out _)).mono ?_
  rintro e1 w1 ⟨rfl, b1⟩
  have r1' : w1.heap[w.heap.size]? = some (.cells #[.string r.head.rel, .slice o0 r.head.l.length k0, .slice o1 r.body.length k1, .int .i64 r.line] 27 (0, 0)) := (b1.block _ (by simp)).trans (World.alloc_heap_new w _)
  have x0 := row_cells r1' 0
  have x1 := row_cells r1' 1
  have x2 := row_cells r1' 2
  have x3 := row_cells r1' 3
  simp at x0 x1 x2 x3
  have hz1 : w.heap.size < w1.heap.size := by have := b1.size; simp at this; omega
  have B1 := Lib.hid ((HB0.out _).trans (b1.mono (by simp)))
  clear b1
  go_wp2_with fail
  refine (HS.out _ B1.out).mono ?_
  rintro e2 w2 ⟨rfl, b2⟩
  have r2' := (b2.block _ hz1).trans r1'
  have B2 := Lib.hid (B1.out.trans (b2.mono B1.out.size))
  have R2 := Lib.hid r2'
  have hz2 := heap_lt r2'
  clear x0 x1 x2 x3 b2 r1'
  cases hs : smallP ⟨[], [r]⟩ with
  | false =>
    clear hs
    go_wp2
    go_ret
    exact ⟨rfl, B2.out⟩
  | true =>
  have HT := Lib.hid (small_terms hs r (List.mem_cons_self ..))
  have HFp := Lib.hid (fewP_small HT.out.1)
  have HFr := Lib.hid (few_small HT.out.1 fun t ht => Nat.le_trans (HT.out.2 t ht) (by decide))
  have HP := Lib.hid (order_c r _ t a u w2 ((HR.out.below B2.out).more B2.out.size) HFr.out HFp.out (HE.out.below B2.out))
  have x0 := row_cells r2' 0
  have x1 := row_cells r2' 1
  have x2 := row_cells r2' 2
  have x3 := row_cells r2' 3
  simp at x0 x1 x2 x3
  clear hs r2'
  go_wp2_with fail
  refine HP.out.mono ?_
  clear HP
  intro e3 w3 hT
  cases hT with
  | bad h0 b3 =>
    have B3 := Lib.hid (B2.out.trans (b3.mono B2.out.size))
    clear b3
    obtain ⟨z, hz⟩ : ∃ z, ordE r = z := ⟨_, rfl⟩
    rw [hz] at h0 ⊢
    go_wp2
    go_ret
    exact ⟨rfl, B3.out⟩
  | @good _ lv h0 hs3 b3 =>
    have B3 := Lib.hid (B2.out.trans (b3.mono B2.out.size))
    have r3 := (b3.block _ hz2).trans R2.out
    have hz3 := heap_lt r3
    have c2 : w3.cell? ⟨w.heap.size, 2, none⟩ = some (.slice o1 r.body.length k1) := row_cells r3 2
    have R3 := Lib.hid r3
    have hln : (orderZ r).length = (ordN r).length := by rw [orderZ_eq, List.length_map]
    obtain ⟨ol, cl, hlv, _, _, SL⟩ := SlOf.open hs3
    rw [hln] at hlv
    subst hlv
    have HN := Lib.hid (ord_nodup r)
    have HLt := Lib.hid (fun k (h : k ∈ ordN r) => ord_lt h)
    have HO := Lib.hid (orderZ_eq r)
    have HF0 := Lib.hid h0
    have HFull := Lib.hid (ord_full h0)
    obtain ⟨N, hN⟩ : ∃ N, ordN r = N := ⟨_, rfl⟩
    rw [hN] at HN HLt HO HFull ⊢
    obtain ⟨m, hm⟩ : ∃ m, r.body.length = m := ⟨_, rfl⟩
    have hm2 : m ≤ 2000 := by rw [← hm]; exact Nat.le_trans (body_len r) HT.out.1
    have Hm := Lib.hid hm
    have Kb : Hid (y0.bytes * m ≤ 281474976710656) := Lib.hid (by rw [hy2]; omega)
    have Km : Hid (m ≤ maxLen) := Lib.hid (by unfold maxLen; omega)
    obtain ⟨B, hBe⟩ : ∃ B, w3.heap.size = B := ⟨_, rfl⟩
    have HBe := Lib.hid hBe
    have HLN : Hid (N.length = m) := Lib.hid (by rw [HFull.out, hm])
    rw [hm] at c2
    clear hs3 b3 h0 hln hN r3 x0 x1 x2 x3 hm
    go_wp2_with (first | (at_make; refine wpList_make_full _ rfl _ _ 58 rfl B 4 y0 _ 1 Tryd.underlying58 hy hy0 hy1 .i64 .i64 _ _ m rfl rfl rfl rfl Kb.out Km.out (by rw [hBe]; exact Nat.le_refl _) ?_; rw [hBe]; intro w4 hown4 hg4; have O4 := Lib.hid hown4; have G4 := Lib.hid hg4; clear hown4 hg4))
    have HS4 : Hid (w4.ownsRow B 4 1 (.slice (some ⟨B, 0, none⟩) m m) m (metL N m 0)) := Lib.hid (by
      have h1 := O4.out
      rw [Nat.mul_one] at h1
      have h2 : (madeCells (Value.bool false).cells m).toList = metL N m 0 := by
        rw [met_zero]
        exact toList_madeCells_one _ _
      rw [h2] at h1
      exact h1)
    have hb4 : Below B w3 w4 := (Below.refl _ _).grown G4.out (by rw [hBe]; exact Nat.le_refl _) (fun q hq => by cases hq)
    have hB4 : B ≤ w4.heap.size := by have := hb4.size; omega
    have Hb4 := Lib.hid hb4
    have hwB : w.heap.size < B := by omega
    have HK : Hid (∀ W, Below B w4 W → Below w.heap.size w W) := Lib.hid fun W hb => B3.out.trans ((Hb4.out.trans hb).mono (by omega))
    have HR4 : Hid (∀ W, Below B w4 W → W.heap[w.heap.size]? = some (.cells #[.string r.head.rel, .slice o0 r.head.l.length k0, .slice o1 r.body.length k1, .int .i64 r.line] 27 (0, 0))) := Lib.hid fun W hb => (((Hb4.out.trans hb).block _ hwB).trans R3.out)
    have HBd := Lib.hid (fun (W : World) (hb : Below B w4 W) (k : Int) => bound_c r _ k t a u W ((HR.out.below (HK.out W hb)).more (HK.out W hb).size) HFr.out HFp.out (by have := HT.out.1; omega) (fun t ht => Nat.le_trans (HT.out.2 t ht) (by decide)) (HE.out.below (HK.out W hb)))
    have HS3B : Hid (∀ W, Below B w4 W → Below w3.heap.size w3 W) := Lib.hid fun W hb => by rw [HBe.out]; exact Hb4.out.trans hb
    clear hb4 hBe O4 G4 c2
    go_loopw [7] (fun iv wr => ∃ i : Nat, i ≤ N.length ∧ iv = .int .i64 i ∧ wr.ownsRow B 4 1 (.slice (some ⟨B, 0, none⟩) m m) m (metL N m i) ∧ Hid (Below B w4 wr)) (fun iv _ => N.length - (intOf iv).toNat)
    case atStart => exact ⟨0, Nat.zero_le _, rfl, HS4.out, Lib.hid (Below.refl _ _)⟩
    case round =>
      obtain ⟨i, hi, rfl, ho, HB⟩ := hrel
      have hrr := HR4.out _ HB.out
      have hzr := heap_lt hrr
      by_cases hlt : i < N.length
      · have hlt1 : (i : Int) < (N.length : Int) := by omega
        have hi0 : (0 : Int) ≤ (i : Int) := by omega
        have wk : IntKind.i64.wrap ((i : Int) + 1) = (i : Int) + 1 := by rw [IntKind.wrap_i64]; have := HLN.out; omega
        obtain ⟨x, hx⟩ : ∃ x, N[i]? = some x := ⟨_, List.getElem?_eq_getElem hlt⟩
        have hxm : x < m := by rw [← Hm.out]; exact HLt.out x (List.mem_of_getElem? hx)
        obtain ⟨ad, rfl, had, _, cx⟩ := int_at SL (HS3B.out _ HB.out) (k := i) (t := (x : Int)) (by rw [HO.out, List.getElem?_map, hx]; rfl)
        have hadw : (ad.add i).block < wr.heap.size := by rw [addBlock]; have := (HS3B.out _ HB.out).size; omega
        obtain ⟨hca, hfz, hgw, _⟩ := own_at ho
        have cm := hca x _ (met_at hxm (fresh_at HN.out hx))
        have fm := hfz x
        have hst := ho.stored x (.bool true)
        rw [met_set hx] at hst
        have hb5 : Below B w4 (wr.setCell ⟨B, x, none⟩ (.bool true)) := HB.out.setCell (p := ⟨B, x, none⟩) (Nat.le_refl _) _
        have hr5 := HR4.out _ hb5
        have HB5 := Lib.hid hb5
        have HO5 := Lib.hid hst.1
        have x0 := row_cells hrr 0
        have x1 := row_cells hrr 1
        have x2 := row_cells hrr 2
        have x3 := row_cells hrr 3
        have z0 := row_cells hr5 0
        have z1 := row_cells hr5 1
        have z2 := row_cells hr5 2
        have z3 := row_cells hr5 3
        simp at x0 x1 x2 x3
        have hx0 : ¬ (x : Int) < 0 := by omega
        have hx00 : (0 : Int) ≤ (x : Int) := by omega
        have hxm1 : (x : Int) < (m : Int) := by omega
        have hxm2 : ¬ (m : Int) ≤ (x : Int) := by omega
        have hxm3 : ¬ (x : Int) ≥ (m : Int) := by omega
        have hne : w.heap.size ≠ B := by omega
        have hne2 : B ≠ w.heap.size := by omega
        clear hca hfz hst hrr hr5 hx ho hb5
        go_wp2_with fail
        generalize hW5 : wr.setCell ⟨B, x, none⟩ (.bool true) = W5 at HB5 HO5 z0 z1 z2 z3 ⊢
        have HW5 := Lib.hid hW5
        clear hW5
        refine (HBd.out _ HB5.out (i : Int)).mono ?_
        intro e6 w6 hT
        cases hT with
        | bad h0 _ => exact absurd HF0.out h0
        | arg _ h1 _ =>
          rw [HO.out, List.length_map] at h1
          omega
        | @good _ va _ _ _ hsa b6 =>
        have B6 := Lib.hid (HB5.out.trans (b6.mono (Nat.le_trans hB4 HB5.out.size)))
        have HO6 := Lib.hid (own_below HO5.out b6)
        have hr6 := HR4.out _ B6.out
        have y0 := row_cells hr6 0
        have y1 := row_cells hr6 1
        have y2 := row_cells hr6 2
        have y3 := row_cells hr6 3
        simp at y0 y1 y2 y3
        have HSA := Lib.hid hsa
        clear hsa b6 hr6 z0 z1 z2 z3 x0 x1 x2 x3
        go_wp2_with fail
        refine (HBd.out _ B6.out ((i : Int) + 1)).mono ?_
        intro e7 w7 hT
        cases hT with
        | bad h0 _ => exact absurd HF0.out h0
        | arg _ h1 _ =>
          rw [HO.out, List.length_map] at h1
          omega
        | @good _ vb _ _ _ hsb b7 =>
        have B7 := Lib.hid (B6.out.trans (b7.mono (Nat.le_trans hB4 B6.out.size)))
        have HO7 := Lib.hid (own_below HO6.out b7)
        have hsa := SlOf.str HSA.out b7 b7.size
        have hsub := fun s (h : s ∈ (varsA r).filter (byZ (boundZ r) (i : Int))) => by_sub (k' := (i : Int) + 1) (by omega) h
        have hle := by_len (varsA r) (boundZ r) (k := (i : Int)) (k' := (i : Int) + 1) (by omega)
        obtain ⟨Fa, hFa⟩ : ∃ F, (varsA r).filter (byZ (boundZ r) (i : Int)) = F := ⟨_, rfl⟩
        obtain ⟨Fb, hFb⟩ : ∃ F, (varsA r).filter (byZ (boundZ r) ((i : Int) + 1)) = F := ⟨_, rfl⟩
        rw [hFa] at hsa hsub hle
        rw [hFb] at hsb hsub hle
        obtain ⟨oa, ka, rfl, _, _, SA⟩ := SlOf.open hsa
        obtain ⟨ob, kb, rfl, _, _, SB⟩ := SlOf.open hsb
        have HSb := Lib.hid hsb
        have HSub := Lib.hid hsub
        have hle2 : ¬ ((Fa.length : Int) > (Fb.length : Int)) := by omega
        have hle3 : decide (Fb.length < Fa.length) = false := decide_eq_false (by omega)
        clear HSA hFa hFb hsa hsb hsub b7 y0 y1 y2 y3
        go_wp2_with fail
        go_loopw [12] (fun kv wx => ∃ k : Nat, k ≤ Fa.length ∧ kv = .int .i64 k ∧ Hid (Below w7.heap.size w7 wx)) (fun kv _ => Fa.length - (intOf kv).toNat)
        case atStart => exact ⟨0, Nat.zero_le _, rfl, Lib.hid (Below.refl _ _)⟩
        case round =>
          obtain ⟨k, hk, rfl, HX⟩ := hrel
          by_cases hk1 : k < Fa.length
          · have hk2 : (k : Int) < (Fa.length : Int) := by omega
            have hk0 : (0 : Int) ≤ (k : Int) := by omega
            obtain ⟨s, hs⟩ : ∃ s, Fa[k]? = some s := ⟨_, List.getElem?_eq_getElem hk1⟩
            obtain ⟨ae, rfl, hae, _, ce⟩ := str_at SA HX.out hs
            have hpl : ¬ placeV Fb s < 0 := by
              obtain ⟨j, hj, _⟩ := place_mem (HSub.out s (List.mem_of_getElem? hs))
              rw [hj]
              omega
            have HPl := Lib.hid (place_c Fb _ s _ (SlOf.str HSb.out HX.out HX.out.size))
            clear hs
            go_wp2_with fail
            refine HPl.out.mono ?_
            rintro e8 w8 ⟨rfl, b8⟩
            have HX8 := Lib.hid (HX.out.trans (b8.mono HX.out.size))
            clear b8 HPl
            go_wp2
            go_roundw
            case rel => exact ⟨k + 1, by omega, by go_num, HX8⟩
            case measure => simp [intOf]; omega
          · have hk2 : ¬ (k : Int) < (Fa.length : Int) := by omega
            have HOx := Lib.hid (own_below HO7.out HX.out)
            have HBx := Lib.hid (B7.out.trans (HX.out.mono (Nat.le_trans hB4 B7.out.size)))
            go_wp2
            go_roundw
            case rel => exact ⟨i + 1, by omega, by go_num, HOx.out, HBx⟩
            case measure => simp [intOf]; omega
      · have hlt1 : ¬ (i : Int) < (N.length : Int) := by omega
        have x0 := row_cells hrr 0
        have x1 := row_cells hrr 1
        have x2 := row_cells hrr 2
        have x3 := row_cells hrr 3
        simp at x0 x1 x2 x3
        clear hrr ho
        go_wp2_with fail
        refine (HBd.out _ HB.out (N.length : Int)).mono ?_
        intro e5 w5 hT
        cases hT with
        | bad h0 _ => exact absurd HF0.out h0
        | arg _ h1 _ =>
          rw [HO.out, List.length_map] at h1
          omega
        | @good _ vb _ _ _ hsb b5 =>
        have B5 := Lib.hid (HB.out.trans (b5.mono (Nat.le_trans hB4 HB.out.size)))
        have hr5 := HR4.out _ B5.out
        have y0 := row_cells hr5 0
        have y1 := row_cells hr5 1
        have y2 := row_cells hr5 2
        have y3 := row_cells hr5 3
        simp at y0 y1 y2 y3
        have HV := Lib.hid (vars_c ⟨r.head, r.body, 0⟩ _ t w5 (RuC.line0 ((HR.out.below (HK.out _ B5.out)).more (HK.out _ B5.out).size)) (Nat.le_trans HT.out.1 (by decide)) (fun t ht => Nat.le_trans (HT.out.2 t ht) (by decide)) (HE.out.below (HK.out _ B5.out)).tr)
        have hsub : ∀ s ∈ (varsA r).filter (byZ (boundZ r) (N.length : Int)), s ∈ varsA r := fun s h => (List.mem_filter.1 h).1
        obtain ⟨Fb, hFb⟩ : ∃ F, (varsA r).filter (byZ (boundZ r) (N.length : Int)) = F := ⟨_, rfl⟩
        rw [hFb] at hsb hsub
        obtain ⟨ob, kb, rfl, _, _, _⟩ := SlOf.open hsb
        have HSb := Lib.hid hsb
        have HSub := Lib.hid hsub
        clear x0 x1 x2 x3 b5 hr5 hsb hsub hFb
        go_wp2_with fail
        refine HV.out.mono ?_
        rintro e6 w6 ⟨vh, rfl, hsh, b6⟩
        have B6 := Lib.hid (B5.out.trans (b6.mono (Nat.le_trans hB4 B5.out.size)))
        have hsb := SlOf.str HSb.out b6 b6.size
        have hva : varsA ⟨r.head, r.body, 0⟩ = varsA r := rfl
        rw [hva] at hsh
        obtain ⟨oh, kh, rfl, _, _, _⟩ := SlOf.open hsh
        obtain ⟨_, _, hh, _, _, SB⟩ := SlOf.open hsb
        cases hh
        have HSh := Lib.hid hsh
        clear HSb hsb hsh hva b6 y0 y1 y2 y3 HV
        go_wp2_with fail
        go_loopw [16] (fun kv wx => ∃ k : Nat, k ≤ Fb.length ∧ kv = .int .i64 k ∧ Hid (Below w6.heap.size w6 wx)) (fun kv _ => Fb.length - (intOf kv).toNat)
        case atStart => exact ⟨0, Nat.zero_le _, rfl, Lib.hid (Below.refl _ _)⟩
        case round =>
          obtain ⟨k, hk, rfl, HX⟩ := hrel
          by_cases hk1 : k < Fb.length
          · have hk2 : (k : Int) < (Fb.length : Int) := by omega
            have hk0 : (0 : Int) ≤ (k : Int) := by omega
            obtain ⟨s, hs⟩ : ∃ s, Fb[k]? = some s := ⟨_, List.getElem?_eq_getElem hk1⟩
            obtain ⟨ae, rfl, hae, _, ce⟩ := str_at SB HX.out hs
            have hpl : ¬ placeV (varsA r) s < 0 := by
              obtain ⟨j, hj, _⟩ := place_mem (HSub.out s (List.mem_of_getElem? hs))
              rw [hj]
              omega
            have HPl := Lib.hid (place_c (varsA r) _ s _ (SlOf.str HSh.out HX.out HX.out.size))
            clear hs
            go_wp2_with fail
            refine HPl.out.mono ?_
            rintro e8 w8 ⟨rfl, b8⟩
            have HX8 := Lib.hid (HX.out.trans (b8.mono HX.out.size))
            clear b8 HPl
            go_wp2
            go_roundw
            case rel => exact ⟨k + 1, by omega, by go_num, HX8⟩
            case measure => simp [intOf]; omega
          · have hk2 : ¬ (k : Int) < (Fb.length : Int) := by omega
            have HBx := Lib.hid (B6.out.trans (HX.out.mono (Nat.le_trans hB4 B6.out.size)))
            have hrx := HR4.out _ HBx.out
            have x2 : wr.cell? ⟨w.heap.size, 2, none⟩ = some (.slice o1 r.body.length k1) := row_cells hrx 2
            have hfull : r.body.length = N.length := by rw [HFull.out]
            rw [hfull] at x2
            clear hrx
            go_wp2
            go_ret
            exact ⟨rfl, HK.out _ HBx.out⟩
end Go.Proofs.YtfcfehflocglpaaDoor
