/- soriteslaw06.DsafeMore: the walk. -/
import Derived.Test.YtfcfehflocglpaaDoorKZbd2
import Derived.Test.YtfcfehflocglpaaDoorKZlf
import Derived.Test.YtfcfehflocglpaaDoorKZn
namespace Go.Proofs.YtfcfehflocglpaaDoor
open Go.RowKit

def slotsM : List (Option Tmp) := [some 97, some 98, some 99, some 100, some 101, some 102, some 103, some 104, some 105, some 106, none]
theorem I64_2 : I64 2 := by unfold I64; omega
def ArgTC (t : Tm) (cs : List Value) : Prop := ∃ (o : Int) (s : ByteArray) (x : Int), I64 o ∧ s.size ≤ maxLen ∧ I64 x ∧ t = .mk o s x [] ∧ cs = [.int .i64 o, .string s, .int .i64 x, .slice none 0 0]
def slotsB : List (Option Tmp) := [some 84, some 85, some 86, some 87, some 88, some 89, some 90, some 91, some 92, some 93, some 94, some 95, some 96, none]
theorem I64_1 : I64 1 := by unfold I64; omega
theorem I64_0 : I64 0 := by unfold I64; omega
def strCells (s : ByteArray) : List Value := [.int .i64 1, .string s, .int .i64 0, .slice none 0 0]
def factsB (qa k j : Nat) (L Fv nv : Value) (ad pb : Addr) (s : ByteArray) : List (Value → Prop) :=
  [fun u => u = .pointer (some ⟨qa, 1, none⟩), fun u => u = L, fun u => u = Fv, fun u => u = nv, fun u => u = .int .i64 (k : Int), fun u => u = .pointer (some (ad.add k)), fun u => u = .int .i64 (j : Int), fun u => u = .pointer (some (pb.add j)), fun u => u = .string s, fun u => u = .agg (strCells s).toArray, fun _ => True, fun _ => True, fun u => u = .pointer (some ⟨qa, 1, none⟩), fun _ => True]
def depsB : List (Nat × Nat) := [(1, 0), (5, 3), (5, 4), (6, 5), (7, 2), (7, 6), (8, 7), (9, 8), (10, 9), (11, 1), (11, 10), (13, 11), (13, 12)]
def slotsC : List (Option Tmp) := [some 108, some 109, some 110, some 111, some 112, some 113, some 114, some 115, some 116, some 117, some 118, some 119, some 120, none]
def litCellsM (qs : ByteArray) (v : Value) : List Value := [.int .i64 1, .string qs, v, .int .i64 0, .string ⟨#[]⟩, .int .i64 0, .slice none 0 0, .int .i64 0, .string ⟨#[]⟩, .int .i64 0, .slice none 0 0]
def factsC (n0 q m : Nat) (H B : Value) (qs : ByteArray) (L : Value) : List (Value → Prop) :=
  [fun u => u = .pointer (some ⟨n0, 2, none⟩), fun u => u = B, fun u => u = .int .i64 (m : Int), fun u => u = .int .i64 ((m + 1 : Nat) : Int), fun _ => True, fun u => u = .pointer (some ⟨n0, 2, none⟩), fun u => u = B, fun _ => True, fun u => u = .agg #[.string qs, L], fun u => u = .agg (litCellsM qs L).toArray, fun _ => True, fun _ => True, fun u => u = .pointer (some ⟨q, 2, none⟩), fun _ => True]
def depsC : List (Nat × Nat) := [(1, 0), (2, 1), (3, 2), (4, 3), (6, 5), (7, 4), (7, 6), (9, 8), (10, 9), (11, 7), (11, 10), (13, 11), (13, 12)]
theorem CIX : FCix 4 7 10 11 13 depsC := ⟨by decide, by decide, by decide, by decide, by decide, by decide, by decide, by decide, by decide, by decide, by decide, by decide, by decide, by decide⟩
theorem evG2m (A : Act) (s : Tmp) : A.eval (.tmp s) = A.tmps[s]?.getD undef := by rw [← Array.getD_eq_getD_getElem?]; rfl
theorem argTC_tm {w : World} {B : Nat} {x : Tm} {cs : List Value} (h : ArgTC x cs) : TmC w B x cs := by
  obtain ⟨o, s, n, h1, h2, h3, rfl, rfl⟩ := h
  exact TmC.of h1 h2 h3 (.inl ⟨rfl, rfl⟩)
theorem nulT_c {w : World} {B : Nat} : TmC w B nulT [.int .i64 0, .string ⟨#[]⟩, .int .i64 0, .slice none 0 0] := TmC.of I64_0 (Nat.zero_le _) I64_0 (.inl ⟨rfl, rfl⟩)
theorem varsA_size {r : Ru} (h : ∀ t ∈ termsR r, t.s.size ≤ 1000) {s : ByteArray} (hs : s ∈ varsA r) : s.size ≤ 1000 := by
  unfold varsA at hs
  split at hs
  · obtain ⟨t, ht, _, rfl⟩ := (mem_varsV _ s).1 hs
    exact h t ht
  · cases hs
theorem spread_below {w w' : World} {z : Nat} {v : Value} {m : Nat} {xs : List Value} (h : Spread w z v m xs) (hb : Below w.heap.size w w') : Spread w' z v m xs := by
  rcases h with h | ⟨ad, c, h1, h2, h3, h4⟩
  · exact .inl h
  · refine .inr ⟨ad, c, h1, h2, fun j u hj => ?_, h4⟩
    have hc := h3 j u hj
    exact (hb.cell (World.block_lt_of_cell? _ _ hc)).trans hc
theorem own_keep {w w' : World} {base : Nat} {e : TypeId} {z : Nat} {v : Value} {n : Nat} {xs : List Value} (h : w.ownsRow base e z v n xs) (hb : ∀ b, v.ownBlock = some b → w'.heap[b]? = w.heap[b]?) : w'.ownsRow base e z v n xs := by
  refine ⟨h.1, ?_⟩
  rcases h.2 with h1 | ⟨g, cap, cur, h1, h2, h3, h4⟩
  · exact .inl h1
  · exact .inr ⟨g, cap, cur, h1, h2, (hb g (by rw [h1]; rfl)).trans h3, h4⟩
set_option linter.unusedSimpArgs false in
set_option maxRecDepth 100000 in
set_option maxHeartbeats 16000000 in
theorem dsafeMore_c (r : Ru) (rel : ByteArray) (v : Value) (l : List Int) (t a u : Addr) (w : World) (cs : List Value) (hc : RuC w w.heap.size r cs) (hrel : rel.size ≤ maxLen) (hv : SlOf w w.heap.size 1 IntC l v) (E : EnvZ t a u w) :
    Calls Tryd.prog 9 #[.agg cs.toArray, .string rel, v] w fun e w' => e = .returned (.bool true) ∧ Below w.heap.size w w' := by
  have HR := Lib.hid hc
  have HE := Lib.hid E
  have hb0 : ∀ C : Obj, Below w.heap.size w (w.alloc C) := fun C => (Below.refl _ _).alloc (Nat.le_refl _) _
  have HB0 := Lib.hid hb0
  have HH := Lib.hid (fun (W : World) (hb : Below w.heap.size w W) => shown6_c t a u W (E.below hb))
  have HS := Lib.hid (fun (W : World) (hb : Below w.heap.size w W) => small6_c r cs W ((hc.below hb).more hb.size))
  obtain ⟨o0, k0, o1, k1, rfl, _⟩ := hc.look
  obtain ⟨on, kn, rfl, hc1, hm1, S1⟩ := SlOf.open hv
  have HRl := Lib.hid hrel
  clear hc E hb0 hv hrel
  go_enter Tryd.func9, Tryd.ntmps9
  go_wp2_with fail
  refine (HH.out _ (HB0.out _)).mono ?_
  rintro e1 w1 ⟨rfl, b1⟩
  have r1' : w1.heap[w.heap.size]? = some (.cells #[.string r.head.rel, .slice o0 r.head.l.length k0, .slice o1 r.body.length k1, .int .i64 r.line] 27 (0, 0)) := (b1.block _ (by simp)).trans (World.alloc_heap_new w _)
  have x0 := row_cells r1' 0
  have x1 := row_cells r1' 1
  have x2 := row_cells r1' 2
  have x3 := row_cells r1' 3
  simp at x0 x1 x2 x3
  have hz1 : w.heap.size < w1.heap.size := by have := b1.size; simp at this; omega
  have B1 := Lib.hid ((HB0.out _).trans (b1.mono (by simp)))
  clear b1
  go_wp2_with fail
  refine (HS.out _ B1.out).mono ?_
  rintro e2 w2 ⟨rfl, b2⟩
  have r2' := (b2.block _ hz1).trans r1'
  have B2 := Lib.hid (B1.out.trans (b2.mono B1.out.size))
  have R2 := Lib.hid r2'
  have hz2 := heap_lt r2'
  clear x0 x1 x2 x3 b2 r1'
  have x0 := row_cells r2' 0
  have x1 := row_cells r2' 1
  have x2 := row_cells r2' 2
  have x3 := row_cells r2' 3
  simp at x0 x1 x2 x3
  clear r2'
  cases hs : smallP ⟨[], [r]⟩ with
  | false =>
    clear hs
    go_wp2
    go_ret
    exact ⟨rfl, B2.out⟩
  | true =>
  have HT := Lib.hid (small_terms hs r (List.mem_cons_self ..))
  have HFp := Lib.hid (fewP_small HT.out.1)
  have HFr := Lib.hid (few_small HT.out.1 fun t ht => Nat.le_trans (HT.out.2 t ht) (by decide))
  obtain ⟨m, hm⟩ : ∃ m, r.body.length = m := ⟨_, rfl⟩
  have hm2 : m ≤ 2000 := by rw [← hm]; exact Nat.le_trans (body_len r) HT.out.1
  rw [hm] at x2 HR
  have Hm := Lib.hid hm
  have HP := Lib.hid (order_c r _ t a u w2 ((HR.out.below B2.out).more B2.out.size) HFr.out HFp.out (HE.out.below B2.out))
  have HBd := Lib.hid (fun (W : World) (hb : Below w.heap.size w W) (k : Int) => bound_c r _ k t a u W ((HR.out.below hb).more hb.size) HFr.out HFp.out (by have := HT.out.1; omega) (fun t ht => Nat.le_trans (HT.out.2 t ht) (by decide)) (HE.out.below hb))
  clear hs
  by_cases hm0 : m = 0
  · subst hm0
    go_wp2
    go_ret
    exact ⟨rfl, B2.out⟩
  have hm3 : ¬ (m : Int) = 0 := by omega
  clear hm
  go_wp2_with fail
  refine HP.out.mono ?_
  clear HP
  intro e3 w3 hT
  cases hT with
  | bad h0 b3 =>
    have B3 := Lib.hid (B2.out.trans (b3.mono B2.out.size))
    have r3 := (b3.block _ hz2).trans R2.out
    rw [Hm.out] at r3
    have x0 := row_cells r3 0
    have x1 := row_cells r3 1
    have x2 := row_cells r3 2
    have x3 := row_cells r3 3
    simp at x0 x1 x2 x3
    have HBe := Lib.hid (HBd.out _ B3.out (m : Int))
    have Hh0 := Lib.hid h0
    obtain ⟨z, hz⟩ : ∃ z, ordE r = z := ⟨_, rfl⟩
    have hz0 : ¬ z = 0 := by rw [← hz]; exact h0
    rw [hz]
    have Hz := Lib.hid hz
    clear b3 r3 h0 hz
    go_wp2_with fail
    refine HBe.out.mono ?_
    clear HBe
    intro e4 w4 hT
    cases hT with
    | arg h1 _ _ => exact absurd h1 Hh0.out
    | good h1 _ _ _ _ => exact absurd h1 Hh0.out
    | bad _ b4 =>
      have B4 := Lib.hid (B3.out.trans (b4.mono B3.out.size))
      clear b4
      rw [Hz.out]
      go_wp2
      go_ret
      exact ⟨rfl, B4.out⟩
  | @good _ lv h0 hs3 b3 =>
    have B3 := Lib.hid (B2.out.trans (b3.mono B2.out.size))
    have r3 := (b3.block _ hz2).trans R2.out
    rw [Hm.out] at r3
    have R3 := Lib.hid r3
    have hz3 := heap_lt r3
    have x0 := row_cells r3 0
    have x1 := row_cells r3 1
    have x2 := row_cells r3 2
    have x3 := row_cells r3 3
    simp at x0 x1 x2 x3
    have HBe := Lib.hid (HBd.out _ B3.out (m : Int))
    have Hh0 := Lib.hid h0
    have hln : (orderZ r).length = m := by rw [← Hm.out, orderZ_eq, List.length_map, ord_full h0]
    obtain ⟨ol, cl, rfl, _, _, _⟩ := SlOf.open hs3
    have Hln := Lib.hid hln
    clear b3 h0 hs3 hln r3
    go_wp2_with fail
    refine HBe.out.mono ?_
    clear HBe
    intro e4 w4 hT
    cases hT with
    | bad h1 _ => exact absurd Hh0.out h1
    | arg _ h1 _ =>
      have := Hln.out
      omega
    | @good _ vb _ _ _ hsb b4 =>
    have B4 := Lib.hid (B3.out.trans (b4.mono B3.out.size))
    have R4 := Lib.hid ((b4.block _ hz3).trans R3.out)
    have hz4 := heap_lt R4.out
    have hF : ∀ s ∈ (varsA r).filter (byZ (boundZ r) (m : Int)), hasZ (boundZ r) s = true ∧ s ∈ varsA r := fun s h => ⟨byZ_has h, (List.mem_filter.1 h).1⟩
    obtain ⟨F, hFe⟩ : ∃ F, (varsA r).filter (byZ (boundZ r) (m : Int)) = F := ⟨_, rfl⟩
    rw [hFe] at hsb hF
    have HF := Lib.hid hF
    have HSb := Lib.hid hsb
    obtain ⟨ob, kb, rfl, _, _, SB⟩ := SlOf.open hsb
    clear hsb hF hFe b4 x0 x1 x2 x3
    go_wp2_with fail
    obtain ⟨qs, hqs⟩ : ∃ q : ByteArray, (⟨#[113]⟩ ++ rel.extract 0 (min (rel.size : Int) 5).toNat : ByteArray) = q := ⟨_, rfl⟩
    have hqm : qs.size ≤ maxLen := by
      rw [← hqs, ByteArray.size_append, ByteArray.size_extract]
      have := HRl.out
      show 1 + _ ≤ _
      unfold maxLen at *
      omega
    rw [hqs]
    have HQm := Lib.hid hqm
    obtain ⟨i0, hi, hz0, hz1, hz2⟩ := info_parts info_tm6
    obtain ⟨qa, hqa⟩ : ∃ q, w4.heap.size = q := ⟨_, rfl⟩
    have hq0 : (w4.alloc (.cells #[.string qs, .slice none 0 0] 24)).heap[qa]? = some (.cells #[.string qs, .slice none 0 0] 24 (0, 0)) := by rw [← hqa]; exact World.alloc_heap_new w4 _
    have hb5 : Below w4.heap.size w4 (w4.alloc (.cells #[.string qs, .slice none 0 0] 24)) := (Below.refl _ _).alloc (Nat.le_refl _) _
    try rw [hqa]
    have Hq0 := Lib.hid hq0
    have Hb5 := Lib.hid hb5
    have Hqa := Lib.hid hqa
    have hql : w.heap.size ≤ qa := by rw [← hqa]; exact B4.out.size
    clear hq0 hb5 hqa hqm hqs
    go_loopw [13] (fun iv wr => ∃ (k : Nat) (L : Value) (xs : List Value), k ≤ l.length ∧ k ≤ 5 ∧ iv = .int .i64 k ∧ wr.heap[qa]? = some (.cells #[.string qs, L] 24 (0, 0)) ∧ wr.ownsRow qa 43 4 L k xs ∧ Hid (Laid 4 ArgTC ((l.take k).map (argT F)) xs) ∧ Hid (Below w4.heap.size w4 wr)) (fun iv _ => 5 - (intOf iv).toNat)
    case atStart => exact ⟨0, .slice none 0 0, [], Nat.zero_le _, Nat.zero_le _, rfl, Hq0.out, World.ownsRow_nil _ _ _ _, Lib.hid Laid.nil, Hb5⟩
    case round =>
      obtain ⟨k, L, xs, hk, hk8, rfl, hq, ho, HL, HB⟩ := hrel
      obtain ⟨oL, cL, rfl⟩ := own_shape ho
      have hlq := heap_lt hq
      have HBw := Lib.hid (B4.out.trans (HB.out.mono B4.out.size))
      have Hq := Lib.hid hq
      have HO := Lib.hid ho
      obtain ⟨y0, y1⟩ : wr.cell? ⟨qa, 0, none⟩ = some (.string qs) ∧ wr.cell? ⟨qa, 1, none⟩ = some (.slice oL k cL) := ⟨row_cells hq 0, row_cells hq 1⟩
      clear hq ho
      by_cases hlt : k < l.length ∧ k < 5
      · have hlt1 : (k : Int) < (l.length : Int) := by omega
        have hlt2 : (k : Int) < 5 := by omega
        have hk0 : (0 : Int) ≤ (k : Int) := by omega
        have wk : IntKind.i64.wrap ((k : Int) + 1) = (k : Int) + 1 := by rw [IntKind.wrap_i64]; omega
        obtain ⟨x, hx⟩ : ∃ x, l[k]? = some x := ⟨l[k], List.getElem?_eq_getElem hlt.1⟩
        obtain ⟨ad, rfl, had, hxI, hcx⟩ := int_at S1 HBw.out hx
        have Hcx := Lib.hid hcx
        have HxI := Lib.hid hxI
        have HS1 : Hid (k + 1 ≤ maxLen) := Lib.hid (by unfold maxLen; omega)
        have HS2 : Hid ((k + 1) * 56 ≤ 140737488355328) := Lib.hid (by omega)
        have hst : (l.take (k + 1)).map (argT F) = (l.take k).map (argT F) ++ [argT F x] := by rw [List.take_add_one, hx, List.map_append]; rfl
        have hadw : (ad.add k).block < wr.heap.size := by rw [addBlock]; have := HBw.out.size; omega
        by_cases hxF : 0 ≤ x ∧ x < (F.length : Int)
        · obtain ⟨j, rfl⟩ : ∃ j : Nat, x = (j : Int) := ⟨x.toNat, by omega⟩
          have hj1 : (j : Int) < (F.length : Int) := hxF.2
          have hj0 : (0 : Int) ≤ (j : Int) := hxF.1
          have hj2 : (j : Int) ≥ 0 := hxF.1
          obtain ⟨s, hs⟩ : ∃ s, F[j]? = some s := ⟨_, List.getElem?_eq_getElem (by omega)⟩
          rw [argT_name hxF (by simpa using hs)] at hst
          have Hst := Lib.hid hst
          obtain ⟨pb, rfl, hpb, hsM, hcs⟩ := str_at SB HB.out hs
          have hpbw : (pb.add j).block < wr.heap.size := by rw [addBlock]; have := HB.out.size; omega
          have Hcs := Lib.hid hcs
          have HsM := Lib.hid hsM
          clear hst hx hxI hs hsM hxF hcs
          go_wp2_with fail
          clear hcx
          refine wp_region_any (by kernel_rfl) ?_
          (try (change wpAny _ _ _ _ _ _ _ (World.drew _)))
          refine wpAny_say slotsB _ _ (FB 1 10 11 13 depsB (factsB qa k j (.slice oL k cL) (.slice (some pb) F.length kb) (.slice (some ad) l.length kn) ad pb s) wr.drew (fun v w => ∃ b, v = .slice (some ⟨b, 0, none⟩) 1 1 ∧ w.heap[b]? = some (.cells (strCells s).toArray 43 (0, 0)))
            (fun v w => w.heap[qa]? = some (.cells #[.string qs, .slice oL k cL] 24 (0, 0)) ∧ w.ownsRow qa 43 4 v (k + 1) (xs ++ strCells s) ∧ Below w4.heap.size w4 w)
            (fun w => ∃ L', w.heap[qa]? = some (.cells #[.string qs, L'] 24 (0, 0)) ∧ w.ownsRow qa 43 4 L' (k + 1) (xs ++ strCells s) ∧ Below w4.heap.size w4 w))
            (by kernel_rfl) (by kernel_rfl) (by kernel_rfl) (by kernel_rfl) (by kernel_rfl) ⟨?B0, ?B1, ?B2, ?B3, ?B4, ?B5, ?B6, ?B7, ?B8, ?B9, ?B10, ?B11, ?B12, ?B13, trivial⟩ FB.start ?Bfin
          case B0 =>
            intro l' val A' w' K hl hn' hd hF hfar hdep hK
            have e6 : A'.tmps[12]?.getD undef = .pointer (some ⟨qa, 0, none⟩) := hfar 12 (by decide)
            unfold Oper.wp
            simp [execOp, e6, go_sem, Result.andThen]
            exact hK _ _ (hF.read (by rw [hl]; decide) hn' (fun q hq h => by simp only [depsB, List.mem_cons, List.not_mem_nil, or_false] at hq; rcases hq with rfl | rfl | rfl | rfl | rfl | rfl | rfl | rfl | rfl | rfl | rfl | rfl | rfl <;> simp at h <;> exact hd _ (by kernel_rfl)) (fun p hp => by cases hp; rfl) (by decide) (by decide) (by decide))
          case B1 =>
            intro l' val A' w' K hl hn' hd hF hfar hdep hK
            have e1 : A'.tmps[84]?.getD undef = .pointer (some ⟨qa, 1, none⟩) := (hdep 0 84 rfl (by kernel_rfl)).trans (hF.rd 0 _ (hd 0 (by kernel_rfl)) rfl)
            have h11 : l'.getD 11 false = false := by
              cases h : l'.getD 11 false with
              | false => rfl
              | true => exact ntb hn' (hF.dp (11, 1) (by decide) h)
            have hb : Below wr.heap.size wr w' := by
              cases h10 : l'.getD 10 false with
              | false => exact (Below.refl _ wr).drew.trans (hF.s0 h10)
              | true => exact (Below.refl _ wr).drew.trans (hF.s7 h10 h11).1
            have cc : w'.cell? ⟨qa, 1, none⟩ = some (.slice oL k cL) := row_cells ((hb.block _ hlq).trans Hq.out) 1
            unfold Oper.wp
            simp [execOp, e1, cc, go_sem, Result.andThen]
            exact hK _ _ (hF.read (by rw [hl]; decide) hn' (fun q hq h => by simp only [depsB, List.mem_cons, List.not_mem_nil, or_false] at hq; rcases hq with rfl | rfl | rfl | rfl | rfl | rfl | rfl | rfl | rfl | rfl | rfl | rfl | rfl <;> simp at h <;> exact hd _ (by kernel_rfl)) (fun p hp => by cases hp; rfl) (by decide) (by decide) (by decide))
          case B2 =>
            intro l' val A' w' K hl hn' hd hF hfar hdep hK
            have e1 : A'.tmps[10]?.getD undef = .slice (some pb) F.length kb := hfar 10 (by decide)
            unfold Oper.wp
            simp [execOp, e1, go_sem, Result.andThen]
            exact hK _ _ (hF.read (by rw [hl]; decide) hn' (fun q hq h => by simp only [depsB, List.mem_cons, List.not_mem_nil, or_false] at hq; rcases hq with rfl | rfl | rfl | rfl | rfl | rfl | rfl | rfl | rfl | rfl | rfl | rfl | rfl <;> simp at h <;> exact hd _ (by kernel_rfl)) (fun p hp => by cases hp; rfl) (by decide) (by decide) (by decide))
          case B3 =>
            intro l' val A' w' K hl hn' hd hF hfar hdep hK
            have e1 : A'.tmps[2]?.getD undef = .slice (some ad) l.length kn := hfar 2 (by decide)
            unfold Oper.wp
            simp [execOp, e1, go_sem, Result.andThen]
            exact hK _ _ (hF.read (by rw [hl]; decide) hn' (fun q hq h => by simp only [depsB, List.mem_cons, List.not_mem_nil, or_false] at hq; rcases hq with rfl | rfl | rfl | rfl | rfl | rfl | rfl | rfl | rfl | rfl | rfl | rfl | rfl <;> simp at h <;> exact hd _ (by kernel_rfl)) (fun p hp => by cases hp; rfl) (by decide) (by decide) (by decide))
          case B4 =>
            intro l' val A' w' K hl hn' hd hF hfar hdep hK
            have e7 : A'.tmps[13]?.getD undef = .int .i64 (k : Int) := hfar 13 (by decide)
            unfold Oper.wp
            simp [execOp, e7, go_sem, Result.andThen]
            exact hK _ _ (hF.read (by rw [hl]; decide) hn' (fun q hq h => by simp only [depsB, List.mem_cons, List.not_mem_nil, or_false] at hq; rcases hq with rfl | rfl | rfl | rfl | rfl | rfl | rfl | rfl | rfl | rfl | rfl | rfl | rfl <;> simp at h <;> exact hd _ (by kernel_rfl)) (fun p hp => by cases hp; rfl) (by decide) (by decide) (by decide))
          case B5 =>
            intro l' val A' w' K hl hn' hd hF hfar hdep hK
            have e1 : A'.tmps[87]?.getD undef = .slice (some ad) l.length kn := (hdep 3 87 rfl (by kernel_rfl)).trans (hF.rd 3 _ (hd 3 (by kernel_rfl)) rfl)
            have e2 : A'.tmps[88]?.getD undef = .int .i64 (k : Int) := (hdep 4 88 rfl (by kernel_rfl)).trans (hF.rd 4 _ (hd 4 (by kernel_rfl)) rfl)
            unfold Oper.wp
            simp [execOp, e1, e2, hlt1, hk0, go_sem, Result.andThen]
            exact hK _ _ (hF.read (by rw [hl]; decide) hn' (fun q hq h => by simp only [depsB, List.mem_cons, List.not_mem_nil, or_false] at hq; rcases hq with rfl | rfl | rfl | rfl | rfl | rfl | rfl | rfl | rfl | rfl | rfl | rfl | rfl <;> simp at h <;> exact hd _ (by kernel_rfl)) (fun p hp => by cases hp; rfl) (by decide) (by decide) (by decide))
          case B6 =>
            intro l' val A' w' K hl hn' hd hF hfar hdep hK
            have e1 : A'.tmps[89]?.getD undef = .pointer (some (ad.add k)) := (hdep 5 89 rfl (by kernel_rfl)).trans (hF.rd 5 _ (hd 5 (by kernel_rfl)) rfl)
            have h10 : l'.getD 10 false = false := by
              cases h : l'.getD 10 false with
              | false => rfl
              | true => exact ntb hn' (hF.dp (7, 6) (by decide) (hF.dp (8, 7) (by decide) (hF.dp (9, 8) (by decide) (hF.dp (10, 9) (by decide) (h)))))
            have hb : Below wr.heap.size wr w' := (Below.refl _ wr).drew.trans (hF.s0 h10)
            have cc : w'.cell? (ad.add k) = some (.int .i64 (j : Int)) := (World.cell?_of_block (hb.block _ hadw)).trans Hcx.out
            unfold Oper.wp
            simp [execOp, e1, cc, go_sem, Result.andThen]
            exact hK _ _ (hF.read (by rw [hl]; decide) hn' (fun q hq h => by simp only [depsB, List.mem_cons, List.not_mem_nil, or_false] at hq; rcases hq with rfl | rfl | rfl | rfl | rfl | rfl | rfl | rfl | rfl | rfl | rfl | rfl | rfl <;> simp at h <;> exact hd _ (by kernel_rfl)) (fun p hp => by cases hp; rfl) (by decide) (by decide) (by decide))
          case B7 =>
            intro l' val A' w' K hl hn' hd hF hfar hdep hK
            have e1 : A'.tmps[86]?.getD undef = .slice (some pb) F.length kb := (hdep 2 86 rfl (by kernel_rfl)).trans (hF.rd 2 _ (hd 2 (by kernel_rfl)) rfl)
            have e2 : A'.tmps[90]?.getD undef = .int .i64 (j : Int) := (hdep 6 90 rfl (by kernel_rfl)).trans (hF.rd 6 _ (hd 6 (by kernel_rfl)) rfl)
            unfold Oper.wp
            simp [execOp, e1, e2, hj1, hj0, go_sem, Result.andThen]
            exact hK _ _ (hF.read (by rw [hl]; decide) hn' (fun q hq h => by simp only [depsB, List.mem_cons, List.not_mem_nil, or_false] at hq; rcases hq with rfl | rfl | rfl | rfl | rfl | rfl | rfl | rfl | rfl | rfl | rfl | rfl | rfl <;> simp at h <;> exact hd _ (by kernel_rfl)) (fun p hp => by cases hp; rfl) (by decide) (by decide) (by decide))
          case B8 =>
            intro l' val A' w' K hl hn' hd hF hfar hdep hK
            have e1 : A'.tmps[91]?.getD undef = .pointer (some (pb.add j)) := (hdep 7 91 rfl (by kernel_rfl)).trans (hF.rd 7 _ (hd 7 (by kernel_rfl)) rfl)
            have h10 : l'.getD 10 false = false := by
              cases h : l'.getD 10 false with
              | false => rfl
              | true => exact ntb hn' (hF.dp (9, 8) (by decide) (hF.dp (10, 9) (by decide) (h)))
            have hb : Below wr.heap.size wr w' := (Below.refl _ wr).drew.trans (hF.s0 h10)
            have cc : w'.cell? (pb.add j) = some (.string s) := (World.cell?_of_block (hb.block _ hpbw)).trans Hcs.out
            unfold Oper.wp
            simp [execOp, e1, cc, go_sem, Result.andThen]
            exact hK _ _ (hF.read (by rw [hl]; decide) hn' (fun q hq h => by simp only [depsB, List.mem_cons, List.not_mem_nil, or_false] at hq; rcases hq with rfl | rfl | rfl | rfl | rfl | rfl | rfl | rfl | rfl | rfl | rfl | rfl | rfl <;> simp at h <;> exact hd _ (by kernel_rfl)) (fun p hp => by cases hp; rfl) (by decide) (by decide) (by decide))
          case B9 =>
            intro l' val A' w' K hl hn' hd hF hfar hdep hK
            have e1 : A'.tmps[92]?.getD undef = .string s := (hdep 8 92 rfl (by kernel_rfl)).trans (hF.rd 8 _ (hd 8 (by kernel_rfl)) rfl)
            unfold Oper.wp
            simp [execOp, e1, go_sem, Result.andThen]
            refine (v6_c s w').mono ?_
            rintro e5 w5 ⟨rfl, b5⟩
            exact hK _ _ (hF.call (by rw [hl]; decide) hn' (fun q hq h => by simp only [depsB, List.mem_cons, List.not_mem_nil, or_false] at hq; rcases hq with rfl | rfl | rfl | rfl | rfl | rfl | rfl | rfl | rfl | rfl | rfl | rfl | rfl <;> simp at h <;> exact hd _ (by kernel_rfl)) (fun p hp => by cases hp; rfl) (by decide) (by decide) (by decide) (by decide) (by decide) (by decide) b5)
          case B10 =>
            intro l' val A' w' K hl hn' hd hF hfar hdep hK
            have e1 : A'.tmps[93]?.getD undef = .agg (strCells s).toArray := (hdep 9 93 rfl (by kernel_rfl)).trans (hF.rd 9 _ (hd 9 (by kernel_rfl)) rfl)
            unfold strCells at e1
            unfold Oper.wp
            simp [execOp, e1, go_sem, Result.andThen]
            exact hK _ _ (hF.made (by rw [hl]; decide) hn' (fun q hq h => by simp only [depsB, List.mem_cons, List.not_mem_nil, or_false] at hq; rcases hq with rfl | rfl | rfl | rfl | rfl | rfl | rfl | rfl | rfl | rfl | rfl | rfl | rfl <;> simp at h <;> exact hd _ (by kernel_rfl)) (fun p hp => by cases hp; trivial) (by decide) (by decide) (by decide) (by decide) ((Below.refl _ _).alloc (Nat.le_refl _) _) ⟨_, rfl, World.alloc_heap_new w' _⟩)
          case B11 =>
            intro l' val A' w' K hl hn' hd hF hfar hdep hK
            have e1 : A'.tmps[85]?.getD undef = .slice oL k cL := (hdep 1 85 rfl (by kernel_rfl)).trans (hF.rd 1 _ (hd 1 (by kernel_rfl)) rfl)
            obtain ⟨hb', b, hvb, hrb⟩ := hF.s7 (hd 10 (by kernel_rfl)) hn'
            have e2 : A'.tmps[94]?.getD undef = .slice (some ⟨b, 0, none⟩) 1 1 := (hdep 10 94 rfl (by kernel_rfl)).trans hvb
            have hb : Below wr.heap.size wr w' := (Below.refl _ wr).drew.trans hb'
            have hB2 : Below w4.heap.size w4 w' := HB.out.trans (hb.mono HB.out.size)
            have hown := own_below HO.out hb
            refine wp_append_any w' (.tmp 85) (.tmp 94) 22 rfl qa 43 i0 _ 4 56 Tryd.underlying22 hi hz0 hz1 hz2 rfl (by decide) (.slice oL k cL) k _ (by simpa [Act.eval] using e1) hown (.slice (some ⟨b, 0, none⟩) 1 1) 1 (strCells s) (by simpa [Act.eval] using e2) (.inr ⟨⟨b, 0, none⟩, 1, rfl, rfl, World.news_of_block hrb, by simp [strCells, Value.oneCell']⟩) HS1.out HS2.out (by have := hb.size; omega) ?_
            intro v' w3 hown' hg _
            have hq3 := (hg.block _ (heap_lt ((hb.block _ hlq).trans Hq.out)) (fun e => row_obj hown ((hb.block _ hlq).trans Hq.out) (by decide) e.symm)).trans ((hb.block _ hlq).trans Hq.out)
            exact hK _ _ (hF.appended (by rw [hl]; decide) hn' (fun q hq h => by simp only [depsB, List.mem_cons, List.not_mem_nil, or_false] at hq; rcases hq with rfl | rfl | rfl | rfl | rfl | rfl | rfl | rfl | rfl | rfl | rfl | rfl | rfl <;> simp at h <;> exact hd _ (by kernel_rfl)) (fun p hp => by cases hp; trivial) (by decide) (by decide) (by decide) (by decide) ⟨hq3, hown', hB2.grown hg hB2.size (fun j hj => by rw [Hqa.out]; exact (hown.lt j hj).1)⟩)
          case B12 =>
            intro l' val A' w' K hl hn' hd hF hfar hdep hK
            have e6 : A'.tmps[12]?.getD undef = .pointer (some ⟨qa, 0, none⟩) := hfar 12 (by decide)
            unfold Oper.wp
            simp [execOp, e6, go_sem, Result.andThen]
            exact hK _ _ (hF.read (by rw [hl]; decide) hn' (fun q hq h => by simp only [depsB, List.mem_cons, List.not_mem_nil, or_false] at hq; rcases hq with rfl | rfl | rfl | rfl | rfl | rfl | rfl | rfl | rfl | rfl | rfl | rfl | rfl <;> simp at h <;> exact hd _ (by kernel_rfl)) (fun p hp => by cases hp; rfl) (by decide) (by decide) (by decide))
          case B13 =>
            intro l' val A' w' K hl hn' hd hF hfar hdep hK
            have e9 : A'.tmps[96]?.getD undef = .pointer (some ⟨qa, 1, none⟩) := (hdep 12 96 rfl (by kernel_rfl)).trans (hF.rd 12 _ (hd 12 (by kernel_rfl)) rfl)
            obtain ⟨hq3, hown3, hB3⟩ := hF.s8 (hd 11 (by kernel_rfl)) hn'
            obtain ⟨o8, c8, hv8⟩ := own_shape hown3
            have e8 : A'.tmps[95]?.getD undef = .slice o8 (k + 1) c8 := (hdep 11 95 rfl (by kernel_rfl)).trans hv8
            rw [hv8] at hown3
            have cc : w'.cell? ⟨qa, 1, none⟩ = some (.slice oL k cL) := row_cells hq3 1
            have cf := frz_row hq3 1
            have hq4 : (w'.setCell ⟨qa, 1, none⟩ (.slice o8 (k + 1) c8)).heap[qa]? = some (.cells #[.string qs, .slice o8 (k + 1) c8] 24 (0, 0)) := by simpa using rowSet hq3 1 (.slice o8 (k + 1) c8)
            have ho4 := own_set hown3 (b := qa) (k := 1) (u := .slice o8 (k + 1) c8) (row_obj hown3 hq3 (by decide))
            have hB4 := hB3.setCell (p := ⟨qa, 1, none⟩) (by show w4.heap.size ≤ qa; rw [Hqa.out]; exact Nat.le_refl _) (.slice o8 (k + 1) c8)
            unfold Oper.wp
            simp [execOp, e9, e8, cc, cf, go_sem, Result.andThen]
            exact hK undef _ (hF.stored (by rw [hl]; decide) hn' (fun q hq h => by simp only [depsB, List.mem_cons, List.not_mem_nil, or_false] at hq; rcases hq with rfl | rfl | rfl | rfl | rfl | rfl | rfl | rfl | rfl | rfl | rfl | rfl | rfl <;> simp at h <;> exact hd _ (by kernel_rfl)) (fun p hp => by cases hp; trivial) (by decide) (by decide) (by decide) (by decide) ⟨_, hq4, ho4, hB4⟩)
          case Bfin =>
            intro l' val w3 hall hF
            obtain ⟨L', hq3, ho3, hB3⟩ := hF.s10 (hall 13 (by decide))
            simp only [slotsB, putsA, Nat.zero_add, Nat.reduceAdd]
            generalize val 0 = u0
            generalize val 1 = u1
            generalize val 2 = u2
            generalize val 3 = u3
            generalize val 4 = u4
            generalize val 5 = u5
            generalize val 6 = u6
            generalize val 7 = u7
            generalize val 8 = u8
            generalize val 9 = u9
            generalize val 10 = u10
            generalize val 11 = u11
            generalize val 12 = u12
            generalize val 13 = u13
            have Hq3 := Lib.hid hq3
            have HO3 := Lib.hid ho3
            have HB3 := Lib.hid hB3
            have HL3 : Hid (Laid 4 ArgTC ((l.take (k + 1)).map (argT F)) (xs ++ strCells s)) := Lib.hid (by rw [Hst.out]; exact HL.out.snoc rfl ⟨1, s, 0, I64_1, HsM.out, I64_0, rfl, rfl⟩)
            clear hF hall hq3 ho3 hB3 val
            go_simp
            go_wp2
            go_roundw
            case rel => exact ⟨k + 1, L', xs ++ strCells s, by omega, by omega, by go_num, Hq3.out, HO3.out, HL3, HB3⟩
            case measure => simp [intOf]; omega
        · rw [argT_num hxF] at hst
          have Hst := Lib.hid hst
          have hcond : ¬ x ≥ 0 ∨ (x ≥ 0 ∧ ¬ x < (F.length : Int)) := by omega
          clear hst hx hxI hcx
          have hcx2 := Hcx.out
          rcases hcond with hc | ⟨hc, hd⟩
          · go_wp2_with fail
            clear hcx2
            refine wp_region_any (by kernel_rfl) ?_
            (try (change wpAny _ _ _ _ _ _ _ (World.drew _)))
            refine wpAny_say slotsM _ _ (FB 1 7 8 10 depsA (factsA qa k (.slice oL k cL) (.slice (some ad) l.length kn) ad x) wr.drew (fun v w => ∃ b, v = .slice (some ⟨b, 0, none⟩) 1 1 ∧ w.heap[b]? = some (.cells (intCells x).toArray 43 (0, 0)))
              (fun v w => w.heap[qa]? = some (.cells #[.string qs, .slice oL k cL] 24 (0, 0)) ∧ w.ownsRow qa 43 4 v (k + 1) (xs ++ intCells x) ∧ Below w4.heap.size w4 w)
              (fun w => ∃ L', w.heap[qa]? = some (.cells #[.string qs, L'] 24 (0, 0)) ∧ w.ownsRow qa 43 4 L' (k + 1) (xs ++ intCells x) ∧ Below w4.heap.size w4 w))
              (by kernel_rfl) (by kernel_rfl) (by kernel_rfl) (by kernel_rfl) (by kernel_rfl) ⟨?A0, ?A1, ?A2, ?A3, ?A4, ?A5, ?A6, ?A7, ?A8, ?A9, ?A10, trivial⟩ FB.start ?Afin
            case A0 =>
              intro l' val A' w' K hl hn' hd hF hfar hdep hK
              have e6 : A'.tmps[12]?.getD undef = .pointer (some ⟨qa, 0, none⟩) := hfar 12 (by decide)
              unfold Oper.wp
              simp [execOp, e6, go_sem, Result.andThen]
              exact hK _ _ (hF.read (by rw [hl]; decide) hn' (fun q hq h => by simp only [depsA, List.mem_cons, List.not_mem_nil, or_false] at hq; rcases hq with rfl | rfl | rfl | rfl | rfl | rfl | rfl | rfl | rfl | rfl <;> simp at h <;> exact hd _ (by kernel_rfl)) (fun p hp => by cases hp; rfl) (by decide) (by decide) (by decide))
            case A1 =>
              intro l' val A' w' K hl hn' hd hF hfar hdep hK
              have e1 : A'.tmps[97]?.getD undef = .pointer (some ⟨qa, 1, none⟩) := (hdep 0 97 rfl (by kernel_rfl)).trans (hF.rd 0 _ (hd 0 (by kernel_rfl)) rfl)
              have h8 : l'.getD 8 false = false := by
                cases h : l'.getD 8 false with
                | false => rfl
                | true => exact ntb hn' (hF.dp (8, 1) (by decide) h)
              have hb : Below wr.heap.size wr w' := by
                cases h7 : l'.getD 7 false with
                | false => exact (Below.refl _ wr).drew.trans (hF.s0 h7)
                | true => exact (Below.refl _ wr).drew.trans (hF.s7 h7 h8).1
              have cc : w'.cell? ⟨qa, 1, none⟩ = some (.slice oL k cL) := row_cells ((hb.block _ hlq).trans Hq.out) 1
              unfold Oper.wp
              simp [execOp, e1, cc, go_sem, Result.andThen]
              exact hK _ _ (hF.read (by rw [hl]; decide) hn' (fun q hq h => by simp only [depsA, List.mem_cons, List.not_mem_nil, or_false] at hq; rcases hq with rfl | rfl | rfl | rfl | rfl | rfl | rfl | rfl | rfl | rfl <;> simp at h <;> exact hd _ (by kernel_rfl)) (fun p hp => by cases hp; rfl) (by decide) (by decide) (by decide))
            case A2 =>
              intro l' val A' w' K hl hn' hd hF hfar hdep hK
              have e1 : A'.tmps[2]?.getD undef = .slice (some ad) l.length kn := hfar 2 (by decide)
              unfold Oper.wp
              simp [execOp, e1, go_sem, Result.andThen]
              exact hK _ _ (hF.read (by rw [hl]; decide) hn' (fun q hq h => by simp only [depsA, List.mem_cons, List.not_mem_nil, or_false] at hq; rcases hq with rfl | rfl | rfl | rfl | rfl | rfl | rfl | rfl | rfl | rfl <;> simp at h <;> exact hd _ (by kernel_rfl)) (fun p hp => by cases hp; rfl) (by decide) (by decide) (by decide))
            case A3 =>
              intro l' val A' w' K hl hn' hd hF hfar hdep hK
              have e7 : A'.tmps[13]?.getD undef = .int .i64 (k : Int) := hfar 13 (by decide)
              unfold Oper.wp
              simp [execOp, e7, go_sem, Result.andThen]
              exact hK _ _ (hF.read (by rw [hl]; decide) hn' (fun q hq h => by simp only [depsA, List.mem_cons, List.not_mem_nil, or_false] at hq; rcases hq with rfl | rfl | rfl | rfl | rfl | rfl | rfl | rfl | rfl | rfl <;> simp at h <;> exact hd _ (by kernel_rfl)) (fun p hp => by cases hp; rfl) (by decide) (by decide) (by decide))
            case A4 =>
              intro l' val A' w' K hl hn' hd hF hfar hdep hK
              have e1 : A'.tmps[99]?.getD undef = .slice (some ad) l.length kn := (hdep 2 99 rfl (by kernel_rfl)).trans (hF.rd 2 _ (hd 2 (by kernel_rfl)) rfl)
              have e2 : A'.tmps[100]?.getD undef = .int .i64 (k : Int) := (hdep 3 100 rfl (by kernel_rfl)).trans (hF.rd 3 _ (hd 3 (by kernel_rfl)) rfl)
              unfold Oper.wp
              simp [execOp, e1, e2, hlt1, hk0, go_sem, Result.andThen]
              exact hK _ _ (hF.read (by rw [hl]; decide) hn' (fun q hq h => by simp only [depsA, List.mem_cons, List.not_mem_nil, or_false] at hq; rcases hq with rfl | rfl | rfl | rfl | rfl | rfl | rfl | rfl | rfl | rfl <;> simp at h <;> exact hd _ (by kernel_rfl)) (fun p hp => by cases hp; rfl) (by decide) (by decide) (by decide))
            case A5 =>
              intro l' val A' w' K hl hn' hd hF hfar hdep hK
              have e1 : A'.tmps[101]?.getD undef = .pointer (some (ad.add k)) := (hdep 4 101 rfl (by kernel_rfl)).trans (hF.rd 4 _ (hd 4 (by kernel_rfl)) rfl)
              have h7 : l'.getD 7 false = false := by
                cases h : l'.getD 7 false with
                | false => rfl
                | true => exact ntb hn' (hF.dp (6, 5) (by decide) (hF.dp (7, 6) (by decide) h))
              have hb : Below wr.heap.size wr w' := (Below.refl _ wr).drew.trans (hF.s0 h7)
              have cc : w'.cell? (ad.add k) = some (.int .i64 x) := (World.cell?_of_block (hb.block _ hadw)).trans Hcx.out
              unfold Oper.wp
              simp [execOp, e1, cc, go_sem, Result.andThen]
              exact hK _ _ (hF.read (by rw [hl]; decide) hn' (fun q hq h => by simp only [depsA, List.mem_cons, List.not_mem_nil, or_false] at hq; rcases hq with rfl | rfl | rfl | rfl | rfl | rfl | rfl | rfl | rfl | rfl <;> simp at h <;> exact hd _ (by kernel_rfl)) (fun p hp => by cases hp; rfl) (by decide) (by decide) (by decide))
            case A6 =>
              intro l' val A' w' K hl hn' hd hF hfar hdep hK
              have e1 : A'.tmps[102]?.getD undef = .int .i64 x := (hdep 5 102 rfl (by kernel_rfl)).trans (hF.rd 5 _ (hd 5 (by kernel_rfl)) rfl)
              unfold Oper.wp
              simp [execOp, e1, go_sem, Result.andThen]
              exact hK _ _ (hF.read (by rw [hl]; decide) hn' (fun q hq h => by simp only [depsA, List.mem_cons, List.not_mem_nil, or_false] at hq; rcases hq with rfl | rfl | rfl | rfl | rfl | rfl | rfl | rfl | rfl | rfl <;> simp at h <;> exact hd _ (by kernel_rfl)) (fun p hp => by cases hp; rfl) (by decide) (by decide) (by decide))
            case A7 =>
              intro l' val A' w' K hl hn' hd hF hfar hdep hK
              have e1 : A'.tmps[103]?.getD undef = .agg (intCells x).toArray := (hdep 6 103 rfl (by kernel_rfl)).trans (hF.rd 6 _ (hd 6 (by kernel_rfl)) rfl)
              unfold intCells at e1
              unfold Oper.wp
              simp [execOp, e1, go_sem, Result.andThen]
              exact hK _ _ (hF.made (by rw [hl]; decide) hn' (fun q hq h => by simp only [depsA, List.mem_cons, List.not_mem_nil, or_false] at hq; rcases hq with rfl | rfl | rfl | rfl | rfl | rfl | rfl | rfl | rfl | rfl <;> simp at h <;> exact hd _ (by kernel_rfl)) (fun p hp => by cases hp; trivial) (by decide) (by decide) (by decide) (by decide) ((Below.refl _ _).alloc (Nat.le_refl _) _) ⟨_, rfl, World.alloc_heap_new w' _⟩)
            case A8 =>
              intro l' val A' w' K hl hn' hd hF hfar hdep hK
              have e1 : A'.tmps[98]?.getD undef = .slice oL k cL := (hdep 1 98 rfl (by kernel_rfl)).trans (hF.rd 1 _ (hd 1 (by kernel_rfl)) rfl)
              obtain ⟨hb', b, hvb, hrb⟩ := hF.s7 (hd 7 (by kernel_rfl)) hn'
              have e2 : A'.tmps[104]?.getD undef = .slice (some ⟨b, 0, none⟩) 1 1 := (hdep 7 104 rfl (by kernel_rfl)).trans hvb
              have hb : Below wr.heap.size wr w' := (Below.refl _ wr).drew.trans hb'
              have hB2 : Below w4.heap.size w4 w' := HB.out.trans (hb.mono HB.out.size)
              have hown := own_below HO.out hb
              refine wp_append_any w' (.tmp 98) (.tmp 104) 22 rfl qa 43 i0 _ 4 56 Tryd.underlying22 hi hz0 hz1 hz2 rfl (by decide) (.slice oL k cL) k _ (by simpa [Act.eval] using e1) hown (.slice (some ⟨b, 0, none⟩) 1 1) 1 (intCells x) (by simpa [Act.eval] using e2) (.inr ⟨⟨b, 0, none⟩, 1, rfl, rfl, World.news_of_block hrb, by simp [intCells, Value.oneCell']⟩) HS1.out HS2.out (by have := hb.size; omega) ?_
              intro v' w3 hown' hg _
              have hq3 := (hg.block _ (heap_lt ((hb.block _ hlq).trans Hq.out)) (fun e => row_obj hown ((hb.block _ hlq).trans Hq.out) (by decide) e.symm)).trans ((hb.block _ hlq).trans Hq.out)
              exact hK _ _ (hF.appended (by rw [hl]; decide) hn' (fun q hq h => by simp only [depsA, List.mem_cons, List.not_mem_nil, or_false] at hq; rcases hq with rfl | rfl | rfl | rfl | rfl | rfl | rfl | rfl | rfl | rfl <;> simp at h <;> exact hd _ (by kernel_rfl)) (fun p hp => by cases hp; trivial) (by decide) (by decide) (by decide) (by decide) ⟨hq3, hown', hB2.grown hg hB2.size (fun j hj => by rw [Hqa.out]; exact (hown.lt j hj).1)⟩)
            case A9 =>
              intro l' val A' w' K hl hn' hd hF hfar hdep hK
              have e6 : A'.tmps[12]?.getD undef = .pointer (some ⟨qa, 0, none⟩) := hfar 12 (by decide)
              unfold Oper.wp
              simp [execOp, e6, go_sem, Result.andThen]
              exact hK _ _ (hF.read (by rw [hl]; decide) hn' (fun q hq h => by simp only [depsA, List.mem_cons, List.not_mem_nil, or_false] at hq; rcases hq with rfl | rfl | rfl | rfl | rfl | rfl | rfl | rfl | rfl | rfl <;> simp at h <;> exact hd _ (by kernel_rfl)) (fun p hp => by cases hp; rfl) (by decide) (by decide) (by decide))
            case A10 =>
              intro l' val A' w' K hl hn' hd hF hfar hdep hK
              have e9 : A'.tmps[106]?.getD undef = .pointer (some ⟨qa, 1, none⟩) := (hdep 9 106 rfl (by kernel_rfl)).trans (hF.rd 9 _ (hd 9 (by kernel_rfl)) rfl)
              obtain ⟨hq3, hown3, hB3⟩ := hF.s8 (hd 8 (by kernel_rfl)) hn'
              obtain ⟨o8, c8, hv8⟩ := own_shape hown3
              have e8 : A'.tmps[105]?.getD undef = .slice o8 (k + 1) c8 := (hdep 8 105 rfl (by kernel_rfl)).trans hv8
              rw [hv8] at hown3
              have cc : w'.cell? ⟨qa, 1, none⟩ = some (.slice oL k cL) := row_cells hq3 1
              have cf := frz_row hq3 1
              have hq4 : (w'.setCell ⟨qa, 1, none⟩ (.slice o8 (k + 1) c8)).heap[qa]? = some (.cells #[.string qs, .slice o8 (k + 1) c8] 24 (0, 0)) := by simpa using rowSet hq3 1 (.slice o8 (k + 1) c8)
              have ho4 := own_set hown3 (b := qa) (k := 1) (u := .slice o8 (k + 1) c8) (row_obj hown3 hq3 (by decide))
              have hB4 := hB3.setCell (p := ⟨qa, 1, none⟩) (by show w4.heap.size ≤ qa; rw [Hqa.out]; exact Nat.le_refl _) (.slice o8 (k + 1) c8)
              unfold Oper.wp
              simp [execOp, e9, e8, cc, cf, go_sem, Result.andThen]
              exact hK undef _ (hF.stored (by rw [hl]; decide) hn' (fun q hq h => by simp only [depsA, List.mem_cons, List.not_mem_nil, or_false] at hq; rcases hq with rfl | rfl | rfl | rfl | rfl | rfl | rfl | rfl | rfl | rfl <;> simp at h <;> exact hd _ (by kernel_rfl)) (fun p hp => by cases hp; trivial) (by decide) (by decide) (by decide) (by decide) ⟨_, hq4, ho4, hB4⟩)
            case Afin =>
              intro l' val w3 hall hF
              obtain ⟨L', hq3, ho3, hB3⟩ := hF.s10 (hall 10 (by decide))
              simp only [slotsM, putsA, Nat.zero_add, Nat.reduceAdd]
              generalize val 0 = u0
              generalize val 1 = u1
              generalize val 2 = u2
              generalize val 3 = u3
              generalize val 4 = u4
              generalize val 5 = u5
              generalize val 6 = u6
              generalize val 7 = u7
              generalize val 8 = u8
              generalize val 9 = u9
              generalize val 10 = u10
              have Hq3 := Lib.hid hq3
              have HO3 := Lib.hid ho3
              have HB3 := Lib.hid hB3
              have HL3 : Hid (Laid 4 ArgTC ((l.take (k + 1)).map (argT F)) (xs ++ intCells x)) := Lib.hid (by rw [Hst.out]; exact HL.out.snoc rfl ⟨2, ⟨#[]⟩, x, I64_2, Nat.zero_le _, HxI.out, rfl, rfl⟩)
              clear hF hall hq3 ho3 hB3 val
              go_simp
              go_wp2
              go_roundw
              case rel => exact ⟨k + 1, L', xs ++ intCells x, by omega, by omega, by go_num, Hq3.out, HO3.out, HL3, HB3⟩
              case measure => simp [intOf]; omega
          · go_wp2_with fail
            clear hcx2
            refine wp_region_any (by kernel_rfl) ?_
            (try (change wpAny _ _ _ _ _ _ _ (World.drew _)))
            refine wpAny_say slotsM _ _ (FB 1 7 8 10 depsA (factsA qa k (.slice oL k cL) (.slice (some ad) l.length kn) ad x) wr.drew (fun v w => ∃ b, v = .slice (some ⟨b, 0, none⟩) 1 1 ∧ w.heap[b]? = some (.cells (intCells x).toArray 43 (0, 0)))
              (fun v w => w.heap[qa]? = some (.cells #[.string qs, .slice oL k cL] 24 (0, 0)) ∧ w.ownsRow qa 43 4 v (k + 1) (xs ++ intCells x) ∧ Below w4.heap.size w4 w)
              (fun w => ∃ L', w.heap[qa]? = some (.cells #[.string qs, L'] 24 (0, 0)) ∧ w.ownsRow qa 43 4 L' (k + 1) (xs ++ intCells x) ∧ Below w4.heap.size w4 w))
              (by kernel_rfl) (by kernel_rfl) (by kernel_rfl) (by kernel_rfl) (by kernel_rfl) ⟨?A0, ?A1, ?A2, ?A3, ?A4, ?A5, ?A6, ?A7, ?A8, ?A9, ?A10, trivial⟩ FB.start ?Afin
            case A0 =>
              intro l' val A' w' K hl hn' hd hF hfar hdep hK
              have e6 : A'.tmps[12]?.getD undef = .pointer (some ⟨qa, 0, none⟩) := hfar 12 (by decide)
              unfold Oper.wp
              simp [execOp, e6, go_sem, Result.andThen]
              exact hK _ _ (hF.read (by rw [hl]; decide) hn' (fun q hq h => by simp only [depsA, List.mem_cons, List.not_mem_nil, or_false] at hq; rcases hq with rfl | rfl | rfl | rfl | rfl | rfl | rfl | rfl | rfl | rfl <;> simp at h <;> exact hd _ (by kernel_rfl)) (fun p hp => by cases hp; rfl) (by decide) (by decide) (by decide))
            case A1 =>
              intro l' val A' w' K hl hn' hd hF hfar hdep hK
              have e1 : A'.tmps[97]?.getD undef = .pointer (some ⟨qa, 1, none⟩) := (hdep 0 97 rfl (by kernel_rfl)).trans (hF.rd 0 _ (hd 0 (by kernel_rfl)) rfl)
              have h8 : l'.getD 8 false = false := by
                cases h : l'.getD 8 false with
                | false => rfl
                | true => exact ntb hn' (hF.dp (8, 1) (by decide) h)
              have hb : Below wr.heap.size wr w' := by
                cases h7 : l'.getD 7 false with
                | false => exact (Below.refl _ wr).drew.trans (hF.s0 h7)
                | true => exact (Below.refl _ wr).drew.trans (hF.s7 h7 h8).1
              have cc : w'.cell? ⟨qa, 1, none⟩ = some (.slice oL k cL) := row_cells ((hb.block _ hlq).trans Hq.out) 1
              unfold Oper.wp
              simp [execOp, e1, cc, go_sem, Result.andThen]
              exact hK _ _ (hF.read (by rw [hl]; decide) hn' (fun q hq h => by simp only [depsA, List.mem_cons, List.not_mem_nil, or_false] at hq; rcases hq with rfl | rfl | rfl | rfl | rfl | rfl | rfl | rfl | rfl | rfl <;> simp at h <;> exact hd _ (by kernel_rfl)) (fun p hp => by cases hp; rfl) (by decide) (by decide) (by decide))
            case A2 =>
              intro l' val A' w' K hl hn' hd hF hfar hdep hK
              have e1 : A'.tmps[2]?.getD undef = .slice (some ad) l.length kn := hfar 2 (by decide)
              unfold Oper.wp
              simp [execOp, e1, go_sem, Result.andThen]
              exact hK _ _ (hF.read (by rw [hl]; decide) hn' (fun q hq h => by simp only [depsA, List.mem_cons, List.not_mem_nil, or_false] at hq; rcases hq with rfl | rfl | rfl | rfl | rfl | rfl | rfl | rfl | rfl | rfl <;> simp at h <;> exact hd _ (by kernel_rfl)) (fun p hp => by cases hp; rfl) (by decide) (by decide) (by decide))
            case A3 =>
              intro l' val A' w' K hl hn' hd hF hfar hdep hK
              have e7 : A'.tmps[13]?.getD undef = .int .i64 (k : Int) := hfar 13 (by decide)
              unfold Oper.wp
              simp [execOp, e7, go_sem, Result.andThen]
              exact hK _ _ (hF.read (by rw [hl]; decide) hn' (fun q hq h => by simp only [depsA, List.mem_cons, List.not_mem_nil, or_false] at hq; rcases hq with rfl | rfl | rfl | rfl | rfl | rfl | rfl | rfl | rfl | rfl <;> simp at h <;> exact hd _ (by kernel_rfl)) (fun p hp => by cases hp; rfl) (by decide) (by decide) (by decide))
            case A4 =>
              intro l' val A' w' K hl hn' hd hF hfar hdep hK
              have e1 : A'.tmps[99]?.getD undef = .slice (some ad) l.length kn := (hdep 2 99 rfl (by kernel_rfl)).trans (hF.rd 2 _ (hd 2 (by kernel_rfl)) rfl)
              have e2 : A'.tmps[100]?.getD undef = .int .i64 (k : Int) := (hdep 3 100 rfl (by kernel_rfl)).trans (hF.rd 3 _ (hd 3 (by kernel_rfl)) rfl)
              unfold Oper.wp
              simp [execOp, e1, e2, hlt1, hk0, go_sem, Result.andThen]
              exact hK _ _ (hF.read (by rw [hl]; decide) hn' (fun q hq h => by simp only [depsA, List.mem_cons, List.not_mem_nil, or_false] at hq; rcases hq with rfl | rfl | rfl | rfl | rfl | rfl | rfl | rfl | rfl | rfl <;> simp at h <;> exact hd _ (by kernel_rfl)) (fun p hp => by cases hp; rfl) (by decide) (by decide) (by decide))
            case A5 =>
              intro l' val A' w' K hl hn' hd hF hfar hdep hK
              have e1 : A'.tmps[101]?.getD undef = .pointer (some (ad.add k)) := (hdep 4 101 rfl (by kernel_rfl)).trans (hF.rd 4 _ (hd 4 (by kernel_rfl)) rfl)
              have h7 : l'.getD 7 false = false := by
                cases h : l'.getD 7 false with
                | false => rfl
                | true => exact ntb hn' (hF.dp (6, 5) (by decide) (hF.dp (7, 6) (by decide) h))
              have hb : Below wr.heap.size wr w' := (Below.refl _ wr).drew.trans (hF.s0 h7)
              have cc : w'.cell? (ad.add k) = some (.int .i64 x) := (World.cell?_of_block (hb.block _ hadw)).trans Hcx.out
              unfold Oper.wp
              simp [execOp, e1, cc, go_sem, Result.andThen]
              exact hK _ _ (hF.read (by rw [hl]; decide) hn' (fun q hq h => by simp only [depsA, List.mem_cons, List.not_mem_nil, or_false] at hq; rcases hq with rfl | rfl | rfl | rfl | rfl | rfl | rfl | rfl | rfl | rfl <;> simp at h <;> exact hd _ (by kernel_rfl)) (fun p hp => by cases hp; rfl) (by decide) (by decide) (by decide))
            case A6 =>
              intro l' val A' w' K hl hn' hd hF hfar hdep hK
              have e1 : A'.tmps[102]?.getD undef = .int .i64 x := (hdep 5 102 rfl (by kernel_rfl)).trans (hF.rd 5 _ (hd 5 (by kernel_rfl)) rfl)
              unfold Oper.wp
              simp [execOp, e1, go_sem, Result.andThen]
              exact hK _ _ (hF.read (by rw [hl]; decide) hn' (fun q hq h => by simp only [depsA, List.mem_cons, List.not_mem_nil, or_false] at hq; rcases hq with rfl | rfl | rfl | rfl | rfl | rfl | rfl | rfl | rfl | rfl <;> simp at h <;> exact hd _ (by kernel_rfl)) (fun p hp => by cases hp; rfl) (by decide) (by decide) (by decide))
            case A7 =>
              intro l' val A' w' K hl hn' hd hF hfar hdep hK
              have e1 : A'.tmps[103]?.getD undef = .agg (intCells x).toArray := (hdep 6 103 rfl (by kernel_rfl)).trans (hF.rd 6 _ (hd 6 (by kernel_rfl)) rfl)
              unfold intCells at e1
              unfold Oper.wp
              simp [execOp, e1, go_sem, Result.andThen]
              exact hK _ _ (hF.made (by rw [hl]; decide) hn' (fun q hq h => by simp only [depsA, List.mem_cons, List.not_mem_nil, or_false] at hq; rcases hq with rfl | rfl | rfl | rfl | rfl | rfl | rfl | rfl | rfl | rfl <;> simp at h <;> exact hd _ (by kernel_rfl)) (fun p hp => by cases hp; trivial) (by decide) (by decide) (by decide) (by decide) ((Below.refl _ _).alloc (Nat.le_refl _) _) ⟨_, rfl, World.alloc_heap_new w' _⟩)
            case A8 =>
              intro l' val A' w' K hl hn' hd hF hfar hdep hK
              have e1 : A'.tmps[98]?.getD undef = .slice oL k cL := (hdep 1 98 rfl (by kernel_rfl)).trans (hF.rd 1 _ (hd 1 (by kernel_rfl)) rfl)
              obtain ⟨hb', b, hvb, hrb⟩ := hF.s7 (hd 7 (by kernel_rfl)) hn'
              have e2 : A'.tmps[104]?.getD undef = .slice (some ⟨b, 0, none⟩) 1 1 := (hdep 7 104 rfl (by kernel_rfl)).trans hvb
              have hb : Below wr.heap.size wr w' := (Below.refl _ wr).drew.trans hb'
              have hB2 : Below w4.heap.size w4 w' := HB.out.trans (hb.mono HB.out.size)
              have hown := own_below HO.out hb
              refine wp_append_any w' (.tmp 98) (.tmp 104) 22 rfl qa 43 i0 _ 4 56 Tryd.underlying22 hi hz0 hz1 hz2 rfl (by decide) (.slice oL k cL) k _ (by simpa [Act.eval] using e1) hown (.slice (some ⟨b, 0, none⟩) 1 1) 1 (intCells x) (by simpa [Act.eval] using e2) (.inr ⟨⟨b, 0, none⟩, 1, rfl, rfl, World.news_of_block hrb, by simp [intCells, Value.oneCell']⟩) HS1.out HS2.out (by have := hb.size; omega) ?_
              intro v' w3 hown' hg _
              have hq3 := (hg.block _ (heap_lt ((hb.block _ hlq).trans Hq.out)) (fun e => row_obj hown ((hb.block _ hlq).trans Hq.out) (by decide) e.symm)).trans ((hb.block _ hlq).trans Hq.out)
              exact hK _ _ (hF.appended (by rw [hl]; decide) hn' (fun q hq h => by simp only [depsA, List.mem_cons, List.not_mem_nil, or_false] at hq; rcases hq with rfl | rfl | rfl | rfl | rfl | rfl | rfl | rfl | rfl | rfl <;> simp at h <;> exact hd _ (by kernel_rfl)) (fun p hp => by cases hp; trivial) (by decide) (by decide) (by decide) (by decide) ⟨hq3, hown', hB2.grown hg hB2.size (fun j hj => by rw [Hqa.out]; exact (hown.lt j hj).1)⟩)
            case A9 =>
              intro l' val A' w' K hl hn' hd hF hfar hdep hK
              have e6 : A'.tmps[12]?.getD undef = .pointer (some ⟨qa, 0, none⟩) := hfar 12 (by decide)
              unfold Oper.wp
              simp [execOp, e6, go_sem, Result.andThen]
              exact hK _ _ (hF.read (by rw [hl]; decide) hn' (fun q hq h => by simp only [depsA, List.mem_cons, List.not_mem_nil, or_false] at hq; rcases hq with rfl | rfl | rfl | rfl | rfl | rfl | rfl | rfl | rfl | rfl <;> simp at h <;> exact hd _ (by kernel_rfl)) (fun p hp => by cases hp; rfl) (by decide) (by decide) (by decide))
            case A10 =>
              intro l' val A' w' K hl hn' hd hF hfar hdep hK
              have e9 : A'.tmps[106]?.getD undef = .pointer (some ⟨qa, 1, none⟩) := (hdep 9 106 rfl (by kernel_rfl)).trans (hF.rd 9 _ (hd 9 (by kernel_rfl)) rfl)
              obtain ⟨hq3, hown3, hB3⟩ := hF.s8 (hd 8 (by kernel_rfl)) hn'
              obtain ⟨o8, c8, hv8⟩ := own_shape hown3
              have e8 : A'.tmps[105]?.getD undef = .slice o8 (k + 1) c8 := (hdep 8 105 rfl (by kernel_rfl)).trans hv8
              rw [hv8] at hown3
              have cc : w'.cell? ⟨qa, 1, none⟩ = some (.slice oL k cL) := row_cells hq3 1
              have cf := frz_row hq3 1
              have hq4 : (w'.setCell ⟨qa, 1, none⟩ (.slice o8 (k + 1) c8)).heap[qa]? = some (.cells #[.string qs, .slice o8 (k + 1) c8] 24 (0, 0)) := by simpa using rowSet hq3 1 (.slice o8 (k + 1) c8)
              have ho4 := own_set hown3 (b := qa) (k := 1) (u := .slice o8 (k + 1) c8) (row_obj hown3 hq3 (by decide))
              have hB4 := hB3.setCell (p := ⟨qa, 1, none⟩) (by show w4.heap.size ≤ qa; rw [Hqa.out]; exact Nat.le_refl _) (.slice o8 (k + 1) c8)
              unfold Oper.wp
              simp [execOp, e9, e8, cc, cf, go_sem, Result.andThen]
              exact hK undef _ (hF.stored (by rw [hl]; decide) hn' (fun q hq h => by simp only [depsA, List.mem_cons, List.not_mem_nil, or_false] at hq; rcases hq with rfl | rfl | rfl | rfl | rfl | rfl | rfl | rfl | rfl | rfl <;> simp at h <;> exact hd _ (by kernel_rfl)) (fun p hp => by cases hp; trivial) (by decide) (by decide) (by decide) (by decide) ⟨_, hq4, ho4, hB4⟩)
            case Afin =>
              intro l' val w3 hall hF
              obtain ⟨L', hq3, ho3, hB3⟩ := hF.s10 (hall 10 (by decide))
              simp only [slotsM, putsA, Nat.zero_add, Nat.reduceAdd]
              generalize val 0 = u0
              generalize val 1 = u1
              generalize val 2 = u2
              generalize val 3 = u3
              generalize val 4 = u4
              generalize val 5 = u5
              generalize val 6 = u6
              generalize val 7 = u7
              generalize val 8 = u8
              generalize val 9 = u9
              generalize val 10 = u10
              have Hq3 := Lib.hid hq3
              have HO3 := Lib.hid ho3
              have HB3 := Lib.hid hB3
              have HL3 : Hid (Laid 4 ArgTC ((l.take (k + 1)).map (argT F)) (xs ++ intCells x)) := Lib.hid (by rw [Hst.out]; exact HL.out.snoc rfl ⟨2, ⟨#[]⟩, x, I64_2, Nat.zero_le _, HxI.out, rfl, rfl⟩)
              clear hF hall hq3 ho3 hB3 val
              go_simp
              go_wp2
              go_roundw
              case rel => exact ⟨k + 1, L', xs ++ intCells x, by omega, by omega, by go_num, Hq3.out, HO3.out, HL3, HB3⟩
              case measure => simp [intOf]; omega
      · obtain ⟨m5, hm5⟩ : ∃ m, (l.take 5).map (argT F) = m := ⟨_, rfl⟩
        have hm5l : m5.length = k := by rw [← hm5, List.length_map, List.length_take]; omega
        have hTk : (l.take k).map (argT F) = m5 := by
          rw [← hm5]
          congr 1
          by_cases h8 : k = 5
          · rw [h8]
          · rw [List.take_of_length_le (by omega), List.take_of_length_le (by omega)]
        have HLm : Hid (Laid 4 ArgTC m5 xs) := Lib.hid (by rw [← hTk]; exact HL.out)
        have Hm5 := Lib.hid hm5
        have hrr := (HB.out.block _ hz4).trans R4.out
        have hzr := heap_lt hrr
        have x0 := row_cells hrr 0
        have x1 := row_cells hrr 1
        have x2 := row_cells hrr 2
        have x3 := row_cells hrr 3
        simp at x0 x1 x2 x3
        have Hrr := Lib.hid hrr
        have hcond : (k < l.length ∧ ¬ (k : Int) < 5 ∧ (k : Int) < (l.length : Int)) ∨ ¬ (k : Int) < (l.length : Int) := by omega
        clear hrr hTk hm5
        have h2 : SlOf w w.heap.size 11 (LtC w w.heap.size) r.body (.slice o1 m k1) := by
          have h := HR.out
          rw [← Hm.out] at h ⊢
          obtain ⟨_, _, _, _, e, _, _, H2⟩ := h.look
          cases e
          exact H2
        obtain ⟨bs, hl1, hsp1⟩ := sl_laid h2 lt_one
        rw [Hm.out] at hsp1
        have HBl := Lib.hid hl1
        have HSpB := Lib.hid hsp1
        obtain ⟨q, hq⟩ : ∃ q, wr.heap.size = q := ⟨_, rfl⟩
        obtain ⟨W16, hW16⟩ : ∃ W, wr.alloc (.cells #[.string r.head.rel, .slice o0 r.head.l.length k0, .slice o1 m k1, .int .i64 r.line] 27) = W := ⟨_, rfl⟩
        have hs16 : W16.heap.size = q + 1 := by rw [← hW16, ← hq]; simp
        have hq16 : W16.heap[q]? = some (.cells #[.string r.head.rel, .slice o0 r.head.l.length k0, .slice o1 m k1, .int .i64 r.line] 27 (0, 0)) := by rw [← hW16, ← hq]; exact World.alloc_heap_new wr _
        have hn16 : W16.heap[w.heap.size]? = some (.cells #[.string r.head.rel, .slice o0 r.head.l.length k0, .slice o1 m k1, .int .i64 r.line] 27 (0, 0)) := by rw [← hW16]; exact row_more Hrr.out _
        have ha16 : W16.heap[qa]? = some (.cells #[.string qs, .slice oL k cL] 24 (0, 0)) := by rw [← hW16]; exact row_more Hq.out _
        have hb16 : Below wr.heap.size wr W16 := by rw [← hW16]; exact (Below.refl _ _).alloc (Nat.le_refl _) _
        have HB16 := Lib.hid (HBw.out.trans (hb16.mono HBw.out.size))
        have HO16 := Lib.hid (own_below HO.out hb16)
        have Hq16 := Lib.hid hq16
        have Hn16 := Lib.hid hn16
        have Ha16 := Lib.hid ha16
        have Hs16 := Lib.hid hs16
        have HW16 := Lib.hid hW16
        have Hqq := Lib.hid hq
        have Hz16 : Hid (w.heap.size < q + 1) := Lib.hid (by rw [← hq]; omega)
        have Hqa16 : Hid (qa < q) := Lib.hid (by rw [← hq]; exact hlq)
        have Hk5 : Hid (m5.length = k) := Lib.hid hm5l
        have wm : IntKind.i64.wrap ((m : Int) + 1) = ((m + 1 : Nat) : Int) := by rw [IntKind.wrap_i64]; omega
        have hqn : w.heap.size < q := by rw [← hq]; exact hzr
        clear h2 hl1 hsp1 hs16 hq16 hn16 ha16 hb16 hW16 hq hm5l
        obtain ⟨i1, hi1, hj0, hj1, hj2⟩ := info_parts info_lit
        have mB : i1.bytes * (m + 1) ≤ 281474976710656 := by rw [hj2]; omega
        rcases hcond with ⟨_, hc2, hc3⟩ | hc2
        all_goals
          go_wp2_with fail
          (try rw [Hqq.out])
          (try rw [HW16.out])
          clear x0 x1 x2 x3
          refine wp_region_any (by kernel_rfl) ?_
          (try (change wpAny _ _ _ _ _ _ _ (World.drew _)))
          refine wpAny_say slotsC _ _ (FC 4 7 10 11 13 depsC (factsC w.heap.size q m (.slice o0 r.head.l.length k0) (.slice o1 m k1) qs (.slice oL k cL)) W16.drew 45 11 m bs (litCellsM qs (.slice oL k cL))
            (fun w' => ∃ V, w'.heap[q]? = some (.cells #[.string r.head.rel, .slice o0 r.head.l.length k0, V, .int .i64 r.line] 27 (0, 0)) ∧ w'.ownsRow (q + 1) 45 11 V (m + 1) (bs ++ litCellsM qs (.slice oL k cL)) ∧ Below q W16 w'))
            (by kernel_rfl) (by kernel_rfl) (by kernel_rfl) (by kernel_rfl) (by kernel_rfl) ⟨?C0, ?C1, ?C2, ?C3, ?C4, ?C5, ?C6, ?C7, ?C8, ?C9, ?C10, ?C11, ?C12, ?C13, trivial⟩ FC.start ?Cfin
          case C0 =>
            intro l' val A' w' K hl hn' hd hF hfar hdep hK
            have e1 : A'.tmps[3]?.getD undef = .pointer (some ⟨w.heap.size, 0, none⟩) := hfar 3 (by decide)
            unfold Oper.wp
            simp [execOp, e1, go_sem, Result.andThen]
            exact hK _ _ (hF.read (by rw [hl]; decide) (fun q hq h => by simp only [depsC, List.mem_cons, List.not_mem_nil, or_false] at hq; rcases hq with rfl | rfl | rfl | rfl | rfl | rfl | rfl | rfl | rfl | rfl | rfl | rfl | rfl <;> simp at h <;> exact hd _ (by kernel_rfl)) (fun p hp => by cases hp; rfl) (by decide) (by decide) (by decide) (by decide) (by decide))
          case C1 =>
            intro l' val A' w' K hl hn' hd hF hfar hdep hK
            have e1 : A'.tmps[108]?.getD undef = .pointer (some ⟨w.heap.size, 2, none⟩) := (hdep 0 108 rfl (by kernel_rfl)).trans (hF.rd 0 _ (hd 0 (by kernel_rfl)) rfl)
            have h13 : l'.getD 13 false = false := hF.off (by decide : (13, 11) ∈ depsC) (hF.off (by decide : (11, 7) ∈ depsC) (hF.off (by decide : (7, 4) ∈ depsC) (hF.off (by decide : (4, 3) ∈ depsC) (hF.off (by decide : (3, 2) ∈ depsC) (hF.off (by decide : (2, 1) ∈ depsC) (hn'))))))
            have hb : Below (q + 1) W16 w' := by have := (Below.refl _ W16).drew.trans (hF.s13 h13); rw [show W16.drew.heap.size = q + 1 from Hs16.out] at this; exact this
            have c2 : w'.cell? ⟨w.heap.size, 2, none⟩ = some (.slice o1 m k1) := row_cells ((hb.block _ Hz16.out).trans Hn16.out) 2
            unfold Oper.wp
            simp [execOp, e1, c2, go_sem, Result.andThen]
            exact hK _ _ (hF.read (by rw [hl]; decide) (fun q hq h => by simp only [depsC, List.mem_cons, List.not_mem_nil, or_false] at hq; rcases hq with rfl | rfl | rfl | rfl | rfl | rfl | rfl | rfl | rfl | rfl | rfl | rfl | rfl <;> simp at h <;> exact hd _ (by kernel_rfl)) (fun p hp => by cases hp; rfl) (by decide) (by decide) (by decide) (by decide) (by decide))
          case C2 =>
            intro l' val A' w' K hl hn' hd hF hfar hdep hK
            have e1 : A'.tmps[109]?.getD undef = .slice o1 m k1 := (hdep 1 109 rfl (by kernel_rfl)).trans (hF.rd 1 _ (hd 1 (by kernel_rfl)) rfl)
            unfold Oper.wp
            simp [execOp, e1, go_sem, Result.andThen]
            exact hK _ _ (hF.read (by rw [hl]; decide) (fun q hq h => by simp only [depsC, List.mem_cons, List.not_mem_nil, or_false] at hq; rcases hq with rfl | rfl | rfl | rfl | rfl | rfl | rfl | rfl | rfl | rfl | rfl | rfl | rfl <;> simp at h <;> exact hd _ (by kernel_rfl)) (fun p hp => by cases hp; rfl) (by decide) (by decide) (by decide) (by decide) (by decide))
          case C3 =>
            intro l' val A' w' K hl hn' hd hF hfar hdep hK
            have e1 : A'.tmps[110]?.getD undef = .int .i64 (m : Int) := (hdep 2 110 rfl (by kernel_rfl)).trans (hF.rd 2 _ (hd 2 (by kernel_rfl)) rfl)
            unfold Oper.wp
            simp [execOp, e1, wm, go_sem, Result.andThen]
            exact hK _ _ (hF.read (by rw [hl]; decide) (fun q hq h => by simp only [depsC, List.mem_cons, List.not_mem_nil, or_false] at hq; rcases hq with rfl | rfl | rfl | rfl | rfl | rfl | rfl | rfl | rfl | rfl | rfl | rfl | rfl <;> simp at h <;> exact hd _ (by kernel_rfl)) (fun p hp => by cases hp; rfl) (by decide) (by decide) (by decide) (by decide) (by decide))
          case C4 =>
            intro l' val A' w' K hl hn' hd hF hfar hdep hK
            have e1 : A'.tmps[111]?.getD undef = .int .i64 ((m + 1 : Nat) : Int) := (hdep 3 111 rfl (by kernel_rfl)).trans (hF.rd 3 _ (hd 3 (by kernel_rfl)) rfl)
            refine wp_make_any w' _ _ 25 rfl w'.heap.size 45 i1 _ 11 Tryd.underlying25 hi1 hj0 hj1 .i64 .i64 (m + 1) rfl ((evG2m _ _).trans e1) mB (by unfold maxLen; omega) (Nat.le_refl _) fun w3 hown hg => ?_
            exact hK _ _ (hF.make CIX (by rw [hl]; decide) hn' (fun q hq h => by simp only [depsC, List.mem_cons, List.not_mem_nil, or_false] at hq; rcases hq with rfl | rfl | rfl | rfl | rfl | rfl | rfl | rfl | rfl | rfl | rfl | rfl | rfl <;> simp at h <;> exact hd _ (by kernel_rfl)) (fun p hp => by cases hp; trivial) hown hg)
          case C5 =>
            intro l' val A' w' K hl hn' hd hF hfar hdep hK
            have e1 : A'.tmps[3]?.getD undef = .pointer (some ⟨w.heap.size, 0, none⟩) := hfar 3 (by decide)
            unfold Oper.wp
            simp [execOp, e1, go_sem, Result.andThen]
            exact hK _ _ (hF.read (by rw [hl]; decide) (fun q hq h => by simp only [depsC, List.mem_cons, List.not_mem_nil, or_false] at hq; rcases hq with rfl | rfl | rfl | rfl | rfl | rfl | rfl | rfl | rfl | rfl | rfl | rfl | rfl <;> simp at h <;> exact hd _ (by kernel_rfl)) (fun p hp => by cases hp; rfl) (by decide) (by decide) (by decide) (by decide) (by decide))
          case C6 =>
            intro l' val A' w' K hl hn' hd hF hfar hdep hK
            have e1 : A'.tmps[113]?.getD undef = .pointer (some ⟨w.heap.size, 2, none⟩) := (hdep 5 113 rfl (by kernel_rfl)).trans (hF.rd 5 _ (hd 5 (by kernel_rfl)) rfl)
            have h13 : l'.getD 13 false = false := hF.off (by decide : (13, 11) ∈ depsC) (hF.off (by decide : (11, 7) ∈ depsC) (hF.off (by decide : (7, 6) ∈ depsC) (hn')))
            have hb : Below (q + 1) W16 w' := by have := (Below.refl _ W16).drew.trans (hF.s13 h13); rw [show W16.drew.heap.size = q + 1 from Hs16.out] at this; exact this
            have c2 : w'.cell? ⟨w.heap.size, 2, none⟩ = some (.slice o1 m k1) := row_cells ((hb.block _ Hz16.out).trans Hn16.out) 2
            unfold Oper.wp
            simp [execOp, e1, c2, go_sem, Result.andThen]
            exact hK _ _ (hF.read (by rw [hl]; decide) (fun q hq h => by simp only [depsC, List.mem_cons, List.not_mem_nil, or_false] at hq; rcases hq with rfl | rfl | rfl | rfl | rfl | rfl | rfl | rfl | rfl | rfl | rfl | rfl | rfl <;> simp at h <;> exact hd _ (by kernel_rfl)) (fun p hp => by cases hp; rfl) (by decide) (by decide) (by decide) (by decide) (by decide))
          case C7 =>
            intro l' val A' w' K hl hn' hd hF hfar hdep hK
            have e0 := hdep 4 112 rfl (by kernel_rfl)
            have e1 : A'.tmps[114]?.getD undef = .slice o1 m k1 := (hdep 6 114 rfl (by kernel_rfl)).trans (hF.rd 6 _ (hd 6 (by kernel_rfl)) rfl)
            have h4 := hF.m4 (hd 4 (by kernel_rfl)) hn'
            have h13 : l'.getD 13 false = false := hF.off (by decide : (13, 11) ∈ depsC) (hF.off (by decide : (11, 7) ∈ depsC) (hn'))
            have hb0 := hF.s13 h13
            have hb : Below w.heap.size w w' := HB16.out.trans (((Below.refl _ W16).drew.trans hb0).mono HB16.out.size)
            refine wp_append_any w' _ _ 25 rfl W16.drew.heap.size 45 i1 _ 11 160 Tryd.underlying25 hi1 hj0 hj1 hj2 rfl (by decide) (val 4) 0 [] ((evG2m _ _).trans e0) h4 (.slice o1 m k1) m bs ((evG2m _ _).trans e1) (spread_below HSpB.out hb) (by unfold maxLen; omega) (by omega) hb0.size fun v' w3 hown hg _ => ?_
            rw [Nat.zero_add, List.nil_append] at hown
            exact hK _ _ (hF.list CIX (by rw [hl]; decide) hn' (fun q hq h => by simp only [depsC, List.mem_cons, List.not_mem_nil, or_false] at hq; rcases hq with rfl | rfl | rfl | rfl | rfl | rfl | rfl | rfl | rfl | rfl | rfl | rfl | rfl <;> simp at h <;> exact hd _ (by kernel_rfl)) (fun p hp => by cases hp; trivial) hown hg)
          case C8 =>
            intro l' val A' w' K hl hn' hd hF hfar hdep hK
            have e1 : A'.tmps[12]?.getD undef = .pointer (some ⟨qa, 0, none⟩) := hfar 12 (by decide)
            have h13 : l'.getD 13 false = false := hF.off (by decide : (13, 11) ∈ depsC) (hF.off (by decide : (11, 10) ∈ depsC) (hF.off (by decide : (10, 9) ∈ depsC) (hF.off (by decide : (9, 8) ∈ depsC) (hn'))))
            have hb : Below (q + 1) W16 w' := by have := (Below.refl _ W16).drew.trans (hF.s13 h13); rw [show W16.drew.heap.size = q + 1 from Hs16.out] at this; exact this
            have hra := (hb.block qa (by have := Hqa16.out; omega)).trans Ha16.out
            have y0 : w'.cell? ⟨qa, 0, none⟩ = some (.string qs) := row_cells hra 0
            have y1 : w'.cell? ⟨qa, 1, none⟩ = some (.slice oL k cL) := row_cells hra 1
            unfold Oper.wp
            simp [execOp, e1, y0, y1, go_sem, Result.andThen]
            exact hK _ _ (hF.read (by rw [hl]; decide) (fun q hq h => by simp only [depsC, List.mem_cons, List.not_mem_nil, or_false] at hq; rcases hq with rfl | rfl | rfl | rfl | rfl | rfl | rfl | rfl | rfl | rfl | rfl | rfl | rfl <;> simp at h <;> exact hd _ (by kernel_rfl)) (fun p hp => by cases hp; rfl) (by decide) (by decide) (by decide) (by decide) (by decide))
          case C9 =>
            intro l' val A' w' K hl hn' hd hF hfar hdep hK
            have e1 : A'.tmps[116]?.getD undef = .agg #[.string qs, .slice oL k cL] := (hdep 8 116 rfl (by kernel_rfl)).trans (hF.rd 8 _ (hd 8 (by kernel_rfl)) rfl)
            unfold Oper.wp
            simp [execOp, e1, go_sem, Result.andThen]
            exact hK _ _ (hF.read (by rw [hl]; decide) (fun q hq h => by simp only [depsC, List.mem_cons, List.not_mem_nil, or_false] at hq; rcases hq with rfl | rfl | rfl | rfl | rfl | rfl | rfl | rfl | rfl | rfl | rfl | rfl | rfl <;> simp at h <;> exact hd _ (by kernel_rfl)) (fun p hp => by cases hp; rfl) (by decide) (by decide) (by decide) (by decide) (by decide))
          case C10 =>
            intro l' val A' w' K hl hn' hd hF hfar hdep hK
            have e1 : A'.tmps[117]?.getD undef = .agg (litCellsM qs (.slice oL k cL)).toArray := (hdep 9 117 rfl (by kernel_rfl)).trans (hF.rd 9 _ (hd 9 (by kernel_rfl)) rfl)
            unfold litCellsM at e1
            unfold Oper.wp
            simp [execOp, e1, go_sem, Result.andThen]
            exact hK _ _ (hF.built CIX (by rw [hl]; decide) hn' (fun q hq h => by simp only [depsC, List.mem_cons, List.not_mem_nil, or_false] at hq; rcases hq with rfl | rfl | rfl | rfl | rfl | rfl | rfl | rfl | rfl | rfl | rfl | rfl | rfl <;> simp at h <;> exact hd _ (by kernel_rfl)) (fun p hp => by cases hp; trivial) ((Below.refl _ _).alloc (Nat.le_refl _) _) ⟨_, rfl, World.alloc_heap_new w' _, Nat.le_refl _⟩)
          case C11 =>
            intro l' val A' w' K hl hn' hd hF hfar hdep hK
            have e0 := hdep 7 115 rfl (by kernel_rfl)
            obtain ⟨b, hvb, hrb, _⟩ := hF.b10 (hd 10 (by kernel_rfl)) hn'
            have e1 : A'.tmps[118]?.getD undef = .slice (some ⟨b, 0, none⟩) 1 1 := (hdep 10 118 rfl (by kernel_rfl)).trans hvb
            have h7 := hF.m7 (hd 7 (by kernel_rfl)) hn'
            have h13 : l'.getD 13 false = false := hF.off (by decide : (13, 11) ∈ depsC) (hn')
            refine wp_append_any w' _ _ 25 rfl W16.drew.heap.size 45 i1 _ 11 160 Tryd.underlying25 hi1 hj0 hj1 hj2 rfl (by decide) (val 7) m bs ((evG2m _ _).trans e0) h7 (.slice (some ⟨b, 0, none⟩) 1 1) 1 (litCellsM qs (.slice oL k cL)) ((evG2m _ _).trans e1) (.inr ⟨⟨b, 0, none⟩, 1, rfl, rfl, World.news_of_block hrb, by simp [litCellsM, Value.oneCell']⟩) (by unfold maxLen; omega) (by omega) (hF.s13 h13).size fun v' w3 hown hg _ => ?_
            exact hK _ _ (hF.last CIX (by rw [hl]; decide) hn' (fun q hq h => by simp only [depsC, List.mem_cons, List.not_mem_nil, or_false] at hq; rcases hq with rfl | rfl | rfl | rfl | rfl | rfl | rfl | rfl | rfl | rfl | rfl | rfl | rfl <;> simp at h <;> exact hd _ (by kernel_rfl)) (fun p hp => by cases hp; trivial) hown hg)
          case C12 =>
            intro l' val A' w' K hl hn' hd hF hfar hdep hK
            have e1 : A'.tmps[14]?.getD undef = .pointer (some ⟨q, 0, none⟩) := hfar 14 (by decide)
            unfold Oper.wp
            simp [execOp, e1, go_sem, Result.andThen]
            exact hK _ _ (hF.read (by rw [hl]; decide) (fun q hq h => by simp only [depsC, List.mem_cons, List.not_mem_nil, or_false] at hq; rcases hq with rfl | rfl | rfl | rfl | rfl | rfl | rfl | rfl | rfl | rfl | rfl | rfl | rfl <;> simp at h <;> exact hd _ (by kernel_rfl)) (fun p hp => by cases hp; rfl) (by decide) (by decide) (by decide) (by decide) (by decide))
          case C13 =>
            intro l' val A' w' K hl hn' hd hF hfar hdep hK
            have e0 : A'.tmps[120]?.getD undef = .pointer (some ⟨q, 2, none⟩) := (hdep 12 120 rfl (by kernel_rfl)).trans (hF.rd 12 _ (hd 12 (by kernel_rfl)) rfl)
            have h11 := hF.a11 (hd 11 (by kernel_rfl)) hn'
            have hb0 : Below (q + 1) W16 w' := by have := (Below.refl _ W16).drew.trans (hF.s13 hn'); rw [show W16.drew.heap.size = q + 1 from Hs16.out] at this; exact this
            obtain ⟨ob, kb', eb⟩ := own_shape h11
            have e1 : A'.tmps[119]?.getD undef = .slice ob (m + 1) kb' := (hdep 11 119 rfl (by kernel_rfl)).trans eb
            rw [eb] at h11
            have hqr := (hb0.block q (Nat.lt_succ_self q)).trans Hq16.out
            have c2 : w'.cell? ⟨q, 2, none⟩ = some (.slice o1 m k1) := row_cells hqr 2
            have f2 := frz_row hqr 2
            have hqr2 : (w'.setCell ⟨q, 2, none⟩ (.slice ob (m + 1) kb')).heap[q]? = some (.cells #[.string r.head.rel, .slice o0 r.head.l.length k0, .slice ob (m + 1) kb', .int .i64 r.line] 27 (0, 0)) := by simpa using rowSet hqr 2 (.slice ob (m + 1) kb')
            have ho2 := own_set h11 (b := q) (k := 2) (u := .slice ob (m + 1) kb') (row_obj h11 hqr (by decide))
            have hB2 := (hb0.mono (Nat.le_succ q)).setCell (p := ⟨q, 2, none⟩) (Nat.le_refl _) (.slice ob (m + 1) kb')
            rw [show W16.drew.heap.size = q + 1 from Hs16.out] at ho2
            unfold Oper.wp
            simp [execOp, e0, e1, c2, f2, go_sem, Result.andThen]
            exact hK undef _ (hF.stored CIX (by rw [hl]; decide) (fun q hq h => by simp only [depsC, List.mem_cons, List.not_mem_nil, or_false] at hq; rcases hq with rfl | rfl | rfl | rfl | rfl | rfl | rfl | rfl | rfl | rfl | rfl | rfl | rfl <;> simp at h <;> exact hd _ (by kernel_rfl)) (fun p hp => by cases hp; trivial) ⟨_, hqr2, ho2, hB2⟩)
          case Cfin =>
            intro l' val w5 hall hF
            obtain ⟨V, hqV, hoV, hBV⟩ := hF.f13 (hall 13 (by decide))
            simp only [slotsC, putsA, Nat.zero_add, Nat.reduceAdd]
            generalize val 0 = u0
            generalize val 1 = u1
            generalize val 2 = u2
            generalize val 3 = u3
            generalize val 4 = u4
            generalize val 5 = u5
            generalize val 6 = u6
            generalize val 7 = u7
            generalize val 8 = u8
            generalize val 9 = u9
            generalize val 10 = u10
            generalize val 11 = u11
            generalize val 12 = u12
            generalize val 13 = u13
            obtain ⟨oV, cV, rfl⟩ := own_shape hoV
            have hB5 : Below w.heap.size w w5 := HB16.out.trans (hBV.mono (by omega))
            have hlr : (moreR r (litM qs F (l.take 5))).body.length = m + 1 := by
              show (r.body ++ [_]).length = _
              rw [List.length_append, Hm.out]; rfl
            have ho5 : w5.ownsRow qa 43 4 (.slice oL k cL) k xs := own_keep HO16.out fun j hj => hBV.block j (Nat.lt_of_lt_of_eq (HO.out.lt j hj).2 Hqq.out)
            have hT5 : SlOf w5 w5.heap.size 4 (TmC w5 w5.heap.size) m5 (.slice oL k cL) := sl_own0 (by rw [Hk5.out]; exact ho5) (HLm.out.mono fun x cs h => argTC_tm h)
            have hL5 : LtC w5 w5.heap.size (litM qs F (l.take 5)) (litCellsM qs (.slice oL k cL)) := ⟨[.string qs, .slice oL k cL], [.int .i64 0, .string ⟨#[]⟩, .int .i64 0, .slice none 0 0], [.int .i64 0, .string ⟨#[]⟩, .int .i64 0, .slice none 0 0], rfl, I64_1, ⟨_, rfl, HQm.out, by show TmS _ _ ((l.take 5).map (argT F)) _; rw [Hm5.out]; exact hT5⟩, nulT_c, nulT_c⟩
            have hLs : Laid 11 (LtC w5 w5.heap.size) (moreR r (litM qs F (l.take 5))).body (bs ++ litCellsM qs (.slice oL k cL)) := (HBl.out.mono fun x cs h => (h.below hB5).more hB5.size).snoc rfl hL5
            have hSl := sl_own0 (P := LtC w5 w5.heap.size) (acc := (moreR r (litM qs F (l.take 5))).body) (by rw [hlr]; exact hoV) hLs
            have hRU : RuC w5 w5.heap.size (moreR r (litM qs F (l.take 5))) [.string r.head.rel, .slice o0 r.head.l.length k0, .slice oV (m + 1) cV, .int .i64 r.line] := by
              have h := HR.out
              rw [← Hm.out] at h
              obtain ⟨_, _, _, _, e, hI, hA, _⟩ := h.look
              cases e
              exact ⟨[.string r.head.rel, .slice o0 r.head.l.length k0], _, rfl, hI, (hA.below hB5).more hB5.size, hSl⟩
            have hfw := more_few (q := qs) (F := F) (l := l.take 5) HT.out.1 HT.out.2 (fun s hs => varsA_size HT.out.2 (HF.out s hs).2) (by rw [List.length_take]; omega)
            have hord := more_ord (litM_plain (q := qs) (F := F) (fun s hs => (HF.out s hs).1) (l.take 5)) Hh0.out
            have HP5 := Lib.hid (order_c (moreR r (litM qs F (l.take 5))) _ t a u w5 hRU hfw.1 hfw.2 (HE.out.below hB5))
            have Hord := Lib.hid hord
            have HB5 := Lib.hid hB5
            have HqV := Lib.hid hqV
            have hzV := heap_lt hqV
            have d0 : w5.cell? ⟨q, 0, none⟩ = some (.string r.head.rel) := row_cells hqV 0
            have d1 : w5.cell? ⟨q, 1, none⟩ = some (.slice o0 r.head.l.length k0) := row_cells hqV 1
            have d2 : w5.cell? ⟨q, 2, none⟩ = some (.slice oV (m + 1) cV) := row_cells hqV 2
            have d3 : w5.cell? ⟨q, 3, none⟩ = some (.int .i64 r.line) := row_cells hqV 3
            clear hF hall hqV hoV hBV val hB5 hlr ho5 hT5 hL5 hLs hSl hRU hfw hord mB hj0 hj1 hj2 hi1
            go_simp
            go_wp2_with fail
            refine HP5.out.mono ?_
            clear HP5
            intro e6 w6 hT
            cases hT with
            | bad h0 b6 =>
              have HB6 := Lib.hid (HB5.out.trans (b6.mono HB5.out.size))
              have h30 : ordE (moreR r (litM qs F (l.take 5))) = 30 := by
                rcases Hord.out with h | h
                · exact absurd h.1 h0
                · exact h
              rw [h30]
              clear h0 b6 h30 d0 d1 d2 d3
              go_wp2
              go_ret
              exact ⟨rfl, HB6.out⟩
            | @good _ lv2 h0 hs6 b6 =>
              have HB6 := Lib.hid (HB5.out.trans (b6.mono HB5.out.size))
              have hln6 : (orderZ (moreR r (litM qs F (l.take 5)))).length = m + 1 := by
                rcases Hord.out with h | h
                · rw [h.2, Hm.out]
                · rw [h0] at h; cases h
              obtain ⟨o6, c6, rfl, _, _, _⟩ := SlOf.open hs6
              have hr6 := (b6.block _ hzV).trans HqV.out
              have d0 : w6.cell? ⟨q, 0, none⟩ = some (.string r.head.rel) := row_cells hr6 0
              have d1 : w6.cell? ⟨q, 1, none⟩ = some (.slice o0 r.head.l.length k0) := row_cells hr6 1
              have d2 : w6.cell? ⟨q, 2, none⟩ = some (.slice oV (m + 1) cV) := row_cells hr6 2
              have d3 : w6.cell? ⟨q, 3, none⟩ = some (.int .i64 r.line) := row_cells hr6 3
              rw [hln6]
              clear h0 b6 hs6 hln6 hr6
              go_wp2
              go_ret
              exact ⟨rfl, HB6.out⟩
end Go.Proofs.YtfcfehflocglpaaDoor
