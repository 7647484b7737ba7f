/- The law DtypeLess. -/
import Derived.Test.YtbpdfmpfnbdeoaaDoorKYsh
import Derived.Test.YtbpdfmpfnbdeoaaDoorKLaid
import Derived.Test.YtbpdfmpfnbdeoaaDoorKChain
import Derived.Test.YtbpdfmpfnbdeoaaDoorKYmv
import Derived.Test.YtbpdfmpfnbdeoaaDoorKFlowG
namespace Go.Proofs.YtbpdfmpfnbdeoaaDoor
open Go.RowKit

theorem evG2 (A : Act) (s : Tmp) : A.eval (.tmp s) = A.tmps[s]?.getD undef := by rw [← Array.getD_eq_getD_getElem?]; rfl
def rowR2 (h : ByteArray) (v u : Value) (l : Int) : Array Value := #[.string h, v, u, .int .i64 l]
theorem box_set2 {w : World} {q : Nat} {h : ByteArray} {v u : Value} {l : Int} {T : TypeId} (hr : w.heap[q]? = some (.cells (rowR2 h v u l) T (0, 0))) (x : Value) : (w.setCell ⟨q, 2, none⟩ x).heap[q]? = some (.cells (rowR2 h v x l) T (0, 0)) := set_row hr 2 x
theorem setCell_grown2 (w : World) (q k : Nat) (x : Value) : w.grownBy (w.setCell ⟨q, k, none⟩ x) (some q) := ⟨rfl, rfl, rfl, by simp [World.setCell], fun i _ hne => Below.heap_setCell w ⟨q, k, none⟩ x i (fun e => hne (by rw [e]))⟩
theorem row_frozen2 {w : World} {b : Nat} {cs : Array Value} {T : TypeId} (h : w.heap[b]? = some (.cells cs T (0, 0))) (i : Nat) : w.frozen? ⟨b, i, none⟩ = false := by unfold World.frozen?; rw [h]; simp
theorem cut_right {ds : List De} {r r' : Ru} (hh : r'.head = r.head) (hl : r'.body.length ≤ r.body.length) (he : r'.body.isEmpty = r.body.isEmpty) (hm : ∀ x ∈ r'.body, x ∈ r.body) (h : rightP ⟨ds, [r]⟩ = true) : rightP ⟨ds, [r']⟩ = true := by
  unfold rightP rightR at h ⊢
  simp only [Bool.and_eq_true, List.all_cons, List.all_nil, Bool.and_true, decide_eq_true_eq, List.all_eq_true] at h ⊢
  obtain ⟨⟨⟨h1, h2⟩, h3⟩, ⟨⟨h4, h5⟩, h6⟩, h7⟩ := h
  rw [hh, he]
  exact ⟨⟨⟨h1, h2⟩, h3⟩, ⟨⟨h4, by omega⟩, h6⟩, fun x hx => h7 x (hm x hx)⟩
theorem cut_terms {r : Ru} {m : Nat} (hm : m < r.body.length) : (termsR ⟨r.head, r.body.take m ++ r.body.drop (m + 1), r.line⟩).length ≤ (termsR r).length := by
  have e : r.body = r.body.take m ++ (r.body[m] :: r.body.drop (m + 1)) := by
    rw [← List.drop_eq_getElem_cons hm, List.take_append_drop]
  have e2 : (r.body.flatMap litTs).length = ((r.body.take m).flatMap litTs).length + ((litTs r.body[m]).length + ((r.body.drop (m + 1)).flatMap litTs).length) := by
    have h := congrArg (fun l : List Lt => (l.flatMap litTs).length) e
    simp only [List.flatMap_append, List.length_append, List.flatMap_cons] at h
    exact h
  have e3 : ((r.body.take m ++ r.body.drop (m + 1)).flatMap litTs).length = ((r.body.take m).flatMap litTs).length + ((r.body.drop (m + 1)).flatMap litTs).length := by rw [List.flatMap_append, List.length_append]
  unfold termsR
  rw [List.length_append, List.length_append]
  show (subTs r.head.l).length + ((r.body.take m ++ r.body.drop (m + 1)).flatMap litTs).length ≤ (subTs r.head.l).length + (r.body.flatMap litTs).length
  rw [e3, e2]
  omega
def slotsL8 : List (Option Tmp) := [some 49, some 50, some 51, some 52, some 53, some 54, some 55, some 56, some 57, some 58, some 59, some 60, some 61, some 62, some 63, some 64, none]
def factsL8 (b q : Nat) (v u1 u2 : Value) (n m : Nat) : List (Value → Prop) :=
  [fun x => x = .pointer (some ⟨b, 2, none⟩), fun x => x = v, fun x => x = .int .i64 (n : Int), fun _ => True, fun x => x = .pointer (some ⟨b, 2, none⟩), fun x => x = v, fun x => x = .int .i64 (m : Int), fun x => x = u1, fun _ => True,
   fun x => x = .pointer (some ⟨b, 2, none⟩), fun x => x = v, fun x => x = .int .i64 (m : Int), fun x => x = .int .i64 ((m : Int) + 1), fun x => x = u2, fun _ => True, fun x => x = .pointer (some ⟨q, 2, none⟩)]
def stateL8 (N q n1 n2 : Nat) (xs ys : List Value) (h : ByteArray) (v u : Value) (ln : Int) : Nat → (Nat → Value) → World → Prop
  | 0, _, w => w.heap[q]? = some (.cells (rowR2 h v u ln) 27 (0, 0))
  | 1, val, w => w.heap[q]? = some (.cells (rowR2 h v u ln) 27 (0, 0)) ∧ w.ownsRow N 45 11 (val 3) 0 []
  | 2, val, w => w.heap[q]? = some (.cells (rowR2 h v u ln) 27 (0, 0)) ∧ w.ownsRow N 45 11 (val 8) n1 xs
  | 3, val, w => w.heap[q]? = some (.cells (rowR2 h v u ln) 27 (0, 0)) ∧ w.ownsRow N 45 11 (val 14) (n1 + n2) (xs ++ ys)
  | _, val, w => w.heap[q]? = some (.cells (rowR2 h v (val 14) ln) 27 (0, 0)) ∧ w.ownsRow N 45 11 (val 14) (n1 + n2) (xs ++ ys)
def slotsL17 : List (Option Tmp) := [some 88, some 89, some 90, some 91, some 92, some 93, some 94, some 95, some 96, some 97, some 98, some 99, some 100, some 101, some 102]
def factsL17 (X A Y B : Value) (k : Nat) (py : Addr) (s : ByteArray) (t : Int) : List (Value → World → Prop) :=
  [fun v _ => v = X, fun v _ => v = A, fun v _ => v = Y, fun v _ => v = .int .i64 (k : Int), fun v _ => v = .pointer (some py), fun v _ => v = .string s, fun v _ => v = .int .i64 t,
   fun v _ => v = Y, fun v _ => v = B, fun v _ => v = Y, fun v _ => v = .int .i64 (k : Int), fun v _ => v = .pointer (some py), fun v _ => v = .string s, fun v _ => v = .int .i64 t, fun v _ => v = .bool false]
theorem factsL17_mono (X A Y B : Value) (k : Nat) (py : Addr) (s : ByteArray) (t : Int) : ∀ p ∈ factsL17 X A Y B k py s t, ∀ v w w', p v w → Below w.heap.size w w' → p v w' := by
  intro p hp v w w' h hb
  unfold factsL17 at hp
  simp only [List.mem_cons, List.not_mem_nil, or_false] at hp
  rcases hp with rfl | rfl | rfl | rfl | rfl | rfl | rfl | rfl | rfl | rfl | rfl | rfl | rfl | rfl | rfl <;> exact h
set_option maxRecDepth 100000 in
set_option maxHeartbeats 8000000 in
theorem dtypeLess_c (v : Value) (ds : List De) (r : Ru) (i : Int) (e a b c d : Addr) (w : World) (cs : List Value) (hd : SlOf w w.heap.size 6 (DeC w w.heap.size) ds v) (hr : RuC w w.heap.size r cs)
    (_ : -9223372036854775808 ≤ i) (_ : i ≤ 9223372036854775807) (E : EnvY e a b c d w) :
    Calls Tryd.prog 6 #[v, .agg cs.toArray, .int .i64 i] w fun e w' => e = .returned (.bool true) ∧ Below w.heap.size w w' := by
  have HR := Lib.hid hr
  have HD := Lib.hid hd
  have HE := Lib.hid E
  have hb0 : ∀ C : Obj, Below w.heap.size w (w.alloc C) := fun C => (Below.refl _ _).alloc (Nat.le_refl _) _
  have HB0 := Lib.hid hb0
  have HH := Lib.hid (fun (W : World) (hb : Below w.heap.size w W) => shown5_c e a b c d W (E.below hb))
  have HS := Lib.hid (fun (W : World) (hb : Below w.heap.size w W) => small5_c ds v r cs W (SlOf.decl hd hb hb.size) ((hr.below hb).more hb.size))
  obtain ⟨od, kd, rfl, _⟩ := SlOf.uni hd
  obtain ⟨p1, q1, r1, s1, rfl, _, _, H2⟩ := hr.look
  obtain ⟨o2, cap2, e2, hc2, hm2, _⟩ := SlOf.open H2
  cases e2
  have HBd := Lib.hid H2
  clear hd hr E H2 hb0
  go_enter Tryd.func6, Tryd.ntmps6
  go_wp2_with fail
  refine (HH.out _ (HB0.out _)).mono ?_
  rintro e1 w1 ⟨rfl, b1⟩
  have r1' : w1.heap[w.heap.size]? = some (.cells #[.string r.head.rel, .slice p1 r.head.l.length q1, .slice r1 r.body.length s1, .int .i64 r.line] 27 (0, 0)) := (b1.block _ (by simp)).trans (World.alloc_heap_new w _)
  have x0 := row_cells r1' 0
  have x1 := row_cells r1' 1
  have x2 := row_cells r1' 2
  have x3 := row_cells r1' 3
  simp at x0 x1 x2 x3
  have hz1 : w.heap.size < w1.heap.size := by have := b1.size; simp at this; omega
  have B1 := Lib.hid ((HB0.out _).trans (b1.mono (by simp)))
  clear b1
  go_wp2_with fail
  refine (HS.out _ B1.out).mono ?_
  rintro e2 w2 ⟨rfl, b2⟩
  have r2' := (b2.block _ hz1).trans r1'
  have y0 : w2.cell? ⟨w.heap.size, 0, none⟩ = some (.string r.head.rel) := row_cells r2' 0
  have y1 : w2.cell? ⟨w.heap.size, 1, none⟩ = some (.slice p1 r.head.l.length q1) := row_cells r2' 1
  have y2 : w2.cell? ⟨w.heap.size, 2, none⟩ = some (.slice r1 r.body.length s1) := row_cells r2' 2
  have y3 : w2.cell? ⟨w.heap.size, 3, none⟩ = some (.int .i64 r.line) := row_cells r2' 3
  have hz2 : w.heap.size < w2.heap.size := by have := b2.size; omega
  have B2 := Lib.hid (B1.out.trans (b2.mono B1.out.size))
  have R2 := Lib.hid r2'
  clear x0 x1 x2 x3 b2 r1' r2'
  cases hs : smallP ⟨ds, [r]⟩ with
  | false =>
    clear hs
    go_wp2
    go_ret
    exact ⟨rfl, B2.out⟩
  | true =>
  have HT := Lib.hid (small_terms hs r (List.mem_cons_self ..))
  clear hs
  by_cases hi0 : i < 0
  · go_wp2
    go_ret
    exact ⟨rfl, B2.out⟩
  obtain ⟨m, rfl⟩ := Int.eq_ofNat_of_zero_le (show 0 ≤ i by omega)
  by_cases hi1 : r.body.length ≤ m
  · have hi1' : (r.body.length : Int) ≤ (m : Int) := by omega
    go_wp2
    go_ret
    exact ⟨rfl, B2.out⟩
  have hi1' : ¬ (r.body.length : Int) ≤ (m : Int) := by omega
  by_cases hk1 : r.body.length < 2
  · have hk1' : (r.body.length : Int) < 2 := by omega
    go_wp2
    go_ret
    exact ⟨rfl, B2.out⟩
  have hk1' : ¬ (r.body.length : Int) < 2 := by omega
  have hlen : r.body.length ≤ 2000 := Nat.le_trans (body_len r) HT.out.1
  have hfew : (termsR r).length ≤ 1000000 := Nat.le_trans HT.out.1 (by decide)
  have hsz : ∀ t ∈ termsR r, t.s.size ≤ 1000000 := fun t ht => Nat.le_trans (HT.out.2 t ht) (by decide)
  have HT1 := Lib.hid (types_c ds _ r _ e a b c d w2 (SlOf.decl HD.out B2.out B2.out.size) ((HR.out.below B2.out).more B2.out.size) hfew hsz (HE.out.below B2.out))
  have Hfew := Lib.hid hfew
  have Hsz := Lib.hid hsz
  clear hfew hsz
  go_wp2_with fail
  refine HT1.out.mono ?_
  rintro e7 w7 ⟨v7, l7, ke, rfl, hA7, hS7, b7⟩
  have S7 := Lib.hid hS7
  have A7 := Lib.hid hA7
  have r7 := (b7.block _ hz2).trans R2.out
  have R7 := Lib.hid r7
  have B7 := Lib.hid (B2.out.trans (b7.mono B2.out.size))
  have z0 : w7.cell? ⟨w.heap.size, 0, none⟩ = some (.string r.head.rel) := row_cells r7 0
  have z1 : w7.cell? ⟨w.heap.size, 1, none⟩ = some (.slice p1 r.head.l.length q1) := row_cells r7 1
  have z2 : w7.cell? ⟨w.heap.size, 2, none⟩ = some (.slice r1 r.body.length s1) := row_cells r7 2
  have z3 : w7.cell? ⟨w.heap.size, 3, none⟩ = some (.int .i64 r.line) := row_cells r7 3
  have hz7 : w.heap.size < w7.heap.size := heap_lt r7
  clear y0 y1 y2 y3 b7 hS7 hA7 r7 HT1 R2
  by_cases hke : ke = 0
  case neg =>
    have hke' : (ke != 0) = true := by simpa using hke
    go_wp2
    go_ret
    exact ⟨rfl, B7.out⟩
  subst hke
  go_wp2_with fail
  obtain ⟨i0, hi, hz0, hz1', hz2'⟩ := info_parts info_lit
  have mB : i0.bytes * r.body.length ≤ 281474976710656 := by rw [hz2']; omega
  obtain ⟨q, hq⟩ : ∃ q, w7.heap.size = q := ⟨_, rfl⟩
  obtain ⟨W3, hW3⟩ : ∃ W3, w7.alloc (.cells #[.string r.head.rel, .slice p1 r.head.l.length q1, .slice r1 r.body.length s1, .int .i64 r.line] 27) = W3 := ⟨_, rfl⟩
  have z3' : W3.heap.size = q + 1 := by rw [← hW3, ← hq]; simp
  have q3 : W3.heap[q]? = some (.cells (rowR2 r.head.rel (.slice p1 r.head.l.length q1) (.slice r1 r.body.length s1) r.line) 27 (0, 0)) := by rw [← hW3, ← hq]; exact World.alloc_heap_new w7 _
  have n3 : W3.heap[w.heap.size]? = some (.cells (rowR2 r.head.rel (.slice p1 r.head.l.length q1) (.slice r1 r.body.length s1) r.line) 27 (0, 0)) := by rw [← hW3]; exact row_more R7.out _
  have b3 : Below w.heap.size w W3 := by rw [← hW3]; exact B7.out.alloc B7.out.size _
  have b73 : Below w7.heap.size w7 W3 := by rw [← hW3]; exact (Below.refl _ _).alloc (Nat.le_refl _) _
  rw [hq, hW3]
  have hqn : w.heap.size < q := by rw [← hq]; exact hz7
  have B3 := Lib.hid b3
  have Q3 := Lib.hid q3
  have N3 := Lib.hid n3
  have S73 := Lib.hid (show SlOf W3 q 1 IntC l7 v7 from by have := SlOf.int S7.out b73 (Nat.le_refl _); rw [hq] at this; exact this)
  obtain ⟨ra, rfl⟩ : ∃ ra, r1 = some ra := by
    rcases HBd.out with ⟨h, h2⟩ | ⟨a, cap, h, _⟩
    · rw [h2] at hi1; simp at hi1
    · cases h; exact ⟨a, rfl⟩
  obtain ⟨o2', cap2', e2', hc2', hm2', _⟩ := SlOf.open HBd.out
  cases e2'
  have hcap : r.body.length ≤ s1 := hc2'
  have hcapm : s1 ≤ 9223372036854775807 := hm2'
  obtain ⟨P13, hP13⟩ : ∃ P, (if s1 = m + 1 then some ra else some (ra.add ((m + 1) * 11))) = P := ⟨_, rfl⟩
  obtain ⟨xs, hl1, hsp1⟩ := sl_laid (SlOf.take HBd.out (i := m) (by omega)) lt_one
  have hdrop := SlOf.drop HBd.out (i := m + 1) (by omega)
  rw [hP13] at hdrop
  obtain ⟨ys, hl2, hsp2⟩ := sl_laid hdrop lt_one
  rw [List.length_take, Nat.min_eq_left (by omega)] at hsp1
  rw [List.length_drop] at hsp2
  have HL := Lib.hid (hl1.app hl2)
  have HSp1 := Lib.hid hsp1
  have HSp2 := Lib.hid hsp2
  have HP := Lib.hid hP13
  have hm1 : (m : Int) + 1 ≤ (r.body.length : Int) := by omega
  clear hl1 hl2 hsp1 hsp2 hdrop q3 n3 b3 b73 hW3 z0 z1 z2 z3 hq hP13
  have spr : ∀ (w' : World) (u : Value) (n : Nat) (zs : List Value), Spread w 11 u n zs → Kp (fun b => b = q) W3.drew w' → Spread w' 11 u n zs := fun w' u n zs hs hb => by
    rcases hs with h | ⟨ad, c, h1, h2, h3, h4⟩
    · exact .inl h
    · refine .inr ⟨ad, c, h1, h2, fun j u hu => ?_, h4⟩
      have hc := h3 j u hu
      have hlt := World.block_lt_of_cell? _ _ hc
      have hb4 := B3.out.block (ad.add j).block (by rw [addBlock]; rw [addBlock] at hlt; exact hlt)
      exact (World.cell?_of_block ((hb.block _ (by show (ad.add j).block < W3.heap.size; have := B3.out.size; omega) (by show (ad.add j).block ≠ q; omega)).trans hb4)).trans hc
  have Spr := Lib.hid spr
  clear spr
  refine wp_region_any (by kernel_rfl) ?_
  (try (change wpAny _ _ _ _ _ _ _ (World.drew _)))
  refine wpAny_chain slotsL8 [3, 8, 14, 16] _ _ (factsL8 w.heap.size q (.slice (some ra) r.body.length s1) (.slice (some ra) m s1) (.slice P13 (r.body.length - (m + 1)) (s1 - (m + 1))) r.body.length m) (stateL8 W3.heap.size q m (r.body.length - (m + 1)) xs ys r.head.rel (.slice p1 r.head.l.length q1) (.slice (some ra) r.body.length s1) r.line) (fun b => b = q)
    (by kernel_rfl) (by kernel_rfl) (by kernel_rfl) (by kernel_rfl) (by kernel_rfl) (by decide) (by decide) ?indep Q3.out
    ⟨.p rfl ?s0, .p rfl ?s1, .p rfl ?s2, .c 0 rfl rfl ?s3, .p rfl ?s4, .p rfl ?s5, .p rfl ?s6, .p rfl ?s7, .c 1 rfl (by kernel_rfl) ?s8, .p rfl ?s9, .p rfl ?s10, .p rfl ?s11, .p rfl ?s12, .p rfl ?s13, .c 2 rfl (by kernel_rfl) ?s14, .p rfl ?s15, .c 3 rfl (by kernel_rfl) ?s16, trivial⟩ ?fin
  case indep =>
    intro k val val' w' h hs
    match k, hs with
    | 0, hs => exact hs
    | 1, hs => exact ⟨hs.1, by rw [← h 3 (by decide)]; exact hs.2⟩
    | 2, hs => exact ⟨hs.1, by rw [← h 8 (by decide)]; exact hs.2⟩
    | 3, hs => exact ⟨hs.1, by rw [← h 14 (by decide)]; exact hs.2⟩
    | k + 4, hs => exact ⟨by rw [← h 14 (by decide)]; exact hs.1, by rw [← h 14 (by decide)]; exact hs.2⟩
  case s0 =>
    intro A w' K hb hfar hd hK
    have e1 : A.tmps[4]?.getD undef = .pointer (some ⟨w.heap.size, 0, none⟩) := hfar 4 (by decide)
    unfold Oper.wp
    simp [execOp, e1, go_sem, Result.andThen]
    exact hK _ (factV_mk rfl rfl)
  case s4 =>
    intro A w' K hb hfar hd hK
    have e1 : A.tmps[4]?.getD undef = .pointer (some ⟨w.heap.size, 0, none⟩) := hfar 4 (by decide)
    unfold Oper.wp
    simp [execOp, e1, go_sem, Result.andThen]
    exact hK _ (factV_mk rfl rfl)
  case s9 =>
    intro A w' K hb hfar hd hK
    have e1 : A.tmps[4]?.getD undef = .pointer (some ⟨w.heap.size, 0, none⟩) := hfar 4 (by decide)
    unfold Oper.wp
    simp [execOp, e1, go_sem, Result.andThen]
    exact hK _ (factV_mk rfl rfl)
  case s15 =>
    intro A w' K hb hfar hd hK
    have e1 : A.tmps[10]?.getD undef = .pointer (some ⟨q, 0, none⟩) := hfar 10 (by decide)
    unfold Oper.wp
    simp [execOp, e1, go_sem, Result.andThen]
    exact hK _ (factV_mk rfl rfl)
  case s1 =>
    intro A w' K hb hfar hd hK
    have e1 : A.tmps[49]?.getD undef = .pointer (some ⟨w.heap.size, 2, none⟩) := hd 0 49 rfl (by kernel_rfl) _ rfl
    have c2 : w'.cell? ⟨w.heap.size, 2, none⟩ = some (.slice (some ra) r.body.length s1) := row_cells ((hb.block _ (heap_lt N3.out) (by omega)).trans N3.out) 2
    unfold Oper.wp
    simp [execOp, e1, c2, go_sem, Result.andThen]
    exact hK _ (factV_mk rfl rfl)
  case s5 =>
    intro A w' K hb hfar hd hK
    have e1 : A.tmps[53]?.getD undef = .pointer (some ⟨w.heap.size, 2, none⟩) := hd 4 53 rfl (by kernel_rfl) _ rfl
    have c2 : w'.cell? ⟨w.heap.size, 2, none⟩ = some (.slice (some ra) r.body.length s1) := row_cells ((hb.block _ (heap_lt N3.out) (by omega)).trans N3.out) 2
    unfold Oper.wp
    simp [execOp, e1, c2, go_sem, Result.andThen]
    exact hK _ (factV_mk rfl rfl)
  case s10 =>
    intro A w' K hb hfar hd hK
    have e1 : A.tmps[58]?.getD undef = .pointer (some ⟨w.heap.size, 2, none⟩) := hd 9 58 rfl (by kernel_rfl) _ rfl
    have c2 : w'.cell? ⟨w.heap.size, 2, none⟩ = some (.slice (some ra) r.body.length s1) := row_cells ((hb.block _ (heap_lt N3.out) (by omega)).trans N3.out) 2
    unfold Oper.wp
    simp [execOp, e1, c2, go_sem, Result.andThen]
    exact hK _ (factV_mk rfl rfl)
  case s6 =>
    intro A w' K hb hfar hd hK
    have e1 : A.tmps[2]?.getD undef = .int .i64 (m : Int) := hfar 2 (by decide)
    unfold Oper.wp
    simp [execOp, e1, go_sem, Result.andThen]
    exact hK _ (factV_mk rfl rfl)
  case s11 =>
    intro A w' K hb hfar hd hK
    have e1 : A.tmps[2]?.getD undef = .int .i64 (m : Int) := hfar 2 (by decide)
    unfold Oper.wp
    simp [execOp, e1, go_sem, Result.andThen]
    exact hK _ (factV_mk rfl rfl)
  case s2 =>
    intro A w' K hb hfar hd hK
    have e1 : A.tmps[50]?.getD undef = .slice (some ra) r.body.length s1 := hd 1 50 rfl (by kernel_rfl) _ rfl
    unfold Oper.wp
    simp [execOp, e1, go_sem, Result.andThen]
    exact hK _ (factV_mk rfl rfl)
  case s7 =>
    intro A w' K hb hfar hd hK
    have e1 : A.tmps[54]?.getD undef = .slice (some ra) r.body.length s1 := hd 5 54 rfl (by kernel_rfl) _ rfl
    have e2 : A.tmps[55]?.getD undef = .int .i64 (m : Int) := hd 6 55 rfl (by kernel_rfl) _ rfl
    have g0 : (0 : Int) ≤ (m : Int) := by omega
    have g1 : m ≤ s1 := by omega
    have g2 : (m : Int) ≤ (s1 : Int) := by omega
    unfold Oper.wp
    simp [execOp, e1, e2, g0, g1, g2, go_sem, Result.andThen]
    exact hK _ (factV_mk rfl rfl)
  case s12 =>
    intro A w' K hb hfar hd hK
    have e1 : A.tmps[60]?.getD undef = .int .i64 (m : Int) := hd 11 60 rfl (by kernel_rfl) _ rfl
    have hw : IntKind.i64.wrap ((m : Int) + 1) = (m : Int) + 1 := IntWalk.i64_in _ (by omega)
    unfold Oper.wp
    simp [execOp, e1, hw, go_sem, Result.andThen]
    exact hK _ (factV_mk rfl rfl)
  case s13 =>
    intro A w' K hb hfar hd hK
    have e1 : A.tmps[59]?.getD undef = .slice (some ra) r.body.length s1 := hd 10 59 rfl (by kernel_rfl) _ rfl
    have e2 : A.tmps[61]?.getD undef = .int .i64 ((m : Int) + 1) := hd 12 61 rfl (by kernel_rfl) _ rfl
    have g0 : (0 : Int) ≤ (m : Int) + 1 := by omega
    have g1 : (m : Int) + 1 ≤ (s1 : Int) := by omega
    have g2 : ((m : Int) + 1).toNat = m + 1 := by omega
    have g3 : m + 1 ≤ r.body.length := by omega
    have g4 : m + 1 ≤ s1 := by omega
    have hPo := HP.out
    unfold Oper.wp
    by_cases hcm : s1 = m + 1
    · rw [if_pos hcm] at hPo
      subst hPo
      simp [execOp, e1, e2, g0, g1, g2, g3, g4, hm1, go_sem, Result.andThen]
      rw [if_pos hcm]
      exact hK _ (factV_mk rfl rfl)
    · rw [if_neg hcm] at hPo
      subst hPo
      simp [execOp, e1, e2, g0, g1, g2, g3, g4, hcm, hm1, go_sem, Result.andThen]
      exact hK _ (factV_mk rfl rfl)
  case s3 =>
    intro A w' val K hb hfar hd hs hK
    have e1 : A.tmps[51]?.getD undef = .int .i64 (r.body.length : Int) := (hd 2 51 rfl (by kernel_rfl)).1 _ rfl
    refine wp_make_any w' _ _ 25 rfl W3.heap.size 45 i0 _ 11 Tryd.underlying25 hi hz0 hz1' .i64 .i64 r.body.length rfl ((evG2 _ _).trans e1) mB (by unfold maxLen; omega) hb.size fun w3 hown hg => ?_
    refine hK _ _ (hb.grown hg (fun b h => by cases h)) (factV_mk rfl trivial) ⟨(hg.block q (by have := heap_lt hs; exact this) (by simp)).trans hs, by rw [updV_same]; exact hown⟩
  case s8 =>
    intro A w' val K hb hfar hd hs hK
    have e0 := (hd 3 52 rfl (by kernel_rfl)).2
    have e1 : A.tmps[56]?.getD undef = .slice (some ra) m s1 := (hd 7 56 rfl (by kernel_rfl)).1 _ rfl
    obtain ⟨hs1, hs2⟩ := hs
    refine wp_append_any w' _ _ 25 rfl W3.heap.size 45 i0 _ 11 160 Tryd.underlying25 hi hz0 hz1' hz2' rfl (by decide) (val 3) 0 [] ((evG2 _ _).trans e0) hs2 (.slice (some ra) m s1) m xs ((evG2 _ _).trans e1) (Spr.out w' _ _ _ HSp1.out hb) (by unfold maxLen; omega) (by omega) hb.size fun v' w3 hown hg hat => ?_
    rw [Nat.zero_add, List.nil_append] at hown
    refine hK _ _ (hb.grown hg (fun b h => .inl (hs2.lt b h).1)) (factV_mk rfl trivial) ⟨(hg.block q (heap_lt hs1) (fun e => by have := (hs2.lt q e.symm).1; have := heap_lt Q3.out; omega)).trans hs1, by rw [updV_same]; exact hown⟩
  case s14 =>
    intro A w' val K hb hfar hd hs hK
    have e0 := (hd 8 57 rfl (by kernel_rfl)).2
    have e1 : A.tmps[62]?.getD undef = .slice P13 (r.body.length - (m + 1)) (s1 - (m + 1)) := (hd 13 62 rfl (by kernel_rfl)).1 _ rfl
    obtain ⟨hs1, hs2⟩ := hs
    refine wp_append_any w' _ _ 25 rfl W3.heap.size 45 i0 _ 11 160 Tryd.underlying25 hi hz0 hz1' hz2' rfl (by decide) (val 8) m xs ((evG2 _ _).trans e0) hs2 (.slice P13 (r.body.length - (m + 1)) (s1 - (m + 1))) (r.body.length - (m + 1)) ys ((evG2 _ _).trans e1) (Spr.out w' _ _ _ HSp2.out hb) (by unfold maxLen; omega) (by omega) hb.size fun v' w3 hown hg hat => ?_
    refine hK _ _ (hb.grown hg (fun b h => .inl (hs2.lt b h).1)) (factV_mk rfl trivial) ⟨(hg.block q (heap_lt hs1) (fun e => by have := (hs2.lt q e.symm).1; have := heap_lt Q3.out; omega)).trans hs1, by rw [updV_same]; exact hown⟩
  case s16 =>
    intro A w' val K hb hfar hd hs hK
    have e0 : A.tmps[64]?.getD undef = .pointer (some ⟨q, 2, none⟩) := (hd 15 64 rfl (by kernel_rfl)).1 _ rfl
    have e1 := (hd 14 63 rfl (by kernel_rfl)).2
    obtain ⟨hs1, hs2⟩ := hs
    obtain ⟨ob, kb, eb⟩ := own_shape hs2
    rw [eb] at e1
    have c2 : w'.cell? ⟨q, 2, none⟩ = some (.slice (some ra) r.body.length s1) := row_cells hs1 2
    have f2 := row_frozen2 hs1 2
    have hl := heap_lt hs1
    unfold Oper.wp
    simp [execOp, e0, e1, c2, f2, hl, go_sem, Result.andThen]
    exact hK undef _ (hb.grown (setCell_grown2 _ _ _ _) (fun b h => by cases h; exact .inr rfl)) (fun p hp => by cases hp) ⟨by rw [updV_other _ _ (by decide), eb]; exact box_set2 hs1 _, by rw [updV_other _ _ (by decide)]; exact ownsRow_setCell_other hs2 (fun e => by have := (hs2.lt q e).1; have := heap_lt Q3.out; omega) _⟩
  case fin =>
    intro val w4 hF hb hs
    obtain ⟨hs1, hs2⟩ := hs
    have hn2 : m + (r.body.length - (m + 1)) = r.body.length - 1 := by omega
    rw [hn2] at hs2
    obtain ⟨g, cap, eg⟩ : ∃ g cap, val 14 = .slice (some ⟨g, 0, none⟩) (r.body.length - 1) cap := by
      rcases hs2.2 with ⟨_, h0⟩ | ⟨g, cap, cur, hv, _⟩
      · omega
      · exact ⟨g, cap, hv⟩
    rw [eg] at hs1 hs2
    have N4 := (hb.block _ (heap_lt N3.out) (by omega)).trans N3.out
    have B4 : Below w.heap.size w w4 := B3.out.trans ⟨hb.os, hb.tape, hb.output, hb.size, fun i hi => hb.block i (Nat.lt_trans hi (heap_lt N3.out)) (by omega)⟩
    obtain ⟨r', hr'⟩ : ∃ r' : Ru, (⟨r.head, r.body.take m ++ r.body.drop (m + 1), r.line⟩ : Ru) = r' := ⟨_, rfl⟩
    have hbl : r'.body.length = r.body.length - 1 := by rw [← hr']; simp; omega
    have hhead : r'.head = r.head := by rw [← hr']
    have hmem : ∀ x ∈ r'.body, x ∈ r.body := fun x hx => by
      rw [← hr'] at hx
      rcases List.mem_append.1 hx with hx | hx
      · exact List.mem_of_mem_take hx
      · exact List.mem_of_mem_drop hx
    have htl : (termsR r').length ≤ (termsR r).length := by rw [← hr']; exact cut_terms (by omega)
    have HLs : Laid 11 (LtC w4 w4.heap.size) r'.body (xs ++ ys) := by
      rw [← hr']
      exact HL.out.mono fun x cs h => (h.below B4).more B4.size
    have HSl : SlOf w4 w4.heap.size 11 (LtC w4 w4.heap.size) r'.body (.slice (some ⟨g, 0, none⟩) (r.body.length - 1) cap) := sl_own0 (by rw [hbl]; exact hs2) HLs
    have HRU : RuC w4 w4.heap.size r' [.string r.head.rel, .slice p1 r.head.l.length q1, .slice (some ⟨g, 0, none⟩) (r.body.length - 1) cap, .int .i64 r.line] := by
      obtain ⟨_, _, _, _, e, hI, hA, _⟩ := HR.out.look
      cases e
      have hln : r'.line = r.line := by rw [← hr']
      refine ⟨[.string r.head.rel, .slice p1 r.head.l.length q1], _, by rw [hln]; rfl, by rw [hln]; exact hI, by rw [hhead]; exact (hA.below B4).more B4.size, HSl⟩
    have hsub : Sub r' r := ⟨hhead, hmem⟩
    have hrp : rightP ⟨ds, [r']⟩ = true := cut_right hhead (by omega) (by
      have e1 : r'.body.isEmpty = false := by
        cases hx : r'.body with
        | nil => rw [hx] at hbl; have hbl : 0 = r.body.length - 1 := hbl; omega
        | cons _ _ => rfl
      have e2 : r.body.isEmpty = false := by
        cases hx : r.body with
        | nil => rw [hx] at hi1; exact absurd (Nat.zero_le _) hi1
        | cons _ _ => rfl
      rw [e1, e2]) hmem A7.out.right
    have hfew' : (termsR r').length ≤ 1000000 := Nat.le_trans htl Hfew.out
    have hsz' : ∀ t ∈ termsR r', t.s.size ≤ 1000000 := fun t ht => Hsz.out t (hsub.terms t ht)
    have HE4 := HE.out.below B4
    have HT2 := Lib.hid (types_c ds _ r' _ e a b c d w4 (SlOf.decl HD.out B4 B4.size) HRU hfew' hsz' HE4)
    have HV1 := Lib.hid (fun (W : World) (hb : Below w4.heap.size w4 W) => vars_c r _ e W ((HR.out.below (B4.trans (hb.mono B4.size))).more (Nat.le_trans B4.size hb.size)) Hfew.out Hsz.out (HE4.below hb).tr)
    have HV2 := Lib.hid (fun (W : World) (hb : Below w4.heap.size w4 W) => vars_c r' _ e W ((HRU.below hb).more hb.size) hfew' hsz' (HE4.below hb).tr)
    have Hsub := Lib.hid hsub
    have Hrp := Lib.hid hrp
    have HB4 := Lib.hid B4
    have S74 := Lib.hid (show SlOf w4 w4.heap.size 1 IntC l7 v7 from SlOf.int S73.out ⟨hb.os, hb.tape, hb.output, hb.size, fun i hi => hb.block i (by show i < W3.heap.size; omega) (by omega)⟩ (by have : W3.heap.size ≤ w4.heap.size := hb.size; omega))
    have Rq := Lib.hid hs1
    have Rn := Lib.hid N4
    have z6 : w.heap.size < w4.heap.size := heap_lt N4
    have zq6 : q < w4.heap.size := heap_lt hs1
    have d0 : w4.cell? ⟨q, 0, none⟩ = some (.string r.head.rel) := row_cells hs1 0
    have d1 : w4.cell? ⟨q, 1, none⟩ = some (.slice p1 r.head.l.length q1) := row_cells hs1 1
    have d2 : w4.cell? ⟨q, 2, none⟩ = some (.slice (some ⟨g, 0, none⟩) (r.body.length - 1) cap) := row_cells hs1 2
    have d3 : w4.cell? ⟨q, 3, none⟩ = some (.int .i64 r.line) := row_cells hs1 3
    simp only [slotsL8, putsA, Nat.zero_add, Nat.reduceAdd]
    clear hF hb hs1 hs2 N4 B4 hmem HLs HSl HRU hsub hrp hfew' hsz' HE4 hr' hn2 htl hhead S73 S7 N3 Q3 Spr HSp1 HSp2 HL HP
    go_simp
    go_wp2_with fail
    refine HT2.out.mono ?_
    rintro e8 w8 ⟨v8, l8, kf, rfl, hA8, hS8, b8⟩
    have hkf := types_less Hsub.out Hrp.out hA8 A7.out
    have C8 := Lib.hid b8
    have S8 := Lib.hid hS8
    have S78 := Lib.hid (SlOf.int S74.out b8 b8.size)
    have A8 := Lib.hid hA8
    have B8 := Lib.hid (HB4.out.trans (b8.mono HB4.out.size))
    clear d0 d1 d2 d3 b8 hS8 hA8 S74
    by_cases hkz : kf = 0
    case neg =>
      obtain rfl : kf = 53 := by rcases hkf with h | h; exact absurd h hkz; exact h
      go_wp2
      go_ret
      exact ⟨rfl, B8.out⟩
    subst hkz
    have rn8 := (C8.out.block _ z6).trans Rn.out
    have c0 : w8.cell? ⟨w.heap.size, 0, none⟩ = some (.string r.head.rel) := row_cells rn8 0
    have c1 : w8.cell? ⟨w.heap.size, 1, none⟩ = some (.slice p1 r.head.l.length q1) := row_cells rn8 1
    have c2 : w8.cell? ⟨w.heap.size, 2, none⟩ = some (.slice (some ra) r.body.length s1) := row_cells rn8 2
    have c3 : w8.cell? ⟨w.heap.size, 3, none⟩ = some (.int .i64 r.line) := row_cells rn8 3
    have z8 : w.heap.size < w8.heap.size := heap_lt rn8
    clear hkf rn8
    go_wp2_with fail
    refine (HV1.out _ C8.out).mono ?_
    rintro e9 w9 ⟨v9, rfl, hS9, b9⟩
    have C9 := Lib.hid (C8.out.trans (b9.mono C8.out.size))
    have rq9 := (C9.out.block _ zq6).trans Rq.out
    have d0 : w9.cell? ⟨q, 0, none⟩ = some (.string r.head.rel) := row_cells rq9 0
    have d1 : w9.cell? ⟨q, 1, none⟩ = some (.slice p1 r.head.l.length q1) := row_cells rq9 1
    have d2 : w9.cell? ⟨q, 2, none⟩ = some (.slice (some ⟨g, 0, none⟩) (r.body.length - 1) cap) := row_cells rq9 2
    have d3 : w9.cell? ⟨q, 3, none⟩ = some (.int .i64 r.line) := row_cells rq9 3
    have zq9 : q < w9.heap.size := heap_lt rq9
    have S9 := Lib.hid hS9
    have T7 := Lib.hid (SlOf.int S78.out b9 b9.size)
    have T8 := Lib.hid (SlOf.int S8.out b9 b9.size)
    clear c0 c1 c2 c3 b9 hS9 rq9 S78 S8
    go_wp2_with fail
    refine (HV2.out _ C9.out).mono ?_
    rintro e10 w10 ⟨v10, rfl, hS10, b10⟩
    have C10 := Lib.hid (C9.out.trans (b10.mono C9.out.size))
    have B10 := Lib.hid (HB4.out.trans (C10.out.mono HB4.out.size))
    have U7 := SlOf.int T7.out b10 b10.size
    have U8 := SlOf.int T8.out b10 b10.size
    have U9 := SlOf.str S9.out b10 b10.size
    obtain ⟨oa, ka, rfl, _, _, _⟩ := SlOf.open U7
    obtain ⟨ob, kb, rfl, _, _, _⟩ := SlOf.open U8
    obtain ⟨ox, kx, rfl, _, _, _⟩ := SlOf.open U9
    obtain ⟨oy, ky, rfl, _, _, SY⟩ := SlOf.open hS10
    have HU7 := Lib.hid U7
    have HU8 := Lib.hid U8
    have HU9 := Lib.hid U9
    have HU10 := Lib.hid hS10
    have Hl7 : Hid ((l7.length : Int) = ((varsA r).length : Int)) := Lib.hid (by rw [varsA_ok A7.out.right, A7.out.len])
    have Hl8 : Hid ((l8.length : Int) = ((varsA r').length : Int)) := Lib.hid (by rw [varsA_ok A8.out.right, A8.out.len])
    clear d0 d1 d2 d3 b10 hS10 U7 U8 U9 T7 T8 S9
    go_wp2_with fail
    go_loopw [15] (fun i wr => ∃ k : Nat, k ≤ (varsA r').length ∧ i = .int .i64 (k : Int) ∧ Below w10.heap.size w10 wr) (fun i _ => (varsA r').length - (intOf i).toNat)
    case atStart => exact ⟨0, Nat.zero_le _, rfl, Below.refl _ _⟩
    case round =>
      obtain ⟨k, hk, rfl, hB⟩ := hrel
      by_cases hlt : k < (varsA r').length
      · have hlt' : (k : Int) < ((varsA r').length : Int) := by omega
        obtain ⟨s, hs⟩ : ∃ s, (varsA r')[k]? = some s := ⟨_, List.getElem?_eq_getElem hlt⟩
        have hsA : (varsV (termsR r'))[k]? = some s := by rw [← varsA_ok A8.out.right]; exact hs
        have heq := (types_sub Hsub.out A8.out A7.out (List.mem_of_getElem? hsA)).1
        rw [← varsA_ok A7.out.right, ← varsA_ok A8.out.right] at heq
        obtain ⟨t, ht⟩ : ∃ t, typedV (varsA r) l7 s = t := ⟨_, rfl⟩
        rw [ht] at heq
        obtain ⟨py, rfl, hpy, hsz, x0⟩ := str_at SY hB hs
        have HT7 := Lib.hid (fun (W : World) (hb : Below wr.heap.size wr W) => typed_c (varsA r) l7 _ _ s W (SlOf.str HU9.out (hB.trans (hb.mono hB.size)) (Nat.le_trans hB.size hb.size)) (SlOf.int HU7.out (hB.trans (hb.mono hB.size)) (Nat.le_trans hB.size hb.size)))
        have HT8 := Lib.hid (fun (W : World) (hb : Below wr.heap.size wr W) => typed_c (varsA r') l8 _ _ s W (SlOf.str HU10.out (hB.trans (hb.mono hB.size)) (Nat.le_trans hB.size hb.size)) (SlOf.int HU8.out (hB.trans (hb.mono hB.size)) (Nat.le_trans hB.size hb.size)))
        rw [ht] at HT7
        rw [heq] at HT8
        have hkn : (0 : Int) ≤ (k : Int) := by omega
        have HB := Lib.hid hB
        have Zx := Lib.hid (World.block_lt_of_cell? _ _ x0)
        have X0 := Lib.hid x0
        clear hs hsA heq hB ht x0
        go_wp2_with fail
        refine wp_region_any (by kernel_rfl) ?_
        (try (change wpAny _ _ _ _ _ _ _ (World.drew _)))
        refine wpAny_grow slotsL17 _ _ (factsL17 (.slice ox (varsA r).length kx) (.slice oa l7.length ka) (.slice (some py) (varsA r').length ky) (.slice ob l8.length kb) k (py.add k) s t) (by kernel_rfl) (by kernel_rfl) (by kernel_rfl) (by kernel_rfl) (by kernel_rfl) (factsL17_mono _ _ _ _ _ _ _ _)
          ⟨?s0, ?s1, ?s2, ?s3, ?s4, ?s5, ?s6, ?s7, ?s8, ?s9, ?s10, ?s11, ?s12, ?s13, ?s14, trivial⟩ ?finr
        case s0 =>
          intro A w' K hb hfar hd hK
          have e1 : A.tmps[13]?.getD undef = .slice ox (varsA r).length kx := hfar 13 (by decide)
          unfold Oper.wp
          simp [execOp, e1, go_sem, Result.andThen]
          exact hK _ _ (Below.refl _ _) (factG_mk rfl rfl)
        case s1 =>
          intro A w' K hb hfar hd hK
          have e1 : A.tmps[8]?.getD undef = .slice oa l7.length ka := hfar 8 (by decide)
          unfold Oper.wp
          simp [execOp, e1, go_sem, Result.andThen]
          exact hK _ _ (Below.refl _ _) (factG_mk rfl rfl)
        case s2 =>
          intro A w' K hb hfar hd hK
          have e1 : A.tmps[14]?.getD undef = .slice (some py) (varsA r').length ky := hfar 14 (by decide)
          unfold Oper.wp
          simp [execOp, e1, go_sem, Result.andThen]
          exact hK _ _ (Below.refl _ _) (factG_mk rfl rfl)
        case s3 =>
          intro A w' K hb hfar hd hK
          have e1 : A.tmps[15]?.getD undef = .int .i64 (k : Int) := hfar 15 (by decide)
          unfold Oper.wp
          simp [execOp, e1, go_sem, Result.andThen]
          exact hK _ _ (Below.refl _ _) (factG_mk rfl rfl)
        case s4 =>
          intro A w' K hb hfar hd hK
          have e1 : A.tmps[90]?.getD undef = .slice (some py) (varsA r').length ky := hd 2 90 rfl (by kernel_rfl) _ rfl
          have e2 : A.tmps[91]?.getD undef = .int .i64 (k : Int) := hd 3 91 rfl (by kernel_rfl) _ rfl
          unfold Oper.wp
          simp [execOp, e1, e2, hkn, hlt', go_sem, Result.andThen]
          exact hK _ _ (Below.refl _ _) (factG_mk rfl rfl)
        case s5 =>
          intro A w' K hb hfar hd hK
          have e1 : A.tmps[92]?.getD undef = .pointer (some (py.add k)) := hd 4 92 rfl (by kernel_rfl) _ rfl
          have c0 : w'.cell? (py.add k) = some (.string s) := (World.cell?_of_block (hb.block _ Zx.out)).trans X0.out
          unfold Oper.wp
          simp [execOp, e1, c0, go_sem, Result.andThen]
          exact hK _ _ (Below.refl _ _) (factG_mk rfl rfl)
        case s6 =>
          intro A w' K hb hfar hd hK
          have e1 : A.tmps[88]?.getD undef = .slice ox (varsA r).length kx := hd 0 88 rfl (by kernel_rfl) _ rfl
          have e2 : A.tmps[89]?.getD undef = .slice oa l7.length ka := hd 1 89 rfl (by kernel_rfl) _ rfl
          have e3 : A.tmps[93]?.getD undef = .string s := hd 5 93 rfl (by kernel_rfl) _ rfl
          unfold Oper.wp
          simp [execOp, e1, e2, e3, go_sem, Result.andThen]
          refine (HT7.out w' (drewB hb)).mono ?_
          rintro e3 w3 ⟨rfl, b3⟩
          exact hK _ _ b3 (factG_mk rfl rfl)
        case s7 =>
          intro A w' K hb hfar hd hK
          have e1 : A.tmps[14]?.getD undef = .slice (some py) (varsA r').length ky := hfar 14 (by decide)
          unfold Oper.wp
          simp [execOp, e1, go_sem, Result.andThen]
          exact hK _ _ (Below.refl _ _) (factG_mk rfl rfl)
        case s8 =>
          intro A w' K hb hfar hd hK
          have e1 : A.tmps[11]?.getD undef = .slice ob l8.length kb := hfar 11 (by decide)
          unfold Oper.wp
          simp [execOp, e1, go_sem, Result.andThen]
          exact hK _ _ (Below.refl _ _) (factG_mk rfl rfl)
        case s9 =>
          intro A w' K hb hfar hd hK
          have e1 : A.tmps[14]?.getD undef = .slice (some py) (varsA r').length ky := hfar 14 (by decide)
          unfold Oper.wp
          simp [execOp, e1, go_sem, Result.andThen]
          exact hK _ _ (Below.refl _ _) (factG_mk rfl rfl)
        case s10 =>
          intro A w' K hb hfar hd hK
          have e1 : A.tmps[15]?.getD undef = .int .i64 (k : Int) := hfar 15 (by decide)
          unfold Oper.wp
          simp [execOp, e1, go_sem, Result.andThen]
          exact hK _ _ (Below.refl _ _) (factG_mk rfl rfl)
        case s11 =>
          intro A w' K hb hfar hd hK
          have e1 : A.tmps[97]?.getD undef = .slice (some py) (varsA r').length ky := hd 9 97 rfl (by kernel_rfl) _ rfl
          have e2 : A.tmps[98]?.getD undef = .int .i64 (k : Int) := hd 10 98 rfl (by kernel_rfl) _ rfl
          unfold Oper.wp
          simp [execOp, e1, e2, hkn, hlt', go_sem, Result.andThen]
          exact hK _ _ (Below.refl _ _) (factG_mk rfl rfl)
        case s12 =>
          intro A w' K hb hfar hd hK
          have e1 : A.tmps[99]?.getD undef = .pointer (some (py.add k)) := hd 11 99 rfl (by kernel_rfl) _ rfl
          have c0 : w'.cell? (py.add k) = some (.string s) := (World.cell?_of_block (hb.block _ Zx.out)).trans X0.out
          unfold Oper.wp
          simp [execOp, e1, c0, go_sem, Result.andThen]
          exact hK _ _ (Below.refl _ _) (factG_mk rfl rfl)
        case s13 =>
          intro A w' K hb hfar hd hK
          have e1 : A.tmps[95]?.getD undef = .slice (some py) (varsA r').length ky := hd 7 95 rfl (by kernel_rfl) _ rfl
          have e2 : A.tmps[96]?.getD undef = .slice ob l8.length kb := hd 8 96 rfl (by kernel_rfl) _ rfl
          have e3 : A.tmps[100]?.getD undef = .string s := hd 12 100 rfl (by kernel_rfl) _ rfl
          unfold Oper.wp
          simp [execOp, e1, e2, e3, go_sem, Result.andThen]
          refine (HT8.out w' (drewB hb)).mono ?_
          rintro e3 w3 ⟨rfl, b3⟩
          exact hK _ _ b3 (factG_mk rfl rfl)
        case s14 =>
          intro A w' K hb hfar hd hK
          have e1 : A.tmps[94]?.getD undef = .int .i64 t := hd 6 94 rfl (by kernel_rfl) _ rfl
          have e2 : A.tmps[101]?.getD undef = .int .i64 t := hd 13 101 rfl (by kernel_rfl) _ rfl
          unfold Oper.wp
          simp [execOp, e1, e2, go_sem, Result.andThen]
          exact hK _ _ (Below.refl _ _) (factG_mk rfl rfl)
        case finr =>
          intro val w11 hF hb
          have e14 : val 14 = .bool false := hF 14 102 rfl _ rfl
          have HB11 := Lib.hid (HB.out.trans ((drewB hb).mono HB.out.size))
          clear hF hb
          simp only [slotsL17, putsA, Nat.zero_add, Nat.reduceAdd, e14]
          simp only [Act.put, List.setIfInBounds_toArray, List.set_cons_zero, List.set_cons_succ]
          go_wp2
          go_roundw
          case rel => exact ⟨k + 1, hlt, by go_num, HB11.out⟩
          case measure => simp [intOf]; omega
      · have hlt' : ¬ (k : Int) < ((varsA r').length : Int) := by omega
        have e7 := Hl7.out
        have e8 := Hl8.out
        have e7' : ((l7.length : Int) == ((varsA r).length : Int)) = true := by simpa using e7
        have e8' : ((l8.length : Int) == ((varsA r').length : Int)) = true := by simpa using e8
        clear e7 e8
        go_wp2
        go_ret
        exact ⟨rfl, B10.out.trans (hB.mono B10.out.size)⟩
end Go.Proofs.YtbpdfmpfnbdeoaaDoor
