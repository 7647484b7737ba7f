/- facts.rowsOf. -/
import Derived.Test.YthhepmddcncjoaaGreatDoorKFq
import Derived.Test.YthhepmddcncjoaaGreatDoorKPc
import Derived.LoopIn
import Derived.OwnWalkIn
set_option linter.unusedSimpArgs false
set_option linter.unusedVariables false
namespace Go.Proofs.YthhepmddcncjoaaGreatDoor
open Go.RowKit Go.Shelf

attribute [local go_sem] Oper.semAt_some

theorem infoRows : (Tryz.prog.info? 41).map (fun i => (i.zero, i.size, i.bytes)) = some (some (.slice none 0 0), 1, 24) := by kernel_rfl
theorem wpListIn_make_full {F : Fence} {n : Nat} {P : Program} (w : World) {ops : Array Oper} {rest : List Oper} {o : Oper} {a : Act} {Q : Exit → Act → World → Prop}
    (hg : o.guard = none) (l c : Operand) (t : TypeId) (hop : o.op = Op.makeSlice t l c)
    (e : TypeId) (i : TypeInfo) (z : Value) (h1 : P.underlying t = some (.slice e)) (h2 : P.info? e = some i) (h3 : i.zero = some z) (h4 : i.size = 1)
    (m : Nat) (hl : a.eval l = .int .i64 (m : Int)) (hc : a.eval c = .int .i64 (m : Int)) (b2 : i.bytes * m ≤ 281474976710656) (b3 : m ≤ maxLen)
    (hK : wpListIn F n P ops Q rest (a.put o.dst (.slice (some ⟨w.heap.size, 0, none⟩) m m)) (w.alloc (.cells (madeCells z.cells m) e))) :
    wpListIn F n P ops Q (o :: rest) a w := by
  refine wpListIn_plain hg fun K hK' => ?_
  have h63' : (m : Int) ≤ 9223372036854775807 := by unfold maxLen at b3; omega
  have hb' : (i.bytes : Int) * (m : Int) ≤ 281474976710656 := by
    have h : ((i.bytes * m : Nat) : Int) ≤ 281474976710656 := by omega
    rwa [Int.natCast_mul] at h
  have hrun := run_make (P := P) w t e i z h1 h2 h3 .i64 .i64 m m (by omega) (Int.le_refl _) hb' h63'
  simp only [Int.toNat_natCast, h4, Nat.mul_one] at hrun
  unfold Oper.wpIn
  refine ⟨?_, ?_⟩
  · simp [Oper.about, hop]
  · rw [Oper.semAt_plain F _ _ (by rw [hop]; intro c hc'; cases hc')]
    simp [execOp, hop, hl, hc, hrun, Result.andThen]
    exact hK' _ _ hK
theorem made_nil (m : Nat) : madeCells (Value.slice none 0 0).cells m = (List.replicate m (Value.slice none 0 0)).toArray := by
  apply Array.ext
  · simp [size_madeCells]
  · intro i h1 h2
    simp [madeCells, Value.cells, Nat.mod_one]
/-- From a line on. -/
def contQ (ds : List De) (acc : List (Nat × Rw)) (n : Nat) (ls : List (List UInt8)) : Sum (Nat × Int) (List (Nat × Rw)) :=
  match linesQ ds ls.dropLast n with
  | .inl e => .inl e
  | .inr r => if (ls.getLast?.getD []).isEmpty = true then .inr (acc ++ r) else .inl (n + ls.dropLast.length + 1, 92)
theorem stream_cont (ds : List De) (ls : List (List UInt8)) : streamQ ds ls = contQ ds [] 0 ls := by
  unfold streamQ contQ
  cases linesQ ds ls.dropLast 0 with
  | inl e => rfl
  | inr r => simp only [List.nil_append, Nat.zero_add]
theorem contQ_nil (ds : List De) (acc : List (Nat × Rw)) (n : Nat) : contQ ds acc n (cutB 10 []) = .inr acc := by
  simp [contQ, cutB, linesQ]
theorem contQ_open {ds : List De} {acc : List (Nat × Rw)} {n : Nat} {p : List UInt8} (hp : ∀ c ∈ p, c ≠ 10) (hne : p ≠ []) : contQ ds acc n (cutB 10 p) = .inl (n + 1, 92) := by
  rw [cutB_none hp]
  have : p.isEmpty = false := by cases p with | nil => exact absurd rfl hne | cons => rfl
  simp [contQ, linesQ, this]
theorem contQ_step {ds : List De} {acc : List (Nat × Rw)} {n : Nat} {p : List UInt8} (q : List UInt8) (hp : ∀ c ∈ p, c ≠ 10) : contQ ds acc n (cutB 10 (p ++ 10 :: q)) = match oneQ ds p with
    | .inl e => .inl (n + 1, e)
    | .inr x => contQ ds (acc ++ [x]) (n + 1) (cutB 10 q) := by
  rw [cutB_first q hp]
  have hd : (p :: cutB 10 q).dropLast = p :: (cutB 10 q).dropLast := List.dropLast_cons_of_ne_nil (cutB_ne _ _)
  have hg : (p :: cutB 10 q).getLast?.getD [] = (cutB 10 q).getLast?.getD [] := by
    cases h : cutB 10 q with
    | nil => exact absurd h (cutB_ne _ _)
    | cons y r => rw [List.getLast?_cons_cons]
  unfold contQ
  rw [hd, hg, linesQ]
  cases oneQ ds p with
  | inl e => rfl
  | inr x =>
    simp only []
    cases linesQ ds (cutB 10 q).dropLast (n + 1) with
    | inl e => rfl
    | inr r =>
      simp only [List.append_assoc, List.singleton_append, List.length_cons]
      split
      · rfl
      · rw [show n + ((cutB 10 q).dropLast.length + 1) + 1 = n + 1 + (cutB 10 q).dropLast.length + 1 by omega]
def consQ (vals : Rw) : Sum Int Rw → Sum Int Rw
  | .inl e => .inl e
  | .inr r => .inr (vals ++ r)
theorem valsQ_drop {T : List Int} {L : List (List UInt8)} {c : Nat} {t : Int} {l : List UInt8} (ht : T[c]? = some t) (hl : L[c]? = some l) : valsQ (T.drop c) (L.drop c) = match valQ t l with
    | none => .inl (badE t)
    | some x => match valsQ (T.drop (c + 1)) (L.drop (c + 1)) with
      | .inl e => .inl e
      | .inr r => .inr (x :: r) := by
  have h1 := List.getElem?_eq_some_iff.1 ht
  have h2 := List.getElem?_eq_some_iff.1 hl
  rw [List.drop_eq_getElem_cons h1.1, h1.2, List.drop_eq_getElem_cons h2.1, h2.2, valsQ]
  cases valQ t l <;> rfl
theorem partsQ_good {ds : List De} {p : List UInt8} {k : Nat} {L : List (List UInt8)} (h : partsQ ds p = .inr (k, L)) : k < ds.length ∧ L.length = (tyOf ds k).length := by
  unfold partsQ at h
  cases hf : findY (headQ p) ds with
  | none => rw [hf] at h; cases h
  | some k' =>
    rw [hf] at h
    simp only [] at h
    split at h
    · cases h
    · split at h
      · cases h
      · rename_i hl
        cases h
        exact ⟨findY_lt hf, by simpa using hl⟩
theorem partsQ_sub {ds : List De} {p : List UInt8} {k : Nat} {L : List (List UInt8)} (h : partsQ ds p = .inr (k, L)) : ∀ x ∈ L, x.length ≤ p.length := by
  unfold partsQ at h
  cases hf : findY (headQ p) ds with
  | none => rw [hf] at h; cases h
  | some k' =>
    rw [hf] at h
    simp only [] at h
    split at h
    · cases h
    · split at h
      · cases h
      · cases h
        exact fun x hx => cutB_size 9 p x (List.mem_of_mem_tail hx)
theorem numL_lay {l : List UInt8} {n : Int} (h : numL l = some n) : I64 n := by
  unfold numL at h
  split at h
  · cases hm : magL 9223372036854775808 (l.drop 1) with
    | none => rw [hm] at h; cases h
    | some m =>
      have := magL_le _ _ _ (by decide) hm
      rw [hm] at h
      unfold negO at h
      simp only at h
      split at h
      · cases h
      · cases h; unfold I64; omega
  · cases hm : magL 9223372036854775807 l with
    | none => rw [hm] at h; cases h
    | some m =>
      have := magL_le _ _ _ (by decide) hm
      rw [hm] at h
      cases h; unfold I64; omega
theorem valQ_lay {k : Int} {t : List UInt8} {x : Vl} (h : valQ k t = some x) (ht : t.length ≤ 1073741824) : I64 x.n ∧ x.s.size ≤ maxLen := by
  unfold valQ at h
  split at h
  · obtain ⟨n, hn, rfl⟩ := Option.map_eq_some_iff.1 h
    exact ⟨numL_lay hn, Nat.zero_le _⟩
  · obtain ⟨s, hs, rfl⟩ := Option.map_eq_some_iff.1 h
    have := unqL_len hs
    refine ⟨⟨by show (-9223372036854775808 : Int) ≤ 0; decide, by show (0 : Int) ≤ 9223372036854775807; decide⟩, ?_⟩
    rw [bs_size]
    unfold maxLen
    omega
theorem val_one (x : Vl) : ∀ u ∈ [Value.bool x.sym, .int .i64 x.n, .string x.s], u.oneCell' = true := by
  intro u hu
  simp only [List.mem_cons, List.not_mem_nil, or_false] at hu
  rcases hu with rfl | rfl | rfl <;> rfl
theorem valsQ_nil (L : List (List UInt8)) : valsQ [] L = .inr [] := by
  rw [valsQ]
  intro _ _ _ _ h; cases h
def placedAll (N : Nat) (acc : List (Nat × Rw)) : List (List Rw) := (List.range N).map (placedQ acc)
theorem placedAll_at {N k : Nat} (acc : List (Nat × Rw)) (hk : k < N) : (placedAll N acc)[k]? = some (placedQ acc k) := by
  unfold placedAll
  rw [List.getElem?_map, List.getElem?_range hk]; rfl
theorem placedAll_set {N k : Nat} (acc : List (Nat × Rw)) (row : Rw) (hk : k < N) : (placedAll N acc).set k (placedQ acc k ++ [row]) = placedAll N (acc ++ [(k, row)]) := by
  apply List.ext_getElem?
  intro j
  have hl : (placedAll N acc).length = N := by unfold placedAll; simp
  by_cases hj : j < N
  · rw [placedAll_at _ hj, placed_app]
    by_cases e : j = k
    · subst e
      rw [List.getElem?_set_self (by omega)]
      simp [placedQ]
    · rw [List.getElem?_set_ne (Ne.symm e), placedAll_at _ hj]
      simp [placedQ, Ne.symm e]
  · rw [List.getElem?_eq_none (by rw [List.length_set]; omega), List.getElem?_eq_none (by unfold placedAll; simp; omega)]
def rightDs (ds : List De) : Prop := ds.length ≤ 60 ∧ ∀ d ∈ ds, d.types ≠ [] ∧ d.types.length ≤ 8
/-- What stands between two lines. -/
structure RoI (w : World) (n0 N : Nat) (V : Value) (s : ByteArray) (fs : List (List Rw)) (W : World) : Prop where
  b : Below n0 w W
  d : W.heap[n0]? = some (.cells #[V] 22 (0, 0))
  al : W.heap[n0 + 1 + 1]? = some (.cells #[.slice (some ⟨n0 + 1, 0, none⟩) N N] 29 (0, 0))
  er : W.heap[n0 + 1 + 1 + 1]? = some (.cells #[.nilIface] 63 (0, 0))
  st : W.heap[n0 + 1 + 1 + 1 + 1]? = some (.cells #[.string s] 9 (0, 0))
  all : ∃ vs, AllM n0 (n0 + 1) W fs vs
theorem RoI.below {w : World} {n0 N : Nat} {V : Value} {s : ByteArray} {fs : List (List Rw)} {W W' : World} (h : RoI w n0 N V s fs W) (hb : Below W.heap.size W W') : RoI w n0 N V s fs W' := by
  obtain ⟨vs, ha⟩ := h.all
  exact ⟨h.b.trans (hb.mono (Nat.le_of_lt (heap_lt h.d))), (hb.block _ (heap_lt h.d)).trans h.d, (hb.block _ (heap_lt h.al)).trans h.al, (hb.block _ (heap_lt h.er)).trans h.er, (hb.block _ (heap_lt h.st)).trans h.st, vs, ha.below hb⟩
theorem RoI.put {w : World} {n0 N B : Nat} {V : Value} {s : ByteArray} {fs : List (List Rw)} {W W' : World} (h : RoI w n0 N V s fs W) (hp : Put B W W') (hB : n0 ≤ B) : RoI w n0 N V s fs W' := by
  obtain ⟨vs, ha⟩ := h.all
  exact ⟨put_bel hp h.b hB, put_block hp h.d (.inl rfl), put_block hp h.al (.inl rfl), put_block hp h.er (.inl rfl), put_block hp h.st (.inl rfl), vs, ha.put hp⟩
def slotsR : List (Option Tmp) := [some 66, some 67, some 68, some 69, some 70, some 71, some 72, some 73, some 74, some 75, none]
def depsR : List (Nat × Nat) := [(4, 2), (4, 3), (5, 4), (7, 6), (8, 5), (8, 7), (9, 0), (9, 1), (10, 8), (10, 9)]
def factsR (n0 N k : Nat) (hv rv : Value) : List (Value → Prop) :=
  [fun u => u = .slice (some ⟨n0 + 1, 0, none⟩) N N, fun u => u = .int .i64 (k : Int), fun u => u = .slice (some ⟨n0 + 1, 0, none⟩) N N, fun u => u = .int .i64 (k : Int), fun u => u = .pointer (some ⟨n0 + 1, k, none⟩), fun u => u = hv, fun u => u = rv, fun _ => True, fun _ => True, fun u => u = .pointer (some ⟨n0 + 1, k, none⟩), fun _ => True]
structure RoS (w : World) (n0 N : Nat) (V : Value) (s : ByteArray) (acc : List (Nat × Rw)) (k : Nat) (row : Rw) (vs : List Value) (B : Nat) (W0 : World) (v : Value) (W : World) : Prop where
  b : Below n0 w W
  d : W.heap[n0]? = some (.cells #[V] 22 (0, 0))
  al : W.heap[n0 + 1 + 1]? = some (.cells #[.slice (some ⟨n0 + 1, 0, none⟩) N N] 29 (0, 0))
  er : W.heap[n0 + 1 + 1 + 1]? = some (.cells #[.nilIface] 63 (0, 0))
  st : W.heap[n0 + 1 + 1 + 1 + 1]? = some (.cells #[.string s] 9 (0, 0))
  all : AllS n0 (n0 + 1) k v W (placedAll N (acc ++ [(k, row)])) vs
  kf : KeepsFrom B W0 W
abbrev FRo (w : World) (n0 N : Nat) (V : Value) (s : ByteArray) (acc : List (Nat × Rw)) (k : Nat) (row : Rw) (vs : List Value) (B : Nat) (wr : World) (hv rv : Value) : Array Bool → (Nat → Value) → World → Prop :=
  FB 5 7 8 10 depsR (factsR n0 N k hv rv) wr.drew (fun v w' => ∃ b, v = .slice (some ⟨b, 0, none⟩) 1 1 ∧ w'.heap[b]? = some (.cells #[rv] 39 (0, 0))) (RoS w n0 N V s acc k row vs B wr) (fun w' => RoI w n0 N V s (placedAll N (acc ++ [(k, row)])) w' ∧ KeepsFrom B wr w')
theorem FRo.old {w : World} {n0 N : Nat} {V : Value} {s : ByteArray} {acc : List (Nat × Rw)} {k : Nat} {row : Rw} {vs : List Value} {B : Nat} {wr : World} {hv rv : Value} {l : Array Bool} {val : Nat → Value} {w' : World} (hF : FRo w n0 N V s acc k row vs B wr hv rv l val w') (h8 : l.getD 8 false = false) : Below wr.heap.size wr w' := by
  cases h7 : l.getD 7 false with
  | false => exact (Below.refl _ wr).drew.trans (hF.s0 h7)
  | true => exact (Below.refl _ wr).drew.trans (hF.s7 h7 h8).1
theorem FRo.al {w : World} {n0 N : Nat} {V : Value} {s : ByteArray} {acc : List (Nat × Rw)} {k : Nat} {row : Rw} {vs : List Value} {B : Nat} {wr : World} {hv rv : Value} {l : Array Bool} {val : Nat → Value} {w' : World} {fs : List (List Rw)} (hF : FRo w n0 N V s acc k row vs B wr hv rv l val w') (hI : RoI w n0 N V s fs wr) (h10 : l.getD 10 false = false) : w'.cell? ⟨n0 + 1 + 1, 0, none⟩ = some (.slice (some ⟨n0 + 1, 0, none⟩) N N) := by
  cases h8 : l.getD 8 false with
  | false => exact row_cells ((hI.below (hF.old h8)).al) 0
  | true => exact row_cells (hF.s8 h8 h10).al 0
theorem FB.off {i1 i7 i8 i10 : Nat} {ps : List (Nat × Nat)} {R : List (Value → Prop)} {W0 w : World} {E7 E8 : Value → World → Prop} {E10 : World → Prop} {l : Array Bool} {val : Nat → Value} (h : FB i1 i7 i8 i10 ps R W0 E7 E8 E10 l val w) {i j : Nat} (p : (j, i) ∈ ps) (hn : l.getD i false = false) : l.getD j false = false := by
  cases h8 : l.getD j false with
  | false => rfl
  | true => exact ntb hn (h.dp _ p h8)
theorem addK (b k : Nat) : (⟨b, 0, none⟩ : Addr).add k = ⟨b, k, none⟩ := by unfold Addr.add; split <;> simp_all
theorem infoHead : (Tryz.prog.info? 39).map (fun i => (i.zero, i.size, i.bytes)) = some (some (.slice none 0 0), 1, 24) := by kernel_rfl
inductive RowsR (n0 N : Nat) (w : World) : Sum (Nat × Int) (List (Nat × Rw)) → Ending → World → Prop
  | bad {n : Nat} {e : Int} {u : Value} {W : World} : Below n0 w W → RowsR n0 N w (.inl (n, e)) (.returned (.tuple #[u, errL n e])) W
  | good {acc : List (Nat × Rw)} {vs : List Value} {A : Nat} {W : World} : Below n0 w W → n0 ≤ A → AllM n0 A W (placedAll N acc) vs → RowsR n0 N w (.inr acc) (.returned (.tuple #[.slice (some ⟨A, 0, none⟩) N N, .nilIface])) W
def RoB (w : World) (n0 N : Nat) (V : Value) (s : ByteArray) (ds : List De) (x : Ln) (W : World) : Prop := ∃ acc, RoI w n0 N V s (placedAll N acc) W ∧ streamQ ds (cutB 10 s.data.toList) = contQ ds acc x.1 (cutB 10 x.2.2.data.toList) ∧ acc.length + x.2.2.data.toList.length ≤ 1048576
def RoA (w : World) (n0 N : Nat) (V : Value) (s : ByteArray) (ds : List De) (acc : List (Nat × Rw)) (r0 : List UInt8) (n : Nat) (x : Ln) (W : World) : Prop := RoI w n0 N V s (placedAll N acc) W ∧ x.1 = n + 1 ∧ r0 ≠ [] ∧ acc.length + r0.length ≤ 1048576 ∧ x.2.1.data.toList = r0.take (sizeN r0) ∧ x.2.2.data.toList = r0.drop (sizeN r0) ∧ streamQ ds (cutB 10 s.data.toList) = contQ ds acc n (cutB 10 r0)
def RoX (w : World) (n0 N : Nat) (s : ByteArray) (ds : List De) (W : World) : Prop := ∃ (n : Nat) (e : Int), streamQ ds (cutB 10 s.data.toList) = .inl (n, e) ∧ Below n0 w W ∧ W.heap[n0 + 1 + 1]? = some (.cells #[.slice (some ⟨n0 + 1, 0, none⟩) N N] 29 (0, 0)) ∧ W.heap[n0 + 1 + 1 + 1]? = some (.cells #[errL n e] 63 (0, 0))
theorem keepsC {B : Nat} {W W' : World} {row : Option Nat} (hg : W.grownBy W' row) (hr : ∀ j, row = some j → ∃ cs T fz, W.heap[j]? = some (.cells cs T fz)) : KeepsFrom B W W' :=
  ⟨hg.size, fun k o _ hk ho => (hg.block k (Array.getElem?_eq_some_iff.1 hk).1 fun e => by
    obtain ⟨cs, T, fz, h⟩ := hr k e.symm
    rw [hk] at h; cases h; cases ho).trans hk⟩
theorem setG (w : World) (q k : Nat) (x : Value) : w.grownBy (w.setCell ⟨q, k, none⟩ x) (some q) := ⟨rfl, rfl, rfl, by simp [World.setCell], fun i _ hne => Below.heap_setCell w ⟨q, k, none⟩ x i (fun e => hne (by rw [e]))⟩
set_option linter.unusedSimpArgs false in
set_option maxRecDepth 100000 in
set_option maxHeartbeats 16000000 in
theorem rowsOf_c (ds : List De) (v : Value) (s : ByteArray) (a : Addr) (m : Int) (w : World) (hd : SlOf w w.heap.size 6 (DeC w w.heap.size) ds v) (hr : rightDs ds) (hs : s.size ≤ 1048576) (E : Env a w) (hM : MaxE m w) :
    Calls Tryz.prog 27 #[v, .string s] w (RowsR w.heap.size ds.length w (streamQ ds (cutB 10 s.data.toList))) := by
  refine callsIn_wide (n := 8).1 ?_
  obtain ⟨i0, hi, hz0, hz1, hz2⟩ := info_parts infoRows
  obtain ⟨o1, cap1, rfl, hc1, hm1, S1⟩ := SlOf.open hd
  have HD := Lib.hid hd
  have HE := Lib.hid E
  have HM := Lib.hid hM
  have HRt := Lib.hid hr
  have HS := Lib.hid hs
  obtain ⟨N, hN⟩ : ∃ N, ds.length = N := ⟨_, rfl⟩
  have HN := Lib.hid hN
  have HK1 : Hid (i0.bytes * N ≤ 281474976710656) := Lib.hid (by rw [hz2, ← hN]; have := hr.1; omega)
  have HK2 : Hid (N ≤ maxLen) := Lib.hid (by rw [← hN]; have := hr.1; unfold maxLen; omega)
  rw [hN]
  have y0 : (w.alloc (.cells #[.slice o1 N cap1] 22)).cell? ⟨w.heap.size, 0, none⟩ = some (.slice o1 N cap1) := row_cells (World.alloc_heap_new w (.cells #[.slice o1 N cap1] 22)) 0
  rw [hN] at HD
  clear hd E hM hr hs hN
  refine callsIn_of_wp_marks Tryz.func27 rfl trivial ?_ rfl
  simp only [Tryz.ntmps27, List.size_toArray, List.length_cons, List.length_nil, Nat.reduceAdd, Nat.reduceSub, Array.replicate_succ, Array.replicate_zero, List.push_toArray, List.append_toArray, List.nil_append, List.cons_append]
  gi_wp2_with fail
  refine wpIn_scope_wide ?_
  gi_wp2_with (gi_at_make; refine wpListIn_make_full _ rfl _ _ 29 rfl 41 i0 _ Tryz.underlying29 hi hz0 hz1 N rfl rfl HK1.out HK2.out ?_; rw [made_nil])
  refine wpIn_label ?_
  gi_wp2_with fail
  refine ⟨trivial, (eachLine_in _ s _).mono ?_⟩
  rintro e w3 ⟨rfl, rfl⟩
  gi_wp2_with fail
  clear y0
  obtain ⟨n0, hn0⟩ : ∃ n0, w.heap.size = n0 := ⟨_, rfl⟩
  obtain ⟨WL, hWL⟩ : ∃ WL, (((((w.alloc (.cells #[.slice o1 N cap1] 22)).alloc (.cells (Array.replicate N (.slice none 0 0)) 41)).alloc (.cells #[.slice (some ⟨w.heap.size + 1, 0, none⟩) N N] 29)).alloc (.cells #[.nilIface] 63)).alloc (.cells #[.string s] 9)) = WL := ⟨_, rfl⟩
  have hsz : WL.heap.size = n0 + 5 := by rw [← hWL]; simp; omega
  have hI0 : RoI w n0 N (.slice o1 N cap1) s (placedAll N []) WL := by
    refine ⟨?_, ?_, ?_, ?_, ?_, List.replicate N (.slice none 0 0), ⟨?_, ?_, ?_, ?_⟩⟩
    · rw [← hWL, ← hn0]
      exact (((((Below.refl _ w).alloc (Nat.le_refl _) _).alloc (by simp) _).alloc (by simp; omega) _).alloc (by simp; omega) _).alloc (by simp; omega) _
    · rw [← hWL]
      exact row_more (row_more (row_more (row_more (newRow hn0) _) _) _) _
    · rw [← hWL, hn0]
      exact row_more (row_more (newRow (by simp; omega)) _) _
    · rw [← hWL]
      exact row_more (newRow (by simp; omega)) _
    · rw [← hWL]
      exact newRow (by simp; omega)
    · rw [← hWL, List.toArray_replicate]
      exact row_more (row_more (row_more (newRow (by simp; omega)) _) _) _
    · unfold placedAll; simp
    · intro k v rows hk hf
      have hkN : k < N := by have := (List.getElem?_eq_some_iff.1 hk).1; simpa using this
      rw [placedAll_at _ hkN] at hf
      cases hf
      obtain ⟨_, hv⟩ := List.getElem?_eq_some_iff.1 hk
      rw [List.getElem_replicate] at hv
      subst hv
      exact ⟨[], World.ownsRow_nil _ _ _ _, fun i r hr => by simp [placedQ] at hr⟩
    · intro j k v v' b _ hj _ hb
      obtain ⟨_, hv⟩ := List.getElem?_eq_some_iff.1 hj
      rw [List.getElem_replicate] at hv
      subst hv
      cases hb
  rw [hWL]
  rw [hn0]
  have HI0 := Lib.hid hI0
  have Hn0 := Lib.hid hn0
  have Hs := Lib.hid hsz
  clear hWL hn0 hI0 hsz
  refine range_moves2 rfl (by omega) (gf := 78) (bd := #[]) (lb := #[.pointer (some ⟨n0 + 1 + 1 + 1 + 1, 0, none⟩)]) rfl trivial (enters_of Tryz.func78 (by kernel_rfl) rfl)
    (eachLine_moves 7 (by omega) (n0 + 1 + 1 + 1 + 1) s (by have := HS.out; omega)) (fun _ => rfl)
    (fun x W => ∃ acc r0 n, RoA w n0 N (.slice o1 N cap1) s ds acc r0 n x W)
    (RoB w n0 N (.slice o1 N cap1) s ds)
    (fun c W => c = .exit 0 ∧ RoX w n0 N s ds W)
    (fun W => ∃ acc, RoI w n0 N (.slice o1 N cap1) s (placedAll N acc) W ∧ streamQ ds (cutB 10 s.data.toList) = .inr acc)
    (fun x a' W => ∃ acc r0 n q, RoA w n0 N (.slice o1 N cap1) s ds acc r0 n x W ∧ n0 + 1 + 1 + 1 + 1 < q ∧ W.heap[q]? = some (.cells #[.int .i64 (x.1 : Int), .string x.2.1] 98 (0, 0)) ∧
      a' = { tmps := #[.slice o1 N cap1, .string s, .pointer (some ⟨n0, 0, none⟩), undef, .slice none 0 0, .nilIface, .pointer (some ⟨n0 + 1 + 1, 0, none⟩), .pointer (some ⟨n0 + 1 + 1 + 1, 0, none⟩), .pointer (some ⟨q, 0, none⟩), undef, undef, undef, undef, undef, undef, undef, undef, .slice o1 N cap1, .int .i64 N, .slice (some ⟨n0 + 1, 0, none⟩) N N, .string s, .func (.func 78) #[] #[.pointer (some ⟨n0 + 1 + 1 + 1 + 1, 0, none⟩)], .agg #[.int .i64 (x.1 : Int), .string x.2.1], undef, undef, undef, undef, undef, undef, undef, undef, undef, undef, undef, undef, undef, undef, undef, undef, undef, undef, undef, undef, undef, undef, undef, undef, undef, undef, undef, undef, undef, undef, undef, undef, undef, undef, undef, undef, undef, undef, undef, undef, undef, undef, undef, undef, undef, undef, undef, undef, undef, undef, undef, undef, undef, undef, undef], defers := [] })
    ?fB ?fX ?fZ ?fM ?h0 ?hB ?assign ?body ?done ?stop
  case fB =>
    rintro x W W' hp ⟨acc, h1, h2⟩
    exact ⟨acc, h1.put hp (by rw [Hs.out]; omega), h2⟩
  case fX =>
    rintro c W W' hp ⟨h1, n, e, h2, h3, h4, h5⟩
    exact ⟨h1, n, e, h2, put_bel hp h3 (by rw [Hs.out]; omega), put_block hp h4 (.inl rfl), put_block hp h5 (.inl rfl)⟩
  case fZ =>
    rintro W W' hp ⟨acc, h1, h2⟩
    exact ⟨acc, h1.put hp (by rw [Hs.out]; omega), h2⟩
  case fM =>
    rintro x a' W W' hp ⟨acc, r0, n, q, ⟨h1, h2⟩, h3, h4, h5⟩
    exact ⟨acc, r0, n, q, ⟨h1.put hp (by rw [Hs.out]; omega), h2⟩, h3, put_block hp h4 (.inl rfl), h5⟩
  case h0 =>
    intro o o'
    exact ⟨[], HI0.out.below (((Below.refl _ _).alloc (Nat.le_refl _) _).alloc (by simp) _), by rw [stream_cont], by have := HS.out; simpa using this⟩
  case hB =>
    rintro x W1 ⟨acc, hI, hc, hl⟩
    refine ⟨hI.st, ?_, ?_⟩
    · rintro x' W2 ⟨t1, t2, t3, t4, t5⟩
      exact ⟨keepsB t5 _, acc, _, x.1, hI.below t5, t1, t2, hl, t3, t4, hc⟩
    · rintro W2 ⟨t1, t2⟩
      refine ⟨keepsB t2 _, acc, hI.below t2, ?_⟩
      rw [hc, t1, contQ_nil]
  case assign =>
    rintro l x W ⟨acc, r0, n, hA⟩
    have HA := Lib.hid hA
    clear hA
    simp only [lnE]
    gi_wp2
    exact ⟨keepsB (alB W _) _, acc, r0, n, W.heap.size, ⟨HA.out.1.below (alB W _), HA.out.2⟩, heap_lt HA.out.1.st, rowNew W _ [.int .i64 (x.1 : Int), .string x.2.1], by trivial⟩
  case body =>
    rintro l x a' W ⟨acc, r0, n, q, ⟨hI, hx1, hne, hlen, ht, hdp, hcont⟩, hq0, hqr, rfl⟩
    obtain ⟨num, ln, rest⟩ := x
    simp only at hx1 ht hdp hqr
    subst hx1
    have hd0 : W.cell? ⟨n0, 0, none⟩ = some (.slice o1 N cap1) := row_cells hI.d 0
    have hl0 : W.cell? ⟨q, 0, none⟩ = some (.int .i64 ((n + 1 : Nat) : Int)) := row_cells hqr 0
    have hl1 : W.cell? ⟨q, 1, none⟩ = some (.string ln) := row_cells hqr 1
    have hlnl : ln.size ≤ 1048576 := by
      have h1 : ln.data.toList.length = ln.size := by simp
      rw [ht, List.length_take] at h1
      omega
    have hDW : SlOf W W.heap.size 6 (DeC W W.heap.size) ds (.slice o1 N cap1) := by
      have hb := hI.b
      rw [← Hn0.out] at hb
      exact SlOf.decl HD.out hb hb.size
    have HI := Lib.hid hI
    have HQ := Lib.hid hqr
    have hz1' := heap_lt hI.d
    have hz2' := heap_lt hqr
    clear hI hqr
    -- what a wrong line comes to
    have HBad : Hid (∀ (w1 : World) (e : Int), Below W.heap.size W w1 → streamQ ds (cutB 10 s.data.toList) = .inl (n + 1, e) →
        KeepsFrom WL.heap.size W (w1.setCell ⟨n0 + 1 + 1 + 1, 0, none⟩ (errL ((n + 1 : Nat) : Int) e)) ∧ RoX w n0 N s ds (w1.setCell ⟨n0 + 1 + 1 + 1, 0, none⟩ (errL ((n + 1 : Nat) : Int) e))) := Lib.hid fun w1 e b1 he => by
      have hI1 := HI.out.below b1
      refine ⟨(keepsB b1 _).trans (keepsC (setG w1 _ 0 _) (fun j ej => by cases ej; exact ⟨_, _, _, hI1.er⟩)), n + 1, e, he, hI1.b.setCell (p := ⟨n0 + 1 + 1 + 1, 0, none⟩) (by show n0 ≤ n0 + 1 + 1 + 1; omega) _, ?_, ?_⟩
      · exact (Below.heap_setCell w1 ⟨n0 + 1 + 1 + 1, 0, none⟩ _ _ (by show n0 + 1 + 1 ≠ n0 + 1 + 1 + 1; omega)).trans hI1.al
      · have := rowSet hI1.er 0 (errL ((n + 1 : Nat) : Int) e)
        simpa using this
    have HEr : Hid (∀ (w1 : World), Below W.heap.size W w1 → w1.cell? ⟨n0 + 1 + 1 + 1, 0, none⟩ = some .nilIface ∧ w1.frozen? ⟨n0 + 1 + 1 + 1, 0, none⟩ = false ∧ n0 + 1 + 1 + 1 < w1.heap.size) := Lib.hid fun w1 b1 => by
      have hI1 := HI.out.below b1
      exact ⟨row_cells hI1.er 0, frz_row hI1.er 0, heap_lt hI1.er⟩
    rcases cut_at 10 r0 with hop | ⟨p, q2, hpq, hp⟩
    · have hln : ∀ c ∈ ln.data.toList, c ≠ 10 := by rw [ht]; exact fun c hc => hop c (List.mem_of_mem_take hc)
      have HP := Lib.hid (partsOpen_c ((n + 1 : Nat) : Int) ln (.slice o1 N cap1) W hln (by omega))
      have HC : Hid (streamQ ds (cutB 10 s.data.toList) = .inl (n + 1, 92)) := Lib.hid (by rw [hcont, contQ_open hop hne])
      clear hln hop hcont ht hdp hDW hne
      gi_wp2_with fail
      refine ⟨trivial, (CallsIn.inRound l (callsIn_wide.2 HP.out)).mono ?_⟩
      rintro e w1 ⟨rfl, b1⟩
      have HB1 := Lib.hid b1
      obtain ⟨e0, e1, e2⟩ := HEr.out w1 b1
      have HX := Lib.hid (HBad.out w1 92 b1 HC.out)
      clear b1
      simp only [errL, show ((n + 1 : Nat) : Int) = (n : Int) + 1 by omega]
      gi_wp2
      exact ⟨HX.out.1, rfl, HX.out.2⟩
    · have hlp : ln.data.toList = p ++ [10] := by
        rw [ht, hpq, sizeN_first q2 hp, show p ++ 10 :: q2 = (p ++ [10]) ++ q2 by simp, List.take_append_of_le_length (by simp), List.take_of_length_le (by simp)]
      have hrest : rest.data.toList = q2 := by
        rw [hdp, hpq, sizeN_first q2 hp, show p ++ 10 :: q2 = (p ++ [10]) ++ q2 by simp, List.drop_append_of_le_length (by simp), List.drop_of_length_le (by simp), List.nil_append]
      have hbW : Below w.heap.size w W := by rw [Hn0.out]; exact HI.out.b
      have HP := Lib.hid (partsLine_c ((n + 1 : Nat) : Int) ln p hlp ds (.slice o1 N cap1) m W hDW (by omega) (HM.out.below hbW) (fun d hd => (HRt.out.2 d hd).1))
      have HC : Hid (streamQ ds (cutB 10 s.data.toList) = match oneQ ds p with
          | .inl e => .inl (n + 1, e)
          | .inr x => contQ ds (acc ++ [x]) (n + 1) (cutB 10 q2)) := Lib.hid (by rw [hcont, hpq, contQ_step q2 hp])
      have Hrest := Lib.hid hrest
      have Hq2l : Hid (acc.length + 1 + q2.length ≤ 1048576) := Lib.hid (by rw [hpq] at hlen; simp only [List.length_append, List.length_cons] at hlen; omega)
      have Hpl : Hid (p.length ≤ 1048576) := Lib.hid (by rw [hpq] at hlen; simp only [List.length_append, List.length_cons] at hlen; omega)
      have HbW := Lib.hid hbW
      clear hlp hrest hbW hcont ht hdp hDW hne hpq hlen hp
      gi_wp2_with fail
      refine ⟨trivial, (CallsIn.inRound l (callsIn_wide.2 HP.out)).mono ?_⟩
      intro e w1 hPR
      obtain ⟨pq, hpq⟩ : ∃ x, partsQ ds p = x := ⟨_, rfl⟩
      rw [hpq] at hPR
      cases hPR with
      | @bad e _ b1 =>
        have HX := Lib.hid (HBad.out w1 e b1 (by rw [HC.out, oneQ_parts, hpq]))
        obtain ⟨e0, e1, e2⟩ := HEr.out w1 b1
        clear b1 hpq
        simp only [errL, show ((n + 1 : Nat) : Int) = (n : Int) + 1 by omega]
        gi_wp2
        exact ⟨HX.out.1, rfl, HX.out.2⟩
      | @good k ts v _ hS b1 =>
        obtain ⟨hk, htl⟩ := partsQ_good hpq
        rw [List.length_map] at htl
        obtain ⟨T, hT⟩ : ∃ T, tyOf ds k = T := ⟨_, rfl⟩
        have HOne : Hid (oneQ ds p = match valsQ T (ts.map fun t => t.data.toList) with
            | .inl e => .inl e
            | .inr r => .inr (k, r)) := Lib.hid (by rw [oneQ_parts, hpq, ← hT]; rfl)
        rw [hT] at htl
        have HTsz : Hid (∀ t ∈ ts, t.size ≤ 1048576) := Lib.hid fun t ht => by
          have h1 := partsQ_sub hpq t.data.toList (List.mem_map_of_mem ht)
          have h2 : t.data.toList.length = t.size := by simp
          have := Hpl.out
          omega
        have hT8 : T.length ≤ 8 := by
          have hdk : ds[k]? = some ds[k] := List.getElem?_eq_getElem hk
          have : T = ds[k].types := by rw [← hT]; unfold tyOf; rw [hdk]; rfl
          rw [this]
          exact (HRt.out.2 _ (List.getElem_mem hk)).2
        obtain ⟨d, hd⟩ : ∃ d, ds[k]? = some d := ⟨ds[k], List.getElem?_eq_getElem hk⟩
        have hTd : d.types = T := by rw [← hT]; unfold tyOf; rw [hd]; rfl
        obtain ⟨oS, cS, rfl, _, _, SS⟩ := SlOf.open hS
        have HB1 := Lib.hid b1
        have HbW1 := Lib.hid (HbW.out.trans (b1.mono HbW.out.size))
        obtain ⟨iV, hv, hv0, hv1, hv2⟩ := info_parts infoVal
        have HMk : Hid (iV.bytes * ts.length ≤ 281474976710656 ∧ ts.length ≤ maxLen) := Lib.hid (by rw [hv2, htl]; constructor <;> (try unfold maxLen) <;> omega)
        have hdw : w1.cell? ⟨n0, 0, none⟩ = some (.slice o1 N cap1) := (b1.cell (p := ⟨n0, 0, none⟩) hz1').trans hd0
        have hkN : (k : Int) < (N : Int) := by have := HN.out; omega
        have hk0 : (0 : Int) ≤ (k : Int) := by omega
        obtain ⟨aD, u0, g0, u1, g1, rfl, haD, HDc, hcl⟩ := de_at S1 HbW1.out hd
        obtain ⟨_, _, hc2, _, _, _⟩ := hcl
        obtain ⟨_, _, _, _, ee, _, _, _, hTs⟩ := HDc.out.look
        cases ee
        rw [hTd] at hc2 hTs
        obtain ⟨_, _, ee, hcT, hmT, ST⟩ := SlOf.open hTs
        cases ee
        have hzD : (aD.add (k * 6)).block < w1.heap.size := by rw [addBlock]; have := HbW1.out.size; omega
        clear hpq hS b1 hk hT hTs HDc hTd hd
        simp only [show ((n + 1 : Nat) : Int) = (n : Int) + 1 by omega]
        gi_wp2_with (gi_at_make; refine wpListIn_make_own _ rfl _ _ 39 rfl w1.heap.size 51 iV _ 3 Tryz.underlying39 hv hv0 hv1 .i64 .i64 _ ts.length rfl rfl (by first | omega | rfl) HMk.out.1 HMk.out.2 (Nat.le_refl _) ?_; intro w2 hown2 hg2; have Own2 := Lib.hid hown2; have b12 : Below w1.heap.size w1 w2 := (Below.refl _ _).grown hg2 (Nat.le_refl _) (fun k hk => by cases hk); have HB12 := Lib.hid b12; have hdw2 : w2.cell? ⟨n0, 0, none⟩ = some (.slice (some aD) N cap1) := (b12.cell (p := ⟨n0, 0, none⟩) (Nat.lt_of_lt_of_le hz1' HB1.out.size)).trans hdw; have hc22 := (b12.cell (p := ⟨(aD.add (k * 6)).block, (aD.add (k * 6)).off + 2, none⟩) hzD).trans hc2; clear hown2 hg2 b12)
        gi_loopw [12, 42] (fun r i wr => ∃ (c : Nat) (vals : Rw) (o : Option Addr) (cap : Nat) (xs : List Value), c ≤ T.length ∧ i = .int .i64 (c : Int) ∧ r = .slice o c cap ∧ wr.ownsRow w1.heap.size 51 3 r c xs ∧ Laid 3 VlC vals xs ∧ vals.length = c ∧ Below w1.heap.size w1 wr ∧ Hid (valsQ T (ts.map fun t => t.data.toList) = consQ vals (valsQ (T.drop c) ((ts.map fun t => t.data.toList).drop c)))) (fun _ i _ => T.length - (intOf i).toNat)
        case atStart => exact ⟨0, [], _, _, [], Nat.zero_le _, rfl, rfl, by rw [← htl]; exact Own2.out, Laid.nil, rfl, HB12.out, Lib.hid (by rw [List.drop_zero, List.drop_zero]; cases valsQ T (ts.map fun t => t.data.toList) <;> rfl)⟩
        case round =>
        obtain ⟨c, vals, o, cap, xs, hc, rfl, rfl, hown, hlaid, hvl, hB, HQ'⟩ := hrel
        have hWr : Below W.heap.size W wr := HB1.out.trans (hB.mono HB1.out.size)
        by_cases hlt : c < T.length
        · have hlt' : (c : Int) < (T.length : Int) := by omega
          have hc0 : (0 : Int) ≤ (c : Int) := by omega
          have wc : IntKind.i64.wrap ((c : Int) + 1) = (c : Int) + 1 := by rw [IntKind.wrap_i64]; omega
          obtain ⟨z, hz⟩ : ∃ z, T[c]? = some z := ⟨T[c], List.getElem?_eq_getElem hlt⟩
          obtain ⟨tc, htc⟩ : ∃ tc, ts[c]? = some tc := ⟨ts[c]'(by omega), List.getElem?_eq_getElem _⟩
          obtain ⟨aT, rfl, haT, _, ct⟩ := int_at ST hB hz
          obtain ⟨aS, rfl, haS, _, cs⟩ := str_at SS hB htc
          have htl' : (c : Int) < (ts.length : Int) := by omega
          have hzT : (aT.add c).block < wr.heap.size := by rw [addBlock]; have := hB.size; omega
          have hzS : (aS.add c).block < wr.heap.size := by rw [addBlock]; have := hB.size; omega
          have Hstep := Lib.hid (valsQ_drop hz (show (ts.map fun t => t.data.toList)[c]? = some tc.data.toList by rw [List.getElem?_map, htc]; rfl))
          have HV := Lib.hid (value_c tc z a wr (by have := HTsz.out tc (List.mem_of_getElem? htc); omega) (HE.out.below (HbW1.out.trans (hB.mono HbW1.out.size))))
          have HLn : Hid (∀ W', Below W.heap.size W W' → W'.cell? ⟨q, 0, none⟩ = some (.int .i64 ((n : Int) + 1)) ∧ W'.cell? ⟨q, 1, none⟩ = some (.string ln) ∧ q < W'.heap.size) := Lib.hid fun W' hb => by
            have hr := (hb.block q hz2').trans HQ.out
            exact ⟨row_cells hr 0, row_cells hr 1, heap_lt hr⟩
          have HO := Lib.hid hown
          have HL := Lib.hid hlaid
          have HBr := Lib.hid hB
          have HWr := Lib.hid hWr
          have htm := List.mem_of_getElem? htc
          clear hz htc hown hlaid hB hWr
          gi_wp2_with fail
          refine ⟨trivial, (CallsIn.inRound l (callsIn_wide.2 HV.out)).mono ?_⟩
          rintro e w3 ⟨rfl, b3⟩
          have HW3 := Lib.hid (HWr.out.trans (b3.mono HWr.out.size))
          have HB3 := Lib.hid b3
          clear b3 ct cs
          cases hvq : valQ z tc.data.toList with
          | none =>
            have HOne2 : Hid (oneQ ds p = .inl (badE z)) := Lib.hid (by rw [HOne.out, HQ'.out, Hstep.out, hvq]; rfl)
            have hbe0 : badE z = 95 ∨ badE z = 96 := by unfold badE; split <;> simp
            simp only [valV]
            obtain ⟨be, hbe⟩ : ∃ be, badE z = be := ⟨_, rfl⟩
            rw [hbe] at hbe0
            rw [hbe] at HOne2
            rw [hbe]
            have hbe1 : (be != 0) = true := by rcases hbe0 with h | h <;> rw [h] <;> rfl
            have HW4 := Lib.hid (HW3.out.trans ((alB w3 (.cells #[.bool false, .int .i64 0, .string ⟨#[]⟩] 51)).mono HW3.out.size))
            obtain ⟨l0, l1, l2⟩ := HLn.out _ HW4.out
            clear hvq hbe hbe0
            gi_wp2_with fail
            refine ⟨trivial, (CallsIn.inRound l (callsIn_wide.2 (fail_c ((n : Int) + 1) be ln _))).mono ?_⟩
            rintro e w5 ⟨rfl, b5⟩
            have HW5 := Lib.hid (HW4.out.trans (b5.mono HW4.out.size))
            have HX := Lib.hid (HBad.out w5 be HW5.out (by rw [HC.out, HOne2.out]))
            obtain ⟨e0, e1, e2⟩ := HEr.out w5 HW5.out
            clear b5 l0 l1 l2
            simp only [errL]
            gi_wp2
            exact ⟨HX.out.1, rfl, HX.out.2⟩
          | some x =>
            have HQ2 : Hid (valsQ T (ts.map fun t => t.data.toList) = consQ (vals ++ [x]) (valsQ (T.drop (c + 1)) ((ts.map fun t => t.data.toList).drop (c + 1)))) := Lib.hid (by
              rw [HQ'.out, Hstep.out, hvq]
              simp only []
              cases valsQ (T.drop (c + 1)) ((ts.map fun t => t.data.toList).drop (c + 1)) <;> simp [consQ])
            have hlay : VlC x [.bool x.sym, .int .i64 x.n, .string x.s] := ⟨rfl, valQ_lay hvq (by
              have h1 := HTsz.out tc (by assumption)
              have h2 : tc.data.toList.length = tc.size := by simp
              omega)⟩
            have HLay := Lib.hid hlay
            simp only [valV]
            have hr4 := rowNew w3 51 [.bool x.sym, .int .i64 x.n, .string x.s]
            obtain ⟨W4, hW4⟩ : ∃ W, w3.alloc (.cells #[.bool x.sym, .int .i64 x.n, .string x.s] 51) = W := ⟨_, rfl⟩
            have hr4 : W4.heap[w3.heap.size]? = some (.cells #[.bool x.sym, .int .i64 x.n, .string x.s] 51 (0, 0)) := by rw [← hW4]; exact hr4
            obtain ⟨v0, v1, v2⟩ : W4.cell? ⟨w3.heap.size, 0, none⟩ = some (.bool x.sym) ∧ W4.cell? ⟨w3.heap.size, 1, none⟩ = some (.int .i64 x.n) ∧ W4.cell? ⟨w3.heap.size, 2, none⟩ = some (.string x.s) := ⟨row_cells hr4 0, row_cells hr4 1, row_cells hr4 2⟩
            have hb34 : Below w3.heap.size w3 W4 := by rw [← hW4]; exact alB _ _
            have HB4 := Lib.hid (HB3.out.trans (hb34.mono HB3.out.size))
            have HO4 := Lib.hid (own_past HO.out HB4.out)
            have HBs : Hid (w1.heap.size ≤ W4.heap.size) := Lib.hid (Nat.le_trans HBr.out.size HB4.out.size)
            have HM1 : Hid (c + 1 ≤ maxLen) := Lib.hid (by unfold maxLen; omega)
            have HM2 : Hid ((c + 1) * 32 ≤ 140737488355328) := Lib.hid (by omega)
            clear hvq hr4 hb34 hlay
            gi_wp2_with (gi_at_builtin; (try rw [hW4]); refine wpListIn_append_any _ rfl (.tmp 61) (.tmp 63) 39 rfl w1.heap.size 51 iV _ 3 32 Tryz.underlying39 hv hv0 hv1 hv2 rfl (by decide) (.slice o c cap) c _ rfl (own_past HO4.out (alB _ _)) (.slice (some ⟨W4.heap.size, 0, none⟩) 1 1) 1 [.bool x.sym, .int .i64 x.n, .string x.s] rfl (.inr ⟨_, _, rfl, rfl, World.news_of_block (World.alloc_heap_new _ _), val_one x⟩) HM1.out HM2.out (by have := HBs.out; simp; omega) ?_; intro v6 w6 hown6 hg6 _; have HO6 := Lib.hid hown6; have HG6 := Lib.hid hg6; obtain ⟨o6, c6, rfl⟩ := own_shape hown6; clear hown6 hg6)
            have b16 : Below w1.heap.size w1 w6 := by
              have b4 := HBr.out.trans (HB4.out.mono HBr.out.size)
              have b5 : Below w1.heap.size w1 (W4.alloc (.cells #[.bool x.sym, .int .i64 x.n, .string x.s] 51)) := b4.trans ((alB W4 _).mono b4.size)
              exact b5.grown HG6.out b5.size (fun j hj => (HO.out.lt j hj).1)
            have HB6 := Lib.hid b16
            clear b16
            gi_wp2
            go_roundw
            case rel => exact ⟨c + 1, vals ++ [x], _, _, _, by omega, by go_num, rfl, HO6.out, HL.out.snoc rfl HLay.out, by rw [List.length_append, hvl]; rfl, HB6.out, HQ2⟩
            case measure => simp [intOf]; omega
        · have hcK : c = T.length := by omega
          have hlt' : ¬ (c : Int) < (T.length : Int) := by omega
          have HVal : Hid (oneQ ds p = .inr (k, vals)) := Lib.hid (by
            rw [HOne.out, HQ'.out, hcK, List.drop_of_length_le (Nat.le_refl _), valsQ_nil]
            simp [consQ])
          have hI2 := HI.out.below hWr
          obtain ⟨vs, hall⟩ := hI2.all
          have hkn : k < N := by omega
          have hkv : k < vs.length := by rw [hall.len]; unfold placedAll; simp; exact hkn
          obtain ⟨hvv, hhv⟩ : ∃ x, vs[k]? = some x := ⟨_, List.getElem?_eq_getElem hkv⟩
          obtain ⟨us, hus⟩ := hall.hd k hvv _ hhv (placedAll_at acc hkn)
          have hRow : RowM n0 wr vals (.slice o c cap) := ⟨xs, by rw [hvl]; exact own_base hown (by have := HB1.out.size; omega), hlaid⟩
          have HHead := Lib.hid hus
          have HRow := Lib.hid hRow
          have HAll := Lib.hid hall
          have HI2 := Lib.hid hI2
          have Hhv := Lib.hid hhv
          have HKW : Hid (KeepsFrom WL.heap.size W wr) := Lib.hid (keepsB hWr _)
          have Hkn := Lib.hid hkn
          have Hnh : Hid ((placedQ acc k).length + 1 ≤ maxLen ∧ ((placedQ acc k).length + 1) * 24 ≤ 140737488355328) := Lib.hid (by
            have h1 : (placedQ acc k).length ≤ acc.length := by unfold placedQ; rw [List.length_map]; exact List.length_filter_le _ _
            have := Hq2l.out
            constructor <;> (try unfold maxLen) <;> omega)
          obtain ⟨iH, hh, hh0, hh1, hh2⟩ := info_parts infoHead
          clear hhv hus hRow hall hI2 hown hlaid hkv hWr hB hcK
          gi_wp2_with fail
          refine any_region (by kernel_rfl) (by kernel_rfl) (fun ⟨_, _, h⟩ => h) ?_
          (try (change wpAny _ _ _ _ _ _ _ (World.drew _)))
          refine wpAny_say slotsR _ _ (FRo w n0 N (.slice (some aD) N cap1) s acc k vals vs WL.heap.size wr hvv (.slice o c cap)) (by kernel_rfl) (by kernel_rfl) (by kernel_rfl) (by kernel_rfl) (by kernel_rfl) ⟨?R0, ?R1, ?R2, ?R3, ?R4, ?R5, ?R6, ?R7, ?R8, ?R9, ?R10, trivial⟩ FB.start ?Rfin
          case R0 =>
            intro l' val A' w' K hl hn' hd hF hfar hdep hK
            have e1 : A'.tmps[6]?.getD undef = .pointer (some ⟨n0 + 1 + 1, 0, none⟩) := hfar 6 (by decide)
            have c0 := hF.al HI2.out (hF.off (by decide : (10, 9) ∈ depsR) (hF.off (by decide : (9, 0) ∈ depsR) (hn')))
            unfold Oper.wp
            simp [execOp, e1, c0, go_sem, Result.andThen]
            exact hK _ _ (hF.read (by rw [hl]; decide) hn' (fun q hq h => by simp only [depsR, List.mem_cons, List.not_mem_nil, or_false] at hq; rcases hq with rfl | rfl | rfl | rfl | rfl | rfl | rfl | rfl | rfl | rfl <;> simp at h <;> exact hd _ (by kernel_rfl)) (fun p hp => by cases hp; rfl) (by decide) (by decide) (by decide))
          case R1 =>
            intro l' val A' w' K hl hn' hd hF hfar hdep hK
            have e1 : A'.tmps[9]?.getD undef = .int .i64 (k : Int) := hfar 9 (by decide)
            unfold Oper.wp
            simp [execOp, e1, go_sem, Result.andThen]
            exact hK _ _ (hF.read (by rw [hl]; decide) hn' (fun q hq h => by simp only [depsR, List.mem_cons, List.not_mem_nil, or_false] at hq; rcases hq with rfl | rfl | rfl | rfl | rfl | rfl | rfl | rfl | rfl | rfl <;> simp at h <;> exact hd _ (by kernel_rfl)) (fun p hp => by cases hp; rfl) (by decide) (by decide) (by decide))
          case R2 =>
            intro l' val A' w' K hl hn' hd hF hfar hdep hK
            have e1 : A'.tmps[6]?.getD undef = .pointer (some ⟨n0 + 1 + 1, 0, none⟩) := hfar 6 (by decide)
            have c0 := hF.al HI2.out (hF.off (by decide : (10, 8) ∈ depsR) (hF.off (by decide : (8, 5) ∈ depsR) (hF.off (by decide : (5, 4) ∈ depsR) (hF.off (by decide : (4, 2) ∈ depsR) (hn')))))
            unfold Oper.wp
            simp [execOp, e1, c0, go_sem, Result.andThen]
            exact hK _ _ (hF.read (by rw [hl]; decide) hn' (fun q hq h => by simp only [depsR, List.mem_cons, List.not_mem_nil, or_false] at hq; rcases hq with rfl | rfl | rfl | rfl | rfl | rfl | rfl | rfl | rfl | rfl <;> simp at h <;> exact hd _ (by kernel_rfl)) (fun p hp => by cases hp; rfl) (by decide) (by decide) (by decide))
          case R3 =>
            intro l' val A' w' K hl hn' hd hF hfar hdep hK
            have e1 : A'.tmps[9]?.getD undef = .int .i64 (k : Int) := hfar 9 (by decide)
            unfold Oper.wp
            simp [execOp, e1, go_sem, Result.andThen]
            exact hK _ _ (hF.read (by rw [hl]; decide) hn' (fun q hq h => by simp only [depsR, List.mem_cons, List.not_mem_nil, or_false] at hq; rcases hq with rfl | rfl | rfl | rfl | rfl | rfl | rfl | rfl | rfl | rfl <;> simp at h <;> exact hd _ (by kernel_rfl)) (fun p hp => by cases hp; rfl) (by decide) (by decide) (by decide))
          case R4 =>
            intro l' val A' w' K hl hn' hd hF hfar hdep hK
            have e1 : A'.tmps[68]?.getD undef = .slice (some ⟨n0 + 1, 0, none⟩) N N := (hdep 2 68 rfl (by kernel_rfl)).trans (hF.rd 2 _ (hd 2 (by kernel_rfl)) rfl)
            have e2 : A'.tmps[69]?.getD undef = .int .i64 (k : Int) := (hdep 3 69 rfl (by kernel_rfl)).trans (hF.rd 3 _ (hd 3 (by kernel_rfl)) rfl)
            have ek := addK (n0 + 1) k
            unfold Oper.wp
            simp [execOp, e1, e2, hkN, hk0, ek, go_sem, Result.andThen]
            exact hK _ _ (hF.read (by rw [hl]; decide) hn' (fun q hq h => by simp only [depsR, List.mem_cons, List.not_mem_nil, or_false] at hq; rcases hq with rfl | rfl | rfl | rfl | rfl | rfl | rfl | rfl | rfl | rfl <;> simp at h <;> exact hd _ (by kernel_rfl)) (fun p hp => by cases hp; rfl) (by decide) (by decide) (by decide))
          case R5 =>
            intro l' val A' w' K hl hn' hd hF hfar hdep hK
            have e1 : A'.tmps[70]?.getD undef = .pointer (some ⟨n0 + 1, k, none⟩) := (hdep 4 70 rfl (by kernel_rfl)).trans (hF.rd 4 _ (hd 4 (by kernel_rfl)) rfl)
            have hb := hF.old (hF.off (by decide : (8, 5) ∈ depsR) (hn'))
            have c0 : w'.cell? ⟨n0 + 1, k, none⟩ = some hvv := by
              have := row_cells (HAll.out.below hb).arr k
              rw [this]; simpa using Hhv.out
            unfold Oper.wp
            simp [execOp, e1, c0, go_sem, Result.andThen]
            exact hK _ _ (hF.read (by rw [hl]; decide) hn' (fun q hq h => by simp only [depsR, List.mem_cons, List.not_mem_nil, or_false] at hq; rcases hq with rfl | rfl | rfl | rfl | rfl | rfl | rfl | rfl | rfl | rfl <;> simp at h <;> exact hd _ (by kernel_rfl)) (fun p hp => by cases hp; rfl) (by decide) (by decide) (by decide))
          case R6 =>
            intro l' val A' w' K hl hn' hd hF hfar hdep hK
            have e1 : A'.tmps[12]?.getD undef = .slice o c cap := hfar 12 (by decide)
            unfold Oper.wp
            simp [execOp, e1, go_sem, Result.andThen]
            exact hK _ _ (hF.read (by rw [hl]; decide) hn' (fun q hq h => by simp only [depsR, List.mem_cons, List.not_mem_nil, or_false] at hq; rcases hq with rfl | rfl | rfl | rfl | rfl | rfl | rfl | rfl | rfl | rfl <;> simp at h <;> exact hd _ (by kernel_rfl)) (fun p hp => by cases hp; rfl) (by decide) (by decide) (by decide))
          case R7 =>
            intro l' val A' w' K hl hn' hd hF hfar hdep hK
            have e1 : A'.tmps[72]?.getD undef = .slice o c cap := (hdep 6 72 rfl (by kernel_rfl)).trans (hF.rd 6 _ (hd 6 (by kernel_rfl)) rfl)
            unfold Oper.wp
            simp [execOp, e1, go_sem, Result.andThen]
            exact hK _ _ (hF.made (by rw [hl]; decide) hn' (fun q hq h => by simp only [depsR, List.mem_cons, List.not_mem_nil, or_false] at hq; rcases hq with rfl | rfl | rfl | rfl | rfl | rfl | rfl | rfl | rfl | rfl <;> simp at h <;> exact hd _ (by kernel_rfl)) (fun p hp => by cases hp; trivial) (by decide) (by decide) (by decide) (by decide) ((Below.refl _ _).alloc (Nat.le_refl _) _) ⟨_, rfl, World.alloc_heap_new w' _⟩)
          case R8 =>
            intro l' val A' w' K hl hn' hd hF hfar hdep hK
            have e1 : A'.tmps[71]?.getD undef = hvv := (hdep 5 71 rfl (by kernel_rfl)).trans (hF.rd 5 _ (hd 5 (by kernel_rfl)) rfl)
            obtain ⟨_, b, hvb, hrb⟩ := hF.s7 (hd 7 (by kernel_rfl)) hn'
            have e2 : A'.tmps[73]?.getD undef = .slice (some ⟨b, 0, none⟩) 1 1 := (hdep 7 73 rfl (by kernel_rfl)).trans hvb
            have hb := hF.old hn'
            have hI' := HI2.out.below hb
            have hA' := HAll.out.below hb
            have hH' : HeadM n0 w' (placedQ acc k) hvv us := HHead.out.keep (.below hb) fun x hx => hb.block x (HHead.out.1.lt x hx).2
            refine wp_append_any w' (.tmp 71) (.tmp 73) 41 rfl n0 39 iH _ 1 24 Tryz.underlying41 hh hh0 hh1 hh2 rfl (by decide) hvv (placedQ acc k).length us (by simpa [Act.eval] using e1) hH'.1 (.slice (some ⟨b, 0, none⟩) 1 1) 1 [.slice o c cap] (by simpa [Act.eval] using e2) (.inr ⟨⟨b, 0, none⟩, 1, rfl, rfl, World.news_of_block hrb, one_row _ rfl⟩) Hnh.out.1 Hnh.out.2 (by have := hI'.b.size; have := heap_lt hI'.d; omega) ?_
            intro v' w3 hown' hg hn3
            have hS3 := hA'.append Hhv.out (placedAll_at acc Hkn.out) hH' (HRow.out.keep (.below hb)) hown' hg hn3
            rw [placedAll_set acc vals Hkn.out] at hS3
            have ho : ∀ {x : Nat} {cs : Array Value} {TT : TypeId}, TT ≠ 39 → w'.heap[x]? = some (.cells cs TT (0, 0)) → w3.heap[x]? = some (.cells cs TT (0, 0)) := fun hT hx => (hg.block _ (heap_lt hx) (fun e => row_obj hH'.1 hx hT e.symm)).trans hx
            exact hK _ _ (hF.appended (by rw [hl]; decide) hn' (fun q hq h => by simp only [depsR, List.mem_cons, List.not_mem_nil, or_false] at hq; rcases hq with rfl | rfl | rfl | rfl | rfl | rfl | rfl | rfl | rfl | rfl <;> simp at h <;> exact hd _ (by kernel_rfl)) (fun p hp => by cases hp; trivial) (by decide) (by decide) (by decide) (by decide) ⟨hI'.b.grown hg (Nat.le_of_lt (heap_lt hI'.d)) (fun j hj => (hH'.1.lt j hj).1), ho (by decide) hI'.d, ho (by decide) hI'.al, ho (by decide) hI'.er, ho (by decide) hI'.st, hS3, (keepsB hb _).trans (keepsC hg fun j hj => by
              obtain ⟨cs, hc⟩ := own_typ hH'.1 hj
              exact ⟨_, _, _, hc⟩)⟩)
          case R9 =>
            intro l' val A' w' K hl hn' hd hF hfar hdep hK
            have e1 : A'.tmps[66]?.getD undef = .slice (some ⟨n0 + 1, 0, none⟩) N N := (hdep 0 66 rfl (by kernel_rfl)).trans (hF.rd 0 _ (hd 0 (by kernel_rfl)) rfl)
            have e2 : A'.tmps[67]?.getD undef = .int .i64 (k : Int) := (hdep 1 67 rfl (by kernel_rfl)).trans (hF.rd 1 _ (hd 1 (by kernel_rfl)) rfl)
            have ek := addK (n0 + 1) k
            unfold Oper.wp
            simp [execOp, e1, e2, hkN, hk0, ek, go_sem, Result.andThen]
            exact hK _ _ (hF.read (by rw [hl]; decide) hn' (fun q hq h => by simp only [depsR, List.mem_cons, List.not_mem_nil, or_false] at hq; rcases hq with rfl | rfl | rfl | rfl | rfl | rfl | rfl | rfl | rfl | rfl <;> simp at h <;> exact hd _ (by kernel_rfl)) (fun p hp => by cases hp; rfl) (by decide) (by decide) (by decide))
          case R10 =>
            intro l' val A' w' K hl hn' hd hF hfar hdep hK
            have e9 : A'.tmps[75]?.getD undef = .pointer (some ⟨n0 + 1, k, none⟩) := (hdep 9 75 rfl (by kernel_rfl)).trans (hF.rd 9 _ (hd 9 (by kernel_rfl)) rfl)
            have h8 := hF.s8 (hd 8 (by kernel_rfl)) hn'
            have e8 : A'.tmps[74]?.getD undef = val 8 := hdep 8 74 rfl (by kernel_rfl)
            obtain ⟨z8, hz8⟩ : ∃ z, val 8 = z := ⟨_, rfl⟩
            rw [hz8] at h8 e8
            have cc : w'.cell? ⟨n0 + 1, k, none⟩ = some hvv := by
              have := row_cells h8.all.arr k
              rw [this]; simpa using Hhv.out
            have cf := frz_row h8.all.arr k
            have hlA := heap_lt h8.all.arr
            obtain ⟨us8, hu8⟩ := h8.all.hd k z8 _ (List.getElem?_set_self (List.getElem?_eq_some_iff.1 Hhv.out).1) (placedAll_at _ Hkn.out)
            obtain ⟨o8, c8, ev8⟩ := own_shape hu8.1
            have hst := h8.all.store
            have hne : ∀ {x : Nat} {cs : Array Value} {TT : TypeId}, x ≠ n0 + 1 → w'.heap[x]? = some (.cells cs TT (0, 0)) → (w'.setCell ⟨n0 + 1, k, none⟩ z8).heap[x]? = some (.cells cs TT (0, 0)) := fun hx h => (Below.heap_setCell w' ⟨n0 + 1, k, none⟩ z8 _ hx).trans h
            have hfin : RoI w n0 N (.slice (some aD) N cap1) s (placedAll N (acc ++ [(k, vals)])) (w'.setCell ⟨n0 + 1, k, none⟩ z8) := ⟨h8.b.setCell (p := ⟨n0 + 1, k, none⟩) (by show n0 ≤ n0 + 1; omega) _, hne (by omega) h8.d, hne (by omega) h8.al, hne (by omega) h8.er, hne (by omega) h8.st, _, hst⟩
            have hkf := h8.kf.trans (keepsC (setG w' (n0 + 1) k z8) fun j ej => by cases ej; exact ⟨_, _, _, h8.all.arr⟩)
            subst ev8
            unfold Oper.wp
            simp [execOp, e9, e8, cc, cf, hlA, go_sem, Result.andThen]
            exact hK undef _ (hF.stored (by rw [hl]; decide) hn' (fun q hq h => by simp only [depsR, List.mem_cons, List.not_mem_nil, or_false] at hq; rcases hq with rfl | rfl | rfl | rfl | rfl | rfl | rfl | rfl | rfl | rfl <;> simp at h <;> exact hd _ (by kernel_rfl)) (fun p hp => by cases hp; trivial) (by decide) (by decide) (by decide) (by decide) ⟨hfin, hkf⟩)
          case Rfin =>
            intro l' val w5 hall5 hF
            obtain ⟨hI5, hK5⟩ := hF.s10 (hall5 10 (by decide))
            simp only [slotsR, putsA, Nat.zero_add, Nat.reduceAdd]
            generalize val 0 = u0
            generalize val 1 = u1'
            generalize val 2 = u2
            generalize val 3 = u3
            generalize val 4 = u4
            generalize val 5 = u5
            generalize val 6 = u6
            generalize val 7 = u7
            generalize val 8 = u8
            generalize val 9 = u9
            generalize val 10 = u10
            have HR5 : Hid (KeepsFrom WL.heap.size W w5 ∧ RoB w n0 N (.slice (some aD) N cap1) s ds (n + 1, ln, rest) w5) := Lib.hid ⟨HKW.out.trans hK5, acc ++ [(k, vals)], hI5, by rw [HC.out, HVal.out, Hrest.out], by rw [List.length_append, Hrest.out]; exact Hq2l.out⟩
            clear hF hall5 hI5 hK5 val
            go_simp
            gi_wp2
            exact HR5.out
  case done =>
    rintro D W hD ⟨acc, hI, hS⟩ hd
    have c0 : W.cell? ⟨n0 + 1 + 1, 0, none⟩ = some (.slice (some ⟨n0 + 1, 0, none⟩) N N) := row_cells hI.al 0
    have c1 : W.cell? ⟨n0 + 1 + 1 + 1, 0, none⟩ = some .nilIface := row_cells hI.er 0
    have hl0 := heap_lt hI.al
    have hl1 := heap_lt hI.er
    have HI := Lib.hid hI
    have HS' := Lib.hid hS
    have Hd := Lib.hid hd
    have HD' := Lib.hid hD
    clear hI hS hd hD
    gi_wp2_with fail
    refine region_still_wide 3 (by kernel_rfl) (by kernel_rfl) ?_
    simp only [List.take_succ_cons, List.take_zero, List.drop_succ_cons, List.drop_zero]
    repeat still_step
    refine wpStill_nil ?_
    gi_wp2
    rw [Exit.noGoto_ret]
    refine ⟨by simp, .inl ⟨_, _, rfl, run_takeDeferred (w := W.drew) Hd.out, ?_⟩⟩
    refine ⟨_, results_tmp2 rfl _ _ _, ?_⟩
    obtain ⟨vs, ha⟩ := HI.out.all
    have hDn : n0 ≤ D := by have := HD'.out; have := Hs.out; omega
    have ha2 : AllM n0 (n0 + 1) (W.drew.putObj D (.deferred none)) (placedAll N acc) vs := (ha.below ((Below.refl _ W).drew)).put (B := 0) ⟨D, _, _, Nat.zero_le _, Hd.out, rfl, rfl, rfl⟩
    rw [HS'.out, Hn0.out]
    exact .good (put_gone HI.out.b.drew hDn) (Nat.le_succ n0) ha2
  case stop =>
    rintro D c W hD ⟨rfl, n, e, hS, hb, hal, her⟩ hd
    have c0 : W.cell? ⟨n0 + 1 + 1, 0, none⟩ = some (.slice (some ⟨n0 + 1, 0, none⟩) N N) := row_cells hal 0
    have c1 : W.cell? ⟨n0 + 1 + 1 + 1, 0, none⟩ = some (errL n e) := row_cells her 0
    have hl0 := heap_lt hal
    have hl1 := heap_lt her
    have HS' := Lib.hid hS
    have Hb := Lib.hid hb
    have Hd := Lib.hid hd
    have HD' := Lib.hid hD
    simp only [errL] at c1
    clear hS hb hal her hd hD
    gi_wp2_with fail
    refine region_still_wide 3 (by kernel_rfl) (by kernel_rfl) ?_
    simp only [List.take_succ_cons, List.take_zero, List.drop_succ_cons, List.drop_zero]
    repeat still_step
    refine wpStill_nil ?_
    gi_wp2
    rw [Exit.noGoto_ret]
    refine ⟨by simp, .inl ⟨_, _, rfl, run_takeDeferred (w := W.drew) Hd.out, ?_⟩⟩
    refine ⟨_, results_tmp2 rfl _ _ _, ?_⟩
    have hDn : n0 ≤ D := by have := HD'.out; have := Hs.out; omega
    rw [HS'.out, Hn0.out]
    exact .bad (put_gone Hb.out.drew hDn)
end Go.Proofs.YthhepmddcncjoaaGreatDoor
