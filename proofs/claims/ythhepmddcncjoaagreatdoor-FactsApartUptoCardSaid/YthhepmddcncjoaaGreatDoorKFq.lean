/- facts: a line's parts. A region that draws its order: each operation once, under a word on what has run. A region that reads, builds an element, puts it behind a row of one's own and stores the row in a box: whatever the order. Lists of rows, one behind the other in memory of one's own: a row put behind one of them. -/
import Derived.Test.YthhepmddcncjoaaGreatDoorKFv
import Derived.Test.YthhepmddcncjoaaGreatDoorKConv
import Derived.Test.YthhepmddcncjoaaGreatDoorKPri
set_option linter.unusedSimpArgs false
set_option linter.unusedVariables false
namespace Go.Proofs.YthhepmddcncjoaaGreatDoor
open Go.RowKit

def MaxE (m : Int) (w : World) : Prop := w.cell? ⟨3, 0, none⟩ = some (.int .i64 m)
theorem MaxE.below {m : Int} {w w' : World} (h : MaxE m w) (hb : Below w.heap.size w w') : MaxE m w' := (hb.cell (World.block_lt_of_cell? _ _ h)).trans h
theorem suf_none {l : List UInt8} (h : ∀ c ∈ l, c ≠ 10) : Lib.hasSuffix l [10] = false ∧ Lib.trimSuffix l [10] = l := by
  have h1 : Lib.hasSuffix l [10] = false := by
    cases hx : Lib.hasSuffix l [10] with
    | false => rfl
    | true =>
      obtain ⟨t, ht⟩ := List.isSuffixOf_iff_suffix.1 hx
      exact absurd rfl (h 10 (by rw [← ht]; simp))
  exact ⟨h1, by unfold Lib.trimSuffix; rw [h1]; rfl⟩
theorem suf_line (p : List UInt8) : Lib.hasSuffix (p ++ [10]) [10] = true ∧ Lib.trimSuffix (p ++ [10]) [10] = p := by
  have h1 : Lib.hasSuffix (p ++ [10]) [10] = true := List.isSuffixOf_iff_suffix.2 ⟨p, rfl⟩
  exact ⟨h1, by unfold Lib.trimSuffix; rw [h1]; simp⟩
/-- The place of a line's relation, and its values' texts. -/
def partsQ (ds : List De) (p : List UInt8) : Sum Int (Nat × List (List UInt8)) :=
  match findY (headQ p) ds with
  | none => .inl 93
  | some k => if inOf ds k = false then .inl 93 else if (cutB 9 p).tail.length ≠ (tyOf ds k).length then .inl 94 else .inr (k, (cutB 9 p).tail)
theorem oneQ_parts (ds : List De) (p : List UInt8) : oneQ ds p = match partsQ ds p with
    | .inl e => .inl e
    | .inr (k, ts) => match valsQ (tyOf ds k) ts with
      | .inl e => .inl e
      | .inr r => .inr (k, r) := by
  unfold oneQ partsQ
  cases findY (headQ p) ds with
  | none => rfl
  | some k =>
    simp only []
    split
    · rfl
    · split
      · rfl
      · rfl
inductive PartR (n : Int) (B : Nat) (w : World) : Sum Int (Nat × List (List UInt8)) → Ending → World → Prop
  | bad {e : Int} {w' : World} : Below B w w' → PartR n B w (.inl e) (.returned (.tuple #[.int .i64 0, .slice none 0 0, errL n e])) w'
  | good {k : Nat} {ts : List ByteArray} {v : Value} {w' : World} : SlOf w' w'.heap.size 1 StrC ts v → Below B w w' → PartR n B w (.inr (k, ts.map fun t => t.data.toList)) (.returned (.tuple #[.int .i64 (k : Int), v, .nilIface])) w'
theorem findY_lt {s : ByteArray} {ds : List De} {k : Nat} (h : findY s ds = some k) : k < ds.length := by
  unfold findY at h
  rcases ixY_cases s ds 0 with ⟨h1, _⟩ | ⟨i, d, h1, h2, _⟩
  · rw [h1] at h; simp at h
  · rw [h1, Nat.zero_add, if_neg (by omega)] at h
    cases h
    have := (List.getElem?_eq_some_iff.1 h2).1
    omega
set_option maxRecDepth 100000 in
set_option maxHeartbeats 4000000 in
theorem partsOpen_c (n : Int) (l : ByteArray) (v : Value) (w : World) (hl : ∀ c ∈ l.data.toList, c ≠ 10) (hs : l.size ≤ 1073741824) :
    Calls Tryz.prog 49 #[.agg #[.int .i64 n, .string l], v] w fun r w' => r = .returned (.tuple #[.int .i64 0, .slice none 0 0, errL n 92]) ∧ Below w.heap.size w w' := by
  have hr := rowNew w 98 [.int .i64 n, .string l]
  have h0 := row_cells hr 0
  have h1 := row_cells hr 1
  simp at h0 h1
  have HB := Lib.hid (alB w (.cells #[.int .i64 n, .string l] 98))
  have HC := Lib.hid (fun (W : World) => Tryz.strings_CutSuffix l ⟨#[10]⟩ W (by omega))
  rw [show (⟨#[10]⟩ : ByteArray).data.toList = [10] from rfl, (suf_none hl).1, (suf_none hl).2] at HC
  have HF := Lib.hid (fun (W : World) => fail_c n 92 l W)
  clear hr hl
  go_enter Tryz.func49, Tryz.ntmps49
  go_wp2_with fail
  refine (HC.out _).mono ?_
  rintro e w1 ⟨rfl, rfl⟩
  go_wp2_with fail
  refine (HF.out _).mono ?_
  rintro e w1 ⟨rfl, b1⟩
  go_wp2
  go_ret3
  exact ⟨rfl, HB.out.trans (b1.mono HB.out.size)⟩
theorem count_one (b : UInt8) : ∀ (fuel : Nat) (l : List UInt8), l.length < fuel → Lib.countFrom [b] fuel l = l.count b
  | 0, _, h => by omega
  | fuel + 1, l, h => by
    rcases cut_at b l with hn | ⟨p, q, rfl, hp⟩
    · rw [Lib.countFrom, index_none hn, List.count_eq_zero.2 fun hm => hn b hm rfl]; rfl
    · have hi : (((p.length : Nat) : Int) == -1) = false := by rw [beq_eq_false_iff_ne]; omega
      rw [Lib.countFrom, index_first q hp, hi]
      simp only [Bool.false_eq_true, if_false, Int.toNat_natCast, List.length_singleton]
      have hd : (p ++ b :: q).drop (p.length + 1) = q := by
        rw [show p ++ b :: q = (p ++ [b]) ++ q by simp, List.drop_append_of_le_length (by simp), List.drop_of_length_le (by simp), List.nil_append]
      rw [hd, count_one b fuel q (by rw [List.length_append, List.length_cons] at h; omega), List.count_append, List.count_cons_self, List.count_eq_zero.2 fun hm => hp b hm rfl]
      omega
theorem cut9 (p : List UInt8) : ∃ a b f, Lib.cut p [9] = (a, b, f) ∧ headQ p = ⟨a.toArray⟩ ∧ ((cutB 9 p).tail ≠ [] → (cutB 9 p).tail = cutB 9 b) ∧ b.length ≤ p.length ∧ p.count 9 = (cutB 9 p).tail.length := by
  have hc : p.count 9 = (cutB 9 p).tail.length := by rw [List.length_tail, cutB_len]; omega
  rcases cut_at 9 p with h | ⟨a, q, rfl, h⟩
  · exact ⟨p, [], false, lcut_none h, by unfold headQ; rw [cutB_none h]; rfl, fun h2 => absurd (by rw [cutB_none h]; rfl) h2, Nat.zero_le _, hc⟩
  · exact ⟨a, q, true, lcut_first q h, by unfold headQ; rw [cutB_first q h]; rfl, fun _ => by rw [cutB_first q h]; rfl, by rw [List.length_append, List.length_cons]; omega, hc⟩
theorem strs_alloc (w : World) (l : List ByteArray) (hl : l.length ≤ maxLen) (hs : ∀ t ∈ l, t.size ≤ maxLen) (hne : l ≠ []) : SlOf (w.alloc (.cells (l.map Value.string).toArray 9)) (w.alloc (.cells (l.map Value.string).toArray 9)).heap.size 1 StrC l (.slice (some ⟨w.heap.size, 0, none⟩) l.length l.length) := by
  have hr := World.alloc_heap_new w (.cells (l.map Value.string).toArray 9)
  refine .inr ⟨⟨w.heap.size, 0, none⟩, l.length, rfl, Nat.le_refl _, hl, fun _ => by simp, fun i x hx => ⟨[.string x], rfl, ⟨rfl, hs x (List.mem_of_getElem? hx)⟩, fun j c hj => ?_⟩⟩
  have hj0 : j = 0 := by have := (List.getElem?_eq_some_iff.1 hj).1; simp at this; omega
  subst hj0
  have hadd : (⟨w.heap.size, 0, none⟩ : Addr).add (i * 1 + 0) = ⟨w.heap.size, i, none⟩ := by unfold Addr.add; split <;> simp_all
  rw [hadd]
  unfold World.cell?
  rw [hr]
  simp only [List.getElem?_cons_zero, Option.some.injEq] at hj
  subst hj
  simp [hx]
set_option maxRecDepth 100000 in
set_option maxHeartbeats 8000000 in
theorem partsLine_c (n : Int) (l : ByteArray) (p : List UInt8) (hp : l.data.toList = p ++ [10]) (ds : List De) (v : Value) (m : Int) (w : World) (hd : SlOf w w.heap.size 6 (DeC w w.heap.size) ds v) (hs : l.size ≤ 1073741824) (hM : MaxE m w) (hne : ∀ d ∈ ds, d.types ≠ []) :
    Calls Tryz.prog 49 #[.agg #[.int .i64 n, .string l], v] w (PartR n w.heap.size w (partsQ ds p)) := by
  have hr := rowNew w 98 [.int .i64 n, .string l]
  have hb := alB w (.cells #[.int .i64 n, .string l] 98)
  obtain ⟨W, hW⟩ : ∃ W, w.alloc (.cells #[.int .i64 n, .string l] 98) = W := ⟨_, rfl⟩
  rw [hW] at hb
  have hr : W.heap[w.heap.size]? = some (.cells #[.int .i64 n, .string l] 98 (0, 0)) := by rw [← hW]; exact hr
  obtain ⟨h0, h1⟩ : W.cell? ⟨w.heap.size, 0, none⟩ = some (.int .i64 n) ∧ W.cell? ⟨w.heap.size, 1, none⟩ = some (.string l) := ⟨row_cells hr 0, row_cells hr 1⟩
  have hpl : p.length ≤ l.size := by
    have : l.data.toList.length = l.size := by simp
    rw [hp, List.length_append] at this
    omega
  have HC := Lib.hid (fun (W : World) => Tryz.strings_CutSuffix l ⟨#[10]⟩ W (by omega))
  rw [show (⟨#[10]⟩ : ByteArray).data.toList = [10] from rfl, hp, (suf_line p).1, (suf_line p).2] at HC
  obtain ⟨a, b, f, hcut, hhead, htail, hbl, hcount⟩ := cut9 p
  have HCut := Lib.hid (Tryz.strings_Cut ⟨p.toArray⟩ ⟨#[9]⟩ m W (by rw [bs_size]; omega) (hM.below hb))
  rw [show (⟨#[9]⟩ : ByteArray).data.toList = [9] from rfl, show (⟨p.toArray⟩ : ByteArray).data.toList = p from rfl, hcut] at HCut
  have HFd := Lib.hid (fun (W' : World) (h : Below w.heap.size w W') => find_c ⟨a.toArray⟩ W'.heap.size ds v W' (SlOf.decl hd h h.size) (Nat.le_refl _))
  have HF := Lib.hid (fun (e : Int) (W : World) => fail_c n e l W)
  have HHead := Lib.hid hhead
  have HTail := Lib.hid htail
  have HCount := Lib.hid hcount
  have HNe := Lib.hid hne
  have HB := Lib.hid hb
  have HR := Lib.hid hr
  have HM := Lib.hid hM
  have Hbl := Lib.hid (show b.length ≤ 1073741824 by omega)
  have HCn := Lib.hid (fun (W : World) => Tryz.strings_Count_one ⟨p.toArray⟩ 9 W)
  rw [show (⟨p.toArray⟩ : ByteArray).data.toList = p from rfl, show Lib.countByte p 9 = p.count 9 from rfl, hcount] at HCn
  obtain ⟨o1, cap1, rfl, hc1, hm1, S1⟩ := SlOf.open hd
  clear hcut hhead htail hbl hcount hne hb hr hM hp hs hpl hd
  go_enter Tryz.func49, Tryz.ntmps49
  go_wp2_with fail
  (try rw [hW])
  refine (HC.out _).mono ?_
  rintro e w1 ⟨rfl, rfl⟩
  go_wp2_with fail
  refine HCut.out.mono ?_
  rintro e w1 ⟨rfl, dn, rfl⟩
  have HB1 := Lib.hid (below_drewN HB.out dn)
  go_wp2_with fail
  refine (HFd.out _ HB1.out).mono ?_
  rintro e w2 ⟨rfl, b2⟩
  have HB2 := Lib.hid (HB1.out.trans (b2.mono HB1.out.size))
  have hr2 := (b2.block w.heap.size (heap_lt HR.out)).trans HR.out
  obtain ⟨x0, x1⟩ : w2.cell? ⟨w.heap.size, 0, none⟩ = some (.int .i64 n) ∧ w2.cell? ⟨w.heap.size, 1, none⟩ = some (.string l) := ⟨row_cells hr2 0, row_cells hr2 1⟩
  clear b2 h0 h1 HFd HCut HC hr2
  obtain ⟨fq, hfq⟩ : ∃ q, findY ⟨a.toArray⟩ ds = q := ⟨_, rfl⟩
  rw [hfq]
  cases fq with
  | none =>
    have HP : Hid (partsQ ds p = .inl 93) := Lib.hid (by unfold partsQ; rw [HHead.out, hfq])
    clear hfq
    simp only [findV]
    go_wp2_with fail
    refine (HF.out _ _).mono ?_
    rintro e w3 ⟨rfl, b3⟩
    go_wp2
    go_ret3
    rw [HP.out]
    exact .bad (HB2.out.trans (b3.mono HB2.out.size))
  | some k =>
    have hk := findY_lt hfq
    obtain ⟨d, hd⟩ : ∃ d, ds[k]? = some d := ⟨ds[k], List.getElem?_eq_getElem hk⟩
    have hin : inOf ds k = d.inn := by unfold inOf; rw [hd]; rfl
    have hty : tyOf ds k = d.types := by unfold tyOf; rw [hd]; rfl
    have HP0 : Hid (partsQ ds p = if d.inn = false then .inl 93 else if (cutB 9 p).tail.length ≠ d.types.length then .inl 94 else .inr (k, (cutB 9 p).tail)) := Lib.hid (by unfold partsQ; rw [HHead.out, hfq]; simp only []; rw [hin, hty])
    have HNd := Lib.hid (HNe.out d (List.mem_of_getElem? hd))
    obtain ⟨a1, q0, k0, q1, k1, rfl, ha1, _, hcl⟩ := de_at S1 HB2.out hd
    obtain ⟨_, _, c2, c3, _, _⟩ := hcl
    have hk' : (k : Int) < (ds.length : Int) := by omega
    have hal : (a1.add (k * 6)).block < w2.heap.size := by rw [addBlock]; have := HB2.out.size; omega
    clear hfq hd hin hty hk
    simp only [findV]
    cases hdi : d.inn with
    | false =>
      rw [hdi] at c3
      have HP : Hid (partsQ ds p = .inl 93) := Lib.hid (by rw [HP0.out, hdi]; rfl)
      clear hdi
      go_wp2_with fail
      refine (HF.out _ _).mono ?_
      rintro e w3 ⟨rfl, b3⟩
      go_wp2
      go_ret3
      rw [HP.out]
      exact .bad (HB2.out.trans (b3.mono HB2.out.size))
    | true =>
      rw [hdi] at c3
      have HP1 : Hid (partsQ ds p = if (cutB 9 p).tail.length ≠ d.types.length then .inl 94 else .inr (k, (cutB 9 p).tail)) := Lib.hid (by rw [HP0.out, hdi]; rfl)
      clear hdi
      obtain ⟨N, hN⟩ : ∃ N, (cutB 9 p).tail.length = N := ⟨_, rfl⟩
      rw [hN] at HCn
      have HN := Lib.hid hN
      clear hN
      have hS0 : w2.drew.cell? ⟨(a1.add (k * 6)).block, (a1.add (k * 6)).off + 2, none⟩ = some (.slice q1 d.types.length k1) ∧ True := ⟨c2, trivial⟩
      by_cases hNt : N = d.types.length
      · have hq1 : ((N : Int) != (d.types.length : Int)) = false := by simp; omega
        have HP : Hid (partsQ ds p = .inr (k, (cutB 9 p).tail)) := Lib.hid (by rw [HP1.out, HN.out, if_neg (by omega)])
        have hb0 : (cutB 9 p).tail ≠ [] := by
          intro h
          have := HN.out
          rw [h] at this
          exact HNd.out (List.eq_nil_of_length_eq_zero (by rw [← hNt, ← this]; rfl))
        obtain ⟨ts, hts⟩ : ∃ ts, Lib.splitB ⟨#[9]⟩ 0 (Lib.countB ⟨b.toArray⟩ ⟨#[9]⟩) ⟨b.toArray⟩ = ts := ⟨_, rfl⟩
        have htl : ts.length = Lib.countB ⟨b.toArray⟩ ⟨#[9]⟩ + 1 := by rw [← hts]; exact Lib.splitB_all ⟨#[9]⟩ (by decide) 0 _ _ rfl
        have htm : ts.map (fun t => t.data.toList) = cutB 9 b := by
          rw [← hts]
          exact splitB_cut 9 _ _ (count_one 9 _ _ (Nat.lt_succ_self _)).symm
        have HTs : Hid (ts.map (fun t => t.data.toList) = (cutB 9 p).tail) := Lib.hid (by rw [htm, HTail.out hb0])
        have HSz : Hid (∀ t ∈ ts, t.size ≤ maxLen) := Lib.hid fun t ht => by
          have := cutB_size 9 b t.data.toList (by rw [← htm]; exact List.mem_map_of_mem ht)
          have h2 : t.data.toList.length = t.size := by simp
          have := Hbl.out
          unfold maxLen
          omega
        have HLn : Hid (ts.length ≤ maxLen ∧ ts ≠ []) := Lib.hid (by
          have h3 := congrArg List.length htm
          rw [List.length_map, cutB_len] at h3
          have h4 := List.count_le_length (a := (9 : UInt8)) (l := b)
          have := Hbl.out
          refine ⟨by unfold maxLen; omega, fun h => ?_⟩
          rw [h] at h3
          simp at h3)
        have HSp := Lib.hid (fun (W : World) (hM : MaxE m W) => Tryz.strings_Split ⟨b.toArray⟩ ⟨#[9]⟩ m W (by rw [bs_size]; have := Hbl.out; omega) hM (by decide))
        rw [hts, ← htl] at HSp
        clear hts htl htm hb0
        go_wp2_with fail
        go_region_held3 (fun w' => w'.cell? ⟨(a1.add (k * 6)).block, (a1.add (k * 6)).off + 2, none⟩ = some (.slice q1 d.types.length k1) ∧ True) (first | exact hS0)
          (first | (go_at_call 83; (with_reducible refine (HCn.out _).mono ?_); rintro e1 w3 ⟨rfl, rfl⟩))
        all_goals
          have hM2 : MaxE m w2.drew := HM.out.below HB2.out.drew
          go_wp2_with fail
          refine (HSp.out _ hM2).mono ?_
          rintro e w4 ⟨rfl, rfl⟩
          have HB4 := Lib.hid (alB w2.drew (.cells (ts.map Value.string).toArray 9))
          have HS4 := Lib.hid (strs_alloc w2.drew ts HLn.out.1 HSz.out HLn.out.2)
          clear hM2
          go_wp2
          go_ret3
          rw [HP.out, ← HTs.out]
          exact .good HS4.out (HB2.out.trans ((drewB HB4.out).mono HB2.out.size))
      · have hq1 : ((N : Int) != (d.types.length : Int)) = true := by simp; omega
        have HP : Hid (partsQ ds p = .inl 94) := Lib.hid (by rw [HP1.out, HN.out, if_pos hNt])
        go_wp2_with fail
        go_region_held3 (fun w' => w'.cell? ⟨(a1.add (k * 6)).block, (a1.add (k * 6)).off + 2, none⟩ = some (.slice q1 d.types.length k1) ∧ True) (first | exact hS0)
          (first | (go_at_call 83; (with_reducible refine (HCn.out _).mono ?_); rintro e1 w3 ⟨rfl, rfl⟩))
        all_goals
          obtain ⟨x2, x3⟩ : w2.drew.cell? ⟨w.heap.size, 0, none⟩ = some (.int .i64 n) ∧ w2.drew.cell? ⟨w.heap.size, 1, none⟩ = some (.string l) := ⟨x0, x1⟩
          go_wp2_with fail
          refine (HF.out _ _).mono ?_
          rintro e w4 ⟨rfl, b4⟩
          go_wp2
          go_ret3
          rw [HP.out]
          exact .bad (HB2.out.trans ((drewB b4).mono HB2.out.size))
end Go.Proofs.YthhepmddcncjoaaGreatDoor
namespace Go.Proofs.YthhepmddcncjoaaGreatDoor
open Go.RowKit

/-- What is asked of one operation. -/
def FStep (P : Program) (Q : Exit → Act → World → Prop) (slots : List (Option Tmp)) (a0 : Act) (F : Array Bool → (Nat → Value) → World → Prop) (n i : Nat) (o : Oper) : Prop :=
  ∀ (l : Array Bool) (val : Nat → Value) (A : Act) (w : World) (K : Act → World → Prop), l.size = n → l.getD i false = false → (∀ j, depG o j = true → l.getD j false = true) → F l val w →
    (∀ s, (some s) ∉ slots → A.tmps[s]?.getD undef = a0.tmps[s]?.getD undef) → (∀ j s, slots[j]? = some (some s) → depG o j = true → A.tmps[s]?.getD undef = val j) →
    (∀ v w', F (l.setIfInBounds i true) (updV val i v) w' → K (A.put o.dst v) w') → o.wp P A w K Q
theorem wpAny_say {P : Program} {ops : Array Oper} {Q : Exit → Act → World → Prop} (slots : List (Option Tmp)) (a0 : Act) (w0 : World) (F : Array Bool → (Nat → Value) → World → Prop) (hdst : ops.toList.map (·.dst) = slots) (hok : slotsOk slots = true)
    (hac : (ops.toList.zipIdx.all fun q => q.1.after.all fun e => !Region.binds .any e || decide (e.on < q.2)) = true) (hg : (ops.toList.all fun o => o.guard.isNone) = true)
    (hsz : (slots.all fun d => match d with | none => true | some s => decide (s < a0.tmps.size)) = true)
    (hst : AllG (FStep P Q slots a0 F ops.size) 0 ops.toList) (start : F (Array.replicate ops.size false) (fun _ => undef) w0)
    (fin : ∀ (l : Array Bool) (val : Nat → Value) (w : World), (∀ i, i < ops.size → l.getD i false = true) → F l val w → Q .normal (putsA slots val 0 a0) w) : wpAny P .any ops Q ops.size (Array.replicate ops.size false) a0 w0 := by
  have hat : ∀ (i : Nat) (o : Oper), ops[i]? = some o → ops.toList[i]? = some o := fun i o h => (Array.getElem?_toList ..).trans h
  have hlen : slots.length = ops.size := by rw [← hdst]; simp
  have hD : ∀ (i : Nat) (o : Oper), ops[i]? = some o → o.dst = slotG slots i := by
    intro i o h
    unfold slotG
    rw [← hdst, List.getElem?_map, hat i o h]
    rfl
  have hS : ∀ (i : Nat), i < ops.size → slots[i]? = some (slotG slots i) := by
    intro i hi
    unfold slotG
    rw [List.getElem?_eq_getElem (by omega)]
    rfl
  have hne : ∀ i j, i < ops.size → j < ops.size → j ≠ i → slotG slots j ≠ slotG slots i ∨ slotG slots i = none := by
    intro i j hi hj hji
    unfold slotsOk at hok
    have h1 := List.all_eq_true.1 hok i (List.mem_range.2 (by omega))
    have h2 := List.all_eq_true.1 h1 j (List.mem_range.2 (by omega))
    simp only [Bool.or_eq_true, decide_eq_true_eq, beq_iff_eq, Option.isNone_iff_eq_none] at h2
    rcases h2 with (h2 | h2) | h2
    · exact absurd h2 hji
    · exact .inl h2
    · exact .inr h2
  have hlt : ∀ (j : Nat) (s : Tmp), slots[j]? = some (some s) → s < a0.tmps.size := fun j s h => by
    have := List.all_eq_true.1 hsz _ (List.mem_of_getElem? h)
    simpa using this
  refine wpAny_flow (slotG slots) hD hne ?_ ?_ a0 F ?_ ?_ w0 (fun _ => undef) start
  · intro i o h e he hbn
    have hm : (o, i) ∈ ops.toList.zipIdx := List.mem_zipIdx_iff_getElem?.2 (hat i o h)
    have := List.all_eq_true.1 hac _ hm
    have := Array.all_eq_true_iff_forall_mem.1 this e he
    rw [hbn] at this
    simpa using this
  · intro i o h
    have := List.all_eq_true.1 hg o (List.mem_of_getElem? (hat i o h))
    simpa using this
  · rintro l val w i o hF hl ho hf hd A K hA hK
    have hs := hst.at (hat i o ho)
    rw [Nat.zero_add] at hs
    have ev : ∀ (B : Act) (s : Tmp), B.tmps[s]?.getD undef = B.eval (.tmp s) := fun B s => by rw [← Array.getD_eq_getD_getElem?]; rfl
    refine hs l val A w K hl hf (fun j h => depG_of h hd) hF ?_ ?_ hK
    · intro s hs
      rw [ev, ev, hA]
      refine actsL_far _ _ fun j hj e => hs ?_
      rw [← e]
      exact List.mem_of_getElem? (hS j (List.mem_range.1 hj))
    · intro j s hj hdep
      have hjl := depG_of hdep hd
      have hjs : j < ops.size := by rw [← hlen]; exact (List.getElem?_eq_some_iff.1 hj).1
      have hsl : slotG slots j = some s := by unfold slotG; rw [hj]; rfl
      rw [ev, hA, actsL_eval hjl hsl _ _ (List.mem_range.2 hjs) List.nodup_range (fun k hk hkj e => ?_) (hlt j s hj)]
      rcases hne j k hjs (List.mem_range.1 hk) hkj with h | h
      · exact h (e.trans hsl.symm)
      · rw [hsl] at h; cases h
  · rintro l val w hF hall
    have h1 : ∀ i, i < slots.length → slots[i]? = some (slotG slots (0 + i)) := fun i hi => by rw [Nat.zero_add]; exact hS i (by omega)
    have h2 : ∀ i, i < slots.length → l.getD (0 + i) false = true := fun i hi => by rw [Nat.zero_add]; exact hall i (by omega)
    have e : (List.range slots.length).map (0 + ·) = List.range ops.size := by rw [hlen]; simp
    have := puts_all (D := slotG slots) (l := l) (val := val) slots 0 a0 h1 h2
    rw [e] at this
    rw [this]
    exact fin l val w hall hF
end Go.Proofs.YthhepmddcncjoaaGreatDoor
namespace Go.Proofs.YthhepmddcncjoaaGreatDoor
open Go.RowKit

theorem ntb {p : Bool} (h : p = false) (h' : p = true) {C : Prop} : C := by rw [h] at h'; cases h'
/-- What has run: i1 loads the row, i7 builds the element, i8 appends it, i10 stores the row. -/
structure FB (i1 i7 i8 i10 : Nat) (ps : List (Nat × Nat)) (R : List (Value → Prop)) (W0 : World) (E7 E8 : Value → World → Prop) (E10 : World → Prop) (l : Array Bool) (val : Nat → Value) (w : World) : Prop where
  rd : ∀ j p, l.getD j false = true → R[j]? = some p → p (val j)
  dp : ∀ q ∈ ps, l.getD q.1 false = true → l.getD q.2 false = true
  s0 : l.getD i7 false = false → Below W0.heap.size W0 w
  s7 : l.getD i7 false = true → l.getD i8 false = false → Below W0.heap.size W0 w ∧ E7 (val i7) w
  s8 : l.getD i8 false = true → l.getD i10 false = false → E8 (val i8) w
  s10 : l.getD i10 false = true → E10 w
section
variable {i1 i7 i8 i10 n : Nat} {ps : List (Nat × Nat)} {R : List (Value → Prop)} {W0 w w' : World} {E7 E8 : Value → World → Prop} {E10 : World → Prop} {l : Array Bool} {val : Nat → Value}
theorem FB.start : FB i1 i7 i8 i10 ps R W0 E7 E8 E10 (Array.replicate n false) val W0 := by
  have rep : ∀ j, (Array.replicate n false).getD j false = false := by
    intro j
    simp [Array.getD_eq_getD_getElem?, Array.getElem?_replicate]
    split <;> simp
  constructor
  · intro j p h; exact ntb (rep _) h
  · intro q _ h; exact ntb (rep _) h
  · intro _; exact Below.refl _ _
  · intro h; exact ntb (rep _) h
  · intro h; exact ntb (rep _) h
  · intro h; exact ntb (rep _) h
theorem FB.upd (h : FB i1 i7 i8 i10 ps R W0 E7 E8 E10 l val w) {i : Nat} {v : Value} (hl : i < l.size) (hn : l.getD i false = false) (hd : ∀ q ∈ ps, q.1 = i → l.getD q.2 false = true) (hv : ∀ p, R[i]? = some p → p v) :
    (∀ j p, (l.setIfInBounds i true).getD j false = true → R[j]? = some p → p (updV val i v j)) ∧ (∀ q ∈ ps, (l.setIfInBounds i true).getD q.1 false = true → (l.setIfInBounds i true).getD q.2 false = true) := by
  refine ⟨fun j p hj hp => ?_, fun q hq h1 => ?_⟩
  · by_cases e : j = i
    · subst e; rw [updV_same]; exact hv p hp
    · rw [updV_other _ _ e]; rw [getD_set e] at hj; exact h.rd j p hj hp
  · by_cases e2 : q.2 = i
    · rw [e2]; exact getD_same hl
    · rw [getD_set e2]
      by_cases e1 : q.1 = i
      · exact hd q hq e1
      · rw [getD_set e1] at h1; exact h.dp q hq h1
theorem FB.read (h : FB i1 i7 i8 i10 ps R W0 E7 E8 E10 l val w) {i : Nat} {v : Value} (hl : i < l.size) (hn : l.getD i false = false) (hd : ∀ q ∈ ps, q.1 = i → l.getD q.2 false = true) (hv : ∀ p, R[i]? = some p → p v) (h7 : i ≠ i7) (h8 : i ≠ i8) (h10 : i ≠ i10) :
    FB i1 i7 i8 i10 ps R W0 E7 E8 E10 (l.setIfInBounds i true) (updV val i v) w := by
  obtain ⟨a, b⟩ := h.upd hl hn hd hv
  refine ⟨a, b, ?_, ?_, ?_, ?_⟩
  · rw [getD_set (Ne.symm h7)]; exact h.s0
  · rw [getD_set (Ne.symm h7), getD_set (Ne.symm h8), updV_other _ _ (Ne.symm h7)]; exact h.s7
  · rw [getD_set (Ne.symm h8), getD_set (Ne.symm h10), updV_other _ _ (Ne.symm h8)]; exact h.s8
  · rw [getD_set (Ne.symm h10)]; exact h.s10
theorem FB.made (h : FB i1 i7 i8 i10 ps R W0 E7 E8 E10 l val w) {v : Value} (hl : i7 < l.size) (hn : l.getD i7 false = false) (hd : ∀ q ∈ ps, q.1 = i7 → l.getD q.2 false = true) (hv : ∀ p, R[i7]? = some p → p v) (h78 : i7 ≠ i8) (h710 : i7 ≠ i10) (p87 : (i8, i7) ∈ ps) (p108 : (i10, i8) ∈ ps)
    (hb : Below w.heap.size w w') (he : E7 v w') : FB i1 i7 i8 i10 ps R W0 E7 E8 E10 (l.setIfInBounds i7 true) (updV val i7 v) w' := by
  obtain ⟨a, b⟩ := h.upd hl hn hd hv
  have e8 : l.getD i8 false = false := by
    cases h8 : l.getD i8 false with
    | false => rfl
    | true => exact ntb hn (h.dp _ p87 h8)
  have e10 : l.getD i10 false = false := by
    cases h10 : l.getD i10 false with
    | false => rfl
    | true => exact ntb e8 (h.dp _ p108 h10)
  have h0 := h.s0 hn
  refine ⟨a, b, fun h => ?_, fun _ _ => ?_, fun h => ?_, fun h => ?_⟩
  · rw [getD_same hl] at h; cases h
  · rw [updV_same]; exact ⟨h0.trans (hb.mono h0.size), he⟩
  · rw [getD_set (Ne.symm h78)] at h; exact ntb e8 h
  · rw [getD_set (Ne.symm h710)] at h; exact ntb e10 h
theorem FB.appended (h : FB i1 i7 i8 i10 ps R W0 E7 E8 E10 l val w) {v : Value} (hl : i8 < l.size) (hn : l.getD i8 false = false) (hd : ∀ q ∈ ps, q.1 = i8 → l.getD q.2 false = true) (hv : ∀ p, R[i8]? = some p → p v) (h78 : i7 ≠ i8) (h810 : i8 ≠ i10) (p87 : (i8, i7) ∈ ps) (p108 : (i10, i8) ∈ ps)
    (he : E8 v w') : FB i1 i7 i8 i10 ps R W0 E7 E8 E10 (l.setIfInBounds i8 true) (updV val i8 v) w' := by
  obtain ⟨a, b⟩ := h.upd hl hn hd hv
  have e7 := hd _ p87 rfl
  have e10 : l.getD i10 false = false := by
    cases h10 : l.getD i10 false with
    | false => rfl
    | true => exact ntb hn (h.dp _ p108 h10)
  refine ⟨a, b, fun h => ?_, fun _ h => ?_, fun _ _ => ?_, fun h => ?_⟩
  · rw [getD_set h78] at h; exact ntb h e7
  · rw [getD_same hl] at h; cases h
  · rw [updV_same]; exact he
  · rw [getD_set (Ne.symm h810)] at h; exact ntb e10 h
theorem FB.stored (h : FB i1 i7 i8 i10 ps R W0 E7 E8 E10 l val w) {v : Value} (hl : i10 < l.size) (hn : l.getD i10 false = false) (hd : ∀ q ∈ ps, q.1 = i10 → l.getD q.2 false = true) (hv : ∀ p, R[i10]? = some p → p v) (h710 : i7 ≠ i10) (h810 : i8 ≠ i10) (p87 : (i8, i7) ∈ ps) (p108 : (i10, i8) ∈ ps)
    (he : E10 w') : FB i1 i7 i8 i10 ps R W0 E7 E8 E10 (l.setIfInBounds i10 true) (updV val i10 v) w' := by
  obtain ⟨a, b⟩ := h.upd hl hn hd hv
  have e8 := hd _ p108 rfl
  have e7 := h.dp _ p87 e8
  refine ⟨a, b, fun h => ?_, fun _ h => ?_, fun _ h => ?_, fun _ => he⟩
  · rw [getD_set h710] at h; exact ntb h e7
  · rw [getD_set h810] at h; exact ntb h e8
  · rw [getD_same hl] at h; cases h
end
end Go.Proofs.YthhepmddcncjoaaGreatDoor
namespace Go.Proofs.YthhepmddcncjoaaGreatDoor
open Go.RowKit

theorem own_shape {w : World} {base e size n : Nat} {v : Value} {xs : List Value} (h : w.ownsRow base e size v n xs) : ∃ o cap, v = .slice o n cap := by
  rcases h.2 with ⟨rfl, rfl⟩ | ⟨g, cap, _, rfl, _⟩
  · exact ⟨none, 0, rfl⟩
  · exact ⟨_, cap, rfl⟩
theorem own_base {w : World} {base base' e size n : Nat} {v : Value} {xs : List Value} (h : w.ownsRow base e size v n xs) (hb : base' ≤ base) : w.ownsRow base' e size v n xs := by
  refine ⟨h.1, ?_⟩
  rcases h.2 with h1 | ⟨g, cap, cur, h1, h2, h3⟩
  · exact .inl h1
  · exact .inr ⟨g, cap, cur, h1, Nat.le_trans hb h2, h3⟩
theorem row_obj {w : World} {base n z b : Nat} {e T : TypeId} {v : Value} {xs : List Value} {cs : Array Value} {fr : Nat × Nat} (h : w.ownsRow base e z v n xs) (hb : w.heap[b]? = some (.cells cs T fr)) (hT : T ≠ e) : v.ownBlock ≠ some b := by
  intro hv
  rcases h.2 with ⟨rfl, _⟩ | ⟨g, cap, cur, rfl, _, h3, _⟩
  · cases hv
  · cases hv
    rw [h3] at hb
    cases hb
    exact hT rfl
def RowM (n0 : Nat) (W : World) (r : Rw) (u : Value) : Prop := ∃ xs, W.ownsRow n0 51 3 u r.length xs ∧ Laid 3 VlC r xs
def HeadM (n0 : Nat) (W : World) (rows : List Rw) (v : Value) (us : List Value) : Prop :=
  W.ownsRow n0 39 1 v rows.length us ∧ ∀ (i : Nat) (r : Rw), rows[i]? = some r → ∃ u, us[i]? = some u ∧ RowM n0 W r u
/-- What may not turn: the blocks of values. -/
def ValK (W W' : World) : Prop := W.heap.size ≤ W'.heap.size ∧ ∀ (b : Nat) (cs : Array Value), W.heap[b]? = some (.cells cs 51 (0, 0)) → W'.heap[b]? = W.heap[b]?
theorem own_keepF {w w' : World} {base : Nat} {e : TypeId} {z : Nat} {v : Value} {n : Nat} {xs : List Value} (h : w.ownsRow base e z v n xs) (hb : ∀ (b : Nat) (cs : Array Value), v.ownBlock = some b → w.heap[b]? = some (.cells cs e (0, 0)) → w'.heap[b]? = w.heap[b]?) : w'.ownsRow base e z v n xs := by
  refine ⟨h.1, ?_⟩
  rcases h.2 with h1 | ⟨g, cap, cur, h1, h2, h3, h4⟩
  · exact .inl h1
  · exact .inr ⟨g, cap, cur, h1, h2, (hb g cur (by rw [h1]; rfl) h3).trans h3, h4⟩
theorem RowM.keep {n0 : Nat} {W W' : World} {r : Rw} {u : Value} (h : RowM n0 W r u) (hk : ValK W W') : RowM n0 W' r u := by
  obtain ⟨xs, h1, h2⟩ := h
  exact ⟨xs, own_keepF h1 fun b cs _ hb => hk.2 b cs hb, h2⟩
theorem HeadM.keep {n0 : Nat} {W W' : World} {rows : List Rw} {v : Value} {us : List Value} (h : HeadM n0 W rows v us) (hk : ValK W W') (hb : ∀ (b : Nat), v.ownBlock = some b → W'.heap[b]? = W.heap[b]?) : HeadM n0 W' rows v us :=
  ⟨own_keepF h.1 fun b _ e _ => hb b e, fun i r hr => by
    obtain ⟨u, h1, h2⟩ := h.2 i r hr
    exact ⟨u, h1, h2.keep hk⟩⟩
theorem own_typ {w : World} {base : Nat} {e : TypeId} {z : Nat} {v : Value} {n : Nat} {xs : List Value} (h : w.ownsRow base e z v n xs) {b : Nat} (hb : v.ownBlock = some b) : ∃ cs, w.heap[b]? = some (.cells cs e (0, 0)) := by
  rcases h.2 with ⟨rfl, _⟩ | ⟨g, cap, cur, rfl, _, h3, _⟩
  · cases hb
  · cases hb; exact ⟨cur, h3⟩
/-- The lists, and the row of their heads in block A. -/
structure AllM (n0 A : Nat) (W : World) (fs : List (List Rw)) (vs : List Value) : Prop where
  arr : W.heap[A]? = some (.cells vs.toArray 41 (0, 0))
  len : vs.length = fs.length
  hd : ∀ (k : Nat) (v : Value) (rows : List Rw), vs[k]? = some v → fs[k]? = some rows → ∃ us, HeadM n0 W rows v us
  ap : ∀ (j k : Nat) (v v' : Value) (b : Nat), j ≠ k → vs[j]? = some v → vs[k]? = some v' → v.ownBlock = some b → v'.ownBlock ≠ some b
theorem ValK.below {W W' : World} (hb : Below W.heap.size W W') : ValK W W' := ⟨hb.size, fun b _ h => hb.block b (Array.getElem?_eq_some_iff.1 h).1⟩
theorem AllM.at {n0 A : Nat} {W : World} {fs : List (List Rw)} {vs : List Value} (h : AllM n0 A W fs vs) {k : Nat} {v : Value} (hk : vs[k]? = some v) : ∃ rows us, fs[k]? = some rows ∧ HeadM n0 W rows v us := by
  have hlt := (List.getElem?_eq_some_iff.1 hk).1
  have hlt2 : k < fs.length := by rw [← h.len]; exact hlt
  have hf : fs[k]? = some fs[k] := List.getElem?_eq_getElem hlt2
  obtain ⟨us, hu⟩ := h.hd k v _ hk hf
  exact ⟨_, us, hf, hu⟩
theorem AllM.keep {n0 A : Nat} {W W' : World} {fs : List (List Rw)} {vs : List Value} (h : AllM n0 A W fs vs) (hk : ValK W W') (hh : ∀ (b : Nat) (cs : Array Value), W.heap[b]? = some (.cells cs 39 (0, 0)) → W'.heap[b]? = W.heap[b]?) (hA : W'.heap[A]? = W.heap[A]?) : AllM n0 A W' fs vs := by
  refine ⟨hA.trans h.arr, h.len, fun k v rows h1 h2 => ?_, h.ap⟩
  obtain ⟨us, hu⟩ := h.hd k v rows h1 h2
  exact ⟨us, hu.keep hk fun b hb => by
    obtain ⟨cs, hc⟩ := own_typ hu.1 hb
    exact hh b cs hc⟩
theorem AllM.below {n0 A : Nat} {W W' : World} {fs : List (List Rw)} {vs : List Value} (h : AllM n0 A W fs vs) (hb : Below W.heap.size W W') : AllM n0 A W' fs vs :=
  h.keep (.below hb) (fun b _ hc => hb.block b (Array.getElem?_eq_some_iff.1 hc).1) (hb.block A (Array.getElem?_eq_some_iff.1 h.arr).1)
theorem AllM.put {n0 A B : Nat} {W W' : World} {fs : List (List Rw)} {vs : List Value} (h : AllM n0 A W fs vs) (hp : Put B W W') : AllM n0 A W' fs vs := by
  have hs : W.heap.size ≤ W'.heap.size := by rw [put_sz hp]; exact Nat.le_refl _
  have key : ∀ (b : Nat) (cs : Array Value) (T : TypeId), W.heap[b]? = some (.cells cs T (0, 0)) → W'.heap[b]? = W.heap[b]? := fun b cs T hb => (put_block hp hb (.inl rfl)).trans hb.symm
  exact h.keep ⟨hs, fun b cs hb => key b cs _ hb⟩ (fun b cs hb => key b cs _ hb) (key A _ _ h.arr)
/-- A list of heads in which one waits to be stored. -/
structure AllS (n0 A k : Nat) (v' : Value) (W : World) (fs : List (List Rw)) (vs : List Value) : Prop where
  arr : W.heap[A]? = some (.cells vs.toArray 41 (0, 0))
  len : vs.length = fs.length
  hd : ∀ (j : Nat) (v : Value) (rows : List Rw), (vs.set k v')[j]? = some v → fs[j]? = some rows → ∃ us, HeadM n0 W rows v us
  ap : ∀ (i j : Nat) (v u : Value) (b : Nat), i ≠ j → (vs.set k v')[i]? = some v → (vs.set k v')[j]? = some u → v.ownBlock = some b → u.ownBlock ≠ some b
theorem AllM.append {n0 A k : Nat} {W W' : World} {fs : List (List Rw)} {vs us : List Value} {v v' u : Value} {rows : List Rw} {row : Rw} (h : AllM n0 A W fs vs) (hv : vs[k]? = some v) (hf : fs[k]? = some rows) (hu : HeadM n0 W rows v us) (hr : RowM n0 W row u)
    (ho : W'.ownsRow n0 39 1 v' (rows.length + 1) (us ++ [u])) (hg : W.grownBy W' v.ownBlock) (hn : v'.ownBlock = v.ownBlock ∨ v'.ownBlock = some W.heap.size) : AllS n0 A k v' W' (fs.set k (rows ++ [row])) vs := by
  have hkl := (List.getElem?_eq_some_iff.1 hv).1
  have hkf := (List.getElem?_eq_some_iff.1 hf).1
  have hk : ValK W W' := ⟨hg.size, fun b cs hb => hg.block b (Array.getElem?_eq_some_iff.1 hb).1 fun e => by
    obtain ⟨cs', hc⟩ := own_typ hu.1 e.symm
    rw [hb] at hc; revert hc; simp⟩
  refine ⟨(hg.block A (Array.getElem?_eq_some_iff.1 h.arr).1 fun e => by
    obtain ⟨cs', hc⟩ := own_typ hu.1 e.symm
    rw [h.arr] at hc; revert hc; simp).trans h.arr, by rw [h.len, List.length_set], ?_, ?_⟩
  · intro j x rs hj hfj
    by_cases e : j = k
    · subst e
      rw [List.getElem?_set_self hkl] at hj
      rw [List.getElem?_set_self hkf] at hfj
      cases hj; cases hfj
      refine ⟨us ++ [u], by rw [List.length_append]; exact ho, fun i r hi => ?_⟩
      have hul : us.length = rows.length := by rw [hu.1.1, Nat.mul_one]
      by_cases hi2 : i < rows.length
      · rw [List.getElem?_append_left hi2] at hi
        obtain ⟨y, h1, h2⟩ := hu.2 i r hi
        exact ⟨y, by rw [List.getElem?_append_left (by omega)]; exact h1, h2.keep hk⟩
      · rw [List.getElem?_append_right (by omega)] at hi
        have hi3 : i - rows.length = 0 := by
          have := (List.getElem?_eq_some_iff.1 hi).1
          simp at this; exact this
        rw [hi3] at hi
        cases hi
        exact ⟨u, by rw [List.getElem?_append_right (by omega), show i - us.length = 0 by omega]; rfl, hr.keep hk⟩
    · rw [List.getElem?_set_ne (Ne.symm e)] at hj hfj
      obtain ⟨ws, hw⟩ := h.hd j x rs hj hfj
      refine ⟨ws, hw.keep hk fun b hb => hg.block b (hw.1.lt b hb).2 fun e2 => ?_⟩
      exact h.ap j k x v b e hj hv hb e2.symm
  · intro i j x y b hij hi hj hb hc
    have old : ∀ {p : Nat} {z : Value} {c : Nat}, p ≠ k → (vs.set k v')[p]? = some z → z.ownBlock = some c → c < W.heap.size ∧ v.ownBlock ≠ some c := by
      intro p z c hp hz hzb
      rw [List.getElem?_set_ne (Ne.symm hp)] at hz
      obtain ⟨rs, ws, _, hw⟩ := h.at hz
      exact ⟨(hw.1.lt c hzb).2, h.ap p k z v c hp hz hv hzb⟩
    by_cases ei : i = k
    · subst ei
      rw [List.getElem?_set_self hkl] at hi
      cases hi
      have := old (Ne.symm hij) hj hc
      rcases hn with e | e
      · rw [e] at hb; exact this.2 hb
      · rw [e] at hb; cases hb; omega
    · by_cases ej : j = k
      · subst ej
        rw [List.getElem?_set_self hkl] at hj
        cases hj
        have := old hij hi hb
        rcases hn with e | e
        · rw [e] at hc; exact this.2 hc
        · rw [e] at hc; cases hc; omega
      · rw [List.getElem?_set_ne (Ne.symm ei)] at hi
        rw [List.getElem?_set_ne (Ne.symm ej)] at hj
        exact h.ap i j x y b hij hi hj hb hc
theorem AllS.store {n0 A k : Nat} {W : World} {fs : List (List Rw)} {vs : List Value} {v' : Value} (h : AllS n0 A k v' W fs vs) : AllM n0 A (W.setCell ⟨A, k, none⟩ v') fs (vs.set k v') := by
  have hoth : ∀ b, b ≠ A → (W.setCell ⟨A, k, none⟩ v').heap[b]? = W.heap[b]? := fun b hb => by simp [World.setCell, Array.getElem?_modify, Ne.symm hb]
  have hk : ValK W (W.setCell ⟨A, k, none⟩ v') := ⟨by simp [World.setCell], fun b cs hb => hoth b fun e => by
    rw [e, h.arr] at hb; revert hb; simp⟩
  refine ⟨?_, by rw [List.length_set]; exact h.len, fun j x rs hj hf => ?_, h.ap⟩
  · have := rowSet h.arr k v'
    rw [this]
    simp
  · obtain ⟨us, hu⟩ := h.hd j x rs hj hf
    refine ⟨us, hu.keep hk fun b hb => hoth b fun e => ?_⟩
    obtain ⟨cs, hc⟩ := own_typ hu.1 hb
    rw [e, h.arr] at hc; revert hc; simp
/-- As they are handed back. -/
def RwsC (w : World) (B : Nat) (l : List Rw) (cs : List Value) : Prop := ∃ v, cs = [v] ∧ RwsS w B l v
theorem RowM.sl {n0 : Nat} {W : World} {r : Rw} {u : Value} (h : RowM n0 W r u) : SlOf W W.heap.size 3 VlC r u := by
  obtain ⟨xs, h1, h2⟩ := h
  exact sl_own0 h1 h2
theorem HeadM.sl {n0 : Nat} {W : World} {rows : List Rw} {v : Value} {us : List Value} (h : HeadM n0 W rows v us) : RwsS W W.heap.size rows v :=
  sl_own0 h.1 ⟨h.1.1, fun i r hr => by
    obtain ⟨u, h1, h2⟩ := h.2 i r hr
    refine ⟨[u], rfl, ⟨u, rfl, h2.sl⟩, fun j c hj => ?_⟩
    have hj0 : j = 0 := by have := (List.getElem?_eq_some_iff.1 hj).1; simp at this; omega
    subst hj0
    simp only [List.getElem?_cons_zero, Option.some.injEq] at hj
    subst hj
    rw [Nat.mul_one, Nat.add_zero]
    exact h1⟩
end Go.Proofs.YthhepmddcncjoaaGreatDoor
