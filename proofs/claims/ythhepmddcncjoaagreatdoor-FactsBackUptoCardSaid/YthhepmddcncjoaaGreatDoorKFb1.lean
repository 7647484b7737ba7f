/- What is told is read back as it was: the math. both and apart of the laws of layer 10. soriteslaw10.FactsBack. -/
import Derived.Test.YthhepmddcncjoaaGreatDoorKFw
import Derived.Test.YthhepmddcncjoaaGreatDoorKFq
import Derived.BigQuiet
import Derived.Test.YthhepmddcncjoaaGreatDoorKFlt
set_option linter.unusedSimpArgs false
set_option linter.unusedVariables false
namespace Go.Proofs.YthhepmddcncjoaaGreatDoor
open Go.RowKit

theorem okFrom_no : ∀ (i : Nat) (l : List UInt8), okFrom i l = true → ∀ c ∈ l, c ≠ 9 ∧ c ≠ 10
  | _, [], _, c, hc => by cases hc
  | i, x :: l, h, c, hc => by
    unfold okFrom at h
    rw [Bool.and_eq_true] at h
    rcases List.mem_cons.1 hc with rfl | hc
    · have h1 := h.1
      refine ⟨fun e => ?_, fun e => ?_⟩
      all_goals
        rw [e] at h1
        unfold okAt letB digB at h1
        simp at h1
    · exact okFrom_no (i + 1) l h.2 c hc
theorem name_no {l : List UInt8} (h : nameB l = true) : ∀ c ∈ l, c ≠ 9 ∧ c ≠ 10 := by
  unfold nameB at h
  rw [Bool.and_eq_true] at h
  exact okFrom_no 0 l h.2
def lineN (d : De) (r : Rw) : List UInt8 := d.rel.data.toList ++ rowT r
def linesN (L : List (De × List Rw)) : List (List UInt8) := L.flatMap fun x => x.2.map (lineN x.1)
def accN : Nat → List (De × List Rw) → List (Nat × Rw)
  | _, [] => []
  | i, x :: L => (x.2.map fun r => (i, r)) ++ accN (i + 1) L
theorem tell_lines : ∀ (L : List (De × List Rw)), (∀ x ∈ L, x.1.out = true) → L.flatMap tellG = (linesN L).flatMap fun l => l ++ [10]
  | [], _ => rfl
  | x :: L, h => by
    have ih := tell_lines L fun y hy => h y (List.mem_cons_of_mem _ hy)
    have h0 := h x (List.mem_cons_self ..)
    unfold linesN at *
    rw [List.flatMap_cons, List.flatMap_cons, List.flatMap_append, ih]
    congr 1
    unfold tellG rowsT
    rw [if_pos h0, List.flatMap_map]
    congr 1
    funext r
    unfold lineT lineN
    rw [List.append_assoc]
theorem lines_acc {ds : List De} (hap : ∀ (i j : Nat) (x y : De), ds[i]? = some x → ds[j]? = some y → x.rel.data.toList = y.rel.data.toList → i = j) (hin : ∀ d ∈ ds, d.inn = true) (hno : ∀ d ∈ ds, ∀ c ∈ d.rel.data.toList, c ≠ 9) :
    ∀ (L : List (De × List Rw)) (i n : Nat), (∀ (j : Nat) (x : De × List Rw), L[j]? = some x → ds[i + j]? = some x.1 ∧ ∀ r ∈ x.2, fitR x.1.types r = true ∧ ∀ y ∈ r, I64 y.n) → linesQ ds (linesN L) n = .inr (accN i L)
  | [], _, _, _ => rfl
  | x :: L, i, n, h => by
    obtain ⟨h1, h2⟩ := h 0 x rfl
    rw [Nat.add_zero] at h1
    have hm := List.mem_of_getElem? h1
    have e1 := lines_of h1 (findY_apart h1 hap) (hin _ hm) (hno _ hm) x.2 n h2
    have e2 := lines_acc hap hin hno L (i + 1) (n + (x.2.map (lineN x.1)).length) fun j y hj => by
      have := h (j + 1) y (by simpa using hj)
      rw [show i + (j + 1) = i + 1 + j by omega] at this
      exact this
    unfold linesN at *
    rw [List.flatMap_cons, linesQ_app, show linesQ ds (x.2.map (lineN x.1)) n = _ from e1]
    simp only []
    rw [e2]
    rfl
theorem placed_accN (k : Nat) : ∀ (L : List (De × List Rw)) (i : Nat), placedQ (accN i L) k = if i ≤ k then ((L[k - i]?).map (·.2)).getD [] else []
  | [], i => by simp [accN, placedQ]
  | x :: L, i => by
    have ih := placed_accN k L (i + 1)
    rw [accN, placed_app, ih]
    by_cases e : i = k
    · subst e
      rw [if_neg (by omega), if_pos (Nat.le_refl _), Nat.sub_self, List.append_nil]
      simp [placedQ, List.filter_map, Function.comp_def]
    · have hz : placedQ (x.2.map fun r => (i, r)) k = [] := by
        unfold placedQ
        rw [List.map_eq_nil_iff, List.filter_eq_nil_iff]
        intro y hy
        obtain ⟨r, _, rfl⟩ := List.mem_map.1 hy
        simpa using e
      rw [hz, List.nil_append]
      by_cases h : i ≤ k
      · rw [if_pos (by omega), if_pos h, show k - i = (k - (i + 1)) + 1 by omega, List.getElem?_cons_succ]
      · rw [if_neg (by omega), if_neg h]
def apartD (ds : List De) : Prop := ∀ (i j : Nat) (x y : De), ds[i]? = some x → ds[j]? = some y → x.rel.data.toList = y.rel.data.toList → i = j
/-- What is told is read as it was. -/
theorem back_told {ds : List De} {all : List (List Rw)} (hd : ∀ d ∈ ds, rightD d = true) (hio : ∀ d ∈ ds, d.inn = true ∧ d.out = true) (hap : apartD ds) (hf : fitA ds all = true) (hI : ∀ rs ∈ all, ∀ r ∈ rs, ∀ x ∈ r, I64 x.n) :
    ∃ acc, streamQ ds (cutB 10 (tellT ds all)) = .inr acc ∧ sortedQ ds.length acc = all := by
  have hlen := fitA_len hf
  have hz : ∀ (j : Nat) (x : De × List Rw), (ds.zip all)[j]? = some x → ds[0 + j]? = some x.1 ∧ ∀ r ∈ x.2, fitR x.1.types r = true ∧ ∀ y ∈ r, I64 y.n := by
    intro j x hj
    have hj' : (ds.zip all)[j]? = some (x.1, x.2) := hj
    rw [List.getElem?_zip_eq_some] at hj'
    rw [Nat.zero_add]
    refine ⟨hj'.1, fun r hr => ⟨(fitA_at hf hj'.1 hj'.2).2 r hr, fun y hy => hI _ (List.mem_of_getElem? hj'.2) r hr y hy⟩⟩
  have hacc := lines_acc hap (fun d h => (hio d h).1) (fun d h c hc => (name_no (right_De (hd d h)).1 c hc).1) (ds.zip all) 0 0 hz
  have hout : ∀ x ∈ ds.zip all, x.1.out = true := fun x hx => (hio _ (List.of_mem_zip (a := x.1) (b := x.2) hx).1).2
  have hno : ∀ l ∈ linesN (ds.zip all), ∀ c ∈ l, c ≠ 10 := by
    intro l hl
    unfold linesN at hl
    obtain ⟨x, hx, hl⟩ := List.mem_flatMap.1 hl
    obtain ⟨r, _, rfl⟩ := List.mem_map.1 hl
    intro c hc
    unfold lineN at hc
    rcases List.mem_append.1 hc with hc | hc
    · exact (name_no (right_De (hd _ (List.of_mem_zip (a := x.1) (b := x.2) hx).1)).1 c hc).2
    · exact rowT_no _ c hc
  refine ⟨accN 0 (ds.zip all), ?_, ?_⟩
  · unfold tellT streamQ
    rw [tell_lines _ hout, cut_lines _ hno, List.dropLast_concat, hacc, List.getLast?_concat]
    rfl
  · apply List.ext_getElem?
    intro k
    unfold sortedQ
    rw [List.getElem?_map]
    by_cases hk : k < ds.length
    · obtain ⟨rs, hrs⟩ : ∃ rs, all[k]? = some rs := ⟨all[k]'(by omega), List.getElem?_eq_getElem _⟩
      have hdk : ds[k]? = some ds[k] := List.getElem?_eq_getElem hk
      have hzk : (ds.zip all)[k]? = some (ds[k], rs) := by rw [List.getElem?_zip_eq_some]; exact ⟨hdk, hrs⟩
      obtain ⟨h1, h2⟩ := fitA_at hf hdk hrs
      rw [List.getElem?_range hk, hrs, Option.map_some, placed_accN, if_pos (Nat.zero_le _), Nat.sub_zero, hzk]
      simp only [Option.map_some, Option.getD_some]
      rw [sort_same rwC_tot (P := fun r => cleanR r = true) (fun x y hx hy h => rwC_zero x y hx hy h) (fun r hr => fitR_clean (h2 r hr)) h1]
    · rw [List.getElem?_eq_none (by rw [List.length_range]; omega), List.getElem?_eq_none (by omega)]
      rfl
end Go.Proofs.YthhepmddcncjoaaGreatDoor
namespace Go.Proofs.YthhepmddcncjoaaGreatDoor
open Go.RowKit

def bothD (d : De) : De := { d with inn := true, out := true }
def bothP (p : Pg) : Pg := ⟨p.decls.map bothD, []⟩
theorem DeC.both {w : World} {B : Nat} {d : De} {c0 c1 c2 c3 c4 c5 : Value} (h : DeC w B d [c0, c1, c2, c3, c4, c5]) : DeC w B (bothD d) [c0, c1, c2, .bool true, .bool true, c5] := by
  obtain ⟨v, u, e, h1, h2, h3, h4⟩ := h
  simp only [List.cons.injEq, and_true] at e
  obtain ⟨rfl, rfl, rfl, rfl, rfl, rfl⟩ := e
  exact ⟨_, _, rfl, h1, h2, h3, h4⟩
theorem take_mapF {α β : Type} {f : α → β} {l : List α} {k : Nat} {x : α} (h : l[k]? = some x) : (l.take (k + 1)).map f = (l.take k).map f ++ [f x] := by
  rw [List.take_add_one, h]
  simp
theorem infoDeF : (Tryz.prog.info? 38).map (fun i => (i.zero, i.size, i.bytes)) = some (some (.agg #[.string ⟨#[]⟩, .slice none 0 0, .slice none 0 0, .bool false, .bool false, .int .i64 0]), 6, 80) := by kernel_rfl
theorem one_six (c0 c1 c2 c3 c4 c5 : Value) (h : (c0.oneCell' && c1.oneCell' && c2.oneCell' && c3.oneCell' && c4.oneCell' && c5.oneCell') = true) : ∀ u ∈ [c0, c1, c2, c3, c4, c5], u.oneCell' = true := by
  simp only [Bool.and_eq_true] at h
  intro u hu
  simp only [List.mem_cons, List.not_mem_nil, or_false] at hu
  rcases hu with rfl | rfl | rfl | rfl | rfl | rfl
  · exact h.1.1.1.1.1
  · exact h.1.1.1.1.2
  · exact h.1.1.1.2
  · exact h.1.1.2
  · exact h.1.2
  · exact h.2
theorem grown_viaF {a b c : World} {row : Option Nat} (h : Below a.heap.size a b) (k : b.grownBy c row) : a.grownBy c row :=
  ⟨k.os.trans h.os, k.tape.trans h.tape, k.output.trans h.output, Nat.le_trans h.size k.size, fun i hi hne => (k.block i (Nat.lt_of_lt_of_le hi h.size) hne).trans (h.block i hi)⟩
set_option linter.unusedSimpArgs false in
set_option maxRecDepth 100000 in
set_option maxHeartbeats 8000000 in
theorem both_c (p : Pg) (w : World) (cs : List Value) (hp : PgC w w.heap.size p cs) (hl : p.decls.length ≤ 100) :
    Calls Tryz.prog 22 #[.agg cs.toArray] w fun e w' => ∃ ds, e = .returned (.agg ds) ∧ PgC w' w'.heap.size (bothP p) ds.toList ∧ Below w.heap.size w w' := by
  obtain ⟨p1, q1, r1, s1, rfl, H1, _⟩ := hp.look
  obtain ⟨o2, cap2, e2, hc2, hm2, SL⟩ := SlOf.open H1
  cases e2
  have HL := Lib.hid hl
  clear hp H1 hl
  go_enter Tryz.func22, Tryz.ntmps22
  go_wp2
  obtain ⟨W0, hW0⟩ : ∃ W0, ((w.alloc (.cells #[.slice p1 p.decls.length q1, .slice r1 p.rules.length s1] 25)).alloc (.cells #[.slice none 0 0, .slice none 0 0] 25)).alloc (.cells #[.slice none 0 0, .slice none 0 0] 25) = W0 := ⟨_, rfl⟩
  obtain ⟨Q, hQ⟩ : ∃ Q, w.heap.size + 1 + 1 = Q := ⟨_, rfl⟩
  obtain ⟨P, hP⟩ : ∃ P, w.heap.size + 1 = P := ⟨_, rfl⟩
  have hs0 : W0.heap.size = Q + 1 := by rw [← hW0]; simp; omega
  have Hs0 := Lib.hid hs0
  have B0 : Hid (Below w.heap.size w W0) := Lib.hid (by rw [← hW0]; exact (((Below.refl _ w).alloc (Nat.le_refl _) _).alloc (by simp) _).alloc (by simp; omega) _)
  have Y0 : Hid (W0.heap[Q]? = some (.cells #[.slice none 0 0, .slice none 0 0] 25 (0, 0))) := Lib.hid (by rw [← hW0]; exact newRow (by simp; omega))
  have P0 : Hid (W0.heap[P]? = some (.cells #[.slice none 0 0, .slice none 0 0] 25 (0, 0))) := Lib.hid (by rw [← hW0]; exact row_more (newRow (by simp; omega)) _)
  have Z0 : Hid (W0.heap[w.heap.size]? = some (.cells #[.slice p1 p.decls.length q1, .slice r1 p.rules.length s1] 25 (0, 0))) := Lib.hid (by rw [← hW0]; exact row_more (row_more (newRow rfl) _) _)
  rw [hW0]
  rw [hQ]
  rw [hP]
  have hPQ : P + 1 = Q := by omega
  have hPw : w.heap.size + 1 = P := hP
  have HPQ := Lib.hid (And.intro hPQ hPw)
  clear hW0 hQ hP hs0 hPQ hPw
  go_loopw [4] (fun i wx => ∃ (k : Nat) (v : Value), k ≤ p.decls.length ∧ i = .int .i64 (k : Int) ∧ Owned wx (Q + 1) 38 6 (DeC w w.heap.size) v ((p.decls.take k).map bothD) ∧ W0.grownBy wx (some Q) ∧ wx.heap[Q]? = some (.cells #[v, .slice none 0 0] 25 (0, 0))) (fun i _ => p.decls.length - (intOf i).toNat)
  case atStart => exact ⟨0, .slice none 0 0, Nat.zero_le _, rfl, Owned.nil _ _ _ _ _, grown_refl _ _, Y0.out⟩
  case round =>
    obtain ⟨k, v, hk, rfl, ho, hg, hq⟩ := hrel
    have hPQ := HPQ.out.1
    have hPw := HPQ.out.2
    have hs0 := Hs0.out
    have hB : Below w.heap.size w wr := B0.out.grown hg (by omega) (fun j e => by cases e; omega)
    have hsz := hg.size
    have hzq : Q < wr.heap.size := by omega
    have hzp : P < wr.heap.size := by omega
    have hz0 : w.heap.size < wr.heap.size := by omega
    have hrowZ := (hg.block w.heap.size (by omega) (by intro e; have := Option.some.inj e; omega)).trans Z0.out
    have hrowP := (hg.block P (by omega) (by intro e; have := Option.some.inj e; omega)).trans P0.out
    have x0 : wr.cell? ⟨w.heap.size, 0, none⟩ = some (.slice p1 p.decls.length q1) := row_cells hrowZ 0
    have y0 : wr.cell? ⟨Q, 0, none⟩ = some v := (row_cell hq 0).1
    have yf : wr.frozen? ⟨Q, 0, none⟩ = false := (row_cell hq 0).2
    have HP' := Lib.hid hrowP
    clear hrowZ hrowP hs0 hPQ hPw
    by_cases hlt : k < p.decls.length
    · have hlt' : (k : Int) < (p.decls.length : Int) := by omega
      have hk0 : (0 : Int) ≤ (k : Int) := by omega
      obtain ⟨xe, ht⟩ : ∃ xe, p.decls[k]? = some xe := ⟨p.decls[k], List.getElem?_eq_getElem hlt⟩
      obtain ⟨b, cs, rfl, ha, _, h1, h2⟩ := SL.out k xe ht
      obtain ⟨o0, k0, o1, k1, rfl, _⟩ := h1.look
      obtain ⟨c0, c1, c2, c3, c4, c5⟩ := (h2.below ha hB).n6
      have HR := Lib.hid h1.both
      have hal : (b.add (k * 6)).block < wr.heap.size := by rw [addBlock]; omega
      obtain ⟨css, hcl, hce, hown⟩ := ho
      have hlen : ((p.decls.take k).map bothD).length = k := by rw [List.length_map, List.length_take]; omega
      have HLEN := Lib.hid hlen
      rw [hlen] at hown
      have HCE := Lib.hid (And.intro hcl hce)
      have HVL := Lib.hid hown.lt
      have HT := Lib.hid (take_mapF (f := bothD) ht)
      have HG := Lib.hid hg
      have HQ := Lib.hid hq
      have HOWN := Lib.hid hown
      obtain ⟨ov, cv, rfl⟩ := own_shape hown
      have HSM : Hid (k + 1 ≤ maxLen) := Lib.hid (by unfold maxLen; have := HL.out; omega)
      have HSB : Hid ((k + 1) * 80 ≤ 140737488355328) := Lib.hid (by have := HL.out; omega)
      clear hcl hce hlen ht hg hq hown h1 h2
      have HBW : Hid (∀ (Z o : Obj), Below wr.heap.size wr ((wr.alloc Z).alloc o)) := Lib.hid (fun Z o => ((Below.refl wr.heap.size wr).alloc (Nat.le_refl _) Z).alloc (by simp) o)
      obtain ⟨i0, hi, hz0', hz1', hz2'⟩ := info_parts infoDeF
      go_wp2_with (at_builtin; refine wpList_append_own _ rfl (.tmp 21) (.tmp 23) 22 rfl (Q + 1) 38 i0 _ 6 80 Tryz.underlying22 hi hz0' hz1' hz2' rfl (by decide) (.slice ov k cv) k _ rfl (own_past HOWN.out (HBW.out _ _)) _ 1 1 [.string xe.rel, .slice o0 xe.names.length k0, .slice o1 xe.types.length k1, .bool true, .bool true, .int .i64 xe.line] rfl rfl (news_new _ _ _ _ (by simp)) (one_six _ _ _ _ _ _ rfl) HSM.out HSB.out (by simp; omega) ?_; intro v' w3 hown' hgrow _; obtain ⟨g', cap', rfl, hgb⟩ := own_form hown' (Nat.succ_pos k); have HG3 := Lib.hid (grown_viaF (HBW.out _ _) hgrow); have hq3 : w3.heap[Q]? = some (.cells #[.slice ov k cv, .slice none 0 0] 25 (0, 0)) := (HG3.out.block Q hzq (fun e => by have := (HVL.out Q e.symm).1; omega)).trans HQ.out; have HQ3 := Lib.hid hq3; have HOWN3 := Lib.hid hown'; have y3 := (row_cell hq3 0).1; have yf3 := (row_cell hq3 0).2; have hz3 : Q < w3.heap.size := Nat.lt_of_lt_of_le hzq HG3.out.size; clear hgrow hown' hq3)
      go_roundw
      case rel =>
        refine ⟨k + 1, .slice (some ⟨g', 0, none⟩) (k + 1) cap', hlt, by go_num, ?_, ?_, ?_⟩
        · rw [HT.out]
          refine (Owned.snoc HCE.out.1 HCE.out.2 rfl HR.out (by rw [HLEN.out]; exact HOWN3.out)).kept (grown_set w3 Q 0 _) (fun j e h => ?_)
          cases e
          have h2 : g' = Q := Option.some.inj h
          omega
        · exact grown_then (grown_then HG.out HG3.out (fun j e => .inl (by have := (HVL.out j e).1; have := Hs0.out; omega))) (grown_set w3 Q 0 _) (fun j e => .inr e)
        · exact set_heap HQ3.out _
      case measure => simp [intOf]; omega
    · have hlt' : ¬ (k : Int) < (p.decls.length : Int) := by omega
      rw [List.take_of_length_le (by omega)] at ho
      obtain ⟨ov, cv, rfl⟩ : ∃ o c, v = .slice o (p.decls.map bothD).length c := by
        obtain ⟨_, _, _, hown⟩ := ho
        exact own_shape hown
      have y1 : wr.cell? ⟨Q, 1, none⟩ = some (.slice none 0 0) := (row_cell hq 1).1
      have u0 : wr.cell? ⟨P, 0, none⟩ = some (.slice none 0 0) := (row_cell HP'.out 0).1
      have u1 : wr.cell? ⟨P, 1, none⟩ = some (.slice none 0 0) := (row_cell HP'.out 1).1
      have uf0 : wr.frozen? ⟨P, 0, none⟩ = false := (row_cell HP'.out 0).2
      have uf1 : wr.frozen? ⟨P, 1, none⟩ = false := (row_cell HP'.out 1).2
      have HO := Lib.hid ho
      have HBf := Lib.hid hB
      clear ho hB hg
      go_wp2
      obtain ⟨W3, hW3⟩ : ∃ W3, (wr.setCell ⟨P, 0, none⟩ (.slice ov p.decls.length cv)).setCell ⟨P, 1, none⟩ (.slice none 0 0) = W3 := ⟨_, rfl⟩
      have hPw := HPQ.out
      have hr3 : W3.heap[P]? = some (.cells #[.slice ov p.decls.length cv, .slice none 0 0] 25 (0, 0)) := by
        rw [← hW3]
        exact set_heap (set_heap HP'.out _) _
      have hb3 : Below w.heap.size w W3 := by rw [← hW3]; exact (HBf.out.setCell (p := ⟨P, 0, none⟩) (by show w.heap.size ≤ P; omega) _).setCell (p := ⟨P, 1, none⟩) (by show w.heap.size ≤ P; omega) _
      have ho3 : Owned W3 (Q + 1) 38 6 (DeC w w.heap.size) (.slice ov (p.decls.map bothD).length cv) (p.decls.map bothD) := by
        have hk1 := HO.out.kept (grown_set wr P 0 (.slice ov p.decls.length cv)) (fun j e h => by
          cases e
          have := (HO.out.lt P h).1
          omega)
        have hk2 := hk1.kept (grown_set _ P 1 (.slice none 0 0)) (fun j e h => by
          cases e
          have := (hk1.lt P h).1
          omega)
        rw [hW3] at hk2
        exact hk2
      have hsl := ho3.slOf (R' := DeC W3 W3.heap.size) (fun x cs h => (h.below hb3).more hb3.size)
      have x0 : W3.cell? ⟨P, 0, none⟩ = some (.slice ov p.decls.length cv) := row_cells hr3 0
      have x1 : W3.cell? ⟨P, 1, none⟩ = some (.slice none 0 0) := row_cells hr3 1
      rw [List.length_map] at hsl
      rw [hW3]
      refine bodyPost_ret (v := .agg #[.slice ov p.decls.length cv, .slice none 0 0]) (by simp [results, Tryz.results22, go_sem, x0, x1]) rfl ?_
      exact ⟨_, rfl, ⟨_, _, rfl, hsl, .inl ⟨rfl, rfl⟩⟩, hb3⟩
def pairD (ds : List De) (n : Nat) : Prop := ∀ a, a < n → ∀ b, b < a → ∀ x y, ds[a]? = some x → ds[b]? = some y → x.rel.toList ≠ y.rel.toList
def restD (ds : List De) (r : ByteArray) (n : Nat) : Prop := ∀ b, b < n → ∀ y, ds[b]? = some y → r.toList ≠ y.rel.toList
theorem pairD_apart {ds : List De} (h : pairD ds ds.length) : apartD ds := by
  intro i j x y hi hj he
  rw [← Lib.toList_data, ← Lib.toList_data] at he
  have h1 := (List.getElem?_eq_some_iff.1 hi).1
  have h2 := (List.getElem?_eq_some_iff.1 hj).1
  rcases Nat.lt_trichotomy i j with h3 | h3 | h3
  · exact absurd he.symm (h j h2 i h3 y x hj hi)
  · exact h3
  · exact absurd he (h i h1 j h3 x y hi hj)
theorem pairD_step {ds : List De} {i : Nat} {x : De} (h : pairD ds i) (hx : ds[i]? = some x) (hr : restD ds x.rel i) : pairD ds (i + 1) := by
  intro a ha b hb u y hu hy
  by_cases e : a = i
  · subst e
    rw [hx] at hu
    cases hu
    exact hr b hb y hy
  · exact h a (by omega) b hb u y hu hy
theorem restD_step {ds : List De} {r : ByteArray} {k : Nat} {y : De} (h : restD ds r k) (hy : ds[k]? = some y) (hr : r.toList ≠ y.rel.toList) : restD ds r (k + 1) := by
  intro b hb z hz
  by_cases e : b = k
  · subst e
    rw [hy] at hz
    cases hz
    exact hr
  · exact h b (by omega) z hz
def ApartR (ds : List De) (n0 : Nat) (w : World) (e : Ending) (w' : World) : Prop := ∃ b, e = .returned (.bool b) ∧ (b = true → apartD ds) ∧ Below n0 w w'
set_option maxRecDepth 100000 in
set_option maxHeartbeats 8000000 in
theorem apart_c (p : Pg) (w : World) (cs : List Value) (hp : PgC w w.heap.size p cs) :
    Calls Tryz.prog 21 #[.agg cs.toArray] w (ApartR p.decls w.heap.size w) := by
  obtain ⟨p1, q1, r1, s1, rfl, H1, _⟩ := hp.look
  obtain ⟨o2, cap2, e2, hc2, hm2, SL⟩ := SlOf.open H1
  cases e2
  have HB0 := Lib.hid (alB w (.cells #[.slice p1 p.decls.length q1, .slice r1 p.rules.length s1] 25))
  have HR0 := Lib.hid (rowNew w 25 [.slice p1 p.decls.length q1, .slice r1 p.rules.length s1])
  clear hp H1
  go_enter Tryz.func21, Tryz.ntmps21
  go_wp2
  go_loopw [3] (fun i wr => ∃ k : Nat, k ≤ p.decls.length ∧ i = .int .i64 (k : Int) ∧ Hid (pairD p.decls k) ∧ Hid (wr.heap[w.heap.size]? = some (.cells #[.slice p1 p.decls.length q1, .slice r1 p.rules.length s1] 25 (0, 0))) ∧ Hid (Below w.heap.size w wr)) (fun i _ => p.decls.length - (intOf i).toNat)
  case atStart => exact ⟨0, Nat.zero_le _, rfl, Lib.hid (fun a ha => absurd ha (by omega)), HR0, HB0⟩
  case round =>
    obtain ⟨k, hk, rfl, HP, HR, HB⟩ := hrel
    have x0 : wr.cell? ⟨w.heap.size, 0, none⟩ = some (.slice p1 p.decls.length q1) := row_cells HR.out 0
    have hz := heap_lt HR.out
    by_cases hlt : k < p.decls.length
    · have hlt' : (k : Int) < (p.decls.length : Int) := by omega
      obtain ⟨x, hx⟩ : ∃ x, p.decls[k]? = some x := ⟨p.decls[k], List.getElem?_eq_getElem hlt⟩
      have HX := Lib.hid hx
      have Hk := Lib.hid hlt
      clear hx
      go_wp2
      clear x0 hz
      go_loopw [4] (fun i wq => ∃ c : Nat, c ≤ k ∧ i = .int .i64 (c : Int) ∧ Hid (restD p.decls x.rel c) ∧ Hid (wq.heap[w.heap.size]? = some (.cells #[.slice p1 p.decls.length q1, .slice r1 p.rules.length s1] 25 (0, 0))) ∧ Hid (Below w.heap.size w wq)) (fun i _ => k - (intOf i).toNat)
      case atStart => exact ⟨0, Nat.zero_le _, rfl, Lib.hid (fun b hb => absurd hb (by omega)), HR, HB⟩
      case round =>
        obtain ⟨c, hc, rfl, HRd, HR1, HB1⟩ := hrel
        have x0 : wr.cell? ⟨w.heap.size, 0, none⟩ = some (.slice p1 p.decls.length q1) := row_cells HR1.out 0
        have hz := heap_lt HR1.out
        have hBs := HB1.out.size
        by_cases hcl : c < k
        · have hcl' : (c : Int) < (k : Int) := by omega
          have hkl2 : (k : Int) < (p.decls.length : Int) := by have := Hk.out; omega
          have hcl2 : (c : Int) < (p.decls.length : Int) := by have := Hk.out; omega
          have hk0 : (0 : Int) ≤ (k : Int) := by omega
          have hc0 : (0 : Int) ≤ (c : Int) := by omega
          obtain ⟨y, hy⟩ : ∃ y, p.decls[c]? = some y := ⟨p.decls[c]'(by have := Hk.out; omega), List.getElem?_eq_getElem _⟩
          obtain ⟨a1, _, _, _, _, rfl, ha1, _, e1, _⟩ := de_at SL HB1.out HX.out
          obtain ⟨a2, _, _, _, _, e2, ha2, _, e3, _⟩ := de_at SL HB1.out hy
          cases e2
          have hal1 : (a1.add (k * 6)).block < wr.heap.size := by rw [addBlock]; omega
          have hal2 : (a1.add (c * 6)).block < wr.heap.size := by rw [addBlock]; omega
          have HBd : Hid (∀ n, Below w.heap.size w (wr.drewN n) ∧ (wr.drewN n).heap[w.heap.size]? = some (.cells #[.slice (some a1) p.decls.length q1, .slice r1 p.rules.length s1] 25 (0, 0))) := Lib.hid fun n => ⟨below_drewN HB1.out n, by
            have := (below_drewN (Below.refl wr.heap.size wr) n).block _ (heap_lt HR1.out)
            exact this.trans HR1.out⟩
          cases he : (x.rel.toList == y.rel.toList) with
          | true =>
            clear hy
            go_wp2_with fail
            go_quiet (fail)
            go_wp2
            go_ret
            exact ⟨_, rfl, (fun h => by cases h), (HBd.out _).1⟩
          | false =>
            have HRn := Lib.hid (restD_step HRd.out hy (by simpa using he))
            clear hy
            go_wp2_with fail
            go_quiet (fail)
            go_wp2
            go_roundw
            case rel => exact ⟨c + 1, by omega, by go_num, HRn, Lib.hid (HBd.out _).2, Lib.hid (HBd.out _).1⟩
            case measure => simp [intOf]; omega
        · have hcl' : ¬ (c : Int) < (k : Int) := by omega
          obtain rfl : c = k := by omega
          have HPn := Lib.hid (pairD_step HP.out HX.out HRd.out)
          go_wp2
          go_roundw
          case rel => exact ⟨c + 1, by have := Hk.out; omega, by go_num, HPn, HR1, HB1⟩
          case measure => simp [intOf]; have := Hk.out; omega
    · have hlt' : ¬ (k : Int) < (p.decls.length : Int) := by omega
      obtain rfl : k = p.decls.length := by omega
      go_wp2
      go_ret
      exact ⟨_, rfl, fun _ => pairD_apart HP.out, HB.out⟩
end Go.Proofs.YthhepmddcncjoaaGreatDoor
namespace Go.Proofs.YthhepmddcncjoaaGreatDoor
open Go.RowKit

theorem ReadR.okF {n0 N : Nat} {w W : World} {acc : List (Nat × Rw)} {e : Ending} (h : ReadR n0 N w true (.inr acc) e W) : ∃ v, e = .returned (.tuple #[v, .int .i64 0, .int .i64 0]) ∧ Below n0 w W ∧ SlOf W W.heap.size 1 (RwsC W W.heap.size) (sortedQ N acc) v := by
  cases h with
  | tree h1 h2 => cases h1
  | bad h1 h2 h3 => cases h2
  | good h1 h2 h3 h4 => cases h2; exact ⟨_, rfl, h3, h4⟩
theorem small_len {p : Pg} (h : smallP p = true) : p.decls.length ≤ 100 := by
  unfold smallP at h
  simp only [Bool.and_eq_true, decide_eq_true_eq] at h
  exact h.1.2
theorem apart_both {p : Pg} (h : apartD p.decls) : apartD (bothP p).decls := by
  intro i j x y hi hj he
  unfold bothP at hi hj
  rw [List.getElem?_map] at hi hj
  obtain ⟨x0, h1, rfl⟩ := Option.map_eq_some_iff.1 hi
  obtain ⟨y0, h2, rfl⟩ := Option.map_eq_some_iff.1 hj
  exact h i j x0 y0 h1 h2 he
theorem io_both (p : Pg) : ∀ d ∈ (bothP p).decls, d.inn = true ∧ d.out = true := by
  intro d hd
  obtain ⟨x, _, rfl⟩ := List.mem_map.1 hd
  exact ⟨rfl, rfl⟩
set_option maxRecDepth 100000 in
set_option maxHeartbeats 8000000 in
theorem factsBack_c (p : Pg) (v : Value) (all : List (List Rw)) (a b : Addr) (m : Int) (w : World) (cs : List Value) (hp : PgC w w.heap.size p cs) (hv : SlOf w w.heap.size 1 (RwsC w w.heap.size) all v) (hn : heldA all ≤ 1048576) (E : FEnv a b m w ∧ TabE w) :
    Calls Tryz.prog 6 #[.agg cs.toArray, v] w fun e w' => e = .returned (.bool true) ∧ Below w.heap.size w w' := by
  have HH := Lib.hid (fun (W : World) (hb : Below w.heap.size w W) => shown10_c a b m W (E.1.below hb))
  have HP := Lib.hid (fun (W : World) (hb : Below w.heap.size w W) => small_c p W cs ((hp.below hb).more hb.size))
  have HF := Lib.hid (fun (W : World) (hb : Below w.heap.size w W) => few_c all v W (rows_pastF hv hb) (by omega))
  have HA := Lib.hid (fun (W : World) (hb : Below w.heap.size w W) => apart_c p W cs ((hp.below hb).more hb.size))
  have HO := Lib.hid (fun (hl : p.decls.length ≤ 100) (W : World) (hb : Below w.heap.size w W) => both_c p W cs ((hp.below hb).more hb.size) hl)
  have HT := Lib.hid (fun (hf : fewB all = true) (W : World) (hb : Below w.heap.size w W) (ds : List Value) (hq : PgC W W.heap.size (bothP p) ds) => ptell_c (bothP p) all v b W ds hq (rows_pastF hv hb) (fun rs h1 r h2 x h3 => by have := fewB_row hf h1 h2 h3; omega) (fun hr hfit => tellT_len (right_decls hr) hfit hf (all_i64 hv)) (E.1.below hb).tree (E.2.below hb))
  have HR := Lib.hid (fun (x : ByteArray) (hx : x.size ≤ 1000000) (W : World) (hb : Below w.heap.size w W) (ds : List Value) (hq : PgC W W.heap.size (bothP p) ds) => read_c (bothP p) x a b m W ds hq hx (E.1.below hb))
  have HS := Lib.hid (fun (u : Value) (W : World) (hb : Below w.heap.size w W) (hu : SlOf W W.heap.size 1 (RwsC W W.heap.size) all u) => same09_c all u v W hu (rows_pastF hv hb))
  have HBk := Lib.hid (fun (hf : fewB all = true) (hap : apartD p.decls) (hr : rightP (bothP p) = true) (hfit : fitA (bothP p).decls all = true) => And.intro (back_told (right_decls hr) (io_both p) (apart_both hap) hfit (all_i64 hv)) (tellT_len (right_decls hr) hfit hf (all_i64 hv)))
  obtain ⟨p1, q1, r1, s1, rfl, _, _⟩ := hp.look
  obtain ⟨ov, cv, rfl, _⟩ := SlOf.uni hv
  clear hp E hv hn
  have HB0 : Hid (∀ (x : Obj), Below w.heap.size w (w.alloc x)) := Lib.hid fun x => (Below.refl _ _).alloc (Nat.le_refl _) _
  have HR0 := Lib.hid (rowNew w 25 [.slice p1 p.decls.length q1, .slice r1 p.rules.length s1])
  go_enter Tryz.func6, Tryz.ntmps6
  go_wp2_with fail
  refine (HH.out _ (HB0.out _)).mono ?_
  rintro e w1 ⟨rfl, b1⟩
  have B1 := Lib.hid ((HB0.out (.cells #[.slice p1 p.decls.length q1, .slice r1 p.rules.length s1] 25)).trans (b1.mono (by simp)))
  have R1 := Lib.hid ((b1.block w.heap.size (by simp)).trans HR0.out)
  have x0 : w1.cell? ⟨w.heap.size, 0, none⟩ = some (.slice p1 p.decls.length q1) := row_cells R1.out 0
  have x1 : w1.cell? ⟨w.heap.size, 1, none⟩ = some (.slice r1 p.rules.length s1) := row_cells R1.out 1
  have hz1 := heap_lt R1.out
  clear b1
  go_wp2_with fail
  refine (HP.out _ B1.out).mono ?_
  rintro e w2 ⟨rfl, b2⟩
  have B2 := Lib.hid (B1.out.trans (b2.mono B1.out.size))
  have R2 := Lib.hid ((b2.block _ (heap_lt R1.out)).trans R1.out)
  clear b2 x0 x1 hz1
  cases hsp : smallP p with
  | false =>
    rw [show smallI p = 0 by unfold smallI; rw [hsp]; rfl]
    clear hsp
    go_wp2
    go_ret
    exact ⟨rfl, B2.out⟩
  | true =>
    rw [show smallI p = 1 by unfold smallI; rw [hsp]; rfl]
    have HO2 := Lib.hid (HO.out (small_len hsp))
    clear hsp
    go_wp2_with fail
    refine (HF.out _ B2.out).mono ?_
    rintro e w3 ⟨rfl, rfl⟩
    cases hf : fewB all with
    | false =>
      clear hf
      go_wp2
      go_ret
      exact ⟨rfl, B2.out⟩
    | true =>
      have HT2 := Lib.hid (HT.out hf)
      have HBk2 := Lib.hid (HBk.out hf)
      have x0 : w2.cell? ⟨w.heap.size, 0, none⟩ = some (.slice p1 p.decls.length q1) := row_cells R2.out 0
      have x1 : w2.cell? ⟨w.heap.size, 1, none⟩ = some (.slice r1 p.rules.length s1) := row_cells R2.out 1
      have hz2 := heap_lt R2.out
      clear hf
      go_wp2_with fail
      refine (HA.out _ B2.out).mono ?_
      rintro e w4 ⟨ab, rfl, hab, b4⟩
      have B4 := Lib.hid (B2.out.trans (b4.mono B2.out.size))
      have R4 := Lib.hid ((b4.block _ (heap_lt R2.out)).trans R2.out)
      clear b4 x0 x1 hz2
      cases ab with
      | false =>
        clear hab
        go_wp2
        go_ret
        exact ⟨rfl, B4.out⟩
      | true =>
        have HBk3 := Lib.hid (HBk2.out (hab rfl))
        have y0 : w4.cell? ⟨w.heap.size, 0, none⟩ = some (.slice p1 p.decls.length q1) := row_cells R4.out 0
        have y1 : w4.cell? ⟨w.heap.size, 1, none⟩ = some (.slice r1 p.rules.length s1) := row_cells R4.out 1
        have hz4 := heap_lt R4.out
        clear hab
        go_wp2_with fail
        refine (HO2.out _ B4.out).mono ?_
        rintro e w5 ⟨ds, rfl, hq, b5⟩
        have B5 := Lib.hid (B4.out.trans (b5.mono B4.out.size))
        obtain ⟨p2, q2, r2, s2, eds, _, _⟩ := hq.look
        obtain rfl : ds = #[.slice p2 (bothP p).decls.length q2, .slice r2 (bothP p).rules.length s2] := by cases ds; simp_all
        have HQ := Lib.hid hq
        obtain ⟨W6, hW6⟩ : ∃ W6, w5.alloc (.cells #[.slice p2 (bothP p).decls.length q2, .slice r2 (bothP p).rules.length s2] 25) = W6 := ⟨_, rfl⟩
        have hb6 : Below w5.heap.size w5 W6 := by rw [← hW6]; exact alB _ _
        have hr6 : W6.heap[w5.heap.size]? = some (.cells #[.slice p2 (bothP p).decls.length q2, .slice r2 (bothP p).rules.length s2] 25 (0, 0)) := by rw [← hW6]; exact newRow rfl
        have B6 := Lib.hid (B5.out.trans (hb6.mono B5.out.size))
        have R6 := Lib.hid hr6
        have HQ6 := Lib.hid ((HQ.out.below hb6).more hb6.size)
        clear b5 y0 y1 hz4 eds hq hb6 hr6
        obtain ⟨Q, hQ⟩ : ∃ Q, w5.heap.size = Q := ⟨_, rfl⟩
        have R6' := R6.out
        rw [hQ] at R6'
        have R7 := Lib.hid R6'
        clear R6 R6'
        have z0 : W6.cell? ⟨Q, 0, none⟩ = some (.slice p2 (bothP p).decls.length q2) := row_cells R7.out 0
        have z1 : W6.cell? ⟨Q, 1, none⟩ = some (.slice r2 (bothP p).rules.length s2) := row_cells R7.out 1
        have hz6 := heap_lt R7.out
        have HT6 := Lib.hid (HT2.out W6 B6.out _ HQ6.out)
        cases hr : rightP (bothP p) with
        | false =>
          rw [show tellV (rightP (bothP p)) (fitA (bothP p).decls all) (tellT (bothP p).decls all) = .tuple #[.string ⟨#[]⟩, .int .i64 30] by rw [hr]; rfl] at HT6
          clear hr
          go_wp2_with fail
          (try rw [hW6])
          (try rw [hQ])
          refine HT6.out.mono ?_
          rintro e w7 ⟨rfl, b7⟩
          have B7 := Lib.hid (B6.out.trans (b7.mono B6.out.size))
          clear b7 z0 z1 hz6
          go_wp2
          go_ret
          exact ⟨rfl, B7.out⟩
        | true =>
          cases hfit : fitA (bothP p).decls all with
          | false =>
            rw [show tellV (rightP (bothP p)) (fitA (bothP p).decls all) (tellT (bothP p).decls all) = .tuple #[.string ⟨#[]⟩, .int .i64 90] by rw [hr, hfit]; rfl] at HT6
            clear hr hfit
            go_wp2_with fail
            (try rw [hW6])
            (try rw [hQ])
            refine HT6.out.mono ?_
            rintro e w7 ⟨rfl, b7⟩
            have B7 := Lib.hid (B6.out.trans (b7.mono B6.out.size))
            clear b7 z0 z1 hz6
            go_wp2
            go_ret
            exact ⟨rfl, B7.out⟩
          | true =>
            obtain ⟨⟨acc, hst, hso⟩, hlen⟩ := HBk3.out hr hfit
            obtain ⟨S, hS⟩ : ∃ S : ByteArray, ⟨(tellT (bothP p).decls all).toArray⟩ = S := ⟨_, rfl⟩
            have hSl : S.data.toList = tellT (bothP p).decls all := by rw [← hS]
            have hSz : S.size ≤ 1000000 := by
              have h2 : S.data.toList.length = S.size := by simp
              rw [hSl] at h2
              omega
            rw [show tellV (rightP (bothP p)) (fitA (bothP p).decls all) (tellT (bothP p).decls all) = .tuple #[.string S, .int .i64 0] by rw [hr, hfit, ← hS]; rfl] at HT6
            have HR7 := Lib.hid (HR.out S hSz)
            rw [hSl, hr, hst] at HR7
            have HSo := Lib.hid hso
            clear hr hfit hst hso hS hSl hSz hlen
            go_wp2_with fail
            (try rw [hW6])
            (try rw [hQ])
            refine HT6.out.mono ?_
            rintro e w7 ⟨rfl, b7⟩
            have B7 := Lib.hid (B6.out.trans (b7.mono B6.out.size))
            have R8 := Lib.hid ((b7.block _ (heap_lt R7.out)).trans R7.out)
            have HQ7 := Lib.hid ((HQ6.out.below b7).more b7.size)
            have z0' : w7.cell? ⟨Q, 0, none⟩ = some (.slice p2 (bothP p).decls.length q2) := row_cells R8.out 0
            have z1' : w7.cell? ⟨Q, 1, none⟩ = some (.slice r2 (bothP p).rules.length s2) := row_cells R8.out 1
            have hz7 := heap_lt R8.out
            have HR8 := Lib.hid (HR7.out w7 B7.out _ HQ7.out)
            clear b7 z0 z1 hz6
            go_wp2_with fail
            refine HR8.out.mono ?_
            intro e w8 hR
            obtain ⟨u, rfl, b8, hu⟩ := hR.okF
            rw [HSo.out] at hu
            have B8 := Lib.hid (B7.out.trans (b8.mono B7.out.size))
            have HS8 := Lib.hid (HS.out u w8 B8.out hu)
            clear hR b8 hu z0' z1' hz7
            go_wp2_with fail
            refine HS8.out.mono ?_
            rintro e w9 ⟨rfl, b9⟩
            have B9 := Lib.hid (B8.out.trans (b9.mono B8.out.size))
            clear b9
            go_wp2
            go_ret
            exact ⟨rfl, B9.out⟩
end Go.Proofs.YthhepmddcncjoaaGreatDoor
