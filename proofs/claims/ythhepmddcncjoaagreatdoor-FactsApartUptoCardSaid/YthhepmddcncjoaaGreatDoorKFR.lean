/- facts.Read. soriteslaw10.one, shown. soritesref09.Same of two readings of the same rows. -/
import Derived.Test.YthhepmddcncjoaaGreatDoorKFr
import Derived.Test.YthhepmddcncjoaaGreatDoorKConv
import Derived.Test.YthhepmddcncjoaaGreatDoorKFv
import Derived.Test.YthhepmddcncjoaaGreatDoorKTchk2
import Derived.BigQuiet
import Derived.Test.YthhepmddcncjoaaGreatDoorKRel8e
set_option linter.unusedSimpArgs false
set_option linter.unusedVariables false
namespace Go.Proofs.YthhepmddcncjoaaGreatDoor
open Go.RowKit

/-- Rows whose heads lie in one block, whatever block. -/
def HeadG (rows : List Rw) (v : Value) (W : World) : Prop := (v = .slice none 0 0 ∧ rows = []) ∨ ∃ (g c : Nat) (tl : List Value) (D : List Hd), v = .slice (some ⟨g, 0, none⟩) D.length c ∧ c ≤ maxLen ∧ D.length ≤ c ∧ D.map Prod.fst = rows ∧ W.heap[g]? = some (.cells (D.map Prod.snd ++ tl).toArray 39 (0, 0)) ∧ ∀ x ∈ D, SlOf W W.heap.size 3 VlC x.1 x.2
theorem SortG.head {n0 : Nat} {rows : List Rw} {v : Value} {W : World} (h : SortG n0 rows v W) : HeadG rows v W := by
  obtain ⟨g, c, tl, D, h1, _, h2⟩ := h
  exact .inr ⟨g, c, tl, D, h1, h2⟩
theorem heads_of {rows : List Rw} {us : List Value} {P : Rw → Value → Prop} (hl : us.length = rows.length) (h : ∀ (i : Nat) (r : Rw), rows[i]? = some r → ∃ u, us[i]? = some u ∧ P r u) : ∃ D : List Hd, D.map Prod.fst = rows ∧ D.map Prod.snd = us ∧ ∀ x ∈ D, P x.1 x.2 := by
  refine ⟨rows.zip us, ?_, ?_, ?_⟩
  · rw [List.map_fst_zip (by omega)]
  · rw [List.map_snd_zip (by omega)]
  · intro x hx
    obtain ⟨i, hi⟩ := List.mem_iff_getElem?.1 hx
    rw [List.getElem?_zip_eq_some] at hi
    obtain ⟨u, h1, h2⟩ := h i x.1 hi.1
    rw [hi.2] at h1
    cases h1
    exact h2
theorem HeadM.head {n0 : Nat} {W : World} {rows : List Rw} {v : Value} {us : List Value} (h : HeadM n0 W rows v us) : HeadG rows v W := by
  obtain ⟨D, d1, d2, d3⟩ := heads_of (P := fun r u => SlOf W W.heap.size 3 VlC r u) (by rw [h.1.1, Nat.mul_one]) (fun i r hi => by
    obtain ⟨u, h1, h2⟩ := h.2 i r hi
    exact ⟨u, h1, h2.sl⟩)
  have hDl : D.length = rows.length := by rw [← d1, List.length_map]
  rcases h.1.2 with ⟨hv, h0⟩ | ⟨g, cap, cur, hv, _, h3, h4, h5, h6, h7⟩
  · exact .inl ⟨hv, List.eq_nil_of_length_eq_zero h0⟩
  · refine .inr ⟨g, cap, cur.toList.drop rows.length, D, by rw [hDl]; exact hv, h5, by omega, d1, ?_, d3⟩
    rw [d2, ← h7, Nat.mul_one, List.take_append_drop]
    exact h3
theorem HeadG.sl {rows : List Rw} {v : Value} {W : World} (h : HeadG rows v W) : RwsS W W.heap.size rows v := by
  rcases h with ⟨rfl, rfl⟩ | ⟨g, c, tl, D, rfl, h2, h3, h4, h5, h6⟩
  · exact .inl ⟨rfl, rfl⟩
  · refine .inr ⟨⟨g, 0, none⟩, c, by rw [← h4, List.length_map], by rw [← h4, List.length_map]; exact h3, h2, fun _ => heap_lt h5, fun i r hr => ?_⟩
    rw [← h4, List.getElem?_map] at hr
    obtain ⟨x, hx, rfl⟩ := Option.map_eq_some_iff.1 hr
    refine ⟨[x.2], rfl, ⟨x.2, rfl, h6 x (List.mem_of_getElem? hx)⟩, fun j cc hj => ?_⟩
    have hj0 : j = 0 := by have := (List.getElem?_eq_some_iff.1 hj).1; simp at this; omega
    subst hj0
    simp only [List.getElem?_cons_zero, Option.some.injEq] at hj
    subst hj
    rw [addK, show i * 1 + 0 = i by omega, row_cells h5 i, List.getElem?_toArray, List.getElem?_append_left (by rw [List.length_map]; exact (List.getElem?_eq_some_iff.1 hx).1), List.getElem?_map, hx]
    rfl
theorem HeadG.below {rows : List Rw} {v : Value} {W W' : World} (h : HeadG rows v W) (hb : Below W.heap.size W W') : HeadG rows v W' := by
  rcases h with h | ⟨g, c, tl, D, h1, h2, h3, h4, h5, h6⟩
  · exact .inl h
  · exact .inr ⟨g, c, tl, D, h1, h2, h3, h4, (hb.block g (heap_lt h5)).trans h5, fun x hx => VlS.past (h6 x hx) hb⟩
/-- A row's values stay where a head is written. -/
theorem vl_set {W : World} {A k : Nat} {o : Option Addr} {n c : Nat} {x : Value} {B : Nat} {r : Rw} {u : Value} (h : SlOf W B 3 VlC r u) (hc : W.cell? ⟨A, k, none⟩ = some (.slice o n c)) : SlOf (W.setCell ⟨A, k, none⟩ x) B 3 VlC r u := by
  rcases h with h | ⟨a, cap, h1, h2, h3, h4, h5⟩
  · exact .inl h
  · refine .inr ⟨a, cap, h1, h2, h3, h4, fun i y hy => ?_⟩
    obtain ⟨cs, c1, ⟨rfl, c2⟩, c3⟩ := h5 i y hy
    refine ⟨_, c1, ⟨rfl, c2⟩, fun j v hj => ?_⟩
    have hw := c3 j v hj
    have hne : a.add (i * 3 + j) ≠ ⟨A, k, none⟩ := by
      intro e
      rw [e, hc] at hw
      cases hw
      rcases List.mem_cons.1 (List.mem_of_getElem? hj) with h | h
      · cases h
      · rcases List.mem_cons.1 h with h | h
        · cases h
        · rcases List.mem_cons.1 h with h | h
          · cases h
          · cases h
    rw [World.cell?_setCell_other _ _ _ _ (fun e => hne e.symm)]
    exact hw
structure AllH (A : Nat) (W : World) (fs : List (List Rw)) (vs : List Value) : Prop where
  arr : W.heap[A]? = some (.cells vs.toArray 41 (0, 0))
  len : vs.length = fs.length
  hd : ∀ (k : Nat) (v : Value) (rows : List Rw), vs[k]? = some v → fs[k]? = some rows → HeadG rows v W
theorem AllM.g {n0 A : Nat} {W : World} {fs : List (List Rw)} {vs : List Value} (h : AllM n0 A W fs vs) : AllH A W fs vs :=
  ⟨h.arr, h.len, fun k v rows h1 h2 => by
    obtain ⟨us, hu⟩ := h.hd k v rows h1 h2
    exact hu.head⟩
theorem AllH.below {A : Nat} {W W' : World} {fs : List (List Rw)} {vs : List Value} (h : AllH A W fs vs) (hb : Below W.heap.size W W') : AllH A W' fs vs :=
  ⟨(hb.block A (heap_lt h.arr)).trans h.arr, h.len, fun k v rows h1 h2 => (h.hd k v rows h1 h2).below hb⟩
theorem HeadG.shape {rows : List Rw} {v : Value} {W : World} (h : HeadG rows v W) : ∃ o n c, v = .slice o n c := by
  rcases h with ⟨rfl, _⟩ | ⟨g, c, tl, D, rfl, _⟩
  · exact ⟨_, _, _, rfl⟩
  · exact ⟨_, _, _, rfl⟩
theorem AllH.store {A k : Nat} {W : World} {fs : List (List Rw)} {vs : List Value} {v v' : Value} {rows rows' : List Rw} (h : AllH A W fs vs) (hv : vs[k]? = some v) (hf : fs[k]? = some rows) (hn : HeadG rows' v' W) : AllH A (W.setCell ⟨A, k, none⟩ v') (fs.set k rows') (vs.set k v') := by
  obtain ⟨o, n, c, rfl⟩ := (h.hd k v rows hv hf).shape
  have hkl := (List.getElem?_eq_some_iff.1 hv).1
  have hkf := (List.getElem?_eq_some_iff.1 hf).1
  have hc : W.cell? ⟨A, k, none⟩ = some (.slice o n c) := by
    have := row_cells h.arr k
    rw [this]; simpa using hv
  have hoth : ∀ b, b ≠ A → (W.setCell ⟨A, k, none⟩ v').heap[b]? = W.heap[b]? := fun b hb => Below.heap_setCell W ⟨A, k, none⟩ v' b hb
  have hsz : (W.setCell ⟨A, k, none⟩ v').heap.size = W.heap.size := by simp [World.setCell]
  have keep : ∀ {rs : List Rw} {u : Value}, HeadG rs u W → HeadG rs u (W.setCell ⟨A, k, none⟩ v') := fun {rs u} hg => by
    rcases hg with hg | ⟨g, c', tl, D, h1, h2, h3, h4, h5, h6⟩
    · exact .inl hg
    · refine .inr ⟨g, c', tl, D, h1, h2, h3, h4, (hoth g fun e => ?_).trans h5, fun x hx => ?_⟩
      · rw [e, h.arr] at h5; revert h5; simp
      · rw [hsz]; exact vl_set (h6 x hx) hc
  refine ⟨?_, by rw [List.length_set, List.length_set]; exact h.len, fun j x rs hj hfj => ?_⟩
  · rw [rowSet h.arr k v']; simp
  · by_cases e : j = k
    · subst e
      rw [List.getElem?_set_self hkl] at hj
      rw [List.getElem?_set_self hkf] at hfj
      cases hj; cases hfj
      exact keep hn
    · rw [List.getElem?_set_ne (Ne.symm e)] at hj hfj
      exact keep (h.hd j x rs hj hfj)
theorem AllH.sl {A : Nat} {W : World} {fs : List (List Rw)} {vs : List Value} (h : AllH A W fs vs) (hm : fs.length ≤ maxLen) : SlOf W W.heap.size 1 (RwsC W W.heap.size) fs (.slice (some ⟨A, 0, none⟩) fs.length fs.length) := by
  refine .inr ⟨⟨A, 0, none⟩, fs.length, rfl, Nat.le_refl _, hm, fun _ => heap_lt h.arr, fun i rows hi => ?_⟩
  have hil : i < vs.length := by rw [h.len]; exact (List.getElem?_eq_some_iff.1 hi).1
  have hv : vs[i]? = some vs[i] := List.getElem?_eq_getElem hil
  refine ⟨[vs[i]], rfl, ⟨_, rfl, (h.hd i _ rows hv hi).sl⟩, fun j cc hj => ?_⟩
  have hj0 : j = 0 := by have := (List.getElem?_eq_some_iff.1 hj).1; simp at this; omega
  subst hj0
  simp only [List.getElem?_cons_zero, Option.some.injEq] at hj
  subst hj
  rw [addK, show i * 1 + 0 = i by omega, row_cells h.arr i]
  simp

theorem linesQ_len (ds : List De) : ∀ (a : List (List UInt8)) (n : Nat) (r : List (Nat × Rw)), linesQ ds a n = .inr r → r.length = a.length
  | [], _, r, h => by cases h; rfl
  | l :: a, n, r, h => by
    rw [linesQ] at h
    cases ho : oneQ ds l with
    | inl e' => rw [ho] at h; cases h
    | inr y =>
      rw [ho] at h
      simp only [] at h
      cases hl : linesQ ds a (n + 1) with
      | inl e' => rw [hl] at h; cases h
      | inr r' =>
        rw [hl] at h
        cases h
        rw [List.length_cons, List.length_cons, linesQ_len ds a (n + 1) r' hl]
theorem streamQ_fit {ds : List De} {l : List UInt8} {acc : List (Nat × Rw)} (h : streamQ ds (cutB 10 l) = .inr acc) : acc.length ≤ l.length ∧ ∀ x ∈ acc, x.1 < ds.length ∧ fitR (tyOf ds x.1) x.2 = true := by
  obtain ⟨h1, _⟩ := stream_whole h
  have h2 := linesQ_len ds _ _ _ h1
  rw [List.length_dropLast, cutB_len] at h2
  have := List.count_le_length (a := (10 : UInt8)) (l := l)
  exact ⟨by omega, linesQ_fit ds _ _ _ h1⟩
theorem fitR_len {ks : List Int} {r : Rw} (h : fitR ks r = true) : r.length = ks.length := by
  unfold fitR at h
  rw [Bool.and_eq_true, decide_eq_true_eq] at h
  exact h.1
inductive ReadR (n0 N : Nat) (w : World) (b : Bool) (S : Sum (Nat × Int) (List (Nat × Rw))) : Ending → World → Prop
  | tree {W : World} : b = false → Below n0 w W → ReadR n0 N w b S (.returned (.tuple #[.slice none 0 0, .int .i64 0, .int .i64 30])) W
  | bad {n : Nat} {e : Int} {W : World} : b = true → S = .inl (n, e) → Below n0 w W → ReadR n0 N w b S (.returned (.tuple #[.slice none 0 0, .int .i64 (n : Int), .int .i64 e])) W
  | good {acc : List (Nat × Rw)} {v : Value} {W : World} : b = true → S = .inr acc → Below n0 w W → SlOf W W.heap.size 1 (RwsC W W.heap.size) (sortedQ N acc) v → ReadR n0 N w b S (.returned (.tuple #[v, .int .i64 0, .int .i64 0])) W
/-- What the package reads of the listed variables. -/
structure FEnv (a b : Addr) (m : Int) (w : World) : Prop where
  txt : Env a w
  tree : TErr b w
  max : MaxE m w
  typ : w.cell? ⟨1, 0, none⟩ = some (.iface 153 (.agg #[.pointer (some ⟨9, 63, none⟩)]))
theorem FEnv.below {a b : Addr} {m : Int} {w w' : World} (h : FEnv a b m w) (hb : Below w.heap.size w w') : FEnv a b m w' :=
  ⟨h.txt.below hb, h.tree.below hb, h.max.below hb, (hb.cell (World.block_lt_of_cell? _ _ h.typ)).trans h.typ⟩
def mixQ (N : Nat) (acc : List (Nat × Rw)) (k : Nat) : List (List Rw) := (List.range N).map fun j => if j < k then sortL rwC (placedQ acc j) else placedQ acc j
theorem mixQ_at {N j : Nat} (acc : List (Nat × Rw)) (k : Nat) (hj : j < N) : (mixQ N acc k)[j]? = some (if j < k then sortL rwC (placedQ acc j) else placedQ acc j) := by
  unfold mixQ
  rw [List.getElem?_map, List.getElem?_range hj]; rfl
theorem mixQ_len (N : Nat) (acc : List (Nat × Rw)) (k : Nat) : (mixQ N acc k).length = N := by unfold mixQ; simp
theorem mixQ_set {N k : Nat} (acc : List (Nat × Rw)) (hk : k < N) : (mixQ N acc k).set k (sortL rwC (placedQ acc k)) = mixQ N acc (k + 1) := by
  apply List.ext_getElem?
  intro j
  by_cases hj : j < N
  · rw [mixQ_at _ _ hj]
    by_cases e : j = k
    · subst e
      rw [List.getElem?_set_self (by rw [mixQ_len]; exact hj), if_pos (by omega)]
    · rw [List.getElem?_set_ne (Ne.symm e), mixQ_at _ _ hj]
      by_cases h : j < k
      · rw [if_pos h, if_pos (by omega)]
      · rw [if_neg h, if_neg (by omega)]
  · rw [List.getElem?_eq_none (by rw [List.length_set, mixQ_len]; omega), List.getElem?_eq_none (by rw [mixQ_len]; omega)]
theorem mixQ_zero (N : Nat) (acc : List (Nat × Rw)) : mixQ N acc 0 = placedAll N acc := by
  unfold mixQ placedAll
  apply List.map_congr_left
  intro j _
  rw [if_neg (by omega)]
theorem mixQ_all (N : Nat) (acc : List (Nat × Rw)) : mixQ N acc N = sortedQ N acc := by
  unfold mixQ sortedQ
  apply List.map_congr_left
  intro j hj
  rw [if_pos (List.mem_range.1 hj)]
set_option linter.unusedSimpArgs false in
set_option maxRecDepth 100000 in
set_option maxHeartbeats 8000000 in
theorem read_c (p : Pg) (s : ByteArray) (a b : Addr) (m : Int) (w : World) (cs : List Value) (hc : PgC w w.heap.size p cs) (hs : s.size ≤ 1000000) (E : FEnv a b m w) :
    Calls Tryz.prog 13 #[.agg cs.toArray, .string s] w (ReadR w.heap.size p.decls.length w (rightP p) (streamQ p.decls (cutB 10 s.data.toList))) := by
  have HR := Lib.hid (fun (W : World) (hb : Below w.heap.size w W) => right_c p b W cs ((hc.below hb).more hb.size) (E.below hb).tree)
  obtain ⟨o0, k0, o1, k1, rfl, hd, _⟩ := hc.look
  have HO := Lib.hid (fun (h : rightDs p.decls) (W : World) (hb : Below w.heap.size w W) => rowsOf_c p.decls (.slice o0 p.decls.length k0) s a m W (SlOf.decl hd hb hb.size) h (by omega) (E.below hb).txt (E.below hb).max)
  have HE := Lib.hid E
  have HS := Lib.hid hs
  have HB0 : Hid (∀ (x : Obj), Below w.heap.size w (w.alloc x)) := Lib.hid fun x => alB w x
  clear hc hd E hs
  go_enter Tryz.func13, Tryz.ntmps13
  go_wp2_with fail
  refine (HR.out _ (HB0.out _)).mono ?_
  rintro e w1 ⟨rfl, b1⟩
  have r1 := (b1.block w.heap.size (by simp)).trans (rowNew w 25 [.slice o0 p.decls.length k0, .slice o1 p.rules.length k1])
  have c0 : w1.cell? ⟨w.heap.size, 0, none⟩ = some (.slice o0 p.decls.length k0) := row_cells r1 0
  have hz1 := heap_lt r1
  have B1 := Lib.hid ((HB0.out (.cells #[.slice o0 p.decls.length k0, .slice o1 p.rules.length k1] 25)).trans (b1.mono (by simp)))
  clear b1 r1
  cases hr : rightP p with
  | false =>
    have Hr := Lib.hid hr
    clear hr
    go_wp2
    go_ret3
    exact .tree Hr.out B1.out
  | true =>
    have Hr := Lib.hid hr
    have hrd : rightDs p.decls := by
      unfold rightP at hr
      simp only [Bool.and_eq_true, decide_eq_true_eq, List.all_eq_true] at hr
      obtain ⟨⟨⟨h1, _⟩, h3⟩, _⟩ := hr
      refine ⟨h1, fun d hd => ?_⟩
      have := h3 d hd
      unfold rightD at this
      simp only [Bool.and_eq_true, decide_eq_true_eq] at this
      obtain ⟨⟨⟨⟨⟨_, h4⟩, h5⟩, h6⟩, _⟩, _⟩ := this
      exact ⟨fun h => (by rw [h] at h6; simp at h6; omega), by omega⟩
    have Hrd := Lib.hid hrd
    have HP := Lib.hid (HO.out hrd w1 B1.out)
    clear hr hrd HO
    go_wp2_with fail
    refine HP.out.mono ?_
    clear HP
    intro e w2 hT
    have HE2 := Lib.hid (HE.out.below B1.out)
    obtain ⟨S, hS⟩ : ∃ S, streamQ p.decls (cutB 10 s.data.toList) = S := ⟨_, rfl⟩
    rw [hS] at hT
    have HSt := Lib.hid hS
    clear hS
    cases hT with
    | @bad n e u W b2 =>
      have B2 := Lib.hid (B1.out.trans (b2.mono B1.out.size))
      have hEW := HE.out.below B2.out
      have HA := Lib.hid (as_hit (n : Int) e w2.heap.size (w2.alloc (.cells #[.int .i64 0, .int .i64 0] 67)) (World.alloc_heap_new w2 _) hEW.txt.size ((hEW.below (alB w2 _)).typ))
      clear b2 hEW
      unfold errL at HA
      simp only [errL]
      go_wp2_with fail
      refine HA.out.mono ?_
      rintro e3 w3 ⟨rfl, x0, x1, b3⟩
      have HB3 := Lib.hid (B2.out.trans (((alB w2 (.cells #[.int .i64 0, .int .i64 0] 67)).trans b3).mono B2.out.size))
      have hz3 : w2.heap.size < w3.heap.size := by have := b3.size; simp at this; omega
      clear b3 c0
      go_wp2_with fail
      go_quiet (fail)
      go_wp2
      go_ret3
      exact .bad Hr.out HSt.out (below_drewN HB3.out _)
    | @good acc vs A W b2 hA ha =>
      have HB2 := Lib.hid (B1.out.trans (b2.mono B1.out.size))
      have HAg := Lib.hid ha.g
      have HA := Lib.hid (Nat.le_trans B1.out.size hA)
      have HN60 : Hid (p.decls.length ≤ 60) := Lib.hid Hrd.out.1
      have HFit := Lib.hid (streamQ_fit HSt.out)
      obtain ⟨N, hN⟩ : ∃ N, p.decls.length = N := ⟨_, rfl⟩
      have HN := Lib.hid hN
      clear b2 ha hA c0
      rw [hN] at HAg HN60
      rw [hN]
      clear hN
      go_wp2_with fail
      refine (as_miss _ _).mono ?_
      rintro e3 w3 ⟨rfl, b3⟩
      have hb23 := (alB w2 (.cells #[.int .i64 0, .int .i64 0] 67)).trans (b3.mono (by simp))
      have HB3 := Lib.hid (HB2.out.trans (hb23.mono HB2.out.size))
      have HAg3 := Lib.hid (HAg.out.below hb23)
      clear b3 hb23
      go_wp2
      go_loopw [31] (fun i wr => ∃ (k : Nat) (us : List Value), k ≤ N ∧ i = .int .i64 (k : Int) ∧ AllH A wr (mixQ N acc k) us ∧ Hid (Below w.heap.size w wr)) (fun i _ => N - (intOf i).toNat)
      case atStart => exact ⟨0, vs, Nat.zero_le _, rfl, by rw [mixQ_zero]; exact HAg3.out, HB3⟩
      case round =>
        obtain ⟨k, us, hk, rfl, hG, HBr⟩ := hrel
        have hN60 := HN60.out
        by_cases hlt : k < N
        · have hlt' : (k : Int) < (N : Int) := by omega
          have hk0 : (0 : Int) ≤ (k : Int) := by omega
          have hul : k < us.length := by rw [hG.len, mixQ_len]; exact hlt
          obtain ⟨v, hv⟩ : ∃ v, us[k]? = some v := ⟨_, List.getElem?_eq_getElem hul⟩
          have hm := mixQ_at acc k hlt
          rw [if_neg (by omega)] at hm
          have hh := hG.hd k v _ hv hm
          have hmem : ∀ r ∈ placedQ acc k, fitR (tyOf p.decls k) r = true := fun r hr => (HFit.out.2 (k, r) (placed_mem.1 hr)).2
          have hty : (tyOf p.decls k).length ≤ 8 := by
            have hkd : k < p.decls.length := by rw [HN.out]; exact hlt
            have hdk : p.decls[k]? = some p.decls[k] := List.getElem?_eq_getElem hkd
            unfold tyOf
            rw [hdk]
            exact (Hrd.out.2 _ (List.getElem_mem hkd)).2
          have HPs := Lib.hid (psortG_c (placedQ acc k) v wr hh.sl (by
              have h1 : (placedQ acc k).length ≤ acc.length := by unfold placedQ; rw [List.length_map]; exact List.length_filter_le _ _
              have h2 := HFit.out.1
              have h3 : s.data.toList.length = s.size := by simp
              have := HS.out
              omega) (fun r hr => by have := fitR_len (hmem r hr); unfold FitW; omega) (fun r hr => fitR_clean (hmem r hr)))
          obtain ⟨o, n, c, rfl⟩ := hh.shape
          have y0 : wr.cell? ⟨A, k, none⟩ = some (.slice o n c) := by
            have := row_cells hG.arr k
            rw [this]; simpa using hv
          have hzA := heap_lt hG.arr
          have ek := addK A k
          have HG := Lib.hid hG
          have Hv := Lib.hid hv
          have Hm := Lib.hid hm
          clear hh hmem hty hG hv hm hul
          go_wp2_with fail
          refine HPs.out.mono ?_
          rintro e4 w4 ⟨v', rfl, hsg, b4⟩
          have hG4 := HG.out.below b4
          have HG4 := Lib.hid hG4
          have HSg := Lib.hid hsg.head
          obtain ⟨g, c', tl, D, rfl, _⟩ := hsg
          have z0 : w4.cell? ⟨A, k, none⟩ = some (.slice o n c) := by
            have := row_cells hG4.arr k
            rw [this]; simpa using Hv.out
          have zf := frz_row hG4.arr k
          have hz4 := heap_lt hG4.arr
          have HB4 := Lib.hid (HBr.out.trans (b4.mono HBr.out.size))
          have HFin : Hid (AllH A (w4.setCell ⟨A, k, none⟩ (.slice (some ⟨g, 0, none⟩) D.length c')) (mixQ N acc (k + 1)) (us.set k (.slice (some ⟨g, 0, none⟩) D.length c')) ∧ Below w.heap.size w (w4.setCell ⟨A, k, none⟩ (.slice (some ⟨g, 0, none⟩) D.length c'))) := Lib.hid (by
            have := HG4.out.store Hv.out Hm.out HSg.out
            rw [mixQ_set acc hlt] at this
            exact ⟨this, HB4.out.setCell (p := ⟨A, k, none⟩) HA.out _⟩)
          clear hG4 b4 y0
          go_wp2
          go_roundw
          case rel => exact ⟨k + 1, _, hlt, by go_num, HFin.out.1, Lib.hid HFin.out.2⟩
          case measure => simp [intOf]; omega
        · have hlt' : ¬ (k : Int) < (N : Int) := by omega
          obtain rfl : k = N := by omega
          have hsl := hG.sl (by rw [mixQ_len]; unfold maxLen; have := HN60.out; omega)
          rw [mixQ_len, mixQ_all] at hsl
          have HSl := Lib.hid hsl
          clear hG hsl
          go_wp2
          go_ret3
          rw [HN.out]
          exact .good Hr.out HSt.out HBr.out HSl.out
end Go.Proofs.YthhepmddcncjoaaGreatDoor
namespace Go.Proofs.YthhepmddcncjoaaGreatDoor
open Go.RowKit

def oneD : De := ⟨⟨#[101]⟩, [⟨#[97]⟩, ⟨#[98]⟩], [1, 2], true, true, 0⟩
def oneP : Pg := ⟨[oneD], []⟩
def oneW : Rw := [⟨false, 1, ⟨#[]⟩⟩, ⟨true, 0, ⟨#[97]⟩⟩]
theorem one_right : rightP oneP = true := by decide +kernel
theorem one_find : findY oneD.rel [oneD] = some 0 := findY_apart (ds := [oneD]) (k := 0) rfl (fun i j x y hi hj _ => by
  have h1 : i < 1 := (List.getElem?_eq_some_iff.1 hi).1
  have h2 : j < 1 := (List.getElem?_eq_some_iff.1 hj).1
  omega)
theorem one_line1 : oneQ [oneD] [101, 9, 49, 9, 34, 97, 34] = .inr (0, oneW) := by
  have h := one_line (ds := [oneD]) (k := 0) (d := oneD) (r := oneW) rfl one_find rfl (by decide) (by decide +kernel) (by
    intro x hx
    simp only [oneW, List.mem_cons, List.not_mem_nil, or_false] at hx
    rcases hx with rfl | rfl <;> exact ⟨by decide, by decide⟩)
  have e : oneD.rel.data.toList ++ rowT oneW = [101, 9, 49, 9, 34, 97, 34] := by decide +kernel
  rwa [e] at h
theorem one_line2 : oneQ [oneD] [101, 9, 48, 49, 9, 34, 97, 34] = .inl 95 := by
  have hc : cutB 9 [101, 9, 48, 49, 9, 34, 97, 34] = [[101], [48, 49], [34, 97, 34]] := by decide +kernel
  have hh : headQ [101, 9, 48, 49, 9, 34, 97, 34] = oneD.rel := by unfold headQ; rw [hc]; rfl
  have hn : numL [48, 49] = none := by decide +kernel
  unfold oneQ
  rw [hh, one_find]
  simp only []
  rw [hc]
  simp [inOf, tyOf, oneD, valsQ, valQ, hn, badE]
theorem one_stream1 : streamQ [oneD] (cutB 10 [101, 9, 49, 9, 34, 97, 34, 10]) = .inr [(0, oneW)] := by
  have hc : cutB 10 [101, 9, 49, 9, 34, 97, 34, 10] = [[101, 9, 49, 9, 34, 97, 34], []] := by decide +kernel
  rw [hc]
  simp [streamQ, linesQ, one_line1]
theorem one_stream2 : streamQ [oneD] (cutB 10 [101, 9, 49, 9, 34, 97, 34, 10, 101, 9, 48, 49, 9, 34, 97, 34, 10]) = .inl (2, 95) := by
  have hc : cutB 10 [101, 9, 49, 9, 34, 97, 34, 10, 101, 9, 48, 49, 9, 34, 97, 34, 10] = [[101, 9, 49, 9, 34, 97, 34], [101, 9, 48, 49, 9, 34, 97, 34], []] := by decide +kernel
  rw [hc]
  simp [streamQ, linesQ, one_line1, one_line2]
theorem one_sorted : sortedQ 1 [(0, oneW)] = [[oneW]] := by
  rfl

theorem sl_row {α : Type} {R : α → List Value → Prop} {W : World} {b B : Nat} {T : TypeId} {cs : Array Value} {l : List α} (hr : W.heap[b]? = some (.cells cs T (0, 0))) (hb : b < B) (hm : l.length ≤ maxLen) (h : ∀ (i : Nat) (x : α), l[i]? = some x → ∃ c, cs[i]? = some c ∧ R x [c]) : SlOf W B 1 R l (.slice (some ⟨b, 0, none⟩) l.length l.length) := by
  refine .inr ⟨⟨b, 0, none⟩, l.length, rfl, Nat.le_refl _, hm, fun _ => hb, fun i x hx => ?_⟩
  obtain ⟨c, h1, h2⟩ := h i x hx
  refine ⟨[c], rfl, h2, fun j cc hj => ?_⟩
  have hj0 : j = 0 := by have := (List.getElem?_eq_some_iff.1 hj).1; simp at this; omega
  subst hj0
  simp only [List.getElem?_cons_zero, Option.some.injEq] at hj
  subst hj
  rw [addK, show i * 1 + 0 = i by omega, row_cells hr i]
  exact h1
theorem sl_one {α : Type} {R : α → List Value → Prop} {W : World} {b B z : Nat} {T : TypeId} {cs : List Value} {x : α} (hr : Row b T cs W) (hb : b < B) (hz : cs.length = z) (h : R x cs) : SlOf W B z R [x] (.slice (some ⟨b, 0, none⟩) 1 1) := by
  refine .inr ⟨⟨b, 0, none⟩, 1, rfl, Nat.le_refl _, by decide, fun _ => hb, fun i y hy => ?_⟩
  match i, hy with
  | 0, hy =>
    simp only [List.getElem?_cons_zero, Option.some.injEq] at hy
    subst hy
    rw [Nat.zero_mul]
    exact ⟨cs, hz, h, hr.cells⟩
  | i + 1, hy => simp at hy
set_option maxRecDepth 100000 in
set_option maxHeartbeats 4000000 in
theorem one10_c (w : World) : Calls Tryz.prog 23 #[] w fun e w' => ∃ cs, e = .returned (.agg cs) ∧ PgC w' w'.heap.size oneP cs.toList ∧ Below w.heap.size w w' := by
  go_enter Tryz.func23, Tryz.ntmps23
  go_wp2
  obtain ⟨W, hW⟩ : ∃ W, ((((w.alloc (.cells #[.slice (some ⟨w.heap.size + 1 + 1 + 1, 0, none⟩) 1 1, .slice none 0 0] 25)).alloc (.cells #[.string ⟨#[97]⟩, .string ⟨#[98]⟩] 9)).alloc (.cells #[.int .i64 1, .int .i64 2] 3)).alloc (.cells #[.string ⟨#[101]⟩, .slice (some ⟨w.heap.size + 1, 0, none⟩) 2 2, .slice (some ⟨w.heap.size + 1 + 1, 0, none⟩) 2 2, .bool true, .bool true, .int .i64 0] 38)) = W := ⟨_, rfl⟩
  have r0 : W.heap[w.heap.size]? = some (.cells #[.slice (some ⟨w.heap.size + 1 + 1 + 1, 0, none⟩) 1 1, .slice none 0 0] 25 (0, 0)) := by rw [← hW]; exact row_more (row_more (row_more (newRow rfl) _) _) _
  have r1 : W.heap[w.heap.size + 1]? = some (.cells #[.string ⟨#[97]⟩, .string ⟨#[98]⟩] 9 (0, 0)) := by rw [← hW]; exact row_more (row_more (newRow (by simp)) _) _
  have r2 : W.heap[w.heap.size + 1 + 1]? = some (.cells #[.int .i64 1, .int .i64 2] 3 (0, 0)) := by rw [← hW]; exact row_more (newRow (by simp)) _
  have r3 : Row (w.heap.size + 1 + 1 + 1) 38 [.string ⟨#[101]⟩, .slice (some ⟨w.heap.size + 1, 0, none⟩) 2 2, .slice (some ⟨w.heap.size + 1 + 1, 0, none⟩) 2 2, .bool true, .bool true, .int .i64 0] W := by rw [← hW]; exact newRow (by simp)
  have hz : W.heap.size = w.heap.size + 4 := by rw [← hW]; simp
  have hb : Below w.heap.size w W := by
    rw [← hW]
    exact ((((Below.refl _ _).alloc (Nat.le_refl _) _).alloc (by simp) _).alloc (by simp; omega) _).alloc (by simp; omega) _
  obtain ⟨h0, h1⟩ : W.cell? ⟨w.heap.size, 0, none⟩ = some (.slice (some ⟨w.heap.size + 1 + 1 + 1, 0, none⟩) 1 1) ∧ W.cell? ⟨w.heap.size, 1, none⟩ = some (.slice none 0 0) := ⟨row_cells r0 0, row_cells r0 1⟩
  rw [hW]
  refine bodyPost_ret (v := .agg #[.slice (some ⟨w.heap.size + 1 + 1 + 1, 0, none⟩) 1 1, .slice none 0 0]) (by simp [results, Tryz.results23, go_sem, h0, h1]) rfl ?_
  refine ⟨_, rfl, ⟨_, _, rfl, ?_, .inl ⟨rfl, rfl⟩⟩, hb⟩
  refine sl_one r3 (by omega) rfl ⟨_, _, rfl, by decide, ⟨by decide, by decide⟩, ?_, ?_⟩
  · exact sl_row (l := oneD.names) r1 (by omega) (by decide) fun i x hx => by
      match i, hx with
      | 0, hx => cases hx; exact ⟨_, rfl, rfl, by decide⟩
      | 1, hx => cases hx; exact ⟨_, rfl, rfl, by decide⟩
      | i + 2, hx => simp [oneD] at hx
  · exact sl_row (l := oneD.types) r2 (by omega) (by decide) fun i x hx => by
      match i, hx with
      | 0, hx => cases hx; exact ⟨_, rfl, rfl, by decide, by decide⟩
      | 1, hx => cases hx; exact ⟨_, rfl, rfl, by decide, by decide⟩
      | i + 2, hx => simp [oneD] at hx
set_option maxRecDepth 100000 in
set_option maxHeartbeats 4000000 in
theorem shown10_c (a b : Addr) (m : Int) (w : World) (E : FEnv a b m w) : Calls Tryz.prog 10 #[] w fun e w' => e = .returned (.bool true) ∧ Below w.heap.size w w' := by
  have HE := Lib.hid E
  have HR := Lib.hid (fun (W : World) (hb : Below w.heap.size w W) (cs : List Value) (hc : PgC W W.heap.size oneP cs) (s : ByteArray) (hs : s.size ≤ 1000000) => read_c oneP s a b m W cs hc hs (E.below hb))
  clear E
  go_enter Tryz.func10, Tryz.ntmps10
  go_wp2_with fail
  refine (one10_c w).mono ?_
  rintro e w1 ⟨⟨cs⟩, rfl, hp, b1⟩
  have B1 := Lib.hid b1
  have HP := Lib.hid (HR.out w1 b1 cs hp ⟨#[101, 9, 49, 9, 34, 97, 34, 10]⟩ (by decide))
  clear b1 hp
  go_wp2_with fail
  refine HP.out.mono ?_
  intro e w2 hT
  rw [one_right, show streamQ oneP.decls (cutB 10 (⟨#[101, 9, 49, 9, 34, 97, 34, 10]⟩ : ByteArray).data.toList) = _ from one_stream1] at hT
  cases hT with
  | tree h _ => cases h
  | bad _ h _ => cases h
  | @good acc v W _ h b2 hS =>
  cases h
  have hS : SlOf w2 w2.heap.size 1 (RwsC w2 w2.heap.size) [[oneW]] v := hS
  have B2 := Lib.hid (B1.out.trans (b2.mono B1.out.size))
  clear b2 HP
  obtain ⟨g, cg, rfl, hcg, _, SG⟩ := SlOf.open hS
  obtain ⟨ag, _, rfl, hag, _, ⟨vh, rfl, hvh⟩, hch⟩ := SG.out 0 [oneW] rfl
  obtain ⟨gh, ch, rfl, _, _, SH⟩ := SlOf.open hvh
  obtain ⟨ah, _, rfl, hah, _, ⟨vr, rfl, hvr⟩, hcr⟩ := SH.out 0 oneW rfl
  obtain ⟨gr, cr, rfl, _, _, SR⟩ := SlOf.open hvr
  have Hch := Lib.hid hch.n1
  have Hcr := Lib.hid hcr.n1
  have HSR := Lib.hid SR
  have Hl := Lib.hid (⟨hag, hah⟩ : ag.block < w2.heap.size ∧ ah.block < w2.heap.size)
  clear hS hvh hvr hch hcr SG SH SR hag hah
  go_wp2_with fail
  refine (one10_c w2).mono ?_
  rintro e w3 ⟨⟨cs3⟩, rfl, hp3, b3⟩
  have B3 := Lib.hid (B2.out.trans (b3.mono B2.out.size))
  have HB3 := Lib.hid b3
  have HP3 := Lib.hid (HR.out w3 B3.out cs3 hp3 ⟨#[101, 9, 49, 9, 34, 97, 34, 10, 101, 9, 48, 49, 9, 34, 97, 34, 10]⟩ (by decide))
  clear b3 hp3
  go_wp2_with fail
  refine HP3.out.mono ?_
  intro e w4 hT
  rw [one_right, show streamQ oneP.decls (cutB 10 (⟨#[101, 9, 49, 9, 34, 97, 34, 10, 101, 9, 48, 49, 9, 34, 97, 34, 10]⟩ : ByteArray).data.toList) = _ from one_stream2] at hT
  cases hT with
  | tree h _ => cases h
  | good _ h _ _ => cases h
  | @bad n e W _ h b4 =>
  cases h
  have HB4 := Lib.hid (HB3.out.trans (b4.mono HB3.out.size))
  have B4 := Lib.hid (B3.out.trans (b4.mono B3.out.size))
  clear b4 HP3
  obtain ⟨ar, rfl, har, _, _, d0, d1, d2⟩ := vl_at HSR.out HB4.out (k := 0) rfl
  obtain ⟨_, ee, _, _, _, d3, d4, d5⟩ := vl_at HSR.out HB4.out (k := 1) rfl
  cases ee
  have c1 : w4.cell? ag = some (.slice (some ah) 1 ch) := (HB4.out.cell (p := ag.add (0 * 1)) Hl.out.1).trans Hch.out
  have c2 : w4.cell? ah = some (.slice (some ar) 2 cr) := (HB4.out.cell (p := ah.add (0 * 1)) Hl.out.2).trans Hcr.out
  replace d0 : w4.cell? ar = some (.bool false) := d0
  replace d1 : w4.cell? ⟨ar.block, ar.off + 1, none⟩ = some (.int .i64 1) := d1
  replace d2 : w4.cell? ⟨ar.block, ar.off + 2, none⟩ = some (.string ⟨#[]⟩) := d2
  replace d3 : w4.cell? (ar.add 3) = some (.bool true) := d3
  replace d4 : w4.cell? ⟨ar.block, ar.off + 3 + 1, none⟩ = some (.int .i64 0) := d4
  replace d5 : w4.cell? ⟨ar.block, ar.off + 3 + 2, none⟩ = some (.string ⟨#[97]⟩) := d5
  clear Hch Hcr HSR HR HE
  go_wp2
  trace_state
  go_ret
  exact ⟨rfl, B4.out⟩
end Go.Proofs.YthhepmddcncjoaaGreatDoor
namespace Go.Proofs.YthhepmddcncjoaaGreatDoor
open Go.RowKit

theorem rws_at {w wr : World} {l : List (List Rw)} {o : Option Addr} {k : Nat} {x : List Rw} (S : Hid (SlIn w w.heap.size 1 (RwsC w w.heap.size) l o)) (hB : Below w.heap.size w wr) (ht : l[k]? = some x) :
    ∃ a o' cap', o = some a ∧ a.block < w.heap.size ∧ RwsS wr wr.heap.size x (.slice o' x.length cap') ∧ wr.cell? (a.add k) = some (.slice o' x.length cap') := by
  obtain ⟨a, cs, rfl, ha, _, ⟨v, rfl, h1⟩, h2⟩ := S.out k x ht
  obtain ⟨o', cap', rfl, _⟩ := SlOf.uni h1
  have h3 := (h2.below ha hB).n1
  rw [Nat.mul_one] at h3
  exact ⟨a, o', cap', rfl, ha, SlOf.more (SlOf.below h1 hB fun _ _ _ h => RwC.below h hB) hB.size fun _ _ _ h => RwC.more h hB.size, h3⟩
set_option maxRecDepth 100000 in
set_option maxHeartbeats 4000000 in
theorem same09_c (l : List (List Rw)) (v u : Value) (w : World) (h1 : SlOf w w.heap.size 1 (RwsC w w.heap.size) l v) (h2 : SlOf w w.heap.size 1 (RwsC w w.heap.size) l u) :
    Calls Tryz.prog 15 #[v, u] w fun e w' => e = .returned (.bool true) ∧ Below w.heap.size w w' := by
  obtain ⟨o1, cap1, rfl, hc1, hm1, S1⟩ := SlOf.open h1
  obtain ⟨o2, cap2, rfl, hc2, hm2, S2⟩ := SlOf.open h2
  clear h1 h2
  go_enter Tryz.func15, Tryz.ntmps15
  go_wp2
  go_loopw [5] (fun i wr => ∃ k : Nat, k ≤ l.length ∧ i = .int .i64 (k : Int) ∧ Below w.heap.size w wr) (fun i _ => l.length - (intOf i).toNat)
  case atStart => exact ⟨0, Nat.zero_le _, rfl, Below.refl _ _⟩
  case round =>
    obtain ⟨k, hk, rfl, hB⟩ := hrel
    by_cases hlt : k < l.length
    · have hlt' : (k : Int) < (l.length : Int) := by omega
      have hk0 : (0 : Int) ≤ (k : Int) := by omega
      obtain ⟨x, hx⟩ : ∃ x, l[k]? = some x := ⟨l[k], List.getElem?_eq_getElem hlt⟩
      obtain ⟨a1, p1, q1, rfl, ha1, R1, c1⟩ := rws_at S1 hB hx
      obtain ⟨a2, p2, q2, rfl, ha2, R2, c2⟩ := rws_at S2 hB hx
      have hBs := hB.size
      have hS : ∀ W', Below wr.heap.size wr.drew W' → W'.cell? (a1.add k) = some (.slice p1 x.length q1) ∧ W'.cell? (a2.add k) = some (.slice p2 x.length q2) ∧ Below wr.heap.size wr.drew W' := fun W' h =>
        ⟨(h.cell (by rw [addBlock]; omega)).trans c1, (h.cell (by rw [addBlock]; omega)).trans c2, h⟩
      have hS0 := hS wr.drew (Below.refl _ _)
      have HC : Hid (∀ W', Below wr.heap.size wr.drew W' → Calls Tryz.prog 34 #[.slice p1 x.length q1, .slice p2 x.length q2] W' fun e w' => e = .returned (.bool true) ∧ Below wr.heap.size wr.drew w') := Lib.hid fun W' h => by
        have hb2 : Below wr.heap.size wr W' := drewB h
        have hm := fun {y : List Rw} {z : Value} (R : RwsS wr wr.heap.size y z) => (SlOf.more (SlOf.below R hb2 fun _ _ _ h => RwC.below h hb2) hb2.size fun _ _ _ h => RwC.more h hb2.size : RwsS W' W'.heap.size y z)
        refine (rsame_c x x _ _ W' (hm R1) (hm R2)).mono ?_
        rintro e w' ⟨rfl, b⟩
        exact ⟨by rw [(sameWs_iff x x).2 rfl], h.trans (b.mono h.size)⟩
      have HB := Lib.hid hB
      have HK := Lib.hid hS
      clear hx R1 R2 c1 c2 hS
      go_wp2_with fail
      go_region_held3 (fun w' => w'.cell? (a1.add k) = some (.slice p1 x.length q1) ∧ w'.cell? (a2.add k) = some (.slice p2 x.length q2) ∧ Below wr.heap.size wr.drew w') (first | exact hk1 | exact hS0)
        (first | (go_at_call 34; refine (HC.out _ hS0.2.2).mono ?_; rintro e1 w1 ⟨rfl, b1⟩; have hk1 := HK.out _ b1))
      all_goals
        have HB1 := Lib.hid (HB.out.trans ((drewB hk1.2.2).mono HB.out.size))
        clear hk1 hS0
        go_wp2
        go_roundw
        case rel => exact ⟨k + 1, by omega, by go_num, HB1.out⟩
        case measure => simp [intOf]; omega
    · have hlt' : ¬ (k : Int) < (l.length : Int) := by omega
      go_wp2
      go_ret
      exact ⟨rfl, hB⟩
end Go.Proofs.YthhepmddcncjoaaGreatDoor
