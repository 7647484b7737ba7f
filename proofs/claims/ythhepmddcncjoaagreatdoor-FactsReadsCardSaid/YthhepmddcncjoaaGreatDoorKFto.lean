/- soritesref10.Read. soriteslaw10.FactsReads. -/
import Derived.Test.YthhepmddcncjoaaGreatDoorKFrc
import Derived.Test.YthhepmddcncjoaaGreatDoorKTchk2
import Derived.Test.YthhepmddcncjoaaGreatDoorKConv
import Derived.Test.YthhepmddcncjoaaGreatDoorKFR
import Derived.Test.YthhepmddcncjoaaGreatDoorKFpa
import Derived.Test.YthhepmddcncjoaaGreatDoorKTsmall
set_option linter.unusedSimpArgs false
set_option linter.unusedVariables false
namespace Go.Proofs.YthhepmddcncjoaaGreatDoor
open Go.RowKit

theorem wpList_make_rows {P : Program} (w : World) {ops : Array Oper} {rest : List Oper} {o : Oper} {a : Act} {Q : Exit → Act → World → Prop}
    (hg : o.guard = none) (l c : Operand) (t : TypeId) (hop : o.op = Op.makeSlice t l c)
    (e : TypeId) (i : TypeInfo) (z : Value) (h1 : P.underlying t = some (.slice e)) (h2 : P.info? e = some i) (h3 : i.zero = some z) (h4 : i.size = 1)
    (m : Nat) (hl : a.eval l = .int .i64 (m : Int)) (hc : a.eval c = .int .i64 (m : Int)) (b2 : i.bytes * m ≤ 281474976710656) (b3 : m ≤ maxLen)
    (hK : wpList P ops Q rest (a.put o.dst (.slice (some ⟨w.heap.size, 0, none⟩) m m)) (w.alloc (.cells (madeCells z.cells m) e))) :
    wpList P ops Q (o :: rest) a w := by
  refine wpList_plain hg fun K hK' => ?_
  have h63' : (m : Int) ≤ 9223372036854775807 := by unfold maxLen at b3; omega
  have hb' : (i.bytes : Int) * (m : Int) ≤ 281474976710656 := by
    have h : ((i.bytes * m : Nat) : Int) ≤ 281474976710656 := by omega
    rwa [Int.natCast_mul] at h
  have hrun := run_make (P := P) w t e i z h1 h2 h3 .i64 .i64 m m (by omega) (Int.le_refl _) hb' h63'
  simp only [Int.toNat_natCast, h4, Nat.mul_one] at hrun
  unfold Oper.wp
  simp [execOp, hop, hl, hc, hrun, Result.andThen]
  exact hK' _ _ hK
theorem wrap_idF {z : Int} (h0 : 0 ≤ z) (h1 : z ≤ 2097152) : wrap64 z = z := by unfold wrap64; omega
theorem wrap_idK {z : Int} (h0 : 0 ≤ z) (h1 : z ≤ 2097152) : IntKind.i64.wrap z = z := by rw [IntKind.wrap_i64]; omega
theorem contL_last (ds : List De) (acc : List (Nat × Rw)) (n : Nat) (p : List UInt8) : contQ ds acc n [p] = if p.isEmpty = true then .inr acc else .inl (n + 1, 92) := by
  simp [contQ, linesQ]
theorem contL_cons (ds : List De) (acc : List (Nat × Rw)) (n : Nat) (p q : List UInt8) (ls : List (List UInt8)) : contQ ds acc n (p :: q :: ls) = match oneQ ds p with
    | .inl e => .inl (n + 1, e)
    | .inr x => contQ ds (acc ++ [x]) (n + 1) (q :: ls) := by
  have hd : (p :: q :: ls).dropLast = p :: (q :: ls).dropLast := List.dropLast_cons_of_ne_nil (by simp)
  have hg : (p :: q :: ls).getLast?.getD [] = (q :: ls).getLast?.getD [] := by rw [List.getLast?_cons_cons]
  unfold contQ
  rw [hd, hg, linesQ]
  cases oneQ ds p with
  | inl e => rfl
  | inr x =>
    simp only []
    cases linesQ ds (q :: ls).dropLast (n + 1) with
    | inl e => rfl
    | inr r =>
      simp only [List.append_assoc, List.singleton_append, List.length_cons]
      split
      · rfl
      · rw [show n + ((q :: ls).dropLast.length + 1) + 1 = n + 1 + (q :: ls).dropLast.length + 1 by omega]
theorem OwnG.head {W : World} {v : Value} {l : List Rw} (h : OwnG W v l) : HeadG l v W := by
  obtain ⟨base, css, h1, h2, h3⟩ := h
  have hall : ∀ x ∈ css, x.length = 1 := by
    intro x hx
    obtain ⟨i, hi⟩ := List.mem_iff_getElem?.1 hx
    have hil : i < l.length := by rw [← h1]; exact (List.getElem?_eq_some_iff.1 hi).1
    obtain ⟨cs, e, hz, _⟩ := h2 i l[i] (List.getElem?_eq_getElem hil)
    rw [hi] at e
    cases e
    exact hz
  obtain ⟨D, d1, d2, d3⟩ := heads_of (us := css.flatten) (rows := l) (P := fun r u => SlOf W W.heap.size 3 VlC r u) (by rw [h3.1, Nat.mul_one]) (fun i r hi => by
    obtain ⟨cs, e, hz, u, hu, hs⟩ := h2 i r hi
    subst hu
    refine ⟨u, ?_, hs⟩
    have := flat_get css i 0 [u] u hall e rfl
    rwa [Nat.mul_one, Nat.add_zero] at this)
  have hDl : D.length = l.length := by rw [← d1, List.length_map]
  rcases h3.2 with ⟨hv, h0⟩ | ⟨g, cap, cur, hv, _, h4, h5, h6, _, h7⟩
  · exact .inl ⟨hv, List.eq_nil_of_length_eq_zero h0⟩
  · refine .inr ⟨g, cap, cur.toList.drop l.length, D, by rw [hDl]; exact hv, h6, by omega, d1, ?_, d3⟩
    rw [d2, ← h7, Nat.mul_one, List.take_append_drop]
    exact h4
theorem OneR.inl {n0 : Nat} {w W : World} {er : Int} {e : Ending} (h : OneR n0 w (.inl er) e W) : e = .returned (.tuple #[.int .i64 0, .slice none 0 0, .int .i64 er]) ∧ Below n0 w W := by
  cases h with
  | bad h => exact ⟨rfl, h⟩
theorem OneR.inr {n0 : Nat} {w W : World} {k : Nat} {r : Rw} {e : Ending} (h : OneR n0 w (.inr (k, r)) e W) : ∃ v, e = .returned (.tuple #[.int .i64 (k : Int), v, .int .i64 0]) ∧ RowM n0 W r v ∧ Below n0 w W := by
  cases h with
  | good h1 h2 h3 => exact ⟨_, rfl, ⟨_, h2, h3⟩, h1⟩
theorem RowM.base {n0 m : Nat} {W : World} {r : Rw} {u : Value} (h : RowM n0 W r u) (hb : m ≤ n0) : RowM m W r u := by
  obtain ⟨xs, h1, h2⟩ := h
  exact ⟨xs, own_base h1 hb, h2⟩
theorem RowM.shape {n0 : Nat} {W : World} {r : Rw} {u : Value} (h : RowM n0 W r u) : ∃ o c, u = .slice o r.length c := by
  obtain ⟨xs, h1, _⟩ := h
  exact own_shape h1
theorem allM_start {n0 A N : Nat} {W : World} (h : W.heap[A]? = some (.cells (List.replicate N (Value.slice none 0 0)).toArray 41 (0, 0))) : AllM n0 A W (placedAll N []) (List.replicate N (.slice none 0 0)) := by
  refine ⟨h, by unfold placedAll; simp, ?_, ?_⟩
  · intro k v rows hk hf
    have hkN : k < N := by have := (List.getElem?_eq_some_iff.1 hk).1; simpa using this
    rw [placedAll_at _ hkN] at hf
    cases hf
    obtain ⟨_, hv⟩ := List.getElem?_eq_some_iff.1 hk
    rw [List.getElem_replicate] at hv
    subst hv
    exact ⟨[], World.ownsRow_nil _ _ _ _, fun i r hr => by simp [placedQ] at hr⟩
  · intro j k v v' b _ hj _ hb
    obtain ⟨_, hv⟩ := List.getElem?_eq_some_iff.1 hj
    rw [List.getElem_replicate] at hv
    subst hv
    cases hb
/-- What keeps all rows but those of heads. -/
def KeepT (W W' : World) : Prop := W.heap.size ≤ W'.heap.size ∧ ∀ (b : Nat) (cs : Array Value) (T : TypeId), T ≠ 39 → T ≠ 41 → W.heap[b]? = some (.cells cs T (0, 0)) → W'.heap[b]? = some (.cells cs T (0, 0))
theorem KeepT.refl (W : World) : KeepT W W := ⟨Nat.le_refl _, fun _ _ _ _ _ h => h⟩
theorem KeepT.trans {a b c : World} (h : KeepT a b) (k : KeepT b c) : KeepT a c := ⟨Nat.le_trans h.1 k.1, fun x cs T h1 h2 h3 => k.2 x cs T h1 h2 (h.2 x cs T h1 h2 h3)⟩
theorem KeepT.below {W W' : World} (h : Below W.heap.size W W') : KeepT W W' := ⟨h.size, fun _ _ _ _ _ h3 => (h.block _ (heap_lt h3)).trans h3⟩
theorem KeepT.grown {W W' : World} {n0 : Nat} {rows : List Rw} {v : Value} {us : List Value} (h : HeadM n0 W rows v us) (hg : W.grownBy W' v.ownBlock) : KeepT W W' :=
  ⟨hg.size, fun _ _ _ h1 _ h3 => (hg.block _ (heap_lt h3) (fun e => row_obj h.1 h3 h1 e.symm)).trans h3⟩
theorem KeepT.set {W : World} {A k : Nat} {cs : Array Value} (hA : W.heap[A]? = some (.cells cs 41 (0, 0))) (v : Value) : KeepT W (W.setCell ⟨A, k, none⟩ v) :=
  ⟨by simp [World.setCell], fun b cs' T _ h2 h3 => (Below.heap_setCell W ⟨A, k, none⟩ v b (fun e => by
    have e' : b = A := e
    rw [e', hA] at h3
    injection h3 with h3
    injection h3 with _ h4
    exact h2 h4.symm)).trans h3⟩
set_option linter.unusedSimpArgs false in
set_option maxRecDepth 100000 in
set_option maxHeartbeats 8000000 in
theorem rread_c (p : Pg) (s : ByteArray) (w : World) (cs : List Value) (hc : PgC w w.heap.size p cs) (hs : s.size ≤ 5000) :
    Calls Tryz.prog 14 #[.agg cs.toArray, .string s] w (ReadR w.heap.size p.decls.length w (rightP p) (streamQ p.decls (cutB 10 s.data.toList))) := by
  obtain ⟨i0, hi, hz0, hz1, hz2⟩ := info_parts infoRows
  obtain ⟨iH, hh, hh0, hh1, hh2⟩ := info_parts infoRow
  have HR := Lib.hid (fun (W : World) (hb : Below w.heap.size w W) => rright_c p W cs ((hc.below hb).more hb.size))
  have HO1 := Lib.hid (fun (x : ByteArray) (hx : x.size ≤ 5000) (W : World) (hb : Below w.heap.size w W) => rone_c p x W cs ((hc.below hb).more hb.size) hx)
  obtain ⟨o0, k0, o1, k1, rfl, hd, _⟩ := hc.look
  have HS := Lib.hid hs
  have HB0 : Hid (∀ (x : Obj), Below w.heap.size w (w.alloc x)) := Lib.hid fun x => alB w x
  clear hc hd hs
  go_enter Tryz.func14, Tryz.ntmps14
  go_wp2_with fail
  refine (HR.out _ (HB0.out _)).mono ?_
  rintro e w1 ⟨rfl, b1⟩
  have r1 := (b1.block w.heap.size (by simp)).trans (rowNew w 25 [.slice o0 p.decls.length k0, .slice o1 p.rules.length k1])
  have c0 : w1.cell? ⟨w.heap.size, 0, none⟩ = some (.slice o0 p.decls.length k0) := row_cells r1 0
  have hz1 := heap_lt r1
  have B1 := Lib.hid ((HB0.out (.cells #[.slice o0 p.decls.length k0, .slice o1 p.rules.length k1] 25)).trans (b1.mono (by simp)))
  have HR1 := Lib.hid r1
  clear b1 r1
  cases hr : rightP p with
  | false =>
    have Hr := Lib.hid hr
    clear hr
    go_wp2
    go_ret3
    exact .tree Hr.out B1.out
  | true =>
    have Hr := Lib.hid hr
    have hN60 : p.decls.length ≤ 60 := by
      unfold rightP at hr
      simp only [Bool.and_eq_true, decide_eq_true_eq] at hr
      exact hr.1.1.1
    have HN60 := Lib.hid hN60
    have HK1 : Hid (i0.bytes * p.decls.length ≤ 281474976710656) := Lib.hid (by rw [hz2]; omega)
    have HK2 : Hid (p.decls.length ≤ maxLen) := Lib.hid (by unfold maxLen; omega)
    clear hr hN60
    go_wp2_with (at_make; refine wpList_make_rows _ rfl _ _ 29 rfl 41 i0 _ Tryz.underlying29 hi hz0 (by assumption) p.decls.length rfl rfl HK1.out HK2.out ?_; rw [made_nil])
    obtain ⟨W2, hW2⟩ : ∃ W2, w1.alloc (.cells (Array.replicate p.decls.length (Value.slice none 0 0)) 41) = W2 := ⟨_, rfl⟩
    have hA2 : W2.heap[w1.heap.size]? = some (.cells (List.replicate p.decls.length (Value.slice none 0 0)).toArray 41 (0, 0)) := by rw [← hW2, List.toArray_replicate]; exact World.alloc_heap_new w1 _
    have b2 : Below w1.heap.size w1 W2 := by rw [← hW2]; exact alB _ _
    have HA2 := Lib.hid (allM_start (n0 := w.heap.size) hA2)
    have B2 := Lib.hid (B1.out.trans (b2.mono B1.out.size))
    have HR2 := Lib.hid ((b2.block _ (heap_lt HR1.out)).trans HR1.out)
    have HAl := Lib.hid (heap_lt hA2)
    have HAn : Hid (w.heap.size ≤ w1.heap.size) := Lib.hid B1.out.size
    obtain ⟨A, hA⟩ : ∃ A, w1.heap.size = A := ⟨_, rfl⟩
    rw [hA] at HA2 HAl HAn
    have HC := Lib.hid (rcut_c s 10 W2 (by have := HS.out; omega))
    try rw [hW2]
    rw [hA]
    clear hA2 b2 c0 hW2 hz1 hA HR1 B1
    go_wp2_with fail
    refine HC.out.mono ?_
    rintro e w3 ⟨v, ls, rfl, hls, hown, b3⟩
    have HLs := Lib.hid hls
    have hlsz : ∀ x ∈ ls, x.size ≤ 5000 := fun x hx => by
      have h1 := cutB_size 10 s.data.toList x.data.toList (by rw [← hls]; exact List.mem_map_of_mem hx)
      have h2 : x.data.toList.length = x.size := by simp
      have h3 : s.data.toList.length = s.size := by simp
      have := HS.out
      omega
    have HLz := Lib.hid hlsz
    have HCl : Hid (ls.length ≤ 5001 ∧ 1 ≤ ls.length) := Lib.hid (by
      have h1 := congrArg List.length hls
      rw [List.length_map, cutB_len] at h1
      have h2 : s.data.toList.count 10 ≤ s.data.toList.length := List.count_le_length
      have h3 : s.data.toList.length = s.size := by simp
      have := HS.out
      omega)
    obtain ⟨g, cq, cur, rfl, hgrow, hcur⟩ : ∃ g cq cur, v = .slice (some ⟨g, 0, none⟩) ls.length cq ∧ w3.heap[g]? = some (.cells cur 9 (0, 0)) ∧ ∀ (i : Nat) (x : ByteArray), ls[i]? = some x → cur[i]? = some (.string x) := by
      rcases hown.2 with ⟨_, h0⟩ | ⟨g, cap, cur, hv, _, h3, h4, h5, h6, h7⟩
      · have := HCl.out.2; omega
      · refine ⟨g, cap, cur, hv, h3, fun i x hx => ?_⟩
        have h8 : (cur.toList.take (ls.length * 1))[i]? = some (.string x) := by rw [h7, List.getElem?_map, hx]; rfl
        have hil := (List.getElem?_eq_some_iff.1 hx).1
        rw [List.getElem?_take, if_pos (by omega), Array.getElem?_toList] at h8
        exact h8
    have HG := Lib.hid hgrow
    have HCur := Lib.hid hcur
    have B3 := Lib.hid (B2.out.trans (b3.mono B2.out.size))
    have HA3 := Lib.hid (HA2.out.below b3)
    have HR3 := Lib.hid ((b3.block _ (heap_lt HR2.out)).trans HR2.out)
    have HAl3 := Lib.hid (Nat.lt_of_lt_of_le HAl.out b3.size)
    have HQ0 : Hid (streamQ p.decls (cutB 10 s.data.toList) = contQ p.decls [] 0 ((ls.map fun x => x.data.toList).drop 0)) := Lib.hid (by rw [← HLs.out, stream_cont]; rfl)
    have HlsL : Hid (cutB 10 s.data.toList = ls.map fun x => x.data.toList) := Lib.hid HLs.out.symm
    clear hls hlsz hown b3 HA2 HR2 HAl HC hgrow hcur
    go_wp2
    go_loopw [10] (fun i wr => ∃ (k : Nat) (acc : List (Nat × Rw)) (vs : List Value), k < ls.length ∧ i = .int .i64 (k : Int) ∧ Hid (AllM w.heap.size A wr (placedAll p.decls.length acc) vs) ∧ acc.length = k ∧ Hid (streamQ p.decls (cutB 10 s.data.toList) = contQ p.decls acc k ((ls.map fun x => x.data.toList).drop k)) ∧ Hid (KeepT w3 wr) ∧ Hid (Below w.heap.size w wr)) (fun i _ => ls.length - (intOf i).toNat)
    case atStart => exact ⟨0, [], _, HCl.out.2, rfl, HA3, rfl, HQ0, Lib.hid (KeepT.refl _), B3⟩
    case round =>
      obtain ⟨k, acc, vs, hk, rfl, HA, hacc, HQ, HK, HB⟩ := hrel
      have hcl1 := HCl.out
      have HW1 : Hid (wrap64 ((ls.length : Int) - 1) = (ls.length : Int) - 1) := Lib.hid (wrap_idF (by omega) (by omega))
      have HW2 : Hid (IntKind.i64.wrap ((ls.length : Int) - 1) = (ls.length : Int) - 1) := Lib.hid (wrap_idK (by omega) (by omega))
      have HW3 : Hid (wrap64 ((k : Int) + 1) = (k : Int) + 1) := Lib.hid (wrap_idF (by omega) (by omega))
      clear hcl1
      have hk0 : (0 : Int) ≤ (k : Int) := by omega
      have hlt : (k : Int) < (ls.length : Int) := by omega
      obtain ⟨x, hx⟩ : ∃ x, ls[k]? = some x := ⟨ls[k], List.getElem?_eq_getElem hk⟩
      have hxs : x.size ≤ 5000 := HLz.out x (List.mem_of_getElem? hx)
      have hrowS := HK.out.2 g cur _ (by decide) (by decide) HG.out
      have hrowP := HK.out.2 w.heap.size _ _ (by decide) (by decide) HR3.out
      have ek := addK g k
      have cS : wr.cell? ⟨g, k, none⟩ = some (.string x) := (row_cells hrowS k).trans (HCur.out k x hx)
      have p0 : wr.cell? ⟨w.heap.size, 0, none⟩ = some (.slice o0 p.decls.length k0) := row_cells hrowP 0
      have p1 : wr.cell? ⟨w.heap.size, 1, none⟩ = some (.slice o1 p.rules.length k1) := row_cells hrowP 1
      have hzS := heap_lt hrowS
      have hzP := heap_lt hrowP
      have hT : (ls.map fun x => x.data.toList)[k]? = some x.data.toList := by rw [List.getElem?_map, hx]; rfl
      have hTl : (ls.map fun x => x.data.toList).length = ls.length := by simp
      have hTd : (ls.map fun x => x.data.toList).drop k = x.data.toList :: (ls.map fun x => x.data.toList).drop (k + 1) := by
        rw [List.drop_eq_getElem_cons (by rw [hTl]; exact hk)]
        have := (List.getElem?_eq_some_iff.1 hT).2
        rw [this]
      have HTd := Lib.hid hTd
      have HTl := Lib.hid hTl
      have HX := Lib.hid hx
      have Hacc := Lib.hid hacc
      have Hk := Lib.hid hk
      clear hT hTl hTd hx hrowS hrowP hacc
      by_cases hlast : k + 1 = ls.length
      · have heq : ((k : Int) == (ls.length : Int) - 1) = true := by rw [beq_iff_eq]; omega
        have HQl : Hid (streamQ p.decls (cutB 10 s.data.toList) = if x.data.toList.isEmpty = true then .inr acc else .inl (k + 1, 92)) := Lib.hid (by
          rw [HQ.out, HTd.out, List.drop_of_length_le (by rw [HTl.out]; omega), contL_last])
        by_cases hxe : x.data.toList = []
        · have HSt : Hid (streamQ p.decls (cutB 10 s.data.toList) = .inr acc) := Lib.hid (by rw [HQl.out, hxe]; rfl)
          have hx0 : (x.toList == []) = true := by rw [Lib.toList_data, hxe]; rfl
          clear hxe
          obtain ⟨wk, rfl⟩ : ∃ wk, wk = wr := ⟨_, rfl⟩
          have HAg := Lib.hid HA.out.g
          have hwl := HW1.out
          have hwl2 := HW2.out
          have hwk := HW3.out
          go_wp2
          clear hwl hwl2 hwk cS p0 p1 hzS hzP ek
          go_loopw [14] (fun i wq => ∃ (c : Nat) (us : List Value), c ≤ p.decls.length ∧ i = .int .i64 (c : Int) ∧ AllH A wq (mixQ p.decls.length acc c) us ∧ Hid (Below w.heap.size w wq)) (fun i _ => p.decls.length - (intOf i).toNat)
          case atStart => exact ⟨0, vs, Nat.zero_le _, rfl, by rw [mixQ_zero]; exact HAg.out, HB⟩
          case round =>
            obtain ⟨c, us, hc, rfl, hG, HBr⟩ := hrel
            have hN60 := HN60.out
            by_cases hcl : c < p.decls.length
            · have hcl' : (c : Int) < (p.decls.length : Int) := by omega
              have hc0 : (0 : Int) ≤ (c : Int) := by omega
              have hul : c < us.length := by rw [hG.len, mixQ_len]; exact hcl
              obtain ⟨v, hv⟩ : ∃ v, us[c]? = some v := ⟨_, List.getElem?_eq_getElem hul⟩
              have hm := mixQ_at acc c hcl
              rw [if_neg (by omega)] at hm
              have hhd := hG.hd c v _ hv hm
              have HPs := Lib.hid (rsort_c (placedQ acc c) v wr (by
                  have h1 : (placedQ acc c).length ≤ acc.length := by unfold placedQ; rw [List.length_map]; exact List.length_filter_le _ _
                  have h2 := Hacc.out
                  have h3 := HCl.out.1
                  have h4 := Hk.out
                  omega) hhd.sl)
              obtain ⟨o, n, cc, rfl⟩ := hhd.shape
              have y0 : wr.cell? ⟨A, c, none⟩ = some (.slice o n cc) := by
                have := row_cells hG.arr c
                rw [this]; simpa using hv
              have hzA := heap_lt hG.arr
              have ekA := addK A c
              have HG' := Lib.hid hG
              have Hv := Lib.hid hv
              have Hm := Lib.hid hm
              clear hhd hG hv hm hul
              go_wp2_with fail
              refine HPs.out.mono ?_
              rintro e4 w4 ⟨v', rfl, hsg, b4⟩
              have hG4 := HG'.out.below b4
              have HG4 := Lib.hid hG4
              have HSg := Lib.hid hsg.head
              obtain ⟨o', n', c', rfl⟩ := HSg.out.shape
              have z0 : w4.cell? ⟨A, c, none⟩ = some (.slice o n cc) := by
                have := row_cells hG4.arr c
                rw [this]; simpa using Hv.out
              have zf := frz_row hG4.arr c
              have hz4 := heap_lt hG4.arr
              have HB4 := Lib.hid (HBr.out.trans (b4.mono HBr.out.size))
              have HFin : Hid (AllH A (w4.setCell ⟨A, c, none⟩ (.slice o' n' c')) (mixQ p.decls.length acc (c + 1)) (us.set c (.slice o' n' c')) ∧ Below w.heap.size w (w4.setCell ⟨A, c, none⟩ (.slice o' n' c'))) := Lib.hid (by
                have := HG4.out.store Hv.out Hm.out HSg.out
                rw [mixQ_set acc hcl] at this
                exact ⟨this, HB4.out.setCell (p := ⟨A, c, none⟩) HAn.out _⟩)
              clear hG4 b4 y0 hsg
              go_wp2
              go_roundw
              case rel => exact ⟨c + 1, _, hcl, by go_num, HFin.out.1, Lib.hid HFin.out.2⟩
              case measure => simp [intOf]; omega
            · have hcl' : ¬ (c : Int) < (p.decls.length : Int) := by omega
              have hce : c = p.decls.length := by omega
              have hsl := hG.sl (by rw [mixQ_len]; unfold maxLen; omega)
              rw [mixQ_len, hce, mixQ_all] at hsl
              have HSl := Lib.hid hsl
              clear hG hsl hce
              go_wp2
              go_ret3
              exact .good Hr.out HSt.out HBr.out HSl.out
        · have HSt : Hid (streamQ p.decls (cutB 10 s.data.toList) = .inl (k + 1, 92)) := Lib.hid (by rw [HQl.out, if_neg (by simpa using hxe)])
          have hx0 : (x.toList == []) = false := by rw [Lib.toList_data, beq_eq_false_iff_ne]; exact hxe
          clear hxe
          have hwl := HW1.out
          have hwl2 := HW2.out
          have hwk := HW3.out
          go_wp2
          go_ret3
          clear hwl hwl2 hwk
          rw [HW3.out, show ((k : Int) + 1) = ((k + 1 : Nat) : Int) by omega]
          exact .bad Hr.out HSt.out HB.out
      · have hne : ((k : Int) == (ls.length : Int) - 1) = false := by rw [beq_eq_false_iff_ne]; omega
        obtain ⟨q, hq⟩ : ∃ q, (ls.map fun x => x.data.toList)[k + 1]? = some q := ⟨(ls.map fun x => x.data.toList)[k + 1]'(by rw [HTl.out]; omega), List.getElem?_eq_getElem _⟩
        have hTq : (ls.map fun x => x.data.toList).drop (k + 1) = q :: (ls.map fun x => x.data.toList).drop (k + 2) := by
          rw [List.drop_eq_getElem_cons (by rw [HTl.out]; omega), (List.getElem?_eq_some_iff.1 hq).2]
        have HQn : Hid (streamQ p.decls (cutB 10 s.data.toList) = match oneQ p.decls x.data.toList with
            | .inl e => .inl (k + 1, e)
            | .inr y => contQ p.decls (acc ++ [y]) (k + 1) ((ls.map fun x => x.data.toList).drop (k + 1))) := Lib.hid (by
          rw [HQ.out, HTd.out, hTq, contL_cons])
        have HC1 := Lib.hid (fun (W' : World) (h : Below wr.heap.size wr.drew W') => HO1.out x hxs W' (HB.out.trans ((drewB h).mono HB.out.size)))
        have hS : ∀ W', Below wr.heap.size wr.drew W' → W'.cell? ⟨w.heap.size, 0, none⟩ = some (.slice o0 p.decls.length k0) ∧ W'.cell? ⟨w.heap.size, 1, none⟩ = some (.slice o1 p.rules.length k1) ∧ W'.cell? ⟨g, k, none⟩ = some (.string x) ∧ Below wr.heap.size wr.drew W' := fun W' h =>
          ⟨(h.cell (p := ⟨w.heap.size, 0, none⟩) hzP).trans p0, (h.cell (p := ⟨w.heap.size, 1, none⟩) hzP).trans p1, (h.cell (p := ⟨g, k, none⟩) hzS).trans cS, h⟩
        have hS0 := hS wr.drew (Below.refl _ _)
        have HSk := Lib.hid (fun (w' w'' : World) (h1 : Below wr.heap.size wr.drew w') (h2 : Below w'.heap.size w' w'') => hS _ (h1.trans (h2.mono h1.size)))
        clear hq hTq hS
        cases ho : oneQ p.decls x.data.toList with
        | inl er =>
          have HSt : Hid (streamQ p.decls (cutB 10 s.data.toList) = .inl (k + 1, er)) := Lib.hid (by rw [HQn.out, ho])
          have her : (er != 0) = true := by
            have := oneQ_bad ho
            unfold bad4 at this
            rcases this with h | h | h | h <;> rw [h] <;> rfl
          rw [ho] at HC1
          have HC2 : Hid (∀ (W' : World), Below wr.heap.size wr.drew W' → Calls Tryz.prog 32 #[.agg #[.slice o0 p.decls.length k0, .slice o1 p.rules.length k1], .string x] W' fun e W'' => e = .returned (.tuple #[.int .i64 0, .slice none 0 0, .int .i64 er]) ∧ Below W'.heap.size W' W'') := Lib.hid fun W' h => (HC1.out W' h).mono fun e W'' h2 => h2.inl
          clear ho HC1
          have hwl := HW1.out
          have hwl2 := HW2.out
          have hwk := HW3.out
          go_wp2_with fail
          clear hwl hwl2
          go_region_held3 (fun w' => w'.cell? ⟨w.heap.size, 0, none⟩ = some (.slice o0 p.decls.length k0) ∧ w'.cell? ⟨w.heap.size, 1, none⟩ = some (.slice o1 p.rules.length k1) ∧ w'.cell? ⟨g, k, none⟩ = some (.string x) ∧ Below wr.heap.size wr.drew w') (first | exact hk1 | exact hS0)
            (first | (go_at_call 32; refine (HC2.out _ hS0.2.2.2).mono ?_; rintro e1 w4 ⟨rfl, b4⟩; have hk1 := HSk.out _ _ hS0.2.2.2 b4))
          all_goals
            have HB4 := Lib.hid (HB.out.trans ((drewB hk1.2.2.2).mono HB.out.size))
            clear hk1 hS0
            go_wp2
            go_ret3
            clear hwk
            rw [HW3.out, show ((k : Int) + 1) = ((k + 1 : Nat) : Int) by omega]
            exact .bad Hr.out HSt.out HB4.out
        | inr y =>
          obtain ⟨k2, r⟩ := y
          have hat := (oneQ_fit ho).1
          have HQ2 : Hid (streamQ p.decls (cutB 10 s.data.toList) = contQ p.decls (acc ++ [(k2, r)]) (k + 1) ((ls.map fun x => x.data.toList).drop (k + 1))) := Lib.hid (by rw [HQn.out, ho])
          rw [ho] at HC1
          have HC2 : Hid (∀ (W' : World), Below wr.heap.size wr.drew W' → Calls Tryz.prog 32 #[.agg #[.slice o0 p.decls.length k0, .slice o1 p.rules.length k1], .string x] W' fun e W'' => ∃ orw crw, e = .returned (.tuple #[.int .i64 (k2 : Int), .slice orw r.length crw, .int .i64 0]) ∧ RowM w.heap.size W'' r (.slice orw r.length crw) ∧ Below W'.heap.size W' W'') := Lib.hid fun W' h => (HC1.out W' h).mono fun e W'' h2 => by
            obtain ⟨v, rfl, h3, h4⟩ := h2.inr
            obtain ⟨o, c, rfl⟩ := h3.shape
            exact ⟨o, c, rfl, h3.base (Nat.le_trans HB.out.size h.size), h4⟩
          have hat0 : (0 : Int) ≤ (k2 : Int) := by omega
          have hatl : (k2 : Int) < (p.decls.length : Int) := by omega
          have hvl : k2 < vs.length := by rw [HA.out.len]; unfold placedAll; simpa using hat
          obtain ⟨hv0, hhv⟩ : ∃ z, vs[k2]? = some z := ⟨_, List.getElem?_eq_getElem hvl⟩
          obtain ⟨us, hus⟩ := HA.out.hd k2 hv0 _ hhv (placedAll_at acc hat)
          obtain ⟨oh, ch, rfl⟩ := own_shape hus.1
          have ekA := addK A k2
          have Hhv := Lib.hid hhv
          have Hus := Lib.hid hus
          have Hat := Lib.hid hat
          have Hnh : Hid ((placedQ acc k2).length + 1 ≤ maxLen ∧ ((placedQ acc k2).length + 1) * 24 ≤ 140737488355328) := Lib.hid (by
            have h1 : (placedQ acc k2).length ≤ acc.length := by unfold placedQ; rw [List.length_map]; exact List.length_filter_le _ _
            have h2 := Hacc.out
            have h3 := HCl.out.1
            have h4 := Hk.out
            unfold maxLen
            omega)
          clear ho HC1 hhv hus hvl hat
          have hwl := HW1.out
          have hwl2 := HW2.out
          have hwk := HW3.out
          go_wp2_with fail
          clear hwl hwl2 hwk
          go_region_held3 (fun w' => w'.cell? ⟨w.heap.size, 0, none⟩ = some (.slice o0 p.decls.length k0) ∧ w'.cell? ⟨w.heap.size, 1, none⟩ = some (.slice o1 p.rules.length k1) ∧ w'.cell? ⟨g, k, none⟩ = some (.string x) ∧ Below wr.heap.size wr.drew w') (first | exact hk1 | exact hS0)
            (first | (go_at_call 32; refine (HC2.out _ hS0.2.2.2).mono ?_; rintro e1 w4 ⟨orw, crw, rfl, hrm, b4⟩; have hk1 := HSk.out _ _ hS0.2.2.2 b4))
          all_goals
            have hb4 := drewB hk1.2.2.2
            have hA4 := HA.out.below hb4
            have HB4 := Lib.hid (HB.out.trans (hb4.mono HB.out.size))
            have HK4 := Lib.hid (HK.out.trans (KeepT.below hb4))
            have hus4 : HeadM w.heap.size w4 (placedQ acc k2) (.slice oh (placedQ acc k2).length ch) us := Hus.out.keep (.below hb4) fun b hb => hb4.block b (Hus.out.1.lt b hb).2
            have a0 : w4.cell? ⟨A, k2, none⟩ = some (.slice oh (placedQ acc k2).length ch) := by
              have := row_cells hA4.arr k2
              rw [this]; simpa using Hhv.out
            have hzA4 := heap_lt hA4.arr
            have HA4 := Lib.hid hA4
            have Hus4 := Lib.hid hus4
            have Hrm := Lib.hid hrm
            have hsz4 : w.heap.size ≤ w4.heap.size := HB4.out.size
            clear hk1 hS0 hb4 hA4 hus4 hrm
            go_wp2_with (at_builtin; refine wpList_append_any _ rfl (.tmp 63) (.tmp 65) 41 rfl w.heap.size 39 iH _ 1 24 Tryz.underlying41 hh hh0 hh1 hh2 rfl (by decide) (.slice oh (placedQ acc k2).length ch) (placedQ acc k2).length us rfl (own_past Hus4.out.1 (alB _ _)) (.slice (some ⟨w4.heap.size, 0, none⟩) 1 1) 1 [.slice orw r.length crw] rfl (.inr ⟨_, _, rfl, rfl, World.news_of_block (World.alloc_heap_new _ _), one_row _ rfl⟩) Hnh.out.1 Hnh.out.2 ?d5 ?_)
            case d5 => first | omega | (simp; omega)
            intro v6 w6 hown6 hg6 hn6
            have hb5 := alB w4 (.cells #[.slice orw r.length crw] 39)
            have hA5 := HA4.out.below hb5
            have hus5 : HeadM w.heap.size (w4.alloc (.cells #[.slice orw r.length crw] 39)) (placedQ acc k2) (.slice oh (placedQ acc k2).length ch) us := Hus4.out.keep (.below hb5) fun b hb => hb5.block b (Hus4.out.1.lt b hb).2
            have hrm5 := Hrm.out.keep (ValK.below hb5)
            have hS6 := hA5.append Hhv.out (placedAll_at acc Hat.out) hus5 hrm5 hown6 hg6 (by simpa using hn6)
            rw [placedAll_set acc r Hat.out] at hS6
            have HB6 : Hid (Below w.heap.size w w6) := Lib.hid ((HB4.out.trans (hb5.mono HB4.out.size)).grown hg6 (by simp; omega) (fun j hj => (Hus4.out.1.lt j hj).1))
            have HK6 := Lib.hid ((HK4.out.trans (KeepT.below hb5)).trans (KeepT.grown hus5 hg6))
            obtain ⟨o6, c6, rfl⟩ := own_shape hown6
            have a6 : w6.cell? ⟨A, k2, none⟩ = some (.slice oh (placedQ acc k2).length ch) := by
              have := row_cells hS6.arr k2
              rw [this]; simpa using Hhv.out
            have af6 := frz_row hS6.arr k2
            have hzA6 := heap_lt hS6.arr
            have HFin : Hid (AllM w.heap.size A (w6.setCell ⟨A, k2, none⟩ (.slice o6 ((placedQ acc k2).length + 1) c6)) (placedAll p.decls.length (acc ++ [(k2, r)])) (vs.set k2 (.slice o6 ((placedQ acc k2).length + 1) c6)) ∧ KeepT w3 (w6.setCell ⟨A, k2, none⟩ (.slice o6 ((placedQ acc k2).length + 1) c6)) ∧ Below w.heap.size w (w6.setCell ⟨A, k2, none⟩ (.slice o6 ((placedQ acc k2).length + 1) c6))) := Lib.hid ⟨hS6.store, HK6.out.trans (KeepT.set hS6.arr _), HB6.out.setCell (p := ⟨A, k2, none⟩) HAn.out _⟩
            clear hb5 hA5 hus5 hrm5 hS6 hown6 hg6 hn6 a0
            have hlen5 := HCl.out.1
            go_wp2
            go_roundw
            case rel => exact ⟨k + 1, acc ++ [(k2, r)], _, by have := Hk.out; omega, by go_num, Lib.hid HFin.out.1, by rw [List.length_append, Hacc.out]; rfl, HQ2, Lib.hid HFin.out.2.1, Lib.hid HFin.out.2.2⟩
            case measure => simp [intOf]; omega
end Go.Proofs.YthhepmddcncjoaaGreatDoor
namespace Go.Proofs.YthhepmddcncjoaaGreatDoor
open Go.RowKit

def cutR (s : ByteArray) : ByteArray := s.extract 0 (min (s.size : Int) 2000).toNat
theorem cutR_size (s : ByteArray) : (cutR s).size ≤ 2000 := by unfold cutR; simp; omega
theorem cut10_c (s : ByteArray) (w : World) (hs : s.size ≤ maxLen) :
    Calls Tryz.prog 12 #[.string s] w fun e w' => e = .returned (.string (cutR s)) ∧ w = w' := by
  unfold maxLen at hs
  go_enter Tryz.func12, Tryz.ntmps12
  go_wp2
  go_ret
  exact ⟨rfl, rfl⟩
def threeQ (N : Nat) : Bool → Sum (Nat × Int) (List (Nat × Rw)) → List (List Rw) × Int × Int
  | false, _ => ([], 0, 30)
  | true, .inl (n, x) => ([], (n : Int), x)
  | true, .inr acc => (sortedQ N acc, 0, 0)
/-- Both readings: alike in what is no row, and of the same rows. -/
theorem ReadR.three {n0 N : Nat} {w W : World} {b : Bool} {S : Sum (Nat × Int) (List (Nat × Rw))} {e : Ending} (h : ReadR n0 N w b S e W) : ∃ v l i er, e = .returned (.tuple #[v, .int .i64 i, .int .i64 er]) ∧ Below n0 w W ∧ SlOf W W.heap.size 1 (RwsC W W.heap.size) l v ∧
    (l, i, er) = threeQ N b S := by
  cases h with
  | tree h1 h2 => subst h1; exact ⟨_, [], _, _, rfl, h2, .inl ⟨rfl, rfl⟩, rfl⟩
  | bad h1 h2 h3 => subst h1; subst h2; exact ⟨_, [], _, _, rfl, h3, .inl ⟨rfl, rfl⟩, rfl⟩
  | good h1 h2 h3 h4 => subst h1; subst h2; exact ⟨_, _, _, _, rfl, h3, h4, rfl⟩
set_option maxRecDepth 100000 in
set_option maxHeartbeats 8000000 in
theorem factsReads_c (p : Pg) (s : ByteArray) (a b : Addr) (m : Int) (w : World) (cs : List Value) (hp : PgC w w.heap.size p cs) (hs : s.size ≤ maxLen) (E : FEnv a b m w) :
    Calls Tryz.prog 3 #[.agg cs.toArray, .string s] w fun e w' => e = .returned (.bool true) ∧ Below w.heap.size w w' := by
  have HH := Lib.hid (fun (W : World) (hb : Below w.heap.size w W) => shown10_c a b m W (E.below hb))
  have HP := Lib.hid (fun (W : World) (hb : Below w.heap.size w W) => small_c p W cs ((hp.below hb).more hb.size))
  have HR := Lib.hid (fun (x : ByteArray) (hx : x.size ≤ 1000000) (W : World) (hb : Below w.heap.size w W) => read_c p x a b m W cs ((hp.below hb).more hb.size) hx (E.below hb))
  have HQ := Lib.hid (fun (x : ByteArray) (hx : x.size ≤ 5000) (W : World) (hb : Below w.heap.size w W) => rread_c p x W cs ((hp.below hb).more hb.size) hx)
  have HC := Lib.hid (fun (W : World) => cut10_c s W hs)
  have hsz : (cutR s).size ≤ 2000 := cutR_size s
  obtain ⟨u, hu⟩ : ∃ u, cutR s = u := ⟨_, rfl⟩
  rw [hu] at hsz HC
  have HR2 := Lib.hid (HR.out u (by omega))
  have HQ2 := Lib.hid (HQ.out u (by omega))
  obtain ⟨p1, q1, r1, s1, rfl, _, _⟩ := hp.look
  clear hp E hs hu hsz HR HQ
  have HB0 : Hid (∀ (x : Obj), Below w.heap.size w (w.alloc x)) := Lib.hid fun x => (Below.refl _ _).alloc (Nat.le_refl _) _
  have HR0 := Lib.hid (rowNew w 25 [.slice p1 p.decls.length q1, .slice r1 p.rules.length s1])
  go_enter Tryz.func3, Tryz.ntmps3
  go_wp2_with fail
  refine (HH.out _ (HB0.out _)).mono ?_
  rintro e w1 ⟨rfl, b1⟩
  have B1 := Lib.hid ((HB0.out (.cells #[.slice p1 p.decls.length q1, .slice r1 p.rules.length s1] 25)).trans (b1.mono (by simp)))
  have R1 := Lib.hid ((b1.block w.heap.size (by simp)).trans HR0.out)
  have x0 : w1.cell? ⟨w.heap.size, 0, none⟩ = some (.slice p1 p.decls.length q1) := row_cells R1.out 0
  have x1 : w1.cell? ⟨w.heap.size, 1, none⟩ = some (.slice r1 p.rules.length s1) := row_cells R1.out 1
  have hz1 := heap_lt R1.out
  clear b1
  go_wp2_with fail
  refine (HP.out _ B1.out).mono ?_
  rintro e w2 ⟨rfl, b2⟩
  have B2 := Lib.hid (B1.out.trans (b2.mono B1.out.size))
  have R2 := Lib.hid ((b2.block _ (heap_lt R1.out)).trans R1.out)
  clear b2 x0 x1 hz1
  cases hsp : smallP p with
  | false =>
    rw [show smallI p = 0 by unfold smallI; rw [hsp]; rfl]
    clear hsp
    go_wp2
    go_ret
    exact ⟨rfl, B2.out⟩
  | true =>
    rw [show smallI p = 1 by unfold smallI; rw [hsp]; rfl]
    clear hsp
    go_wp2_with fail
    refine (HC.out _).mono ?_
    rintro e w3 ⟨rfl, rfl⟩
    have x0 : w2.cell? ⟨w.heap.size, 0, none⟩ = some (.slice p1 p.decls.length q1) := row_cells R2.out 0
    have x1 : w2.cell? ⟨w.heap.size, 1, none⟩ = some (.slice r1 p.rules.length s1) := row_cells R2.out 1
    have hz2 := heap_lt R2.out
    have HR3 := Lib.hid (HR2.out w2 B2.out)
    go_wp2_with fail
    refine HR3.out.mono ?_
    intro e w4 h4
    obtain ⟨v4, l4, i4, e4, rfl, b4, s4, q4⟩ := h4.three
    have B4 := Lib.hid (B2.out.trans (b4.mono B2.out.size))
    have R4 := Lib.hid ((b4.block _ (heap_lt R2.out)).trans R2.out)
    have S4 := Lib.hid s4
    have y0 : w4.cell? ⟨w.heap.size, 0, none⟩ = some (.slice p1 p.decls.length q1) := row_cells R4.out 0
    have y1 : w4.cell? ⟨w.heap.size, 1, none⟩ = some (.slice r1 p.rules.length s1) := row_cells R4.out 1
    have hz4 := heap_lt R4.out
    have HQ3 := Lib.hid (HQ2.out w4 B4.out)
    have Q4 := Lib.hid q4
    clear b4 x0 x1 hz2 h4 s4 q4
    go_wp2_with fail
    refine HQ3.out.mono ?_
    intro e w5 h5
    obtain ⟨v5, l5, i5, e5, rfl, b5, s5, q5⟩ := h5.three
    have B5 := Lib.hid (B4.out.trans (b5.mono B4.out.size))
    have heq := q5.trans Q4.out.symm
    simp only [Prod.mk.injEq] at heq
    obtain ⟨rfl, rfl, rfl⟩ := heq
    have HS := Lib.hid (same09_c l5 v4 v5 w5 (rows_pastF S4.out b5) s5)
    clear b5 h5 s5 q5 y0 y1 hz4
    go_wp2_with fail
    refine HS.out.mono ?_
    rintro e w6 ⟨rfl, b6⟩
    have B6 := Lib.hid (B5.out.trans (b6.mono B5.out.size))
    clear b6
    go_wp2
    go_ret
    exact ⟨rfl, B6.out⟩
end Go.Proofs.YthhepmddcncjoaaGreatDoor
