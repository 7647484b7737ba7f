/- dsafe.Bound. dsafe.Bound, whole. soriteslaw06.DsafeOnce: the walk. -/
import Derived.Test.YtkemdankcjpeeaaDoorKZwk
import Derived.Test.YtkemdankcjpeeaaDoorKZframe
import Derived.Test.YtkemdankcjpeeaaDoorKYpl
import Derived.Laws.OwnMore
namespace Go.Proofs.YtkemdankcjpeeaaDoor
open Go.RowKit Go.Shelf

attribute [local go_sem] Oper.semAt_some

theorem stepV_len (past : List Tm) (acc : List ByteArray) (t : Tm) : (stepV past acc t).length ≤ acc.length + 1 := by
  unfold stepV
  split <;> simp
theorem namesV_len : ∀ (ts past : List Tm) (acc : List ByteArray), (namesV past ts acc).length ≤ acc.length + ts.length
  | [], _, _ => by simp [namesV]
  | t :: ts, past, acc => by
    have h1 := namesV_len ts (past ++ [t]) (stepV past acc t)
    have h2 := stepV_len past acc t
    show (namesV (past ++ [t]) ts (stepV past acc t)).length ≤ _
    rw [List.length_cons]
    omega
theorem varsA_len6 (r : Ru) : (varsA r).length ≤ (termsR r).length := by
  unfold varsA varsV
  split
  · have := namesV_len (termsR r) [] []
    simpa using this
  · exact Nat.zero_le _
/-- Is a name bound by then? -/
def byZ (B : Bd) (k : Int) (s : ByteArray) : Bool := hasZ B s && decide (B s.data.toList ≤ k)
set_option maxRecDepth 100000 in
set_option maxHeartbeats 8000000 in
theorem bound1_c (s : ByteArray) (hs : s.size ≤ maxLen) (q kb M n c : Nat) (k : Int) (B : Bd) (v : Value) (bb : Bool) (w : World) (hq : w.heap[q]? = some (.cells #[v, .map (some M), .bool bb] 95 (0, 0))) (hk : w.heap[kb]? = some (.cells #[.int .i64 k] 3 (0, 0))) (hM : MapI Tryd.prog w 9 3 M n B c) :
    Calls Tryd.prog 56 #[.string s, .pointer (some ⟨q, 0, none⟩), .pointer (some ⟨kb, 0, none⟩)] w fun e w' => e = .returned (.bool (byZ B k s)) ∧ w' = w := by
  have zE : ∀ w : World, (zeroValue 3).run Tryd.prog w = .ok (.int .i64 0) w := fun w => by kernel_rfl
  have hrun := mapI_run hM 93 Tryd.underlying93 Tryd.underlying9 Tryd.underlying3 (zE _) s hs
  have HC := Lib.hid (has_c s hs M n c B w hM)
  obtain ⟨⟨_, y1, _⟩, _⟩ := row3 hq
  have z0 := row_cells hk 0
  have lq := heap_lt hq
  have lk := heap_lt hk
  clear hM hq hk
  unfold byZ
  go_enter Tryd.func56, Tryd.ntmps56
  go_wp2_with fail
  refine HC.out.mono ?_
  rintro e1 w1 ⟨rfl, rfl⟩
  cases hh : hasZ B s with
  | false =>
    go_wp2
    go_ret
    exact ⟨by simp [hh], rfl⟩
  | true =>
    go_wp2
    go_ret
    exact ⟨by simp [hh], rfl⟩
set_option linter.unusedSimpArgs false in
set_option maxRecDepth 100000 in
set_option maxHeartbeats 8000000 in
theorem pick_c (r : Ru) (cs : List Value) (t : Addr) (q kb M n c : Nat) (k : Int) (B : Bd) (v : Value) (bb : Bool) (w : World) (hc : RuC w w.heap.size r cs) (hlen : (termsR r).length ≤ 300000) (hS : ∀ t ∈ termsR r, t.s.size ≤ 1000000) (E : TErr t w)
    (hq : w.heap[q]? = some (.cells #[v, .map (some M), .bool bb] 95 (0, 0))) (hk : w.heap[kb]? = some (.cells #[.int .i64 k] 3 (0, 0))) (hM : MapI Tryd.prog w 9 3 M n B c) :
    Calls Tryd.prog 55 #[.agg cs.toArray, .func (.func 56) #[] #[.pointer (some ⟨q, 0, none⟩), .pointer (some ⟨kb, 0, none⟩)]] w (VarsR ((varsA r).filter (byZ B k)) w.heap.size w) := by
  obtain ⟨o0, k0, o1, k1, rfl, _⟩ := hc.look
  obtain ⟨i0, hi, hz0, hz1, hz2⟩ := info_parts info_str
  obtain ⟨W1, hW1⟩ : ∃ W, w.alloc (.cells #[.string r.head.rel, .slice o0 r.head.l.length k0, .slice o1 r.body.length k1, .int .i64 r.line] 27) = W := ⟨_, rfl⟩
  have b1 : Below w.heap.size w W1 := by rw [← hW1]; exact (Below.refl _ _).alloc (Nat.le_refl _) _
  have HV := Lib.hid (vars_c r _ t W1 ((hc.below b1).more b1.size) (by omega) hS (E.below b1))
  have HF := Lib.hid (fun (W : World) (hb : Below w.heap.size w W) (s : ByteArray) (hs : s.size ≤ maxLen) => bound1_c s hs q kb M n c k B v bb W ((hb.block _ (heap_lt hq)).trans hq) ((hb.block _ (heap_lt hk)).trans hk) (hM.below hb hM.lt))
  have HLn : Hid ((varsA r).length ≤ 300000) := Lib.hid (Nat.le_trans (varsA_len6 r) hlen)
  have HB1 := Lib.hid b1
  have HW1 := Lib.hid hW1
  obtain ⟨N, hN⟩ : ∃ N, varsA r = N := ⟨_, rfl⟩
  rw [hN] at HV HLn ⊢
  clear hc hlen hS E hq hk hM b1 hW1 hN
  go_enter Tryd.func55, Tryd.ntmps55
  go_wp2_with fail
  rw [HW1.out]
  refine HV.out.mono ?_
  rintro e2 w2 ⟨v2, rfl, hS2, b2⟩
  have HB2 := Lib.hid (HB1.out.trans (b2.mono HB1.out.size))
  have hz1' := HB2.out.size
  obtain ⟨o3, k3, rfl, _, _, S3⟩ := SlOf.open hS2
  have HSm : Hid (∀ s ∈ N, s.size ≤ maxLen) := Lib.hid (str_sizes hS2)
  clear b2 hS2 HV
  go_wp2_with fail
  go_loopw [5, 7, 11] (fun lv _ i wr => ∃ (j : Nat) (acc : List ByteArray), j ≤ N.length ∧ i = .int .i64 j ∧ (N.take j).filter (byZ B k) = acc ∧ wr.ownsRow w2.heap.size 9 1 lv acc.length (acc.map Value.string) ∧ Below w2.heap.size w2 wr) (fun _ _ i _ => N.length - (intOf i).toNat)
  case atStart => exact ⟨0, [], Nat.zero_le _, rfl, rfl, World.ownsRow_nil _ _ _ _, Below.refl _ _⟩
  case round =>
    obtain ⟨j, acc, hj, rfl, hacc, hO, hB⟩ := hrel
    have Hacc := Lib.hid hacc
    have HO := Lib.hid hO
    have HB := Lib.hid hB
    have hsz := hB.size
    clear hacc hO
    by_cases hlt : j < N.length
    · have hlt' : (j : Int) < (N.length : Int) := by omega
      have hj0 : (0 : Int) ≤ (j : Int) := by omega
      obtain ⟨x, hx⟩ : ∃ x, N[j]? = some x := ⟨N[j], List.getElem?_eq_getElem hlt⟩
      obtain ⟨p, rfl, hp, hxs, c0⟩ := str_at S3 hB hx
      have hpl : (p.add j).block < wr.heap.size := by rw [addBlock]; omega
      have Hst := Lib.hid (fil_take (f := byZ B k) hx)
      have hle : acc.length ≤ j := by
        rw [← Hacc.out]
        exact Nat.le_trans (List.length_filter_le _ _) (by rw [List.length_take]; omega)
      have HCl := Lib.hid (HF.out wr (HB2.out.trans (hB.mono hz1')) x hxs)
      have HS1 : Hid (acc.length + 1 ≤ maxLen) := Lib.hid (by have := HLn.out; unfold maxLen; omega)
      have HS2 : Hid ((acc.length + 1) * 16 ≤ 140737488355328) := Lib.hid (by have := HLn.out; omega)
      clear hx hB
      go_wp2_with fail
      refine HCl.out.mono ?_
      rintro e4 w4 ⟨rfl, rfl⟩
      cases hb : byZ B k x with
      | true =>
        have Hst2 : Hid ((N.take (j + 1)).filter (byZ B k) = acc ++ [x]) := Lib.hid (by rw [Hst.out, Hacc.out, if_pos hb])
        clear hb
        go_wp2_with (at_builtin; refine wpList_append_own _ rfl (.tmp 18) (.tmp 20) 34 rfl w2.heap.size 9 i0 _ 1 16 Tryd.underlying34 hi hz0 hz1 hz2 rfl (by decide) _ acc.length _ rfl (HO.out.alloc _) _ 1 1 [.string x] rfl rfl (news_one _ _ _) (one_str _) HS1.out HS2.out (by simp; omega) ?_; intro v' w6 hown' hgrow _; have HG := Lib.hid (grown_past hgrow); have HO6 := Lib.hid hown'; clear hgrow hown')
        go_roundw
        case rel =>
          refine ⟨j + 1, acc ++ [x], hlt, by go_num, Hst2.out, ?_, ?_⟩
          · rw [List.length_append, List.map_append]; exact HO6.out
          · exact HB.out.grown HG.out hsz (fun q hq => (HO.out.lt q hq).1)
        case measure => simp [intOf]; omega
      | false =>
        have Hst2 : Hid ((N.take (j + 1)).filter (byZ B k) = acc) := Lib.hid (by rw [Hst.out, Hacc.out, if_neg (by rw [hb]; decide), List.append_nil])
        clear hb
        go_wp2
        go_roundw
        case rel => exact ⟨j + 1, acc, hlt, by go_num, Hst2.out, HO.out, HB.out⟩
        case measure => simp [intOf]; omega
    · have hlt' : ¬ (j : Int) < (N.length : Int) := by omega
      have hN2 : N.filter (byZ B k) = acc := by rw [← Hacc.out, List.take_of_length_le (by omega)]
      have hS := sl_row (R := StrC) (l := acc) HO.out (fun s hs => ⟨rfl, HSm.out s (by rw [← hN2] at hs; exact (List.mem_filter.1 hs).1)⟩)
      rw [← hN2] at hS
      have HS := Lib.hid hS
      have HBz := Lib.hid (HB2.out.trans (HB.out.mono hz1'))
      obtain ⟨oq, kq, rfl⟩ := own_shape HO.out
      clear hS hN2 hB
      go_wp2
      go_ret
      exact ⟨_, rfl, HS.out, HBz.out⟩
end Go.Proofs.YtkemdankcjpeeaaDoor
namespace Go.Proofs.YtkemdankcjpeeaaDoor
open Go.RowKit Go.Shelf

attribute [local go_sem] Oper.semAt_some

inductive BndR (n0 : Nat) (w : World) (r : Ru) (k : Int) : Ending → World → Prop
  | bad {w' : World} : ordE r ≠ 0 → Below n0 w w' → BndR n0 w r k (.returned (.tuple #[.slice none 0 0, .int .i64 (ordE r)])) w'
  | arg {w' : World} : ordE r = 0 → (k < 0 ∨ ((orderZ r).length : Int) < k) → Below n0 w w' → BndR n0 w r k (.returned (.tuple #[.slice none 0 0, .int .i64 2])) w'
  | good {w' : World} {v : Value} : ordE r = 0 → 0 ≤ k → k ≤ ((orderZ r).length : Int) → SlOf w' w'.heap.size 1 StrC ((varsA r).filter (byZ (boundZ r) k)) v → Below n0 w w' → BndR n0 w r k (.returned (.tuple #[v, .int .i64 0])) w'
set_option linter.unusedSimpArgs false in
set_option maxRecDepth 100000 in
set_option maxHeartbeats 8000000 in
theorem bound_c (r : Ru) (cs : List Value) (k : Int) (t a u : Addr) (w : World) (hc : RuC w w.heap.size r cs) (hf : FewR r) (hp : FewP' (partsZ r)) (hlen : (termsR r).length ≤ 300000) (hS : ∀ t ∈ termsR r, t.s.size ≤ 1000000) (E : EnvZ t a u w) :
    Calls Tryd.prog 27 #[.agg cs.toArray, .int .i64 k] w (BndR w.heap.size w r k) := by
  obtain ⟨o0, k0, o1, k1, rfl, _⟩ := hc.look
  obtain ⟨q0, hq0⟩ : ∃ q, w.heap.size = q := ⟨_, rfl⟩
  obtain ⟨W1, hW1⟩ : ∃ W, (w.alloc (.cells #[.string r.head.rel, .slice o0 r.head.l.length k0, .slice o1 r.body.length k1, .int .i64 r.line] 27)).alloc (.cells #[.int .i64 k] 3) = W := ⟨_, rfl⟩
  have b1 : Below w.heap.size w W1 := by rw [← hW1]; exact ((Below.refl _ _).alloc (Nat.le_refl _) _).alloc (by simp) _
  have rr1 : W1.heap[q0]? = some (.cells #[.string r.head.rel, .slice o0 r.head.l.length k0, .slice o1 r.body.length k1, .int .i64 r.line] 27 (0, 0)) := by rw [← hW1, ← hq0]; exact (Below.heap_alloc _ _ _ (by simp)).trans (World.alloc_heap_new w _)
  have rk1 : W1.heap[q0 + 1]? = some (.cells #[.int .i64 k] 3 (0, 0)) := by
    have h1 := World.alloc_heap_new (w.alloc (.cells #[.string r.head.rel, .slice o0 r.head.l.length k0, .slice o1 r.body.length k1, .int .i64 r.line] 27)) (.cells #[.int .i64 k] 3)
    rw [World.size_alloc, hW1, hq0] at h1
    exact h1
  have HK := Lib.hid (callsIn_wide.1 (walkThrough_in r _ t a u W1.heap.size W1 rfl ((hc.below b1).more b1.size) hf hp (E.below b1).z (E.below b1).tr))
  have HE := Lib.hid (E.below b1)
  have HCr := Lib.hid (fun (W : World) (hb : Below W1.heap.size W1 W) => (hc.below (b1.trans (hb.mono b1.size))).more (Nat.le_trans b1.size hb.size))
  have B1 := Lib.hid b1
  have RR1 := Lib.hid rr1
  have RK1 := Lib.hid rk1
  have HW1 := Lib.hid hW1
  have HSz := Lib.hid hS
  have Hq0 := Lib.hid hq0
  clear hc hf hp E b1 hW1 rr1 rk1 hS
  go_enter Tryd.func27, Tryd.ntmps27
  go_wp2_with fail

  try rw [HW1.out]
  refine HK.out.mono ?_
  clear HK
  intro e2 w2 hT
  cases hT with
    | tree h1 h2 =>
      have hbA : Below w2.heap.size w2 (w2.alloc (.cells #[.slice none 0 0, .map none, .bool false] 95)) := (Below.refl _ _).alloc (Nat.le_refl _) _
      have HN := Lib.hid (numT_c _ a u _ ((HE.out.below h2).below hbA).z)
      have B2 := Lib.hid ((B1.out.trans (h2.mono B1.out.size)).trans (hbA.mono (Nat.le_trans B1.out.size h2.size)))
      have HO := Lib.hid (ordE_tree h1)
      clear hbA
      clear h1 h2
      unfold errV at *
      go_wp2_with fail
      refine HN.out.mono ?_
      rintro e3 w3 ⟨rfl, b3⟩
      have B3 := Lib.hid (B2.out.trans (b3.mono B2.out.size))
      clear b3
      go_wp2
      go_ret2
      have hfin : BndR w.heap.size w r k (.returned (.tuple #[.slice none 0 0, .int .i64 (ordE r)])) w3 := .bad (by rw [HO.out]; decide) B3.out
      rw [HO.out] at hfin
      exact hfin
    | ready kk h1 h0 h2 =>
      have hbA : Below w2.heap.size w2 (w2.alloc (.cells #[.slice none 0 0, .map none, .bool false] 95)) := (Below.refl _ _).alloc (Nat.le_refl _) _
      have HN := Lib.hid (numR_c kk _ a u _ ((HE.out.below h2).below hbA).z (Nat.le_refl _))
      have B2 := Lib.hid ((B1.out.trans (h2.mono B1.out.size)).trans (hbA.mono (Nat.le_trans B1.out.size h2.size)))
      have HO := Lib.hid (ordE_un h1 h0)
      clear hbA
      clear h1 h2 h0
      go_wp2_with fail
      refine HN.out.mono ?_
      rintro e3 w3 ⟨rfl, b3⟩
      have B3 := Lib.hid (B2.out.trans (b3.mono B2.out.size))
      clear b3
      go_wp2
      go_ret2
      have hfin : BndR w.heap.size w r k (.returned (.tuple #[.slice none 0 0, .int .i64 (ordE r)])) w3 := .bad (by rw [HO.out]; decide) B3.out
      rw [HO.out] at hfin
      exact hfin
    | bound s h1 h0 h2 =>
      have hbA : Below w2.heap.size w2 (w2.alloc (.cells #[.slice none 0 0, .map none, .bool false] 95)) := (Below.refl _ _).alloc (Nat.le_refl _) _
      have HN := Lib.hid (numB_c s _ a u _ ((HE.out.below h2).below hbA).z (Nat.le_refl _))
      have B2 := Lib.hid ((B1.out.trans (h2.mono B1.out.size)).trans (hbA.mono (Nat.le_trans B1.out.size h2.size)))
      have HO := Lib.hid (ordE_un h1 h0)
      clear hbA
      clear h1 h2 h0
      go_wp2_with fail
      refine HN.out.mono ?_
      rintro e3 w3 ⟨rfl, b3⟩
      have B3 := Lib.hid (B2.out.trans (b3.mono B2.out.size))
      clear b3
      go_wp2
      go_ret2
      have hfin : BndR w.heap.size w r k (.returned (.tuple #[.slice none 0 0, .int .i64 (ordE r)])) w3 := .bad (by rw [HO.out]; decide) B3.out
      rw [HO.out] at hfin
      exact hfin
    | @good _ v M n c h1 h0 hs hm hM h2 =>
      obtain ⟨ov, cv, rfl, _, _, _⟩ := SlOf.open hs
      obtain ⟨W3, hW3⟩ : ∃ W, w2.alloc (.cells #[.slice ov (orderZ r).length cv, .map (some M), .bool (invZ r)] 95) = W := ⟨_, rfl⟩
      have b3 : Below w2.heap.size w2 W3 := by rw [← hW3]; exact (Below.refl _ _).alloc (Nat.le_refl _) _
      have h13 : Below W1.heap.size W1 W3 := h2.trans (b3.mono h2.size)
      have rq3 : W3.heap[w2.heap.size]? = some (.cells #[.slice ov (orderZ r).length cv, .map (some M), .bool (invZ r)] 95 (0, 0)) := by rw [← hW3]; exact World.alloc_heap_new w2 _
      have rr3 := (h13.block _ (heap_lt RR1.out)).trans RR1.out
      have rk3 := (h13.block _ (heap_lt RK1.out)).trans RK1.out
      have HPk := Lib.hid (pick_c r _ t w2.heap.size (q0 + 1) M n c k (boundZ r) _ _ W3 (HCr.out W3 h13) hlen HSz.out (HE.out.below h13).tr rq3 rk3 (hm.below b3 hm.lt))
      obtain ⟨⟨y0, _, _⟩, _⟩ := row3 rq3
      obtain ⟨x0, x1, x2, x3⟩ := row4 rr3
      have z0 : W3.cell? ⟨q0 + 1, 0, none⟩ = some (.int .i64 k) := row_cells rk3 0
      have lq := heap_lt rq3
      have lr := heap_lt rr3
      have lk := heap_lt rk3
      have B3 := Lib.hid (B1.out.trans (h13.mono B1.out.size))
      have HO := Lib.hid (ordE_ok h1 h0)
      have HW3 := Lib.hid hW3
      clear h1 h0 hs hm hM h2 b3 h13 rq3 rr3 rk3
      by_cases hk0 : k < 0
      · go_wp2
        go_ret2
        exact .arg HO.out (.inl hk0) B3.out
      · by_cases hk1 : ((orderZ r).length : Int) < k
        · have hk2 : k > ((orderZ r).length : Int) := hk1
          go_wp2
          go_ret2
          exact .arg HO.out (.inr hk1) B3.out
        · have hk2 : ¬ (k > ((orderZ r).length : Int)) := hk1
          go_wp2_with fail
          refine HPk.out.mono ?_
          rintro e4 w4 ⟨v4, rfl, hs4, b4⟩
          obtain ⟨o4, c4, rfl, _⟩ := SlOf.uni hs4
          have HS4 := Lib.hid hs4
          have B4 := Lib.hid (B3.out.trans (b4.mono B3.out.size))
          clear hs4 b4
          go_wp2
          go_ret2
          exact .good HO.out (by omega) (by omega) HS4.out B4.out
end Go.Proofs.YtkemdankcjpeeaaDoor
namespace Go.Proofs.YtkemdankcjpeeaaDoor
open Go.RowKit

theorem info_bl : (Tryd.prog.info? 4).map (fun i => (i.zero, i.size, i.bytes)) = some (some (.bool false), 1, 1) := by kernel_rfl
/-- What 'met' holds ahead of the i-th part of the order. -/
def metL (N : List Nat) (m i : Nat) : List Value := (List.range m).map fun j => .bool (decide (j ∈ N.take i))
theorem met_zero (N : List Nat) (m : Nat) : metL N m 0 = List.replicate m (.bool false) := by
  unfold metL
  refine List.ext_getElem? fun j => ?_
  rw [List.getElem?_map, List.getElem?_replicate]
  by_cases hj : j < m
  · rw [List.getElem?_range hj, if_pos hj]; simp
  · rw [List.getElem?_eq_none (by simpa using hj), if_neg hj]; rfl
theorem met_at {N : List Nat} {m i x : Nat} (hx : x < m) (hn : x ∉ N.take i) : (metL N m i)[x]? = some (.bool false) := by
  unfold metL
  rw [List.getElem?_map, List.getElem?_range hx]
  simp [hn]
theorem met_set {N : List Nat} {m i x : Nat} (h : N[i]? = some x) : (metL N m i).set x (.bool true) = metL N m (i + 1) := by
  refine List.ext_getElem? fun j => ?_
  unfold metL
  rw [List.getElem?_set, List.getElem?_map, List.getElem?_map, List.take_add_one, h, List.length_map, List.length_range]
  by_cases hj : j < m
  · rw [List.getElem?_range hj]
    by_cases hx : x = j
    · subst hx
      simp [hj]
    · rw [if_neg hx]
      simp [Ne.symm hx]
  · have h0 : (List.range m)[j]? = none := List.getElem?_eq_none (by simpa using hj)
    rw [h0]
    by_cases hx : x = j
    · subst hx
      simp [hj]
    · rw [if_neg hx]
      rfl
theorem fresh_at {N : List Nat} (hn : N.Nodup) {i x : Nat} (h : N[i]? = some x) : x ∉ N.take i := by
  intro hm
  obtain ⟨j, hj⟩ := List.mem_iff_getElem?.1 hm
  rw [List.getElem?_take] at hj
  split at hj
  · rename_i hji
    obtain ⟨hl, _⟩ := List.getElem?_eq_some_iff.1 hj
    have := (List.getElem?_inj hl hn).1 (hj.trans h.symm)
    omega
  · cases hj
theorem byZ_mono {B : Bd} {k k' : Int} (h : k ≤ k') {s : ByteArray} (hb : byZ B k s = true) : byZ B k' s = true := by
  unfold byZ at *
  simp only [Bool.and_eq_true, decide_eq_true_eq] at *
  exact ⟨hb.1, by omega⟩
theorem by_len (vs : List ByteArray) (B : Bd) {k k' : Int} (h : k ≤ k') : (vs.filter (byZ B k)).length ≤ (vs.filter (byZ B k')).length := by
  rw [← List.countP_eq_length_filter, ← List.countP_eq_length_filter]
  exact List.countP_mono_left fun x _ hx => byZ_mono h hx
theorem by_sub {vs : List ByteArray} {B : Bd} {k k' : Int} (h : k ≤ k') {s : ByteArray} (hs : s ∈ vs.filter (byZ B k)) : s ∈ vs.filter (byZ B k') :=
  List.mem_filter.2 ⟨(List.mem_filter.1 hs).1, byZ_mono h (List.mem_filter.1 hs).2⟩
theorem RuC.line0 {W : World} {n : Nat} {r : Ru} {c0 c1 c2 c3 : Value} (h : RuC W n r [c0, c1, c2, c3]) : RuC W n ⟨r.head, r.body, 0⟩ [c0, c1, c2, .int .i64 0] := by
  obtain ⟨ca, v, e, _, h2, h3⟩ := h
  obtain ⟨o0, k0, rfl, _⟩ := h2.look
  simp only [List.cons_append, List.nil_append, List.cons.injEq, and_true] at e
  obtain ⟨rfl, rfl, rfl, rfl⟩ := e
  exact ⟨_, _, rfl, by show I64 0; unfold I64; omega, h2, h3⟩
theorem ord_full {r : Ru} (h : ordE r = 0) : (ordN r).length = r.body.length := by
  unfold ordE at h
  split at h
  · split at h
    · rename_i h2
      unfold safeZ at h2
      exact come_len.1 (Bool.and_eq_true_iff.1 h2).1
    · cases h
  · cases h
set_option linter.unusedSimpArgs false in
set_option maxRecDepth 100000 in
set_option maxHeartbeats 16000000 in
theorem dsafeOnce_c (r : Ru) (t a u : Addr) (w : World) (cs : List Value) (hc : RuC w w.heap.size r cs) (E : EnvZ t a u w) :
    Calls Tryd.prog 8 #[.agg cs.toArray] w fun e w' => e = .returned (.bool true) ∧ Below w.heap.size w w' := by
  have HR := Lib.hid hc
  have HE := Lib.hid E
  have hb0 : ∀ C : Obj, Below w.heap.size w (w.alloc C) := fun C => (Below.refl _ _).alloc (Nat.le_refl _) _
  have HB0 := Lib.hid hb0
  have HH := Lib.hid (fun (W : World) (hb : Below w.heap.size w W) => shown6_c t a u W (E.below hb))
  have HS := Lib.hid (fun (W : World) (hb : Below w.heap.size w W) => small6_c r cs W ((hc.below hb).more hb.size))
  obtain ⟨o0, k0, o1, k1, rfl, _⟩ := hc.look
  obtain ⟨y0, hy, hy0, hy1, hy2⟩ := info_parts info_bl
  clear hc E hb0
  go_enter Tryd.func8, Tryd.ntmps8
  go_wp2_with fail
  refine (HH.out _ (HB0.out _)).mono ?_
  rintro e1 w1 ⟨rfl, b1⟩
  have r1' : w1.heap[w.heap.size]? = some (.cells #[.string r.head.rel, .slice o0 r.head.l.length k0, .slice o1 r.body.length k1, .int .i64 r.line] 27 (0, 0)) := (b1.block _ (by simp)).trans (World.alloc_heap_new w _)
  have x0 := row_cells r1' 0
  have x1 := row_cells r1' 1
  have x2 := row_cells r1' 2
  have x3 := row_cells r1' 3
  simp at x0 x1 x2 x3
  have hz1 : w.heap.size < w1.heap.size := by have := b1.size; simp at this; omega
  have B1 := Lib.hid ((HB0.out _).trans (b1.mono (by simp)))
  clear b1
  go_wp2_with fail
  refine (HS.out _ B1.out).mono ?_
  rintro e2 w2 ⟨rfl, b2⟩
  have r2' := (b2.block _ hz1).trans r1'
  have B2 := Lib.hid (B1.out.trans (b2.mono B1.out.size))
  have R2 := Lib.hid r2'
  have hz2 := heap_lt r2'
  clear x0 x1 x2 x3 b2 r1'
  cases hs : smallP ⟨[], [r]⟩ with
  | false =>
    clear hs
    go_wp2
    go_ret
    exact ⟨rfl, B2.out⟩
  | true =>
  have HT := Lib.hid (small_terms hs r (List.mem_cons_self ..))
  have HFp := Lib.hid (fewP_small HT.out.1)
  have HFr := Lib.hid (few_small HT.out.1 fun t ht => Nat.le_trans (HT.out.2 t ht) (by decide))
  have HP := Lib.hid (order_c r _ t a u w2 ((HR.out.below B2.out).more B2.out.size) HFr.out HFp.out (HE.out.below B2.out))
  have x0 := row_cells r2' 0
  have x1 := row_cells r2' 1
  have x2 := row_cells r2' 2
  have x3 := row_cells r2' 3
  simp at x0 x1 x2 x3
  clear hs r2'
  go_wp2_with fail
  refine HP.out.mono ?_
  clear HP
  intro e3 w3 hT
  cases hT with
  | bad h0 b3 =>
    have B3 := Lib.hid (B2.out.trans (b3.mono B2.out.size))
    clear b3
    obtain ⟨z, hz⟩ : ∃ z, ordE r = z := ⟨_, rfl⟩
    rw [hz] at h0 ⊢
    go_wp2
    go_ret
    exact ⟨rfl, B3.out⟩
  | @good _ lv h0 hs3 b3 =>
    have B3 := Lib.hid (B2.out.trans (b3.mono B2.out.size))
    have r3 := (b3.block _ hz2).trans R2.out
    have hz3 := heap_lt r3
    have c2 : w3.cell? ⟨w.heap.size, 2, none⟩ = some (.slice o1 r.body.length k1) := row_cells r3 2
    have R3 := Lib.hid r3
    have hln : (orderZ r).length = (ordN r).length := by rw [orderZ_eq, List.length_map]
    obtain ⟨ol, cl, hlv, _, _, SL⟩ := SlOf.open hs3
    rw [hln] at hlv
    subst hlv
    have HN := Lib.hid (ord_nodup r)
    have HLt := Lib.hid (fun k (h : k ∈ ordN r) => ord_lt h)
    have HO := Lib.hid (orderZ_eq r)
    have HF0 := Lib.hid h0
    have HFull := Lib.hid (ord_full h0)
    obtain ⟨N, hN⟩ : ∃ N, ordN r = N := ⟨_, rfl⟩
    rw [hN] at HN HLt HO HFull ⊢
    obtain ⟨m, hm⟩ : ∃ m, r.body.length = m := ⟨_, rfl⟩
    have hm2 : m ≤ 2000 := by rw [← hm]; exact Nat.le_trans (body_len r) HT.out.1
    have Hm := Lib.hid hm
    have Kb : Hid (y0.bytes * m ≤ 281474976710656) := Lib.hid (by rw [hy2]; omega)
    have Km : Hid (m ≤ maxLen) := Lib.hid (by unfold maxLen; omega)
    obtain ⟨B, hBe⟩ : ∃ B, w3.heap.size = B := ⟨_, rfl⟩
    have HBe := Lib.hid hBe
    have HLN : Hid (N.length = m) := Lib.hid (by rw [HFull.out, hm])
    rw [hm] at c2
    clear hs3 b3 h0 hln hN r3 x0 x1 x2 x3 hm
    go_wp2_with (first | (at_make; refine wpList_make_full _ rfl _ _ 58 rfl B 4 y0 _ 1 Tryd.underlying58 hy hy0 hy1 .i64 .i64 _ _ m rfl rfl rfl rfl Kb.out Km.out (by rw [hBe]; exact Nat.le_refl _) ?_; rw [hBe]; intro w4 hown4 hg4; have O4 := Lib.hid hown4; have G4 := Lib.hid hg4; clear hown4 hg4))
    have HS4 : Hid (w4.ownsRow B 4 1 (.slice (some ⟨B, 0, none⟩) m m) m (metL N m 0)) := Lib.hid (by
      have h1 := O4.out
      rw [Nat.mul_one] at h1
      have h2 : (madeCells (Value.bool false).cells m).toList = metL N m 0 := by
        rw [met_zero]
        exact toList_madeCells_one _ _
      rw [h2] at h1
      exact h1)
    have hb4 : Below B w3 w4 := (Below.refl _ _).grown G4.out (by rw [hBe]; exact Nat.le_refl _) (fun q hq => by cases hq)
    have hB4 : B ≤ w4.heap.size := by have := hb4.size; omega
    have Hb4 := Lib.hid hb4
    have hwB : w.heap.size < B := by omega
    have HK : Hid (∀ W, Below B w4 W → Below w.heap.size w W) := Lib.hid fun W hb => B3.out.trans ((Hb4.out.trans hb).mono (by omega))
    have HR4 : Hid (∀ W, Below B w4 W → W.heap[w.heap.size]? = some (.cells #[.string r.head.rel, .slice o0 r.head.l.length k0, .slice o1 r.body.length k1, .int .i64 r.line] 27 (0, 0))) := Lib.hid fun W hb => (((Hb4.out.trans hb).block _ hwB).trans R3.out)
    have HBd := Lib.hid (fun (W : World) (hb : Below B w4 W) (k : Int) => bound_c r _ k t a u W ((HR.out.below (HK.out W hb)).more (HK.out W hb).size) HFr.out HFp.out (by have := HT.out.1; omega) (fun t ht => Nat.le_trans (HT.out.2 t ht) (by decide)) (HE.out.below (HK.out W hb)))
    have HS3B : Hid (∀ W, Below B w4 W → Below w3.heap.size w3 W) := Lib.hid fun W hb => by rw [HBe.out]; exact Hb4.out.trans hb
    clear hb4 hBe O4 G4 c2
    go_loopw [7] (fun iv wr => ∃ i : Nat, i ≤ N.length ∧ iv = .int .i64 i ∧ wr.ownsRow B 4 1 (.slice (some ⟨B, 0, none⟩) m m) m (metL N m i) ∧ Hid (Below B w4 wr)) (fun iv _ => N.length - (intOf iv).toNat)
    case atStart => exact ⟨0, Nat.zero_le _, rfl, HS4.out, Lib.hid (Below.refl _ _)⟩
    case round =>
      obtain ⟨i, hi, rfl, ho, HB⟩ := hrel
      have hrr := HR4.out _ HB.out
      have hzr := heap_lt hrr
      by_cases hlt : i < N.length
      · have hlt1 : (i : Int) < (N.length : Int) := by omega
        have hi0 : (0 : Int) ≤ (i : Int) := by omega
        have wk : IntKind.i64.wrap ((i : Int) + 1) = (i : Int) + 1 := by rw [IntKind.wrap_i64]; have := HLN.out; omega
        obtain ⟨x, hx⟩ : ∃ x, N[i]? = some x := ⟨_, List.getElem?_eq_getElem hlt⟩
        have hxm : x < m := by rw [← Hm.out]; exact HLt.out x (List.mem_of_getElem? hx)
        obtain ⟨ad, rfl, had, _, cx⟩ := int_at SL (HS3B.out _ HB.out) (k := i) (t := (x : Int)) (by rw [HO.out, List.getElem?_map, hx]; rfl)
        have hadw : (ad.add i).block < wr.heap.size := by rw [addBlock]; have := (HS3B.out _ HB.out).size; omega
        obtain ⟨hca, hfz, hgw, _⟩ := own_at ho
        have cm := hca x _ (met_at hxm (fresh_at HN.out hx))
        have fm := hfz x
        have hst := ho.stored x (.bool true)
        rw [met_set hx] at hst
        have hb5 : Below B w4 (wr.setCell ⟨B, x, none⟩ (.bool true)) := HB.out.setCell (p := ⟨B, x, none⟩) (Nat.le_refl _) _
        have hr5 := HR4.out _ hb5
        have HB5 := Lib.hid hb5
        have HO5 := Lib.hid hst.1
        have x0 := row_cells hrr 0
        have x1 := row_cells hrr 1
        have x2 := row_cells hrr 2
        have x3 := row_cells hrr 3
        have z0 := row_cells hr5 0
        have z1 := row_cells hr5 1
        have z2 := row_cells hr5 2
        have z3 := row_cells hr5 3
        simp at x0 x1 x2 x3
        have hx0 : ¬ (x : Int) < 0 := by omega
        have hx00 : (0 : Int) ≤ (x : Int) := by omega
        have hxm1 : (x : Int) < (m : Int) := by omega
        have hxm2 : ¬ (m : Int) ≤ (x : Int) := by omega
        have hxm3 : ¬ (x : Int) ≥ (m : Int) := by omega
        have hne : w.heap.size ≠ B := by omega
        have hne2 : B ≠ w.heap.size := by omega
        clear hca hfz hst hrr hr5 hx ho hb5
        go_wp2_with fail
        generalize hW5 : wr.setCell ⟨B, x, none⟩ (.bool true) = W5 at HB5 HO5 z0 z1 z2 z3 ⊢
        have HW5 := Lib.hid hW5
        clear hW5
        refine (HBd.out _ HB5.out (i : Int)).mono ?_
        intro e6 w6 hT
        cases hT with
        | bad h0 _ => exact absurd HF0.out h0
        | arg _ h1 _ =>
          rw [HO.out, List.length_map] at h1
          omega
        | @good _ va _ _ _ hsa b6 =>
        have B6 := Lib.hid (HB5.out.trans (b6.mono (Nat.le_trans hB4 HB5.out.size)))
        have HO6 := Lib.hid (own_below HO5.out b6)
        have hr6 := HR4.out _ B6.out
        have y0 := row_cells hr6 0
        have y1 := row_cells hr6 1
        have y2 := row_cells hr6 2
        have y3 := row_cells hr6 3
        simp at y0 y1 y2 y3
        have HSA := Lib.hid hsa
        clear hsa b6 hr6 z0 z1 z2 z3 x0 x1 x2 x3
        go_wp2_with fail
        refine (HBd.out _ B6.out ((i : Int) + 1)).mono ?_
        intro e7 w7 hT
        cases hT with
        | bad h0 _ => exact absurd HF0.out h0
        | arg _ h1 _ =>
          rw [HO.out, List.length_map] at h1
          omega
        | @good _ vb _ _ _ hsb b7 =>
        have B7 := Lib.hid (B6.out.trans (b7.mono (Nat.le_trans hB4 B6.out.size)))
        have HO7 := Lib.hid (own_below HO6.out b7)
        have hsa := SlOf.str HSA.out b7 b7.size
        have hsub := fun s (h : s ∈ (varsA r).filter (byZ (boundZ r) (i : Int))) => by_sub (k' := (i : Int) + 1) (by omega) h
        have hle := by_len (varsA r) (boundZ r) (k := (i : Int)) (k' := (i : Int) + 1) (by omega)
        obtain ⟨Fa, hFa⟩ : ∃ F, (varsA r).filter (byZ (boundZ r) (i : Int)) = F := ⟨_, rfl⟩
        obtain ⟨Fb, hFb⟩ : ∃ F, (varsA r).filter (byZ (boundZ r) ((i : Int) + 1)) = F := ⟨_, rfl⟩
        rw [hFa] at hsa hsub hle
        rw [hFb] at hsb hsub hle
        obtain ⟨oa, ka, rfl, _, _, SA⟩ := SlOf.open hsa
        obtain ⟨ob, kb, rfl, _, _, SB⟩ := SlOf.open hsb
        have HSb := Lib.hid hsb
        have HSub := Lib.hid hsub
        have hle2 : ¬ ((Fa.length : Int) > (Fb.length : Int)) := by omega
        have hle3 : decide (Fb.length < Fa.length) = false := decide_eq_false (by omega)
        clear HSA hFa hFb hsa hsb hsub b7 y0 y1 y2 y3
        go_wp2_with fail
        go_loopw [12] (fun kv wx => ∃ k : Nat, k ≤ Fa.length ∧ kv = .int .i64 k ∧ Hid (Below w7.heap.size w7 wx)) (fun kv _ => Fa.length - (intOf kv).toNat)
        case atStart => exact ⟨0, Nat.zero_le _, rfl, Lib.hid (Below.refl _ _)⟩
        case round =>
          obtain ⟨k, hk, rfl, HX⟩ := hrel
          by_cases hk1 : k < Fa.length
          · have hk2 : (k : Int) < (Fa.length : Int) := by omega
            have hk0 : (0 : Int) ≤ (k : Int) := by omega
            obtain ⟨s, hs⟩ : ∃ s, Fa[k]? = some s := ⟨_, List.getElem?_eq_getElem hk1⟩
            obtain ⟨ae, rfl, hae, _, ce⟩ := str_at SA HX.out hs
            have hpl : ¬ placeV Fb s < 0 := by
              obtain ⟨j, hj, _⟩ := place_mem (HSub.out s (List.mem_of_getElem? hs))
              rw [hj]
              omega
            have HPl := Lib.hid (place_c Fb _ s _ (SlOf.str HSb.out HX.out HX.out.size))
            clear hs
            go_wp2_with fail
            refine HPl.out.mono ?_
            rintro e8 w8 ⟨rfl, b8⟩
            have HX8 := Lib.hid (HX.out.trans (b8.mono HX.out.size))
            clear b8 HPl
            go_wp2
            go_roundw
            case rel => exact ⟨k + 1, by omega, by go_num, HX8⟩
            case measure => simp [intOf]; omega
          · have hk2 : ¬ (k : Int) < (Fa.length : Int) := by omega
            have HOx := Lib.hid (own_below HO7.out HX.out)
            have HBx := Lib.hid (B7.out.trans (HX.out.mono (Nat.le_trans hB4 B7.out.size)))
            go_wp2
            go_roundw
            case rel => exact ⟨i + 1, by omega, by go_num, HOx.out, HBx⟩
            case measure => simp [intOf]; omega
      · have hlt1 : ¬ (i : Int) < (N.length : Int) := by omega
        have x0 := row_cells hrr 0
        have x1 := row_cells hrr 1
        have x2 := row_cells hrr 2
        have x3 := row_cells hrr 3
        simp at x0 x1 x2 x3
        clear hrr ho
        go_wp2_with fail
        refine (HBd.out _ HB.out (N.length : Int)).mono ?_
        intro e5 w5 hT
        cases hT with
        | bad h0 _ => exact absurd HF0.out h0
        | arg _ h1 _ =>
          rw [HO.out, List.length_map] at h1
          omega
        | @good _ vb _ _ _ hsb b5 =>
        have B5 := Lib.hid (HB.out.trans (b5.mono (Nat.le_trans hB4 HB.out.size)))
        have hr5 := HR4.out _ B5.out
        have y0 := row_cells hr5 0
        have y1 := row_cells hr5 1
        have y2 := row_cells hr5 2
        have y3 := row_cells hr5 3
        simp at y0 y1 y2 y3
        have HV := Lib.hid (vars_c ⟨r.head, r.body, 0⟩ _ t w5 (RuC.line0 ((HR.out.below (HK.out _ B5.out)).more (HK.out _ B5.out).size)) (Nat.le_trans HT.out.1 (by decide)) (fun t ht => Nat.le_trans (HT.out.2 t ht) (by decide)) (HE.out.below (HK.out _ B5.out)).tr)
        have hsub : ∀ s ∈ (varsA r).filter (byZ (boundZ r) (N.length : Int)), s ∈ varsA r := fun s h => (List.mem_filter.1 h).1
        obtain ⟨Fb, hFb⟩ : ∃ F, (varsA r).filter (byZ (boundZ r) (N.length : Int)) = F := ⟨_, rfl⟩
        rw [hFb] at hsb hsub
        obtain ⟨ob, kb, rfl, _, _, _⟩ := SlOf.open hsb
        have HSb := Lib.hid hsb
        have HSub := Lib.hid hsub
        clear x0 x1 x2 x3 b5 hr5 hsb hsub hFb
        go_wp2_with fail
        refine HV.out.mono ?_
        rintro e6 w6 ⟨vh, rfl, hsh, b6⟩
        have B6 := Lib.hid (B5.out.trans (b6.mono (Nat.le_trans hB4 B5.out.size)))
        have hsb := SlOf.str HSb.out b6 b6.size
        have hva : varsA ⟨r.head, r.body, 0⟩ = varsA r := rfl
        rw [hva] at hsh
        obtain ⟨oh, kh, rfl, _, _, _⟩ := SlOf.open hsh
        obtain ⟨_, _, hh, _, _, SB⟩ := SlOf.open hsb
        cases hh
        have HSh := Lib.hid hsh
        clear HSb hsb hsh hva b6 y0 y1 y2 y3 HV
        go_wp2_with fail
        go_loopw [16] (fun kv wx => ∃ k : Nat, k ≤ Fb.length ∧ kv = .int .i64 k ∧ Hid (Below w6.heap.size w6 wx)) (fun kv _ => Fb.length - (intOf kv).toNat)
        case atStart => exact ⟨0, Nat.zero_le _, rfl, Lib.hid (Below.refl _ _)⟩
        case round =>
          obtain ⟨k, hk, rfl, HX⟩ := hrel
          by_cases hk1 : k < Fb.length
          · have hk2 : (k : Int) < (Fb.length : Int) := by omega
            have hk0 : (0 : Int) ≤ (k : Int) := by omega
            obtain ⟨s, hs⟩ : ∃ s, Fb[k]? = some s := ⟨_, List.getElem?_eq_getElem hk1⟩
            obtain ⟨ae, rfl, hae, _, ce⟩ := str_at SB HX.out hs
            have hpl : ¬ placeV (varsA r) s < 0 := by
              obtain ⟨j, hj, _⟩ := place_mem (HSub.out s (List.mem_of_getElem? hs))
              rw [hj]
              omega
            have HPl := Lib.hid (place_c (varsA r) _ s _ (SlOf.str HSh.out HX.out HX.out.size))
            clear hs
            go_wp2_with fail
            refine HPl.out.mono ?_
            rintro e8 w8 ⟨rfl, b8⟩
            have HX8 := Lib.hid (HX.out.trans (b8.mono HX.out.size))
            clear b8 HPl
            go_wp2
            go_roundw
            case rel => exact ⟨k + 1, by omega, by go_num, HX8⟩
            case measure => simp [intOf]; omega
          · have hk2 : ¬ (k : Int) < (Fb.length : Int) := by omega
            have HBx := Lib.hid (B6.out.trans (HX.out.mono (Nat.le_trans hB4 B6.out.size)))
            have hrx := HR4.out _ HBx.out
            have x2 : wr.cell? ⟨w.heap.size, 2, none⟩ = some (.slice o1 r.body.length k1) := row_cells hrx 2
            have hfull : r.body.length = N.length := by rw [HFull.out]
            rw [hfull] at x2
            clear hrx
            go_wp2
            go_ret
            exact ⟨rfl, HK.out _ HBx.out⟩
end Go.Proofs.YtkemdankcjpeeaaDoor
