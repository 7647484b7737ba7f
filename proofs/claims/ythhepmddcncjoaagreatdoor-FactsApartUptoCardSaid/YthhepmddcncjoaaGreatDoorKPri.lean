/- rel.Rise. soritesref08.Put, Sort. rel.copyRow, copyRows: rows of one's own, with the values of others. Rows that are sorted in place: what lies in their row, and how two change places. -/
import Derived.Test.YthhepmddcncjoaaGreatDoorKPc
import Derived.Test.YthhepmddcncjoaaGreatDoorKRng
set_option linter.unusedSimpArgs false
set_option linter.unusedVariables false
namespace Go.Proofs.YthhepmddcncjoaaGreatDoor
open Go.RowKit Go.Shelf

attribute [local go_sem] Oper.semAt_some

theorem chooseL {α β : Type} {n : Nat} {P : Nat → α → β → Prop} : ∀ {l : List α}, (∀ i x, l[i]? = some x → ∃ y, P (n + i) x y) → ∃ m : List β, m.length = l.length ∧ ∀ i x, l[i]? = some x → ∃ y, m[i]? = some y ∧ P (n + i) x y := by
  intro l
  induction l generalizing n with
  | nil => intro _; exact ⟨[], rfl, fun i x h => by simp at h⟩
  | cons x l ih =>
    intro h
    obtain ⟨y, hy⟩ := h 0 x rfl
    obtain ⟨m, h1, h2⟩ := ih (n := n + 1) (fun i z hz => by
      have := h (i + 1) z (by simpa using hz)
      rwa [show n + (i + 1) = n + 1 + i by omega] at this)
    refine ⟨y :: m, by simp [h1], fun i z hz => ?_⟩
    cases i with
    | zero =>
      simp only [List.getElem?_cons_zero, Option.some.injEq] at hz
      subst hz
      exact ⟨y, rfl, hy⟩
    | succ i =>
      obtain ⟨y', h3, h4⟩ := h2 i z (by simpa using hz)
      exact ⟨y', by simpa using h3, by rwa [show n + (i + 1) = n + 1 + i by omega]⟩
/-- A list of rows as the list of what lies in its places. -/
theorem rws_heads {w : World} {B : Nat} {l : List Rw} {v : Value} (h : RwsS w B l v) : ∃ hs : List (Rw × Value), hs.map Prod.fst = l ∧ SlOf w B 1 HdC hs v ∧ ∀ x ∈ hs, SlOf w B 3 VlC x.1 x.2 := by
  rcases h with ⟨rfl, rfl⟩ | ⟨a, cap, h1, h2, h3, h4, h5⟩
  · exact ⟨[], rfl, .inl ⟨rfl, rfl⟩, fun x hx => by cases hx⟩
  · obtain ⟨m, hm, hx⟩ := chooseL (n := 0) (P := fun i (x : Rw) (y : Rw × Value) => y.1 = x ∧ SlOf w B 3 VlC x y.2 ∧ CellsAt w a (i * 1) [y.2]) (l := l) (fun i x hx => by
      obtain ⟨cs, _, ⟨u, rfl, hu⟩, hc⟩ := h5 i x hx
      exact ⟨(x, u), rfl, hu, by rw [Nat.zero_add]; exact hc⟩)
    have key : ∀ (i : Nat) (y : Rw × Value), m[i]? = some y → l[i]? = some y.1 ∧ SlOf w B 3 VlC y.1 y.2 ∧ CellsAt w a (i * 1) [y.2] := fun i y hy => by
      have hi : i < l.length := by rw [← hm]; exact (List.getElem?_eq_some_iff.1 hy).1
      obtain ⟨y', e1, e2, e3, e4⟩ := hx i l[i] (List.getElem?_eq_getElem hi)
      rw [hy] at e1
      cases e1
      rw [Nat.zero_add] at e4
      exact ⟨by rw [e2]; exact List.getElem?_eq_getElem hi, by rw [e2]; exact e3, e4⟩
    refine ⟨m, ?_, .inr ⟨a, cap, by rw [hm]; exact h1, by rw [hm]; exact h2, h3, fun hne => h4 (by rintro rfl; exact hne (List.eq_nil_of_length_eq_zero hm)), fun i y hy => ⟨[y.2], rfl, rfl, (key i y hy).2.2⟩⟩, fun y hy => ?_⟩
    · apply List.ext_getElem?
      intro i
      rw [List.getElem?_map]
      cases hi : m[i]? with
      | none =>
        have := List.getElem?_eq_none_iff.1 hi
        rw [List.getElem?_eq_none (by omega)]
        rfl
      | some y => rw [(key i y hi).1]; rfl
    · obtain ⟨i, hi⟩ := List.mem_iff_getElem?.1 hy
      exact (key i y hi).2.1

/-- What stands while rows are held against those behind them. -/
structure RiI (hs : List (Rw × Value)) (V1 V2 : Value) (w : World) (k : Nat) (W : World) : Prop where
  g : PrG w V1 V2 41 41 (w.heap.size + 1) (w.heap.size + 1 + 1) W
  r : W.heap[w.heap.size]? = some (.cells #[.bool false] 4 (0, 0))
  la : k ≤ hs.length
  lb : k ≤ (hs.drop 1).length
  e : riseL rwC (hs.map Prod.fst) = riseL rwC ((hs.map Prod.fst).drop k)
theorem RiI.put {hs : List (Rw × Value)} {V1 V2 : Value} {w : World} {k : Nat} {W W' : World} {B : Nat} (h : RiI hs V1 V2 w k W) (hp : Put B W W') (hB : w.heap.size ≤ B) : RiI hs V1 V2 w k W' :=
  ⟨h.g.put hp hB, put_block hp h.r (.inl rfl), h.la, h.lb, h.e⟩
theorem RiI.below {hs : List (Rw × Value)} {V1 V2 : Value} {w : World} {k : Nat} {W W' : World} (h : RiI hs V1 V2 w k W) (hb : Below W.heap.size W W') : RiI hs V1 V2 w k W' :=
  ⟨h.g.below hb, (hb.block _ (heapLt h.r)).trans h.r, h.la, h.lb, h.e⟩
theorem sl_drop1 {w : World} {B : Nat} {hs : List (Rw × Value)} {a : Addr} {cap : Nat} (h : SlOf w B 1 HdC hs (.slice (some a) hs.length cap)) (h0 : hs ≠ []) : SlOf w B 1 HdC (hs.drop 1) (.slice (some ⟨a.block, a.off + 1, none⟩) (hs.length - 1) (cap - 1)) := by
  have hp : 0 < hs.length := List.length_pos_iff.2 h0
  rcases h with ⟨he, _⟩ | ⟨a', cap', he, h2, h3, h4, h5⟩
  · cases he
  · cases he
    refine .inr ⟨⟨a.block, a.off + 1, none⟩, cap - 1, by rw [List.length_drop], by rw [List.length_drop]; omega, by omega, fun _ => h4 h0, fun i x hx => ?_⟩
    rw [List.getElem?_drop] at hx
    obtain ⟨cs, e1, e2, e3⟩ := h5 (1 + i) x hx
    refine ⟨cs, e1, e2, fun j c hj => ?_⟩
    have hj0 : j = 0 := by have := (List.getElem?_eq_some_iff.1 hj).1; omega
    subst hj0
    have := e3 0 c hj
    rw [show (1 + i) * 1 + 0 = i + 1 by omega] at this
    rw [Nat.mul_one, Nat.add_zero]
    refine Eq.trans (congrArg w.cell? ?_) this
    unfold Addr.add
    rw [if_neg (show ¬ i + 1 = 0 by omega)]
    simp only [Nat.add_zero]
    by_cases hi : i = 0
    · subst hi; rw [if_pos rfl, Nat.zero_add]
    · rw [if_neg hi]; simp [Nat.add_assoc, Nat.add_comm 1 i]
set_option linter.unusedSimpArgs false in
set_option maxRecDepth 100000 in
set_option maxHeartbeats 8000000 in
theorem prise_c (l : List Rw) (v : Value) (w : World) (h1 : RwsS w w.heap.size l v) :
    Calls Tryz.prog 73 #[v] w fun e w' => e = .returned (.bool (riseL rwC l)) ∧ Below w.heap.size w w' := by
  refine callsIn_wide (n := 8).1 ?_
  obtain ⟨hs, rfl, hS, hR⟩ := rws_heads h1
  obtain ⟨o1, cap1, rfl, hc1, hm1, S1⟩ := SlOf.open hS
  have HS := Lib.hid hS
  have HR := Lib.hid hR
  obtain ⟨n0, hn0⟩ : ∃ n0, w.heap.size = n0 := ⟨_, rfl⟩
  have Hn0 := Lib.hid hn0
  clear h1 hS hR
  obtain ⟨V1, hV1⟩ : ∃ V1, V1 = Value.slice o1 hs.length cap1 := ⟨_, rfl⟩
  have HS1 : Hid (SlOf w w.heap.size 1 HdC hs V1) := Lib.hid (by rw [hV1]; exact HS.out)
  have HV1 : Hid (V1 = Value.slice o1 hs.length cap1) := Lib.hid hV1
  clear hV1
  have HZ : (hs.length = 0 ∧ min (1 : Int) (hs.length : Int) = 0) ∨ (0 < hs.length ∧ min (1 : Int) (hs.length : Int) = 1) := by omega
  have HQ : ∀ (WL : World) (V2 : Value), Hid (SlOf w w.heap.size 1 HdC (hs.drop 1) V2) → WL = ((w.alloc (.cells #[.bool false] 4)).alloc (.cells #[V1] 41)).alloc (.cells #[V2] 41) → Hid (WL.heap.size = n0 + 3) ∧ Hid (RiI hs V1 V2 w 0 WL) := by
    intro WL V2 HU hWL
    refine ⟨Lib.hid (by rw [hWL]; simp; omega), Lib.hid ⟨⟨?_, ?_, ?_⟩, ?_, Nat.zero_le _, Nat.zero_le _, rfl⟩⟩
    · rw [hWL]
      exact (((Below.refl _ w).alloc (Nat.le_refl _) _).alloc (by simp) _).alloc (by simp; omega) _
    · rw [hWL]
      exact row_more (newRow (by simp)) _
    · rw [hWL]
      exact newRow (by simp)
    · rw [hWL]
      exact row_more (row_more (newRow rfl) _) _
  have HQ := Lib.hid HQ
  rcases HZ with ⟨h0, hmin⟩ | ⟨h0, hmin⟩
  all_goals
    refine callsIn_of_wp_marks Tryz.func73 rfl trivial ?_ rfl
    simp only [Tryz.ntmps73, List.size_toArray, List.length_cons, List.length_nil, Nat.reduceAdd, Nat.reduceSub, Array.replicate_succ, Array.replicate_zero, List.push_toArray, List.append_toArray, List.nil_append, List.cons_append]
    gi_wp2_with fail
    all_goals refine ⟨trivial, (pairsR_in 7 _ _ _ _ _ _ _).mono ?_⟩
    all_goals rintro e WL ⟨rfl, hWL⟩
  · have hnil : hs = [] := List.eq_nil_of_length_eq_zero h0
    obtain ⟨V2, hV2⟩ : ∃ V2, V2 = Value.slice o1 0 cap1 := ⟨_, rfl⟩
    have HU : Hid (SlOf w w.heap.size 1 HdC (hs.drop 1) V2) := Lib.hid (by rw [hV2]; have := HS.out; rw [hnil] at this ⊢; exact this)
    obtain ⟨Hs, HI0⟩ := HQ.out WL V2 HU (by rw [hWL, hV2, HV1.out, h0])
    clear hWL hV2 hnil h0 hmin
    have e4 : (w.alloc (.cells #[.bool false] 4)).heap.size = n0 + 1 := by simp; omega
    rw [e4]
    clear e4
    gi_wp2_with fail
    refine range_moves2 rfl (by omega) (gf := 140) (bd := #[]) (lb := #[.pointer (some ⟨n0 + 1, 0, none⟩), .pointer (some ⟨n0 + 1 + 1, 0, none⟩)]) rfl trivial (enters_of Tryz.func140 (by kernel_rfl) rfl)
      (pairsR_moves 7 (by omega) hs (hs.drop 1) V1 V2 w (n0 + 1) (n0 + 1 + 1) HS1.out HU.out) (fun _ => rfl)
      (fun x W => ∃ j, x.1 = j + 1 ∧ RiI hs V1 V2 w j W ∧ hs[j]? = some x.2.1 ∧ hs[j + 1]? = some x.2.2)
      (fun x W => RiI hs V1 V2 w x.1 W)
      (fun c W => c = .ret ∧ Below n0 w W ∧ W.heap[n0]? = some (.cells #[.bool (riseL rwC (hs.map Prod.fst))] 4 (0, 0)))
      (fun W => Below n0 w W ∧ (∃ b, W.heap[n0]? = some (.cells #[.bool b] 4 (0, 0))) ∧ riseL rwC (hs.map Prod.fst) = true)
      (fun x a' W => ∃ j u0 u1 u2 u3 u4 u5 u6 u7, x.1 = j + 1 ∧ RiI hs V1 V2 w j W ∧ hs[j]? = some x.2.1 ∧ hs[j + 1]? = some x.2.2 ∧
        a' = { tmps := #[u0, undef, .pointer (some ⟨n0, 0, none⟩), x.2.1.2, x.2.2.2, u1, u2, u3, u4, u5, u6, u7, x.2.1.2, x.2.2.2, undef, undef, undef, undef], defers := [] })
      ?fB ?fX ?fZ ?fM ?h0 ?hB ?assign ?body ?done ?stop
    case fB =>
      rintro x W W' hp hI
      exact hI.put hp (by rw [Hs.out, Hn0.out]; omega)
    case fX =>
      rintro c W W' hp ⟨h1, h2, h3⟩
      exact ⟨h1, put_bel hp h2 (by rw [Hs.out]; omega), put_block hp h3 (.inl rfl)⟩
    case fZ =>
      rintro W W' hp ⟨h1, ⟨b, h2⟩, h3⟩
      exact ⟨put_bel hp h1 (by rw [Hs.out]; omega), ⟨b, put_block hp h2 (.inl rfl)⟩, h3⟩
    case fM =>
      rintro x a' W W' hp ⟨j, u0, u1, u2, u3, u4, u5, u6, u7, h1, h2, h3, h4, h5⟩
      exact ⟨j, u0, u1, u2, u3, u4, u5, u6, u7, h1, h2.put hp (by rw [Hs.out, Hn0.out]; omega), h3, h4, h5⟩
    case h0 =>
      intro o o'
      exact HI0.out.below (((Below.refl _ _).alloc (Nat.le_refl _) _).alloc (by simp) _)
    case hB =>
      rintro x W1 hI
      have hg := hI.g
      rw [Hn0.out] at hg
      refine ⟨⟨hg, hI.la, hI.lb⟩, ?_, ?_⟩
      · rintro x' W2 ⟨t1, t2, t3, t4⟩
        rw [List.getElem?_drop, Nat.add_comm] at t3
        exact ⟨keepsB t4 _, x.1, t1, hI.below t4, t2, t3⟩
      · rintro W2 ⟨t1, t2⟩
        have hI2 := hI.below t2
        have hr := hI2.r
        have hb := hI2.g.b
        rw [Hn0.out] at hr hb
        refine ⟨keepsB t2 _, hb, ⟨_, hr⟩, ?_⟩
        rw [hI.e]
        have hlen : ((hs.map Prod.fst).drop x.1).length ≤ 1 := by
          rw [List.length_drop, List.length_map]
          rw [List.length_drop] at t1
          omega
        match hq : (hs.map Prod.fst).drop x.1 with
        | [] => rfl
        | [_] => rfl
        | _ :: _ :: _ => rw [hq] at hlen; simp at hlen
    case assign =>
      rintro l x W ⟨j, h1, h2, h3, h4⟩
      have H2 := Lib.hid h2
      clear h2
      gi_wp2
      exact ⟨KeepsFrom.refl _ _, j, _, _, _, _, _, _, _, _, h1, H2.out, h3, h4, by trivial⟩
    case body =>
      rintro l x a' W ⟨j, u0, u1, u2, u3, u4, u5, u6, u7, h1, h2, h3, h4, rfl⟩
      obtain ⟨xk, ⟨ra, va⟩, ⟨rb, vb⟩⟩ := x
      simp only at h1 h3 h4
      subst h1
      have H2 := Lib.hid h2
      have hva : SlOf W W.heap.size 3 VlC ra va := VlS.past (HR.out _ (List.mem_of_getElem? h3)) h2.g.b
      have hvb : SlOf W W.heap.size 3 VlC rb vb := VlS.past (HR.out _ (List.mem_of_getElem? h4)) h2.g.b
      have HC := Lib.hid (pcompare_c ra rb va vb W hva hvb)
      have hja : j < hs.length := (List.getElem?_eq_some_iff.1 h3).1
      have hjb : j + 1 < hs.length := (List.getElem?_eq_some_iff.1 h4).1
      have Hst : Hid (riseL rwC (hs.map Prod.fst) = (decide (rwC ra rb < 0) && riseL rwC ((hs.map Prod.fst).drop (j + 1)))) := Lib.hid (h2.e.trans (rise_drop (by rw [List.getElem?_map, h3]; rfl) (by rw [List.getElem?_map, h4]; rfl)))
      obtain ⟨z, hz⟩ : ∃ z, rwC ra rb = z := ⟨_, rfl⟩
      rw [hz] at HC Hst
      clear h2 h3 h4 hva hvb hz
      gi_wp2_with fail
      refine ⟨trivial, (CallsIn.inRound l (callsIn_wide.2 HC.out)).mono ?_⟩
      rintro e w1 ⟨rfl, b1⟩
      have H21 := Lib.hid (H2.out.below b1)
      have HK1 : Hid (KeepsFrom WL.heap.size W w1) := Lib.hid (keepsB b1 _)
      have hr := H21.out.r
      rw [Hn0.out] at hr
      have r1 := (row_cell hr 0).1
      have r2 := (row_cell hr 0).2
      have lr := heapLt hr
      have Hr := Lib.hid hr
      clear b1 hr
      by_cases hz0 : z < 0
      · have hz1 : decide (z ≥ 0) = false := decide_eq_false (by omega)
        have HE : Hid (RiI hs V1 V2 w (j + 1) w1) := Lib.hid ⟨H21.out.g, H21.out.r, hja, by rw [List.length_drop]; omega, by rw [Hst.out, decide_eq_true hz0, Bool.true_and]⟩
        gi_wp2
        exact ⟨HK1.out, HE.out⟩
      · have hz1 : decide (z ≥ 0) = true := decide_eq_true (by omega)
        have Hf : Hid (riseL rwC (hs.map Prod.fst) = false) := Lib.hid (by rw [Hst.out, decide_eq_false hz0, Bool.false_and])
        have HX : Hid (KeepsFrom WL.heap.size W (w1.setCell ⟨n0, 0, none⟩ (.bool false)) ∧ Below n0 w (w1.setCell ⟨n0, 0, none⟩ (.bool false)) ∧ (w1.setCell ⟨n0, 0, none⟩ (.bool false)).heap[n0]? = some (.cells #[.bool false] 4 (0, 0))) := Lib.hid (by
          have hb := H21.out.g.b
          rw [Hn0.out] at hb
          refine ⟨HK1.out.trans (KeepsFrom.of_grownBy (grown_set w1 n0 0 (.bool false)) (fun j e => by have := Option.some.inj e; have := Hs.out; omega)), hb.setCell (Nat.le_refl _) _, setRow Hr.out⟩)
        gi_wp2
        exact ⟨HX.out.1, rfl, HX.out.2.1, by rw [Hf.out]; exact HX.out.2.2⟩
    case done =>
      rintro D W hD ⟨h1, ⟨b, h2⟩, h3⟩ hd
      have H1 := Lib.hid h1
      have H2 := Lib.hid h2
      have H3 := Lib.hid h3
      have Hd := Lib.hid hd
      have HD := Lib.hid hD
      have r1 := (row_cell h2 0).1
      have r2 := (row_cell h2 0).2
      have lr := heapLt h2
      have hDl : D < W.heap.size := heapLt hd
      clear h1 h2 h3 hd hD
      gi_wp2
      refine leave_cell rfl (b := n0) (T := 4) (v := .bool true) ((setOther (by have := Hs.out; have := HD.out; omega)).trans Hd.out) rfl (setRow H2.out) (fun _ h => load_bool h) ?_
      exact ⟨by rw [H3.out], by rw [Hn0.out]; exact put_gone (H1.out.setCell (Nat.le_refl _) _) (by have := Hs.out; have := HD.out; omega)⟩
    case stop =>
      rintro D c W hD ⟨rfl, h2, h3⟩ hd
      gi_wp2
      refine leave_cell rfl (b := n0) (T := 4) hd rfl h3 (fun _ h => load_bool h) ?_
      exact ⟨rfl, by rw [Hn0.out]; exact put_gone h2 (by have := Hs.out; omega)⟩
  · have hcap := h
    have hne : hs ≠ [] := by rintro rfl; simp at h0
    have hl1 : hs.length = 1 := by omega
    obtain ⟨V2, hV2⟩ : ∃ V2, V2 = Value.slice o1 (hs.length - 1) 0 := ⟨_, rfl⟩
    have HU : Hid (SlOf w w.heap.size 1 HdC (hs.drop 1) V2) := Lib.hid (by
      rw [hV2, hl1]
      rw [List.drop_of_length_le (by omega)]
      cases o1 with
      | none => exact .inl ⟨rfl, rfl⟩
      | some a => exact .inr ⟨a, 0, rfl, Nat.le_refl _, Nat.zero_le _, fun h => absurd rfl h, fun i x hx => by simp at hx⟩)
    obtain ⟨Hs, HI0⟩ := HQ.out WL V2 HU (by rw [hWL, hV2, HV1.out, hcap])
    clear hWL hV2 hl1 hne h0 hmin hcap h
    have e4 : (w.alloc (.cells #[.bool false] 4)).heap.size = n0 + 1 := by simp; omega
    rw [e4]
    clear e4
    gi_wp2_with fail
    refine range_moves2 rfl (by omega) (gf := 140) (bd := #[]) (lb := #[.pointer (some ⟨n0 + 1, 0, none⟩), .pointer (some ⟨n0 + 1 + 1, 0, none⟩)]) rfl trivial (enters_of Tryz.func140 (by kernel_rfl) rfl)
      (pairsR_moves 7 (by omega) hs (hs.drop 1) V1 V2 w (n0 + 1) (n0 + 1 + 1) HS1.out HU.out) (fun _ => rfl)
      (fun x W => ∃ j, x.1 = j + 1 ∧ RiI hs V1 V2 w j W ∧ hs[j]? = some x.2.1 ∧ hs[j + 1]? = some x.2.2)
      (fun x W => RiI hs V1 V2 w x.1 W)
      (fun c W => c = .ret ∧ Below n0 w W ∧ W.heap[n0]? = some (.cells #[.bool (riseL rwC (hs.map Prod.fst))] 4 (0, 0)))
      (fun W => Below n0 w W ∧ (∃ b, W.heap[n0]? = some (.cells #[.bool b] 4 (0, 0))) ∧ riseL rwC (hs.map Prod.fst) = true)
      (fun x a' W => ∃ j u0 u1 u2 u3 u4 u5 u6 u7, x.1 = j + 1 ∧ RiI hs V1 V2 w j W ∧ hs[j]? = some x.2.1 ∧ hs[j + 1]? = some x.2.2 ∧
        a' = { tmps := #[u0, undef, .pointer (some ⟨n0, 0, none⟩), x.2.1.2, x.2.2.2, u1, u2, u3, u4, u5, u6, u7, x.2.1.2, x.2.2.2, undef, undef, undef, undef], defers := [] })
      ?fB ?fX ?fZ ?fM ?h0 ?hB ?assign ?body ?done ?stop
    case fB =>
      rintro x W W' hp hI
      exact hI.put hp (by rw [Hs.out, Hn0.out]; omega)
    case fX =>
      rintro c W W' hp ⟨h1, h2, h3⟩
      exact ⟨h1, put_bel hp h2 (by rw [Hs.out]; omega), put_block hp h3 (.inl rfl)⟩
    case fZ =>
      rintro W W' hp ⟨h1, ⟨b, h2⟩, h3⟩
      exact ⟨put_bel hp h1 (by rw [Hs.out]; omega), ⟨b, put_block hp h2 (.inl rfl)⟩, h3⟩
    case fM =>
      rintro x a' W W' hp ⟨j, u0, u1, u2, u3, u4, u5, u6, u7, h1, h2, h3, h4, h5⟩
      exact ⟨j, u0, u1, u2, u3, u4, u5, u6, u7, h1, h2.put hp (by rw [Hs.out, Hn0.out]; omega), h3, h4, h5⟩
    case h0 =>
      intro o o'
      exact HI0.out.below (((Below.refl _ _).alloc (Nat.le_refl _) _).alloc (by simp) _)
    case hB =>
      rintro x W1 hI
      have hg := hI.g
      rw [Hn0.out] at hg
      refine ⟨⟨hg, hI.la, hI.lb⟩, ?_, ?_⟩
      · rintro x' W2 ⟨t1, t2, t3, t4⟩
        rw [List.getElem?_drop, Nat.add_comm] at t3
        exact ⟨keepsB t4 _, x.1, t1, hI.below t4, t2, t3⟩
      · rintro W2 ⟨t1, t2⟩
        have hI2 := hI.below t2
        have hr := hI2.r
        have hb := hI2.g.b
        rw [Hn0.out] at hr hb
        refine ⟨keepsB t2 _, hb, ⟨_, hr⟩, ?_⟩
        rw [hI.e]
        have hlen : ((hs.map Prod.fst).drop x.1).length ≤ 1 := by
          rw [List.length_drop, List.length_map]
          rw [List.length_drop] at t1
          omega
        match hq : (hs.map Prod.fst).drop x.1 with
        | [] => rfl
        | [_] => rfl
        | _ :: _ :: _ => rw [hq] at hlen; simp at hlen
    case assign =>
      rintro l x W ⟨j, h1, h2, h3, h4⟩
      have H2 := Lib.hid h2
      clear h2
      gi_wp2
      exact ⟨KeepsFrom.refl _ _, j, _, _, _, _, _, _, _, _, h1, H2.out, h3, h4, by trivial⟩
    case body =>
      rintro l x a' W ⟨j, u0, u1, u2, u3, u4, u5, u6, u7, h1, h2, h3, h4, rfl⟩
      obtain ⟨xk, ⟨ra, va⟩, ⟨rb, vb⟩⟩ := x
      simp only at h1 h3 h4
      subst h1
      have H2 := Lib.hid h2
      have hva : SlOf W W.heap.size 3 VlC ra va := VlS.past (HR.out _ (List.mem_of_getElem? h3)) h2.g.b
      have hvb : SlOf W W.heap.size 3 VlC rb vb := VlS.past (HR.out _ (List.mem_of_getElem? h4)) h2.g.b
      have HC := Lib.hid (pcompare_c ra rb va vb W hva hvb)
      have hja : j < hs.length := (List.getElem?_eq_some_iff.1 h3).1
      have hjb : j + 1 < hs.length := (List.getElem?_eq_some_iff.1 h4).1
      have Hst : Hid (riseL rwC (hs.map Prod.fst) = (decide (rwC ra rb < 0) && riseL rwC ((hs.map Prod.fst).drop (j + 1)))) := Lib.hid (h2.e.trans (rise_drop (by rw [List.getElem?_map, h3]; rfl) (by rw [List.getElem?_map, h4]; rfl)))
      obtain ⟨z, hz⟩ : ∃ z, rwC ra rb = z := ⟨_, rfl⟩
      rw [hz] at HC Hst
      clear h2 h3 h4 hva hvb hz
      gi_wp2_with fail
      refine ⟨trivial, (CallsIn.inRound l (callsIn_wide.2 HC.out)).mono ?_⟩
      rintro e w1 ⟨rfl, b1⟩
      have H21 := Lib.hid (H2.out.below b1)
      have HK1 : Hid (KeepsFrom WL.heap.size W w1) := Lib.hid (keepsB b1 _)
      have hr := H21.out.r
      rw [Hn0.out] at hr
      have r1 := (row_cell hr 0).1
      have r2 := (row_cell hr 0).2
      have lr := heapLt hr
      have Hr := Lib.hid hr
      clear b1 hr
      by_cases hz0 : z < 0
      · have hz1 : decide (z ≥ 0) = false := decide_eq_false (by omega)
        have HE : Hid (RiI hs V1 V2 w (j + 1) w1) := Lib.hid ⟨H21.out.g, H21.out.r, hja, by rw [List.length_drop]; omega, by rw [Hst.out, decide_eq_true hz0, Bool.true_and]⟩
        gi_wp2
        exact ⟨HK1.out, HE.out⟩
      · have hz1 : decide (z ≥ 0) = true := decide_eq_true (by omega)
        have Hf : Hid (riseL rwC (hs.map Prod.fst) = false) := Lib.hid (by rw [Hst.out, decide_eq_false hz0, Bool.false_and])
        have HX : Hid (KeepsFrom WL.heap.size W (w1.setCell ⟨n0, 0, none⟩ (.bool false)) ∧ Below n0 w (w1.setCell ⟨n0, 0, none⟩ (.bool false)) ∧ (w1.setCell ⟨n0, 0, none⟩ (.bool false)).heap[n0]? = some (.cells #[.bool false] 4 (0, 0))) := Lib.hid (by
          have hb := H21.out.g.b
          rw [Hn0.out] at hb
          refine ⟨HK1.out.trans (KeepsFrom.of_grownBy (grown_set w1 n0 0 (.bool false)) (fun j e => by have := Option.some.inj e; have := Hs.out; omega)), hb.setCell (Nat.le_refl _) _, setRow Hr.out⟩)
        gi_wp2
        exact ⟨HX.out.1, rfl, HX.out.2.1, by rw [Hf.out]; exact HX.out.2.2⟩
    case done =>
      rintro D W hD ⟨h1, ⟨b, h2⟩, h3⟩ hd
      have H1 := Lib.hid h1
      have H2 := Lib.hid h2
      have H3 := Lib.hid h3
      have Hd := Lib.hid hd
      have HD := Lib.hid hD
      have r1 := (row_cell h2 0).1
      have r2 := (row_cell h2 0).2
      have lr := heapLt h2
      have hDl : D < W.heap.size := heapLt hd
      clear h1 h2 h3 hd hD
      gi_wp2
      refine leave_cell rfl (b := n0) (T := 4) (v := .bool true) ((setOther (by have := Hs.out; have := HD.out; omega)).trans Hd.out) rfl (setRow H2.out) (fun _ h => load_bool h) ?_
      exact ⟨by rw [H3.out], by rw [Hn0.out]; exact put_gone (H1.out.setCell (Nat.le_refl _) _) (by have := Hs.out; have := HD.out; omega)⟩
    case stop =>
      rintro D c W hD ⟨rfl, h2, h3⟩ hd
      gi_wp2
      refine leave_cell rfl (b := n0) (T := 4) hd rfl h3 (fun _ h => load_bool h) ?_
      exact ⟨rfl, by rw [Hn0.out]; exact put_gone h2 (by have := Hs.out; omega)⟩
  · have hne : hs ≠ [] := by rintro rfl; simp at h0
    obtain ⟨a1, ha1⟩ : ∃ a1, o1 = some a1 := by
      obtain ⟨x, hx⟩ : ∃ x, hs[0]? = some x := ⟨hs[0], List.getElem?_eq_getElem h0⟩
      obtain ⟨a, _, h, _⟩ := S1.out 0 x hx
      exact ⟨a, h⟩
    obtain ⟨V2, hV2⟩ : ∃ V2, V2 = Value.slice (Option.map (fun x => { block := x.block, off := x.off + 1 }) o1) (hs.length - 1) (cap1 - 1) := ⟨_, rfl⟩
    have HU : Hid (SlOf w w.heap.size 1 HdC (hs.drop 1) V2) := Lib.hid (by
      have := HS.out
      rw [hV2]
      subst ha1
      exact sl_drop1 this hne)
    obtain ⟨Hs, HI0⟩ := HQ.out WL V2 HU (by rw [hWL, hV2, HV1.out])
    clear hWL hV2 ha1 hne h0 hmin
    have e4 : (w.alloc (.cells #[.bool false] 4)).heap.size = n0 + 1 := by simp; omega
    rw [e4]
    clear e4
    gi_wp2_with fail
    refine range_moves2 rfl (by omega) (gf := 140) (bd := #[]) (lb := #[.pointer (some ⟨n0 + 1, 0, none⟩), .pointer (some ⟨n0 + 1 + 1, 0, none⟩)]) rfl trivial (enters_of Tryz.func140 (by kernel_rfl) rfl)
      (pairsR_moves 7 (by omega) hs (hs.drop 1) V1 V2 w (n0 + 1) (n0 + 1 + 1) HS1.out HU.out) (fun _ => rfl)
      (fun x W => ∃ j, x.1 = j + 1 ∧ RiI hs V1 V2 w j W ∧ hs[j]? = some x.2.1 ∧ hs[j + 1]? = some x.2.2)
      (fun x W => RiI hs V1 V2 w x.1 W)
      (fun c W => c = .ret ∧ Below n0 w W ∧ W.heap[n0]? = some (.cells #[.bool (riseL rwC (hs.map Prod.fst))] 4 (0, 0)))
      (fun W => Below n0 w W ∧ (∃ b, W.heap[n0]? = some (.cells #[.bool b] 4 (0, 0))) ∧ riseL rwC (hs.map Prod.fst) = true)
      (fun x a' W => ∃ j u0 u1 u2 u3 u4 u5 u6 u7, x.1 = j + 1 ∧ RiI hs V1 V2 w j W ∧ hs[j]? = some x.2.1 ∧ hs[j + 1]? = some x.2.2 ∧
        a' = { tmps := #[u0, undef, .pointer (some ⟨n0, 0, none⟩), x.2.1.2, x.2.2.2, u1, u2, u3, u4, u5, u6, u7, x.2.1.2, x.2.2.2, undef, undef, undef, undef], defers := [] })
      ?fB ?fX ?fZ ?fM ?h0 ?hB ?assign ?body ?done ?stop
    case fB =>
      rintro x W W' hp hI
      exact hI.put hp (by rw [Hs.out, Hn0.out]; omega)
    case fX =>
      rintro c W W' hp ⟨h1, h2, h3⟩
      exact ⟨h1, put_bel hp h2 (by rw [Hs.out]; omega), put_block hp h3 (.inl rfl)⟩
    case fZ =>
      rintro W W' hp ⟨h1, ⟨b, h2⟩, h3⟩
      exact ⟨put_bel hp h1 (by rw [Hs.out]; omega), ⟨b, put_block hp h2 (.inl rfl)⟩, h3⟩
    case fM =>
      rintro x a' W W' hp ⟨j, u0, u1, u2, u3, u4, u5, u6, u7, h1, h2, h3, h4, h5⟩
      exact ⟨j, u0, u1, u2, u3, u4, u5, u6, u7, h1, h2.put hp (by rw [Hs.out, Hn0.out]; omega), h3, h4, h5⟩
    case h0 =>
      intro o o'
      exact HI0.out.below (((Below.refl _ _).alloc (Nat.le_refl _) _).alloc (by simp) _)
    case hB =>
      rintro x W1 hI
      have hg := hI.g
      rw [Hn0.out] at hg
      refine ⟨⟨hg, hI.la, hI.lb⟩, ?_, ?_⟩
      · rintro x' W2 ⟨t1, t2, t3, t4⟩
        rw [List.getElem?_drop, Nat.add_comm] at t3
        exact ⟨keepsB t4 _, x.1, t1, hI.below t4, t2, t3⟩
      · rintro W2 ⟨t1, t2⟩
        have hI2 := hI.below t2
        have hr := hI2.r
        have hb := hI2.g.b
        rw [Hn0.out] at hr hb
        refine ⟨keepsB t2 _, hb, ⟨_, hr⟩, ?_⟩
        rw [hI.e]
        have hlen : ((hs.map Prod.fst).drop x.1).length ≤ 1 := by
          rw [List.length_drop, List.length_map]
          rw [List.length_drop] at t1
          omega
        match hq : (hs.map Prod.fst).drop x.1 with
        | [] => rfl
        | [_] => rfl
        | _ :: _ :: _ => rw [hq] at hlen; simp at hlen
    case assign =>
      rintro l x W ⟨j, h1, h2, h3, h4⟩
      have H2 := Lib.hid h2
      clear h2
      gi_wp2
      exact ⟨KeepsFrom.refl _ _, j, _, _, _, _, _, _, _, _, h1, H2.out, h3, h4, by trivial⟩
    case body =>
      rintro l x a' W ⟨j, u0, u1, u2, u3, u4, u5, u6, u7, h1, h2, h3, h4, rfl⟩
      obtain ⟨xk, ⟨ra, va⟩, ⟨rb, vb⟩⟩ := x
      simp only at h1 h3 h4
      subst h1
      have H2 := Lib.hid h2
      have hva : SlOf W W.heap.size 3 VlC ra va := VlS.past (HR.out _ (List.mem_of_getElem? h3)) h2.g.b
      have hvb : SlOf W W.heap.size 3 VlC rb vb := VlS.past (HR.out _ (List.mem_of_getElem? h4)) h2.g.b
      have HC := Lib.hid (pcompare_c ra rb va vb W hva hvb)
      have hja : j < hs.length := (List.getElem?_eq_some_iff.1 h3).1
      have hjb : j + 1 < hs.length := (List.getElem?_eq_some_iff.1 h4).1
      have Hst : Hid (riseL rwC (hs.map Prod.fst) = (decide (rwC ra rb < 0) && riseL rwC ((hs.map Prod.fst).drop (j + 1)))) := Lib.hid (h2.e.trans (rise_drop (by rw [List.getElem?_map, h3]; rfl) (by rw [List.getElem?_map, h4]; rfl)))
      obtain ⟨z, hz⟩ : ∃ z, rwC ra rb = z := ⟨_, rfl⟩
      rw [hz] at HC Hst
      clear h2 h3 h4 hva hvb hz
      gi_wp2_with fail
      refine ⟨trivial, (CallsIn.inRound l (callsIn_wide.2 HC.out)).mono ?_⟩
      rintro e w1 ⟨rfl, b1⟩
      have H21 := Lib.hid (H2.out.below b1)
      have HK1 : Hid (KeepsFrom WL.heap.size W w1) := Lib.hid (keepsB b1 _)
      have hr := H21.out.r
      rw [Hn0.out] at hr
      have r1 := (row_cell hr 0).1
      have r2 := (row_cell hr 0).2
      have lr := heapLt hr
      have Hr := Lib.hid hr
      clear b1 hr
      by_cases hz0 : z < 0
      · have hz1 : decide (z ≥ 0) = false := decide_eq_false (by omega)
        have HE : Hid (RiI hs V1 V2 w (j + 1) w1) := Lib.hid ⟨H21.out.g, H21.out.r, hja, by rw [List.length_drop]; omega, by rw [Hst.out, decide_eq_true hz0, Bool.true_and]⟩
        gi_wp2
        exact ⟨HK1.out, HE.out⟩
      · have hz1 : decide (z ≥ 0) = true := decide_eq_true (by omega)
        have Hf : Hid (riseL rwC (hs.map Prod.fst) = false) := Lib.hid (by rw [Hst.out, decide_eq_false hz0, Bool.false_and])
        have HX : Hid (KeepsFrom WL.heap.size W (w1.setCell ⟨n0, 0, none⟩ (.bool false)) ∧ Below n0 w (w1.setCell ⟨n0, 0, none⟩ (.bool false)) ∧ (w1.setCell ⟨n0, 0, none⟩ (.bool false)).heap[n0]? = some (.cells #[.bool false] 4 (0, 0))) := Lib.hid (by
          have hb := H21.out.g.b
          rw [Hn0.out] at hb
          refine ⟨HK1.out.trans (KeepsFrom.of_grownBy (grown_set w1 n0 0 (.bool false)) (fun j e => by have := Option.some.inj e; have := Hs.out; omega)), hb.setCell (Nat.le_refl _) _, setRow Hr.out⟩)
        gi_wp2
        exact ⟨HX.out.1, rfl, HX.out.2.1, by rw [Hf.out]; exact HX.out.2.2⟩
    case done =>
      rintro D W hD ⟨h1, ⟨b, h2⟩, h3⟩ hd
      have H1 := Lib.hid h1
      have H2 := Lib.hid h2
      have H3 := Lib.hid h3
      have Hd := Lib.hid hd
      have HD := Lib.hid hD
      have r1 := (row_cell h2 0).1
      have r2 := (row_cell h2 0).2
      have lr := heapLt h2
      have hDl : D < W.heap.size := heapLt hd
      clear h1 h2 h3 hd hD
      gi_wp2
      refine leave_cell rfl (b := n0) (T := 4) (v := .bool true) ((setOther (by have := Hs.out; have := HD.out; omega)).trans Hd.out) rfl (setRow H2.out) (fun _ h => load_bool h) ?_
      exact ⟨by rw [H3.out], by rw [Hn0.out]; exact put_gone (H1.out.setCell (Nat.le_refl _) _) (by have := Hs.out; have := HD.out; omega)⟩
    case stop =>
      rintro D c W hD ⟨rfl, h2, h3⟩ hd
      gi_wp2
      refine leave_cell rfl (b := n0) (T := 4) hd rfl h3 (fun _ h => load_bool h) ?_
      exact ⟨rfl, by rw [Hn0.out]; exact put_gone h2 (by have := Hs.out; omega)⟩
end Go.Proofs.YthhepmddcncjoaaGreatDoor
namespace Go.Proofs.YthhepmddcncjoaaGreatDoor
open Go.RowKit

theorem grown_via' {a b : World} {o : Obj} {row : Option Nat} (k : (a.alloc o).grownBy b row) : a.grownBy b row :=
  ⟨k.os, k.tape, k.output, Nat.le_trans (by simp) k.size, fun i hi hne => (k.block i (by simp; omega) hne).trans (Below.heap_alloc a o i hi)⟩
/-- What has been appended to so far, and where. -/
def OutR (w wr : World) (v : Value) (l : List Rw) : Prop := Owned wr w.heap.size 39 1 (RwC w w.heap.size) v l ∧ Below w.heap.size w wr
theorem OutR.past {w wr w1 : World} {v : Value} {l : List Rw} (h : OutR w wr v l) (b : Below wr.heap.size wr w1) : OutR w w1 v l := ⟨h.1.past b, h.2.trans (b.mono h.2.size)⟩
theorem OutR.snoc {w wr w3 : World} {v v' : Value} {l : List Rw} {css : List (List Value)} {x : Rw} {cell : Value} (h : OutR w wr v l) (h1 : css.length = l.length) (h2 : ∀ (i : Nat) (x : Rw), l[i]? = some x → ∃ cs, css[i]? = some cs ∧ cs.length = 1 ∧ RwC w w.heap.size x cs)
    (hx : RwC w w.heap.size x [cell]) (hg : wr.grownBy w3 v.ownBlock) (ho : w3.ownsRow w.heap.size 39 1 v' (l.length + 1) (css.flatten ++ [cell])) : OutR w w3 v' (l ++ [x]) :=
  ⟨Owned.snoc h1 h2 rfl hx ho, h.2.grown hg h.2.size (fun k hk => (h.1.lt k hk).1)⟩
theorem OutR.rows {w wr : World} {v : Value} {l : List Rw} (h : OutR w wr v l) : RwsS wr wr.heap.size l v := h.1.slOf (fun _ _ hr => (hr.below h.2).more h.2.size)

set_option maxRecDepth 100000 in
set_option maxHeartbeats 8000000 in
theorem rput_c (l : List Rw) (t : Rw) (v u : Value) (w : World) (hl : l.length ≤ 1000000) (h1 : RwsS w w.heap.size l v) (h2 : SlOf w w.heap.size 3 VlC t u) :
    Calls Tryz.prog 65 #[v, u] w fun e w' => ∃ r, e = .returned (.tuple #[r, .bool (newL rwC l t)]) ∧ OutR w w' r (putL rwC l t) := by
  obtain ⟨i0, hi, hz0, hz1, hz2⟩ := info_parts infoRow
  obtain ⟨o1, cap1, rfl, hc1, hm1, S1⟩ := SlOf.open h1
  obtain ⟨o2, cap2, rfl, _⟩ := SlOf.uni h2
  have HT : Hid (RwC w w.heap.size t [.slice o2 t.length cap2]) := Lib.hid ⟨_, rfl, h2⟩
  have H2 := Lib.hid h2
  have HB1 : Hid (∀ k, k ≤ l.length → k + 1 ≤ maxLen) := Lib.hid (fun k hk => by unfold maxLen; omega)
  have HB2 : Hid (∀ k, k ≤ l.length → (k + 1) * 24 ≤ 140737488355328) := Lib.hid (fun k hk => by omega)
  have HB5 : Hid (l.length ≤ 1000000) := Lib.hid hl
  clear h1 h2 hl
  go_enter Tryz.func65, Tryz.ntmps65
  go_wp2
  go_loopw [6, 7] (fun ov i wr => ∃ k : Nat, k ≤ l.length ∧ i = .int .i64 k ∧ OutR w wr ov (l.take k) ∧ putL rwC l t = l.take k ++ putL rwC (l.drop k) t ∧ newL rwC l t = newL rwC (l.drop k) t) (fun _ i _ => l.length - (intOf i).toNat)
  case atStart => exact ⟨0, Nat.zero_le _, rfl, ⟨Owned.nil _ _ _ _ _, Below.refl _ _⟩, rfl, rfl⟩
  case round =>
    obtain ⟨k, hk, rfl, hO, hp, hn⟩ := hrel
    have hB := hO.2
    have hBs := hB.size
    have Hp := Lib.hid hp
    have Hn := Lib.hid hn
    have HO := Lib.hid hO
    have hlk : (l.take k).length = k := by rw [List.length_take]; omega
    have HLK := Lib.hid hlk
    clear hp hn hO hlk

    have HB3 : Hid (∀ n, n ≤ l.length + 1 → n + 1 ≤ maxLen) := Lib.hid (fun n hn => by have := HB5.out; unfold maxLen; omega)
    have HB4 : Hid (∀ n, n ≤ l.length + 1 → (n + 1) * 24 ≤ 140737488355328) := Lib.hid (fun n hn => by have := HB5.out; omega)
    by_cases hlt : k < l.length
    · have hlt' : (k : Int) < (l.length : Int) := by omega
      have hk0 : (0 : Int) ≤ (k : Int) := by omega
      obtain ⟨x, hx⟩ : ∃ x, l[k]? = some x := ⟨l[k], List.getElem?_eq_getElem hlt⟩
      obtain ⟨a, p3, q3, rfl, ha, Hx, c0, Hr⟩ := rw_at S1 hB hx
      have hal : (a.add k).block < wr.heap.size := by rw [addBlock]; omega
      have HI := Lib.hid (fun (W : World) (hb : Below wr.heap.size wr W) => rcompare_c x t _ _ W (VlS.past Hx.out hb) (VlS.past (VlS.past H2.out hB) hb))
      have HLT := Lib.hid (fun h => put_lt (c := rwC) (t := t) hx h)
      have HEQ := Lib.hid (fun h => put_eq (c := rwC) (t := t) hx h)
      have HGT := Lib.hid (fun h h' => put_gt (c := rwC) (t := t) hx h h')
      have HTK := Lib.hid (take_snoc hx)
      obtain ⟨z, hz⟩ : ∃ z, rwC x t = z := ⟨_, rfl⟩
      rw [hz] at HI HLT HEQ HGT
      clear hz hx
      go_wp2_with fail
      refine (HI.out _ (Below.refl _ _)).mono ?_
      rintro e w1 ⟨rfl, b1⟩
      have HO1 := Lib.hid (HO.out.past b1)
      have hw1 := b1.size
      have c1 : w1.cell? (a.add k) = some (.slice p3 x.length q3) := (b1.cell hal).trans c0
      have hal1 : (a.add k).block < w1.heap.size := by omega
      by_cases h0 : z < 0
      · have HP := Lib.hid (Hp.out.trans (HLT.out h0).1)
        have HN := Lib.hid (Hn.out.trans (HLT.out h0).2)
        obtain ⟨css, hcl, hce, hown⟩ := HO1.out.1
        rw [HLK.out] at hown
        have HCE := Lib.hid (And.intro hcl hce)
        have HOWN := Lib.hid hown
        have HS1 := Lib.hid (HB1.out k hk)
        have HS2 := Lib.hid (HB2.out k hk)
        clear hcl hce hown HEQ HGT HLT c0
        go_wp2_with (at_builtin; refine wpList_append_own _ rfl (.tmp 22) (.tmp 27) 41 rfl w.heap.size 39 i0 _ 1 24 Tryz.underlying41 hi hz0 hz1 hz2 rfl (by decide) _ k _ rfl (HOWN.out.alloc _) _ 1 1 [.slice p3 x.length q3] rfl rfl (news_new _ _ _ _ rfl) (one_row _ rfl) HS1.out HS2.out (by simp; omega) ?_; intro v' w3 hown' hgrow _; obtain ⟨g', cap', rfl, hgb⟩ := own_form hown' (Nat.succ_pos _); have HG3 := Lib.hid (grown_via' hgrow); have HOWN3 := Lib.hid hown'; clear hgrow hown')
        go_wp2
        go_roundw
        case rel =>
          refine ⟨k + 1, hlt, by go_num, ?_, HP.out, HN.out⟩
          rw [HTK.out]
          exact HO1.out.snoc HCE.out.1 HCE.out.2 Hr.out HG3.out (by rw [HLK.out]; exact HOWN3.out)
        case measure => simp [intOf]; omega
      · have hne : ((k : Int) == (l.length : Int)) = false := by simp; omega
        have HI1 := Lib.hid (HI.out w1 b1)
        go_wp2_with fail
        refine HI1.out.mono ?_
        rintro e w2 ⟨rfl, b2⟩
        have HO2' := Lib.hid (HO1.out.past b2)
        have hw2 := b2.size
        by_cases h1 : z = 0
        · subst h1
          have HP : Hid (putL rwC l t = l.take k ++ l.drop k) := Lib.hid (by rw [Hp.out, (HEQ.out rfl).1])
          have HN : Hid (newL rwC l t = false) := Lib.hid (by rw [Hn.out, (HEQ.out rfl).2])
          clear HEQ HGT HLT c0 c1 HI HI1
          go_wp2
          go_loopw [6, 7] (fun ov i wx => ∃ (j : Nat) (M : List Rw), k ≤ j ∧ j ≤ l.length ∧ i = .int .i64 j ∧ OutR w wx ov (l.take k ++ M) ∧ M ++ l.drop j = l.drop k) (fun _ i _ => l.length - (intOf i).toNat)
          case atStart => exact ⟨k, [], Nat.le_refl _, hk, rfl, by rw [List.append_nil]; exact HO2'.out, rfl⟩
          case round =>
            obtain ⟨j, M, hkj, hj, rfl, hO, hM⟩ := hrel
            have hB := hO.2
            have hBs := hB.size
            have HM := Lib.hid hM
            have HO := Lib.hid hO
            clear hO hM
            by_cases hlt : j < l.length
            · have hlt' : (j : Int) < (l.length : Int) := by omega
              have hj0 : (0 : Int) ≤ (j : Int) := by omega
              obtain ⟨x, hx⟩ : ∃ x, l[j]? = some x := ⟨l[j], List.getElem?_eq_getElem hlt⟩
              obtain ⟨a', p3, q3, e2, ha, Hx, c0, Hr⟩ := rw_at S1 hB hx
              have hal : (a'.add j).block < wr.heap.size := by rw [addBlock]; omega
              cases e2
              have HM2 : Hid ((M ++ [x]) ++ l.drop (j + 1) = l.drop k) := Lib.hid (by rw [List.append_assoc, ← HM.out, drop_cons' hx]; rfl)
              have hlen : (l.take k ++ M).length ≤ l.length + 1 := by
                have h1 := congrArg List.length HM.out
                rw [List.length_append, List.length_drop, List.length_drop] at h1
                rw [List.length_append, HLK.out]
                omega
              obtain ⟨css, hcl, hce, hown⟩ := HO.out.1
              obtain ⟨N, hN⟩ : ∃ N, (l.take k ++ M).length = N := ⟨_, rfl⟩
              rw [hN] at hown hlen
              have HNN := Lib.hid hN
              have HCE := Lib.hid (And.intro hcl hce)
              have HOWN := Lib.hid hown
              have HS1 : Hid (N + 1 ≤ maxLen) := Lib.hid (HB3.out _ hlen)
              have HS2 : Hid ((N + 1) * 24 ≤ 140737488355328) := Lib.hid (HB4.out _ hlen)
              clear hx hcl hce hown hlen hN
              go_wp2_with (at_builtin; refine wpList_append_own _ rfl (.tmp 53) (.tmp 58) 41 rfl w.heap.size 39 i0 _ 1 24 Tryz.underlying41 hi hz0 hz1 hz2 rfl (by decide) _ N _ rfl (HOWN.out.alloc _) _ 1 1 [.slice p3 x.length q3] rfl rfl (news_new _ _ _ _ rfl) (one_row _ rfl) HS1.out HS2.out (by simp; omega) ?_; intro v' w3 hown' hgrow _; obtain ⟨g', cap', rfl, hgb⟩ := own_form hown' (Nat.succ_pos _); have HG3 := Lib.hid (grown_via' hgrow); have HOWN3 := Lib.hid hown'; clear hgrow hown')
              go_wp2
              go_roundw
              case rel =>
                refine ⟨j + 1, M ++ [x], by omega, hlt, by go_num, ?_, HM2.out⟩
                rw [← List.append_assoc]
                exact HO.out.snoc HCE.out.1 HCE.out.2 Hr.out HG3.out (by rw [HNN.out]; exact HOWN3.out)
              case measure => simp [intOf]; omega
            · have hlt' : ¬ (j : Int) < (l.length : Int) := by omega
              have He : Hid (l.take k ++ M = putL rwC l t) := Lib.hid (by
                have h1 := HM.out
                rw [List.drop_of_length_le (show l.length ≤ j by omega), List.append_nil] at h1
                rw [HP.out, h1])
              have hO := HO.out
              rw [He.out] at hO
              go_wp2
              go_ret2
              exact ⟨_, by rw [HN.out]; rfl, hO⟩
        · have h1' : (z != 0) = true := by simpa using h1
          have HP : Hid (putL rwC l t = (l.take k ++ [t]) ++ l.drop k) := Lib.hid (by rw [Hp.out, (HGT.out h0 h1).1, List.append_assoc])
          have HN : Hid (newL rwC l t = true) := Lib.hid (by rw [Hn.out, (HGT.out h0 h1).2])
          clear HEQ HGT HLT c0 c1 HI HI1
          obtain ⟨css, hcl, hce, hown⟩ := HO2'.out.1
          rw [HLK.out] at hown
          have HCE := Lib.hid (And.intro hcl hce)
          have HOWN := Lib.hid hown
          have HS1 := Lib.hid (HB1.out k hk)
          have HS2 := Lib.hid (HB2.out k hk)
          clear hcl hce hown
          go_wp2_with (at_builtin; refine wpList_append_own _ rfl (.tmp 45) (.tmp 47) 41 rfl w.heap.size 39 i0 _ 1 24 Tryz.underlying41 hi hz0 hz1 hz2 rfl (by decide) _ k _ rfl (HOWN.out.alloc _) _ 1 1 [.slice o2 t.length cap2] rfl rfl (news_new _ _ _ _ rfl) (one_row _ rfl) HS1.out HS2.out (by simp; omega) ?_; intro v' w3 hown' hgrow _; obtain ⟨g', cap', rfl, hgb⟩ := own_form hown' (Nat.succ_pos _); have HG3 := Lib.hid (grown_via' hgrow); have HOWN3 := Lib.hid hown'; clear hgrow hown')
          have HO2 := Lib.hid (HO2'.out.snoc HCE.out.1 HCE.out.2 HT.out HG3.out (by rw [HLK.out]; exact HOWN3.out))
          go_wp2
          go_loopw [6, 7] (fun ov i wx => ∃ (j : Nat) (M : List Rw), k ≤ j ∧ j ≤ l.length ∧ i = .int .i64 j ∧ OutR w wx ov ((l.take k ++ [t]) ++ M) ∧ M ++ l.drop j = l.drop k) (fun _ i _ => l.length - (intOf i).toNat)
          case atStart => exact ⟨k, [], Nat.le_refl _, hk, rfl, by rw [List.append_nil]; exact HO2.out, rfl⟩
          case round =>
            obtain ⟨j, M, hkj, hj, rfl, hO, hM⟩ := hrel
            have hB := hO.2
            have hBs := hB.size
            have HM := Lib.hid hM
            have HO := Lib.hid hO
            clear hO hM
            by_cases hlt : j < l.length
            · have hlt' : (j : Int) < (l.length : Int) := by omega
              have hj0 : (0 : Int) ≤ (j : Int) := by omega
              obtain ⟨x, hx⟩ : ∃ x, l[j]? = some x := ⟨l[j], List.getElem?_eq_getElem hlt⟩
              obtain ⟨a', p3, q3, e2, ha, Hx, c0, Hr⟩ := rw_at S1 hB hx
              have hal : (a'.add j).block < wr.heap.size := by rw [addBlock]; omega
              cases e2
              have HM2 : Hid ((M ++ [x]) ++ l.drop (j + 1) = l.drop k) := Lib.hid (by rw [List.append_assoc, ← HM.out, drop_cons' hx]; rfl)
              have hlen : ((l.take k ++ [t]) ++ M).length ≤ l.length + 1 := by
                have h1 := congrArg List.length HM.out
                rw [List.length_append, List.length_drop, List.length_drop] at h1
                rw [List.length_append, List.length_append, List.length_cons, List.length_nil, HLK.out]
                omega
              obtain ⟨css, hcl, hce, hown⟩ := HO.out.1
              obtain ⟨N, hN⟩ : ∃ N, ((l.take k ++ [t]) ++ M).length = N := ⟨_, rfl⟩
              rw [hN] at hown hlen
              have HNN := Lib.hid hN
              have HCE := Lib.hid (And.intro hcl hce)
              have HOWN := Lib.hid hown
              have HS1 : Hid (N + 1 ≤ maxLen) := Lib.hid (HB3.out _ hlen)
              have HS2 : Hid ((N + 1) * 24 ≤ 140737488355328) := Lib.hid (HB4.out _ hlen)
              clear hx hcl hce hown hlen hN
              go_wp2_with (at_builtin; refine wpList_append_own _ rfl (.tmp 53) (.tmp 58) 41 rfl w.heap.size 39 i0 _ 1 24 Tryz.underlying41 hi hz0 hz1 hz2 rfl (by decide) _ N _ rfl (HOWN.out.alloc _) _ 1 1 [.slice p3 x.length q3] rfl rfl (news_new _ _ _ _ rfl) (one_row _ rfl) HS1.out HS2.out (by simp; omega) ?_; intro v' w3 hown' hgrow _; obtain ⟨g', cap', rfl, hgb⟩ := own_form hown' (Nat.succ_pos _); have HG3 := Lib.hid (grown_via' hgrow); have HOWN3 := Lib.hid hown'; clear hgrow hown')
              go_wp2
              go_roundw
              case rel =>
                refine ⟨j + 1, M ++ [x], by omega, hlt, by go_num, ?_, HM2.out⟩
                rw [← List.append_assoc]
                exact HO.out.snoc HCE.out.1 HCE.out.2 Hr.out HG3.out (by rw [HNN.out]; exact HOWN3.out)
              case measure => simp [intOf]; omega
            · have hlt' : ¬ (j : Int) < (l.length : Int) := by omega
              have He : Hid ((l.take k ++ [t]) ++ M = putL rwC l t) := Lib.hid (by
                have h1 := HM.out
                rw [List.drop_of_length_le (show l.length ≤ j by omega), List.append_nil] at h1
                rw [HP.out, h1])
              have hO := HO.out
              rw [He.out] at hO
              go_wp2
              go_ret2
              exact ⟨_, by rw [HN.out]; rfl, hO⟩
    · have hlt' : ¬ (k : Int) < (l.length : Int) := by omega
      have hne : ((k : Int) == (l.length : Int)) = true := by simp; omega
      have HP : Hid (putL rwC l t = (l.take k ++ [t]) ++ l.drop k) := Lib.hid (by rw [Hp.out, (put_end (c := rwC) (t := t) (show l.length ≤ k by omega)).1, List.append_assoc])
      have HN : Hid (newL rwC l t = true) := Lib.hid (by rw [Hn.out, (put_end (c := rwC) (t := t) (show l.length ≤ k by omega)).2])
      obtain ⟨css, hcl, hce, hown⟩ := HO.out.1
      rw [HLK.out] at hown
      have HCE := Lib.hid (And.intro hcl hce)
      have HOWN := Lib.hid hown
      have HS1 := Lib.hid (HB1.out k hk)
      have HS2 := Lib.hid (HB2.out k hk)
      clear hcl hce hown
      go_wp2_with (at_builtin; refine wpList_append_own _ rfl (.tmp 45) (.tmp 47) 41 rfl w.heap.size 39 i0 _ 1 24 Tryz.underlying41 hi hz0 hz1 hz2 rfl (by decide) _ k _ rfl (HOWN.out.alloc _) _ 1 1 [.slice o2 t.length cap2] rfl rfl (news_new _ _ _ _ rfl) (one_row _ rfl) HS1.out HS2.out (by simp; omega) ?_; intro v' w3 hown' hgrow _; obtain ⟨g', cap', rfl, hgb⟩ := own_form hown' (Nat.succ_pos _); have HG3 := Lib.hid (grown_via' hgrow); have HOWN3 := Lib.hid hown'; clear hgrow hown')
      have HO2 := Lib.hid (HO.out.snoc HCE.out.1 HCE.out.2 HT.out HG3.out (by rw [HLK.out]; exact HOWN3.out))
      go_wp2
      go_loopw [6, 7] (fun ov i wx => ∃ (j : Nat) (M : List Rw), k ≤ j ∧ j ≤ l.length ∧ i = .int .i64 j ∧ OutR w wx ov ((l.take k ++ [t]) ++ M) ∧ M ++ l.drop j = l.drop k) (fun _ i _ => l.length - (intOf i).toNat)
      case atStart => exact ⟨k, [], Nat.le_refl _, hk, rfl, by rw [List.append_nil]; exact HO2.out, rfl⟩
      case round =>
        obtain ⟨j, M, hkj, hj, rfl, hO, hM⟩ := hrel
        have hB := hO.2
        have hBs := hB.size
        have HM := Lib.hid hM
        have HO := Lib.hid hO
        clear hO hM
        by_cases hlt : j < l.length
        · exfalso
          omega
        · have hlt' : ¬ (j : Int) < (l.length : Int) := by omega
          have He : Hid ((l.take k ++ [t]) ++ M = putL rwC l t) := Lib.hid (by
            have h1 := HM.out
            rw [List.drop_of_length_le (show l.length ≤ j by omega), List.append_nil] at h1
            rw [HP.out, h1])
          have hO := HO.out
          rw [He.out] at hO
          go_wp2
          go_ret2
          exact ⟨_, by rw [HN.out]; rfl, hO⟩
end Go.Proofs.YthhepmddcncjoaaGreatDoor
namespace Go.Proofs.YthhepmddcncjoaaGreatDoor
open Go.RowKit

theorem infoVal : (Tryz.prog.info? 51).map (fun i => (i.zero, i.size, i.bytes)) = some (some (.agg #[.bool false, .int .i64 0, .string ⟨#[]⟩]), 3, 32) := by kernel_rfl
/-- A row that may be copied. -/
def FitW (r : Rw) : Prop := r.length * 32 ≤ 140737488355328
theorem FitW.max {r : Rw} (h : FitW r) : r.length ≤ maxLen := by unfold FitW at h; unfold maxLen; omega

set_option maxRecDepth 100000 in
set_option maxHeartbeats 4000000 in
theorem copyRow_c (r : Rw) (v : Value) (w : World) (hv : SlOf w w.heap.size 3 VlC r v) (hf : FitW r) :
    Calls Tryz.prog 91 #[v] w fun e w' => (∃ u xs, e = .returned u ∧ w'.ownsRow w.heap.size 51 3 u r.length xs ∧ Laid 3 VlC r xs) ∧ Below w.heap.size w w' := by
  obtain ⟨i0, hi, hz0, hz1, hz2⟩ := info_parts infoVal
  obtain ⟨xs, hl, hs⟩ := sl_laid hv vl_one
  obtain ⟨o1, cap1, rfl, hc1, hm1, _⟩ := SlOf.open hv
  have HL := Lib.hid hl
  have HS := Lib.hid hs
  have HM : Hid (0 + r.length ≤ maxLen) := Lib.hid (by rw [Nat.zero_add]; exact hf.max)
  have HF : Hid ((0 + r.length) * 32 ≤ 140737488355328) := Lib.hid (by rw [Nat.zero_add]; exact hf)
  clear hv hf hl hs
  go_enter Tryz.func91, Tryz.ntmps91
  go_wp2_with (at_builtin; refine wpList_append_any _ rfl (.const (.slice none 0 0)) (.tmp 3) 39 rfl w.heap.size 51 i0 _ 3 32 Tryz.underlying39 hi hz0 hz1 hz2 rfl (by decide) (.slice none 0 0) 0 [] rfl (World.ownsRow_nil _ _ _ _) _ r.length xs rfl HS.out HM.out HF.out (Nat.le_refl _) ?_; intro v' w3 hown' hgrow _; rw [Nat.zero_add, List.nil_append] at hown'; have HO := Lib.hid hown'; have HG := Lib.hid hgrow; clear hown' hgrow; obtain ⟨o3, c3, hv3⟩ : ∃ o c, v' = .slice o r.length c := (by rcases HO.out.2 with ⟨e, h0⟩ | ⟨g, cap, _, e, _⟩; (exact ⟨none, 0, by rw [e, h0]⟩); (exact ⟨_, _, e⟩)); subst hv3)
  go_wp2
  go_ret
  exact ⟨⟨_, xs, rfl, HO.out, HL.out⟩, (Below.refl _ _).grown HG.out (Nat.le_refl _) (fun k hk => by simp [Value.ownBlock] at hk)⟩
theorem copy_see {W W' : World} {v u : Value} {r : Rw} {xs : List Value} (ho : W'.ownsRow W.heap.size 51 3 u r.length xs) (hl : Laid 3 VlC r xs) (hv : ∀ g, v.ownBlock = some g → g < W.heap.size) : SlOf (hideV v W') W'.heap.size 3 VlC r u := by
  have := sl_own0 (own_hide ho hv) hl
  rwa [hideV_size] at this

set_option linter.unusedSimpArgs false in
set_option maxRecDepth 100000 in
set_option maxHeartbeats 8000000 in
theorem copyRows_c (l : List Rw) (v : Value) (w : World) (hv : RwsS w w.heap.size l v) (hn : l.length ≤ 1000000) (hf : ∀ r ∈ l, FitW r) :
    Calls Tryz.prog 56 #[v] w fun e w' => ∃ hs g c, e = .returned (.slice (some ⟨g, 0, none⟩) l.length c) ∧ hs.map Prod.fst = l ∧ w.heap.size ≤ g ∧ RoR w w.heap.size (.slice (some ⟨g, 0, none⟩) l.length c) hs w' := by
  obtain ⟨i0, hi, hz0, hz1, hz2⟩ := info_parts infoRow
  obtain ⟨o1, cap1, rfl, hc1, hm1, S1⟩ := SlOf.open hv
  have HF := Lib.hid hf
  have HN := Lib.hid hn
  have hb2 : i0.bytes * l.length ≤ 281474976710656 := by rw [hz2]; omega
  have hb3 : l.length ≤ maxLen := by unfold maxLen; omega
  have HB2 := Lib.hid hb2
  have HB3 := Lib.hid hb3
  clear hv hf hn hb2 hb3
  go_enter Tryz.func56, Tryz.ntmps56
  go_wp2_with (at_make; refine wpList_make_own _ rfl _ _ 41 rfl w.heap.size 39 i0 _ 1 Tryz.underlying41 hi hz0 hz1 .i64 .i64 _ l.length rfl rfl (by first | omega | rfl) HB2.out HB3.out (Nat.le_refl _) ?_; intro w1 hown1 hg1; have O1 : Hid (RoR w w.heap.size (.slice (some ⟨w.heap.size, 0, none⟩) 0 l.length) [] w1) := Lib.hid ⟨hown1, (fun x hx => by cases hx), (Below.refl _ _).grown hg1 (Nat.le_refl _) (fun k hk => by cases hk)⟩; clear hown1 hg1)
  go_wp2
  go_loopw [3, 11] (fun ov i wr => ∃ (k g c : Nat) (hs : List (Rw × Value)), k ≤ l.length ∧ i = .int .i64 k ∧ ov = .slice (some ⟨g, 0, none⟩) k c ∧ w.heap.size ≤ g ∧ hs.map Prod.fst = l.take k ∧ RoR w w.heap.size ov hs wr) (fun _ i _ => l.length - (intOf i).toNat)
  case atStart => exact ⟨0, w.heap.size, l.length, [], Nat.zero_le _, rfl, rfl, Nat.le_refl _, rfl, O1.out⟩
  case round =>
    obtain ⟨k, g, c, hs, hk, rfl, rfl, hg0, hm, hO⟩ := hrel
    have hB := hO.b
    have hBs := hB.size
    have HO := Lib.hid hO
    have HMp := Lib.hid hm
    have hlen : hs.length = k := by have := congrArg List.length hm; rw [List.length_map, List.length_take] at this; omega
    have HLn := Lib.hid hlen
    clear hO hm hlen
    by_cases hlt : k < l.length
    · have hlt' : (k : Int) < (l.length : Int) := by omega
      have hk0 : (0 : Int) ≤ (k : Int) := by omega
      obtain ⟨x, hx⟩ : ∃ x, l[k]? = some x := ⟨l[k], List.getElem?_eq_getElem hlt⟩
      obtain ⟨a, p3, q3, rfl, ha, Hx, c0, _⟩ := rw_at S1 hB hx
      have hal : (a.add k).block < wr.heap.size := by rw [addBlock]; omega
      have HC := Lib.hid (copyRow_c x _ wr Hx.out (HF.out x (List.mem_of_getElem? hx)))
      have HTK := Lib.hid (take_snoc hx)
      have hgl : g < wr.heap.size := (HO.out.own.lt g rfl).2
      have hgl' := Lib.hid hgl
      clear hx Hx hgl
      go_wp2_with fail
      refine HC.out.mono ?_
      rintro e w2 ⟨⟨u, xs, rfl, ho, hl⟩, b2⟩
      have HSee := Lib.hid (copy_see (v := .slice (some ⟨g, 0, none⟩) k c) ho hl (fun g' h => by have := hgl'.out; simp only [Value.ownBlock, Option.some.injEq] at h; omega))
      have HO2 := Lib.hid (HO.out.below b2 hBs)
      obtain ⟨ou, cu, hu⟩ : ∃ o c, u = .slice o x.length c := by
        rcases ho.2 with ⟨e, h0⟩ | ⟨g, cap, _, e, _⟩
        · exact ⟨none, 0, by rw [e, h0]⟩
        · exact ⟨_, _, e⟩
      subst hu
      have hb2s := b2.size
      have HOwn : Hid (w2.ownsRow w.heap.size 39 1 (.slice (some ⟨g, 0, none⟩) k c) k (hs.map Prod.snd)) := Lib.hid (by have := HO2.out.own; rwa [HLn.out] at this)
      have HS1 : Hid (k + 1 ≤ maxLen) := Lib.hid (by have := HN.out; unfold maxLen; omega)
      have HS2 : Hid ((k + 1) * 24 ≤ 140737488355328) := Lib.hid (by have := HN.out; omega)
      clear ho hl b2 HC
      go_wp2_with (at_builtin; refine wpList_append_own_at _ rfl (.tmp 15) (.tmp 18) 41 rfl w.heap.size 39 i0 _ 1 24 Tryz.underlying41 hi hz0 hz1 hz2 rfl (by decide) (.slice (some ⟨g, 0, none⟩) k c) k _ rfl (HOwn.out.alloc _) ⟨w2.heap.size, 0, none⟩ 1 1 [.slice ou x.length cu] rfl rfl (World.news_of_block (World.alloc_heap_new _ _)) (one_row _ rfl) HS1.out HS2.out (by simp; omega) ?_; intro v' w3 hown' hgrow _ hv'; obtain ⟨g', cap', rfl, hgb⟩ := own_form hown' (Nat.succ_pos _); have hb3 : Below w2.heap.size w2 (w2.alloc (.cells #[.slice ou x.length cu] 39)) := (Below.refl _ _).alloc (Nat.le_refl _) _; have HO4 := Lib.hid ((HO2.out.below hb3 (by omega)).snoc hgrow hv' (see_below HSee.out hb3 hb3.size) (by rw [HLn.out]; exact hown') (by simp; omega)); clear hb3 hown' hgrow hv')
      go_wp2
      go_roundw
      case rel => exact ⟨k + 1, g', cap', hs ++ [(x, .slice ou x.length cu)], hlt, by go_num, rfl, hgb, by rw [List.map_append, HMp.out, HTK.out]; rfl, HO4.out⟩
      case measure => simp [intOf]; omega
    · have hlt' : ¬ (k : Int) < (l.length : Int) := by omega
      have hkl : k = l.length := by omega
      subst hkl
      have HMp2 : Hid (hs.map Prod.fst = l) := Lib.hid (by rw [HMp.out, List.take_length])
      go_wp2
      go_ret
      exact ⟨hs, g, c, rfl, HMp2.out, hg0, HO.out⟩
end Go.Proofs.YthhepmddcncjoaaGreatDoor
namespace Go.Proofs.YthhepmddcncjoaaGreatDoor
open Go.RowKit

abbrev Hd := Rw × Value
instance : Inhabited Value := ⟨undef⟩
/-- The row g holds what hs says, and what lies there lies elsewhere than in it. -/
structure SrW (w0 : World) (g : Nat) (tl : List Value) (hs : List Hd) (W : World) : Prop where
  row : W.heap[g]? = some (.cells (hs.map Prod.snd ++ tl).toArray 39 (0, 0))
  see : ∀ x ∈ hs, SlOf (hide g W) W.heap.size 3 VlC x.1 x.2
  b : w0.grownBy W (some g)
theorem SrW.cell {w0 W : World} {g : Nat} {tl : List Value} {hs : List Hd} (h : SrW w0 g tl hs W) {i : Nat} {x : Hd} (hx : hs[i]? = some x) : W.cell? ⟨g, i, none⟩ = some x.2 := by
  have hi := (List.getElem?_eq_some_iff.1 hx).1
  rw [(row_cell h.row i).1]
  rw [List.getElem?_toArray, List.getElem?_append_left (by simpa using hi), List.getElem?_map, hx]
  rfl
theorem SrW.froz {w0 W : World} {g : Nat} {tl : List Value} {hs : List Hd} (h : SrW w0 g tl hs W) (i : Nat) : W.frozen? ⟨g, i, none⟩ = false := (row_cell h.row i).2
theorem SrW.lt {w0 W : World} {g : Nat} {tl : List Value} {hs : List Hd} (h : SrW w0 g tl hs W) : g < W.heap.size := heapLt h.row
theorem hide_to {α : Type} {W W' : World} {g B B' z : Nat} {R : α → List Value → Prop} {l : List α} {u : Value} (h : SlOf (hide g W) B z R l u) (hg : W.grownBy W' (some g)) (hB : B ≤ B') : SlOf (hide g W') B' z R l u :=
  sl_cellsTo h (fun p c hc => by
    obtain ⟨h1, h2⟩ := hide_cell.1 hc
    exact hide_cell.2 ⟨h1, (World.cell?_of_block (hg.block _ (World.block_lt_of_cell? _ _ h2) (fun e => h1 (Option.some.inj e)))).trans h2⟩) hB
theorem hide_out {α : Type} {W : World} {g B z : Nat} {R : α → List Value → Prop} {l : List α} {u : Value} (h : SlOf (hide g W) B z R l u) : SlOf W B z R l u :=
  sl_cellsTo h (fun p c hc => (hide_cell.1 hc).2) (Nat.le_refl _)
theorem SrW.below {w0 W W' : World} {g : Nat} {tl : List Value} {hs : List Hd} (h : SrW w0 g tl hs W) (hb : Below W.heap.size W W') : SrW w0 g tl hs W' :=
  ⟨(hb.block _ h.lt).trans h.row, fun x hx => hide_to (h.see x hx) (grown_below hb _) hb.size, grown_then h.b (grown_below hb none) (fun j e => by cases e)⟩
theorem SrW.drew {w0 W : World} {g : Nat} {tl : List Value} {hs : List Hd} (h : SrW w0 g tl hs W) : SrW w0 g tl hs W.drew := h.below (Below.refl _ _).drew
theorem SrW.drewN {w0 W : World} {g : Nat} {tl : List Value} {hs : List Hd} (h : SrW w0 g tl hs W) (n : Nat) : SrW w0 g tl hs (W.drewN n) := h.below (below_drewN (Below.refl _ _) n)
/-- One place written. -/
theorem SrW.set {w0 W : World} {g : Nat} {tl : List Value} {hs : List Hd} (h : SrW w0 g tl hs W) {i : Nat} {x : Hd} (hi : i < hs.length) (hx : SlOf (hide g W) W.heap.size 3 VlC x.1 x.2) : SrW w0 g tl (hs.set i x) (W.setCell ⟨g, i, none⟩ x.2) := by
  have hg := grown_set W g i x.2
  refine ⟨?_, fun y hy => ?_, grown_then h.b hg (fun j e => .inr e)⟩
  · rw [set_heap h.row]
    congr 2
    rw [List.setIfInBounds_toArray, List.set_append_left _ _ (by simpa using hi), List.map_set]
  · rcases List.mem_or_eq_of_mem_set hy with hy | rfl
    · exact hide_to (h.see y hy) hg hg.size
    · exact hide_to hx hg hg.size
theorem swap_list {α : Type} (A B C : List α) (x y : α) : ((A ++ x :: (B ++ y :: C)).set A.length y).set (A.length + 1 + B.length) x = A ++ y :: (B ++ x :: C) := by
  rw [List.set_append_right _ _ (Nat.le_refl _), Nat.sub_self, List.set_cons_zero, List.set_append_right _ _ (by omega), show A.length + 1 + B.length - A.length = B.length + 1 by omega, List.set_cons_succ, List.set_append_right _ _ (Nat.le_refl _), Nat.sub_self, List.set_cons_zero]
theorem swap_list' {α : Type} (A B C : List α) (x y : α) : ((A ++ x :: (B ++ y :: C)).set (A.length + 1 + B.length) x).set A.length y = A ++ y :: (B ++ x :: C) := by
  rw [List.set_comm _ _ (by omega), swap_list]
theorem SrW.swap {w0 W : World} {g : Nat} {tl : List Value} {A B C : List Hd} {x y : Hd} (h : SrW w0 g tl (A ++ x :: (B ++ y :: C)) W) {i j : Nat} (hi : A.length = i) (hj : A.length + 1 + B.length = j) :
    SrW w0 g tl (A ++ y :: (B ++ x :: C)) ((W.setCell ⟨g, i, none⟩ y.2).setCell ⟨g, j, none⟩ x.2) := by
  subst hi; subst hj
  have h1 := h.set (i := A.length) (x := y) (by simp) (h.see y (by simp))
  have h2 := h1.set (i := A.length + 1 + B.length) (x := x) (by simp; omega) (hide_to (h.see x (by simp)) (grown_set _ _ _ _) (grown_set W g A.length y.2).size)
  rw [swap_list] at h2
  exact h2
theorem SrW.swap' {w0 W : World} {g : Nat} {tl : List Value} {A B C : List Hd} {x y : Hd} (h : SrW w0 g tl (A ++ x :: (B ++ y :: C)) W) {i j : Nat} (hi : A.length = i) (hj : A.length + 1 + B.length = j) :
    SrW w0 g tl (A ++ y :: (B ++ x :: C)) ((W.setCell ⟨g, j, none⟩ x.2).setCell ⟨g, i, none⟩ y.2) := by
  subst hi; subst hj
  have h1 := h.set (i := A.length + 1 + B.length) (x := x) (by simp; omega) (h.see x (by simp))
  have h2 := h1.set (i := A.length) (x := y) (by simp) (hide_to (h.see y (by simp)) (grown_set _ _ _ _) (grown_set W g _ x.2).size)
  rw [swap_list'] at h2
  exact h2
/-- Behind the first store the other place still holds something. -/
theorem SrW.after {w0 W : World} {g : Nat} {tl : List Value} {hs : List Hd} (h : SrW w0 g tl hs W) {i j : Nat} (hij : i ≠ j) {y : Hd} (hy : hs[j]? = some y) (u : Value) : (W.setCell ⟨g, i, none⟩ u).cell? ⟨g, j, none⟩ = some y.2 ∧ (W.setCell ⟨g, i, none⟩ u).frozen? ⟨g, j, none⟩ = false :=
  ⟨(World.cell?_setCell_other _ _ _ _ (by intro e; simp only [Addr.mk.injEq] at e; omega)).trans (h.cell hy), by rw [World.frozen?_setCell]; exact h.froz j⟩
theorem SrW.cmp {w0 W : World} {g : Nat} {tl : List Value} {hs : List Hd} (h : SrW w0 g tl hs W) {x y : Hd} (hx : x ∈ hs) (hy : y ∈ hs) {W' : World} (hb : Below W.heap.size W W') :
    Calls Tryz.prog 58 #[x.2, y.2] W' fun e w' => e = .returned (.int .i64 (rwC x.1 y.1)) ∧ Below W'.heap.size W' w' :=
  pcompare_c x.1 y.1 x.2 y.2 W' (hide_out ((h.below hb).see x hx)) (hide_out ((h.below hb).see y hy))
end Go.Proofs.YthhepmddcncjoaaGreatDoor
