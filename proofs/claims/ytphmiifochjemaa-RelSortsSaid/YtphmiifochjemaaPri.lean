/- rel.Rise. -/
import Derived.Test.YtphmiifochjemaaPcl
import Derived.Test.YtphmiifochjemaaRel8b
namespace Go.Proofs.Ytphmiifochjemaa
open Go.RowKit Go.Shelf

attribute [local go_sem] Oper.semAt_some

theorem chooseL {α β : Type} {n : Nat} {P : Nat → α → β → Prop} : ∀ {l : List α}, (∀ i x, l[i]? = some x → ∃ y, P (n + i) x y) → ∃ m : List β, m.length = l.length ∧ ∀ i x, l[i]? = some x → ∃ y, m[i]? = some y ∧ P (n + i) x y := by
  intro l
  induction l generalizing n with
  | nil => intro _; exact ⟨[], rfl, fun i x h => by simp at h⟩
  | cons x l ih =>
    intro h
    obtain ⟨y, hy⟩ := h 0 x rfl
    obtain ⟨m, h1, h2⟩ := ih (n := n + 1) (fun i z hz => by
      have := h (i + 1) z (by simpa using hz)
      rwa [show n + (i + 1) = n + 1 + i by omega] at this)
    refine ⟨y :: m, by simp [h1], fun i z hz => ?_⟩
    cases i with
    | zero =>
      simp only [List.getElem?_cons_zero, Option.some.injEq] at hz
      subst hz
      exact ⟨y, rfl, hy⟩
    | succ i =>
      obtain ⟨y', h3, h4⟩ := h2 i z (by simpa using hz)
      exact ⟨y', by simpa using h3, by rwa [show n + (i + 1) = n + 1 + i by omega]⟩
/-- A list of rows as the list of what lies in its places. -/
theorem rws_heads {w : World} {B : Nat} {l : List Rw} {v : Value} (h : RwsS w B l v) : ∃ hs : List (Rw × Value), hs.map Prod.fst = l ∧ SlOf w B 1 HdC hs v ∧ ∀ x ∈ hs, SlOf w B 3 VlC x.1 x.2 := by
  rcases h with ⟨rfl, rfl⟩ | ⟨a, cap, h1, h2, h3, h4, h5⟩
  · exact ⟨[], rfl, .inl ⟨rfl, rfl⟩, fun x hx => by cases hx⟩
  · obtain ⟨m, hm, hx⟩ := chooseL (n := 0) (P := fun i (x : Rw) (y : Rw × Value) => y.1 = x ∧ SlOf w B 3 VlC x y.2 ∧ CellsAt w a (i * 1) [y.2]) (l := l) (fun i x hx => by
      obtain ⟨cs, _, ⟨u, rfl, hu⟩, hc⟩ := h5 i x hx
      exact ⟨(x, u), rfl, hu, by rw [Nat.zero_add]; exact hc⟩)
    have key : ∀ (i : Nat) (y : Rw × Value), m[i]? = some y → l[i]? = some y.1 ∧ SlOf w B 3 VlC y.1 y.2 ∧ CellsAt w a (i * 1) [y.2] := fun i y hy => by
      have hi : i < l.length := by rw [← hm]; exact (List.getElem?_eq_some_iff.1 hy).1
      obtain ⟨y', e1, e2, e3, e4⟩ := hx i l[i] (List.getElem?_eq_getElem hi)
      rw [hy] at e1
      cases e1
      rw [Nat.zero_add] at e4
      exact ⟨by rw [e2]; exact List.getElem?_eq_getElem hi, by rw [e2]; exact e3, e4⟩
    refine ⟨m, ?_, .inr ⟨a, cap, by rw [hm]; exact h1, by rw [hm]; exact h2, h3, fun hne => h4 (by rintro rfl; exact hne (List.eq_nil_of_length_eq_zero hm)), fun i y hy => ⟨[y.2], rfl, rfl, (key i y hy).2.2⟩⟩, fun y hy => ?_⟩
    · apply List.ext_getElem?
      intro i
      rw [List.getElem?_map]
      cases hi : m[i]? with
      | none =>
        have := List.getElem?_eq_none_iff.1 hi
        rw [List.getElem?_eq_none (by omega)]
        rfl
      | some y => rw [(key i y hi).1]; rfl
    · obtain ⟨i, hi⟩ := List.mem_iff_getElem?.1 hy
      exact (key i y hi).2.1

/-- What stands while rows are held against those behind them. -/
structure RiI (hs : List (Rw × Value)) (V1 V2 : Value) (w : World) (k : Nat) (W : World) : Prop where
  g : PrG w V1 V2 22 22 (w.heap.size + 1) (w.heap.size + 1 + 1) W
  r : W.heap[w.heap.size]? = some (.cells #[.bool false] 4 (0, 0))
  la : k ≤ hs.length
  lb : k ≤ (hs.drop 1).length
  e : riseL rwC (hs.map Prod.fst) = riseL rwC ((hs.map Prod.fst).drop k)
theorem RiI.put {hs : List (Rw × Value)} {V1 V2 : Value} {w : World} {k : Nat} {W W' : World} {B : Nat} (h : RiI hs V1 V2 w k W) (hp : Put B W W') (hB : w.heap.size ≤ B) : RiI hs V1 V2 w k W' :=
  ⟨h.g.put hp hB, put_block hp h.r (.inl rfl), h.la, h.lb, h.e⟩
theorem RiI.below {hs : List (Rw × Value)} {V1 V2 : Value} {w : World} {k : Nat} {W W' : World} (h : RiI hs V1 V2 w k W) (hb : Below W.heap.size W W') : RiI hs V1 V2 w k W' :=
  ⟨h.g.below hb, (hb.block _ (heapLt h.r)).trans h.r, h.la, h.lb, h.e⟩
theorem sl_drop1 {w : World} {B : Nat} {hs : List (Rw × Value)} {a : Addr} {cap : Nat} (h : SlOf w B 1 HdC hs (.slice (some a) hs.length cap)) (h0 : hs ≠ []) : SlOf w B 1 HdC (hs.drop 1) (.slice (some ⟨a.block, a.off + 1, none⟩) (hs.length - 1) (cap - 1)) := by
  have hp : 0 < hs.length := List.length_pos_iff.2 h0
  rcases h with ⟨he, _⟩ | ⟨a', cap', he, h2, h3, h4, h5⟩
  · cases he
  · cases he
    refine .inr ⟨⟨a.block, a.off + 1, none⟩, cap - 1, by rw [List.length_drop], by rw [List.length_drop]; omega, by omega, fun _ => h4 h0, fun i x hx => ?_⟩
    rw [List.getElem?_drop] at hx
    obtain ⟨cs, e1, e2, e3⟩ := h5 (1 + i) x hx
    refine ⟨cs, e1, e2, fun j c hj => ?_⟩
    have hj0 : j = 0 := by have := (List.getElem?_eq_some_iff.1 hj).1; omega
    subst hj0
    have := e3 0 c hj
    rw [show (1 + i) * 1 + 0 = i + 1 by omega] at this
    rw [Nat.mul_one, Nat.add_zero]
    refine Eq.trans (congrArg w.cell? ?_) this
    unfold Addr.add
    rw [if_neg (show ¬ i + 1 = 0 by omega)]
    simp only [Nat.add_zero]
    by_cases hi : i = 0
    · subst hi; rw [if_pos rfl, Nat.zero_add]
    · rw [if_neg hi]; simp [Nat.add_assoc, Nat.add_comm 1 i]
set_option linter.unusedSimpArgs false in
set_option maxRecDepth 100000 in
set_option maxHeartbeats 8000000 in
theorem prise_c (l : List Rw) (v : Value) (w : World) (h1 : RwsS w w.heap.size l v) :
    Calls Try.prog 17 #[v] w fun e w' => e = .returned (.bool (riseL rwC l)) ∧ Below w.heap.size w w' := by
  refine callsIn_wide (n := 8).1 ?_
  obtain ⟨hs, rfl, hS, hR⟩ := rws_heads h1
  obtain ⟨o1, cap1, rfl, hc1, hm1, S1⟩ := SlOf.open hS
  have HS := Lib.hid hS
  have HR := Lib.hid hR
  obtain ⟨n0, hn0⟩ : ∃ n0, w.heap.size = n0 := ⟨_, rfl⟩
  have Hn0 := Lib.hid hn0
  clear h1 hS hR
  obtain ⟨V1, hV1⟩ : ∃ V1, V1 = Value.slice o1 hs.length cap1 := ⟨_, rfl⟩
  have HS1 : Hid (SlOf w w.heap.size 1 HdC hs V1) := Lib.hid (by rw [hV1]; exact HS.out)
  have HV1 : Hid (V1 = Value.slice o1 hs.length cap1) := Lib.hid hV1
  clear hV1
  have HZ : (hs.length = 0 ∧ min (1 : Int) (hs.length : Int) = 0) ∨ (0 < hs.length ∧ min (1 : Int) (hs.length : Int) = 1) := by omega
  have HQ : ∀ (WL : World) (V2 : Value), Hid (SlOf w w.heap.size 1 HdC (hs.drop 1) V2) → WL = ((w.alloc (.cells #[.bool false] 4)).alloc (.cells #[V1] 22)).alloc (.cells #[V2] 22) → Hid (WL.heap.size = n0 + 3) ∧ Hid (RiI hs V1 V2 w 0 WL) := by
    intro WL V2 HU hWL
    refine ⟨Lib.hid (by rw [hWL]; simp; omega), Lib.hid ⟨⟨?_, ?_, ?_⟩, ?_, Nat.zero_le _, Nat.zero_le _, rfl⟩⟩
    · rw [hWL]
      exact (((Below.refl _ w).alloc (Nat.le_refl _) _).alloc (by simp) _).alloc (by simp; omega) _
    · rw [hWL]
      exact row_more (newRow (by simp)) _
    · rw [hWL]
      exact newRow (by simp)
    · rw [hWL]
      exact row_more (row_more (newRow rfl) _) _
  have HQ := Lib.hid HQ
  rcases HZ with ⟨h0, hmin⟩ | ⟨h0, hmin⟩
  all_goals
    refine callsIn_of_wp_marks Try.func17 rfl trivial ?_ rfl
    simp only [Try.ntmps17, List.size_toArray, List.length_cons, List.length_nil, Nat.reduceAdd, Nat.reduceSub, Array.replicate_succ, Array.replicate_zero, List.push_toArray, List.append_toArray, List.nil_append, List.cons_append]
    gi_wp2_with fail
    all_goals refine ⟨trivial, (pairsR_in 7 _ _ _ _ _ _ _).mono ?_⟩
    all_goals rintro e WL ⟨rfl, hWL⟩
  · have hnil : hs = [] := List.eq_nil_of_length_eq_zero h0
    obtain ⟨V2, hV2⟩ : ∃ V2, V2 = Value.slice o1 0 cap1 := ⟨_, rfl⟩
    have HU : Hid (SlOf w w.heap.size 1 HdC (hs.drop 1) V2) := Lib.hid (by rw [hV2]; have := HS.out; rw [hnil] at this ⊢; exact this)
    obtain ⟨Hs, HI0⟩ := HQ.out WL V2 HU (by rw [hWL, hV2, HV1.out, h0])
    clear hWL hV2 hnil h0 hmin
    have e4 : (w.alloc (.cells #[.bool false] 4)).heap.size = n0 + 1 := by simp; omega
    rw [e4]
    clear e4
    gi_wp2_with fail
    refine range_moves2 rfl (by omega) (gf := 39) (bd := #[]) (lb := #[.pointer (some ⟨n0 + 1, 0, none⟩), .pointer (some ⟨n0 + 1 + 1, 0, none⟩)]) rfl trivial (enters_of Try.func39 (by kernel_rfl) rfl)
      (pairsR_moves 7 (by omega) hs (hs.drop 1) V1 V2 w (n0 + 1) (n0 + 1 + 1) HS1.out HU.out) (fun _ => rfl)
      (fun x W => ∃ j, x.1 = j + 1 ∧ RiI hs V1 V2 w j W ∧ hs[j]? = some x.2.1 ∧ hs[j + 1]? = some x.2.2)
      (fun x W => RiI hs V1 V2 w x.1 W)
      (fun c W => c = .ret ∧ Below n0 w W ∧ W.heap[n0]? = some (.cells #[.bool (riseL rwC (hs.map Prod.fst))] 4 (0, 0)))
      (fun W => Below n0 w W ∧ (∃ b, W.heap[n0]? = some (.cells #[.bool b] 4 (0, 0))) ∧ riseL rwC (hs.map Prod.fst) = true)
      (fun x a' W => ∃ j u0 u1 u2 u3 u4 u5 u6 u7, x.1 = j + 1 ∧ RiI hs V1 V2 w j W ∧ hs[j]? = some x.2.1 ∧ hs[j + 1]? = some x.2.2 ∧
        a' = { tmps := #[u0, undef, .pointer (some ⟨n0, 0, none⟩), x.2.1.2, x.2.2.2, u1, u2, u3, u4, u5, u6, u7, x.2.1.2, x.2.2.2, undef, undef, undef, undef], defers := [] })
      ?fB ?fX ?fZ ?fM ?h0 ?hB ?assign ?body ?done ?stop
    case fB =>
      rintro x W W' hp hI
      exact hI.put hp (by rw [Hs.out, Hn0.out]; omega)
    case fX =>
      rintro c W W' hp ⟨h1, h2, h3⟩
      exact ⟨h1, put_bel hp h2 (by rw [Hs.out]; omega), put_block hp h3 (.inl rfl)⟩
    case fZ =>
      rintro W W' hp ⟨h1, ⟨b, h2⟩, h3⟩
      exact ⟨put_bel hp h1 (by rw [Hs.out]; omega), ⟨b, put_block hp h2 (.inl rfl)⟩, h3⟩
    case fM =>
      rintro x a' W W' hp ⟨j, u0, u1, u2, u3, u4, u5, u6, u7, h1, h2, h3, h4, h5⟩
      exact ⟨j, u0, u1, u2, u3, u4, u5, u6, u7, h1, h2.put hp (by rw [Hs.out, Hn0.out]; omega), h3, h4, h5⟩
    case h0 =>
      intro o o'
      exact HI0.out.below (((Below.refl _ _).alloc (Nat.le_refl _) _).alloc (by simp) _)
    case hB =>
      rintro x W1 hI
      have hg := hI.g
      rw [Hn0.out] at hg
      refine ⟨⟨hg, hI.la, hI.lb⟩, ?_, ?_⟩
      · rintro x' W2 ⟨t1, t2, t3, t4⟩
        rw [List.getElem?_drop, Nat.add_comm] at t3
        exact ⟨keepsB t4 _, x.1, t1, hI.below t4, t2, t3⟩
      · rintro W2 ⟨t1, t2⟩
        have hI2 := hI.below t2
        have hr := hI2.r
        have hb := hI2.g.b
        rw [Hn0.out] at hr hb
        refine ⟨keepsB t2 _, hb, ⟨_, hr⟩, ?_⟩
        rw [hI.e]
        have hlen : ((hs.map Prod.fst).drop x.1).length ≤ 1 := by
          rw [List.length_drop, List.length_map]
          rw [List.length_drop] at t1
          omega
        match hq : (hs.map Prod.fst).drop x.1 with
        | [] => rfl
        | [_] => rfl
        | _ :: _ :: _ => rw [hq] at hlen; simp at hlen
    case assign =>
      rintro l x W ⟨j, h1, h2, h3, h4⟩
      have H2 := Lib.hid h2
      clear h2
      gi_wp2
      exact ⟨KeepsFrom.refl _ _, j, _, _, _, _, _, _, _, _, h1, H2.out, h3, h4, by trivial⟩
    case body =>
      rintro l x a' W ⟨j, u0, u1, u2, u3, u4, u5, u6, u7, h1, h2, h3, h4, rfl⟩
      obtain ⟨xk, ⟨ra, va⟩, ⟨rb, vb⟩⟩ := x
      simp only at h1 h3 h4
      subst h1
      have H2 := Lib.hid h2
      have hva : SlOf W W.heap.size 3 VlC ra va := VlS.past (HR.out _ (List.mem_of_getElem? h3)) h2.g.b
      have hvb : SlOf W W.heap.size 3 VlC rb vb := VlS.past (HR.out _ (List.mem_of_getElem? h4)) h2.g.b
      have HC := Lib.hid (pcompare_c ra rb va vb W hva hvb)
      have hja : j < hs.length := (List.getElem?_eq_some_iff.1 h3).1
      have hjb : j + 1 < hs.length := (List.getElem?_eq_some_iff.1 h4).1
      have Hst : Hid (riseL rwC (hs.map Prod.fst) = (decide (rwC ra rb < 0) && riseL rwC ((hs.map Prod.fst).drop (j + 1)))) := Lib.hid (h2.e.trans (rise_drop (by rw [List.getElem?_map, h3]; rfl) (by rw [List.getElem?_map, h4]; rfl)))
      obtain ⟨z, hz⟩ : ∃ z, rwC ra rb = z := ⟨_, rfl⟩
      rw [hz] at HC Hst
      clear h2 h3 h4 hva hvb hz
      gi_wp2_with fail
      refine ⟨trivial, (CallsIn.inRound l (callsIn_wide.2 HC.out)).mono ?_⟩
      rintro e w1 ⟨rfl, b1⟩
      have H21 := Lib.hid (H2.out.below b1)
      have HK1 : Hid (KeepsFrom WL.heap.size W w1) := Lib.hid (keepsB b1 _)
      have hr := H21.out.r
      rw [Hn0.out] at hr
      have r1 := (row_cell hr 0).1
      have r2 := (row_cell hr 0).2
      have lr := heapLt hr
      have Hr := Lib.hid hr
      clear b1 hr
      by_cases hz0 : z < 0
      · have hz1 : decide (z ≥ 0) = false := decide_eq_false (by omega)
        have HE : Hid (RiI hs V1 V2 w (j + 1) w1) := Lib.hid ⟨H21.out.g, H21.out.r, hja, by rw [List.length_drop]; omega, by rw [Hst.out, decide_eq_true hz0, Bool.true_and]⟩
        gi_wp2
        exact ⟨HK1.out, HE.out⟩
      · have hz1 : decide (z ≥ 0) = true := decide_eq_true (by omega)
        have Hf : Hid (riseL rwC (hs.map Prod.fst) = false) := Lib.hid (by rw [Hst.out, decide_eq_false hz0, Bool.false_and])
        have HX : Hid (KeepsFrom WL.heap.size W (w1.setCell ⟨n0, 0, none⟩ (.bool false)) ∧ Below n0 w (w1.setCell ⟨n0, 0, none⟩ (.bool false)) ∧ (w1.setCell ⟨n0, 0, none⟩ (.bool false)).heap[n0]? = some (.cells #[.bool false] 4 (0, 0))) := Lib.hid (by
          have hb := H21.out.g.b
          rw [Hn0.out] at hb
          refine ⟨HK1.out.trans (KeepsFrom.of_grownBy (grown_set w1 n0 0 (.bool false)) (fun j e => by have := Option.some.inj e; have := Hs.out; omega)), hb.setCell (Nat.le_refl _) _, setRow Hr.out⟩)
        gi_wp2
        exact ⟨HX.out.1, rfl, HX.out.2.1, by rw [Hf.out]; exact HX.out.2.2⟩
    case done =>
      rintro D W hD ⟨h1, ⟨b, h2⟩, h3⟩ hd
      have H1 := Lib.hid h1
      have H2 := Lib.hid h2
      have H3 := Lib.hid h3
      have Hd := Lib.hid hd
      have HD := Lib.hid hD
      have r1 := (row_cell h2 0).1
      have r2 := (row_cell h2 0).2
      have lr := heapLt h2
      have hDl : D < W.heap.size := heapLt hd
      clear h1 h2 h3 hd hD
      gi_wp2
      refine leave_cell rfl (b := n0) (T := 4) (v := .bool true) ((setOther (by have := Hs.out; have := HD.out; omega)).trans Hd.out) rfl (setRow H2.out) (fun _ h => load_bool h) ?_
      exact ⟨by rw [H3.out], by rw [Hn0.out]; exact put_gone (H1.out.setCell (Nat.le_refl _) _) (by have := Hs.out; have := HD.out; omega)⟩
    case stop =>
      rintro D c W hD ⟨rfl, h2, h3⟩ hd
      gi_wp2
      refine leave_cell rfl (b := n0) (T := 4) hd rfl h3 (fun _ h => load_bool h) ?_
      exact ⟨rfl, by rw [Hn0.out]; exact put_gone h2 (by have := Hs.out; omega)⟩
  · have hcap := h
    have hne : hs ≠ [] := by rintro rfl; simp at h0
    have hl1 : hs.length = 1 := by omega
    obtain ⟨V2, hV2⟩ : ∃ V2, V2 = Value.slice o1 (hs.length - 1) 0 := ⟨_, rfl⟩
    have HU : Hid (SlOf w w.heap.size 1 HdC (hs.drop 1) V2) := Lib.hid (by
      rw [hV2, hl1]
      rw [List.drop_of_length_le (by omega)]
      cases o1 with
      | none => exact .inl ⟨rfl, rfl⟩
      | some a => exact .inr ⟨a, 0, rfl, Nat.le_refl _, Nat.zero_le _, fun h => absurd rfl h, fun i x hx => by simp at hx⟩)
    obtain ⟨Hs, HI0⟩ := HQ.out WL V2 HU (by rw [hWL, hV2, HV1.out, hcap])
    clear hWL hV2 hl1 hne h0 hmin hcap h
    have e4 : (w.alloc (.cells #[.bool false] 4)).heap.size = n0 + 1 := by simp; omega
    rw [e4]
    clear e4
    gi_wp2_with fail
    refine range_moves2 rfl (by omega) (gf := 39) (bd := #[]) (lb := #[.pointer (some ⟨n0 + 1, 0, none⟩), .pointer (some ⟨n0 + 1 + 1, 0, none⟩)]) rfl trivial (enters_of Try.func39 (by kernel_rfl) rfl)
      (pairsR_moves 7 (by omega) hs (hs.drop 1) V1 V2 w (n0 + 1) (n0 + 1 + 1) HS1.out HU.out) (fun _ => rfl)
      (fun x W => ∃ j, x.1 = j + 1 ∧ RiI hs V1 V2 w j W ∧ hs[j]? = some x.2.1 ∧ hs[j + 1]? = some x.2.2)
      (fun x W => RiI hs V1 V2 w x.1 W)
      (fun c W => c = .ret ∧ Below n0 w W ∧ W.heap[n0]? = some (.cells #[.bool (riseL rwC (hs.map Prod.fst))] 4 (0, 0)))
      (fun W => Below n0 w W ∧ (∃ b, W.heap[n0]? = some (.cells #[.bool b] 4 (0, 0))) ∧ riseL rwC (hs.map Prod.fst) = true)
      (fun x a' W => ∃ j u0 u1 u2 u3 u4 u5 u6 u7, x.1 = j + 1 ∧ RiI hs V1 V2 w j W ∧ hs[j]? = some x.2.1 ∧ hs[j + 1]? = some x.2.2 ∧
        a' = { tmps := #[u0, undef, .pointer (some ⟨n0, 0, none⟩), x.2.1.2, x.2.2.2, u1, u2, u3, u4, u5, u6, u7, x.2.1.2, x.2.2.2, undef, undef, undef, undef], defers := [] })
      ?fB ?fX ?fZ ?fM ?h0 ?hB ?assign ?body ?done ?stop
    case fB =>
      rintro x W W' hp hI
      exact hI.put hp (by rw [Hs.out, Hn0.out]; omega)
    case fX =>
      rintro c W W' hp ⟨h1, h2, h3⟩
      exact ⟨h1, put_bel hp h2 (by rw [Hs.out]; omega), put_block hp h3 (.inl rfl)⟩
    case fZ =>
      rintro W W' hp ⟨h1, ⟨b, h2⟩, h3⟩
      exact ⟨put_bel hp h1 (by rw [Hs.out]; omega), ⟨b, put_block hp h2 (.inl rfl)⟩, h3⟩
    case fM =>
      rintro x a' W W' hp ⟨j, u0, u1, u2, u3, u4, u5, u6, u7, h1, h2, h3, h4, h5⟩
      exact ⟨j, u0, u1, u2, u3, u4, u5, u6, u7, h1, h2.put hp (by rw [Hs.out, Hn0.out]; omega), h3, h4, h5⟩
    case h0 =>
      intro o o'
      exact HI0.out.below (((Below.refl _ _).alloc (Nat.le_refl _) _).alloc (by simp) _)
    case hB =>
      rintro x W1 hI
      have hg := hI.g
      rw [Hn0.out] at hg
      refine ⟨⟨hg, hI.la, hI.lb⟩, ?_, ?_⟩
      · rintro x' W2 ⟨t1, t2, t3, t4⟩
        rw [List.getElem?_drop, Nat.add_comm] at t3
        exact ⟨keepsB t4 _, x.1, t1, hI.below t4, t2, t3⟩
      · rintro W2 ⟨t1, t2⟩
        have hI2 := hI.below t2
        have hr := hI2.r
        have hb := hI2.g.b
        rw [Hn0.out] at hr hb
        refine ⟨keepsB t2 _, hb, ⟨_, hr⟩, ?_⟩
        rw [hI.e]
        have hlen : ((hs.map Prod.fst).drop x.1).length ≤ 1 := by
          rw [List.length_drop, List.length_map]
          rw [List.length_drop] at t1
          omega
        match hq : (hs.map Prod.fst).drop x.1 with
        | [] => rfl
        | [_] => rfl
        | _ :: _ :: _ => rw [hq] at hlen; simp at hlen
    case assign =>
      rintro l x W ⟨j, h1, h2, h3, h4⟩
      have H2 := Lib.hid h2
      clear h2
      gi_wp2
      exact ⟨KeepsFrom.refl _ _, j, _, _, _, _, _, _, _, _, h1, H2.out, h3, h4, by trivial⟩
    case body =>
      rintro l x a' W ⟨j, u0, u1, u2, u3, u4, u5, u6, u7, h1, h2, h3, h4, rfl⟩
      obtain ⟨xk, ⟨ra, va⟩, ⟨rb, vb⟩⟩ := x
      simp only at h1 h3 h4
      subst h1
      have H2 := Lib.hid h2
      have hva : SlOf W W.heap.size 3 VlC ra va := VlS.past (HR.out _ (List.mem_of_getElem? h3)) h2.g.b
      have hvb : SlOf W W.heap.size 3 VlC rb vb := VlS.past (HR.out _ (List.mem_of_getElem? h4)) h2.g.b
      have HC := Lib.hid (pcompare_c ra rb va vb W hva hvb)
      have hja : j < hs.length := (List.getElem?_eq_some_iff.1 h3).1
      have hjb : j + 1 < hs.length := (List.getElem?_eq_some_iff.1 h4).1
      have Hst : Hid (riseL rwC (hs.map Prod.fst) = (decide (rwC ra rb < 0) && riseL rwC ((hs.map Prod.fst).drop (j + 1)))) := Lib.hid (h2.e.trans (rise_drop (by rw [List.getElem?_map, h3]; rfl) (by rw [List.getElem?_map, h4]; rfl)))
      obtain ⟨z, hz⟩ : ∃ z, rwC ra rb = z := ⟨_, rfl⟩
      rw [hz] at HC Hst
      clear h2 h3 h4 hva hvb hz
      gi_wp2_with fail
      refine ⟨trivial, (CallsIn.inRound l (callsIn_wide.2 HC.out)).mono ?_⟩
      rintro e w1 ⟨rfl, b1⟩
      have H21 := Lib.hid (H2.out.below b1)
      have HK1 : Hid (KeepsFrom WL.heap.size W w1) := Lib.hid (keepsB b1 _)
      have hr := H21.out.r
      rw [Hn0.out] at hr
      have r1 := (row_cell hr 0).1
      have r2 := (row_cell hr 0).2
      have lr := heapLt hr
      have Hr := Lib.hid hr
      clear b1 hr
      by_cases hz0 : z < 0
      · have hz1 : decide (z ≥ 0) = false := decide_eq_false (by omega)
        have HE : Hid (RiI hs V1 V2 w (j + 1) w1) := Lib.hid ⟨H21.out.g, H21.out.r, hja, by rw [List.length_drop]; omega, by rw [Hst.out, decide_eq_true hz0, Bool.true_and]⟩
        gi_wp2
        exact ⟨HK1.out, HE.out⟩
      · have hz1 : decide (z ≥ 0) = true := decide_eq_true (by omega)
        have Hf : Hid (riseL rwC (hs.map Prod.fst) = false) := Lib.hid (by rw [Hst.out, decide_eq_false hz0, Bool.false_and])
        have HX : Hid (KeepsFrom WL.heap.size W (w1.setCell ⟨n0, 0, none⟩ (.bool false)) ∧ Below n0 w (w1.setCell ⟨n0, 0, none⟩ (.bool false)) ∧ (w1.setCell ⟨n0, 0, none⟩ (.bool false)).heap[n0]? = some (.cells #[.bool false] 4 (0, 0))) := Lib.hid (by
          have hb := H21.out.g.b
          rw [Hn0.out] at hb
          refine ⟨HK1.out.trans (KeepsFrom.of_grownBy (grown_set w1 n0 0 (.bool false)) (fun j e => by have := Option.some.inj e; have := Hs.out; omega)), hb.setCell (Nat.le_refl _) _, setRow Hr.out⟩)
        gi_wp2
        exact ⟨HX.out.1, rfl, HX.out.2.1, by rw [Hf.out]; exact HX.out.2.2⟩
    case done =>
      rintro D W hD ⟨h1, ⟨b, h2⟩, h3⟩ hd
      have H1 := Lib.hid h1
      have H2 := Lib.hid h2
      have H3 := Lib.hid h3
      have Hd := Lib.hid hd
      have HD := Lib.hid hD
      have r1 := (row_cell h2 0).1
      have r2 := (row_cell h2 0).2
      have lr := heapLt h2
      have hDl : D < W.heap.size := heapLt hd
      clear h1 h2 h3 hd hD
      gi_wp2
      refine leave_cell rfl (b := n0) (T := 4) (v := .bool true) ((setOther (by have := Hs.out; have := HD.out; omega)).trans Hd.out) rfl (setRow H2.out) (fun _ h => load_bool h) ?_
      exact ⟨by rw [H3.out], by rw [Hn0.out]; exact put_gone (H1.out.setCell (Nat.le_refl _) _) (by have := Hs.out; have := HD.out; omega)⟩
    case stop =>
      rintro D c W hD ⟨rfl, h2, h3⟩ hd
      gi_wp2
      refine leave_cell rfl (b := n0) (T := 4) hd rfl h3 (fun _ h => load_bool h) ?_
      exact ⟨rfl, by rw [Hn0.out]; exact put_gone h2 (by have := Hs.out; omega)⟩
  · have hne : hs ≠ [] := by rintro rfl; simp at h0
    obtain ⟨a1, ha1⟩ : ∃ a1, o1 = some a1 := by
      obtain ⟨x, hx⟩ : ∃ x, hs[0]? = some x := ⟨hs[0], List.getElem?_eq_getElem h0⟩
      obtain ⟨a, _, h, _⟩ := S1.out 0 x hx
      exact ⟨a, h⟩
    obtain ⟨V2, hV2⟩ : ∃ V2, V2 = Value.slice (Option.map (fun x => { block := x.block, off := x.off + 1 }) o1) (hs.length - 1) (cap1 - 1) := ⟨_, rfl⟩
    have HU : Hid (SlOf w w.heap.size 1 HdC (hs.drop 1) V2) := Lib.hid (by
      have := HS.out
      rw [hV2]
      subst ha1
      exact sl_drop1 this hne)
    obtain ⟨Hs, HI0⟩ := HQ.out WL V2 HU (by rw [hWL, hV2, HV1.out])
    clear hWL hV2 ha1 hne h0 hmin
    have e4 : (w.alloc (.cells #[.bool false] 4)).heap.size = n0 + 1 := by simp; omega
    rw [e4]
    clear e4
    gi_wp2_with fail
    refine range_moves2 rfl (by omega) (gf := 39) (bd := #[]) (lb := #[.pointer (some ⟨n0 + 1, 0, none⟩), .pointer (some ⟨n0 + 1 + 1, 0, none⟩)]) rfl trivial (enters_of Try.func39 (by kernel_rfl) rfl)
      (pairsR_moves 7 (by omega) hs (hs.drop 1) V1 V2 w (n0 + 1) (n0 + 1 + 1) HS1.out HU.out) (fun _ => rfl)
      (fun x W => ∃ j, x.1 = j + 1 ∧ RiI hs V1 V2 w j W ∧ hs[j]? = some x.2.1 ∧ hs[j + 1]? = some x.2.2)
      (fun x W => RiI hs V1 V2 w x.1 W)
      (fun c W => c = .ret ∧ Below n0 w W ∧ W.heap[n0]? = some (.cells #[.bool (riseL rwC (hs.map Prod.fst))] 4 (0, 0)))
      (fun W => Below n0 w W ∧ (∃ b, W.heap[n0]? = some (.cells #[.bool b] 4 (0, 0))) ∧ riseL rwC (hs.map Prod.fst) = true)
      (fun x a' W => ∃ j u0 u1 u2 u3 u4 u5 u6 u7, x.1 = j + 1 ∧ RiI hs V1 V2 w j W ∧ hs[j]? = some x.2.1 ∧ hs[j + 1]? = some x.2.2 ∧
        a' = { tmps := #[u0, undef, .pointer (some ⟨n0, 0, none⟩), x.2.1.2, x.2.2.2, u1, u2, u3, u4, u5, u6, u7, x.2.1.2, x.2.2.2, undef, undef, undef, undef], defers := [] })
      ?fB ?fX ?fZ ?fM ?h0 ?hB ?assign ?body ?done ?stop
    case fB =>
      rintro x W W' hp hI
      exact hI.put hp (by rw [Hs.out, Hn0.out]; omega)
    case fX =>
      rintro c W W' hp ⟨h1, h2, h3⟩
      exact ⟨h1, put_bel hp h2 (by rw [Hs.out]; omega), put_block hp h3 (.inl rfl)⟩
    case fZ =>
      rintro W W' hp ⟨h1, ⟨b, h2⟩, h3⟩
      exact ⟨put_bel hp h1 (by rw [Hs.out]; omega), ⟨b, put_block hp h2 (.inl rfl)⟩, h3⟩
    case fM =>
      rintro x a' W W' hp ⟨j, u0, u1, u2, u3, u4, u5, u6, u7, h1, h2, h3, h4, h5⟩
      exact ⟨j, u0, u1, u2, u3, u4, u5, u6, u7, h1, h2.put hp (by rw [Hs.out, Hn0.out]; omega), h3, h4, h5⟩
    case h0 =>
      intro o o'
      exact HI0.out.below (((Below.refl _ _).alloc (Nat.le_refl _) _).alloc (by simp) _)
    case hB =>
      rintro x W1 hI
      have hg := hI.g
      rw [Hn0.out] at hg
      refine ⟨⟨hg, hI.la, hI.lb⟩, ?_, ?_⟩
      · rintro x' W2 ⟨t1, t2, t3, t4⟩
        rw [List.getElem?_drop, Nat.add_comm] at t3
        exact ⟨keepsB t4 _, x.1, t1, hI.below t4, t2, t3⟩
      · rintro W2 ⟨t1, t2⟩
        have hI2 := hI.below t2
        have hr := hI2.r
        have hb := hI2.g.b
        rw [Hn0.out] at hr hb
        refine ⟨keepsB t2 _, hb, ⟨_, hr⟩, ?_⟩
        rw [hI.e]
        have hlen : ((hs.map Prod.fst).drop x.1).length ≤ 1 := by
          rw [List.length_drop, List.length_map]
          rw [List.length_drop] at t1
          omega
        match hq : (hs.map Prod.fst).drop x.1 with
        | [] => rfl
        | [_] => rfl
        | _ :: _ :: _ => rw [hq] at hlen; simp at hlen
    case assign =>
      rintro l x W ⟨j, h1, h2, h3, h4⟩
      have H2 := Lib.hid h2
      clear h2
      gi_wp2
      exact ⟨KeepsFrom.refl _ _, j, _, _, _, _, _, _, _, _, h1, H2.out, h3, h4, by trivial⟩
    case body =>
      rintro l x a' W ⟨j, u0, u1, u2, u3, u4, u5, u6, u7, h1, h2, h3, h4, rfl⟩
      obtain ⟨xk, ⟨ra, va⟩, ⟨rb, vb⟩⟩ := x
      simp only at h1 h3 h4
      subst h1
      have H2 := Lib.hid h2
      have hva : SlOf W W.heap.size 3 VlC ra va := VlS.past (HR.out _ (List.mem_of_getElem? h3)) h2.g.b
      have hvb : SlOf W W.heap.size 3 VlC rb vb := VlS.past (HR.out _ (List.mem_of_getElem? h4)) h2.g.b
      have HC := Lib.hid (pcompare_c ra rb va vb W hva hvb)
      have hja : j < hs.length := (List.getElem?_eq_some_iff.1 h3).1
      have hjb : j + 1 < hs.length := (List.getElem?_eq_some_iff.1 h4).1
      have Hst : Hid (riseL rwC (hs.map Prod.fst) = (decide (rwC ra rb < 0) && riseL rwC ((hs.map Prod.fst).drop (j + 1)))) := Lib.hid (h2.e.trans (rise_drop (by rw [List.getElem?_map, h3]; rfl) (by rw [List.getElem?_map, h4]; rfl)))
      obtain ⟨z, hz⟩ : ∃ z, rwC ra rb = z := ⟨_, rfl⟩
      rw [hz] at HC Hst
      clear h2 h3 h4 hva hvb hz
      gi_wp2_with fail
      refine ⟨trivial, (CallsIn.inRound l (callsIn_wide.2 HC.out)).mono ?_⟩
      rintro e w1 ⟨rfl, b1⟩
      have H21 := Lib.hid (H2.out.below b1)
      have HK1 : Hid (KeepsFrom WL.heap.size W w1) := Lib.hid (keepsB b1 _)
      have hr := H21.out.r
      rw [Hn0.out] at hr
      have r1 := (row_cell hr 0).1
      have r2 := (row_cell hr 0).2
      have lr := heapLt hr
      have Hr := Lib.hid hr
      clear b1 hr
      by_cases hz0 : z < 0
      · have hz1 : decide (z ≥ 0) = false := decide_eq_false (by omega)
        have HE : Hid (RiI hs V1 V2 w (j + 1) w1) := Lib.hid ⟨H21.out.g, H21.out.r, hja, by rw [List.length_drop]; omega, by rw [Hst.out, decide_eq_true hz0, Bool.true_and]⟩
        gi_wp2
        exact ⟨HK1.out, HE.out⟩
      · have hz1 : decide (z ≥ 0) = true := decide_eq_true (by omega)
        have Hf : Hid (riseL rwC (hs.map Prod.fst) = false) := Lib.hid (by rw [Hst.out, decide_eq_false hz0, Bool.false_and])
        have HX : Hid (KeepsFrom WL.heap.size W (w1.setCell ⟨n0, 0, none⟩ (.bool false)) ∧ Below n0 w (w1.setCell ⟨n0, 0, none⟩ (.bool false)) ∧ (w1.setCell ⟨n0, 0, none⟩ (.bool false)).heap[n0]? = some (.cells #[.bool false] 4 (0, 0))) := Lib.hid (by
          have hb := H21.out.g.b
          rw [Hn0.out] at hb
          refine ⟨HK1.out.trans (KeepsFrom.of_grownBy (grown_set w1 n0 0 (.bool false)) (fun j e => by have := Option.some.inj e; have := Hs.out; omega)), hb.setCell (Nat.le_refl _) _, setRow Hr.out⟩)
        gi_wp2
        exact ⟨HX.out.1, rfl, HX.out.2.1, by rw [Hf.out]; exact HX.out.2.2⟩
    case done =>
      rintro D W hD ⟨h1, ⟨b, h2⟩, h3⟩ hd
      have H1 := Lib.hid h1
      have H2 := Lib.hid h2
      have H3 := Lib.hid h3
      have Hd := Lib.hid hd
      have HD := Lib.hid hD
      have r1 := (row_cell h2 0).1
      have r2 := (row_cell h2 0).2
      have lr := heapLt h2
      have hDl : D < W.heap.size := heapLt hd
      clear h1 h2 h3 hd hD
      gi_wp2
      refine leave_cell rfl (b := n0) (T := 4) (v := .bool true) ((setOther (by have := Hs.out; have := HD.out; omega)).trans Hd.out) rfl (setRow H2.out) (fun _ h => load_bool h) ?_
      exact ⟨by rw [H3.out], by rw [Hn0.out]; exact put_gone (H1.out.setCell (Nat.le_refl _) _) (by have := Hs.out; have := HD.out; omega)⟩
    case stop =>
      rintro D c W hD ⟨rfl, h2, h3⟩ hd
      gi_wp2
      refine leave_cell rfl (b := n0) (T := 4) hd rfl h3 (fun _ h => load_bool h) ?_
      exact ⟨rfl, by rw [Hn0.out]; exact put_gone h2 (by have := Hs.out; omega)⟩
end Go.Proofs.Ytphmiifochjemaa
