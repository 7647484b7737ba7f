/- dtype.Types, Vars: what they answer. -/
import Derived.Test.YtbpdfmpfnbdeoaaDoorYans
import Derived.Test.YtbpdfmpfnbdeoaaDoorYnum
import Derived.Test.YtbpdfmpfnbdeoaaDoorYpl
import Derived.Laws.AppendOwn
namespace Go.Proofs.YtbpdfmpfnbdeoaaDoor
open Go.RowKit

theorem rule_slice (W : World) (r : Ru) {c0 c1 c2 c3 : Value} (hc : RuC W W.heap.size r [c0, c1, c2, c3]) :
    SlOf (W.alloc (.cells #[c0, c1, c2, c3] 27)) (W.alloc (.cells #[c0, c1, c2, c3] 27)).heap.size 4 (RuC (W.alloc (.cells #[c0, c1, c2, c3] 27)) (W.alloc (.cells #[c0, c1, c2, c3] 27)).heap.size) [r] (.slice (some ⟨W.heap.size, 0, none⟩) 1 1) := by
  have hb : Below W.heap.size W (W.alloc (.cells #[c0, c1, c2, c3] 27)) := (Below.refl _ _).alloc (Nat.le_refl _) _
  have hrow := World.alloc_heap_new W (.cells #[c0, c1, c2, c3] 27)
  have news := World.news_of_block hrow
  refine .inr ⟨⟨W.heap.size, 0, none⟩, 1, rfl, Nat.le_refl _, by unfold maxLen; omega, fun _ => by simp, fun i z hz => ?_⟩
  match i, hz with
  | 0, hz =>
    have e : r = z := by simpa using hz
    subst e
    refine ⟨[c0, c1, c2, c3], rfl, (hc.below hb).more hb.size, fun j c hj => ?_⟩
    have := news j c hj
    simpa using this
  | i + 1, hz => simp at hz
theorem info_int : (Tryd.prog.info? 3).map (fun i => (i.zero, i.size, i.bytes)) = some (some (.int .i64 0), 1, 8) := by kernel_rfl
theorem one_int (n : Int) : ∀ u ∈ [Value.int .i64 n], u.oneCell' = true := by
  intro u hu
  rw [List.mem_singleton.1 hu]
  rfl
theorem news_one (W : World) (v : Value) (T : TypeId) : ∀ j u, [v][j]? = some u → (W.alloc (.cells #[v] T)).cell? ((⟨W.heap.size, 0, none⟩ : Addr).add j) = some u := World.news_of_block (World.alloc_heap_new W (.cells #[v] T))
theorem grown_past {a b : World} {o : Obj} {row : Option Nat} (k : (a.alloc o).grownBy b row) : a.grownBy b row :=
  ⟨k.os, k.tape, k.output, Nat.le_trans (by simp) k.size, fun i hi hne => (k.block i (by simp; omega) hne).trans (Below.heap_alloc a o i hi)⟩
theorem own_shape {w : World} {base e size n : Nat} {v : Value} {xs : List Value} (h : w.ownsRow base e size v n xs) : ∃ o cap, v = .slice o n cap := by
  rcases h.2 with ⟨rfl, h0⟩ | ⟨g, cap, cur, hv, hb, _⟩
  · subst h0; exact ⟨_, _, rfl⟩
  · exact ⟨_, _, hv⟩
theorem max_le {n : Nat} (h : n ≤ 1000000) : n ≤ maxLen := by unfold maxLen; omega
theorem vars_size {r : Ru} (hS : ∀ t ∈ termsR r, t.s.size ≤ 1000000) : ∀ s ∈ varsV (termsR r), s.size ≤ maxLen := fun s hs => by
  obtain ⟨t, h1, _, rfl⟩ := (mem_varsV _ _).1 hs
  exact max_le (hS t h1)
/-- How Types answers. -/
def TypesR (ds : List De) (r : Ru) (n0 : Nat) (w : World) (e : Ending) (w' : World) : Prop :=
  ∃ v l k, e = .returned (.tuple #[v, .int .i64 k]) ∧ TyA ds r l k ∧ SlOf w' w'.heap.size 1 IntC l v ∧ Below n0 w w'
theorem typesR_nil {ds : List De} {r : Ru} {n0 : Nat} {w w' : World} {k : Int} (h : TyA ds r [] k) (hb : Below n0 w w') : TypesR ds r n0 w (.returned (.tuple #[.slice none 0 0, .int .i64 k])) w' := ⟨_, _, _, rfl, h, .inl ⟨rfl, rfl⟩, hb⟩

set_option maxRecDepth 100000 in
set_option maxHeartbeats 8000000 in
theorem types_c (ds : List De) (v : Value) (r : Ru) (cs : List Value) (e a b c d : Addr) (w : World) (hd : SlOf w w.heap.size 6 (DeC w w.heap.size) ds v) (hc : RuC w w.heap.size r cs)
    (hlen : (termsR r).length ≤ 1000000) (hS : ∀ t ∈ termsR r, t.s.size ≤ 1000000) (E : EnvY e a b c d w) :
    Calls Tryd.prog 18 #[v, .agg cs.toArray] w (TypesR ds r w.heap.size w) := by
  obtain ⟨o0, k0, o1, k1, rfl, _⟩ := hc.look
  obtain ⟨od, kd, rfl, _⟩ := SlOf.uni hd
  obtain ⟨C, hC⟩ : ∃ C : Obj, .cells #[.string r.head.rel, .slice o0 r.head.l.length k0, .slice o1 r.body.length k1, .int .i64 r.line] 27 = C := ⟨_, rfl⟩
  have b1 : Below w.heap.size w (w.alloc C) := (Below.refl _ _).alloc (Nat.le_refl _) _
  have b2 : Below w.heap.size w ((w.alloc C).alloc C) := b1.alloc (by simp) _
  have HSL : SlOf ((w.alloc C).alloc C) ((w.alloc C).alloc C).heap.size 4 (RuC ((w.alloc C).alloc C) ((w.alloc C).alloc C).heap.size) [r] (.slice (some ⟨w.heap.size + 1, 0, none⟩) 1 1) := by
    have := rule_slice (w.alloc C) r ((hc.below b1).more b1.size)
    rw [hC] at this
    simpa using this
  have HR := Lib.hid (right_c ⟨ds, [r]⟩ e _ [.slice od ds.length kd, .slice (some ⟨w.heap.size + 1, 0, none⟩) 1 1] ⟨_, _, rfl, SlOf.decl hd b2 b2.size, HSL⟩ (E.below b2).tr)
  have B2 := Lib.hid b2
  have HD := Lib.hid hd
  have HC := Lib.hid hc
  have HE := Lib.hid E
  have HS := Lib.hid hS
  have HLn := Lib.hid hlen
  subst hC
  clear hd hc E hS hlen b1 b2 HSL
  go_enter Tryd.func18, Tryd.ntmps18
  go_wp2_with fail
  refine HR.out.mono ?_
  rintro e3 w3 ⟨rfl, b3⟩
  have hz2 : w.heap.size + 2 ≤ w3.heap.size := by have := b3.size; simpa using this
  have r3 : w3.heap[w.heap.size]? = some (.cells #[.string r.head.rel, .slice o0 r.head.l.length k0, .slice o1 r.body.length k1, .int .i64 r.line] 27 (0, 0)) := by
    rw [b3.block _ (by simp; omega)]
    rw [Below.heap_alloc _ _ _ (by simp)]
    exact World.alloc_heap_new w _
  have B3 := Lib.hid (B2.out.trans (b3.mono B2.out.size))
  clear b3
  cases hr : rightP ⟨ds, [r]⟩ with
  | false =>
    have Ha := Lib.hid (TyA.tree hr)
    clear hr
    go_wp2
    go_ret2
    exact typesR_nil Ha.out B3.out
  | true =>
    have HRt := Lib.hid hr
    clear hr
    obtain ⟨n3, hn3⟩ : ∃ n3, w3.heap.size = n3 := ⟨_, rfl⟩
    have hE3 := HE.out.below B3.out
    have HY := Lib.hid (typesOf_all ds _ r [.string r.head.rel, .slice o0 r.head.l.length k0, .slice o1 r.body.length k1, .int .i64 r.line] a b c d n3 w3 hn3 (by have := SlOf.decl HD.out B3.out B3.out.size; rw [hn3] at this; exact this) (by have := (HC.out.below B3.out).more B3.out.size; rw [hn3] at this; exact this) HLn.out (fun t ht => max_le (HS.out t ht)) (right_types HRt.out) (by have := hE3.y; rw [hn3] at this; exact this))
    have HE3 := Lib.hid hE3
    have R3 := Lib.hid r3
    clear hE3 r3
    have x0 : w3.cell? ⟨w.heap.size, 0, none⟩ = some (.string r.head.rel) := by unfold World.cell?; rw [R3.out]; rfl
    have x1 : w3.cell? ⟨w.heap.size, 1, none⟩ = some (.slice o0 r.head.l.length k0) := by unfold World.cell?; rw [R3.out]; rfl
    have x2 : w3.cell? ⟨w.heap.size, 2, none⟩ = some (.slice o1 r.body.length k1) := by unfold World.cell?; rw [R3.out]; rfl
    have x3 : w3.cell? ⟨w.heap.size, 3, none⟩ = some (.int .i64 r.line) := by unfold World.cell?; rw [R3.out]; rfl
    have hl3 : w.heap.size < w3.heap.size := by omega
    go_wp2_with fail
    refine HY.out.mono ?_
    clear HY x0 x1 x2 x3
    intro e4 w4 hT
    have base := base_ne (r := r) (right_types HRt.out)
    have TA := types_all (p := prsL r.body) base
    cases hT with
    | atom h1 h2 =>
      have hbv : ∃ p, badV c d (chkA ds (atomsR r)) = .iface 193 (.pointer (some p)) ∧ (∀ W, Below w3.heap.size w3 W → Calls Tryd.prog 43 #[.iface 193 (.pointer (some p))] W fun e w' => e = .returned (.int .i64 (atE (chkA ds (atomsR r)))) ∧ W = w') := by
        cases h : chkA ds (atomsR r) with
        | zero => exact absurd h h1
        | succ m => cases m with
          | zero => exact ⟨c, rfl, fun W hb => num_no _ a b c d W (HE3.out.below hb).y (HE3.out.below hb).df⟩
          | succ m => exact ⟨d, rfl, fun W hb => num_ar _ a b c d W (HE3.out.below hb).y (HE3.out.below hb).df⟩
      obtain ⟨p, hp, HN⟩ := hbv
      have HN := Lib.hid (HN w4 (by rw [hn3]; exact h2))
      have Ha := Lib.hid (TyA.atom HRt.out h1)
      have B4 := Lib.hid (B3.out.trans (h2.mono (by rw [← hn3]; exact B3.out.size)))
      rw [hp]
      clear hp h1 h2 TA base
      go_wp2_with fail
      refine HN.out.mono ?_
      rintro e5 w5 ⟨rfl, rfl⟩
      go_wp2
      go_ret2
      exact typesR_nil Ha.out B4.out
    | place h1 h2 h3 =>
      have Ha := Lib.hid (TyA.none HRt.out h1 (fun hf => TA.1 h2 hf.1))
      have HN := Lib.hid (num_ty _ a b c d w4 (HE3.out.below (by rw [hn3]; exact h3)).y (HE3.out.below (by rw [hn3]; exact h3)).df)
      have B4 := Lib.hid (B3.out.trans (h3.mono (by rw [← hn3]; exact B3.out.size)))
      unfold errV at *
      clear h1 h2 h3 TA base
      go_wp2_with fail
      refine HN.out.mono ?_
      rintro e5 w5 ⟨rfl, rfl⟩
      go_wp2
      go_ret2
      exact typesR_nil Ha.out B4.out
    | other h1 h2 h3 h4 =>
      have Ha := Lib.hid (TyA.none HRt.out h1 (fun hf => (TA.2 _ _ h2 h3).1 rfl hf.1))
      have HN := Lib.hid (num_ty _ a b c d w4 (HE3.out.below (by rw [hn3]; exact h4)).y (HE3.out.below (by rw [hn3]; exact h4)).df)
      have B4 := Lib.hid (B3.out.trans (h4.mono (by rw [← hn3]; exact B3.out.size)))
      unfold errV at *
      clear h1 h2 h3 h4 TA base
      go_wp2_with fail
      refine HN.out.mono ?_
      rintro e5 w5 ⟨rfl, rfl⟩
      go_wp2
      go_ret2
      exact typesR_nil Ha.out B4.out
    | left h1 h2 h3 h4 h5 =>
      have Ha := Lib.hid (TyA.none HRt.out h1 (fun hf => by
        obtain ⟨t, t1, t2, t3⟩ := h4
        obtain ⟨k, k1, k2⟩ := hf.2 t t1 t2
        have := (((TA.2 _ _ h2 h3).2 _ rfl).2.1 (nm t) k k1).2 k2
        rw [t3] at this
        exact k1 this.symm))
      have HN := Lib.hid (num_ty _ a b c d w4 (HE3.out.below (by rw [hn3]; exact h5)).y (HE3.out.below (by rw [hn3]; exact h5)).df)
      have B4 := Lib.hid (B3.out.trans (h5.mono (by rw [← hn3]; exact B3.out.size)))
      unfold errV at *
      clear h1 h2 h3 h4 h5 TA base
      go_wp2_with fail
      refine HN.out.mono ?_
      rintro e5 w5 ⟨rfl, rfl⟩
      go_wp2
      go_ret2
      exact typesR_nil Ha.out B4.out
    | @good _ K K' B h1 h2 h3 h4 h5 h6 h7 =>
      obtain ⟨n1, n2, n3'⟩ := (TA.2 _ _ h2 h3).2 _ rfl
      have Ha := Lib.hid (TyA.some (K := K') HRt.out h1 ⟨n1, fun t ht hv => ⟨look K' (nm t), h4 t ht hv, (n2 _ _ (h4 t ht hv)).1 rfl⟩⟩ n2 (look_ty h6.ty))
      have B4 := Lib.hid (B3.out.trans (h7.mono (by rw [← hn3]; exact B3.out.size)))
      have r4 : w4.heap[w.heap.size]? = some (.cells #[.string r.head.rel, .slice o0 r.head.l.length k0, .slice o1 r.body.length k1, .int .i64 r.line] 27 (0, 0)) := (h7.block _ (by omega)).trans R3.out
      have HM := Lib.hid h6
      have hl4 : w.heap.size < w4.heap.size := by have := h7.size; omega
      have HV := Lib.hid (varsOf_c r [.string r.head.rel, .slice o0 r.head.l.length k0, .slice o1 r.body.length k1, .int .i64 r.line] w4 ((HC.out.below B4.out).more B4.out.size) (fun t ht _ => Nat.le_trans (HS.out t ht) (by decide)) HLn.out)
      clear h1 h2 h3 h4 h5 h6 h7 n1 n2 n3' TA base
      have x0 : w4.cell? ⟨w.heap.size, 0, none⟩ = some (.string r.head.rel) := by unfold World.cell?; rw [r4]; rfl
      have x1 : w4.cell? ⟨w.heap.size, 1, none⟩ = some (.slice o0 r.head.l.length k0) := by unfold World.cell?; rw [r4]; rfl
      have x2 : w4.cell? ⟨w.heap.size, 2, none⟩ = some (.slice o1 r.body.length k1) := by unfold World.cell?; rw [r4]; rfl
      have x3 : w4.cell? ⟨w.heap.size, 3, none⟩ = some (.int .i64 r.line) := by unfold World.cell?; rw [r4]; rfl
      clear r4 R3
      go_wp2_with fail
      refine HV.out.mono ?_
      rintro e5 w5 ⟨vs, rfl, ho5, b5⟩
      clear x0 x1 x2 x3 HV
      have SV := sl_row (R := StrC) ho5 (fun s hs => ⟨rfl, vars_size HS.out s hs⟩)
      have hvl : (varsV (termsR r)).length ≤ 1000000 := Nat.le_trans (varsV_len _) HLn.out
      have HVS := Lib.hid (vars_size HS.out)
      obtain ⟨ns, hns⟩ : ∃ ns, varsV (termsR r) = ns := ⟨_, rfl⟩
      rw [hns] at SV hvl Ha HVS
      obtain ⟨ov, kv, rfl, _, _, S5⟩ := SlOf.open SV
      have HM5 := Lib.hid (HM.out.below b5 HM.out.lt)
      have hB5 := HM5.out.lt
      have B5 := Lib.hid (B4.out.trans (b5.mono B4.out.size))
      have Hvl := Lib.hid hvl
      have zE : ∀ w : World, (zeroValue 3).run Tryd.prog w = .ok (.int .i64 0) w := fun w => by kernel_rfl
      obtain ⟨i0, hi, hz0, hz1, hz2⟩ := info_parts info_int
      clear SV ho5 hns b5 HM hvl
      go_wp2
      go_loopw [8, 30] (fun lv i wr => ∃ k : Nat, k ≤ ns.length ∧ i = .int .i64 k ∧ wr.ownsRow w5.heap.size 3 1 lv k ((ns.take k).map fun s => Value.int .i64 (look K' s.data.toList)) ∧ Below w5.heap.size w5 wr) (fun _ i _ => ns.length - (intOf i).toNat)
      case atStart => exact ⟨0, Nat.zero_le _, rfl, World.ownsRow_nil _ _ _ _, Below.refl _ _⟩
      case round =>
        obtain ⟨k, hk, rfl, hown, hB⟩ := hrel
        by_cases hlt : k < ns.length
        · have hlt' : (k : Int) < (ns.length : Int) := by omega
          obtain ⟨x, hx⟩ : ∃ x, ns[k]? = some x := ⟨ns[k], List.getElem?_eq_getElem hlt⟩
          obtain ⟨p, rfl, hp, hsz, c0⟩ := str_at S5 hB hx
          have hpl : (p.add k).block < wr.heap.size := by rw [addBlock]; have := hB.size; omega
          have Hm := Lib.hid (HM5.out.map.below hB hB5)
          have HOWN := Lib.hid hown
          have HB := Lib.hid hB
          have hst : (ns.take (k + 1)).map (fun s => Value.int .i64 (look K' s.data.toList)) = (ns.take k).map (fun s => Value.int .i64 (look K' s.data.toList)) ++ [.int .i64 (look K' x.data.toList)] := by rw [List.take_add_one, hx]; simp
          have Hst := Lib.hid hst
          have HS1 : Hid (k + 1 ≤ maxLen) := Lib.hid (by have := Hvl.out; unfold maxLen; omega)
          have HS2 : Hid ((k + 1) * 8 ≤ 140737488355328) := Lib.hid (by have := Hvl.out; omega)
          clear hown hst hx hB
          have hBs := HB.out.size
          go_wp2_with (first | (at_lookup; refine wpList_mapI_get _ rfl _ _ 78 rfl 9 3 Tryd.underlying78 Tryd.underlying9 Tryd.underlying3 (zE _) B _ (look K') _ rfl Hm.out x rfl hsz ?_; intro _) | (at_builtin; refine wpList_append_own _ rfl (.tmp 34) (.tmp 38) 37 rfl w5.heap.size 3 i0 _ 1 8 Tryd.underlying37 hi hz0 hz1 hz2 rfl (by decide) _ k _ rfl (HOWN.out.alloc _) _ 1 1 [.int .i64 (look K' x.data.toList)] rfl rfl (news_one _ _ _) (one_int _) HS1.out HS2.out (by simp; omega) ?_; intro v' w6 hown' hgrow _; have HG := Lib.hid (grown_past hgrow); have HOWN6 := Lib.hid hown'; clear hgrow hown'))
          go_wp2
          go_roundw
          case rel =>
            refine ⟨k + 1, hlt, by go_num, ?_, ?_⟩
            · rw [Hst.out]; exact HOWN6.out
            · exact HB.out.grown HG.out hBs (fun q hq => (HOWN.out.lt q hq).1)
          case measure => simp [intOf]; omega
        · have hlt' : ¬ (k : Int) < (ns.length : Int) := by omega
          obtain rfl : k = ns.length := by omega
          rw [List.take_of_length_le (Nat.le_refl _)] at hown
          have HOWN := Lib.hid hown
          have HB := Lib.hid hB
          obtain ⟨oq, kq, rfl⟩ := own_shape hown
          clear hown hB
          go_wp2
          go_ret2
          refine ⟨_, _, _, rfl, Ha.out, ?_, B5.out.trans (HB.out.mono B5.out.size)⟩
          refine sl_row (l := ns.map fun s => look K' s.data.toList) (f := fun n => Value.int .i64 n) (T := 3) (base := w5.heap.size) ?_ ?_
          · rw [List.length_map, List.map_map]; exact HOWN.out
          · intro n hn
            obtain ⟨s, _, rfl⟩ := List.mem_map.1 hn
            refine ⟨rfl, ?_⟩
            have := look_ty HM5.out.ty s.data.toList
            unfold I64
            omega
/-- dtype.Vars: a right rule's variables. -/
def varsA (r : Ru) : List ByteArray := if rightR r = true then varsV (termsR r) else []
set_option maxRecDepth 100000 in
set_option maxHeartbeats 8000000 in
theorem vars_c (r : Ru) (cs : List Value) (e : Addr) (w : World) (hc : RuC w w.heap.size r cs) (hlen : (termsR r).length ≤ 1000000) (hS : ∀ t ∈ termsR r, t.s.size ≤ 1000000) (E : TErr e w) :
    Calls Tryd.prog 16 #[.agg cs.toArray] w fun e w' => ∃ v, e = .returned v ∧ SlOf w' w'.heap.size 1 StrC (varsA r) v ∧ Below w.heap.size w w' := by
  obtain ⟨o0, k0, o1, k1, rfl, _⟩ := hc.look
  have b1 : ∀ C : Obj, Below w.heap.size w (w.alloc C) := fun C => (Below.refl _ _).alloc (Nat.le_refl _) _
  have B1 := Lib.hid b1
  have HR := Lib.hid (fun C => rightRule_c r e (w.alloc C) _ ((hc.below (b1 C)).more (b1 C).size) (E.below (b1 C)))
  have HC := Lib.hid hc
  have HS := Lib.hid hS
  have HLn := Lib.hid hlen
  clear hc E hS hlen b1
  go_enter Tryd.func16, Tryd.ntmps16
  go_wp2_with fail
  refine (HR.out _).mono ?_
  rintro e3 w3 ⟨rfl, b3⟩
  have hz2 : w.heap.size + 1 ≤ w3.heap.size := by have := b3.size; simpa using this
  have r3 : w3.heap[w.heap.size]? = some (.cells #[.string r.head.rel, .slice o0 r.head.l.length k0, .slice o1 r.body.length k1, .int .i64 r.line] 27 (0, 0)) := by
    rw [b3.block _ (by simp)]
    exact World.alloc_heap_new w _
  have B3 := Lib.hid ((B1.out _).trans (b3.mono (by simp)))
  clear b3
  cases hr : rightR r with
  | false =>
    have Hq : Hid (varsA r = []) := Lib.hid (by unfold varsA; rw [hr]; rfl)
    clear hr
    go_wp2
    go_ret
    exact ⟨_, rfl, .inl ⟨rfl, Hq.out⟩, B3.out⟩
  | true =>
    have Hq : Hid (varsA r = varsV (termsR r)) := Lib.hid (by unfold varsA; rw [hr]; rfl)
    clear hr
    have HV := Lib.hid (varsOf_c r [.string r.head.rel, .slice o0 r.head.l.length k0, .slice o1 r.body.length k1, .int .i64 r.line] w3 ((HC.out.below B3.out).more B3.out.size) (fun t ht _ => Nat.le_trans (HS.out t ht) (by decide)) HLn.out)
    have x0 : w3.cell? ⟨w.heap.size, 0, none⟩ = some (.string r.head.rel) := by unfold World.cell?; rw [r3]; rfl
    have x1 : w3.cell? ⟨w.heap.size, 1, none⟩ = some (.slice o0 r.head.l.length k0) := by unfold World.cell?; rw [r3]; rfl
    have x2 : w3.cell? ⟨w.heap.size, 2, none⟩ = some (.slice o1 r.body.length k1) := by unfold World.cell?; rw [r3]; rfl
    have x3 : w3.cell? ⟨w.heap.size, 3, none⟩ = some (.int .i64 r.line) := by unfold World.cell?; rw [r3]; rfl
    have hl3 : w.heap.size < w3.heap.size := by omega
    clear r3
    go_wp2_with fail
    refine HV.out.mono ?_
    rintro e5 w5 ⟨vs, rfl, ho5, b5⟩
    have SV := Lib.hid (sl_row (R := StrC) ho5 (fun s hs => ⟨rfl, vars_size HS.out s hs⟩))
    have B5 := Lib.hid (B3.out.trans (b5.mono B3.out.size))
    clear x0 x1 x2 x3 HV ho5 b5
    go_wp2
    go_ret
    exact ⟨_, rfl, by rw [Hq.out]; exact SV.out, B5.out⟩
end Go.Proofs.YtbpdfmpfnbdeoaaDoor
