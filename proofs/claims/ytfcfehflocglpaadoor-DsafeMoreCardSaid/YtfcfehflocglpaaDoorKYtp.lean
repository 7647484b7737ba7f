/- dtype.Types, Vars: what they answer. Two parts of a body that change places; a part that is taken away. soriteslaw05.v, two, small. What the types of soriteslaw05.shown's two rules are. soritesref05.with, TermVars, AtomVars. -/
import Derived.Test.YtfcfehflocglpaaDoorKYvars
import Derived.Test.YtfcfehflocglpaaDoorKYap
import Derived.Test.YtfcfehflocglpaaDoorKYpl
import Derived.Laws.AppendOwn
import Derived.Test.YtfcfehflocglpaaDoorKLaid
import Derived.Test.YtfcfehflocglpaaDoorKYplc
namespace Go.Proofs.YtfcfehflocglpaaDoor
open Go.RowKit

theorem rule_slice (W : World) (r : Ru) {c0 c1 c2 c3 : Value} (hc : RuC W W.heap.size r [c0, c1, c2, c3]) :
    SlOf (W.alloc (.cells #[c0, c1, c2, c3] 27)) (W.alloc (.cells #[c0, c1, c2, c3] 27)).heap.size 4 (RuC (W.alloc (.cells #[c0, c1, c2, c3] 27)) (W.alloc (.cells #[c0, c1, c2, c3] 27)).heap.size) [r] (.slice (some ⟨W.heap.size, 0, none⟩) 1 1) := by
  have hb : Below W.heap.size W (W.alloc (.cells #[c0, c1, c2, c3] 27)) := (Below.refl _ _).alloc (Nat.le_refl _) _
  have hrow := World.alloc_heap_new W (.cells #[c0, c1, c2, c3] 27)
  have news := World.news_of_block hrow
  refine .inr ⟨⟨W.heap.size, 0, none⟩, 1, rfl, Nat.le_refl _, by unfold maxLen; omega, fun _ => by simp, fun i z hz => ?_⟩
  match i, hz with
  | 0, hz =>
    have e : r = z := by simpa using hz
    subst e
    refine ⟨[c0, c1, c2, c3], rfl, (hc.below hb).more hb.size, fun j c hj => ?_⟩
    have := news j c hj
    simpa using this
  | i + 1, hz => simp at hz
theorem info_int : (Tryd.prog.info? 3).map (fun i => (i.zero, i.size, i.bytes)) = some (some (.int .i64 0), 1, 8) := by kernel_rfl
theorem one_int (n : Int) : ∀ u ∈ [Value.int .i64 n], u.oneCell' = true := by
  intro u hu
  rw [List.mem_singleton.1 hu]
  rfl
theorem news_one (W : World) (v : Value) (T : TypeId) : ∀ j u, [v][j]? = some u → (W.alloc (.cells #[v] T)).cell? ((⟨W.heap.size, 0, none⟩ : Addr).add j) = some u := World.news_of_block (World.alloc_heap_new W (.cells #[v] T))
theorem grown_past {a b : World} {o : Obj} {row : Option Nat} (k : (a.alloc o).grownBy b row) : a.grownBy b row :=
  ⟨k.os, k.tape, k.output, Nat.le_trans (by simp) k.size, fun i hi hne => (k.block i (by simp; omega) hne).trans (Below.heap_alloc a o i hi)⟩
theorem own_shape {w : World} {base e size n : Nat} {v : Value} {xs : List Value} (h : w.ownsRow base e size v n xs) : ∃ o cap, v = .slice o n cap := by
  rcases h.2 with ⟨rfl, h0⟩ | ⟨g, cap, cur, hv, hb, _⟩
  · subst h0; exact ⟨_, _, rfl⟩
  · exact ⟨_, _, hv⟩
theorem max_le {n : Nat} (h : n ≤ 1000000) : n ≤ maxLen := by unfold maxLen; omega
theorem vars_size {r : Ru} (hS : ∀ t ∈ termsR r, t.s.size ≤ 1000000) : ∀ s ∈ varsV (termsR r), s.size ≤ maxLen := fun s hs => by
  obtain ⟨t, h1, _, rfl⟩ := (mem_varsV _ _).1 hs
  exact max_le (hS t h1)
/-- How Types answers. -/
def TypesR (ds : List De) (r : Ru) (n0 : Nat) (w : World) (e : Ending) (w' : World) : Prop :=
  ∃ v l k, e = .returned (.tuple #[v, .int .i64 k]) ∧ TyA ds r l k ∧ SlOf w' w'.heap.size 1 IntC l v ∧ Below n0 w w'
theorem typesR_nil {ds : List De} {r : Ru} {n0 : Nat} {w w' : World} {k : Int} (h : TyA ds r [] k) (hb : Below n0 w w') : TypesR ds r n0 w (.returned (.tuple #[.slice none 0 0, .int .i64 k])) w' := ⟨_, _, _, rfl, h, .inl ⟨rfl, rfl⟩, hb⟩

set_option maxRecDepth 100000 in
set_option maxHeartbeats 8000000 in
theorem types_c (ds : List De) (v : Value) (r : Ru) (cs : List Value) (e a b c d : Addr) (w : World) (hd : SlOf w w.heap.size 6 (DeC w w.heap.size) ds v) (hc : RuC w w.heap.size r cs)
    (hlen : (termsR r).length ≤ 1000000) (hS : ∀ t ∈ termsR r, t.s.size ≤ 1000000) (E : EnvY e a b c d w) :
    Calls Tryd.prog 18 #[v, .agg cs.toArray] w (TypesR ds r w.heap.size w) := by
  obtain ⟨o0, k0, o1, k1, rfl, _⟩ := hc.look
  obtain ⟨od, kd, rfl, _⟩ := SlOf.uni hd
  obtain ⟨C, hC⟩ : ∃ C : Obj, .cells #[.string r.head.rel, .slice o0 r.head.l.length k0, .slice o1 r.body.length k1, .int .i64 r.line] 27 = C := ⟨_, rfl⟩
  have b1 : Below w.heap.size w (w.alloc C) := (Below.refl _ _).alloc (Nat.le_refl _) _
  have b2 : Below w.heap.size w ((w.alloc C).alloc C) := b1.alloc (by simp) _
  have HSL : SlOf ((w.alloc C).alloc C) ((w.alloc C).alloc C).heap.size 4 (RuC ((w.alloc C).alloc C) ((w.alloc C).alloc C).heap.size) [r] (.slice (some ⟨w.heap.size + 1, 0, none⟩) 1 1) := by
    have := rule_slice (w.alloc C) r ((hc.below b1).more b1.size)
    rw [hC] at this
    simpa using this
  have HR := Lib.hid (right_c ⟨ds, [r]⟩ e _ [.slice od ds.length kd, .slice (some ⟨w.heap.size + 1, 0, none⟩) 1 1] ⟨_, _, rfl, SlOf.decl hd b2 b2.size, HSL⟩ (E.below b2).tr)
  have B2 := Lib.hid b2
  have HD := Lib.hid hd
  have HC := Lib.hid hc
  have HE := Lib.hid E
  have HS := Lib.hid hS
  have HLn := Lib.hid hlen
  subst hC
  clear hd hc E hS hlen b1 b2 HSL
  go_enter Tryd.func18, Tryd.ntmps18
  go_wp2_with fail
  refine HR.out.mono ?_
  rintro e3 w3 ⟨rfl, b3⟩
  have hz2 : w.heap.size + 2 ≤ w3.heap.size := by have := b3.size; simpa using this
  have r3 : w3.heap[w.heap.size]? = some (.cells #[.string r.head.rel, .slice o0 r.head.l.length k0, .slice o1 r.body.length k1, .int .i64 r.line] 27 (0, 0)) := by
    rw [b3.block _ (by simp; omega)]
    rw [Below.heap_alloc _ _ _ (by simp)]
    exact World.alloc_heap_new w _
  have B3 := Lib.hid (B2.out.trans (b3.mono B2.out.size))
  clear b3
  cases hr : rightP ⟨ds, [r]⟩ with
  | false =>
    have Ha := Lib.hid (TyA.tree hr)
    clear hr
    go_wp2
    go_ret2
    exact typesR_nil Ha.out B3.out
  | true =>
    have HRt := Lib.hid hr
    clear hr
    obtain ⟨n3, hn3⟩ : ∃ n3, w3.heap.size = n3 := ⟨_, rfl⟩
    have hE3 := HE.out.below B3.out
    have HY := Lib.hid (typesOf_all ds _ r [.string r.head.rel, .slice o0 r.head.l.length k0, .slice o1 r.body.length k1, .int .i64 r.line] a b c d n3 w3 hn3 (by have := SlOf.decl HD.out B3.out B3.out.size; rw [hn3] at this; exact this) (by have := (HC.out.below B3.out).more B3.out.size; rw [hn3] at this; exact this) HLn.out (fun t ht => max_le (HS.out t ht)) (right_types HRt.out) (by have := hE3.y; rw [hn3] at this; exact this))
    have HE3 := Lib.hid hE3
    have R3 := Lib.hid r3
    clear hE3 r3
    have x0 : w3.cell? ⟨w.heap.size, 0, none⟩ = some (.string r.head.rel) := by unfold World.cell?; rw [R3.out]; rfl
    have x1 : w3.cell? ⟨w.heap.size, 1, none⟩ = some (.slice o0 r.head.l.length k0) := by unfold World.cell?; rw [R3.out]; rfl
    have x2 : w3.cell? ⟨w.heap.size, 2, none⟩ = some (.slice o1 r.body.length k1) := by unfold World.cell?; rw [R3.out]; rfl
    have x3 : w3.cell? ⟨w.heap.size, 3, none⟩ = some (.int .i64 r.line) := by unfold World.cell?; rw [R3.out]; rfl
    have hl3 : w.heap.size < w3.heap.size := by omega
    go_wp2_with fail
    refine HY.out.mono ?_
    clear HY x0 x1 x2 x3
    intro e4 w4 hT
    have base := base_ne (r := r) (right_types HRt.out)
    have TA := types_all (p := prsL r.body) base
    cases hT with
    | atom h1 h2 =>
      have hbv : ∃ p, badV c d (chkA ds (atomsR r)) = .iface 193 (.pointer (some p)) ∧ (∀ W, Below w3.heap.size w3 W → Calls Tryd.prog 43 #[.iface 193 (.pointer (some p))] W fun e w' => e = .returned (.int .i64 (atE (chkA ds (atomsR r)))) ∧ W = w') := by
        cases h : chkA ds (atomsR r) with
        | zero => exact absurd h h1
        | succ m => cases m with
          | zero => exact ⟨c, rfl, fun W hb => num_no _ a b c d W (HE3.out.below hb).y (HE3.out.below hb).df⟩
          | succ m => exact ⟨d, rfl, fun W hb => num_ar _ a b c d W (HE3.out.below hb).y (HE3.out.below hb).df⟩
      obtain ⟨p, hp, HN⟩ := hbv
      have HN := Lib.hid (HN w4 (by rw [hn3]; exact h2))
      have Ha := Lib.hid (TyA.atom HRt.out h1)
      have B4 := Lib.hid (B3.out.trans (h2.mono (by rw [← hn3]; exact B3.out.size)))
      rw [hp]
      clear hp h1 h2 TA base
      go_wp2_with fail
      refine HN.out.mono ?_
      rintro e5 w5 ⟨rfl, rfl⟩
      go_wp2
      go_ret2
      exact typesR_nil Ha.out B4.out
    | place h1 h2 h3 =>
      have Ha := Lib.hid (TyA.none HRt.out h1 (fun hf => TA.1 h2 hf.1))
      have HN := Lib.hid (num_ty _ a b c d w4 (HE3.out.below (by rw [hn3]; exact h3)).y (HE3.out.below (by rw [hn3]; exact h3)).df)
      have B4 := Lib.hid (B3.out.trans (h3.mono (by rw [← hn3]; exact B3.out.size)))
      unfold errV at *
      clear h1 h2 h3 TA base
      go_wp2_with fail
      refine HN.out.mono ?_
      rintro e5 w5 ⟨rfl, rfl⟩
      go_wp2
      go_ret2
      exact typesR_nil Ha.out B4.out
    | other h1 h2 h3 h4 =>
      have Ha := Lib.hid (TyA.none HRt.out h1 (fun hf => (TA.2 _ _ h2 h3).1 rfl hf.1))
      have HN := Lib.hid (num_ty _ a b c d w4 (HE3.out.below (by rw [hn3]; exact h4)).y (HE3.out.below (by rw [hn3]; exact h4)).df)
      have B4 := Lib.hid (B3.out.trans (h4.mono (by rw [← hn3]; exact B3.out.size)))
      unfold errV at *
      clear h1 h2 h3 h4 TA base
      go_wp2_with fail
      refine HN.out.mono ?_
      rintro e5 w5 ⟨rfl, rfl⟩
      go_wp2
      go_ret2
      exact typesR_nil Ha.out B4.out
    | left h1 h2 h3 h4 h5 =>
      have Ha := Lib.hid (TyA.none HRt.out h1 (fun hf => by
        obtain ⟨t, t1, t2, t3⟩ := h4
        obtain ⟨k, k1, k2⟩ := hf.2 t t1 t2
        have := (((TA.2 _ _ h2 h3).2 _ rfl).2.1 (nm t) k k1).2 k2
        rw [t3] at this
        exact k1 this.symm))
      have HN := Lib.hid (num_ty _ a b c d w4 (HE3.out.below (by rw [hn3]; exact h5)).y (HE3.out.below (by rw [hn3]; exact h5)).df)
      have B4 := Lib.hid (B3.out.trans (h5.mono (by rw [← hn3]; exact B3.out.size)))
      unfold errV at *
      clear h1 h2 h3 h4 h5 TA base
      go_wp2_with fail
      refine HN.out.mono ?_
      rintro e5 w5 ⟨rfl, rfl⟩
      go_wp2
      go_ret2
      exact typesR_nil Ha.out B4.out
    | @good _ K K' B h1 h2 h3 h4 h5 h6 h7 =>
      obtain ⟨n1, n2, n3'⟩ := (TA.2 _ _ h2 h3).2 _ rfl
      have Ha := Lib.hid (TyA.some (K := K') HRt.out h1 ⟨n1, fun t ht hv => ⟨look K' (nm t), h4 t ht hv, (n2 _ _ (h4 t ht hv)).1 rfl⟩⟩ n2 (look_ty h6.ty))
      have B4 := Lib.hid (B3.out.trans (h7.mono (by rw [← hn3]; exact B3.out.size)))
      have r4 : w4.heap[w.heap.size]? = some (.cells #[.string r.head.rel, .slice o0 r.head.l.length k0, .slice o1 r.body.length k1, .int .i64 r.line] 27 (0, 0)) := (h7.block _ (by omega)).trans R3.out
      have HM := Lib.hid h6
      have hl4 : w.heap.size < w4.heap.size := by have := h7.size; omega
      have HV := Lib.hid (varsOf_c r [.string r.head.rel, .slice o0 r.head.l.length k0, .slice o1 r.body.length k1, .int .i64 r.line] w4 ((HC.out.below B4.out).more B4.out.size) (fun t ht _ => Nat.le_trans (HS.out t ht) (by decide)) HLn.out)
      clear h1 h2 h3 h4 h5 h6 h7 n1 n2 n3' TA base
      have x0 : w4.cell? ⟨w.heap.size, 0, none⟩ = some (.string r.head.rel) := by unfold World.cell?; rw [r4]; rfl
      have x1 : w4.cell? ⟨w.heap.size, 1, none⟩ = some (.slice o0 r.head.l.length k0) := by unfold World.cell?; rw [r4]; rfl
      have x2 : w4.cell? ⟨w.heap.size, 2, none⟩ = some (.slice o1 r.body.length k1) := by unfold World.cell?; rw [r4]; rfl
      have x3 : w4.cell? ⟨w.heap.size, 3, none⟩ = some (.int .i64 r.line) := by unfold World.cell?; rw [r4]; rfl
      clear r4 R3
      go_wp2_with fail
      refine HV.out.mono ?_
      rintro e5 w5 ⟨vs, rfl, ho5, b5⟩
      clear x0 x1 x2 x3 HV
      have SV := sl_row (R := StrC) ho5 (fun s hs => ⟨rfl, vars_size HS.out s hs⟩)
      have hvl : (varsV (termsR r)).length ≤ 1000000 := Nat.le_trans (varsV_len _) HLn.out
      have HVS := Lib.hid (vars_size HS.out)
      obtain ⟨ns, hns⟩ : ∃ ns, varsV (termsR r) = ns := ⟨_, rfl⟩
      rw [hns] at SV hvl Ha HVS
      obtain ⟨ov, kv, rfl, _, _, S5⟩ := SlOf.open SV
      have HM5 := Lib.hid (HM.out.below b5 HM.out.lt)
      have hB5 := HM5.out.lt
      have B5 := Lib.hid (B4.out.trans (b5.mono B4.out.size))
      have Hvl := Lib.hid hvl
      have zE : ∀ w : World, (zeroValue 3).run Tryd.prog w = .ok (.int .i64 0) w := fun w => by kernel_rfl
      obtain ⟨i0, hi, hz0, hz1, hz2⟩ := info_parts info_int
      clear SV ho5 hns b5 HM hvl
      go_wp2
      go_loopw [8, 30] (fun lv i wr => ∃ k : Nat, k ≤ ns.length ∧ i = .int .i64 k ∧ wr.ownsRow w5.heap.size 3 1 lv k ((ns.take k).map fun s => Value.int .i64 (look K' s.data.toList)) ∧ Below w5.heap.size w5 wr) (fun _ i _ => ns.length - (intOf i).toNat)
      case atStart => exact ⟨0, Nat.zero_le _, rfl, World.ownsRow_nil _ _ _ _, Below.refl _ _⟩
      case round =>
        obtain ⟨k, hk, rfl, hown, hB⟩ := hrel
        by_cases hlt : k < ns.length
        · have hlt' : (k : Int) < (ns.length : Int) := by omega
          obtain ⟨x, hx⟩ : ∃ x, ns[k]? = some x := ⟨ns[k], List.getElem?_eq_getElem hlt⟩
          obtain ⟨p, rfl, hp, hsz, c0⟩ := str_at S5 hB hx
          have hpl : (p.add k).block < wr.heap.size := by rw [addBlock]; have := hB.size; omega
          have Hm := Lib.hid (HM5.out.map.below hB hB5)
          have HOWN := Lib.hid hown
          have HB := Lib.hid hB
          have hst : (ns.take (k + 1)).map (fun s => Value.int .i64 (look K' s.data.toList)) = (ns.take k).map (fun s => Value.int .i64 (look K' s.data.toList)) ++ [.int .i64 (look K' x.data.toList)] := by rw [List.take_add_one, hx]; simp
          have Hst := Lib.hid hst
          have HS1 : Hid (k + 1 ≤ maxLen) := Lib.hid (by have := Hvl.out; unfold maxLen; omega)
          have HS2 : Hid ((k + 1) * 8 ≤ 140737488355328) := Lib.hid (by have := Hvl.out; omega)
          clear hown hst hx hB
          have hBs := HB.out.size
          go_wp2_with (first | (at_lookup; refine wpList_mapI_get _ rfl _ _ 78 rfl 9 3 Tryd.underlying78 Tryd.underlying9 Tryd.underlying3 (zE _) B _ (look K') _ rfl Hm.out x rfl hsz ?_; intro _) | (at_builtin; refine wpList_append_own _ rfl (.tmp 34) (.tmp 38) 37 rfl w5.heap.size 3 i0 _ 1 8 Tryd.underlying37 hi hz0 hz1 hz2 rfl (by decide) _ k _ rfl (HOWN.out.alloc _) _ 1 1 [.int .i64 (look K' x.data.toList)] rfl rfl (news_one _ _ _) (one_int _) HS1.out HS2.out (by simp; omega) ?_; intro v' w6 hown' hgrow _; have HG := Lib.hid (grown_past hgrow); have HOWN6 := Lib.hid hown'; clear hgrow hown'))
          go_wp2
          go_roundw
          case rel =>
            refine ⟨k + 1, hlt, by go_num, ?_, ?_⟩
            · rw [Hst.out]; exact HOWN6.out
            · exact HB.out.grown HG.out hBs (fun q hq => (HOWN.out.lt q hq).1)
          case measure => simp [intOf]; omega
        · have hlt' : ¬ (k : Int) < (ns.length : Int) := by omega
          obtain rfl : k = ns.length := by omega
          rw [List.take_of_length_le (Nat.le_refl _)] at hown
          have HOWN := Lib.hid hown
          have HB := Lib.hid hB
          obtain ⟨oq, kq, rfl⟩ := own_shape hown
          clear hown hB
          go_wp2
          go_ret2
          refine ⟨_, _, _, rfl, Ha.out, ?_, B5.out.trans (HB.out.mono B5.out.size)⟩
          refine sl_row (l := ns.map fun s => look K' s.data.toList) (f := fun n => Value.int .i64 n) (T := 3) (base := w5.heap.size) ?_ ?_
          · rw [List.length_map, List.map_map]; exact HOWN.out
          · intro n hn
            obtain ⟨s, _, rfl⟩ := List.mem_map.1 hn
            refine ⟨rfl, ?_⟩
            have := look_ty HM5.out.ty s.data.toList
            unfold I64
            omega
/-- dtype.Vars: a right rule's variables. -/
def varsA (r : Ru) : List ByteArray := if rightR r = true then varsV (termsR r) else []
set_option maxRecDepth 100000 in
set_option maxHeartbeats 8000000 in
theorem vars_c (r : Ru) (cs : List Value) (e : Addr) (w : World) (hc : RuC w w.heap.size r cs) (hlen : (termsR r).length ≤ 1000000) (hS : ∀ t ∈ termsR r, t.s.size ≤ 1000000) (E : TErr e w) :
    Calls Tryd.prog 16 #[.agg cs.toArray] w fun e w' => ∃ v, e = .returned v ∧ SlOf w' w'.heap.size 1 StrC (varsA r) v ∧ Below w.heap.size w w' := by
  obtain ⟨o0, k0, o1, k1, rfl, _⟩ := hc.look
  have b1 : ∀ C : Obj, Below w.heap.size w (w.alloc C) := fun C => (Below.refl _ _).alloc (Nat.le_refl _) _
  have B1 := Lib.hid b1
  have HR := Lib.hid (fun C => rightRule_c r e (w.alloc C) _ ((hc.below (b1 C)).more (b1 C).size) (E.below (b1 C)))
  have HC := Lib.hid hc
  have HS := Lib.hid hS
  have HLn := Lib.hid hlen
  clear hc E hS hlen b1
  go_enter Tryd.func16, Tryd.ntmps16
  go_wp2_with fail
  refine (HR.out _).mono ?_
  rintro e3 w3 ⟨rfl, b3⟩
  have hz2 : w.heap.size + 1 ≤ w3.heap.size := by have := b3.size; simpa using this
  have r3 : w3.heap[w.heap.size]? = some (.cells #[.string r.head.rel, .slice o0 r.head.l.length k0, .slice o1 r.body.length k1, .int .i64 r.line] 27 (0, 0)) := by
    rw [b3.block _ (by simp)]
    exact World.alloc_heap_new w _
  have B3 := Lib.hid ((B1.out _).trans (b3.mono (by simp)))
  clear b3
  cases hr : rightR r with
  | false =>
    have Hq : Hid (varsA r = []) := Lib.hid (by unfold varsA; rw [hr]; rfl)
    clear hr
    go_wp2
    go_ret
    exact ⟨_, rfl, .inl ⟨rfl, Hq.out⟩, B3.out⟩
  | true =>
    have Hq : Hid (varsA r = varsV (termsR r)) := Lib.hid (by unfold varsA; rw [hr]; rfl)
    clear hr
    have HV := Lib.hid (varsOf_c r [.string r.head.rel, .slice o0 r.head.l.length k0, .slice o1 r.body.length k1, .int .i64 r.line] w3 ((HC.out.below B3.out).more B3.out.size) (fun t ht _ => Nat.le_trans (HS.out t ht) (by decide)) HLn.out)
    have x0 : w3.cell? ⟨w.heap.size, 0, none⟩ = some (.string r.head.rel) := by unfold World.cell?; rw [r3]; rfl
    have x1 : w3.cell? ⟨w.heap.size, 1, none⟩ = some (.slice o0 r.head.l.length k0) := by unfold World.cell?; rw [r3]; rfl
    have x2 : w3.cell? ⟨w.heap.size, 2, none⟩ = some (.slice o1 r.body.length k1) := by unfold World.cell?; rw [r3]; rfl
    have x3 : w3.cell? ⟨w.heap.size, 3, none⟩ = some (.int .i64 r.line) := by unfold World.cell?; rw [r3]; rfl
    have hl3 : w.heap.size < w3.heap.size := by omega
    clear r3
    go_wp2_with fail
    refine HV.out.mono ?_
    rintro e5 w5 ⟨vs, rfl, ho5, b5⟩
    have SV := Lib.hid (sl_row (R := StrC) ho5 (fun s hs => ⟨rfl, vars_size HS.out s hs⟩))
    have B5 := Lib.hid (B3.out.trans (b5.mono B3.out.size))
    clear x0 x1 x2 x3 HV ho5 b5
    go_wp2
    go_ret
    exact ⟨_, rfl, by rw [Hq.out]; exact SV.out, B5.out⟩
end Go.Proofs.YtfcfehflocglpaaDoor
namespace Go.Proofs.YtfcfehflocglpaaDoor
open Go.RowKit

theorem swap_mem {α : Type} {l : List α} {m n : Nat} {x y : α} (hm : l[m]? = some x) (hn : l[n]? = some y) (z : α) : z ∈ (l.set m y).set n x ↔ z ∈ l := by
  have hml := (List.getElem?_eq_some_iff.1 hm).1
  have hnl := (List.getElem?_eq_some_iff.1 hn).1
  rw [List.mem_iff_getElem?, List.mem_iff_getElem?]
  have get : ∀ i, ((l.set m y).set n x)[i]? = if i = n then some x else if i = m then some y else l[i]? := by
    intro i
    by_cases h1 : i = n
    · subst h1; rw [if_pos rfl, List.getElem?_set_self (by simp; exact hnl)]
    · rw [if_neg h1, List.getElem?_set_ne (Ne.symm h1)]
      by_cases h2 : i = m
      · subst h2; rw [if_pos rfl, List.getElem?_set_self hml]
      · rw [if_neg h2, List.getElem?_set_ne (Ne.symm h2)]
  constructor
  · rintro ⟨i, hi⟩
    rw [get] at hi
    split at hi
    · cases hi; exact ⟨m, hm⟩
    · split at hi
      · cases hi; exact ⟨n, hn⟩
      · exact ⟨i, hi⟩
  · rintro ⟨i, hi⟩
    by_cases h1 : i = m
    · subst h1; rw [hm] at hi; cases hi; exact ⟨n, by rw [get, if_pos rfl]⟩
    · by_cases h2 : i = n
      · subst h2
        rw [hn] at hi
        cases hi
        exact ⟨m, by rw [get, if_neg (Ne.symm h1), if_pos rfl]⟩
      · exact ⟨i, by rw [get, if_neg h2, if_neg h1]; exact hi⟩
theorem all_mem {α : Type} {l m : List α} (h : ∀ x, x ∈ l ↔ x ∈ m) (f : α → Bool) : l.all f = m.all f := by
  rw [Bool.eq_iff_iff, List.all_eq_true, List.all_eq_true]
  exact ⟨fun k x hx => k x ((h x).2 hx), fun k x hx => k x ((h x).1 hx)⟩
theorem right_moved {ds : List De} {r r' : Ru} (hh : r.head = r'.head) (hl : r.body.length = r'.body.length) (hm : ∀ x, x ∈ r.body ↔ x ∈ r'.body) : rightR r = rightR r' ∧ rightP ⟨ds, [r]⟩ = rightP ⟨ds, [r']⟩ := by
  have he : r.body.isEmpty = r'.body.isEmpty := by
    rw [Bool.eq_iff_iff, List.isEmpty_iff_length_eq_zero, List.isEmpty_iff_length_eq_zero, hl]
  have h1 : rightR r = rightR r' := by
    unfold rightR
    rw [hh, hl, he, all_mem hm]
  exact ⟨h1, by unfold rightP; simp [h1]⟩
theorem sub_moved {r r' : Ru} (hh : r.head = r'.head) (hm : ∀ x, x ∈ r.body ↔ x ∈ r'.body) : Sub r r' ∧ Sub r' r := ⟨⟨hh, fun l hl => (hm l).1 hl⟩, ⟨hh.symm, fun l hl => (hm l).2 hl⟩⟩
theorem terms_few {r r' : Ru} (h : Sub r' r) (hs : ∀ t ∈ termsR r, t.s.size ≤ 1000) : ∀ t ∈ termsR r', t.s.size ≤ 1000000 := fun t ht => Nat.le_trans (hs t (h.terms t ht)) (by decide)
/-- How many terms there are does not hang on the parts' order. -/
theorem sum_set {α : Type} (f : α → Nat) {l : List α} {i : Nat} {x y : α} (hi : l[i]? = some x) : ((l.set i y).map f).sum + f x = (l.map f).sum + f y := by
  induction l generalizing i with
  | nil => simp at hi
  | cons z l ih =>
    cases i with
    | zero =>
      obtain rfl : z = x := by simpa using hi
      simp only [List.set_cons_zero, List.map_cons, List.sum_cons]
      omega
    | succ i =>
      have := ih (i := i) (by simpa using hi)
      simp only [List.set_cons_succ, List.map_cons, List.sum_cons]
      omega
theorem sum_swap {α : Type} (f : α → Nat) {l : List α} {m n : Nat} {x y : α} (hm : l[m]? = some x) (hn : l[n]? = some y) : (((l.set m y).set n x).map f).sum = (l.map f).sum := by
  have hml := (List.getElem?_eq_some_iff.1 hm).1
  have h1 := sum_set f (y := y) hm
  by_cases h : n = m
  · subst h
    rw [hm] at hn
    cases hn
    have h2 := sum_set f (l := l.set n x) (i := n) (x := x) (y := x) (List.getElem?_set_self hml)
    omega
  · have h2 := sum_set f (l := l.set m y) (i := n) (x := y) (y := x) (by rw [List.getElem?_set_ne (Ne.symm h)]; exact hn)
    omega
theorem termsR_len (r : Ru) : (termsR r).length = (subTs r.head.l).length + (r.body.map fun l => (litTs l).length).sum := by
  unfold termsR
  rw [List.length_append, List.length_flatMap]
theorem terms_swap {r : Ru} {m n : Nat} {x y : Lt} (hm : r.body[m]? = some x) (hn : r.body[n]? = some y) : (termsR ⟨r.head, (r.body.set m y).set n x, r.line⟩).length = (termsR r).length := by
  rw [termsR_len, termsR_len]
  show _ + (((r.body.set m y).set n x).map fun l => (litTs l).length).sum = _
  rw [sum_swap _ hm hn]
theorem lit_pos (l : Lt) : 2 ≤ (litTs l).length := by
  unfold litTs
  simp only [subTs, List.length_append]
  have h1 : 1 ≤ (subT l.x).length := by rw [subT_eq]; simp
  have h2 : 1 ≤ (subT l.y).length := by rw [subT_eq]; simp
  omega
theorem body_len (r : Ru) : r.body.length ≤ (termsR r).length := by
  rw [termsR_len]
  have : ∀ l : List Lt, l.length ≤ (l.map fun l => (litTs l).length).sum := by
    intro l
    induction l with
    | nil => simp
    | cons x l ih => simp only [List.map_cons, List.sum_cons, List.length_cons]; have := lit_pos x; omega
  have := this r.body
  omega
/-- The variables, whether or not the relations are right. -/
theorem varsA_ok {ds : List De} {r : Ru} (h : rightP ⟨ds, [r]⟩ = true) : varsA r = varsV (termsR r) := by
  unfold varsA
  unfold rightP at h
  simp only [Bool.and_eq_true, List.all_cons, List.all_nil] at h
  rw [if_pos h.2.1]
theorem varsA_len {r r' : Ru} (hr : rightR r = rightR r') (h : Sub r r') (k : Sub r' r) : (varsA r).length = (varsA r').length := by
  unfold varsA
  rw [hr]
  split
  · exact vars_len fun t => ⟨h.terms t, k.terms t⟩
  · rfl
theorem types_at {ds : List De} {r : Ru} {l : List Int} (h : TyA ds r l 0) {k : Nat} {s : ByteArray} (hk : (varsV (termsR r))[k]? = some s) : l[k]? = some (typedV (varsV (termsR r)) l s) := by
  generalize he : (0 : Int) = e at h
  cases h with
  | tree h => cases he
  | atom h1 h2 => rcases atE_ne h2 with h | h <;> rw [h] at he <;> cases he
  | none h1 h2 h3 => cases he
  | some h1 h2 h3 h4 h5 =>
    rw [typed_map (List.mem_of_getElem? hk), List.getElem?_map, hk]
    rfl
theorem TyA.right {ds : List De} {r : Ru} {l : List Int} (h : TyA ds r l 0) : rightP ⟨ds, [r]⟩ = true := by
  rcases h.errs with ⟨h, _⟩ | ⟨h, _⟩
  · omega
  · exact h
theorem typed_ty {ds : List De} {r : Ru} {l : List Int} (h : TyA ds r l 0) {s : ByteArray} (hv : s ∈ varsV (termsR r)) : typedV (varsV (termsR r)) l s = 1 ∨ typedV (varsV (termsR r)) l s = 2 := (types_sub ⟨rfl, fun _ h => h⟩ h h hv).2
end Go.Proofs.YtfcfehflocglpaaDoor
namespace Go.Proofs.YtfcfehflocglpaaDoor
open Go.RowKit

theorem flat_at {z : Nat} : ∀ (css : List (List Value)) (i j : Nat) (cs : List Value) (c : Value), (∀ x ∈ css, x.length = z) → css[i]? = some cs → cs[j]? = some c → css.flatten[i * z + j]? = some c
  | [], i, j, cs, c, _, h, _ => by simp at h
  | x :: css, 0, j, cs, c, hz, h, hc => by
    simp only [List.getElem?_cons_zero, Option.some.injEq] at h
    subst h
    rw [List.flatten_cons, Nat.zero_mul, Nat.zero_add, List.getElem?_append_left (List.getElem?_eq_some_iff.1 hc).1]
    exact hc
  | x :: css, i + 1, j, cs, c, hz, h, hc => by
    rw [List.flatten_cons, List.getElem?_append_right (by rw [hz x (List.mem_cons_self ..), Nat.succ_mul]; omega), hz x (List.mem_cons_self ..), show (i + 1) * z + j - z = i * z + j by rw [Nat.succ_mul]; omega]
    exact flat_at css i j cs c (fun y hy => hz y (List.mem_cons_of_mem _ hy)) (by simpa using h) hc
/-- A row that has just been made, as a slice. -/
theorem sl_cells {α : Type} {w : World} {B z : Nat} {T : TypeId} {R : α → List Value → Prop} {l : List α} (css : List (List Value)) (hrow : w.heap[B]? = some (.cells css.flatten.toArray T (0, 0))) (hl : css.length = l.length) (hz : ∀ cs ∈ css, cs.length = z)
    (hR : ∀ (i : Nat) (x : α) (cs : List Value), l[i]? = some x → css[i]? = some cs → R x cs) (hm : l.length ≤ maxLen) : SlOf w w.heap.size z R l (.slice (some ⟨B, 0, none⟩) l.length l.length) := by
  have news := World.news_of_block hrow
  refine .inr ⟨⟨B, 0, none⟩, l.length, rfl, Nat.le_refl _, hm, fun _ => heap_lt hrow, fun i x hx => ?_⟩
  have hi : i < css.length := by rw [hl]; exact (List.getElem?_eq_some_iff.1 hx).1
  refine ⟨css[i], hz _ (List.getElem_mem hi), hR i x _ hx (List.getElem?_eq_getElem hi), fun j c hj => ?_⟩
  exact news (i * z + j) c (flat_at css i j css[i] c hz (List.getElem?_eq_getElem hi) hj)
def vT (s : ByteArray) : Tm := .mk 1 s 0 []
theorem vT_c (w : World) (s : ByteArray) (hs : s.size ≤ maxLen) : TmC w w.heap.size (vT s) [.int .i64 1, .string s, .int .i64 0, .slice none 0 0] := .nil 1 s 0 (by unfold I64; omega) hs (by unfold I64; omega)
def zT : Tm := .mk 0 ⟨#[]⟩ 0 []
theorem zT_c (w : World) : TmC w w.heap.size zT [.int .i64 0, .string ⟨#[]⟩, .int .i64 0, .slice none 0 0] := .nil 0 ⟨#[]⟩ 0 (by unfold I64; omega) (by decide) (by unfold I64; omega)
theorem row_more {w : World} {i : Nat} {x : Obj} (h : w.heap[i]? = some x) (o : Obj) : (w.alloc o).heap[i]? = some x := (Below.heap_alloc w o i (heap_lt h)).trans h
theorem row_cells {w : World} {b : Nat} {cs : Array Value} {T : TypeId} (h : w.heap[b]? = some (.cells cs T (0, 0))) (i : Nat) : w.cell? ⟨b, i, none⟩ = cs[i]? := by unfold World.cell?; rw [h]; rfl
set_option maxRecDepth 100000 in
theorem v_c (s : ByteArray) (w : World) : Calls Tryd.prog 31 #[.string s] w fun e w' => e = .returned (.agg #[.int .i64 1, .string s, .int .i64 0, .slice none 0 0]) ∧ Below w.heap.size w w' := by
  have hr := World.alloc_heap_new w (.cells #[.int .i64 1, .string s, .int .i64 0, .slice none 0 0] 43)
  have h0 := row_cells hr 0
  have h1 := row_cells hr 1
  have h2 := row_cells hr 2
  have h3 := row_cells hr 3
  simp at h0 h1 h2 h3
  clear hr
  have hb : Below w.heap.size w (w.alloc (.cells #[.int .i64 1, .string s, .int .i64 0, .slice none 0 0] 43)) := (Below.refl _ _).alloc (Nat.le_refl _) _
  go_enter Tryd.func31, Tryd.ntmps31
  go_wp2
  refine bodyPost_ret (v := .agg #[.int .i64 1, .string s, .int .i64 0, .slice none 0 0]) (by simp [results, Tryd.results31, go_sem, h0, h1, h2, h3]) rfl ?_
  exact ⟨rfl, hb⟩
def pS : ByteArray := ⟨#[112]⟩
def twoD : De := ⟨pS, [⟨#[97]⟩, ⟨#[98]⟩], [1, 2], false, false, 0⟩
set_option maxRecDepth 100000 in
theorem two_c (w : World) : Calls Tryd.prog 32 #[] w fun e w' => ∃ v, e = .returned v ∧ SlOf w' w'.heap.size 6 (DeC w' w'.heap.size) [twoD] v ∧ Below w.heap.size w w' := by
  obtain ⟨W1, hW1⟩ : ∃ W1, w.alloc (.cells #[.string ⟨#[97]⟩, .string ⟨#[98]⟩] 9) = W1 := ⟨_, rfl⟩
  obtain ⟨W2, hW2⟩ : ∃ W2, W1.alloc (.cells #[.int .i64 1, .int .i64 2] 3) = W2 := ⟨_, rfl⟩
  obtain ⟨W3, hW3⟩ : ∃ W3, W2.alloc (.cells #[.string pS, .slice (some ⟨w.heap.size, 0, none⟩) 2 2, .slice (some ⟨w.heap.size + 1, 0, none⟩) 2 2, .bool false, .bool false, .int .i64 0] 71) = W3 := ⟨_, rfl⟩
  have z1 : W1.heap.size = w.heap.size + 1 := by rw [← hW1]; simp
  have z2 : W2.heap.size = w.heap.size + 1 + 1 := by rw [← hW2]; simp [z1]
  have r1 : W1.heap[w.heap.size]? = some (.cells #[.string ⟨#[97]⟩, .string ⟨#[98]⟩] 9 (0, 0)) := by rw [← hW1]; exact World.alloc_heap_new w _
  have r2 : W2.heap[w.heap.size + 1]? = some (.cells #[.int .i64 1, .int .i64 2] 3 (0, 0)) := by rw [← hW2, ← z1]; exact World.alloc_heap_new W1 _
  have r3 : W3.heap[w.heap.size + 1 + 1]? = some (.cells #[.string pS, .slice (some ⟨w.heap.size, 0, none⟩) 2 2, .slice (some ⟨w.heap.size + 1, 0, none⟩) 2 2, .bool false, .bool false, .int .i64 0] 71 (0, 0)) := by rw [← hW3, ← z2]; exact World.alloc_heap_new W2 _
  have q1 : W3.heap[w.heap.size]? = some (.cells #[.string ⟨#[97]⟩, .string ⟨#[98]⟩] 9 (0, 0)) := by rw [← hW3]; refine row_more ?_ _; rw [← hW2]; exact row_more r1 _
  have q2 : W3.heap[w.heap.size + 1]? = some (.cells #[.int .i64 1, .int .i64 2] 3 (0, 0)) := by rw [← hW3]; exact row_more r2 _
  have hb : Below w.heap.size w W3 := by
    rw [← hW3, ← hW2, ← hW1]
    exact (((Below.refl _ _).alloc (Nat.le_refl _) _).alloc (by simp) _).alloc (by simp; omega) _
  have hs : SlOf W3 W3.heap.size 6 (DeC W3 W3.heap.size) [twoD] (.slice (some ⟨w.heap.size + 1 + 1, 0, none⟩) 1 1) := by
    refine sl_cells (l := [twoD]) [[.string pS, .slice (some ⟨w.heap.size, 0, none⟩) 2 2, .slice (some ⟨w.heap.size + 1, 0, none⟩) 2 2, .bool false, .bool false, .int .i64 0]] r3 rfl (by simp) ?_ (by decide)
    intro i x cs hx hc
    match i, hx, hc with
    | 0, hx, hc =>
      obtain rfl : twoD = x := by simpa using hx
      obtain rfl : [Value.string pS, .slice (some ⟨w.heap.size, 0, none⟩) 2 2, .slice (some ⟨w.heap.size + 1, 0, none⟩) 2 2, .bool false, .bool false, .int .i64 0] = cs := by simpa using hc
      refine ⟨_, _, rfl, by decide, by unfold I64; decide, ?_, ?_⟩
      · refine sl_cells (l := [(⟨#[97]⟩ : ByteArray), ⟨#[98]⟩]) [[.string ⟨#[97]⟩], [.string ⟨#[98]⟩]] q1 rfl (by simp) ?_ (by decide)
        intro i x cs hx hc
        match i, hx, hc with
        | 0, hx, hc => simp at hx hc; subst hx hc; exact ⟨rfl, by decide⟩
        | 1, hx, hc => simp at hx hc; subst hx hc; exact ⟨rfl, by decide⟩
        | i + 2, hx, _ => simp at hx
      · refine sl_cells (l := [(1 : Int), 2]) [[.int .i64 1], [.int .i64 2]] q2 rfl (by simp) ?_ (by decide)
        intro i x cs hx hc
        match i, hx, hc with
        | 0, hx, hc => simp at hx hc; subst hx hc; exact ⟨rfl, by unfold I64; decide⟩
        | 1, hx, hc => simp at hx hc; subst hx hc; exact ⟨rfl, by unfold I64; decide⟩
        | i + 2, hx, _ => simp at hx
    | i + 1, hx, _ => simp at hx
  subst hW1 hW2 hW3
  clear r1 r2 r3 q1 q2 z1 z2
  have HS := Lib.hid hs
  have HB := Lib.hid hb
  clear hs hb
  go_enter Tryd.func32, Tryd.ntmps32
  go_wp2
  go_ret
  exact ⟨_, rfl, HS.out, HB.out⟩
set_option maxRecDepth 100000 in
set_option maxHeartbeats 2000000 in
theorem small5_c (ds : List De) (v : Value) (r : Ru) (cs : List Value) (w : World) (hd : SlOf w w.heap.size 6 (DeC w w.heap.size) ds v) (hc : RuC w w.heap.size r cs) :
    Calls Tryd.prog 12 #[v, .agg cs.toArray] w fun e w' => e = .returned (.bool (smallP ⟨ds, [r]⟩)) ∧ Below w.heap.size w w' := by
  obtain ⟨o0, k0, o1, k1, rfl, _⟩ := hc.look
  obtain ⟨od, kd, rfl, _⟩ := SlOf.uni hd
  obtain ⟨C, hC⟩ : ∃ C : Obj, .cells #[.string r.head.rel, .slice o0 r.head.l.length k0, .slice o1 r.body.length k1, .int .i64 r.line] 27 = C := ⟨_, rfl⟩
  have b1 : Below w.heap.size w (w.alloc C) := (Below.refl _ _).alloc (Nat.le_refl _) _
  have b2 : Below w.heap.size w ((w.alloc C).alloc C) := b1.alloc (by simp) _
  have HSL : SlOf ((w.alloc C).alloc C) ((w.alloc C).alloc C).heap.size 4 (RuC ((w.alloc C).alloc C) ((w.alloc C).alloc C).heap.size) [r] (.slice (some ⟨w.heap.size + 1, 0, none⟩) 1 1) := by
    have := rule_slice (w.alloc C) r ((hc.below b1).more b1.size)
    rw [hC] at this
    simpa using this
  have HR := Lib.hid (small_c ⟨ds, [r]⟩ _ [.slice od ds.length kd, .slice (some ⟨w.heap.size + 1, 0, none⟩) 1 1] ⟨_, _, rfl, SlOf.decl hd b2 b2.size, HSL⟩)
  have B2 := Lib.hid b2
  subst hC
  clear hd hc b1 b2 HSL
  go_enter Tryd.func12, Tryd.ntmps12
  go_wp2_with fail
  refine HR.out.mono ?_
  rintro e3 w3 ⟨rfl, b3⟩
  have B3 := Lib.hid (B2.out.trans (b3.mono B2.out.size))
  unfold smallI
  obtain ⟨q, hq⟩ : ∃ q, smallP ⟨ds, [r]⟩ = q := ⟨_, rfl⟩
  rw [hq]
  have Hq := Lib.hid hq
  clear hq
  cases q with
  | true =>
    go_wp2
    go_ret
    exact ⟨by rw [Hq.out]; rfl, B3.out⟩
  | false =>
    go_wp2
    go_ret
    exact ⟨by rw [Hq.out]; rfl, B3.out⟩
end Go.Proofs.YtfcfehflocglpaaDoor
namespace Go.Proofs.YtfcfehflocglpaaDoor
open Go.RowKit

def xS : ByteArray := ⟨#[120]⟩
def yS : ByteArray := ⟨#[121]⟩
def xyA : Am := ⟨pS, [vT xS, vT yS]⟩
def xyR : Ru := ⟨xyA, [⟨1, xyA, zT, zT⟩], 0⟩
def xxR : Ru := ⟨⟨pS, [vT xS, vT xS]⟩, [⟨1, xyA, zT, zT⟩], 0⟩
theorem xy_right : rightP ⟨[twoD], [xyR]⟩ = true := by decide +kernel
theorem xx_right : rightP ⟨[twoD], [xxR]⟩ = true := by decide +kernel
theorem xy_chk : chkA [twoD] (atomsR xyR) = 0 := by decide +kernel
theorem xx_chk : chkA [twoD] (atomsR xxR) = 0 := by decide +kernel
theorem find_p : findY pS [twoD] = some 0 := by decide +kernel
theorem plc_p (l : List Tm) : plc [twoD] ⟨pS, l⟩ = l.zip [1, 2] := by
  unfold plc
  rw [find_p]
  rfl
theorem xy_base : baseL [twoD] xyR = [(vT xS, 1), (vT yS, 2), (vT xS, 1), (vT yS, 2), (zT, 1), (zT, 1)] := by
  have h1 : plc [twoD] xyA = [(vT xS, 1), (vT yS, 2)] := plc_p _
  unfold baseL plcs
  rw [show atomsR xyR = [xyA, xyA] from rfl, show aggT xyR.body = [zT, zT] from rfl, show (termsR xyR).flatMap (fun t => t.l) = [] by simp [termsR, xyR, xyA, vT, zT, subTs, subT, litTs]]
  simp [h1, nums]
theorem xx_base : (vT xS, (1 : Int)) ∈ baseL [twoD] xxR ∧ (vT xS, (2 : Int)) ∈ baseL [twoD] xxR := by
  have : plc [twoD] xxR.head = [(vT xS, 1), (vT xS, 2)] := plc_p _
  have h : ∀ x ∈ plc [twoD] xxR.head, x ∈ baseL [twoD] xxR := fun x hx => List.mem_append_left _ (List.mem_flatMap.2 ⟨xxR.head, List.mem_cons_self .., hx⟩)
  rw [this] at h
  exact ⟨h _ (by simp), h _ (by simp)⟩
theorem xy_der {s : List UInt8} {k : Int} (h : DerR [twoD] xyR s k) : (s = [120] ∧ k = 1) ∨ (s = [121] ∧ k = 2) := by
  have hp : prsL xyR.body = [] := rfl
  unfold DerR at h
  rw [hp, xy_base] at h
  cases h with
  | @base t k h1 h2 =>
    simp only [List.mem_cons, Prod.mk.injEq, List.not_mem_nil, or_false] at h1
    rcases h1 with ⟨rfl, rfl⟩ | ⟨rfl, rfl⟩ | ⟨rfl, rfl⟩ | ⟨rfl, rfl⟩ | ⟨rfl, rfl⟩ | ⟨rfl, rfl⟩
    · exact .inl ⟨rfl, rfl⟩
    · exact .inr ⟨rfl, rfl⟩
    · exact .inl ⟨rfl, rfl⟩
    · exact .inr ⟨rfl, rfl⟩
    · exact absurd h2 (by decide)
    · exact absurd h2 (by decide)
  | lc h1 => cases h1
  | lv h1 => cases h1
  | rc h1 => cases h1
  | rv h1 => cases h1
theorem xy_x : DerR [twoD] xyR [120] 1 := Der.base (t := vT xS) (by rw [xy_base]; simp) rfl
theorem xy_y : DerR [twoD] xyR [121] 2 := Der.base (t := vT yS) (by rw [xy_base]; simp) rfl
theorem xy_vars : varsV (termsR xyR) = [xS, yS] := by
  have : termsR xyR = [vT xS, vT yS, zT, zT, vT xS, vT yS] := by simp [termsR, xyR, xyA, vT, zT, subTs, subT, litTs]
  rw [this]
  decide +kernel
theorem xy_fits : Fits [twoD] xyR := by
  refine ⟨⟨fun s k k' h1 h2 => ?_, fun t k h1 h2 => ?_, fun x y h => by cases h⟩, fun t ht hv => ?_⟩
  · rcases xy_der h1 with ⟨rfl, rfl⟩ | ⟨rfl, rfl⟩ <;> rcases xy_der h2 with ⟨h, rfl⟩ | ⟨h, rfl⟩
    · rfl
    · cases h
    · cases h
    · rfl
  · rw [xy_base] at h1
    simp only [List.mem_cons, Prod.mk.injEq, List.not_mem_nil, or_false] at h1
    rcases h1 with ⟨rfl, rfl⟩ | ⟨rfl, rfl⟩ | ⟨rfl, rfl⟩ | ⟨rfl, rfl⟩ | ⟨rfl, rfl⟩ | ⟨rfl, rfl⟩
    · exact absurd rfl h2
    · exact absurd rfl h2
    · exact absurd rfl h2
    · exact absurd rfl h2
    · exact .inl rfl
    · exact .inl rfl
  · have e : termsR xyR = [vT xS, vT yS, zT, zT, vT xS, vT yS] := by simp [termsR, xyR, xyA, vT, zT, subTs, subT, litTs]
    rw [e] at ht
    simp only [List.mem_cons, List.not_mem_nil, or_false] at ht
    rcases ht with rfl | rfl | rfl | rfl | rfl | rfl
    · exact ⟨1, by decide, xy_x⟩
    · exact ⟨2, by decide, xy_y⟩
    · exact absurd hv (by decide)
    · exact absurd hv (by decide)
    · exact ⟨1, by decide, xy_x⟩
    · exact ⟨2, by decide, xy_y⟩
theorem types_xy {l : List Int} {k : Int} (h : TyA [twoD] xyR l k) : k = 0 ∧ l = [1, 2] := by
  cases h with
  | tree h => rw [xy_right] at h; cases h
  | atom _ h => exact absurd xy_chk h
  | none _ _ h => exact absurd xy_fits h
  | @some K _ _ _ h _ =>
    refine ⟨rfl, ?_⟩
    rw [xy_vars]
    have h1 : look K xS.data.toList = 1 := (h [120] 1 (by decide)).2 xy_x
    have h2 : look K yS.data.toList = 2 := (h [121] 2 (by decide)).2 xy_y
    simp [h1, h2]
theorem types_xx {l : List Int} {k : Int} (h : TyA [twoD] xxR l k) : k = 53 ∧ l = [] := by
  cases h with
  | tree h => rw [xx_right] at h; cases h
  | atom _ h => exact absurd xx_chk h
  | none _ _ h => exact ⟨rfl, rfl⟩
  | some _ _ h => exact absurd (h.1.one _ _ _ (Der.base xx_base.1 rfl) (Der.base xx_base.2 rfl)) (by decide)
theorem xy_len : (termsR xyR).length ≤ 1000000 ∧ ∀ t ∈ termsR xyR, t.s.size ≤ 1000000 := by
  have e : termsR xyR = [vT xS, vT yS, zT, zT, vT xS, vT yS] := by simp [termsR, xyR, xyA, vT, zT, subTs, subT, litTs]
  rw [e]
  refine ⟨by decide, fun t ht => ?_⟩
  simp only [List.mem_cons, List.not_mem_nil, or_false] at ht
  rcases ht with rfl | rfl | rfl | rfl | rfl | rfl <;> decide
theorem xx_len : (termsR xxR).length ≤ 1000000 ∧ ∀ t ∈ termsR xxR, t.s.size ≤ 1000000 := by
  have e : termsR xxR = [vT xS, vT xS, zT, zT, vT xS, vT yS] := by simp [termsR, xxR, xyA, vT, zT, subTs, subT, litTs]
  rw [e]
  refine ⟨by decide, fun t ht => ?_⟩
  simp only [List.mem_cons, List.not_mem_nil, or_false] at ht
  rcases ht with rfl | rfl | rfl | rfl | rfl | rfl <;> decide
/-! ### How they lie -/
def xyCells (B : Nat) : List Value := [.string pS, .slice (some ⟨B, 0, none⟩) 2 2]
def litCells (B : Nat) : List Value := .int .i64 1 :: (xyCells B ++ [.int .i64 0, .string ⟨#[]⟩, .int .i64 0, .slice none 0 0, .int .i64 0, .string ⟨#[]⟩, .int .i64 0, .slice none 0 0])
def ruCells (A b : Nat) : List Value := xyCells A ++ [.slice (some ⟨b, 0, none⟩) 1 1, .int .i64 0]
/-- A row of two variables. -/
def TwoAt (w : World) (B : Nat) (s t : ByteArray) : Prop := w.heap[B]? = some (.cells #[.int .i64 1, .string s, .int .i64 0, .slice none 0 0, .int .i64 1, .string t, .int .i64 0, .slice none 0 0] 43 (0, 0))
theorem two_tms {w : World} {B : Nat} {s t : ByteArray} (h : TwoAt w B s t) (hs : s.size ≤ maxLen) (ht : t.size ≤ maxLen) : TmS w w.heap.size [vT s, vT t] (.slice (some ⟨B, 0, none⟩) 2 2) := by
  refine sl_cells (l := [vT s, vT t]) [[.int .i64 1, .string s, .int .i64 0, .slice none 0 0], [.int .i64 1, .string t, .int .i64 0, .slice none 0 0]] h rfl (by simp) ?_ (by simp [maxLen])
  intro i x cs hx hc
  match i, hx, hc with
  | 0, hx, hc => simp only [List.getElem?_cons_zero, Option.some.injEq] at hx hc; subst hx hc; exact vT_c w s hs
  | 1, hx, hc => simp only [List.getElem?_cons_succ, List.getElem?_cons_zero, Option.some.injEq] at hx hc; subst hx hc; exact vT_c w t ht
  | i + 2, hx, _ => simp at hx
theorem two_am {w : World} {B : Nat} {s t : ByteArray} (h : TwoAt w B s t) (hs : s.size ≤ maxLen) (ht : t.size ≤ maxLen) : AmC w w.heap.size ⟨pS, [vT s, vT t]⟩ (xyCells B) := ⟨_, rfl, by show pS.size ≤ maxLen; decide, two_tms h hs ht⟩
/-- A rule over that atom. -/
theorem xy_ru {w : World} {A B b : Nat} {s t : ByteArray} (hA : TwoAt w A s t) (hB : TwoAt w B xS yS) (hs : s.size ≤ maxLen) (ht : t.size ≤ maxLen) (hb : w.heap[b]? = some (.cells (litCells B).toArray 45 (0, 0))) :
    RuC w w.heap.size ⟨⟨pS, [vT s, vT t]⟩, [⟨1, xyA, zT, zT⟩], 0⟩ (ruCells A b) := by
  refine ⟨_, _, rfl, by unfold I64; simp, two_am hA hs ht, ?_⟩
  refine sl_cells (l := [(⟨1, xyA, zT, zT⟩ : Lt)]) [litCells B] (by simpa using hb) rfl (by simp [litCells, xyCells]) ?_ (by simp [maxLen])
  intro i x cs hx hc
  match i, hx, hc with
  | 0, hx, hc =>
    simp only [List.getElem?_cons_zero, Option.some.injEq] at hx hc
    subst hx hc
    exact ⟨xyCells B, [.int .i64 0, .string ⟨#[]⟩, .int .i64 0, .slice none 0 0], [.int .i64 0, .string ⟨#[]⟩, .int .i64 0, .slice none 0 0], rfl, by unfold I64; decide, two_am hB (by decide) (by decide), zT_c w, zT_c w⟩
  | i + 1, hx, _ => simp at hx
end Go.Proofs.YtfcfehflocglpaaDoor
namespace Go.Proofs.YtfcfehflocglpaaDoor
open Go.RowKit

theorem info_str : (Tryd.prog.info? 9).map (fun i => (i.zero, i.size, i.bytes)) = some (some (.string ⟨#[]⟩), 1, 16) := by kernel_rfl
theorem one_str (s : ByteArray) : ∀ u ∈ [Value.string s], u.oneCell' = true := by
  intro u hu
  rw [List.mem_singleton.1 hu]
  rfl
theorem str_one (s : ByteArray) (cs : List Value) (h : StrC s cs) : ∀ u ∈ cs, u.oneCell' = true := by
  rw [h.1]
  exact one_str s
theorem laid_str {l : List ByteArray} {xs : List Value} (h : Laid 1 StrC l xs) : xs = l.map Value.string := by
  refine List.ext_getElem? fun i => ?_
  rw [List.getElem?_map]
  by_cases hi : i < l.length
  · obtain ⟨s, hs⟩ : ∃ s, l[i]? = some s := ⟨_, List.getElem?_eq_getElem hi⟩
    obtain ⟨cs, _, h1, h2⟩ := h.2 i s hs
    have := h2 0 (.string s) (by rw [h1.1]; rfl)
    rw [hs]
    simpa using this
  · have hl := h.1
    rw [List.getElem?_eq_none (by omega), List.getElem?_eq_none (by omega)]
    rfl
theorem str_sizes {w : World} {B : Nat} {l : List ByteArray} {v : Value} (h : SlOf w B 1 StrC l v) : ∀ s ∈ l, s.size ≤ maxLen := fun s hs => by
  obtain ⟨i, hi⟩ := List.mem_iff_getElem?.1 hs
  obtain ⟨_, _, _, _, _, h2⟩ := SlOf.uni h
  obtain ⟨_, _, _, _, _, h3, _⟩ := h2 i s hi
  exact h3.2
def VarsR (l : List ByteArray) (n0 : Nat) (w : World) (e : Ending) (w' : World) : Prop := ∃ v, e = .returned v ∧ SlOf w' w'.heap.size 1 StrC l v ∧ Below n0 w w'
set_option maxRecDepth 100000 in
set_option maxHeartbeats 4000000 in
theorem with_c (l m : List ByteArray) (v u : Value) (w : World) (h1 : SlOf w w.heap.size 1 StrC l v) (h2 : SlOf w w.heap.size 1 StrC m u) (hn : l.length + m.length ≤ 1000000) :
    Calls Tryd.prog 39 #[v, u] w (VarsR (withV l m) w.heap.size w) := by
  obtain ⟨xs, hlaid, hsp⟩ := sl_laid h1 str_one
  have hxs := laid_str hlaid
  subst hxs
  have HSz : Hid (∀ s ∈ withV l m, s.size ≤ maxLen) := Lib.hid fun s hs => ((withV_mem _ _ _).1 hs).elim (str_sizes h1 s) (str_sizes h2 s)
  obtain ⟨o1, k1, rfl, _, _, S1⟩ := SlOf.open h1
  obtain ⟨o2, k2, rfl, _, _, S2⟩ := SlOf.open h2
  have HB0 : Hid (Below w.heap.size w w) := Lib.hid (Below.refl _ _)
  have HSp := Lib.hid hsp
  have Hn := Lib.hid hn
  have HSzk : Hid (∀ k, ∀ s ∈ withV l (m.take k), s.size ≤ maxLen) := Lib.hid fun k s hs => HSz.out s ((withV_mem _ _ _).2 (((withV_mem _ _ _).1 hs).imp id fun h => List.mem_of_mem_take h))
  have HLk : Hid (∀ k, k ≤ m.length → (withV l (m.take k)).length ≤ l.length + k) := Lib.hid fun k hk => by
    have := withV_len l (m.take k)
    rw [List.length_take] at this
    omega
  obtain ⟨i0, hi, hz0, hz1, hz2⟩ := info_parts info_str
  have Kb : Hid (i0.bytes * (l.length + m.length) ≤ 281474976710656) := Lib.hid (by rw [hz2]; omega)
  have Km : Hid (l.length + m.length ≤ maxLen) := Lib.hid (by unfold maxLen; omega)
  have hw : IntKind.i64.wrap ((l.length : Int) + (m.length : Int)) = (l.length : Int) + (m.length : Int) := IntWalk.i64_in _ (by omega)
  clear h1 h2 hlaid hsp hn
  go_enter Tryd.func39, Tryd.ntmps39
  go_wp2_with (first
    | (at_make; refine wpList_make_own _ rfl _ _ 34 rfl w.heap.size 9 i0 _ 1 Tryd.underlying34 hi hz0 hz1 .i64 .i64 _ (l.length + m.length) rfl rfl (by first | omega | go_num) Kb.out Km.out (Nat.le_refl _) ?_; intro w1 hown1 hg1; have O1 := Lib.hid hown1; have G1 := Lib.hid hg1; clear hown1 hg1)
    | (at_builtin; refine wpList_append_any _ rfl (.tmp 12) (.tmp 13) 34 rfl w.heap.size 9 i0 _ 1 16 Tryd.underlying34 hi hz0 hz1 hz2 rfl (by decide) _ 0 [] rfl O1.out _ l.length _ rfl (HSp.out.cells fun p c hc => (World.cell?_of_block (G1.out.block _ (World.block_lt_of_cell? _ _ hc) (by simp))).trans hc) (by have := Km.out; omega) (by have := Km.out; have := Hn.out; omega) (by have := G1.out.size; omega) ?_; intro v2 w2 hown2 hg2 _; have O2 := Lib.hid hown2; have G2 := Lib.hid hg2; clear hown2 hg2))
  have hz12 : w.heap.size ≤ w2.heap.size := by have := G1.out.size; have := G2.out.size; omega
  have hb2 : Below w.heap.size w w2 := ((Below.refl _ _).grown G1.out (Nat.le_refl _) (fun q hq => by cases hq)).grown G2.out (by have := G1.out.size; exact this) (fun q hq => (O1.out.lt q hq).1)
  have O3 : Hid (w2.ownsRow w.heap.size 9 1 v2 l.length (l.map Value.string)) := Lib.hid (by have := O2.out; simpa using this)
  have B2 := Lib.hid hb2
  clear O1 O2 G1 G2 hb2 HSp hw
  go_loopw [5, 6] (fun lv i wr => ∃ k : Nat, k ≤ m.length ∧ i = .int .i64 k ∧ wr.ownsRow w.heap.size 9 1 lv (withV l (m.take k)).length ((withV l (m.take k)).map Value.string) ∧ Below w.heap.size w wr) (fun _ i _ => m.length - (intOf i).toNat)
  case atStart => exact ⟨0, Nat.zero_le _, rfl, O3.out, B2.out⟩
  case round =>
    obtain ⟨k, hk, rfl, hown, hB⟩ := hrel
    have hsl := sl_row (R := StrC) hown (fun s hs => ⟨rfl, HSzk.out k s hs⟩)
    have hLk := HLk.out k hk
    by_cases hlt : k < m.length
    · have hlt' : (k : Int) < (m.length : Int) := by omega
      obtain ⟨x, hx⟩ : ∃ x, m[k]? = some x := ⟨m[k], List.getElem?_eq_getElem hlt⟩
      obtain ⟨p, rfl, hp, hsz, c0⟩ := str_at S2 hB hx
      have htk := withV_take (l := l) hx
      obtain ⟨cur, hcur⟩ : ∃ cur, withV l (m.take k) = cur := ⟨_, rfl⟩
      rw [hcur] at hown hsl hLk htk
      have HP := Lib.hid (place1_c cur _ x wr hsl)
      have HOWN := Lib.hid hown
      have HB := Lib.hid hB
      have Htk := Lib.hid htk
      have HLc := Lib.hid hLk
      have hpl : (p.add k).block < wr.heap.size := by rw [addBlock]; have := hB.size; omega
      clear hsl hown hB htk hx hcur hLk
      go_wp2_with fail
      refine HP.out.mono ?_
      rintro e w3 ⟨rfl, b3⟩
      have HOWN3 := Lib.hid (own_below HOWN.out b3)
      have HB3 := Lib.hid (HB.out.trans (b3.mono HB.out.size))
      have c3 : w3.cell? (p.add k) = some (.string x) := (World.cell?_of_block (b3.block _ hpl)).trans c0
      have hpl3 : (p.add k).block < w3.heap.size := by have := b3.size; omega
      have hB3s := HB3.out.size
      clear HP b3 c0
      by_cases hneg : placeV cur x < 0
      · have Hz : Hid (withV l (m.take (k + 1)) = cur ++ [x]) := Lib.hid (by rw [Htk.out, if_pos hneg])
        have HS1 : Hid (cur.length + 1 ≤ maxLen) := Lib.hid (by have := HLc.out; have := Hn.out; unfold maxLen; omega)
        have HS2 : Hid ((cur.length + 1) * 16 ≤ 140737488355328) := Lib.hid (by have := HLc.out; have := Hn.out; omega)
        clear Htk
        go_wp2_with (at_builtin; refine wpList_append_own _ rfl (.tmp 28) (.tmp 33) 34 rfl w.heap.size 9 i0 _ 1 16 Tryd.underlying34 hi hz0 hz1 hz2 rfl (by decide) _ cur.length _ rfl (HOWN3.out.alloc _) _ 1 1 [.string x] rfl rfl (news_one _ _ _) (one_str _) HS1.out HS2.out (by simp; omega) ?_; intro v' w6 hown' hgrow _; have HG := Lib.hid (grown_past hgrow); have HOWN6 := Lib.hid hown'; clear hgrow hown')
        go_wp2
        go_roundw
        case rel =>
          refine ⟨k + 1, hlt, by go_num, ?_, ?_⟩
          · rw [Hz.out, List.length_append, List.map_append]; exact HOWN6.out
          · exact HB3.out.grown HG.out hB3s (fun q hq => (HOWN3.out.lt q hq).1)
        case measure => simp [intOf]; omega
      · have Hz : Hid (withV l (m.take (k + 1)) = cur) := Lib.hid (by rw [Htk.out, if_neg hneg])
        clear Htk
        go_wp2
        go_roundw
        case rel =>
          refine ⟨k + 1, hlt, by go_num, ?_, HB3.out⟩
          rw [Hz.out]; exact HOWN3.out
        case measure => simp [intOf]; omega
    · have hlt' : ¬ (k : Int) < (m.length : Int) := by omega
      obtain rfl : k = m.length := by omega
      rw [List.take_of_length_le (Nat.le_refl _)] at hsl hown
      have HSL := Lib.hid hsl
      have HB := Lib.hid hB
      obtain ⟨oq, kq, rfl⟩ := own_shape hown
      clear hown hB hsl
      go_wp2
      go_ret
      exact ⟨_, rfl, HSL.out, HB.out⟩
end Go.Proofs.YtfcfehflocglpaaDoor
