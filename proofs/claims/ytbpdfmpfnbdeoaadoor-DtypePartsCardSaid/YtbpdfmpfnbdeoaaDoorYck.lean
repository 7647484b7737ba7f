/- dtype.check, Check. -/
import Derived.Test.YtbpdfmpfnbdeoaaDoorYtp
import Derived.Test.YtbpdfmpfnbdeoaaDoorYans
namespace Go.Proofs.YtbpdfmpfnbdeoaaDoor
open Go.RowKit

/-- How check answers: an error's value, and its number. -/
inductive ErrN (b c d a : Addr) : Value → Int → Prop
  | ok : ErrN b c d a .nilIface 0
  | tw : ErrN b c d a (errV b) 50
  | no : ErrN b c d a (errV c) 51
  | ar : ErrN b c d a (errV d) 52
  | ty : ErrN b c d a (errV a) 53
theorem errN_c {e a b c d : Addr} {v : Value} {k : Int} {w : World} (h : ErrN b c d a v k) (E : EnvY e a b c d w) : Calls Tryd.prog 43 #[v] w fun e w' => e = .returned (.int .i64 k) ∧ w = w' := by
  cases h with
  | ok => exact num_nil _ a b c d w E.y E.df
  | tw => exact num_tw _ a b c d w E.y E.df
  | no => exact num_no _ a b c d w E.y E.df
  | ar => exact num_ar _ a b c d w E.y E.df
  | ty => exact num_ty _ a b c d w E.y E.df
/-- The types of a right rule, or what is wrong with it. -/
theorem typesOf_err {ds : List De} {r : Ru} {V : List (List UInt8)} {n0 : Nat} {w w' : World} {a b c d : Addr} {e : Ending} (hr : rightP ⟨ds, [r]⟩ = true) (h : TypR V n0 w a c d ds r e w') :
    ∃ m v k l, e = .returned (.tuple #[m, v]) ∧ ErrN b c d a v k ∧ TyA ds r l k ∧ Below n0 w w' := by
  have base := base_ne (r := r) (right_types hr)
  have TA := types_all (p := prsL r.body) base
  cases h with
  | atom h1 h2 =>
    refine ⟨_, _, atE (chkA ds (atomsR r)), [], rfl, ?_, .atom hr h1, h2⟩
    cases h : chkA ds (atomsR r) with
    | zero => exact absurd h h1
    | succ m => cases m with
      | zero => exact .no
      | succ m => exact .ar
  | place h1 h2 h3 => exact ⟨_, _, 53, [], rfl, .ty, .none hr h1 (fun hf => TA.1 h2 hf.1), h3⟩
  | other h1 h2 h3 h4 => exact ⟨_, _, 53, [], rfl, .ty, .none hr h1 (fun hf => (TA.2 _ _ h2 h3).1 rfl hf.1), h4⟩
  | left h1 h2 h3 h4 h5 =>
    refine ⟨_, _, 53, [], rfl, .ty, .none hr h1 (fun hf => ?_), h5⟩
    obtain ⟨t, t1, t2, t3⟩ := h4
    obtain ⟨k, k1, k2⟩ := hf.2 t t1 t2
    have := (((TA.2 _ _ h2 h3).2 _ rfl).2.1 (nm t) k k1).2 k2
    rw [t3] at this
    exact k1 this.symm
  | @good _ K K' B h1 h2 h3 h4 h5 h6 h7 =>
    obtain ⟨n1, n2, n3'⟩ := (TA.2 _ _ h2 h3).2 _ rfl
    exact ⟨_, _, 0, _, rfl, .ok, .some (K := K') hr h1 ⟨n1, fun t ht hv => ⟨look K' (nm t), h4 t ht hv, (n2 _ _ (h4 t ht hv)).1 rfl⟩⟩ n2 (look_ty h6.ty), h7⟩
/-- A right program whose rules' terms are few and short. -/
def FewP (p : Pg) : Prop := ∀ r ∈ p.rules, (termsR r).length ≤ 1000000 ∧ ∀ t ∈ termsR r, t.s.size ≤ 1000000
theorem findV_some (i : Nat) : findV (some i) = .tuple #[.int .i64 i, .bool true] := rfl

set_option maxRecDepth 100000 in
set_option maxHeartbeats 8000000 in
theorem check1_c (p : Pg) (cs : List Value) (e a b c d : Addr) (w : World) (hp : PgC w w.heap.size p cs) (hr : rightP p = true) (hf : FewP p) (E : EnvY e a b c d w) :
    Calls Tryd.prog 51 #[.agg cs.toArray] w fun e w' => ∃ ln v k, e = .returned (.tuple #[.int .i64 ln, v]) ∧ ErrN b c d a v k ∧ ChA p ln k ∧ Below w.heap.size w w' := by
  obtain ⟨p1, q1, r1, s1, rfl, H1, H2⟩ := hp.look
  obtain ⟨o1, k1, e1, hc1, hm1, S1⟩ := SlOf.open H1
  cases e1
  obtain ⟨o2, k2, e2, hc2, hm2, S2⟩ := SlOf.open H2
  cases e2
  have hb0 : ∀ C : Obj, Below w.heap.size w (w.alloc C) := fun C => (Below.refl _ _).alloc (Nat.le_refl _) _
  have HB0 := Lib.hid hb0
  have HD := Lib.hid H1
  have HE := Lib.hid E
  have HR := Lib.hid hr
  have HF := Lib.hid hf
  clear H1 H2 hp E hb0 hf
  go_enter Tryd.func51, Tryd.ntmps51
  go_wp2_with fail
  go_loopw [15] (fun i wr => ∃ k : Nat, k ≤ p.decls.length ∧ i = .int .i64 k ∧ NoTw p.decls k ∧ Below (w.heap.size + 1) (w.alloc (.cells #[.slice p1 p.decls.length q1, .slice r1 p.rules.length s1] 51)) wr) (fun i _ => p.decls.length - (intOf i).toNat)
  case atStart => exact ⟨0, Nat.zero_le _, rfl, fun i d h => absurd h (Nat.not_lt_zero _), Below.refl _ _⟩
  case round =>
    obtain ⟨k, hk, rfl, hn, hB2⟩ := hrel
    have hB : Below w.heap.size w wr := (HB0.out _).trans (hB2.mono (by omega))
    have hBs := hB2.size
    simp only [World.size_alloc] at hBs
    have hz0 : w.heap.size < wr.heap.size := by omega
    have Hn := Lib.hid hn
    have HB2 := Lib.hid hB2
    have HB := Lib.hid hB
    have x0 : wr.cell? ⟨w.heap.size, 0, none⟩ = some (.slice p1 p.decls.length q1) := (hB2.cell (p := ⟨w.heap.size, 0, none⟩) (by show w.heap.size < _; omega)).trans (by go_simp)
    have x1 : wr.cell? ⟨w.heap.size, 1, none⟩ = some (.slice r1 p.rules.length s1) := (hB2.cell (p := ⟨w.heap.size, 1, none⟩) (by show w.heap.size < _; omega)).trans (by go_simp)
    by_cases hlt : k < p.decls.length
    · have hlt' : (k : Int) < (p.decls.length : Int) := by omega
      obtain ⟨xe, ht⟩ : ∃ xe, p.decls[k]? = some xe := ⟨p.decls[k], List.getElem?_eq_getElem hlt⟩
      obtain ⟨j, hj, hjk⟩ := find_le ht
      obtain ⟨ad, a3, b3, a4, b4, rfl, ha, Hc, c0, c1, c2, c3, c4, c5⟩ := de_at S1 hB ht
      have hal : (ad.add (k * 6)).block < wr.heap.size := by rw [addBlock]; omega
      have Ht := Lib.hid ht
      have Hj := Lib.hid hj
      have HF := Lib.hid (fun (W : World) (hb : Below wr.heap.size wr W) => find_c xe.rel W.heap.size p.decls _ W (SlOf.decl HD.out (hB.trans (hb.mono hB.size)) (by have := hb.size; omega)) (Nat.le_refl _))
      clear ht hj hn hB2 hB
      rw [Hj.out] at HF
      go_wp2_with fail
      refine (HF.out _ ((Below.refl _ _).alloc (Nat.le_refl _) _)).mono ?_
      rintro e3 w3 ⟨rfl, b3'⟩
      have y5 : w3.cell? ⟨wr.heap.size, 5, none⟩ = some (.int .i64 xe.line) := (b3'.cell (p := ⟨wr.heap.size, 5, none⟩) (by simp)).trans (by go_simp)
      have hy : wr.heap.size < w3.heap.size := by have := b3'.size; simp at this; omega
      have b3 : Below wr.heap.size wr w3 := ((Below.refl _ _).alloc (Nat.le_refl _) _).trans (b3'.mono (by simp))
      have B3 := Lib.hid (HB2.out.trans (b3.mono (by omega)))
      have hT := ((HE.out.below HB.out).below b3).y.tw
      unfold errV at hT
      rw [findV_some]
      clear c0 c1 c2 c3 c4 c5 x0 x1 b3'
      by_cases hjlt : j < k
      · have hjlt' : (j : Int) < (k : Int) := by omega
        have Hf : Hid (findY xe.rel p.decls ≠ some k) := Lib.hid (by rw [Hj.out]; intro h; have := Option.some.inj h; omega)
        go_wp2_with fail
        go_quiet (fail)
        go_wp2
        go_ret2
        first | exact ⟨_, _, _, rfl, .tw, .twice HR.out Ht.out Hf.out Hn.out, below_drewN ((HB0.out _).trans (B3.out.mono (by omega)))⟩ | exact ⟨_, _, rfl, _, .tw, .twice HR.out Ht.out Hf.out Hn.out, below_drewN ((HB0.out _).trans (B3.out.mono (by omega)))⟩
      · have hjlt' : ¬ (j : Int) < (k : Int) := by omega
        have Hn2 : Hid (NoTw p.decls (k + 1)) := Lib.hid fun i d hi hd => by
          rcases Nat.lt_or_ge i k with h | h
          · exact Hn.out i d h hd
          · obtain rfl : i = k := by omega
            rw [Ht.out] at hd
            cases hd
            rw [Hj.out]
            congr 1
            omega
        go_wp2
        go_roundw
        case rel => exact ⟨k + 1, hlt, by go_num, Hn2.out, B3.out⟩
        case measure => simp [intOf]; omega
    · have hlt' : ¬ (k : Int) < (p.decls.length : Int) := by omega
      obtain rfl : k = p.decls.length := by omega
      clear hn hB2 hB
      go_wp2_with fail
      go_loopw [38] (fun i wv => ∃ k : Nat, k ≤ p.rules.length ∧ i = .int .i64 k ∧ (∀ (j : Nat) (r' : Ru), j < k → p.rules[j]? = some r' → ∃ l, TyA p.decls r' l 0) ∧ Below (w.heap.size + 1) (w.alloc (.cells #[.slice p1 p.decls.length q1, .slice r1 p.rules.length s1] 51)) wv) (fun i _ => p.rules.length - (intOf i).toNat)
      case atStart => exact ⟨0, Nat.zero_le _, rfl, fun j r' h => absurd h (Nat.not_lt_zero _), HB2.out⟩
      case round =>
        obtain ⟨k, hk2, rfl, hg, hC2⟩ := hrel
        have hC : Below w.heap.size w wr := (HB0.out _).trans (hC2.mono (by omega))
        have hCs := hC2.size
        simp only [World.size_alloc] at hCs
        have hy0 : w.heap.size < wr.heap.size := by omega
        have Hg := Lib.hid hg
        have HC2 := Lib.hid hC2
        have HC := Lib.hid hC
        have x0 : wr.cell? ⟨w.heap.size, 0, none⟩ = some (.slice p1 p.decls.length q1) := (hC2.cell (p := ⟨w.heap.size, 0, none⟩) (by show w.heap.size < _; omega)).trans (by go_simp)
        by_cases hlt2 : k < p.rules.length
        · have hlt2' : (k : Int) < (p.rules.length : Int) := by omega
          obtain ⟨xe, ht⟩ : ∃ xe, p.rules[k]? = some xe := ⟨p.rules[k], List.getElem?_eq_getElem hlt2⟩
          obtain ⟨ad, a3, b3, a4, b4, rfl, ha, Hc, c0, c1, c2, c3⟩ := ru_at S2 hC ht
          have hal : (ad.add (k * 4)).block < wr.heap.size := by rw [addBlock]; omega
          have Ht := Lib.hid ht
          have Hm := Lib.hid (List.mem_of_getElem? ht)
          have HRx := Lib.hid (rightP_one HR.out Hm.out)
          have HFx := Lib.hid (HF.out xe Hm.out)
          have HT := Lib.hid (fun (W : World) (hb : Below wr.heap.size wr W) => typesOf_all p.decls _ xe _ a b c d W.heap.size W rfl (SlOf.decl HD.out (HC.out.trans (hb.mono HC.out.size)) (by have := hb.size; have := HC.out.size; omega)) ((Hc.out.below hb).more hb.size) HFx.out.1 (fun t ht => max_le (HFx.out.2 t ht)) (right_types HRx.out) ((HE.out.below HC.out).below hb).y)
          clear ht hg hC2 hC
          go_wp2_with fail
          refine (HT.out _ ((Below.refl _ _).alloc (Nat.le_refl _) _)).mono ?_
          intro e3 w3 hTR
          have hq := typesOf_err (b := b) HRx.out hTR
          clear hTR
          obtain ⟨m, v, n, l, rfl, hE, hA, b3'⟩ := hq
          have y3 : w3.cell? ⟨wr.heap.size, 3, none⟩ = some (.int .i64 xe.line) := (b3'.cell (p := ⟨wr.heap.size, 3, none⟩) (by simp)).trans (by go_simp)
          have hy : wr.heap.size < w3.heap.size := by have := b3'.size; simp at this; omega
          have b3 : Below wr.heap.size wr w3 := ((Below.refl _ _).alloc (Nat.le_refl _) _).trans (b3'.mono (by simp))
          have B3 := Lib.hid (HC2.out.trans (b3.mono (by omega)))
          have HA := Lib.hid hA
          have HEv := Lib.hid hE
          clear c0 c1 c2 c3 x0 b3' hA
          cases hE with
          | ok =>
            have Hg2 : Hid (∀ (j : Nat) (r' : Ru), j < k + 1 → p.rules[j]? = some r' → ∃ l, TyA p.decls r' l 0) := Lib.hid fun j r' hj hr' => by
              rcases Nat.lt_or_ge j k with h | h
              · exact Hg.out j r' h hr'
              · obtain rfl : j = k := by omega
                rw [Ht.out] at hr'
                cases hr'
                exact ⟨l, HA.out⟩
            go_wp2
            go_roundw
            case rel => exact ⟨k + 1, hlt2, by go_num, Hg2.out, B3.out⟩
            case measure => simp [intOf]; omega
          | tw =>
            unfold errV
            go_wp2
            go_ret2
            first | exact ⟨_, _, _, rfl, HEv.out, .rule HR.out Hn.out Ht.out Hg.out HA.out (by decide), (HB0.out _).trans (B3.out.mono (by omega))⟩ | exact ⟨_, _, rfl, _, HEv.out, .rule HR.out Hn.out Ht.out Hg.out HA.out (by decide), (HB0.out _).trans (B3.out.mono (by omega))⟩
          | no =>
            unfold errV
            go_wp2
            go_ret2
            first | exact ⟨_, _, _, rfl, HEv.out, .rule HR.out Hn.out Ht.out Hg.out HA.out (by decide), (HB0.out _).trans (B3.out.mono (by omega))⟩ | exact ⟨_, _, rfl, _, HEv.out, .rule HR.out Hn.out Ht.out Hg.out HA.out (by decide), (HB0.out _).trans (B3.out.mono (by omega))⟩
          | ar =>
            unfold errV
            go_wp2
            go_ret2
            first | exact ⟨_, _, _, rfl, HEv.out, .rule HR.out Hn.out Ht.out Hg.out HA.out (by decide), (HB0.out _).trans (B3.out.mono (by omega))⟩ | exact ⟨_, _, rfl, _, HEv.out, .rule HR.out Hn.out Ht.out Hg.out HA.out (by decide), (HB0.out _).trans (B3.out.mono (by omega))⟩
          | ty =>
            unfold errV
            go_wp2
            go_ret2
            first | exact ⟨_, _, _, rfl, HEv.out, .rule HR.out Hn.out Ht.out Hg.out HA.out (by decide), (HB0.out _).trans (B3.out.mono (by omega))⟩ | exact ⟨_, _, rfl, _, HEv.out, .rule HR.out Hn.out Ht.out Hg.out HA.out (by decide), (HB0.out _).trans (B3.out.mono (by omega))⟩
        · have hlt2' : ¬ (k : Int) < (p.rules.length : Int) := by omega
          have Hall : Hid (∀ r ∈ p.rules, ∃ l, TyA p.decls r l 0) := Lib.hid fun r hr => by
            obtain ⟨j, hj, e⟩ := List.getElem_of_mem hr
            exact Hg.out j r (by omega) (by rw [List.getElem?_eq_getElem hj, e])
          clear hg hC2 hC
          go_wp2
          go_ret2
          first | exact ⟨_, _, _, rfl, .ok, .ok HR.out Hn.out Hall.out, HC.out⟩ | exact ⟨_, _, rfl, _, .ok, .ok HR.out Hn.out Hall.out, HC.out⟩
set_option maxRecDepth 100000 in
set_option maxHeartbeats 8000000 in
/-- dtype.Check. -/
theorem check_c (p : Pg) (cs : List Value) (e a b c d : Addr) (w : World) (hp : PgC w w.heap.size p cs) (hf : FewP p) (E : EnvY e a b c d w) :
    Calls Tryd.prog 23 #[.agg cs.toArray] w fun e w' => ∃ ln k, e = .returned (.tuple #[.int .i64 ln, .int .i64 k]) ∧ ChA p ln k ∧ Below w.heap.size w w' := by
  have HP := Lib.hid hp
  obtain ⟨p1, q1, r1, s1, rfl, H1, H2⟩ := hp.look
  have hb0 : ∀ C : Obj, Below w.heap.size w (w.alloc C) := fun C => (Below.refl _ _).alloc (Nat.le_refl _) _
  have HB0 := Lib.hid hb0
  have HR := Lib.hid (fun C : Obj => right_c p e (w.alloc C) _ ((hp.below (hb0 C)).more (hb0 C).size) (E.below (hb0 C)).tr)
  have HE := Lib.hid E
  have HF := Lib.hid hf
  clear H1 H2 hp E hb0 hf
  go_enter Tryd.func23, Tryd.ntmps23
  go_wp2_with fail
  refine (HR.out _).mono ?_
  rintro e3 w3 ⟨rfl, b3⟩
  have hz : w.heap.size < w3.heap.size := by have := b3.size; simp at this; omega
  have x0 : w3.cell? ⟨w.heap.size, 0, none⟩ = some (.slice p1 p.decls.length q1) := (b3.cell (p := ⟨w.heap.size, 0, none⟩) (by simp)).trans (by go_simp)
  have x1 : w3.cell? ⟨w.heap.size, 1, none⟩ = some (.slice r1 p.rules.length s1) := (b3.cell (p := ⟨w.heap.size, 1, none⟩) (by simp)).trans (by go_simp)
  have B3 := Lib.hid ((HB0.out _).trans (b3.mono (by simp)))
  clear b3
  cases hr : rightP p with
  | false =>
    have Hr := Lib.hid hr
    clear hr
    go_wp2
    go_ret2
    exact ⟨_, _, rfl, .tree Hr.out, B3.out⟩
  | true =>
    have HC := Lib.hid (check1_c p _ e a b c d w3 ((HP.out.below B3.out).more B3.out.size) hr HF.out (HE.out.below B3.out))
    clear hr
    go_wp2_with fail
    refine HC.out.mono ?_
    rintro e4 w4 ⟨ln, v, k, rfl, hE, hA, b4⟩
    have B4 := Lib.hid (B3.out.trans (b4.mono B3.out.size))
    have HN := Lib.hid (errN_c hE (HE.out.below B4.out))
    have HA := Lib.hid hA
    clear hE hA x0 x1 b4
    go_wp2_with fail
    refine HN.out.mono ?_
    rintro e5 w5 ⟨rfl, rfl⟩
    go_wp2
    go_ret2
    exact ⟨_, _, rfl, HA.out, B4.out⟩
end Go.Proofs.YtbpdfmpfnbdeoaaDoor
