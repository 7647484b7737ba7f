/- soritesref05.fits, fitsAtom. soritesref05.fitsLit, fitsRule. What the reference of dtype learns in a round, of a right rule. -/
import Derived.Test.YtbpdfmpfnbdeoaaGreatDoorKYrt
import Derived.Laws.OwnMore
namespace Go.Proofs.YtbpdfmpfnbdeoaaGreatDoor
open Go.RowKit

theorem fitsR_var {vs : List ByteArray} {ts : List Int} {t : Tm} {k : Int} (h : t.op = 1) : fitsR vs ts t k = (typedV vs ts t.s == k) := by
  obtain ⟨o, s, n, l⟩ := t
  have h : o = 1 := h
  subst h
  unfold fitsR
  rw [if_pos rfl]
  rfl
theorem fitsR_int {vs : List ByteArray} {ts : List Int} {t : Tm} {k : Int} (h : t.op = 2) : fitsR vs ts t k = (k == 1) := by
  obtain ⟨o, s, n, l⟩ := t
  have h : o = 2 := h
  subst h
  unfold fitsR
  rw [if_neg (by decide), if_pos rfl]
theorem fitsR_sym {vs : List ByteArray} {ts : List Int} {t : Tm} {k : Int} (h : t.op = 3) : fitsR vs ts t k = (k == 2) := by
  obtain ⟨o, s, n, l⟩ := t
  have h : o = 3 := h
  subst h
  unfold fitsR
  rw [if_neg (by decide), if_neg (by decide), if_pos rfl]
theorem fitsR_any {vs : List ByteArray} {ts : List Int} {t : Tm} {k : Int} (h : t.op = 4) : fitsR vs ts t k = true := by
  obtain ⟨o, s, n, l⟩ := t
  have h : o = 4 := h
  subst h
  unfold fitsR
  rw [if_neg (by decide), if_neg (by decide), if_neg (by decide), if_pos rfl]
theorem fitsR_two {vs : List ByteArray} {ts : List Int} {t a b : Tm} {k : Int} (h : t.op = 5 ∨ t.op = 6 ∨ t.op = 7) (hl : t.l = [a, b]) : fitsR vs ts t k = (k == 1 && (fitsR vs ts a 1 && fitsR vs ts b 1)) := by
  obtain ⟨o, s, n, l⟩ := t
  have h : o = 5 ∨ o = 6 ∨ o = 7 := h
  have hl : l = [a, b] := hl
  subst hl
  conv => lhs; unfold fitsR
  rw [if_neg (by omega), if_neg (by omega), if_neg (by omega), if_neg (by omega), fitsRs, fitsRs, fitsRs, Bool.and_true]
set_option maxRecDepth 100000 in
set_option maxHeartbeats 8000000 in
theorem rfits_c (vs : List ByteArray) (vv : Value) (ts : List Int) (B g : Nat) : ∀ (h : Nat) (t : Tm) (k : Int) (w : World) (cs : List Value), rightT h t = true → TmC w B t cs → TyS B g w vs vv ts → (∀ u ∈ subT t, u.op = 1 → u.s ∈ vs ∧ u.l = []) →
    Calls Tryz.prog 134 #[.agg cs.toArray, .int .i64 k, vv, .slice (some ⟨g, 0, none⟩) ts.length ts.length] w fun e w' => e = .returned (.bool (fitsR vs ts t k)) ∧ Below w.heap.size w w' := by
  intro h
  induction h with
  | zero => intro t k w cs hr; unfold rightT at hr; cases hr
  | succ h ih =>
    intro t k w cs hr hc hT hv
    have hcase := rightT_cases hr
    have IH := Lib.hid (fun (x : Tm) (hx : x ∈ t.l) (hr : rightT h x = true) (W : World) (hb : Below w.heap.size w W) (cs : List Value) (hc : TmC W B x cs) => ih x 1 W cs hr hc (hT.kept hb) (fun u hu => hv u (subT_part hx u hu)))
    have HV1 : Hid (t.op = 1 → ∃ (i : Nat) (v : Int), placeV vs t.s = i ∧ ts[i]? = some v ∧ fitsR vs ts t k = (v == k)) := Lib.hid fun h => by
      obtain ⟨i, v, h1, _, h3, h4⟩ := typed_get hT.len (hv t mem_self h).1
      exact ⟨i, v, h1, h3, by rw [fitsR_var h, h4]⟩
    have HV2 : Hid (t.op = 2 → fitsR vs ts t k = (k == 1)) := Lib.hid fitsR_int
    have HV3 : Hid (t.op = 3 → fitsR vs ts t k = (k == 2)) := Lib.hid fitsR_sym
    have HV4 : Hid (t.op = 4 → fitsR vs ts t k = true) := Lib.hid fitsR_any
    have HV5 : Hid (∀ a b, t.op = 5 ∨ t.op = 6 ∨ t.op = 7 → t.l = [a, b] → fitsR vs ts t k = (k == 1 && (fitsR vs ts a 1 && fitsR vs ts b 1))) := Lib.hid fun a b => fitsR_two
    have HT := Lib.hid hT
    have hbase := hT.base
    have hrow := hT.row
    clear ih hr hv hT
    obtain ⟨op, s, nn, l⟩ := t
    obtain ⟨p1, q1, rfl, _, _, _, t1⟩ := hc.look
    simp only [Tm.op_mk, Tm.s_mk, Tm.n_mk, Tm.l_mk] at t1 HV1 HV2 HV3 HV4 HV5 IH hcase ⊢
    have HB0 : Hid (∀ (x : Obj), Below w.heap.size w (w.alloc x)) := Lib.hid fun x => (Below.refl _ _).alloc (Nat.le_refl _) _
    obtain ⟨X, hX⟩ : ∃ X, fitsR vs ts (.mk op s nn l) k = X := ⟨_, rfl⟩
    rw [hX] at HV1 HV2 HV3 HV4 HV5 ⊢
    clear hc hX
    obtain ⟨ov, kv, rfl, _⟩ := SlOf.uni HT.out.vars
    rcases hcase with ⟨h2, a, b, hl, ha, hb⟩ | ⟨h2, hl, h1 | h1 | h1 | h1⟩
    · have h2 := twoB_op h2
      have hz := HV5.out a b h2 hl
      subst hl
      obtain ⟨o1, cap1, e1, hc1, hm1, S1⟩ := SlOf.open t1
      cases e1
      have hb1 : (op == 1) = false := by simp; omega
      have hb2 : (op == 2) = false := by simp; omega
      have hb3 : (op == 3) = false := by simp; omega
      have hb4 : (op == 4) = false := by simp; omega
      have HA := Lib.hid (IH.out a (by simp) ha)
      have HBB := Lib.hid (IH.out b (by simp) hb)
      clear HV1 HV2 HV3 HV4 HV5 IH ha hb h2
      cases hk : (k == 1) with
      | false =>
        have HZ : Hid (X = false) := Lib.hid (by rw [hz, hk]; rfl)
        clear hz
        go_enter Tryz.func134, Tryz.ntmps134
        go_wp2
        go_ret
        exact ⟨by rw [HZ.out]; rfl, HB0.out _⟩
      | true =>
        obtain ⟨xa, hxa⟩ : ∃ xa, fitsR vs ts a 1 = xa := ⟨_, rfl⟩
        obtain ⟨xb, hxb⟩ : ∃ xb, fitsR vs ts b 1 = xb := ⟨_, rfl⟩
        rw [hxa] at HA
        rw [hxb] at HBB
        have HZ : Hid (X = (xa && xb)) := Lib.hid (by rw [hz, hk, hxa, hxb]; rfl)
        clear hz hxa hxb
        obtain ⟨a1, p3, q3, rfl, ha1, Hca, c0, c1, c2, c3⟩ := tm_in S1 (Below.refl _ _) (show [a, b][0]? = some a from rfl)
        obtain ⟨a', p4, q4, e2, ha', Hcb, d0, d1, d2, d3⟩ := tm_in S1 (Below.refl _ _) (show [a, b][1]? = some b from rfl)
        cases e2
        have hal : (a1.add (0 * 4)).block < w.heap.size := by rw [addBlock]; omega
        have hal' : (a1.add (1 * 4)).block < w.heap.size := by rw [addBlock]; omega
        simp only [Nat.zero_mul, Nat.one_mul] at c0 c1 c2 c3 d0 d1 d2 d3 hal hal'
        have ea : a1.add 0 = a1 := by unfold Addr.add; simp
        rw [ea] at c0 c1 c2 c3 hal
        have e4 : a1.add 4 = ⟨a1.block, a1.off + 4, none⟩ := by unfold Addr.add; simp
        simp only [e4] at d0 d1 d2 d3 hal'
        clear ea e4
        have HX := Lib.hid (fun (W : World) (hb : Below w.heap.size w W) => HA.out W hb _ (Hca.out.under (hb.mono hbase)))
        have HY := Lib.hid (fun (W : World) (hb : Below w.heap.size w W) => HBB.out W hb _ (Hcb.out.under (hb.mono hbase)))
        clear HA HBB t1 S1 Hca Hcb ha1 ha'
        go_enter Tryz.func134, Tryz.ntmps134
        go_wp2_with fail
        refine (HX.out _ (HB0.out _)).mono ?_
        rintro e w1 ⟨rfl, b1⟩
        have B1 := Lib.hid ((HB0.out _).trans (b1.mono (by simp)))
        have x3 : w1.cell? ⟨w.heap.size, 3, none⟩ = some (.slice (some a1) 2 q1) := (b1.cell (p := ⟨w.heap.size, 3, none⟩) (by simp)).trans (by go_simp)
        have hz1 : w.heap.size < w1.heap.size := by have := b1.size; simp at this; omega
        cases xa with
        | false =>
          clear b1
          go_wp2
          go_ret
          exact ⟨by rw [HZ.out]; rfl, B1.out⟩
        | true =>
          have K := fun (p : Addr) (hp : p.block < w.heap.size) => B1.out.cell (p := p) hp
          have f0 := (K ⟨a1.block, a1.off + 4, none⟩ hal').trans d0
          have f1 := (K ⟨a1.block, a1.off + 4 + 1, none⟩ hal').trans d1
          have f2 := (K ⟨a1.block, a1.off + 4 + 2, none⟩ hal').trans d2
          have f3 := (K ⟨a1.block, a1.off + 4 + 3, none⟩ hal').trans d3
          clear K b1 c0 c1 c2 c3 d0 d1 d2 d3
          go_wp2_with fail
          refine (HY.out _ B1.out).mono ?_
          rintro e w2 ⟨rfl, b2⟩
          have B2 := Lib.hid (B1.out.trans (b2.mono B1.out.size))
          clear b2 f0 f1 f2 f3
          go_wp2
          go_ret
          exact ⟨by rw [HZ.out]; rfl, B2.out⟩
    · obtain ⟨i, v, hp, hi, hX⟩ := HV1.out h1
      subst hX
      have HP : Hid (∀ (W : World), Below w.heap.size w W → Calls Tryz.prog 83 #[.slice ov vs.length kv, .string s] W fun e w' => e = .returned (.int .i64 i) ∧ Below W.heap.size W w') := Lib.hid fun W hb => by
        have := place1_c vs _ s W (HT.out.kept hb).vars'
        rw [hp] at this
        exact this
      have HC := Lib.hid (fun (W : World) (hb : Below w.heap.size w W) => (HT.out.kept hb).cell hi)
      have hlt : i < ts.length := (List.getElem?_eq_some_iff.1 hi).1
      have hlt' : (i : Int) < (ts.length : Int) := by omega
      have h0 : (0 : Int) ≤ (i : Int) := by omega
      clear HV1 HV2 HV3 HV4 HV5 IH hp hi
      subst h1
      go_enter Tryz.func134, Tryz.ntmps134
      go_wp2_with fail
      refine (HP.out _ (HB0.out _)).mono ?_
      rintro e w1 ⟨rfl, b1⟩
      have B1 := Lib.hid ((HB0.out _).trans (b1.mono (by simp)))
      have c0 := HC.out _ B1.out
      clear b1
      go_wp2
      go_ret
      exact ⟨rfl, B1.out⟩
    · have HZ := Lib.hid (HV2.out h1)
      clear HV1 HV2 HV3 HV4 HV5 IH
      subst h1
      go_enter Tryz.func134, Tryz.ntmps134
      go_wp2
      go_ret
      exact ⟨by rw [HZ.out]; rfl, HB0.out _⟩
    · have HZ := Lib.hid (HV3.out h1)
      clear HV1 HV2 HV3 HV4 HV5 IH
      subst h1
      go_enter Tryz.func134, Tryz.ntmps134
      go_wp2
      go_ret
      exact ⟨by rw [HZ.out]; rfl, HB0.out _⟩
    · have HZ := Lib.hid (HV4.out h1)
      clear HV1 HV2 HV3 HV4 HV5 IH
      subst h1
      go_enter Tryz.func134, Tryz.ntmps134
      go_wp2
      go_ret
      exact ⟨by rw [HZ.out]; rfl, HB0.out _⟩
/-- Do an atom's arguments fit? -/
def fitsAB (ds : List De) (vs : List ByteArray) (ts : List Int) (a : Am) : Bool := (plc ds a).all fun x => fitsR vs ts x.1 x.2
set_option maxRecDepth 100000 in
set_option maxHeartbeats 8000000 in
theorem rfitsAtom_c (vs : List ByteArray) (vv : Value) (B g : Nat) (ds : List De) (v : Value) (t : Am) (ts : List Int) (w : World) (cs : List Value) (hd : SlOf w B 6 (DeC w B) ds v) (hc : AmC w B t cs) (hT : TyS B g w vs vv ts) (hbd : badA ds t = 0)
    (hr : ∀ x ∈ t.l, rightT 20 x = true) (hv : ∀ u ∈ subTs t.l, u.op = 1 → u.s ∈ vs ∧ u.l = []) :
    Calls Tryz.prog 101 #[v, .agg cs.toArray, vv, .slice (some ⟨g, 0, none⟩) ts.length ts.length] w fun e w' => e = .returned (.bool (fitsAB ds vs ts t)) ∧ Below w.heap.size w w' := by
  obtain ⟨i, d, hf, hi, hlen, hplc⟩ := bad_zero hbd
  have HFA : Hid (fitsAB ds vs ts t = (t.l.zip d.types).all fun x => fitsR vs ts x.1 x.2) := Lib.hid (by unfold fitsAB; rw [hplc])
  have HF := Lib.hid (fun (W : World) (hb : Below w.heap.size w W) => find5_c t.rel ds v W (SlOf.decl hd (hb.mono hT.base) (Nat.le_trans hT.base hb.size)))
  rw [hf] at HF
  unfold findV at HF
  have HL := Lib.hid (fun (x : Tm) (hx : x ∈ t.l) (k : Int) (W : World) (cs : List Value) (hb : Below w.heap.size w W) (hc : TmC W B x cs) => rfits_c vs vv ts B g 20 x k W cs (hr x hx) hc (hT.kept hb) (fun u hu => hv u (mem_subTs.2 ⟨x, hx, hu⟩)))
  obtain ⟨rel, l⟩ := t
  obtain ⟨v0, rfl, hzr, t1⟩ := hc
  simp only at HF HL HFA t1 hlen ⊢
  obtain ⟨X, hX⟩ : ∃ X, fitsAB ds vs ts ⟨rel, l⟩ = X := ⟨_, rfl⟩
  rw [hX] at HFA ⊢
  have HB0 : Hid (∀ (x : Obj), Below w.heap.size w (w.alloc x)) := Lib.hid fun x => (Below.refl _ _).alloc (Nat.le_refl _) _
  obtain ⟨p1, q1, rfl, hc1, hm1, S1⟩ := SlOf.open t1
  obtain ⟨od, kd, rfl, hc2, hm2, S2⟩ := SlOf.open hd
  have HT := Lib.hid hT
  have hrow := hT.row
  have hbase := hT.base
  have Hi := Lib.hid hi
  have Hlen := Lib.hid hlen
  have hil : i < ds.length := (List.getElem?_eq_some_iff.1 hi).1
  have hil' : (i : Int) < (ds.length : Int) := by omega
  have hi0 : (0 : Int) ≤ (i : Int) := by omega
  obtain ⟨ov, kv, rfl, _⟩ := SlOf.uni HT.out.vars
  clear t1 hd hT hv hr hbd hplc hf hi hlen hX
  go_enter Tryz.func101, Tryz.ntmps101
  go_wp2_with fail
  refine (HF.out _ (HB0.out _)).mono ?_
  rintro e w1 ⟨rfl, b1⟩
  have q1' : w1.heap[w.heap.size]? = some (.cells #[.string rel, .slice p1 l.length q1] 34 (0, 0)) := (b1.block _ (by simp)).trans (World.alloc_heap_new w _)
  have B1 := Lib.hid ((HB0.out _).trans (b1.mono (by simp)))
  have Q1 := Lib.hid q1'
  have hz1 : w.heap.size < w1.heap.size := heap_lt q1'
  clear b1 q1' HF
  go_wp2
  go_loopw [11] (fun iv wr => ∃ (j : Nat), j ≤ l.length ∧ iv = .int .i64 j ∧ X = ((l.zip d.types).drop j).all (fun x => fitsR vs ts x.1 x.2) ∧ Below w1.heap.size w1 wr) (fun iv _ => l.length - (intOf iv).toNat)
  case atStart => exact ⟨0, Nat.zero_le _, rfl, HFA.out, Below.refl _ _⟩
  case round =>
    obtain ⟨j, hj, rfl, hL, hK⟩ := hrel
    have hBw : Below w.heap.size w wr := B1.out.trans (hK.mono B1.out.size)
    have hB : Below B w wr := hBw.mono hbase
    have hKs := hK.size
    have qr := (hK.block w.heap.size hz1).trans Q1.out
    have hz0 : w.heap.size < wr.heap.size := heap_lt qr
    have x0 : wr.cell? ⟨w.heap.size, 1, none⟩ = some (.slice p1 l.length q1) := row_cells qr 1
    have HLr := Lib.hid hL
    have HK := Lib.hid hK
    have HBw := Lib.hid hBw
    clear hL hK qr hBw
    by_cases hlt : j < l.length
    · have hlt3 : (j : Int) < (l.length : Int) := by omega
      have hltd : j < d.types.length := by have := Hlen.out; omega
      have hltd3 : (j : Int) < (d.types.length : Int) := by omega
      have hj0 : (0 : Int) ≤ (j : Int) := by omega
      obtain ⟨t, ht⟩ : ∃ t, l[j]? = some t := ⟨l[j], List.getElem?_eq_getElem hlt⟩
      obtain ⟨k, hk⟩ : ∃ k, d.types[j]? = some k := ⟨d.types[j], List.getElem?_eq_getElem hltd⟩
      have hzip : (l.zip d.types)[j]? = some (t, k) := by rw [List.getElem?_zip_eq_some]; exact ⟨ht, hk⟩
      obtain ⟨a, p3, q3, rfl, ha, Hc, c0, c1, c2, c3⟩ := tm_in S1 hB ht
      have hal : (a.add (j * 4)).block < wr.heap.size := by rw [addBlock]; omega
      obtain ⟨b, p4, q4, p5, q5, rfl, hb, Hd, hcd⟩ := de_in S2 hB Hi.out
      have hbl : (b.add (i * 6)).block < wr.heap.size := by rw [addBlock]; omega
      have d2 := hcd.n6.2.2.1
      obtain ⟨v5, u5, e5, _, _, _, hty⟩ := Hd.out
      cases e5
      obtain ⟨o6, k6, e6, _, _, S6⟩ := SlOf.open hty
      cases e6
      obtain ⟨f, rfl, hf, _, f0⟩ := int_in S6 (Below.refl _ _) hk
      have hfl : (f.add j).block < wr.heap.size := by rw [addBlock]; omega
      have HC := Lib.hid (HL.out t (List.mem_of_getElem? ht) k)
      obtain ⟨xt, hxt⟩ : ∃ xt, fitsR vs ts t k = xt := ⟨_, rfl⟩
      rw [hxt] at HC
      have Hst : Hid (X = (xt && ((l.zip d.types).drop (j + 1)).all fun x => fitsR vs ts x.1 x.2)) := Lib.hid (by rw [HLr.out, all_drop' (f := fun x => fitsR vs ts x.1 x.2) hzip, hxt])
      have HcB := Lib.hid Hc.out
      have hS0 : wr.drew.cell? ⟨w.heap.size, 1, none⟩ = some (.slice (some a) l.length q1) ∧ wr.drew.cell? (a.add (j * 4)) = some (.int .i64 t.op) ∧ wr.drew.cell? ⟨(a.add (j * 4)).block, (a.add (j * 4)).off + 1, none⟩ = some (.string t.s) ∧ wr.drew.cell? ⟨(a.add (j * 4)).block, (a.add (j * 4)).off + 2, none⟩ = some (.int .i64 t.n) ∧ wr.drew.cell? ⟨(a.add (j * 4)).block, (a.add (j * 4)).off + 3, none⟩ = some (.slice p3 t.l.length q3) ∧ wr.drew.cell? ⟨(b.add (i * 6)).block, (b.add (i * 6)).off + 2, none⟩ = some (.slice (some f) d.types.length q5) ∧ wr.drew.cell? (f.add j) = some (.int .i64 k) := ⟨x0, c0, c1, c2, c3, d2, f0⟩
      have HKp : Hid (∀ W : World, Below wr.heap.size wr.drew W → W.cell? ⟨w.heap.size, 1, none⟩ = some (.slice (some a) l.length q1) ∧ W.cell? (a.add (j * 4)) = some (.int .i64 t.op) ∧ W.cell? ⟨(a.add (j * 4)).block, (a.add (j * 4)).off + 1, none⟩ = some (.string t.s) ∧ W.cell? ⟨(a.add (j * 4)).block, (a.add (j * 4)).off + 2, none⟩ = some (.int .i64 t.n) ∧ W.cell? ⟨(a.add (j * 4)).block, (a.add (j * 4)).off + 3, none⟩ = some (.slice p3 t.l.length q3) ∧ W.cell? ⟨(b.add (i * 6)).block, (b.add (i * 6)).off + 2, none⟩ = some (.slice (some f) d.types.length q5) ∧ W.cell? (f.add j) = some (.int .i64 k)) := Lib.hid fun W hW =>
        have q : ∀ p : Addr, p.block < wr.heap.size → W.cell? p = wr.drew.cell? p := fun p h1 => World.cell?_of_block (hW.block _ h1)
        ⟨(q _ hz0).trans x0, (q _ hal).trans c0, (q ⟨(a.add (j * 4)).block, (a.add (j * 4)).off + 1, none⟩ hal).trans c1, (q ⟨(a.add (j * 4)).block, (a.add (j * 4)).off + 2, none⟩ hal).trans c2, (q ⟨(a.add (j * 4)).block, (a.add (j * 4)).off + 3, none⟩ hal).trans c3, (q ⟨(b.add (i * 6)).block, (b.add (i * 6)).off + 2, none⟩ hbl).trans d2, (q _ hfl).trans f0⟩
      clear ht hk hzip hcd hty Hd S6 hxt
      go_wp2_with fail
      go_region_held3 (fun W => W.cell? ⟨w.heap.size, 1, none⟩ = some (.slice (some a) l.length q1) ∧ W.cell? (a.add (j * 4)) = some (.int .i64 t.op) ∧ W.cell? ⟨(a.add (j * 4)).block, (a.add (j * 4)).off + 1, none⟩ = some (.string t.s) ∧ W.cell? ⟨(a.add (j * 4)).block, (a.add (j * 4)).off + 2, none⟩ = some (.int .i64 t.n) ∧ W.cell? ⟨(a.add (j * 4)).block, (a.add (j * 4)).off + 3, none⟩ = some (.slice p3 t.l.length q3) ∧ W.cell? ⟨(b.add (i * 6)).block, (b.add (i * 6)).off + 2, none⟩ = some (.slice (some f) d.types.length q5) ∧ W.cell? (f.add j) = some (.int .i64 k)) (first | exact hk1 | exact hS0)
        ((go_at_call 134; refine (HC.out _ _ HBw.out.drew (HcB.out.under (Below.refl _ _).drew)).mono ?_; rintro e3 w3 ⟨rfl, hK3⟩; have hk1 := HKp.out _ hK3))
      have HK3 := Lib.hid (HK.out.trans ((drewB hK3).mono hKs))
      clear hK3 HC
      cases xt with
      | true =>
        go_wp2
        go_roundw
        case rel => exact ⟨j + 1, hlt, by go_num, by rw [Hst.out, Bool.true_and], HK3.out⟩
        case measure => simp [intOf]; omega
      | false =>
        go_wp2
        go_ret
        exact ⟨by rw [Hst.out, Bool.false_and]; rfl, B1.out.trans (HK3.out.mono B1.out.size)⟩
    · have hlt3 : ¬ (j : Int) < (l.length : Int) := by omega
      obtain rfl : j = l.length := by omega
      go_wp2
      go_ret
      refine ⟨?_, B1.out.trans (HK.out.mono B1.out.size)⟩
      rw [HLr.out, List.drop_eq_nil_of_le (by rw [List.length_zip]; exact Nat.min_le_left _ _)]
      rfl
end Go.Proofs.YtbpdfmpfnbdeoaaGreatDoor
namespace Go.Proofs.YtbpdfmpfnbdeoaaGreatDoor
open Go.RowKit

/-- Does a part of a body fit? -/
def fitsLB (ds : List De) (vs : List ByteArray) (ts : List Int) (t : Lt) : Bool :=
  if duoB t = true then pairFit vs ts t.x t.y
  else if t.op = 1 ∨ t.op = 2 then fitsAB ds vs ts t.a
  else fitsAB ds vs ts t.a && fitsR vs ts t.x 1 && ((t.op == 7) || fitsR vs ts t.y 1)
theorem fitsLB_duo {ds : List De} {vs : List ByteArray} {ts : List Int} {t : Lt} (h : duoB t = true) : fitsLB ds vs ts t = pairFit vs ts t.x t.y := by unfold fitsLB; rw [if_pos h]
theorem fitsLB_plain {ds : List De} {vs : List ByteArray} {ts : List Int} {t : Lt} (h : duoB t = false) (h1 : t.op = 1 ∨ t.op = 2) : fitsLB ds vs ts t = fitsAB ds vs ts t.a := by unfold fitsLB; rw [if_neg (by rw [h]; decide), if_pos h1]
theorem fitsLB_agg {ds : List De} {vs : List ByteArray} {ts : List Int} {t : Lt} (h : duoB t = false) (h1 : ¬ (t.op = 1 ∨ t.op = 2)) : fitsLB ds vs ts t = (fitsAB ds vs ts t.a && fitsR vs ts t.x 1 && ((t.op == 7) || fitsR vs ts t.y 1)) := by unfold fitsLB; rw [if_neg (by rw [h]; decide), if_neg h1]
set_option maxRecDepth 100000 in
set_option maxHeartbeats 8000000 in
theorem rfitsDuo_c (vs : List ByteArray) (vv : Value) (B g : Nat) (ds : List De) (v : Value) (t : Lt) (ts : List Int) (w : World) (cs : List Value) (hc : LtC w B t cs) (hT : TyS B g w vs vv ts)
    (hr : rightL t = true) (hdu : duoB t = true) (hv : ∀ u ∈ litTs t, u.op = 1 → u.s ∈ vs ∧ u.l = []) :
    Calls Tryz.prog 102 #[v, .agg cs.toArray, vv, .slice (some ⟨g, 0, none⟩) ts.length ts.length] w fun e w' => e = .returned (.bool (fitsLB ds vs ts t)) ∧ Below w.heap.size w w' := by
  obtain ⟨_, hx, hy⟩ := right_duo hr hdu
  have hop := duo_op hdu
  obtain ⟨ca, cx, cy, rfl, _, ha, hcx, hcy⟩ := hc
  have hca := ha
  obtain ⟨v0, rfl, _, hal⟩ := ha
  obtain ⟨o0, k0, rfl, _⟩ := SlOf.uni hal
  obtain ⟨o1, k1, rfl, _⟩ := hcx.look
  obtain ⟨o2, k2, rfl, _⟩ := hcy.look
  have hvx : ∀ u ∈ subT t.x, u.op = 1 → u.s ∈ vs ∧ u.l = [] := fun u hu => hv u (litTs_mem.2 (.inl hu))
  have hvy : ∀ u ∈ subT t.y, u.op = 1 → u.s ∈ vs ∧ u.l = [] := fun u hu => hv u (litTs_mem.2 (.inr (.inl hu)))
  have hb := hT.base
  have hrow := hT.row
  have HX := Lib.hid (fun (hx : rightT 20 t.x = true) (k : Int) (W : World) (h : Below w.heap.size w W) => rfits_c vs vv ts B g 20 t.x k W _ hx (hcx.under (h.mono hb)) (hT.kept h) hvx)
  have HY := Lib.hid (fun (hy : rightT 20 t.y = true) (k : Int) (W : World) (h : Below w.heap.size w W) => rfits_c vs vv ts B g 20 t.y k W _ hy (hcy.under (h.mono hb)) (hT.kept h) hvy)
  have HB0 : Hid (∀ (x : Obj), Below w.heap.size w (w.alloc x)) := Lib.hid fun x => (Below.refl _ _).alloc (Nat.le_refl _) _
  have HR : Hid (∀ (C : Obj) (cells : List Value) (W : World), C = .cells cells.toArray 56 (0, 0) → Below (w.heap.size + 1) (w.alloc C) W → W.heap[w.heap.size]? = some C) := Lib.hid fun C cells W hC hb => by
    rw [hb.block _ (by omega)]
    exact World.alloc_heap_new w C
  have HX1 := Lib.hid (HX.out hx 1)
  have HX2 := Lib.hid (HX.out hx 2)
  have HY1 := Lib.hid (HY.out hy 1)
  have HY2 := Lib.hid (HY.out hy 2)
  obtain ⟨x1, hx1⟩ : ∃ x1, fitsR vs ts t.x 1 = x1 := ⟨_, rfl⟩
  obtain ⟨x2, hx2⟩ : ∃ x2, fitsR vs ts t.x 2 = x2 := ⟨_, rfl⟩
  obtain ⟨y1, hy1⟩ : ∃ y1, fitsR vs ts t.y 1 = y1 := ⟨_, rfl⟩
  obtain ⟨y2, hy2⟩ : ∃ y2, fitsR vs ts t.y 2 = y2 := ⟨_, rfl⟩
  have HZ : Hid (fitsLB ds vs ts t = ((x1 && y1) || (x2 && y2))) := Lib.hid (by rw [fitsLB_duo hdu, ← hx1, ← hx2, ← hy1, ← hy2]; rfl)
  rw [hx1] at HX1
  rw [hx2] at HX2
  rw [hy1] at HY1
  rw [hy2] at HY2
  obtain ⟨X, hX⟩ : ∃ X, fitsLB ds vs ts t = X := ⟨_, rfl⟩
  rw [hX] at HZ ⊢
  have hop1 := hop.1
  have hop2 := hop.2
  obtain ⟨ov, kv, rfl, _⟩ := SlOf.uni hT.vars
  clear hT hcx hcy hca hal hv hvx hvy hx hy hr hdu hop hx1 hx2 hy1 hy2 hX HX HY HR
  simp only [List.cons_append, List.nil_append]
  go_enter Tryz.func102, Tryz.ntmps102
  go_wp2_with fail
  refine (HX1.out _ (HB0.out _)).mono ?_
  rintro e1 w1 ⟨rfl, b1⟩
  have r1 := (b1.block w.heap.size (by simp)).trans (World.alloc_heap_new w _)
  have B1 := Lib.hid ((HB0.out _).trans (b1.mono (by simp)))
  have c1_3 := row_cells r1 3
  have c1_4 := row_cells r1 4
  have c1_5 := row_cells r1 5
  have c1_6 := row_cells r1 6
  have c1_7 := row_cells r1 7
  have c1_8 := row_cells r1 8
  have c1_9 := row_cells r1 9
  have c1_10 := row_cells r1 10
  simp at c1_3 c1_4 c1_5 c1_6 c1_7 c1_8 c1_9 c1_10
  have R1 := Lib.hid r1
  have hz1 : w.heap.size < w1.heap.size := heap_lt r1
  clear b1 r1
  cases x1 with
  | false =>
    go_wp2_with fail
    refine (HX2.out _ (B1.out)).mono ?_
    rintro e2 w2 ⟨rfl, b2⟩
    have r2 := (b2.block w.heap.size hz1).trans R1.out
    have B2 := Lib.hid (B1.out.trans (b2.mono B1.out.size))
    have c2_7 := row_cells r2 7
    have c2_8 := row_cells r2 8
    have c2_9 := row_cells r2 9
    have c2_10 := row_cells r2 10
    simp at c2_7 c2_8 c2_9 c2_10
    have R2 := Lib.hid r2
    have hz2 : w.heap.size < w2.heap.size := heap_lt r2
    clear b2 r2
    cases x2 with
    | false =>
      go_wp2
      go_ret
      exact ⟨by rw [HZ.out]; rfl, B2.out⟩
    | true =>
      go_wp2_with fail
      refine (HY2.out _ (B2.out)).mono ?_
      rintro e3 w3 ⟨rfl, b3⟩
      have r3 := (b3.block w.heap.size hz2).trans R2.out
      have B3 := Lib.hid (B2.out.trans (b3.mono B2.out.size))
      have R3 := Lib.hid r3
      have hz3 : w.heap.size < w3.heap.size := heap_lt r3
      clear b3 r3
      go_wp2
      go_ret
      exact ⟨by rw [HZ.out]; rfl, B3.out⟩
  | true =>
    go_wp2_with fail
    refine (HY1.out _ (B1.out)).mono ?_
    rintro e2 w2 ⟨rfl, b2⟩
    have r2 := (b2.block w.heap.size hz1).trans R1.out
    have B2 := Lib.hid (B1.out.trans (b2.mono B1.out.size))
    have c2_3 := row_cells r2 3
    have c2_4 := row_cells r2 4
    have c2_5 := row_cells r2 5
    have c2_6 := row_cells r2 6
    have c2_7 := row_cells r2 7
    have c2_8 := row_cells r2 8
    have c2_9 := row_cells r2 9
    have c2_10 := row_cells r2 10
    simp at c2_3 c2_4 c2_5 c2_6 c2_7 c2_8 c2_9 c2_10
    have R2 := Lib.hid r2
    have hz2 : w.heap.size < w2.heap.size := heap_lt r2
    clear b2 r2
    cases y1 with
    | false =>
      go_wp2_with fail
      refine (HX2.out _ (B2.out)).mono ?_
      rintro e3 w3 ⟨rfl, b3⟩
      have r3 := (b3.block w.heap.size hz2).trans R2.out
      have B3 := Lib.hid (B2.out.trans (b3.mono B2.out.size))
      have c3_7 := row_cells r3 7
      have c3_8 := row_cells r3 8
      have c3_9 := row_cells r3 9
      have c3_10 := row_cells r3 10
      simp at c3_7 c3_8 c3_9 c3_10
      have R3 := Lib.hid r3
      have hz3 : w.heap.size < w3.heap.size := heap_lt r3
      clear b3 r3
      cases x2 with
      | false =>
        go_wp2
        go_ret
        exact ⟨by rw [HZ.out]; rfl, B3.out⟩
      | true =>
        go_wp2_with fail
        refine (HY2.out _ (B3.out)).mono ?_
        rintro e4 w4 ⟨rfl, b4⟩
        have r4 := (b4.block w.heap.size hz3).trans R3.out
        have B4 := Lib.hid (B3.out.trans (b4.mono B3.out.size))
        have R4 := Lib.hid r4
        have hz4 : w.heap.size < w4.heap.size := heap_lt r4
        clear b4 r4
        go_wp2
        go_ret
        exact ⟨by rw [HZ.out]; rfl, B4.out⟩
    | true =>
      go_wp2_with fail
      refine (HX2.out _ (B2.out)).mono ?_
      rintro e3 w3 ⟨rfl, b3⟩
      have r3 := (b3.block w.heap.size hz2).trans R2.out
      have B3 := Lib.hid (B2.out.trans (b3.mono B2.out.size))
      have c3_7 := row_cells r3 7
      have c3_8 := row_cells r3 8
      have c3_9 := row_cells r3 9
      have c3_10 := row_cells r3 10
      simp at c3_7 c3_8 c3_9 c3_10
      have R3 := Lib.hid r3
      have hz3 : w.heap.size < w3.heap.size := heap_lt r3
      clear b3 r3
      cases x2 with
      | false =>
        go_wp2
        go_ret
        exact ⟨by rw [HZ.out]; rfl, B3.out⟩
      | true =>
        go_wp2_with fail
        refine (HY2.out _ (B3.out)).mono ?_
        rintro e4 w4 ⟨rfl, b4⟩
        have r4 := (b4.block w.heap.size hz3).trans R3.out
        have B4 := Lib.hid (B3.out.trans (b4.mono B3.out.size))
        have R4 := Lib.hid r4
        have hz4 : w.heap.size < w4.heap.size := heap_lt r4
        clear b4 r4
        go_wp2
        go_ret
        exact ⟨by rw [HZ.out]; rfl, B4.out⟩
set_option maxRecDepth 100000 in
set_option maxHeartbeats 8000000 in
theorem rfitsPart_c (vs : List ByteArray) (vv : Value) (B g : Nat) (ds : List De) (v : Value) (t : Lt) (ts : List Int) (w : World) (cs : List Value) (hd : SlOf w B 6 (DeC w B) ds v) (hc : LtC w B t cs) (hT : TyS B g w vs vv ts)
    (hr : rightL t = true) (hdu : duoB t = false) (hbd : badA ds t.a = 0) (hv : ∀ u ∈ litTs t, u.op = 1 → u.s ∈ vs ∧ u.l = []) :
    Calls Tryz.prog 102 #[v, .agg cs.toArray, vv, .slice (some ⟨g, 0, none⟩) ts.length ts.length] w fun e w' => e = .returned (.bool (fitsLB ds vs ts t)) ∧ Below w.heap.size w w' := by
  have hno := duo_no hdu
  have hag := agg_or hdu
  have hrange := right_op hr
  obtain ⟨ca, cx, cy, rfl, _, ha, hcx, hcy⟩ := hc
  have hca := ha
  obtain ⟨v0, rfl, _, hal⟩ := ha
  obtain ⟨o0, k0, rfl, _⟩ := SlOf.uni hal
  obtain ⟨o1, k1, rfl, _⟩ := hcx.look
  obtain ⟨o2, k2, rfl, _⟩ := hcy.look
  have hvx : ∀ u ∈ subT t.x, u.op = 1 → u.s ∈ vs ∧ u.l = [] := fun u hu => hv u (litTs_mem.2 (.inl hu))
  have hvy : ∀ u ∈ subT t.y, u.op = 1 → u.s ∈ vs ∧ u.l = [] := fun u hu => hv u (litTs_mem.2 (.inr (.inl hu)))
  have hb := hT.base
  have hrow := hT.row
  have HX := Lib.hid (fun (hx : rightT 20 t.x = true) (k : Int) (W : World) (h : Below w.heap.size w W) => rfits_c vs vv ts B g 20 t.x k W _ hx (hcx.under (h.mono hb)) (hT.kept h) hvx)
  have HY := Lib.hid (fun (hy : rightT 20 t.y = true) (k : Int) (W : World) (h : Below w.heap.size w W) => rfits_c vs vv ts B g 20 t.y k W _ hy (hcy.under (h.mono hb)) (hT.kept h) hvy)
  have HB0 : Hid (∀ (x : Obj), Below w.heap.size w (w.alloc x)) := Lib.hid fun x => (Below.refl _ _).alloc (Nat.le_refl _) _
  have HR : Hid (∀ (C : Obj) (cells : List Value) (W : World), C = .cells cells.toArray 56 (0, 0) → Below (w.heap.size + 1) (w.alloc C) W → W.heap[w.heap.size]? = some C) := Lib.hid fun C cells W hC hb => by
    rw [hb.block _ (by omega)]
    exact World.alloc_heap_new w C
  have hva : ∀ u ∈ subTs t.a.l, u.op = 1 → u.s ∈ vs ∧ u.l = [] := fun u hu => hv u (litTs_mem.2 (.inr (.inr hu)))
  have hra : rightA t.a = true := hag.elim (fun h => (right_plain hr h).1) (fun h => (right_agg hr h).1)
  have HLA := Lib.hid (fun (W : World) (h : Below w.heap.size w W) => rfitsAtom_c vs vv B g ds v t.a ts W _ (SlOf.decl hd (h.mono hb) (Nat.le_refl _)) (hca.below (h.mono hb)) (hT.kept h) hbd (right_arg hra) hva)
  have HG : Hid (aggB t = true → rightT 20 t.x = true ∧ (t.op = 7 ∨ (t.op ≠ 7 ∧ rightT 20 t.y = true))) := Lib.hid fun hg => by
    obtain ⟨_, hx, hy⟩ := right_agg hr hg
    exact ⟨hx, hy.elim (fun h => .inl h.1) (fun h => .inr ⟨by omega, h.2.2⟩)⟩
  have HZ1 : Hid (t.op = 1 ∨ t.op = 2 → fitsLB ds vs ts t = fitsAB ds vs ts t.a) := Lib.hid (fitsLB_plain hdu)
  have HZ2 : Hid (¬ (t.op = 1 ∨ t.op = 2) → fitsLB ds vs ts t = (fitsAB ds vs ts t.a && fitsR vs ts t.x 1 && ((t.op == 7) || fitsR vs ts t.y 1))) := Lib.hid (fitsLB_agg hdu)
  obtain ⟨X, hX⟩ : ∃ X, fitsLB ds vs ts t = X := ⟨_, rfl⟩
  rw [hX] at HZ1 HZ2 ⊢
  obtain ⟨xa, hxa⟩ : ∃ xa, fitsAB ds vs ts t.a = xa := ⟨_, rfl⟩
  rw [hxa] at HZ1 HZ2 HLA
  obtain ⟨ov, kv, rfl, _⟩ := SlOf.uni hT.vars
  obtain ⟨od, kd, rfl, _⟩ := SlOf.uni hd
  clear hT hcx hcy hal hca hv hvx hvy hva hr hra hdu hbd hd hX hxa HR
  simp only [List.cons_append, List.nil_append]
  by_cases h12 : t.op = 1 ∨ t.op = 2
  · have HZ := Lib.hid (HZ1.out h12)
    clear hag hno HX HY HG HZ1 HZ2
    have h36 : ¬ 3 ≤ t.op := by omega
    go_enter Tryz.func102, Tryz.ntmps102
    go_wp2_with fail
    refine (HLA.out _ (HB0.out _)).mono ?_
    rintro e1 w1 ⟨rfl, b1⟩
    have r1 := (b1.block w.heap.size (by simp)).trans (World.alloc_heap_new w _)
    have B1 := Lib.hid ((HB0.out _).trans (b1.mono (by simp)))
    have c1_0 := row_cells r1 0
    simp at c1_0
    have R1 := Lib.hid r1
    have hz1 : w.heap.size < w1.heap.size := heap_lt r1
    clear b1 r1
    rcases h12 with h1 | h1
    · have ho1 : (t.op == 1) = true := by simp [h1]
      go_wp2
      go_ret
      exact ⟨by rw [HZ.out]; rfl, B1.out⟩
    · have ho1 : (t.op == 1) = false := by simp [h1]
      have ho2 : (t.op == 2) = true := by simp [h1]
      go_wp2
      go_ret
      exact ⟨by rw [HZ.out]; rfl, B1.out⟩
  · have hg : aggB t = true := hag.resolve_left h12
    obtain ⟨hx, hy⟩ := HG.out hg
    have HX1 := Lib.hid (HX.out hx 1)
    obtain ⟨x1, hx1⟩ : ∃ x1, fitsR vs ts t.x 1 = x1 := ⟨_, rfl⟩
    have hz := HZ2.out h12
    rw [hx1] at HX1 hz
    have h36 : 3 ≤ t.op := by omega
    have h67 : ¬ t.op ≤ 6 := by omega
    have ho1 : (t.op == 1) = false := by simp; omega
    have ho2 : (t.op == 2) = false := by simp; omega
    clear hag hno HZ1 HZ2 HG HX hx hx1 hg
    rcases hy with h7 | ⟨h7, hy⟩
    · have ho7 : (t.op == 7) = true := by simp [h7]
      have HZ : Hid (X = (xa && x1)) := Lib.hid (by rw [hz, ho7]; simp)
      clear hz HY
      go_enter Tryz.func102, Tryz.ntmps102
      go_wp2_with fail
      refine (HLA.out _ (HB0.out _)).mono ?_
      rintro e1 w1 ⟨rfl, b1⟩
      have r1 := (b1.block w.heap.size (by simp)).trans (World.alloc_heap_new w _)
      have B1 := Lib.hid ((HB0.out _).trans (b1.mono (by simp)))
      have c1_0 := row_cells r1 0
      have c1_3 := row_cells r1 3
      have c1_4 := row_cells r1 4
      have c1_5 := row_cells r1 5
      have c1_6 := row_cells r1 6
      simp at c1_0 c1_3 c1_4 c1_5 c1_6
      have R1 := Lib.hid r1
      have hz1 : w.heap.size < w1.heap.size := heap_lt r1
      clear b1 r1
      go_wp2_with fail
      refine (HX1.out _ (B1.out)).mono ?_
      rintro e2 w2 ⟨rfl, b2⟩
      have r2 := (b2.block w.heap.size hz1).trans R1.out
      have B2 := Lib.hid (B1.out.trans (b2.mono B1.out.size))
      have c2_0 := row_cells r2 0
      simp at c2_0
      have R2 := Lib.hid r2
      have hz2 : w.heap.size < w2.heap.size := heap_lt r2
      clear b2 r2
      cases xa with
      | false =>
        go_wp2
        go_ret
        exact ⟨by rw [HZ.out]; rfl, B2.out⟩
      | true =>
        cases x1 with
        | false =>
          go_wp2
          go_ret
          exact ⟨by rw [HZ.out]; rfl, B2.out⟩
        | true =>
          go_wp2
          go_ret
          exact ⟨by rw [HZ.out]; rfl, B2.out⟩
    · have ho7 : (t.op == 7) = false := by simp [h7]
      have HY1 := Lib.hid (HY.out hy 1)
      obtain ⟨y1, hy1⟩ : ∃ y1, fitsR vs ts t.y 1 = y1 := ⟨_, rfl⟩
      rw [hy1] at HY1 hz
      have HZ : Hid (X = (xa && x1 && y1)) := Lib.hid (by rw [hz, ho7]; simp)
      clear hz HY hy hy1
      go_enter Tryz.func102, Tryz.ntmps102
      go_wp2_with fail
      refine (HLA.out _ (HB0.out _)).mono ?_
      rintro e1 w1 ⟨rfl, b1⟩
      have r1 := (b1.block w.heap.size (by simp)).trans (World.alloc_heap_new w _)
      have B1 := Lib.hid ((HB0.out _).trans (b1.mono (by simp)))
      have c1_0 := row_cells r1 0
      have c1_3 := row_cells r1 3
      have c1_4 := row_cells r1 4
      have c1_5 := row_cells r1 5
      have c1_6 := row_cells r1 6
      simp at c1_0 c1_3 c1_4 c1_5 c1_6
      have R1 := Lib.hid r1
      have hz1 : w.heap.size < w1.heap.size := heap_lt r1
      clear b1 r1
      go_wp2_with fail
      refine (HX1.out _ (B1.out)).mono ?_
      rintro e2 w2 ⟨rfl, b2⟩
      have r2 := (b2.block w.heap.size hz1).trans R1.out
      have B2 := Lib.hid (B1.out.trans (b2.mono B1.out.size))
      have c2_0 := row_cells r2 0
      have c2_7 := row_cells r2 7
      have c2_8 := row_cells r2 8
      have c2_9 := row_cells r2 9
      have c2_10 := row_cells r2 10
      simp at c2_0 c2_7 c2_8 c2_9 c2_10
      have R2 := Lib.hid r2
      have hz2 : w.heap.size < w2.heap.size := heap_lt r2
      clear b2 r2
      go_wp2_with fail
      refine (HY1.out _ (B2.out)).mono ?_
      rintro e3 w3 ⟨rfl, b3⟩
      have r3 := (b3.block w.heap.size hz2).trans R2.out
      have B3 := Lib.hid (B2.out.trans (b3.mono B2.out.size))
      have R3 := Lib.hid r3
      have hz3 : w.heap.size < w3.heap.size := heap_lt r3
      clear b3 r3
      cases xa with
      | false =>
        go_wp2
        go_ret
        exact ⟨by rw [HZ.out]; rfl, B3.out⟩
      | true =>
        cases x1 with
        | false =>
          go_wp2
          go_ret
          exact ⟨by rw [HZ.out]; rfl, B3.out⟩
        | true =>
          go_wp2
          go_ret
          exact ⟨by rw [HZ.out]; rfl, B3.out⟩
/-- Does a rule fit? -/
def fitsRB (ds : List De) (vs : List ByteArray) (ts : List Int) (r : Ru) : Bool := fitsAB ds vs ts r.head && r.body.all (fitsLB ds vs ts)
theorem fitsRB_iff {ds : List De} {vs : List ByteArray} {ts : List Int} {r : Ru} : fitsRB ds vs ts r = true ↔ FitsU ds r vs ts := by
  unfold fitsRB
  rw [Bool.and_eq_true, List.all_eq_true]
  have hA : ∀ a : Am, fitsAB ds vs ts a = true ↔ ∀ x ∈ plc ds a, fitsR vs ts x.1 x.2 = true := fun a => by unfold fitsAB; rw [List.all_eq_true]
  constructor
  · rintro ⟨h1, h2⟩
    refine ⟨fun a ha => ?_, fun l hl hd => ?_, fun l hl hg => ?_⟩
    · rcases List.mem_cons.1 ha with rfl | ha
      · exact (hA _).1 h1
      · obtain ⟨l, hl, hd, rfl⟩ := mem_atomsL.1 ha
        have := h2 l hl
        rcases agg_or hd with h | h
        · rw [fitsLB_plain hd h] at this
          exact (hA _).1 this
        · have hn : ¬ (l.op = 1 ∨ l.op = 2) := by
            unfold aggB at h
            simp only [Bool.and_eq_true, Bool.not_eq_true', beq_eq_false_iff_ne] at h
            omega
          rw [fitsLB_agg hd hn] at this
          simp only [Bool.and_eq_true] at this
          exact (hA _).1 this.1.1
    · have := h2 l hl
      rwa [fitsLB_duo hd] at this
    · have := h2 l hl
      unfold aggB at hg
      simp only [Bool.and_eq_true, Bool.not_eq_true', beq_eq_false_iff_ne] at hg
      rw [fitsLB_agg hg.1.1 (by omega)] at this
      simp only [Bool.and_eq_true, Bool.or_eq_true, beq_iff_eq] at this
      exact ⟨this.1.2, this.2⟩
  · intro h
    refine ⟨(hA _).2 (h.atom _ (List.mem_cons_self ..)), fun l hl => ?_⟩
    cases hd : duoB l with
    | true => rw [fitsLB_duo hd]; exact h.duo l hl hd
    | false =>
      have ha := (hA _).2 (h.atom l.a (List.mem_cons_of_mem _ (mem_atomsL.2 ⟨l, hl, hd, rfl⟩)))
      rcases agg_or hd with h1 | h1
      · rw [fitsLB_plain hd h1]; exact ha
      · have hn : ¬ (l.op = 1 ∨ l.op = 2) := by
          have h1 := h1
          unfold aggB at h1
          simp only [Bool.and_eq_true, Bool.not_eq_true', beq_eq_false_iff_ne] at h1
          omega
        rw [fitsLB_agg hd hn]
        obtain ⟨g1, g2⟩ := h.agg l hl h1
        simp only [Bool.and_eq_true, Bool.or_eq_true, beq_iff_eq]
        exact ⟨⟨ha, g1⟩, g2⟩
set_option maxRecDepth 100000 in
set_option maxHeartbeats 8000000 in
theorem rfitsRule_c (vs : List ByteArray) (vv : Value) (B g : Nat) (ds : List De) (v : Value) (r : Ru) (ts : List Int) (w : World) (cs : List Value) (hd : SlOf w B 6 (DeC w B) ds v) (hc : RuC w B r cs) (hT : TyS B g w vs vv ts)
    (hr : rightR r = true) (hch : chkA ds (atomsR r) = 0) (hv : ∀ u ∈ termsR r, u.op = 1 → u.s ∈ vs ∧ u.l = []) :
    Calls Tryz.prog 67 #[v, .agg cs.toArray, vv, .slice (some ⟨g, 0, none⟩) ts.length ts.length] w fun e w' => e = .returned (.bool (fitsRB ds vs ts r)) ∧ Below w.heap.size w w' := by
  have hbad := chkA_iff.1 hch
  obtain ⟨o0, k0, o1, k1, rfl, _, hh, hbd⟩ := hc.look
  have hbase := hT.base
  have hrow := hT.row
  have HB0 : Hid (∀ (x : Obj), Below w.heap.size w (w.alloc x)) := Lib.hid fun x => (Below.refl _ _).alloc (Nat.le_refl _) _
  obtain ⟨o2, k2, e2, hc1, hm1, S1⟩ := SlOf.open hbd
  cases e2
  have HA := Lib.hid (fun (W : World) (h : Below w.heap.size w W) => rfitsAtom_c vs vv B g ds v r.head ts W _ (SlOf.decl hd (h.mono hbase) (Nat.le_refl _)) (hh.below (h.mono hbase)) (hT.kept h) (hbad _ (List.mem_cons_self ..)) (right_arg (right_atoms hr _ (List.mem_cons_self ..))) (fun u hu => hv u (List.mem_append_left _ hu)))
  have HL := Lib.hid (fun (t : Lt) (ht : t ∈ r.body) (W : World) (cs : List Value) (h : Below w.heap.size w W) (hc : LtC W B t cs) => show Calls Tryz.prog 102 #[v, .agg cs.toArray, vv, .slice (some ⟨g, 0, none⟩) ts.length ts.length] W fun e w' => e = .returned (.bool (fitsLB ds vs ts t)) ∧ Below W.heap.size W w' from by
    have hvt : ∀ u ∈ litTs t, u.op = 1 → u.s ∈ vs ∧ u.l = [] := fun u hu => hv u (List.mem_append_right _ (List.mem_flatMap.2 ⟨t, ht, hu⟩))
    cases hdu : duoB t with
    | true => exact rfitsDuo_c vs vv B g ds v t ts W cs hc (hT.kept h) (right_lits hr t ht) hdu hvt
    | false => exact rfitsPart_c vs vv B g ds v t ts W cs (SlOf.decl hd (h.mono hbase) (Nat.le_refl _)) hc (hT.kept h) (right_lits hr t ht) hdu (hbad _ (List.mem_cons_of_mem _ (mem_atomsL.2 ⟨t, ht, hdu, rfl⟩))) hvt)
  have HZ : Hid (fitsRB ds vs ts r = (fitsAB ds vs ts r.head && r.body.all (fitsLB ds vs ts))) := Lib.hid rfl
  obtain ⟨X, hX⟩ : ∃ X, fitsRB ds vs ts r = X := ⟨_, rfl⟩
  rw [hX] at HZ ⊢
  obtain ⟨xa, hxa⟩ : ∃ xa, fitsAB ds vs ts r.head = xa := ⟨_, rfl⟩
  rw [hxa] at HA HZ
  obtain ⟨ov, kv, rfl, _⟩ := SlOf.uni hT.vars
  obtain ⟨od, kd, rfl, _⟩ := SlOf.uni hd
  clear hd hc hT hr hch hv hbad hh hbd hX hxa
  go_enter Tryz.func67, Tryz.ntmps67
  go_wp2_with fail
  refine (HA.out _ (HB0.out _)).mono ?_
  rintro e w1 ⟨rfl, b1⟩
  have q1 := (b1.block w.heap.size (by simp)).trans (World.alloc_heap_new w _)
  have B1 := Lib.hid ((HB0.out _).trans (b1.mono (by simp)))
  have Q1 := Lib.hid q1
  clear b1 q1 HA
  go_wp2
  go_loopw [9, 10] (fun av iv wr => ∃ (j : Nat) (m : Bool), j ≤ r.body.length ∧ iv = .int .i64 j ∧ av = .bool m ∧ X = (m && (r.body.drop j).all (fitsLB ds vs ts)) ∧ Below w1.heap.size w1 wr) (fun _ iv _ => r.body.length - (intOf iv).toNat)
  case atStart => exact ⟨0, xa, Nat.zero_le _, rfl, rfl, HZ.out, Below.refl _ _⟩
  case round =>
    obtain ⟨j, m, hj, rfl, rfl, hL, hK⟩ := hrel
    have hBw : Below w.heap.size w wr := B1.out.trans (hK.mono B1.out.size)
    have qr := (hK.block w.heap.size (heap_lt Q1.out)).trans Q1.out
    have hz0 : w.heap.size < wr.heap.size := heap_lt qr
    have x0 : wr.cell? ⟨w.heap.size, 2, none⟩ = some (.slice o1 r.body.length k1) := row_cells qr 2
    have HLr := Lib.hid hL
    have HK := Lib.hid hK
    have HBw := Lib.hid hBw
    clear hL hK qr hBw
    by_cases hlt : j < r.body.length
    · have hlt3 : (j : Int) < (r.body.length : Int) := by omega
      cases m with
      | false =>
        have Hst : Hid (X = false) := Lib.hid (by rw [HLr.out, Bool.false_and])
        go_wp2
        go_ret
        exact ⟨by rw [Hst.out]; rfl, HBw.out⟩
      | true =>
        obtain ⟨t, ht⟩ : ∃ t, r.body[j]? = some t := ⟨_, List.getElem?_eq_getElem hlt⟩
        have Hst : Hid (X = (fitsLB ds vs ts t && (r.body.drop (j + 1)).all (fitsLB ds vs ts))) := Lib.hid (by rw [HLr.out, Bool.true_and, all_drop' (f := fitsLB ds vs ts) ht])
        obtain ⟨a, p0, q0, p1, q1, p2, q2, rfl, ha, Hc, c0, c1, c2, c3, c4, c5, c6, c7, c8, c9, c10⟩ := lt_in S1 (HBw.out.mono hbase) ht
        have hal : (a.add (j * 11)).block < wr.heap.size := by rw [addBlock]; have := HBw.out.size; omega
        have HCL := Lib.hid (HL.out t (List.mem_of_getElem? ht) wr _ HBw.out Hc.out)
        obtain ⟨xt, hxt⟩ : ∃ xt, fitsLB ds vs ts t = xt := ⟨_, rfl⟩
        rw [hxt] at HCL Hst
        clear ht hxt
        go_wp2_with fail
        refine HCL.out.mono ?_
        rintro e3 w3 ⟨rfl, b3⟩
        have HB3 := Lib.hid (HK.out.trans (b3.mono HK.out.size))
        clear b3 HCL
        go_wp2
        go_roundw
        case rel => exact ⟨j + 1, xt, hlt, by go_num, rfl, Hst.out, HB3.out⟩
        case measure => simp [intOf]; omega
    · have hlt3 : ¬ (j : Int) < (r.body.length : Int) := by omega
      obtain rfl : j = r.body.length := by omega
      go_wp2
      go_ret
      refine ⟨?_, HBw.out⟩
      rw [HLr.out, List.drop_eq_nil_of_le (Nat.le_refl _)]
      simp
end Go.Proofs.YtbpdfmpfnbdeoaaGreatDoor
namespace Go.Proofs.YtbpdfmpfnbdeoaaGreatDoor
open Go.RowKit

theorem chkA_app (ds : List De) : ∀ l m : List Am, chkA ds (l ++ m) = if chkA ds l = 0 then chkA ds m else chkA ds l
  | [], m => by simp [chkA]
  | t :: l, m => by
    show (if badA ds t = 0 then chkA ds (l ++ m) else badA ds t) = if (if badA ds t = 0 then chkA ds l else badA ds t) = 0 then chkA ds m else if badA ds t = 0 then chkA ds l else badA ds t
    by_cases h : badA ds t = 0
    · rw [if_pos h, if_pos h, chkA_app ds l m]
    · rw [if_neg h, if_neg h, if_neg h]
/-- What has been checked of a rule's atoms: the head's, and those of the first parts. -/
def chkK (ds : List De) (r : Ru) (k : Nat) : Nat := chkA ds (r.head :: atomsL (r.body.take k))
theorem chkK_zero (ds : List De) (r : Ru) : chkK ds r 0 = badA ds r.head := by
  unfold chkK
  show (if badA ds r.head = 0 then chkA ds [] else badA ds r.head) = _
  split
  · rename_i h; rw [h]; rfl
  · rfl
theorem chkK_all (ds : List De) (r : Ru) : chkK ds r r.body.length = chkA ds (atomsR r) := by
  unfold chkK
  rw [List.take_of_length_le (Nat.le_refl _)]
  rfl
theorem chkK_step {ds : List De} {r : Ru} {k : Nat} {t : Lt} (ht : r.body[k]? = some t) (h : chkK ds r k = 0) : chkK ds r (k + 1) = if duoB t = true then 0 else badA ds t.a := by
  unfold chkK at *
  rw [atomsL_take ht, ← List.cons_append, chkA_app, if_pos h]
  split
  · rfl
  · show (if badA ds t.a = 0 then chkA ds [] else badA ds t.a) = _
    split
    · rename_i h; rw [h]; rfl
    · rfl
theorem chkK_stop {ds : List De} {r : Ru} {k : Nat} (h : chkK ds r k ≠ 0) : chkA ds (atomsR r) = chkK ds r k := by
  unfold chkK at *
  unfold atomsR
  have : atomsL r.body = atomsL (r.body.take k) ++ atomsL (r.body.drop k) := by rw [← atomsL_app, List.take_append_drop]
  rw [this, ← List.cons_append, chkA_app, if_neg h]
theorem atE_zero {n : Nat} : (atE n == 0) = (n == 0) := by
  match n with
  | 0 => rfl
  | 1 => rfl
  | n + 2 => rfl

/-- What is told of variables. -/
def jR (ds : List De) (r : Ru) : ByteArray → Int → Prop := fun s k => DerR ds r s.data.toList k
theorem jR_12 {ds : List De} {r : Ru} (h : rightP ⟨ds, [r]⟩ = true) : ∀ s k, jR ds r s k → k = 1 ∨ k = 2 := fun _ _ d => der_ty (base_ty (right_types h)) d
theorem right_ru {ds : List De} {r : Ru} (h : rightP ⟨ds, [r]⟩ = true) : rightR r = true := by
  unfold rightP at h
  simp only [Bool.and_eq_true, List.all_cons, List.all_nil] at h
  exact h.2.1
theorem jR_asks {ds : List De} {r : Ru} (hr : rightR r = true) (hc : chkA ds (atomsR r) = 0) : Asks (fun t k => t.op = 1 → jR ds r t.s k) ds r :=
  (asks_base (P := fun t k => t.op = 1 → jR ds r t.s k) hr hc (fun t h0 h1 => by omega)).2 fun x hx h1 => .base (t := x.1) (k := x.2) hx h1
theorem pair_in {r : Ru} {t : Lt} (ht : t ∈ r.body) (hd : duoB t = true) : (t.x, t.y) ∈ prsL r.body := mem_prsL.2 ⟨t, ht, hd, rfl⟩
theorem jR_pair {ds : List De} {r : Ru} {t : Lt} (ht : t ∈ r.body) (hd : duoB t = true) : PairJ (jR ds r) t.x t.y ∧ PairJ (jR ds r) t.y t.x := by
  have hm := pair_in ht hd
  exact ⟨⟨fun h1 h2 h3 => .lc hm h1 h2 rfl h3, fun h1 h2 k d => .lv hm h1 h2 d⟩, ⟨fun h1 h2 h3 => .rc hm h1 h2 rfl h3, fun h1 h2 k d => .rv hm h1 h2 d⟩⟩
theorem vars_in {r : Ru} (hr : rightR r = true) : ∀ u ∈ termsR r, u.op = 1 → u.s ∈ varsV (termsR r) ∧ u.l = [] := fun u hu h1 => by
  refine ⟨(mem_varsV _ _).2 ⟨u, hu, h1, rfl⟩, ?_⟩
  unfold termsR at hu
  rcases List.mem_append.1 hu with hu | hu
  · exact rightA_leaf1 (right_atoms hr _ (List.mem_cons_self ..)) u hu h1
  · obtain ⟨t, ht, hu⟩ := List.mem_flatMap.1 hu
    exact rightL_leaf1 (right_lits hr t ht) u hu h1
theorem rlearnHead_c (ds : List De) (r : Ru) (hR : rightP ⟨ds, [r]⟩ = true) (hch : chkA ds (atomsR r) = 0) (vv v : Value) (B g : Nat) (ts : List Int) (w : World) (cs : List Value) (hd : SlOf w B 6 (DeC w B) ds v) (hc : AmC w B r.head cs) (hT : TyS B g w (varsV (termsR r)) vv ts) :
    Calls Tryz.prog 65 #[v, .agg cs.toArray, vv, .slice (some ⟨g, 0, none⟩) ts.length ts.length] w (LrnR (jR ds r) (varsV (termsR r)) (AllF (varsV (termsR r)) (plc ds r.head)) ts B g vv w) := by
  have hr := right_ru hR
  have A := jR_asks hr hch
  have hb := chkA_iff.1 hch r.head (List.mem_cons_self ..)
  refine rlearnAtom_c (jR ds r) _ vv B g ds v r.head ts w cs hd hc hT hb (fun u hu => vars_in hr u (List.mem_append_left _ hu)) (fun x hx h1 _ => (A.atom _ (List.mem_cons_self ..) x hx).1 h1) (fun x hx u hu h1 => ?_)
  obtain ⟨k, hk⟩ := (plc_mem hb).2 x hx
  exact (A.atom _ (List.mem_cons_self ..) _ hk).2 u hu h1
theorem rlearnLit_c (ds : List De) (r : Ru) (hR : rightP ⟨ds, [r]⟩ = true) (hch : chkA ds (atomsR r) = 0) (vv v : Value) (B g : Nat) (t : Lt) (ht : t ∈ r.body) (ts : List Int) (w : World) (cs : List Value) (hd : SlOf w B 6 (DeC w B) ds v) (hc : LtC w B t cs) (hT : TyS B g w (varsV (termsR r)) vv ts) (hS : SndT (jR ds r) (varsV (termsR r)) ts) :
    Calls Tryz.prog 66 #[v, .agg cs.toArray, vv, .slice (some ⟨g, 0, none⟩) ts.length ts.length] w (LrnR (jR ds r) (varsV (termsR r)) (LitN ds (varsV (termsR r)) t) ts B g vv w) := by
  have hr := right_ru hR
  have A := jR_asks hr hch
  have hv : ∀ u ∈ litTs t, u.op = 1 → u.s ∈ varsV (termsR r) ∧ u.l = [] := fun u hu => vars_in hr u (List.mem_append_right _ (List.mem_flatMap.2 ⟨t, ht, hu⟩))
  cases hdu : duoB t with
  | true =>
    obtain ⟨j1, j2⟩ := jR_pair (ds := ds) ht hdu
    exact rlearnDuo_c (jR ds r) (jR_12 hR) _ vv B g ds v t ts w cs hc hT hS (right_lits hr t ht) hdu hv j1 j2 (fun u hu h1 => hu.elim (fun h => (A.duo t ht hdu).1 u h h1) (fun h => (A.duo t ht hdu).2 u h h1))
  | false =>
    have hm : t.a ∈ atomsR r := List.mem_cons_of_mem _ (mem_atomsL.2 ⟨t, ht, hdu, rfl⟩)
    have hb := chkA_iff.1 hch t.a hm
    refine rlearnPart_c (jR ds r) _ vv B g ds v t ts w cs hd hc hT (right_lits hr t ht) hdu hb hv (fun x hx h1 _ => (A.atom _ hm x hx).1 h1) (fun x hx u hu h1 => ?_) (fun hg u hu h1 => ?_)
    · obtain ⟨k, hk⟩ := (plc_mem hb).2 x hx
      exact (A.atom _ hm _ hk).2 u hu h1
    · obtain ⟨f1, f2⟩ := A.agg t ht hg
      rcases hu with hu | hu
      · rcases mem_subT.1 hu with rfl | hu
        · exact f1.1 h1
        · exact f1.2 u hu h1
      · rcases mem_subT.1 hu with rfl | hu
        · exact f2.1 h1
        · exact f2.2 u hu h1
/-- What is asked of a whole round in which nothing is learned. -/
theorem still_of {ds : List De} {r : Ru} {vs : List ByteArray} {ts : List Int} (h1 : AllF vs (plc ds r.head) ts) (h2 : ∀ l ∈ r.body, LitN ds vs l ts) : StillR ds r vs ts := by
  have duo : ∀ l ∈ r.body, duoB l = true → nearP vs ts (l.x, l.y) ∧ (∀ u ∈ subTs l.x.l, knP vs ts u 1) ∧ (∀ u ∈ subTs l.y.l, knP vs ts u 1) := fun l hl hd => by
    have := h2 l hl
    unfold LitN at this
    rwa [if_pos hd] at this
  have part : ∀ l ∈ r.body, duoB l = false → AllF vs (plc ds l.a) ts ∧ (aggB l = true → Full (knP vs ts) l.x 1 ∧ Full (knP vs ts) l.y 1) := fun l hl hd => by
    have := h2 l hl
    unfold LitN at this
    rwa [if_neg (by rw [hd]; decide)] at this
  refine ⟨⟨fun a ha => ?_, fun l hl hd => (duo l hl hd).2, fun l hl hg => ?_⟩, fun l hl hd => (duo l hl hd).1⟩
  · rcases List.mem_cons.1 ha with rfl | ha
    · exact h1
    · obtain ⟨l, hl, hd, rfl⟩ := mem_atomsL.1 ha
      exact (part l hl hd).1
  · have hd : duoB l = false := by
      unfold aggB at hg
      simp only [Bool.and_eq_true, Bool.not_eq_true'] at hg
      exact hg.1.1
    exact (part l hl hd).2 hg
theorem zeros_le (ts : List Int) : zerosL ts ≤ ts.length := List.countP_le_length
theorem snd_zeros {J : ByteArray → Int → Prop} {vs : List ByteArray} {n : Nat} : SndT J vs (List.replicate n 0) := fun i s v _ h h0 => by
  obtain ⟨_, h⟩ := List.getElem?_eq_some_iff.1 h
  rw [List.getElem_replicate] at h
  exact absurd h.symm h0
end Go.Proofs.YtbpdfmpfnbdeoaaGreatDoor
