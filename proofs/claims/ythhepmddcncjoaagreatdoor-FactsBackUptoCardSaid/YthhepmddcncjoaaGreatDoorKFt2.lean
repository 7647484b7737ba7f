/- facts.allFit, facts.Tell. soritesref10.Tell. A region that draws its order and makes memory, and whose last operation, which hangs on all others, writes. facts.Tell. -/
import Derived.Test.YthhepmddcncjoaaGreatDoorKFw
import Derived.Test.YthhepmddcncjoaaGreatDoorKFR
import Derived.Test.YthhepmddcncjoaaGreatDoorKFt1
import Derived.Test.YthhepmddcncjoaaGreatDoorKFpa
import Derived.Test.YthhepmddcncjoaaGreatDoorKConv
set_option linter.unusedSimpArgs false
set_option linter.unusedVariables false
namespace Go.Proofs.YthhepmddcncjoaaGreatDoor
open Go.RowKit

theorem fitA_drop {ds : List De} {all : List (List Rw)} {k : Nat} {d : De} {rs : List Rw} (h1 : ds[k]? = some d) (h2 : all[k]? = some rs) : ((ds.zip all).drop k).all fitG = (fitG (d, rs) && ((ds.zip all).drop (k + 1)).all fitG) := by
  have h3 : (ds.zip all)[k]? = some (d, rs) := by rw [List.getElem?_zip_eq_some]; exact ⟨h1, h2⟩
  have h4 := List.getElem?_eq_some_iff.1 h3
  rw [List.drop_eq_getElem_cons h4.1, h4.2]; rfl
theorem allR_drop {f : Rw → Bool} {l : List Rw} {k : Nat} {x : Rw} (h : l[k]? = some x) : (l.drop k).all f = (f x && (l.drop (k + 1)).all f) := by
  have h1 := List.getElem?_eq_some_iff.1 h
  rw [List.drop_eq_getElem_cons h1.1, h1.2]; rfl
set_option maxRecDepth 100000 in
set_option maxHeartbeats 8000000 in
theorem allFit_c (ds : List De) (all : List (List Rw)) (v u : Value) (w : World) (hd : SlOf w w.heap.size 6 (DeC w w.heap.size) ds v) (hu : SlOf w w.heap.size 1 (RwsC w w.heap.size) all u) :
    Calls Tryz.prog 41 #[v, u] w fun e w' => e = .returned (.bool (fitA ds all)) ∧ Below w.heap.size w w' := by
  obtain ⟨ov, cv, rfl, hcv, hmv, SV⟩ := SlOf.open hd
  obtain ⟨ou, cu, rfl, hcu, hmu, SU⟩ := SlOf.open hu
  have HB0 : Hid (Below w.heap.size w w) := Lib.hid (Below.refl _ _)
  clear hd hu
  by_cases hl : all.length = ds.length
  case neg =>
    have hne : ((all.length : Int) != (ds.length : Int)) = true := by simp; omega
    have HO : Hid (fitA ds all = false) := Lib.hid (by unfold fitA; rw [decide_eq_false hl]; rfl)
    clear hl
    go_enter Tryz.func41, Tryz.ntmps41
    go_wp2
    go_ret
    exact ⟨by rw [HO.out]; rfl, HB0.out⟩
  case pos =>
    have hne : ((all.length : Int) != (ds.length : Int)) = false := by simp; omega
    have HO : Hid (fitA ds all = ((ds.zip all).drop 0).all fitG) := Lib.hid (by unfold fitA; rw [decide_eq_true hl]; rfl)
    have Hl := Lib.hid hl
    clear hl
    go_enter Tryz.func41, Tryz.ntmps41
    go_wp2
    go_loopw [16] (fun i wr => ∃ k : Nat, k ≤ ds.length ∧ i = .int .i64 (k : Int) ∧ Hid (fitA ds all = ((ds.zip all).drop k).all fitG) ∧ Below w.heap.size w wr) (fun i _ => ds.length - (intOf i).toNat)
    case atStart => exact ⟨0, Nat.zero_le _, rfl, HO, HB0.out⟩
    case round =>
      obtain ⟨k, hk, rfl, hO, hB⟩ := hrel
      by_cases hlt : k < ds.length
      · have hlt' : (k : Int) < (ds.length : Int) := by omega
        have hlt2 : (k : Int) < (all.length : Int) := by have := Hl.out; omega
        have hk0 : (0 : Int) ≤ (k : Int) := by omega
        obtain ⟨d, hdk⟩ : ∃ d, ds[k]? = some d := ⟨ds[k], List.getElem?_eq_getElem hlt⟩
        obtain ⟨rs, hrs⟩ : ∃ rs, all[k]? = some rs := ⟨all[k]'(by have := Hl.out; omega), List.getElem?_eq_getElem _⟩
        obtain ⟨aD, u0, v0, u1, v1, rfl, haD, HDc, e0, e1, e2, e3, e4, e5⟩ := de_at SV hB hdk
        obtain ⟨aU, o', cap', rfl, haU, R1, cU⟩ := rws_at SU hB hrs
        have hadl : (aD.add (k * 6)).block < wr.heap.size := by rw [addBlock]; have := hB.size; omega
        have haul : (aU.add k).block < wr.heap.size := by rw [addBlock]; have := hB.size; omega
        have Hst := Lib.hid (hO.out.trans (fitA_drop hdk hrs))
        obtain ⟨W1, hW1⟩ : ∃ W1, wr.alloc (.cells #[.string d.rel, .slice u0 d.names.length v0, .slice u1 d.types.length v1, .bool d.inn, .bool d.out, .int .i64 d.line] 38) = W1 := ⟨_, rfl⟩
        have hr1 : W1.heap[wr.heap.size]? = some (.cells #[.string d.rel, .slice u0 d.names.length v0, .slice u1 d.types.length v1, .bool d.inn, .bool d.out, .int .i64 d.line] 38 (0, 0)) := by rw [← hW1]; exact World.alloc_heap_new wr _
        have b1 : Below wr.heap.size wr W1 := by rw [← hW1]; exact alB _ _
        have HR1 := Lib.hid hr1
        have HBr := Lib.hid hB
        have HBW := Lib.hid (hB.trans (b1.mono hB.size))
        have cU1 : W1.cell? (aU.add k) = some (.slice o' rs.length cap') := (b1.cell haul).trans cU
        have haul1 : (aU.add k).block < W1.heap.size := Nat.lt_of_lt_of_le haul b1.size
        have R1' := RwsS.past R1 b1
        have HRi := Lib.hid (prise_c rs _ W1 R1')
        have SR' := R1'
        have HT : Hid (SlOf W1 W1.heap.size 1 IntC d.types (.slice u1 d.types.length v1)) := Lib.hid (by
          obtain ⟨_, _, _, _, e, _, _, _, hT⟩ := HDc.out.look
          cases e
          exact SlOf.int hT b1 b1.size)
        have HU1 := Lib.hid cU1
        have HAl := Lib.hid haul1
        clear hdk hrs R1 hr1 b1 R1' hB HDc hO
        go_wp2_with fail
        (try rw [hW1])
        refine HRi.out.mono ?_
        rintro e w2 ⟨rfl, b2⟩
        have HBk := Lib.hid (HBW.out.trans (b2.mono HBW.out.size))
        have HR2 := Lib.hid ((b2.block _ (heap_lt HR1.out)).trans HR1.out)
        have cU2 : w2.cell? (aU.add k) = some (.slice o' rs.length cap') := (b2.cell HAl.out).trans HU1.out
        have hal2 : (aU.add k).block < w2.heap.size := Nat.lt_of_lt_of_le HAl.out b2.size
        have HT2 := Lib.hid (SlOf.int HT.out b2 b2.size)
        have R2 := RwsS.past SR' b2
        obtain ⟨oR, cR, eR, _, _, SR⟩ := SlOf.open R2
        cases eR
        have HB2 : Hid (Below w2.heap.size w2 w2) := Lib.hid (Below.refl _ _)
        clear b2 R2 cU1 haul1 SR'
        cases hrise : riseL rwC rs with
        | false =>
          have HF : Hid (fitA ds all = false) := Lib.hid (by rw [Hst.out]; unfold fitG; rw [hrise]; rfl)
          clear hrise
          go_wp2
          go_ret
          exact ⟨by rw [HF.out]; rfl, HBk.out⟩
        | true =>
          have HO2 : Hid (fitG (d, rs) = (rs.drop 0).all (fitR d.types)) := Lib.hid (by unfold fitG; rw [hrise]; rfl)
          clear hrise
          go_wp2
          clear cU2 hal2
          go_loopw [32] (fun i wq => ∃ j : Nat, j ≤ rs.length ∧ i = .int .i64 (j : Int) ∧ Hid (fitG (d, rs) = (rs.drop j).all (fitR d.types)) ∧ Below w2.heap.size w2 wq) (fun i _ => rs.length - (intOf i).toNat)
          case atStart => exact ⟨0, Nat.zero_le _, rfl, HO2, HB2.out⟩
          case round =>
            obtain ⟨j, hj, rfl, hO2, hB⟩ := hrel
            have hBs := hB.size
            have hrow := (hB.block _ (heap_lt HR2.out)).trans HR2.out
            have hzb := heap_lt hrow
            by_cases hjl : j < rs.length
            · have hjl' : (j : Int) < (rs.length : Int) := by omega
              have hj0 : (0 : Int) ≤ (j : Int) := by omega
              obtain ⟨r, hr⟩ : ∃ r, rs[j]? = some r := ⟨rs[j], List.getElem?_eq_getElem hjl⟩
              obtain ⟨a3, o3, c3, rfl, ha3, hX, cX, _⟩ := rw_at SR hB hr
              have hal3 : (a3.add j).block < wr.heap.size := by rw [addBlock]; omega
              have Hst2 := Lib.hid (hO2.out.trans (allR_drop hr))
              have HFt := Lib.hid (fits_c r d.types _ _ wr hX.out (SlOf.int HT2.out hB hB.size))
              have x2 := row_cells hrow 2
              have HB4 := Lib.hid hB
              clear hr hB hrow
              go_wp2_with fail
              refine HFt.out.mono ?_
              rintro e w4 ⟨rfl, b4⟩
              have HB5 := Lib.hid (HB4.out.trans (b4.mono hBs))
              clear b4 x2 cX
              cases hf : fitR d.types r with
              | false =>
                have HF : Hid (fitA ds all = false) := Lib.hid (by rw [Hst.out, Hst2.out, hf]; rfl)
                clear hf
                go_wp2
                go_ret
                exact ⟨by rw [HF.out]; rfl, HBk.out.trans (HB5.out.mono HBk.out.size)⟩
              | true =>
                have Hn : Hid (fitG (d, rs) = (rs.drop (j + 1)).all (fitR d.types)) := Lib.hid (by rw [Hst2.out, hf]; rfl)
                clear hf
                go_wp2
                go_roundw
                case rel => exact ⟨j + 1, by omega, by go_num, Hn, HB5.out⟩
                case measure => simp [intOf]; omega
            · have hjl' : ¬ (j : Int) < (rs.length : Int) := by omega
              have Hn : Hid (fitA ds all = ((ds.zip all).drop (k + 1)).all fitG) := Lib.hid (by
                rw [Hst.out, hO2.out, List.drop_of_length_le (by omega)]; rfl)
              have HB5 := Lib.hid (HBk.out.trans (hB.mono HBk.out.size))
              clear hrow hB
              go_wp2
              go_roundw
              case rel => exact ⟨k + 1, by omega, by go_num, Hn, HB5.out⟩
              case measure => simp [intOf]; omega
      · have hlt' : ¬ (k : Int) < (ds.length : Int) := by omega
        have HF : Hid (fitA ds all = true) := Lib.hid (by rw [hO.out, List.drop_of_length_le (by rw [List.length_zip]; omega)]; rfl)
        go_wp2
        go_ret
        exact ⟨by rw [HF.out]; rfl, hB⟩
end Go.Proofs.YthhepmddcncjoaaGreatDoor
namespace Go.Proofs.YthhepmddcncjoaaGreatDoor
open Go.RowKit

def slotsT : List (Option Tmp) := [some 46, some 47, some 48, some 49, some 50, some 51, some 52, some 53, some 54, some 55, some 56, some 57, some 58, some 45, some 59, some 60, some 11, some 12]
def eqF (vs : List Value) : List (Value → World → Prop) := vs.map fun x u _ => u = x
theorem eqF_mono (vs : List Value) : ∀ p ∈ eqF vs, ∀ v w w', p v w → Below w.heap.size w w' → p v w' := by
  intro p hp v w w' h _
  unfold eqF at hp
  obtain ⟨x, _, rfl⟩ := List.mem_map.1 hp
  exact h
theorem eqF_mk {vs : List Value} {j : Nat} {v : Value} {w : World} (h : vs[j]? = some v) : factG (eqF vs) j v w := by
  intro p hp
  unfold eqF at hp
  rw [List.getElem?_map, h] at hp
  cases hp
  rfl
theorem eqF_at {vs : List Value} {j : Nat} {v x : Value} {w : World} (h : factG (eqF vs) j v w) (hx : vs[j]? = some x) : v = x := by
  have := h (fun u _ => u = x) (by unfold eqF; rw [List.getElem?_map, hx]; rfl)
  exact this
def tellV (b f : Bool) (x : List UInt8) : Value := if b = true then lineV (codeL f) x else lineV 30 x
theorem rowsT_step {rel : ByteArray} {rs : List Rw} {k : Nat} {r : Rw} (h : rs[k]? = some r) (l : List UInt8) : l ++ rowsT rel (rs.take (k + 1)) = (l ++ rowsT rel (rs.take k)) ++ lineT rel r := by
  rw [rowsT_take h, List.append_assoc]
set_option maxRecDepth 100000 in
set_option maxHeartbeats 8000000 in
theorem rtell_c (p : Pg) (all : List (List Rw)) (v : Value) (w : World) (cs : List Value) (hc : PgC w w.heap.size p cs) (hu : SlOf w w.heap.size 1 (RwsC w w.heap.size) all v) (hs : ∀ rs ∈ all, ∀ r ∈ rs, ∀ x ∈ r, x.s.size ≤ 5000) (hT : rightP p = true → fitA p.decls all = true → (tellT p.decls all).length ≤ 200000) :
    Calls Tryz.prog 20 #[.agg cs.toArray, v] w fun e w' => e = .returned (tellV (rightP p) (fitA p.decls all) (tellT p.decls all)) ∧ Below w.heap.size w w' := by
  have HR := Lib.hid (fun (W : World) (hb : Below w.heap.size w W) => rright_c p W cs ((hc.below hb).more hb.size))
  have HF := Lib.hid (fun (hr : rightP p = true) (W : World) (hb : Below w.heap.size w W) => rfits_c p all v W cs ((hc.below hb).more hb.size) hr (rows_pastF hu hb))
  obtain ⟨o0, k0, o1, k1, rfl, hd, _⟩ := hc.look
  obtain ⟨ov, cv, e0, hcv, hmv, SV⟩ := SlOf.open hd
  cases e0
  obtain ⟨ou, cu, rfl, hcu, hmu, SU⟩ := SlOf.open hu
  have HB0 : Hid (∀ (x : Obj), Below w.heap.size w (w.alloc x)) := Lib.hid fun x => alB w x
  have HS := Lib.hid hs
  have HTl := Lib.hid hT
  clear hc hd hu hs hT
  go_enter Tryz.func20, Tryz.ntmps20
  go_wp2_with fail
  refine (HR.out _ (HB0.out _)).mono ?_
  rintro e w1 ⟨rfl, b1⟩
  have r1 := (b1.block w.heap.size (by simp)).trans (rowNew w 25 [.slice o0 p.decls.length k0, .slice o1 p.rules.length k1])
  have B1 := Lib.hid ((HB0.out (.cells #[.slice o0 p.decls.length k0, .slice o1 p.rules.length k1] 25)).trans (b1.mono (by simp)))
  have HR1 := Lib.hid r1
  have c0 : w1.cell? ⟨w.heap.size, 0, none⟩ = some (.slice o0 p.decls.length k0) := row_cells r1 0
  have c1 : w1.cell? ⟨w.heap.size, 1, none⟩ = some (.slice o1 p.rules.length k1) := row_cells r1 1
  have hz1 := heap_lt r1
  clear b1 r1
  cases hr : rightP p with
  | false =>
    have Hr := Lib.hid hr
    clear hr
    go_wp2
    go_ret2
    exact ⟨by rw [Hr.out]; rfl, B1.out⟩
  | true =>
    have HF1 := Lib.hid (HF.out hr w1 B1.out)
    have HT1 := Lib.hid (HTl.out hr)
    have Hr := Lib.hid hr
    have hrD : Hid (∀ d ∈ p.decls, rightD d = true) := Lib.hid (by
      unfold rightP at hr
      simp only [Bool.and_eq_true, decide_eq_true_eq, List.all_eq_true] at hr
      exact hr.1.2)
    clear hr
    go_wp2_with fail
    refine HF1.out.mono ?_
    rintro e w2 ⟨rfl, b2⟩
    have B2 := Lib.hid (B1.out.trans (b2.mono B1.out.size))
    have HR2 := Lib.hid ((b2.block _ (heap_lt HR1.out)).trans HR1.out)
    clear b2 c0 c1 hz1
    cases hf : fitA p.decls all with
    | false =>
      have Hf := Lib.hid hf
      clear hf
      go_wp2
      go_ret2
      exact ⟨by rw [Hr.out, Hf.out]; rfl, B2.out⟩
    | true =>
      have Hf := Lib.hid hf
      have HT2 := Lib.hid (HT1.out hf)
      have Hl := Lib.hid (fitA_len hf)
      have HBz : Hid (Below w2.heap.size w2 w2) := Lib.hid (Below.refl _ _)
      clear hf
      go_wp2
      go_loopw [8, 9] (fun u i wr => ∃ (k : Nat) (acc : List UInt8), k ≤ all.length ∧ i = .int .i64 (k : Int) ∧ u = .string ⟨acc.toArray⟩ ∧ Hid (acc = tellP p.decls all k) ∧ Below w2.heap.size w2 wr) (fun _ i _ => all.length - (intOf i).toNat)
      case atStart => exact ⟨0, [], Nat.zero_le _, rfl, rfl, Lib.hid (by simp [tellP]), HBz.out⟩
      case round =>
        obtain ⟨k, acc, hk, rfl, rfl, hacc, hB⟩ := hrel
        have hrow := (hB.block _ (heap_lt HR2.out)).trans HR2.out
        have hBw := B2.out.trans (hB.mono B2.out.size)
        have hBs := hBw.size
        by_cases hlt : k < all.length
        · have hlt' : (k : Int) < (all.length : Int) := by omega
          have hlt2 : (k : Int) < (p.decls.length : Int) := by have := Hl.out; omega
          have hk0 : (0 : Int) ≤ (k : Int) := by omega
          obtain ⟨d, hdk⟩ : ∃ d, p.decls[k]? = some d := ⟨p.decls[k]'(by have := Hl.out; omega), List.getElem?_eq_getElem _⟩
          obtain ⟨rs, hrs⟩ : ∃ rs, all[k]? = some rs := ⟨all[k], List.getElem?_eq_getElem hlt⟩
          obtain ⟨aU, oR, cap', rfl, haU, R1, cU⟩ := rws_at SU hBw hrs
          have haul : (aU.add k).block < wr.heap.size := by rw [addBlock]; omega
          have Hst := Lib.hid (tellP_step hdk hrs)
          have HFt := Lib.hid ((fitA_at Hf.out hdk hrs).2)
          have HSr := Lib.hid (HS.out rs (List.mem_of_getElem? hrs))
          have Hdk := Lib.hid hdk
          have hrd := hrD.out d (List.mem_of_getElem? hdk)
          have HRl : Hid (d.rel.size ≤ 1048576) := Lib.hid (by have := (right_De hrd).2.1; omega)
          have HTy : Hid (d.types.length ≤ 8) := Lib.hid (right_De hrd).2.2.1
          clear hrd
          obtain ⟨oR', cR', eR, _, _, SR⟩ := SlOf.open R1
          cases eR
          have Hup : Hid ((tellP p.decls all (k + 1)).length ≤ 200000) := Lib.hid (Nat.le_trans (tellP_upto _ _ _) HT2.out)
          have HBk := Lib.hid hB
          have HBw := Lib.hid hBw
          have HRw := Lib.hid hrow
          obtain ⟨wk, rfl⟩ : ∃ wk, wk = wr := ⟨_, rfl⟩
          have HcU := Lib.hid cU
          have HaU := Lib.hid haul
          have HBz2 : Hid (Below wk.heap.size wk wk) := Lib.hid (Below.refl _ _)
          obtain ⟨aD, u0, v0, u1, v1, rfl, haD, HDc0, g0, g1, g2, g3, g4, g5⟩ := de_at SV HBw.out hdk
          have HG := Lib.hid (And.intro g0 (And.intro g1 (And.intro g2 (And.intro g3 (And.intro g4 g5)))))
          clear hrs hdk R1 hB hBw cU haul hrow g0 g1 g2 g3 g4 g5
          cases hout : d.out with
          | false =>
            have HN : Hid (acc = tellP p.decls all (k + 1)) := Lib.hid (by
              rw [Hst.out, hacc.out]
              unfold tellG
              rw [hout]; simp)
            have hrow := HRw.out
            have x0 : wk.cell? ⟨w.heap.size, 0, none⟩ = some (.slice (some aD) p.decls.length k0) := row_cells hrow 0
            have x4 := HG.out.2.2.2.2.1
            rw [hout] at x4
            have cU := HcU.out
            have haul := HaU.out
            have hadl : (aD.add (k * 6)).block < wk.heap.size := by rw [addBlock]; omega
            have hzb := heap_lt hrow
            clear hrow hout hacc
            go_wp2
            go_loopw [8, 10] (fun u i wq => u = .string ⟨acc.toArray⟩ ∧ i = .int .i64 0 ∧ wq = wk) (fun _ _ _ => 0)
            case atStart => exact ⟨rfl, rfl, rfl⟩
            case round =>
              obtain ⟨rfl, rfl, rfl⟩ := hrel
              by_cases hz0 : (0 : Int) < (rs.length : Int)
              · go_wp2
                go_roundw
                case rel => exact ⟨k + 1, acc, hlt, by go_num, rfl, HN, HBk.out⟩
                case measure => simp [intOf]; omega
              · go_wp2
                go_roundw
                case rel => exact ⟨k + 1, acc, hlt, by go_num, rfl, HN, HBk.out⟩
                case measure => simp [intOf]; omega
          | true =>
            have HSt : Hid (tellP p.decls all (k + 1) = acc ++ rowsT d.rel rs) := Lib.hid (by
              rw [Hst.out, hacc.out]
              unfold tellG
              rw [hout]; simp)
            have hrow := HRw.out
            have x0 : wk.cell? ⟨w.heap.size, 0, none⟩ = some (.slice (some aD) p.decls.length k0) := row_cells hrow 0
            have x4 := HG.out.2.2.2.2.1
            rw [hout] at x4
            have cU := HcU.out
            have haul := HaU.out
            have hadl : (aD.add (k * 6)).block < wk.heap.size := by rw [addBlock]; omega
            have hzb := heap_lt hrow
            have Hout := Lib.hid hout
            clear hrow hout hacc
            go_wp2
            clear x0 x4 cU haul hadl hzb
            go_loopw [8, 10] (fun u i wq => ∃ (j : Nat) (acj : List UInt8), j ≤ rs.length ∧ i = .int .i64 (j : Int) ∧ u = .string ⟨acj.toArray⟩ ∧ Hid (acj = acc ++ rowsT d.rel (rs.take j)) ∧ Below wk.heap.size wk wq) (fun _ i _ => rs.length - (intOf i).toNat)
            case atStart => exact ⟨0, acc, Nat.zero_le _, rfl, rfl, Lib.hid (by simp [rowsT]), HBz2.out⟩
            case round =>
              obtain ⟨j, acj, hj, rfl, rfl, hacj, hB⟩ := hrel
              have hBs2 := hB.size
              have hrow := (hB.block _ (heap_lt HRw.out)).trans HRw.out
              have hzb := heap_lt hrow
              have hadl : (aD.add (k * 6)).block < wr.heap.size := by rw [addBlock]; omega
              have haul : (aU.add k).block < wr.heap.size := Nat.lt_of_lt_of_le HaU.out hBs2
              have cU := (hB.cell HaU.out).trans HcU.out
              have hadk : (aD.add (k * 6)).block < wk.heap.size := by rw [addBlock]; omega
              have e0 := (hB.cell hadk).trans HG.out.1
              have e1 := (hB.cell (p := ⟨(aD.add (k * 6)).block, (aD.add (k * 6)).off + 1, none⟩) hadk).trans HG.out.2.1
              have e2 := (hB.cell (p := ⟨(aD.add (k * 6)).block, (aD.add (k * 6)).off + 2, none⟩) hadk).trans HG.out.2.2.1
              have e3 := (hB.cell (p := ⟨(aD.add (k * 6)).block, (aD.add (k * 6)).off + 3, none⟩) hadk).trans HG.out.2.2.2.1
              have e4 := (hB.cell (p := ⟨(aD.add (k * 6)).block, (aD.add (k * 6)).off + 4, none⟩) hadk).trans HG.out.2.2.2.2.1
              have e5 := (hB.cell (p := ⟨(aD.add (k * 6)).block, (aD.add (k * 6)).off + 5, none⟩) hadk).trans HG.out.2.2.2.2.2
              by_cases hjl : j < rs.length
              · have hjl' : (j : Int) < (rs.length : Int) := by omega
                have hj0 : (0 : Int) ≤ (j : Int) := by omega
                obtain ⟨r, hr⟩ : ∃ r, rs[j]? = some r := ⟨rs[j], List.getElem?_eq_getElem hjl⟩
                obtain ⟨aR, o3, c3, rfl, haR, hX, cR, _⟩ := rw_at SR hB hr
                have har : (aR.add j).block < wr.heap.size := by rw [addBlock]; omega
                have hfr := HFt.out r (List.mem_of_getElem? hr)
                have hx5 := HSr.out r (List.mem_of_getElem? hr)
                have hDe := Lib.hid ((HDc0.out.below hB).more hB.size)
                have hlen := fitR_len hfr
                have HC : Hid (∀ W', Below wr.heap.size wr.drew W' → Calls Tryz.prog 18 #[.agg #[.string d.rel, .slice u0 d.names.length v0, .slice u1 d.types.length v1, .bool d.inn, .bool d.out, .int .i64 d.line], .slice o3 r.length c3] W' fun e w' => e = .returned (.tuple #[.string ⟨(lineT d.rel r).toArray⟩, .int .i64 0]) ∧ Below W'.heap.size W' w') := Lib.hid fun W' h => by
                  have hb2 : Below wr.heap.size wr W' := drewB h
                  refine (rline_c d r _ W' [.string d.rel, .slice u0 d.names.length v0, .slice u1 d.types.length v1, .bool d.inn, .bool d.out, .int .i64 d.line] ((hDe.out.below hb2).more hb2.size) (VlS.past hX.out hb2) hx5 (by have := HTy.out; omega) HRl.out).mono ?_
                  rintro e w' ⟨rfl, b⟩
                  exact ⟨by rw [hfr]; rfl, b⟩
                have Hj : Hid (acj ++ lineT d.rel r = acc ++ rowsT d.rel (rs.take (j + 1))) := Lib.hid (by rw [rowsT_step hr, ← hacj.out])
                have hle : acj.length + (lineT d.rel r).length ≤ 200000 := by
                  have h1 := congrArg List.length Hj.out
                  rw [List.length_append, List.length_append] at h1
                  have h2 := rowsT_upto d.rel rs (j + 1)
                  have h3 := Hup.out
                  rw [HSt.out, List.length_append] at h3
                  omega
                have ee : ¬ 9223372036854775807 < acj.length + (lineT d.rel r).length := by omega
                have HBk1 := Lib.hid hB
                have ho4 := Hout.out
                have e4' := e4
                rw [ho4] at e4'
                have x0 : wr.cell? ⟨w.heap.size, 0, none⟩ = some (.slice (some aD) p.decls.length k0) := row_cells hrow 0
                clear hr hB hX hfr hx5 hlen hacj hle
                obtain ⟨vs, hvs⟩ : ∃ vs : List Value, vs = [.pointer (some ⟨w.heap.size, 0, none⟩), .slice (some aD) p.decls.length k0, .int .i64 (k : Int), .pointer (some (aD.add (k * 6))), .agg #[.string d.rel, .slice u0 d.names.length v0, .slice u1 d.types.length v1, .bool d.inn, .bool d.out, .int .i64 d.line], .slice (some aU) all.length cu, .int .i64 (k : Int), .pointer (some (aU.add k)), .slice (some aR) rs.length cap', .int .i64 (j : Int), .pointer (some (aR.add j)), .slice o3 r.length c3, .tuple #[.string ⟨(lineT d.rel r).toArray⟩, .int .i64 0], .tuple #[.string ⟨(lineT d.rel r).toArray⟩, .int .i64 0], .string ⟨(lineT d.rel r).toArray⟩, .int .i64 0, .string ⟨(lineT d.rel r).toArray⟩, .int .i64 0] := ⟨_, rfl⟩
                have q0 : vs[0]? = some (.pointer (some ⟨w.heap.size, 0, none⟩)) := by rw [hvs]; rfl
                have q1 : vs[1]? = some (.slice (some aD) p.decls.length k0) := by rw [hvs]; rfl
                have q2 : vs[2]? = some (.int .i64 (k : Int)) := by rw [hvs]; rfl
                have q3 : vs[3]? = some (.pointer (some (aD.add (k * 6)))) := by rw [hvs]; rfl
                have q4 : vs[4]? = some (.agg #[.string d.rel, .slice u0 d.names.length v0, .slice u1 d.types.length v1, .bool d.inn, .bool d.out, .int .i64 d.line]) := by rw [hvs]; rfl
                have q5 : vs[5]? = some (.slice (some aU) all.length cu) := by rw [hvs]; rfl
                have q6 : vs[6]? = some (.int .i64 (k : Int)) := by rw [hvs]; rfl
                have q7 : vs[7]? = some (.pointer (some (aU.add k))) := by rw [hvs]; rfl
                have q8 : vs[8]? = some (.slice (some aR) rs.length cap') := by rw [hvs]; rfl
                have q9 : vs[9]? = some (.int .i64 (j : Int)) := by rw [hvs]; rfl
                have q10 : vs[10]? = some (.pointer (some (aR.add j))) := by rw [hvs]; rfl
                have q11 : vs[11]? = some (.slice o3 r.length c3) := by rw [hvs]; rfl
                have q12 : vs[12]? = some (.tuple #[.string ⟨(lineT d.rel r).toArray⟩, .int .i64 0]) := by rw [hvs]; rfl
                have q13 : vs[13]? = some (.tuple #[.string ⟨(lineT d.rel r).toArray⟩, .int .i64 0]) := by rw [hvs]; rfl
                have q14 : vs[14]? = some (.string ⟨(lineT d.rel r).toArray⟩) := by rw [hvs]; rfl
                have q15 : vs[15]? = some (.int .i64 0) := by rw [hvs]; rfl
                have q16 : vs[16]? = some (.string ⟨(lineT d.rel r).toArray⟩) := by rw [hvs]; rfl
                have q17 : vs[17]? = some (.int .i64 0) := by rw [hvs]; rfl
                clear hvs
                go_wp2_with fail
                refine wp_region_any (by kernel_rfl) ?_
                (try (change wpAny _ _ _ _ _ _ _ (World.drew _)))
                refine wpAny_grow slotsT _ _ (eqF vs) (by kernel_rfl) (by kernel_rfl) (by kernel_rfl) (by kernel_rfl) (by kernel_rfl) (eqF_mono vs) ⟨?s0, ?s1, ?s2, ?s3, ?s4, ?s5, ?s6, ?s7, ?s8, ?s9, ?s10, ?s11, ?s12, ?s13, ?s14, ?s15, ?s16, ?s17, trivial⟩ ?fin
                case s0 =>
                  intro A w' K hb hfar hd hK
                  have f0 : A.tmps[2]?.getD undef = .pointer (some ⟨w.heap.size, 0, none⟩) := hfar 2 (by decide)
                  unfold Oper.wp
                  simp [execOp, f0, go_sem, Result.andThen]
                  exact hK _ _ (Below.refl _ _) (eqF_mk q0)
                case s1 =>
                  intro A w' K hb hfar hd hK
                  have d0 : A.tmps[46]?.getD undef = .pointer (some ⟨w.heap.size, 0, none⟩) := eqF_at (hd 0 46 rfl (by kernel_rfl)) q0
                  have y0 := (hb.cell (p := ⟨w.heap.size, 0, none⟩) hzb).trans x0
                  unfold Oper.wp
                  simp [execOp, d0, y0, hzb, go_sem, Result.andThen]
                  exact hK _ _ (Below.refl _ _) (eqF_mk q1)
                case s2 =>
                  intro A w' K hb hfar hd hK
                  have f0 : A.tmps[9]?.getD undef = .int .i64 (k : Int) := hfar 9 (by decide)
                  unfold Oper.wp
                  simp [execOp, f0, go_sem, Result.andThen]
                  exact hK _ _ (Below.refl _ _) (eqF_mk q2)
                case s3 =>
                  intro A w' K hb hfar hd hK
                  have d1 : A.tmps[47]?.getD undef = .slice (some aD) p.decls.length k0 := eqF_at (hd 1 47 rfl (by kernel_rfl)) q1
                  have d2 : A.tmps[48]?.getD undef = .int .i64 (k : Int) := eqF_at (hd 2 48 rfl (by kernel_rfl)) q2
                  unfold Oper.wp
                  simp [execOp, d1, d2, hlt2, hk0, go_sem, Result.andThen]
                  exact hK _ _ (Below.refl _ _) (eqF_mk q3)
                case s4 =>
                  intro A w' K hb hfar hd hK
                  have d3 : A.tmps[49]?.getD undef = .pointer (some (aD.add (k * 6))) := eqF_at (hd 3 49 rfl (by kernel_rfl)) q3
                  have y0 := (hb.cell (p := (aD.add (k * 6))) hadl).trans e0
                  have y1 := (hb.cell (p := ⟨(aD.add (k * 6)).block, (aD.add (k * 6)).off + 1, none⟩) hadl).trans e1
                  have y2 := (hb.cell (p := ⟨(aD.add (k * 6)).block, (aD.add (k * 6)).off + 2, none⟩) hadl).trans e2
                  have y3 := (hb.cell (p := ⟨(aD.add (k * 6)).block, (aD.add (k * 6)).off + 3, none⟩) hadl).trans e3
                  have y4 := (hb.cell (p := ⟨(aD.add (k * 6)).block, (aD.add (k * 6)).off + 4, none⟩) hadl).trans e4
                  have y5 := (hb.cell (p := ⟨(aD.add (k * 6)).block, (aD.add (k * 6)).off + 5, none⟩) hadl).trans e5
                  unfold Oper.wp
                  simp [execOp, d3, y0, y1, y2, y3, y4, y5, go_sem, Result.andThen]
                  exact hK _ _ (Below.refl _ _) (eqF_mk q4)
                case s5 =>
                  intro A w' K hb hfar hd hK
                  have f0 : A.tmps[1]?.getD undef = .slice (some aU) all.length cu := hfar 1 (by decide)
                  unfold Oper.wp
                  simp [execOp, f0, go_sem, Result.andThen]
                  exact hK _ _ (Below.refl _ _) (eqF_mk q5)
                case s6 =>
                  intro A w' K hb hfar hd hK
                  have f0 : A.tmps[9]?.getD undef = .int .i64 (k : Int) := hfar 9 (by decide)
                  unfold Oper.wp
                  simp [execOp, f0, go_sem, Result.andThen]
                  exact hK _ _ (Below.refl _ _) (eqF_mk q6)
                case s7 =>
                  intro A w' K hb hfar hd hK
                  have d5 : A.tmps[51]?.getD undef = .slice (some aU) all.length cu := eqF_at (hd 5 51 rfl (by kernel_rfl)) q5
                  have d6 : A.tmps[52]?.getD undef = .int .i64 (k : Int) := eqF_at (hd 6 52 rfl (by kernel_rfl)) q6
                  unfold Oper.wp
                  simp [execOp, d5, d6, hlt', hk0, go_sem, Result.andThen]
                  exact hK _ _ (Below.refl _ _) (eqF_mk q7)
                case s8 =>
                  intro A w' K hb hfar hd hK
                  have d7 : A.tmps[53]?.getD undef = .pointer (some (aU.add k)) := eqF_at (hd 7 53 rfl (by kernel_rfl)) q7
                  have y0 := (hb.cell haul).trans cU
                  unfold Oper.wp
                  simp [execOp, d7, y0, go_sem, Result.andThen]
                  exact hK _ _ (Below.refl _ _) (eqF_mk q8)
                case s9 =>
                  intro A w' K hb hfar hd hK
                  have f0 : A.tmps[10]?.getD undef = .int .i64 (j : Int) := hfar 10 (by decide)
                  unfold Oper.wp
                  simp [execOp, f0, go_sem, Result.andThen]
                  exact hK _ _ (Below.refl _ _) (eqF_mk q9)
                case s10 =>
                  intro A w' K hb hfar hd hK
                  have d8 : A.tmps[54]?.getD undef = .slice (some aR) rs.length cap' := eqF_at (hd 8 54 rfl (by kernel_rfl)) q8
                  have d9 : A.tmps[55]?.getD undef = .int .i64 (j : Int) := eqF_at (hd 9 55 rfl (by kernel_rfl)) q9
                  unfold Oper.wp
                  simp [execOp, d8, d9, hjl', hj0, go_sem, Result.andThen]
                  exact hK _ _ (Below.refl _ _) (eqF_mk q10)
                case s11 =>
                  intro A w' K hb hfar hd hK
                  have d10 : A.tmps[56]?.getD undef = .pointer (some (aR.add j)) := eqF_at (hd 10 56 rfl (by kernel_rfl)) q10
                  have y0 := (hb.cell har).trans cR
                  unfold Oper.wp
                  simp [execOp, d10, y0, go_sem, Result.andThen]
                  exact hK _ _ (Below.refl _ _) (eqF_mk q11)
                case s12 =>
                  intro A w' K hb hfar hd hK
                  have d4 : A.tmps[50]?.getD undef = .agg #[.string d.rel, .slice u0 d.names.length v0, .slice u1 d.types.length v1, .bool d.inn, .bool d.out, .int .i64 d.line] := eqF_at (hd 4 50 rfl (by kernel_rfl)) q4
                  have d11 : A.tmps[57]?.getD undef = .slice o3 r.length c3 := eqF_at (hd 11 57 rfl (by kernel_rfl)) q11
                  unfold Oper.wp
                  simp [execOp, d4, d11, go_sem, Result.andThen]
                  refine (HC.out w' hb).mono ?_
                  rintro e9 w9 ⟨rfl, b9⟩
                  exact hK _ _ b9 (eqF_mk q12)
                case s13 =>
                  intro A w' K hb hfar hd hK
                  have d12 : A.tmps[58]?.getD undef = .tuple #[.string ⟨(lineT d.rel r).toArray⟩, .int .i64 0] := eqF_at (hd 12 58 rfl (by kernel_rfl)) q12
                  unfold Oper.wp
                  simp [execOp, d12, go_sem, Result.andThen]
                  exact hK _ _ (Below.refl _ _) (eqF_mk q13)
                case s14 =>
                  intro A w' K hb hfar hd hK
                  have d13 : A.tmps[45]?.getD undef = .tuple #[.string ⟨(lineT d.rel r).toArray⟩, .int .i64 0] := eqF_at (hd 13 45 rfl (by kernel_rfl)) q13
                  unfold Oper.wp
                  simp [execOp, d13, go_sem, Result.andThen]
                  exact hK _ _ (Below.refl _ _) (eqF_mk q14)
                case s15 =>
                  intro A w' K hb hfar hd hK
                  have d13 : A.tmps[45]?.getD undef = .tuple #[.string ⟨(lineT d.rel r).toArray⟩, .int .i64 0] := eqF_at (hd 13 45 rfl (by kernel_rfl)) q13
                  unfold Oper.wp
                  simp [execOp, d13, go_sem, Result.andThen]
                  exact hK _ _ (Below.refl _ _) (eqF_mk q15)
                case s16 =>
                  intro A w' K hb hfar hd hK
                  have d14 : A.tmps[59]?.getD undef = .string ⟨(lineT d.rel r).toArray⟩ := eqF_at (hd 14 59 rfl (by kernel_rfl)) q14
                  unfold Oper.wp
                  simp [execOp, d14, go_sem, Result.andThen]
                  exact hK _ _ (Below.refl _ _) (eqF_mk q16)
                case s17 =>
                  intro A w' K hb hfar hd hK
                  have d15 : A.tmps[60]?.getD undef = .int .i64 0 := eqF_at (hd 15 60 rfl (by kernel_rfl)) q15
                  unfold Oper.wp
                  simp [execOp, d15, go_sem, Result.andThen]
                  exact hK _ _ (Below.refl _ _) (eqF_mk q17)
                case fin =>
                  intro val w5 hall hb5
                  have v16 := eqF_at (hall 16 11 rfl) q16
                  have v17 := eqF_at (hall 17 12 rfl) q17
                  have HB4 := Lib.hid (HBk1.out.trans ((drewB hb5).mono hBs2))
                  simp only [slotsT, putsA, Nat.zero_add, Nat.reduceAdd]
                  rw [v16, v17]
                  generalize val 0 = z0
                  generalize val 1 = z1
                  generalize val 2 = z2
                  generalize val 3 = z3
                  generalize val 4 = z4
                  generalize val 5 = z5
                  generalize val 6 = z6
                  generalize val 7 = z7
                  generalize val 8 = z8
                  generalize val 9 = z9
                  generalize val 10 = z10
                  generalize val 11 = z11
                  generalize val 12 = z12
                  generalize val 13 = z13
                  generalize val 14 = z14
                  generalize val 15 = z15
                  clear hall v16 v17 hb5 hrow e0 e1 e2 e3 e4 e5 cU x0 q0 q1 q2 q3 q4 q5 q6 q7 q8 q9 q10 q11 q12 q13 q14 q15 q16 q17
                  go_simp
                  go_wp2
                  go_roundw
                  case rel => exact ⟨j + 1, acj ++ lineT d.rel r, by omega, by go_num, str_app _ _, Hj, HB4.out⟩
                  case measure => simp [intOf]; omega
              · have hjl' : ¬ (j : Int) < (rs.length : Int) := by omega
                have HN : Hid (acj = tellP p.decls all (k + 1)) := Lib.hid (by
                  rw [hacj.out, HSt.out, List.take_of_length_le (by omega)])
                have HB4 := Lib.hid (HBk.out.trans (hB.mono HBk.out.size))
                clear hB hrow hacj e0 e1 e2 e3 e4 e5
                go_wp2
                go_roundw
                case rel => exact ⟨k + 1, acj, hlt, by go_num, rfl, HN, HB4.out⟩
                case measure => simp [intOf]; omega
        · have hlt' : ¬ (k : Int) < (all.length : Int) := by omega
          have HF' : Hid (acc = tellT p.decls all) := Lib.hid (by
            rw [hacc.out, show k = p.decls.length by have := Hl.out; omega, tellP_all Hl.out.symm])
          have HBw := Lib.hid hBw
          clear hB hBw hrow hacc
          go_wp2
          go_ret2
          exact ⟨by rw [HF'.out, Hr.out, Hf.out]; rfl, HBw.out⟩
end Go.Proofs.YthhepmddcncjoaaGreatDoor
namespace Go.Proofs.YthhepmddcncjoaaGreatDoor
open Go.RowKit

/-- Each operation but the last has one behind it that hangs on it. -/
def succOk (ops : Array Oper) (n : Nat) (succ : List Nat) : Bool := (List.range n).all fun i => match succ[i]? with
  | some s => decide (i < s) && decide (s ≤ n) && (match ops[s]? with | some o => depG o i | none => false)
  | none => false
/-- What is asked of the last one. -/
def LStep (P : Program) (Q : Exit → Act → World → Prop) (slots : List (Option Tmp)) (Rs : List (Value → World → Prop)) (a0 : Act) (w0 : World) (i : Nat) (o : Oper) (Fin : (Nat → Value) → World → Prop) : Prop :=
  ∀ (A : Act) (w : World) (val : Nat → Value) (K : Act → World → Prop), Below w0.heap.size w0 w → (∀ s, (some s) ∉ slots → A.tmps[s]?.getD undef = a0.tmps[s]?.getD undef) →
    (∀ j s, slots[j]? = some (some s) → depG o j = true → factG Rs j (A.tmps[s]?.getD undef) w ∧ A.tmps[s]?.getD undef = val j) → (∀ j s, slots[j]? = some (some s) → j < i → factG Rs j (val j) w) →
    (∀ v w', Fin (updV val i v) w' → K (A.put o.dst v) w') → o.wp P A w K Q
theorem wpAny_last {P : Program} {ops : Array Oper} {Q : Exit → Act → World → Prop} (n : Nat) (succ : List Nat) (slots : List (Option Tmp)) (a0 : Act) (w0 : World) (Rs : List (Value → World → Prop)) (hn : ops.size = n + 1) (hsucc : succOk ops n succ = true) (hdst : ops.toList.map (·.dst) = slots) (hok : slotsOk slots = true) (Fin : (Nat → Value) → World → Prop)
    (hac : (ops.toList.zipIdx.all fun q => q.1.after.all fun e => !Region.binds .any e || decide (e.on < q.2)) = true) (hg : (ops.toList.all fun o => o.guard.isNone) = true)
    (hsz : (slots.all fun d => match d with | none => true | some s => decide (s < a0.tmps.size)) = true)
    (mono : ∀ p ∈ Rs, ∀ v w w', p v w → Below w.heap.size w w' → p v w') (hst : AllG (GStep P Q slots Rs a0 w0) 0 (ops.toList.take n))
    (hlast : ∀ (o : Oper), ops[n]? = some o → LStep P Q slots Rs a0 w0 n o Fin)
    (fin : ∀ (val : Nat → Value) (w : World), Fin val w → Q .normal (putsA slots val 0 a0) w) : wpAny P .any ops Q ops.size (Array.replicate ops.size false) a0 w0 := by
  have hat : ∀ (i : Nat) (o : Oper), ops[i]? = some o → ops.toList[i]? = some o := fun i o h => (Array.getElem?_toList ..).trans h
  have hlen : slots.length = ops.size := by rw [← hdst]; simp
  have hD : ∀ (i : Nat) (o : Oper), ops[i]? = some o → o.dst = slotG slots i := by
    intro i o h
    unfold slotG
    rw [← hdst, List.getElem?_map, hat i o h]
    rfl
  have hS : ∀ (i : Nat), i < ops.size → slots[i]? = some (slotG slots i) := by
    intro i hi
    unfold slotG
    rw [List.getElem?_eq_getElem (by omega)]
    rfl
  have hne : ∀ i j, i < ops.size → j < ops.size → j ≠ i → slotG slots j ≠ slotG slots i ∨ slotG slots i = none := by
    intro i j hi hj hji
    unfold slotsOk at hok
    have h1 := List.all_eq_true.1 hok i (List.mem_range.2 (by omega))
    have h2 := List.all_eq_true.1 h1 j (List.mem_range.2 (by omega))
    simp only [Bool.or_eq_true, decide_eq_true_eq, beq_iff_eq, Option.isNone_iff_eq_none] at h2
    rcases h2 with (h2 | h2) | h2
    · exact absurd h2 hji
    · exact .inl h2
    · exact .inr h2
  have hlt : ∀ (j : Nat) (s : Tmp), slots[j]? = some (some s) → s < a0.tmps.size := fun j s h => by
    have := List.all_eq_true.1 hsz _ (List.mem_of_getElem? h)
    simpa using this
  have repF : ∀ j, (Array.replicate ops.size false).getD j false = false := by
    intro j
    simp [Array.getD_eq_getD_getElem?, Array.getElem?_replicate]
    split <;> simp
  refine wpAny_flow (slotG slots) hD hne ?_ ?_ a0 (fun l val w => (∀ (i : Nat) (o : Oper), ops[i]? = some o → l.getD i false = true → ∀ e ∈ o.after, Region.binds .any e = true → l.getD e.on false = true) ∧ (l.getD n false = false → Below w0.heap.size w0 w ∧ ∀ j s, slots[j]? = some (some s) → l.getD j false = true → factG Rs j (val j) w) ∧ (l.getD n false = true → Fin val w)) ?_ ?_ w0 (fun _ => undef) ⟨?_, fun _ => ⟨Below.refl _ _, ?_⟩, ?_⟩
  · intro i o h e he hbn
    have hm : (o, i) ∈ ops.toList.zipIdx := List.mem_zipIdx_iff_getElem?.2 (hat i o h)
    have := List.all_eq_true.1 hac _ hm
    have := Array.all_eq_true_iff_forall_mem.1 this e he
    rw [hbn] at this
    simpa using this
  · intro i o h
    have := List.all_eq_true.1 hg o (List.mem_of_getElem? (hat i o h))
    simpa using this
  · rintro l val w i o ⟨hC, hN, hFin⟩ hl ho hf hd A K hA hK
    have hi : i < ops.size := (Array.getElem?_eq_some_iff.1 ho).1
    have ev : ∀ (B : Act) (s : Tmp), B.tmps[s]?.getD undef = B.eval (.tmp s) := fun B s => by rw [← Array.getD_eq_getD_getElem?]; rfl
    have hCl : ∀ (k : Nat) (o' : Oper), ops[k]? = some o' → (l.setIfInBounds i true).getD k false = true → ∀ e ∈ o'.after, Region.binds .any e = true → (l.setIfInBounds i true).getD e.on false = true := by
      intro k o' hk hkd e he hbn
      have h1 : l.getD e.on false = true := by
        by_cases ek : k = i
        · subst ek
          rw [ho] at hk
          cases hk
          exact hd e he hbn
        · rw [getD_set ek] at hkd
          exact hC k o' hk hkd e he hbn
      by_cases ee : e.on = i
      · rw [ee]; exact getD_same (by omega)
      · rw [getD_set ee]; exact h1
    have far : ∀ s, (some s) ∉ slots → A.tmps[s]?.getD undef = a0.tmps[s]?.getD undef := by
      intro s hs
      rw [ev, ev, hA]
      refine actsL_far _ _ fun j hj e => hs ?_
      rw [← e]
      exact List.mem_of_getElem? (hS j (List.mem_range.1 hj))
    -- what all hangs on has run, if the last one may
    have all : (∀ (o' : Oper), ops[n]? = some o' → ∀ e ∈ o'.after, Region.binds .any e = true → l.getD e.on false = true) → ∀ d k, k + d + 1 = n → l.getD k false = true := by
      intro hr d
      induction d using Nat.strongRecOn with
      | _ d ih =>
        intro k hk
        unfold succOk at hsucc
        have h1 := List.all_eq_true.1 hsucc k (List.mem_range.2 (by omega))
        cases hs : succ[k]? with
        | none => rw [hs] at h1; cases h1
        | some s =>
          rw [hs] at h1
          simp only [Bool.and_eq_true, decide_eq_true_eq] at h1
          obtain ⟨⟨h2, h3⟩, h4⟩ := h1
          cases hos : ops[s]? with
          | none => rw [hos] at h4; cases h4
          | some o' =>
            rw [hos] at h4
            by_cases hsn : s = n
            · subst hsn
              exact depG_of h4 (hr o' hos)
            · have hsd := ih (n - 1 - s) (by omega) s (by omega)
              exact depG_of h4 (hC s o' hos hsd)
    have hnf : l.getD n false = false := by
      cases hh : l.getD n false with
      | false => rfl
      | true =>
        exfalso
        by_cases e : i = n
        · subst e; rw [hf] at hh; cases hh
        · have := all (fun o' ho' => hC n o' ho' hh) (n - 1 - i) i (by omega)
          rw [hf] at this
          cases this
    obtain ⟨hb, hF⟩ := hN hnf
    have near : ∀ j s, slots[j]? = some (some s) → depG o j = true → factG Rs j (A.tmps[s]?.getD undef) w ∧ A.tmps[s]?.getD undef = val j := by
      intro j s hj hdep
      have hjl := depG_of hdep hd
      have hjs : j < ops.size := by rw [← hlen]; exact (List.getElem?_eq_some_iff.1 hj).1
      have hsl : slotG slots j = some s := by unfold slotG; rw [hj]; rfl
      rw [ev, hA, actsL_eval hjl hsl _ _ (List.mem_range.2 hjs) List.nodup_range (fun k hk hkj e => ?_) (hlt j s hj)]
      · exact ⟨hF j s hj hjl, rfl⟩
      · rcases hne j k hjs (List.mem_range.1 hk) hkj with h | h
        · exact h (e.trans hsl.symm)
        · rw [hsl] at h; cases h
    by_cases e : i = n
    · subst e
      refine hlast o ho A w val K hb far near (fun j s hj hjn => ?_) fun v w' hR => hK v w' ⟨hCl, fun h => ?_, fun _ => ?_⟩
      · have hjs : j < ops.size := by rw [← hlen]; exact (List.getElem?_eq_some_iff.1 hj).1
        exact hF j s hj (all (fun o' ho' => by rw [ho] at ho'; cases ho'; exact hd) (i - 1 - j) j (by omega))
      · rw [getD_same (by omega)] at h; cases h
      · exact hR
    · have ht : (ops.toList.take n)[i]? = some o := by rw [List.getElem?_take_of_lt (by omega)]; exact hat i o ho
      have hs := hst.at ht
      rw [Nat.zero_add] at hs
      refine hs A w K hb far (fun j s hj hdep => (near j s hj hdep).1) fun v w' hb' hR => hK v w' ⟨hCl, fun _ => ⟨hb.trans (hb'.mono hb.size), fun j s hj hjl => ?_⟩, fun h => ?_⟩
      · by_cases e : j = i
        · subst e; rw [updV_same]; exact hR
        · rw [getD_set e] at hjl
          rw [updV_other _ _ e]
          exact fun p hp => mono p (List.mem_of_getElem? hp) _ _ _ (hF j s hj hjl p hp) hb'
      · rw [getD_set (Ne.symm e), hnf] at h
        cases h
  · rintro l val w ⟨_, _, hFin⟩ hall
    have h1 : ∀ i, i < slots.length → slots[i]? = some (slotG slots (0 + i)) := fun i hi => by rw [Nat.zero_add]; exact hS i (by omega)
    have h2 : ∀ i, i < slots.length → l.getD (0 + i) false = true := fun i hi => by rw [Nat.zero_add]; exact hall i (by omega)
    have e : (List.range slots.length).map (0 + ·) = List.range ops.size := by rw [hlen]; simp
    have := puts_all (D := slotG slots) (l := l) (val := val) slots 0 a0 h1 h2
    rw [e] at this
    rw [this]
    exact fin val w (hFin (hall n (by omega)))
  · intro i o _ h
    rw [repF] at h
    cases h
  · intro j s hj h
    rw [repF] at h
    cases h
  · intro h
    rw [repF] at h
    cases h
end Go.Proofs.YthhepmddcncjoaaGreatDoor
namespace Go.Proofs.YthhepmddcncjoaaGreatDoor
open Go.RowKit

theorem bd_new {w : World} : Bd w.heap.size w.heap.size [] (w.alloc (.cells #[.pointer none, .slice none 0 0] 79)) := Lib.IsBuilderF.of (Lib.fresh_isBuilder 79 5 w)
set_option maxRecDepth 100000 in
set_option maxHeartbeats 8000000 in
theorem ptell_c (p : Pg) (all : List (List Rw)) (v : Value) (b : Addr) (w : World) (cs : List Value) (hc : PgC w w.heap.size p cs) (hu : SlOf w w.heap.size 1 (RwsC w w.heap.size) all v) (hs : ∀ rs ∈ all, ∀ r ∈ rs, ∀ x ∈ r, x.s.size ≤ 5000) (hT : rightP p = true → fitA p.decls all = true → (tellT p.decls all).length ≤ 200000) (ET : TErr b w) (E : TabE w) :
    Calls Tryz.prog 19 #[.agg cs.toArray, v] w fun e w' => e = .returned (tellV (rightP p) (fitA p.decls all) (tellT p.decls all)) ∧ Below w.heap.size w w' := by
  have HR := Lib.hid (fun (W : World) (hb : Below w.heap.size w W) => right_c p b W cs ((hc.below hb).more hb.size) (ET.below hb))
  obtain ⟨o0, k0, o1, k1, rfl, hd, _⟩ := hc.look
  have HF := Lib.hid (fun (W : World) (hb : Below w.heap.size w W) => allFit_c p.decls all (.slice o0 p.decls.length k0) v W (SlOf.decl hd hb hb.size) (rows_pastF hu hb))
  obtain ⟨ov, cv, e0, hcv, hmv, SV⟩ := SlOf.open hd
  cases e0
  obtain ⟨ou, cu, rfl, hcu, hmu, SU⟩ := SlOf.open hu
  have HB0 : Hid (∀ (x : Obj), Below w.heap.size w (w.alloc x)) := Lib.hid fun x => alB w x
  have HS := Lib.hid hs
  have HTl := Lib.hid hT
  have HE := Lib.hid E
  clear hc hd hu hs hT ET E
  go_enter Tryz.func19, Tryz.ntmps19
  go_wp2_with fail
  refine (HR.out _ (HB0.out _)).mono ?_
  rintro e w1 ⟨rfl, b1⟩
  have r1 := (b1.block w.heap.size (by simp)).trans (rowNew w 25 [.slice o0 p.decls.length k0, .slice o1 p.rules.length k1])
  have B1 := Lib.hid ((HB0.out (.cells #[.slice o0 p.decls.length k0, .slice o1 p.rules.length k1] 25)).trans (b1.mono (by simp)))
  have HR1 := Lib.hid r1
  have c0 : w1.cell? ⟨w.heap.size, 0, none⟩ = some (.slice o0 p.decls.length k0) := row_cells r1 0
  have hz1 := heap_lt r1
  clear b1 r1
  cases hr : rightP p with
  | false =>
    have Hr := Lib.hid hr
    clear hr
    go_wp2
    go_ret2
    exact ⟨by rw [Hr.out]; rfl, B1.out⟩
  | true =>
    have HT1 := Lib.hid (HTl.out hr)
    have Hr := Lib.hid hr
    have HF1 := Lib.hid (HF.out w1 B1.out)
    clear hr
    go_wp2_with fail
    refine HF1.out.mono ?_
    rintro e w2 ⟨rfl, b2⟩
    have B2 := Lib.hid (B1.out.trans (b2.mono B1.out.size))
    have hr2 := (b2.block _ (heap_lt HR1.out)).trans HR1.out
    have HR2 := Lib.hid hr2
    have c0' : w2.cell? ⟨w.heap.size, 0, none⟩ = some (.slice o0 p.decls.length k0) := row_cells hr2 0
    have hz2 := heap_lt hr2
    clear b2 c0 hz1 hr2
    cases hf : fitA p.decls all with
    | false =>
      have Hf := Lib.hid hf
      clear hf
      go_wp2
      go_ret2
      exact ⟨by rw [Hr.out, Hf.out]; rfl, B2.out⟩
    | true =>
      have Hf := Lib.hid hf
      have HT2 := Lib.hid (HT1.out hf)
      have Hl := Lib.hid (fitA_len hf)
      clear hf
      obtain ⟨B, hBe⟩ : ∃ B, w2.heap.size = B := ⟨_, rfl⟩
      obtain ⟨W3, hW3⟩ : ∃ W3, w2.alloc (.cells #[.pointer none, .slice none 0 0] 79) = W3 := ⟨_, rfl⟩
      have HBd : Hid (Bd B B [] W3) := Lib.hid (by rw [← hW3, ← hBe]; exact bd_new)
      have hb23 : Below w2.heap.size w2 W3 := by rw [← hW3]; exact alB _ _
      have HB3 := Lib.hid (B2.out.trans (hb23.mono B2.out.size))
      have Hs3 : Hid (W3.heap.size = B + 1) := Lib.hid (by rw [← hW3, ← hBe]; simp)
      have Hwb : Hid (w.heap.size < B) := Lib.hid (by rw [← hBe]; exact hz2)
      have HVB : Hid (9 ≤ B) := Lib.hid (by rw [← hBe]; exact (HE.out.below B2.out).size)
      have HE3 := Lib.hid (HE.out.below HB3.out)
      have HR3 := Lib.hid ((hb23.block _ (heap_lt HR2.out)).trans HR2.out)
      have HBw2 : Hid (Below w.heap.size w w2) := B2
      have c3 : W3.cell? ⟨w.heap.size, 0, none⟩ = some (.slice o0 p.decls.length k0) := row_cells HR3.out 0
      have hz3 : w.heap.size < W3.heap.size := heap_lt HR3.out
      go_wp2
      clear hW3 hb23 c3 hz3 c0' hz2 hBe
      go_loopw [20] (fun i wr => ∃ k : Nat, k ≤ p.decls.length ∧ i = .int .i64 (k : Int) ∧ Hid (Bd B B (tellP p.decls all k) wr) ∧ Hid (Kp B B W3 wr)) (fun i _ => p.decls.length - (intOf i).toNat)
      case atStart => exact ⟨0, Nat.zero_le _, rfl, Lib.hid (by simpa [tellP] using HBd.out), Lib.hid (Kp.refl _ _ _)⟩
      case round =>
        obtain ⟨k, hk, rfl, HBk, HKk⟩ := hrel
        have hBw : Below w.heap.size w wr := HB3.out.trans (HKk.out.below.mono (by have := Hwb.out; omega))
        have hBs := hBw.size
        have hBr : B ≤ wr.heap.size := HKk.out.size (by have := Hs3.out; omega)
        by_cases hlt : k < p.decls.length
        · have hlt' : (k : Int) < (p.decls.length : Int) := by omega
          have hlt2 : (k : Int) < (all.length : Int) := by have := Hl.out; omega
          have hk0 : (0 : Int) ≤ (k : Int) := by omega
          obtain ⟨d, hdk⟩ : ∃ d, p.decls[k]? = some d := ⟨p.decls[k], List.getElem?_eq_getElem hlt⟩
          obtain ⟨rs, hrs⟩ : ∃ rs, all[k]? = some rs := ⟨all[k]'(by have := Hl.out; omega), List.getElem?_eq_getElem _⟩
          obtain ⟨aD, u0, v0, u1, v1, rfl, haD, HDc, e0, e1, e2, e3, e4, e5⟩ := de_at SV hBw hdk
          obtain ⟨aU, csU, rfl, haU, _, ⟨vU, rfl, hU1⟩, hU2⟩ := SU.out k rs hrs
          obtain ⟨oR, cR, rfl, _⟩ := SlOf.uni hU1
          have cU : wr.cell? (aU.add k) = some (.slice oR rs.length cR) := by
            have := (hU2.below haU hBw).n1
            rwa [Nat.mul_one] at this
          have hadl : (aD.add (k * 6)).block < wr.heap.size := by rw [addBlock]; omega
          have haul : (aU.add k).block < wr.heap.size := by rw [addBlock]; omega
          have Hst := Lib.hid (tellP_step hdk hrs)
          have HSr := Lib.hid (HS.out rs (List.mem_of_getElem? hrs))
          have Hup : Hid ((tellP p.decls all (k + 1)).length ≤ 200000) := Lib.hid (Nat.le_trans (tellP_upto _ _ _) HT2.out)
          obtain ⟨W4, hW4⟩ : ∃ W4, wr.alloc (.cells #[.string d.rel, .slice u0 d.names.length v0, .slice u1 d.types.length v1, .bool d.inn, .bool d.out, .int .i64 d.line] 38) = W4 := ⟨_, rfl⟩
          have hb4 : Below wr.heap.size wr W4 := by rw [← hW4]; exact alB _ _
          have hr4 : Row wr.heap.size 38 [.string d.rel, .slice u0 d.names.length v0, .slice u1 d.types.length v1, .bool d.inn, .bool d.out, .int .i64 d.line] W4 := by rw [← hW4]; exact newRow rfl
          have HBd4 : Hid (Bd B B (tellP p.decls all k) W4) := Lib.hid (by rw [← hW4]; exact HBk.out.alloc _)
          have HK4 : Hid (Kp B B W3 W4) := Lib.hid (by rw [← hW4]; exact HKk.out.trans (Kp.alloc hBr _))
          have cU4 : W4.cell? (aU.add k) = some (.slice oR rs.length cR) := (hb4.cell haul).trans cU
          have haul4 : (aU.add k).block < W4.heap.size := Nat.lt_of_lt_of_le haul hb4.size
          have hB4 : Below w.heap.size w W4 := hBw.trans (hb4.mono hBs)
          have RB : RwsS W4 B rs (.slice oR rs.length cR) := RwsS.more (RwsS.below hU1 hB4) (by have := Hwb.out; omega)
          have HRow := Lib.hid hr4
          have x4 : W4.cell? ⟨wr.heap.size, 4, none⟩ = some (.bool d.out) := row_cells hr4 4
          have hzb := heap_lt hr4
          have HBr : Hid (B ≤ W4.heap.size) := Lib.hid (by have := hb4.size; omega)
          have HTa : Hid (TabE W4) := Lib.hid (HE3.out.belowB HVB.out HK4.out.below)
          cases hout : d.out with
          | false =>
            have HN : Hid (Bd B B (tellP p.decls all (k + 1)) W4) := Lib.hid (by
              rw [Hst.out]
              unfold tellG
              rw [hout]
              simpa using HBd4.out)
            rw [hout] at x4 hW4 e4
            clear hdk hrs HDc cU hU1 hU2 RB hr4 hb4 hB4 hBw hout
            go_wp2
            (try rw [hW4])
            exact ⟨⟨k + 1, hlt, by go_num, HN, HK4⟩, by simp [intOf]; omega⟩
          | true =>
            have hT : tellP p.decls all (k + 1) = tellP p.decls all k ++ rowsT d.rel rs := by
              rw [Hst.out]
              unfold tellG
              rw [hout]
              simp
            have HT := Lib.hid hT
            have HWr : Hid (∀ (W : World), Below W4.heap.size W4 W → Calls Tryz.prog 42 #[.pointer (some ⟨B, 0, none⟩), .string d.rel, .slice oR rs.length cR] W (Wrote B B (tellP p.decls all k) (rowsT d.rel rs) W)) := Lib.hid fun W h =>
              writeLines_c d.rel rs B B _ W _ (HBd4.out.past h) (RwsS.below RB (h.mono HBr.out)) (HTa.out.belowB HVB.out (h.mono HBr.out)) HVB.out (Nat.le_trans HBr.out h.size) (by have h1 := Hup.out; rw [HT.out, List.length_append] at h1; omega) (fun r hr x hx => by have := HSr.out r hr x hx; omega)
            rw [hout] at x4 hW4 e4
            have HR5 := Lib.hid hr4
            have hrow4 := hr4
            clear hdk hrs HDc cU hU1 hU2 RB hr4 hb4 hB4 hBw hout hT
            obtain ⟨vs, hvs⟩ : ∃ vs : List Value, vs = [.pointer (some ⟨wr.heap.size, 0, none⟩), .string d.rel, .slice (some aU) all.length cu, .int .i64 (k : Int), .pointer (some (aU.add k)), .slice oR rs.length cR] := ⟨_, rfl⟩
            have q0 : vs[0]? = some (.pointer (some ⟨wr.heap.size, 0, none⟩)) := by rw [hvs]; rfl
            have q1 : vs[1]? = some (.string d.rel) := by rw [hvs]; rfl
            have q2 : vs[2]? = some (.slice (some aU) all.length cu) := by rw [hvs]; rfl
            have q3 : vs[3]? = some (.int .i64 (k : Int)) := by rw [hvs]; rfl
            have q4 : vs[4]? = some (.pointer (some (aU.add k))) := by rw [hvs]; rfl
            have q5 : vs[5]? = some (.slice oR rs.length cR) := by rw [hvs]; rfl
            clear hvs
            go_wp2_with fail
            (try rw [hW4])
            refine wp_region_any (by kernel_rfl) ?_
            (try (change wpAny _ _ _ _ _ _ _ (World.drew _)))
            refine wpAny_last 6 [1, 6, 4, 4, 5, 6] [some 27, some 28, some 29, some 30, some 31, some 32, some 33] _ _ (eqF vs) (by kernel_rfl) (by kernel_rfl) (by kernel_rfl) (by kernel_rfl) (fun _ W => Bd B B (tellP p.decls all (k + 1)) W ∧ Kp B B W3 W) (by kernel_rfl) (by kernel_rfl) (by kernel_rfl) (eqF_mono vs) ⟨?s0, ?s1, ?s2, ?s3, ?s4, ?s5, trivial⟩ ?last ?fin
            case s0 =>
              intro A w' K hb hfar hd hK
              have f0 : A.tmps[8]?.getD undef = .pointer (some ⟨wr.heap.size, 0, none⟩) := hfar 8 (by decide)
              unfold Oper.wp
              simp [execOp, f0, go_sem, Result.andThen]
              exact hK _ _ (Below.refl _ _) (eqF_mk q0)
            case s1 =>
              intro A w' K hb hfar hd hK
              have d0 : A.tmps[27]?.getD undef = .pointer (some ⟨wr.heap.size, 0, none⟩) := eqF_at (hd 0 27 rfl (by kernel_rfl)) q0
              have y0 := (hb.cell (p := ⟨wr.heap.size, 0, none⟩) hzb).trans (row_cells hrow4 0)
              unfold Oper.wp
              simp [execOp, d0, y0, go_sem, Result.andThen]
              exact hK _ _ (Below.refl _ _) (eqF_mk q1)
            case s2 =>
              intro A w' K hb hfar hd hK
              have f0 : A.tmps[1]?.getD undef = .slice (some aU) all.length cu := hfar 1 (by decide)
              unfold Oper.wp
              simp [execOp, f0, go_sem, Result.andThen]
              exact hK _ _ (Below.refl _ _) (eqF_mk q2)
            case s3 =>
              intro A w' K hb hfar hd hK
              have f0 : A.tmps[7]?.getD undef = .int .i64 (k : Int) := hfar 7 (by decide)
              unfold Oper.wp
              simp [execOp, f0, go_sem, Result.andThen]
              exact hK _ _ (Below.refl _ _) (eqF_mk q3)
            case s4 =>
              intro A w' K hb hfar hd hK
              have d2 : A.tmps[29]?.getD undef = .slice (some aU) all.length cu := eqF_at (hd 2 29 rfl (by kernel_rfl)) q2
              have d3 : A.tmps[30]?.getD undef = .int .i64 (k : Int) := eqF_at (hd 3 30 rfl (by kernel_rfl)) q3
              unfold Oper.wp
              simp [execOp, d2, d3, hlt2, hk0, go_sem, Result.andThen]
              exact hK _ _ (Below.refl _ _) (eqF_mk q4)
            case s5 =>
              intro A w' K hb hfar hd hK
              have d4 : A.tmps[31]?.getD undef = .pointer (some (aU.add k)) := eqF_at (hd 4 31 rfl (by kernel_rfl)) q4
              have y0 := (hb.cell haul4).trans cU4
              unfold Oper.wp
              simp [execOp, d4, y0, go_sem, Result.andThen]
              exact hK _ _ (Below.refl _ _) (eqF_mk q5)
            case last =>
              rintro o ho
              cases ho
              intro A w' val K hb hfar hd hF hK
              have f6 : A.tmps[6]?.getD undef = .pointer (some ⟨B, 0, none⟩) := hfar 6 (by decide)
              have d1 : A.tmps[28]?.getD undef = .string d.rel := eqF_at (hd 1 28 rfl (by kernel_rfl)).1 q1
              have d5 : A.tmps[32]?.getD undef = .slice oR rs.length cR := eqF_at (hd 5 32 rfl (by kernel_rfl)).1 q5
              unfold Oper.wp
              simp [execOp, f6, d1, d5, go_sem, Result.andThen]
              refine (HWr.out w' (drewB hb)).mono ?_
              rintro e9 w9 ⟨rfl, bd9, k9⟩
              exact hK _ _ ⟨by rw [HT.out]; exact bd9, HK4.out.trans ((Kp.past (by exact HBr.out) (drewB hb)).trans k9)⟩
            case fin =>
              rintro val w5 ⟨bd5, k5⟩
              have HBd5 := Lib.hid bd5
              have HK5 := Lib.hid k5
              simp only [putsA, Nat.zero_add, Nat.reduceAdd]
              generalize val 0 = z0
              generalize val 1 = z1
              generalize val 2 = z2
              generalize val 3 = z3
              generalize val 4 = z4
              generalize val 5 = z5
              generalize val 6 = z6
              clear bd5 k5 cU4 haul4 x4 hrow4 q0 q1 q2 q3 q4 q5
              go_simp
              go_wp2
              go_roundw
              case rel => exact ⟨k + 1, hlt, by go_num, HBd5, HK5⟩
              case measure => simp [intOf]; omega
        · have hlt' : ¬ (k : Int) < (p.decls.length : Int) := by omega
          obtain rfl : k = p.decls.length := by omega
          have HBt : Hid (Bd B B (tellT p.decls all) wr) := Lib.hid (by
            have := HBk.out
            rwa [tellP_all Hl.out.symm] at this)
          have HBw := Lib.hid hBw
          have HBr := Lib.hid hBr
          clear hBw hBs hBr
          go_wp2_with fail
          refine (bstr_c _ _ _ wr HBt.out HBr.out).mono ?_
          rintro e w5 ⟨rfl, b5, k5⟩
          have HB5 := Lib.hid (HBw.out.trans (k5.below.mono (by have := Hwb.out; omega)))
          clear b5 k5
          go_wp2
          go_ret2
          exact ⟨by rw [Hr.out, Hf.out]; rfl, HB5.out⟩
end Go.Proofs.YthhepmddcncjoaaGreatDoor
