/- soritesref09.typed, FitsOne, Fits. soritesref09.Fits, soritesref10.Line, Tell. soritesref10.Line. -/
import Derived.Test.YthhepmddcncjoaaGreatDoorKFw
import Derived.Test.YthhepmddcncjoaaGreatDoorKTchk2
import Derived.Test.YthhepmddcncjoaaGreatDoorKConv
import Derived.Test.YthhepmddcncjoaaGreatDoorKFR
import Derived.BigQuiet
import Derived.Test.YthhepmddcncjoaaGreatDoorKRef
set_option linter.unusedSimpArgs false
set_option linter.unusedVariables false
namespace Go.Proofs.YthhepmddcncjoaaGreatDoor
open Go.RowKit

set_option maxRecDepth 100000 in
set_option maxHeartbeats 4000000 in
theorem typed9_c (x : Vl) (k : Int) (w : World) :
    Calls Tryz.prog 70 #[.agg #[.bool x.sym, .int .i64 x.n, .string x.s], .int .i64 k] w fun e w' => e = .returned (.bool (fitV k x)) ∧ Below w.heap.size w w' := by
  obtain ⟨sy, n, s⟩ := x
  have hB0 : ∀ (o : Obj), Below w.heap.size w (w.alloc o) := fun o => alB w o
  have HB0 := Lib.hid hB0
  clear hB0
  by_cases hk : k = 1
  · subst hk
    obtain ⟨em, hem⟩ : ∃ em, (s.toList == (⟨#[]⟩ : ByteArray).toList) = em := ⟨_, rfl⟩
    have hF : fitV 1 ⟨sy, n, s⟩ = (!sy && em) := by
      unfold fitV
      rw [if_pos rfl, ← hem, Lib.toList_data, Lib.toList_data]
      cases s.data.toList <;> rfl
    rw [hF]
    have hem2 : (s.toList == ([] : List UInt8)) = em := by rw [← hem, Lib.toList_data (⟨#[]⟩ : ByteArray)]
    have hem3 : s.toList = [] ↔ em = true := by rw [← hem2, beq_iff_eq]
    clear hF
    cases sy <;> cases em
    all_goals
      go_enter Tryz.func70, Tryz.ntmps70
      go_wp2
      go_ret
      exact ⟨rfl, HB0.out _⟩
  · obtain ⟨ez, hez⟩ : ∃ ez, (n == 0) = ez := ⟨_, rfl⟩
    have hF : fitV k ⟨sy, n, s⟩ = (sy && ez) := by
      unfold fitV
      rw [if_neg hk, ← hez]
    rw [hF]
    have hk' : (k == 1) = false := by simpa using hk
    clear hF
    cases sy <;> cases ez
    all_goals
      go_enter Tryz.func70, Tryz.ntmps70
      go_wp2
      go_ret
      exact ⟨rfl, HB0.out _⟩
theorem allW_drop {α : Type} {f : α → Bool} {l : List α} {k : Nat} {x : α} (h : l[k]? = some x) : (l.drop k).all f = (f x && (l.drop (k + 1)).all f) := by
  have h1 := List.getElem?_eq_some_iff.1 h
  rw [List.drop_eq_getElem_cons h1.1, h1.2]; rfl
theorem fitG_of (d : De) (l : List Rw) : fitG (d, l) = (riseL rwC l && l.all (fitR d.types)) := rfl
set_option maxRecDepth 100000 in
set_option maxHeartbeats 8000000 in
theorem fitsOne_c (d : De) (l : List Rw) (v : Value) (w : World) (cs : List Value) (hd : DeC w w.heap.size d cs) (hv : RwsS w w.heap.size l v) :
    Calls Tryz.prog 38 #[.agg cs.toArray, v] w fun e w' => e = .returned (.bool (fitG (d, l))) ∧ Below w.heap.size w w' := by
  have HR := Lib.hid (fun (W : World) (hb : Below w.heap.size w W) => rrise_c l v W (RwsS.past hv hb))
  obtain ⟨o0, k0, o1, k1, rfl, _, _, _, hT⟩ := hd.look
  obtain ⟨ov, cv, rfl, hcv, hmv, SV⟩ := SlOf.open hv
  have HT := Lib.hid hT
  have HB0 : Hid (∀ (x : Obj), Below w.heap.size w (w.alloc x)) := Lib.hid fun x => alB w x
  clear hd hv hT
  go_enter Tryz.func38, Tryz.ntmps38
  go_wp2_with fail
  refine (HR.out _ (HB0.out _)).mono ?_
  rintro e w1 ⟨rfl, b1⟩
  have r1 := (b1.block w.heap.size (by simp)).trans (rowNew w 38 [.string d.rel, .slice o0 d.names.length k0, .slice o1 d.types.length k1, .bool d.inn, .bool d.out, .int .i64 d.line])
  have B1 := Lib.hid ((HB0.out (.cells #[.string d.rel, .slice o0 d.names.length k0, .slice o1 d.types.length k1, .bool d.inn, .bool d.out, .int .i64 d.line] 38)).trans (b1.mono (by simp)))
  have HR1 := Lib.hid r1
  clear b1 r1
  cases hrise : riseL rwC l with
  | false =>
    have HO : Hid (fitG (d, l) = false) := Lib.hid (by rw [fitG_of, hrise]; rfl)
    clear hrise
    go_wp2
    go_ret
    exact ⟨by rw [HO.out]; rfl, B1.out⟩
  | true =>
    have HO : Hid (fitG (d, l) = (l.drop 0).all (fitR d.types)) := Lib.hid (by rw [fitG_of, hrise]; rfl)
    have HB1 : Hid (Below w1.heap.size w1 w1) := Lib.hid (Below.refl _ _)
    clear hrise
    go_wp2
    go_loopw [6] (fun i wr => ∃ k : Nat, k ≤ l.length ∧ i = .int .i64 (k : Int) ∧ Hid (fitG (d, l) = (l.drop k).all (fitR d.types)) ∧ Below w1.heap.size w1 wr) (fun i _ => l.length - (intOf i).toNat)
    case atStart => exact ⟨0, Nat.zero_le _, rfl, HO, HB1.out⟩
    case round =>
      obtain ⟨k, hk, rfl, hO, hB⟩ := hrel
      have hrow := (hB.block _ (heap_lt HR1.out)).trans HR1.out
      have c2 : wr.cell? ⟨w.heap.size, 2, none⟩ = some (.slice o1 d.types.length k1) := row_cells hrow 2
      have hz := heap_lt hrow
      have hBw := B1.out.trans (hB.mono B1.out.size)
      by_cases hlt : k < l.length
      · have hlt' : (k : Int) < (l.length : Int) := by omega
        have hk0 : (0 : Int) ≤ (k : Int) := by omega
        obtain ⟨x, hx⟩ : ∃ x, l[k]? = some x := ⟨l[k], List.getElem?_eq_getElem hlt⟩
        obtain ⟨a, o', cap', rfl, ha, hX, cX, _⟩ := rw_at SV hBw hx
        have hal : (a.add k).block < wr.heap.size := by rw [addBlock]; have := hBw.size; omega
        have Hst := Lib.hid (hO.out.trans (allW_drop hx))
        have HBw := Lib.hid hBw
        have HBk := Lib.hid hB
        clear hx hBw hB
        by_cases hl : x.length = d.types.length
        · have hne : ((x.length : Int) != (d.types.length : Int)) = false := by simp; omega
          have hR : fitR d.types x = ((List.zipWith fitV d.types x).drop 0).all id := by
            unfold fitR
            rw [decide_eq_true hl]; rfl
          have HR' := Lib.hid hR
          have Hl := Lib.hid hl
          have HBr : Hid (Below wr.heap.size wr wr.drew) := Lib.hid (Below.refl _ wr).drew
          have HU := Lib.hid (SlOf.int HT.out HBw.out HBw.out.size)
          clear hR hl
          obtain ⟨wk, rfl⟩ : ∃ wk, wk = wr := ⟨_, rfl⟩
          have HRk := Lib.hid hrow
          obtain ⟨o3, q3, e3, _, _, SX⟩ := SlOf.open hX.out
          cases e3
          obtain ⟨o4, q4, e4, _, _, ST⟩ := SlOf.open HU.out
          cases e4
          have HCX := Lib.hid cX
          have HAL := Lib.hid hal
          go_wp2_with fail
          go_quiet (fail)
          go_wp2
          clear c2 hz cX hal hrow
          go_loopw [7] (fun i wq => ∃ c : Nat, c ≤ x.length ∧ i = .int .i64 (c : Int) ∧ Hid (fitR d.types x = ((List.zipWith fitV d.types x).drop c).all id) ∧ Below wk.heap.size wk wq) (fun i _ => x.length - (intOf i).toNat)
          case atStart => exact ⟨0, Nat.zero_le _, rfl, HR', below_drewN (Below.refl _ _) _⟩
          case round =>
            obtain ⟨c, hc, rfl, hR2, hB⟩ := hrel
            have hBs := hB.size
            have hrow := (hB.block _ (heap_lt HRk.out)).trans HRk.out
            have hz := heap_lt hrow
            have cX : wr.cell? (a.add k) = some (.slice o' x.length cap') := (hB.cell HAL.out).trans HCX.out
            have hal : (a.add k).block < wr.heap.size := Nat.lt_of_lt_of_le HAL.out hBs
            by_cases hcl : c < x.length
            · have hcl' : (c : Int) < (x.length : Int) := by omega
              have hcl2 : (c : Int) < (d.types.length : Int) := by have := Hl.out; omega
              have hc0 : (0 : Int) ≤ (c : Int) := by omega
              obtain ⟨y, hy⟩ : ∃ y, x[c]? = some y := ⟨x[c], List.getElem?_eq_getElem hcl⟩
              obtain ⟨z, hzz⟩ : ∃ z, d.types[c]? = some z := ⟨d.types[c]'(by have := Hl.out; omega), List.getElem?_eq_getElem _⟩
              have Hz := Lib.hid (hR2.out.trans (zip_drop hzz hy))
              obtain ⟨a3, rfl, ha3, hI3, hs3, y0, y1, y2⟩ := vl_at SX hB hy
              obtain ⟨aT, rfl, haT, hI4, t0⟩ := int_at ST hB hzz
              have hl3 : (a3.add (c * 3)).block < wr.heap.size := by rw [addBlock]; omega
              have hlT : (aT.add c).block < wr.heap.size := by rw [addBlock]; omega
              have hS : ∀ W', Below wr.heap.size wr.drew W' → W'.cell? (a.add k) = some (.slice (some a3) x.length cap') ∧ W'.cell? (a3.add (c * 3)) = some (.bool y.sym) ∧ W'.cell? ⟨(a3.add (c * 3)).block, (a3.add (c * 3)).off + 1, none⟩ = some (.int .i64 y.n) ∧ W'.cell? ⟨(a3.add (c * 3)).block, (a3.add (c * 3)).off + 2, none⟩ = some (.string y.s) ∧ W'.cell? ⟨w.heap.size, 2, none⟩ = some (.slice (some aT) d.types.length k1) ∧ W'.cell? (aT.add c) = some (.int .i64 z) ∧ Below wr.heap.size wr.drew W' := fun W' h =>
                ⟨(h.cell hal).trans cX, (h.cell hl3).trans y0, (h.cell (p := ⟨(a3.add (c * 3)).block, (a3.add (c * 3)).off + 1, none⟩) hl3).trans y1, (h.cell (p := ⟨(a3.add (c * 3)).block, (a3.add (c * 3)).off + 2, none⟩) hl3).trans y2, (h.cell (p := ⟨w.heap.size, 2, none⟩) hz).trans (row_cells hrow 2), (h.cell hlT).trans t0, h⟩
              have hS0 := hS wr.drew (Below.refl _ _)
              have HK : Hid (∀ (w' w'' : World), Below wr.heap.size wr.drew w' → Below w'.heap.size w' w'' → w''.cell? (a.add k) = some (.slice (some a3) x.length cap') ∧ w''.cell? (a3.add (c * 3)) = some (.bool y.sym) ∧ w''.cell? ⟨(a3.add (c * 3)).block, (a3.add (c * 3)).off + 1, none⟩ = some (.int .i64 y.n) ∧ w''.cell? ⟨(a3.add (c * 3)).block, (a3.add (c * 3)).off + 2, none⟩ = some (.string y.s) ∧ w''.cell? ⟨w.heap.size, 2, none⟩ = some (.slice (some aT) d.types.length k1) ∧ w''.cell? (aT.add c) = some (.int .i64 z) ∧ Below wr.heap.size wr.drew w'') := Lib.hid fun w' w'' h1 h2 => hS _ (h1.trans (h2.mono h1.size))
              have HBk1 := Lib.hid hB
              clear hS hy hzz hB hrow
              go_wp2_with fail
              go_region_held3 (fun w' => w'.cell? (a.add k) = some (.slice (some a3) x.length cap') ∧ w'.cell? (a3.add (c * 3)) = some (.bool y.sym) ∧ w'.cell? ⟨(a3.add (c * 3)).block, (a3.add (c * 3)).off + 1, none⟩ = some (.int .i64 y.n) ∧ w'.cell? ⟨(a3.add (c * 3)).block, (a3.add (c * 3)).off + 2, none⟩ = some (.string y.s) ∧ w'.cell? ⟨w.heap.size, 2, none⟩ = some (.slice (some aT) d.types.length k1) ∧ w'.cell? (aT.add c) = some (.int .i64 z) ∧ Below wr.heap.size wr.drew w') (first | exact hk1 | exact hS0)
                (first | (go_at_call 70; (with_reducible refine (typed9_c y z _).mono ?_); rintro e1 w4 ⟨rfl, b4⟩; have hk1 := HK.out _ _ hS0.2.2.2.2.2.2 b4))
              all_goals
                have HB4 := Lib.hid (HBk1.out.trans ((drewB hk1.2.2.2.2.2.2).mono hBs))
                clear hk1 hS0
                cases hf : fitV z y with
                | false =>
                  have HF : Hid (fitG (d, l) = false) := Lib.hid (by rw [Hst.out, Hz.out, hf]; rfl)
                  clear hf
                  go_wp2
                  go_ret
                  exact ⟨by rw [HF.out]; rfl, HBw.out.trans (HB4.out.mono HBw.out.size)⟩
                | true =>
                  have Hr : Hid (fitR d.types x = ((List.zipWith fitV d.types x).drop (c + 1)).all id) := Lib.hid (by rw [Hz.out, hf]; rfl)
                  clear hf
                  go_wp2
                  go_roundw
                  case rel => exact ⟨c + 1, by omega, by go_num, Hr, HB4.out⟩
                  case measure => simp [intOf]; omega
            · have hcl' : ¬ (c : Int) < (x.length : Int) := by omega
              have HN : Hid (fitG (d, l) = (l.drop (k + 1)).all (fitR d.types)) := Lib.hid (by
                rw [Hst.out, hR2.out, List.drop_of_length_le (by rw [List.length_zipWith]; omega)]; rfl)
              have HBk1 := Lib.hid (HBk.out.trans (hB.mono HBk.out.size))
              clear hrow hB
              go_wp2
              go_roundw
              case rel => exact ⟨k + 1, by omega, by go_num, HN, HBk1.out⟩
              case measure => simp [intOf]; omega
        · have hne : ((x.length : Int) != (d.types.length : Int)) = true := by simp; omega
          have HF : Hid (fitG (d, l) = false) := Lib.hid (by
            rw [Hst.out]
            unfold fitR
            rw [decide_eq_false hl]; rfl)
          clear hl
          go_wp2_with fail
          go_quiet (fail)
          go_wp2
          go_ret
          exact ⟨by rw [HF.out]; rfl, below_drewN HBw.out _⟩
      · have hlt' : ¬ (k : Int) < (l.length : Int) := by omega
        have HF : Hid (fitG (d, l) = true) := Lib.hid (by rw [hO.out, List.drop_of_length_le (by omega)]; rfl)
        have HBw := Lib.hid hBw
        clear hB hBw
        go_wp2
        go_ret
        exact ⟨by rw [HF.out]; rfl, HBw.out⟩
end Go.Proofs.YthhepmddcncjoaaGreatDoor
namespace Go.Proofs.YthhepmddcncjoaaGreatDoor
open Go.RowKit

theorem fitZ_drop {ds : List De} {all : List (List Rw)} {k : Nat} {d : De} {rs : List Rw} (h1 : ds[k]? = some d) (h2 : all[k]? = some rs) : ((ds.zip all).drop k).all fitG = (fitG (d, rs) && ((ds.zip all).drop (k + 1)).all fitG) := by
  have h3 : (ds.zip all)[k]? = some (d, rs) := by rw [List.getElem?_zip_eq_some]; exact ⟨h1, h2⟩
  have h4 := List.getElem?_eq_some_iff.1 h3
  rw [List.drop_eq_getElem_cons h4.1, h4.2]; rfl
set_option maxRecDepth 100000 in
set_option maxHeartbeats 8000000 in
theorem rfits_c (p : Pg) (all : List (List Rw)) (v : Value) (w : World) (cs : List Value) (hc : PgC w w.heap.size p cs) (hr : rightP p = true) (hu : SlOf w w.heap.size 1 (RwsC w w.heap.size) all v) :
    Calls Tryz.prog 43 #[.agg cs.toArray, v] w fun e w' => e = .returned (.bool (fitA p.decls all)) ∧ Below w.heap.size w w' := by
  have HR := Lib.hid (fun (W : World) (hb : Below w.heap.size w W) => rright_c p W cs ((hc.below hb).more hb.size))
  rw [hr] at HR
  obtain ⟨o0, k0, o1, k1, rfl, hd, _⟩ := hc.look
  obtain ⟨ov, cv, e0, hcv, hmv, SV⟩ := SlOf.open hd
  cases e0
  obtain ⟨ou, cu, rfl, hcu, hmu, SU⟩ := SlOf.open hu
  have HB0 : Hid (∀ (x : Obj), Below w.heap.size w (w.alloc x)) := Lib.hid fun x => alB w x
  clear hc hd hu hr
  go_enter Tryz.func43, Tryz.ntmps43
  go_wp2_with fail
  refine (HR.out _ (HB0.out _)).mono ?_
  rintro e w1 ⟨rfl, b1⟩
  have r1 := (b1.block w.heap.size (by simp)).trans (rowNew w 25 [.slice o0 p.decls.length k0, .slice o1 p.rules.length k1])
  have B1 := Lib.hid ((HB0.out (.cells #[.slice o0 p.decls.length k0, .slice o1 p.rules.length k1] 25)).trans (b1.mono (by simp)))
  have HR1 := Lib.hid r1
  have c0 : w1.cell? ⟨w.heap.size, 0, none⟩ = some (.slice o0 p.decls.length k0) := row_cells r1 0
  have hz1 := heap_lt r1
  clear b1 r1
  by_cases hl : all.length = p.decls.length
  case neg =>
    have hne : ((all.length : Int) != (p.decls.length : Int)) = true := by simp; omega
    have HO : Hid (fitA p.decls all = false) := Lib.hid (by unfold fitA; rw [decide_eq_false hl]; rfl)
    clear hl
    go_wp2
    go_ret
    exact ⟨by rw [HO.out]; rfl, B1.out⟩
  case pos =>
    have hne : ((all.length : Int) != (p.decls.length : Int)) = false := by simp; omega
    have HO : Hid (fitA p.decls all = ((p.decls.zip all).drop 0).all fitG) := Lib.hid (by unfold fitA; rw [decide_eq_true hl]; rfl)
    have Hl := Lib.hid hl
    have HBz : Hid (Below w1.heap.size w1 w1) := Lib.hid (Below.refl _ _)
    clear hl
    go_wp2
    clear c0 hz1
    go_loopw [6] (fun i wr => ∃ k : Nat, k ≤ all.length ∧ i = .int .i64 (k : Int) ∧ Hid (fitA p.decls all = ((p.decls.zip all).drop k).all fitG) ∧ Below w1.heap.size w1 wr) (fun i _ => all.length - (intOf i).toNat)
    case atStart => exact ⟨0, Nat.zero_le _, rfl, HO, HBz.out⟩
    case round =>
      obtain ⟨k, hk, rfl, hO, hB⟩ := hrel
      have hrow := (hB.block _ (heap_lt HR1.out)).trans HR1.out
      have hBw := B1.out.trans (hB.mono B1.out.size)
      have hBs := hBw.size
      by_cases hlt : k < all.length
      · have hlt' : (k : Int) < (all.length : Int) := by omega
        have hlt2 : (k : Int) < (p.decls.length : Int) := by have := Hl.out; omega
        have hk0 : (0 : Int) ≤ (k : Int) := by omega
        obtain ⟨d, hdk⟩ : ∃ d, p.decls[k]? = some d := ⟨p.decls[k]'(by have := Hl.out; omega), List.getElem?_eq_getElem _⟩
        obtain ⟨rs, hrs⟩ : ∃ rs, all[k]? = some rs := ⟨all[k], List.getElem?_eq_getElem hlt⟩
        obtain ⟨aD, u0, v0, u1, v1, rfl, haD, HDc, e0, e1, e2, e3, e4, e5⟩ := de_at SV hBw hdk
        obtain ⟨aU, o', cap', rfl, haU, R1, cU⟩ := rws_at SU hBw hrs
        have hadl : (aD.add (k * 6)).block < wr.heap.size := by rw [addBlock]; omega
        have haul : (aU.add k).block < wr.heap.size := by rw [addBlock]; omega
        have hzb := heap_lt hrow
        have Hst := Lib.hid (hO.out.trans (fitZ_drop hdk hrs))
        have hS : ∀ W', Below wr.heap.size wr.drew W' → W'.cell? ⟨w.heap.size, 0, none⟩ = some (.slice (some aD) p.decls.length k0) ∧ W'.cell? (aD.add (k * 6)) = some (.string d.rel) ∧ W'.cell? ⟨(aD.add (k * 6)).block, (aD.add (k * 6)).off + 1, none⟩ = some (.slice u0 d.names.length v0) ∧ W'.cell? ⟨(aD.add (k * 6)).block, (aD.add (k * 6)).off + 2, none⟩ = some (.slice u1 d.types.length v1) ∧ W'.cell? ⟨(aD.add (k * 6)).block, (aD.add (k * 6)).off + 3, none⟩ = some (.bool d.inn) ∧ W'.cell? ⟨(aD.add (k * 6)).block, (aD.add (k * 6)).off + 4, none⟩ = some (.bool d.out) ∧ W'.cell? ⟨(aD.add (k * 6)).block, (aD.add (k * 6)).off + 5, none⟩ = some (.int .i64 d.line) ∧ W'.cell? (aU.add k) = some (.slice o' rs.length cap') ∧ Below wr.heap.size wr.drew W' := fun W' h =>
          ⟨(h.cell (p := ⟨w.heap.size, 0, none⟩) hzb).trans (row_cells hrow 0), (h.cell hadl).trans e0, (h.cell (p := ⟨(aD.add (k * 6)).block, (aD.add (k * 6)).off + 1, none⟩) hadl).trans e1, (h.cell (p := ⟨(aD.add (k * 6)).block, (aD.add (k * 6)).off + 2, none⟩) hadl).trans e2, (h.cell (p := ⟨(aD.add (k * 6)).block, (aD.add (k * 6)).off + 3, none⟩) hadl).trans e3, (h.cell (p := ⟨(aD.add (k * 6)).block, (aD.add (k * 6)).off + 4, none⟩) hadl).trans e4, (h.cell (p := ⟨(aD.add (k * 6)).block, (aD.add (k * 6)).off + 5, none⟩) hadl).trans e5, (h.cell haul).trans cU, h⟩
        have hS0 := hS wr.drew (Below.refl _ _)
        have HC : Hid (∀ W', Below wr.heap.size wr.drew W' → Calls Tryz.prog 38 #[.agg #[.string d.rel, .slice u0 d.names.length v0, .slice u1 d.types.length v1, .bool d.inn, .bool d.out, .int .i64 d.line], .slice o' rs.length cap'] W' fun e w' => e = .returned (.bool (fitG (d, rs))) ∧ Below W'.heap.size W' w') := Lib.hid fun W' h => by
          have hb2 : Below wr.heap.size wr W' := drewB h
          exact fitsOne_c d rs _ W' [.string d.rel, .slice u0 d.names.length v0, .slice u1 d.types.length v1, .bool d.inn, .bool d.out, .int .i64 d.line] ((HDc.out.below hb2).more hb2.size) (RwsS.past R1 hb2)
        have HK : Hid (∀ (w' w'' : World), Below wr.heap.size wr.drew w' → Below w'.heap.size w' w'' → w''.cell? ⟨w.heap.size, 0, none⟩ = some (.slice (some aD) p.decls.length k0) ∧ w''.cell? (aD.add (k * 6)) = some (.string d.rel) ∧ w''.cell? ⟨(aD.add (k * 6)).block, (aD.add (k * 6)).off + 1, none⟩ = some (.slice u0 d.names.length v0) ∧ w''.cell? ⟨(aD.add (k * 6)).block, (aD.add (k * 6)).off + 2, none⟩ = some (.slice u1 d.types.length v1) ∧ w''.cell? ⟨(aD.add (k * 6)).block, (aD.add (k * 6)).off + 3, none⟩ = some (.bool d.inn) ∧ w''.cell? ⟨(aD.add (k * 6)).block, (aD.add (k * 6)).off + 4, none⟩ = some (.bool d.out) ∧ w''.cell? ⟨(aD.add (k * 6)).block, (aD.add (k * 6)).off + 5, none⟩ = some (.int .i64 d.line) ∧ w''.cell? (aU.add k) = some (.slice o' rs.length cap') ∧ Below wr.heap.size wr.drew w'') := Lib.hid fun w' w'' h1 h2 => hS _ (h1.trans (h2.mono h1.size))
        have HBk := Lib.hid hB
        clear hdk hrs R1 cU e0 e1 e2 e3 e4 e5 hS hB hBw hrow HDc hO
        go_wp2_with fail
        go_region_held3 (fun w' => w'.cell? ⟨w.heap.size, 0, none⟩ = some (.slice (some aD) p.decls.length k0) ∧ w'.cell? (aD.add (k * 6)) = some (.string d.rel) ∧ w'.cell? ⟨(aD.add (k * 6)).block, (aD.add (k * 6)).off + 1, none⟩ = some (.slice u0 d.names.length v0) ∧ w'.cell? ⟨(aD.add (k * 6)).block, (aD.add (k * 6)).off + 2, none⟩ = some (.slice u1 d.types.length v1) ∧ w'.cell? ⟨(aD.add (k * 6)).block, (aD.add (k * 6)).off + 3, none⟩ = some (.bool d.inn) ∧ w'.cell? ⟨(aD.add (k * 6)).block, (aD.add (k * 6)).off + 4, none⟩ = some (.bool d.out) ∧ w'.cell? ⟨(aD.add (k * 6)).block, (aD.add (k * 6)).off + 5, none⟩ = some (.int .i64 d.line) ∧ w'.cell? (aU.add k) = some (.slice o' rs.length cap') ∧ Below wr.heap.size wr.drew w') (first | exact hk1 | exact hS0)
          (first | (go_at_call 38; refine (HC.out _ hS0.2.2.2.2.2.2.2.2).mono ?_; rintro e1 w4 ⟨rfl, b4⟩; have hk1 := HK.out _ _ hS0.2.2.2.2.2.2.2.2 b4))
        all_goals
          have HB4 := Lib.hid (HBk.out.trans ((drewB hk1.2.2.2.2.2.2.2.2).mono HBk.out.size))
          clear hk1 hS0
          cases hf : fitG (d, rs) with
          | false =>
            have HF : Hid (fitA p.decls all = false) := Lib.hid (by rw [Hst.out, hf]; rfl)
            clear hf
            go_wp2
            go_ret
            exact ⟨by rw [HF.out]; rfl, B1.out.trans (HB4.out.mono B1.out.size)⟩
          | true =>
            have Hn : Hid (fitA p.decls all = ((p.decls.zip all).drop (k + 1)).all fitG) := Lib.hid (by rw [Hst.out, hf]; rfl)
            clear hf
            go_wp2
            go_roundw
            case rel => exact ⟨k + 1, by omega, by go_num, Hn, HB4.out⟩
            case measure => simp [intOf]; omega
      · have hlt' : ¬ (k : Int) < (all.length : Int) := by omega
        have HF : Hid (fitA p.decls all = true) := Lib.hid (by rw [hO.out, List.drop_of_length_le (by rw [List.length_zip]; omega)]; rfl)
        have HBw := Lib.hid hBw
        clear hB hBw hrow
        go_wp2
        go_ret
        exact ⟨by rw [HF.out]; rfl, HBw.out⟩
end Go.Proofs.YthhepmddcncjoaaGreatDoor
namespace Go.Proofs.YthhepmddcncjoaaGreatDoor
open Go.RowKit

theorem vals_of {w : World} {B : Nat} {r : Rw} {v : Value} (h : SlOf w B 3 VlC r v) : ∀ x ∈ r, I64 x.n ∧ x.s.size ≤ maxLen := by
  intro x hx
  obtain ⟨i, hi⟩ := List.mem_iff_getElem?.1 hx
  obtain ⟨o, c, rfl, _, _, S⟩ := SlOf.open h
  obtain ⟨a, cs, _, _, _, ⟨_, h1, h2⟩, _⟩ := S.out i x hi
  exact ⟨h1, h2⟩
theorem rowT_len5 : ∀ (r : Rw), (∀ x ∈ r, I64 x.n ∧ x.s.size ≤ 5000) → (rowT r).length ≤ 20031 * r.length
  | [], _ => Nat.zero_le _
  | x :: r, h => by
    rw [rowT_cons, List.length_cons, List.length_append, List.length_cons]
    have h0 := h x (List.mem_cons_self ..)
    have h1 := textV_len x h0.1
    have h2 := rowT_len5 r fun y hy => h y (List.mem_cons_of_mem _ hy)
    omega
theorem str_app2 (l m k : List UInt8) : Value.string (((⟨l.toArray⟩ : ByteArray) ++ ⟨m.toArray⟩) ++ ⟨k.toArray⟩) = .string ⟨(l ++ m ++ k).toArray⟩ := by
  rw [ByteArray.mk_append_mk, ByteArray.mk_append_mk]
set_option maxRecDepth 100000 in
set_option maxHeartbeats 8000000 in
theorem rline_c (d : De) (r : Rw) (v : Value) (w : World) (cs : List Value) (hd : DeC w w.heap.size d cs) (hv : SlOf w w.heap.size 3 VlC r v) (hs : ∀ x ∈ r, x.s.size ≤ 5000) (hn : r.length ≤ 20) (hR : d.rel.size ≤ 1048576) :
    Calls Tryz.prog 18 #[.agg cs.toArray, v] w fun e w' => e = .returned (lineV (codeL (fitR d.types r)) (lineT d.rel r)) ∧ Below w.heap.size w w' := by
  have HF := Lib.hid (fun (W : World) (u : Value) (hb : Below w.heap.size w W) (hu : RwsS W W.heap.size [r] u) => fitsOne_c d [r] u W cs ((hd.below hb).more hb.size) hu)
  rw [show fitG (d, [r]) = fitR d.types r by unfold fitG; simp [riseL]] at HF
  obtain ⟨o0, k0, o1, k1, rfl, _⟩ := hd.look
  obtain ⟨ov, cv, rfl, _, _, SV⟩ := SlOf.open hv
  have HV := Lib.hid hv
  have HS := Lib.hid (rowT_len5 r fun x hx => ⟨(vals_of hv x hx).1, hs x hx⟩)
  have HSz := Lib.hid hs
  have HN := Lib.hid hn
  have HRl := Lib.hid hR
  obtain ⟨W1, hW1⟩ : ∃ W1, (w.alloc (.cells #[.string d.rel, .slice o0 d.names.length k0, .slice o1 d.types.length k1, .bool d.inn, .bool d.out, .int .i64 d.line] 38)).alloc (.cells #[.slice ov r.length cv] 39) = W1 := ⟨_, rfl⟩
  have hb1 : Below w.heap.size w W1 := by rw [← hW1]; exact ((Below.refl _ w).alloc (Nat.le_refl _) _).alloc (by simp) _
  have hr0 : W1.heap[w.heap.size]? = some (.cells #[.string d.rel, .slice o0 d.names.length k0, .slice o1 d.types.length k1, .bool d.inn, .bool d.out, .int .i64 d.line] 38 (0, 0)) := by rw [← hW1]; exact row_more (newRow rfl) _
  have hr1 : Row (w.heap.size + 1) 39 [.slice ov r.length cv] W1 := by rw [← hW1]; exact newRow (by simp)
  have hu : RwsS W1 W1.heap.size [r] (.slice (some ⟨w.heap.size + 1, 0, none⟩) 1 1) := sl_one hr1 (heap_lt hr1) rfl ⟨_, rfl, VlS.past hv hb1⟩
  have HC := Lib.hid (HF.out W1 _ hb1 hu)
  have HB1 := Lib.hid hb1
  have HR0 := Lib.hid hr0
  clear hd hv hs hn hR hb1 hr0 hr1 hu
  go_enter Tryz.func18, Tryz.ntmps18
  go_wp2_with fail
  (try rw [hW1])
  refine HC.out.mono ?_
  rintro e w2 ⟨rfl, b2⟩
  have hrow := (b2.block _ (heap_lt HR0.out)).trans HR0.out
  have c0 : w2.cell? ⟨w.heap.size, 0, none⟩ = some (.string d.rel) := row_cells hrow 0
  have hz := heap_lt hrow
  have HB2 := Lib.hid (HB1.out.trans (b2.mono HB1.out.size))
  clear b2 hrow
  cases hf : fitR d.types r with
  | false =>
    have Hf := Lib.hid hf
    clear hf
    go_wp2
    go_ret2
    exact ⟨by rw [Hf.out]; rfl, HB2.out⟩
  | true =>
    have Hf := Lib.hid hf
    clear hf
    have HBz : Hid (Below w2.heap.size w2 w2) := Lib.hid (Below.refl _ _)
    go_wp2
    clear c0 hz
    go_loopw [7, 8] (fun u i wr => ∃ (k : Nat) (acc : List UInt8), k ≤ r.length ∧ i = .int .i64 (k : Int) ∧ u = .string ⟨acc.toArray⟩ ∧ Hid (acc = d.rel.data.toList ++ rowT (r.take k)) ∧ Below w2.heap.size w2 wr) (fun _ i _ => r.length - (intOf i).toNat)
    case atStart => exact ⟨0, d.rel.data.toList, Nat.zero_le _, rfl, by rw [arr_eq rfl], Lib.hid (by rw [List.take_zero]; simp [rowT]), HBz.out⟩
    case round =>
      obtain ⟨k, acc, hk, rfl, rfl, hacc, hB⟩ := hrel
      have hBw := HB2.out.trans (hB.mono HB2.out.size)
      have hBs := hBw.size
      have hal : acc.length ≤ 2000000 := by
        have h1 := HS.out
        have h2 := rowT_upto r k
        have h3 := HN.out
        have h4 := HRl.out
        rw [hacc.out, List.length_append]
        have h5 : d.rel.data.toList.length = d.rel.size := by simp
        omega
      by_cases hlt : k < r.length
      · have hlt' : (k : Int) < (r.length : Int) := by omega
        have hk0 : (0 : Int) ≤ (k : Int) := by omega
        obtain ⟨x, hx⟩ : ∃ x, r[k]? = some x := ⟨r[k], List.getElem?_eq_getElem hlt⟩
        obtain ⟨a1, rfl, ha1, hI, hs1, c0, c1, c2⟩ := vl_at SV hBw hx
        have hl1 : (a1.add (k * 3)).block < wr.heap.size := by rw [addBlock]; omega
        have Hst := Lib.hid (rowT_take hx)
        have hxs := HSz.out x (List.mem_of_getElem? hx)
        have htl := textV_len x hI
        have HQ := Lib.hid (refQuote_c x.s hxs wr)
        have HM := Lib.hid (refNum_c x.n hI.1 hI.2 wr)
        have HBk := Lib.hid hB
        have e1 : ¬ 9223372036854775807 < acc.length + 1 := by omega
        clear hx hB hBw
        cases hsy : x.sym with
        | true =>
          have he : quoteL x.s.data.toList = textV x := by unfold textV; rw [if_pos hsy]
          rw [he] at HQ
          rw [hsy] at c0
          have e2 : ¬ 9223372036854775807 < acc.length + 1 + (textV x).length := by omega
          have Hacc : Hid (acc ++ [9] ++ textV x = d.rel.data.toList ++ rowT (r.take (k + 1))) := Lib.hid (by rw [Hst.out, hacc.out]; simp)
          clear hsy he
          go_wp2_with fail
          refine HQ.out.mono ?_
          rintro e w4 ⟨rfl, b4⟩
          have HB4 := Lib.hid (HBk.out.trans (b4.mono HBk.out.size))
          clear b4 c0 c1 c2
          go_wp2
          go_roundw
          case rel => exact ⟨k + 1, acc ++ [9] ++ textV x, hlt, by go_num, str_app2 _ _ _, Hacc, HB4.out⟩
          case measure => simp [intOf]; omega
        | false =>
          have he : Lib.itoa x.n = textV x := by unfold textV; rw [hsy]; rfl
          rw [he] at HM
          rw [hsy] at c0
          have e2 : ¬ 9223372036854775807 < acc.length + 1 + (textV x).length := by omega
          have Hacc : Hid (acc ++ [9] ++ textV x = d.rel.data.toList ++ rowT (r.take (k + 1))) := Lib.hid (by rw [Hst.out, hacc.out]; simp)
          clear hsy he
          go_wp2_with fail
          refine HM.out.mono ?_
          rintro e w4 ⟨rfl, b4⟩
          have HB4 := Lib.hid (HBk.out.trans (b4.mono HBk.out.size))
          clear b4 c0 c1 c2
          go_wp2
          go_roundw
          case rel => exact ⟨k + 1, acc ++ [9] ++ textV x, hlt, by go_num, str_app2 _ _ _, Hacc, HB4.out⟩
          case measure => simp [intOf]; omega
      · have hlt' : ¬ (k : Int) < (r.length : Int) := by omega
        have e1 : ¬ 9223372036854775807 < acc.length + 1 := by omega
        have HF' : Hid (acc ++ [10] = lineT d.rel r) := Lib.hid (by
          rw [hacc.out, List.take_of_length_le (by omega)]
          unfold lineT
          rw [List.append_assoc])
        have HBw := Lib.hid hBw
        clear hB hBw hacc
        go_wp2
        go_ret2
        refine ⟨?_, HBw.out⟩
        rw [Hf.out, str_app, HF'.out]
        rfl
end Go.Proofs.YthhepmddcncjoaaGreatDoor
