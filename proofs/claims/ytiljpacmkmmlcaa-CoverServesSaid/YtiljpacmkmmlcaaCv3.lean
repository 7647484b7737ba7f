/- soritesref12.augment. -/
import Derived.Test.YtiljpacmkmmlcaaCv1
import Derived.Test.YtiljpacmkmmlcaaCv2
import Derived.Deep.RegionHeld3
set_option linter.unusedSimpArgs false
set_option linter.unusedVariables false
namespace Go.Proofs.Ytiljpacmkmmlcaa
open Go.RowKit

theorem heap_ltC {w : World} {i : Nat} {o : Obj} (h : w.heap[i]? = some o) : i < w.heap.size := (Array.getElem?_eq_some_iff.1 h).1
theorem row_cellsC {w : World} {b : Nat} {cs : Array Value} {T : TypeId} (h : w.heap[b]? = some (.cells cs T (0, 0))) (i : Nat) : w.cell? ⟨b, i, none⟩ = cs[i]? := by unfold World.cell?; rw [h]; rfl
theorem frz_rowC {w : World} {b : Nat} {cs : Array Value} {T : TypeId} (h : w.heap[b]? = some (.cells cs T (0, 0))) (i : Nat) : w.frozen? ⟨b, i, none⟩ = false := by simp [World.frozen?, h]
theorem addKC (b k : Nat) : (⟨b, 0, none⟩ : Addr).add k = ⟨b, k, none⟩ := by unfold Addr.add; split <;> simp_all
theorem set_rowC {w : World} {b i : Nat} {l : List Value} {T : TypeId} (hb : w.heap[b]? = some (.cells l.toArray T (0, 0))) (v : Value) : (w.setCell ⟨b, i, none⟩ v).heap[b]? = some (.cells (l.set i v).toArray T (0, 0)) := by
  simp [World.setCell, Array.getElem?_modify, hb]
theorem set_otherC {w : World} {b b' i : Nat} {o : Obj} (h : b' ≠ b) (hb : w.heap[b']? = some o) (v : Value) : (w.setCell ⟨b, i, none⟩ v).heap[b']? = some o := (Below.heap_setCell w ⟨b, i, none⟩ v b' h).trans hb
theorem set_atB {w wr : World} {n0 : Nat} {l : List (List Int)} {o : Option Addr} {k : Nat} {s : List Int} (S : Hid (SlIn w n0 1 (IntsC w n0) l o)) (hB : Below n0 w wr) (hn : n0 ≤ wr.heap.size) (ht : l[k]? = some s) :
    ∃ a o' cap', o = some a ∧ a.block < n0 ∧ SlOf wr wr.heap.size 1 IntC s (.slice o' s.length cap') ∧ wr.cell? (a.add k) = some (.slice o' s.length cap') := by
  obtain ⟨a, cs, rfl, ha, _, ⟨v, rfl, h1⟩, h2⟩ := S.out k s ht
  obtain ⟨o', cap', rfl, _⟩ := SlOf.uni h1
  have h3 := (h2.below ha hB).n1
  rw [Nat.mul_one] at h3
  exact ⟨a, o', cap', rfl, ha, SlOf.int h1 hB hn, h3⟩
def AugR (sets : List (List Int)) (b1 b2 : Nat) (B : Bh) (m : Nat → Bool) (i : Nat) (w : World) (e : Ending) (w' : World) : Prop :=
  ∃ o B' m', e = .returned (.bool o) ∧ Srch sets.length (RS sets) B m i 0 o B' m' ∧ w'.heap[b1]? = some (.cells (bhCells B' sets.length).toArray 3 (0, 0)) ∧ w'.heap[b2]? = some (.cells (metCells m' sets.length).toArray 4 (0, 0)) ∧ (∀ k x, B' k = some x → x < sets.length) ∧ Two b1 b2 w w'
theorem Two.drew {b1 b2 : Nat} {w w' : World} (h : Two b1 b2 w w') : Two b1 b2 w w'.drew := ⟨h.os, h.tape, h.output, h.size, h.block⟩
/-- At the head of a round. -/
structure AugI (sets : List (List Int)) (b1 b2 : Nat) (B : Bh) (m : Nat → Bool) (i k : Nat) (Bk : Bh) (mk : Nat → Bool) (w wr : World) : Prop where
  sr : ∀ o B' m', Srch sets.length (RS sets) Bk mk i k o B' m' → Srch sets.length (RS sets) B m i 0 o B' m'
  r1 : wr.heap[b1]? = some (.cells (bhCells Bk sets.length).toArray 3 (0, 0))
  r2 : wr.heap[b2]? = some (.cells (metCells mk sets.length).toArray 4 (0, 0))
  bv : ∀ l x, Bk l = some x → x < sets.length
  two : Two b1 b2 w wr
  un : unmet mk sets.length ≤ unmet m sets.length
theorem bh_put {w : World} {b n k : Nat} {B : Bh} {T : TypeId} (h : w.heap[b]? = some (.cells (bhCells B n).toArray T (0, 0))) (hk : k < n) (i : Nat) : (w.setCell ⟨b, k, none⟩ (.int .i64 (i : Int))).heap[b]? = some (.cells (bhCells (updB B k i) n).toArray T (0, 0)) := by
  have := set_rowC (i := k) h (.int .i64 (i : Int))
  rw [bhCells_set B hk] at this
  exact this
theorem bv_put {n k i : Nat} {B : Bh} (h : ∀ l x, B l = some x → x < n) (hi : i < n) : ∀ l x, updB B k i l = some x → x < n := by
  intro l x hx
  by_cases e : l = k
  · subst e
    rw [updB_same] at hx
    injection hx with hx
    omega
  · rw [updB_other _ _ e] at hx
    exact h l x hx
theorem RS_of {sets : List (List Int)} {i k : Nat} {s t : List Int} (h1 : sets[i]? = some s) (h2 : sets[k]? = some t) : RS sets i k ↔ insideL s t = true := by
  unfold RS
  rw [List.getD_eq_getElem?_getD, List.getD_eq_getElem?_getD, h1, h2]
  rfl
set_option linter.unusedVariables false in
set_option maxRecDepth 100000 in
set_option maxHeartbeats 8000000 in
theorem aug12_c (sets : List (List Int)) (n0 b1 b2 : Nat) (v : Value) (w0 : World) (hn60 : sets.length ≤ 60) (h1 : n0 ≤ b1) (h2 : n0 ≤ b2) (h12 : b1 ≠ b2) (hv : SlOf w0 n0 1 (IntsC w0 n0) sets v) (hw0 : n0 ≤ w0.heap.size) : ∀ (fuel : Nat) (B : Bh) (m : Nat → Bool) (i : Nat) (w : World), unmet m sets.length ≤ fuel → i < sets.length → (∀ k x, B k = some x → x < sets.length) → Below n0 w0 w →
    w.heap[b1]? = some (.cells (bhCells B sets.length).toArray 3 (0, 0)) → w.heap[b2]? = some (.cells (metCells m sets.length).toArray 4 (0, 0)) →
    Calls Try.prog 27 #[v, .int .i64 (i : Int), .slice (some ⟨b1, 0, none⟩) sets.length sets.length, .slice (some ⟨b2, 0, none⟩) sets.length sets.length] w (AugR sets b1 b2 B m i w) := by
  obtain ⟨ov, cv, rfl, hcv, hmv, SV⟩ := SlOf.open hv
  clear hv
  intro fuel
  induction fuel using Nat.strongRecOn with
  | _ fuel IH =>
    intro B m i w hfu hi hBv hB0 hr1 hr2
    have HIH := Lib.hid IH
    have HBv := Lib.hid hBv
    have HB0 := Lib.hid hB0
    have HR1 := Lib.hid hr1
    have HR2 := Lib.hid hr2
    clear IH hBv hB0 hr1 hr2
    go_enter Try.func27, Try.ntmps27
    go_wp2
    go_loopw [9] (fun kv wr => ∃ (k : Nat) (Bk : Bh) (mk : Nat → Bool), k ≤ sets.length ∧ kv = .int .i64 (k : Int) ∧ Hid (AugI sets b1 b2 B m i k Bk mk w wr)) (fun kv _ => sets.length - (intOf kv).toNat)
    case atStart => exact ⟨0, B, m, Nat.zero_le _, rfl, Lib.hid ⟨fun _ _ _ h => h, HR1.out, HR2.out, HBv.out, Two.refl _ _ _, Nat.le_refl _⟩⟩
    case round =>
      obtain ⟨k, Bk, mk, hk, rfl, HI⟩ := hrel
      by_cases hlt : k < sets.length
      · have hlt1 : (k : Int) < (sets.length : Int) := by omega
        have hi1 : (i : Int) < (sets.length : Int) := by omega
        have hk0 : (0 : Int) ≤ (k : Int) := by omega
        have hi0 : (0 : Int) ≤ (i : Int) := by omega
        have hbel : Below n0 w0 wr.drew := (HB0.out.trans (HI.out.two.below h1 h2)).drew
        have hnw : n0 ≤ wr.drew.heap.size := Nat.le_trans hw0 hbel.size
        obtain ⟨s, hs⟩ : ∃ s, sets[i]? = some s := ⟨_, List.getElem?_eq_getElem hi⟩
        obtain ⟨t, ht⟩ : ∃ t, sets[k]? = some t := ⟨_, List.getElem?_eq_getElem hlt⟩
        obtain ⟨a, o3, c3, rfl, ha, hS, cs⟩ := set_atB SV hbel hnw hs
        obtain ⟨a', o4, c4, e4, _, hT, ct⟩ := set_atB SV hbel hnw ht
        injection e4 with e4
        subst e4
        have hai : (a.add i).block < wr.heap.size := by rw [addBlock]; exact Nat.lt_of_lt_of_le ha hnw
        have hak : (a.add k).block < wr.heap.size := by rw [addBlock]; exact Nat.lt_of_lt_of_le ha hnw
        have HIn := Lib.hid (inside12_c s t _ _ wr.drew hS hT)
        have HRS := Lib.hid (RS_of hs ht)
        have hS0 : wr.drew.cell? (a.add i) = some (.slice o3 s.length c3) ∧ wr.drew.cell? (a.add k) = some (.slice o4 t.length c4) := ⟨cs, ct⟩
        have HBel := Lib.hid hbel
        clear hS hT cs ct hs ht hbel hnw
        go_wp2_with fail
        go_region_held3 (fun W => W.cell? (a.add i) = some (.slice o3 s.length c3) ∧ W.cell? (a.add k) = some (.slice o4 t.length c4)) (first | exact hS0)
          ((go_at_call 29; refine HIn.out.mono ?_; rintro e3 w3 ⟨rfl, rfl⟩))
        clear hS0
        have HTw := Lib.hid HI.out.two.drew
        have HQ1 : Hid (wr.drew.heap[b1]? = some (.cells (bhCells Bk sets.length).toArray 3 (0, 0))) := Lib.hid HI.out.r1
        have HQ2 : Hid (wr.drew.heap[b2]? = some (.cells (metCells mk sets.length).toArray 4 (0, 0))) := Lib.hid HI.out.r2
        have m0 : wr.drew.cell? ⟨b2, k, none⟩ = some (.bool (mk k)) := (row_cellsC HQ2.out k).trans (by rw [List.getElem?_toArray]; exact metCells_at mk hlt)
        clear HIn
        cases hin : insideL s t with
        | false =>
          have Hno : Hid (¬ RS sets i k) := Lib.hid (fun h => by rw [HRS.out.1 h] at hin; cases hin)
          clear hin m0
          go_wp2
          go_roundw
          case rel => exact ⟨k + 1, Bk, mk, hlt, by go_num, Lib.hid ⟨fun o B' m' h => HI.out.sr _ _ _ (.skip hlt (.inl Hno.out) h), HQ1.out, HQ2.out, HI.out.bv, HTw.out, HI.out.un⟩⟩
          case measure => simp [intOf]; omega
        | true =>
          have Hyes : Hid (RS sets i k) := Lib.hid (HRS.out.2 hin)
          clear hin
          cases hm : mk k with
          | true =>
            rw [hm] at m0
            have Hm := Lib.hid hm
            clear hm
            go_wp2
            go_roundw
            case rel => exact ⟨k + 1, Bk, mk, hlt, by go_num, Lib.hid ⟨fun o B' m' h => HI.out.sr _ _ _ (.skip hlt (.inr Hm.out) h), HQ1.out, HQ2.out, HI.out.bv, HTw.out, HI.out.un⟩⟩
            case measure => simp [intOf]; omega
          | false =>
            rw [hm] at m0
            have Hm := Lib.hid hm
            have hf2 := frz_rowC HI.out.r2 k
            have hq2 := set_rowC (i := k) HI.out.r2 (.bool true)
            rw [metCells_set mk hlt] at hq2
            have hq1 := set_otherC (b := b2) (i := k) h12 HI.out.r1 (.bool true)
            have htw := HI.out.two.trans (Two.set2 (b1 := b1) (b2 := b2) (k := k) wr (.bool true))
            have n1 : (wr.setCell ⟨b2, k, none⟩ (.bool true)).cell? ⟨b1, k, none⟩ = some (.int .i64 (bhI Bk k)) := (row_cellsC hq1 k).trans (by rw [List.getElem?_toArray]; exact bhCells_at Bk hlt)
            have hf1 := frz_rowC hq1 k
            have hun := unmet_set hlt hm
            have HQ3 := Lib.hid hq1
            have HQ4 := Lib.hid hq2
            have HTv := Lib.hid htw
            clear hm hq1 hq2 htw
            cases hb : Bk k with
            | none =>
              have hz : bhI Bk k = -1 := by unfold bhI; rw [hb]
              rw [hz] at n1
              have Hb := Lib.hid hb
              clear hz hb
              go_wp2
              go_ret
              exact ⟨true, updB Bk k i, setB mk k, rfl, HI.out.sr _ _ _ (.free hlt Hyes.out Hm.out Hb.out), bh_put HQ3.out hlt i, set_otherC (Ne.symm h12) HQ4.out _, bv_put HI.out.bv hi, (HTv.out.trans (Two.set1 _ _)).drew⟩
            | some j =>
              have hz : bhI Bk k = (j : Int) := by unfold bhI; rw [hb]
              rw [hz] at n1
              have hj : j < sets.length := HI.out.bv k j hb
              have hj0 : ¬ (j : Int) < 0 := by omega
              have HC := Lib.hid (HIH.out (unmet (setB mk k) sets.length) (by have := HI.out.un; omega) Bk (setB mk k) j (wr.setCell ⟨b2, k, none⟩ (.bool true)).drew (Nat.le_refl _) hj HI.out.bv (HB0.out.trans (HTv.out.drew.below h1 h2)) HQ3.out HQ4.out)
              have Hb := Lib.hid hb
              clear hz hb
              go_wp2_with fail
              refine HC.out.mono ?_
              rintro e3 w3 ⟨o, B3, m3, rfl, hsr, q1, q2, hbv3, htw3⟩
              have hf3 := frz_rowC q1 k
              have c5 : w3.cell? ⟨b1, k, none⟩ = some (.int .i64 (bhI B3 k)) := (row_cellsC q1 k).trans (by rw [List.getElem?_toArray]; exact bhCells_at B3 hlt)
              have HTx := Lib.hid (HTv.out.drew.trans htw3)
              have Hun := Lib.hid (Nat.le_trans (unmet_mono (n := sets.length) hsr.mono) (Nat.le_of_lt (Nat.lt_of_lt_of_le (Nat.lt_of_succ_le hun) HI.out.un)))
              have P1 := Lib.hid q1
              have P2 := Lib.hid q2
              have P3 := Lib.hid hbv3
              have HS := Lib.hid hsr
              clear q1 q2 hbv3 hsr htw3 HC hun
              cases o with
              | true =>
                go_wp2
                go_ret
                exact ⟨true, updB B3 k i, m3, rfl, HI.out.sr _ _ _ (.take hlt Hyes.out Hm.out Hb.out HS.out), bh_put P1.out hlt i, set_otherC (Ne.symm h12) P2.out _, bv_put P3.out hi, HTx.out.trans (Two.set1 _ _)⟩
              | false =>
                go_wp2
                go_roundw
                case rel => exact ⟨k + 1, B3, m3, hlt, by go_num, Lib.hid ⟨fun o B' m' h => HI.out.sr _ _ _ (.fail hlt Hyes.out Hm.out Hb.out HS.out h), P1.out, P2.out, P3.out, HTx.out, Hun.out⟩⟩
                case measure => simp [intOf]; omega
      · have hlt1 : ¬ (k : Int) < (sets.length : Int) := by omega
        go_wp2
        go_ret
        exact ⟨false, Bk, mk, rfl, HI.out.sr _ _ _ (.stop (by omega)), HI.out.r1, HI.out.r2, HI.out.bv, HI.out.two⟩
end Go.Proofs.Ytiljpacmkmmlcaa
