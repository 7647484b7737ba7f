/- dtree.sameTerm and slices.EqualFunc over terms. -/
import Derived.Test.YtbpdfmpfnbdeoaaDoorTsp
import Derived.BigQuiet
import Derived.Deep.QuietTactic
namespace Go.Proofs.YtbpdfmpfnbdeoaaDoor
open Go.RowKit

def SameTermAt (t : Tm) : Prop := ∀ (u : Tm) (w : World) (cs ds : List Value), TmC w w.heap.size t cs → TmC w w.heap.size u ds →
    Calls Tryd.prog 119 #[.agg cs.toArray, .agg ds.toArray] w fun e w' => e = .returned (.bool (sameT t u)) ∧ Below w.heap.size w w'

set_option maxRecDepth 100000 in
set_option maxHeartbeats 4000000 in
theorem equalTerms_c (l m : List Tm) (ih : ∀ t ∈ l, SameTermAt t) (v1 v2 : Value) (w : World) (h1 : TmS w w.heap.size l v1) (h2 : TmS w w.heap.size m v2) :
    Calls Tryd.prog 134 #[v1, v2, .func (.func 119) #[] #[]] w fun e w' => e = .returned (.bool (allS sameT l m)) ∧ Below w.heap.size w w' := by
  obtain ⟨o1, cap1, rfl, hc1, hm1, S1⟩ := SlOf.open h1
  obtain ⟨o2, cap2, rfl, hc2, hm2, S2⟩ := SlOf.open h2
  have IH := Lib.hid ih
  clear h1 h2 ih
  by_cases hlen : l.length = m.length
  · have q : ((l.length : Int) != (m.length : Int)) = false := by rw [hlen]; simp
    have Hlen := Lib.hid hlen
    clear hlen
    go_enter Tryd.func134, Tryd.ntmps134
    go_wp2
    go_loopw [17] (fun i wr => ∃ k : Nat, k ≤ l.length ∧ i = .int .i64 k ∧ allS sameT l m = allS sameT (l.drop k) (m.drop k) ∧ Below w.heap.size w wr) (fun i _ => l.length - (intOf i).toNat)
    case atStart => exact ⟨0, Nat.zero_le _, rfl, rfl, Below.refl _ _⟩
    case round =>
      obtain ⟨k, hk, rfl, hr, hB⟩ := hrel
      have Hr := Lib.hid hr
      clear hr
      have hBs := hB.size
      by_cases hlt : k < l.length
      · have hlt' : (k : Int) < (l.length : Int) := by omega
        have hlt2 : k < m.length := by have := Hlen.out; omega
        obtain ⟨t, ht⟩ : ∃ t, l[k]? = some t := ⟨l[k], List.getElem?_eq_getElem hlt⟩
        obtain ⟨u, hu⟩ : ∃ u, m[k]? = some u := ⟨m[k], List.getElem?_eq_getElem hlt2⟩
        obtain ⟨a, p1, q1, rfl, ha, Hc, c0, c1, c2, c3⟩ := tm_at S1 hB ht
        obtain ⟨b, p2, q2, rfl, hb, Hd, d0, d1, d2, d3⟩ := tm_at S2 hB hu
        have hal : (a.add (k * 4)).block < wr.heap.size := by rw [addBlock]; omega
        have hbl : (b.add (k * 4)).block < wr.heap.size := by rw [addBlock]; omega
        have Hs := Lib.hid (allS_drop (f := sameT) ht hu)
        have Ht := Lib.hid (List.mem_of_getElem? ht)
        clear ht hu
        have HI := Lib.hid (fun (W : World) (hb : Below wr.heap.size wr W) => IH.out t Ht.out u W _ _ ((Hc.out.under hb).more hb.size) ((Hd.out.under hb).more hb.size))
        go_wp2_with fail
        refine (HI.out _ (((Below.refl _ _).alloc (Nat.le_refl _) _).alloc (by simp) _)).mono ?_
        rintro e w1 ⟨rfl, b1⟩
        have hB1 := hB.trans ((((Below.refl _ wr).alloc (Nat.le_refl _) _).alloc (by simp) _).mono hBs |>.trans (b1.mono (by simp; omega)))
        cases hs : sameT t u
        · have Hz := Lib.hid (Hr.out.trans (Hs.out.trans (by rw [hs, Bool.false_and])))
          clear hs
          go_wp2
          go_ret
          exact ⟨by rw [Hz.out]; rfl, hB1⟩
        · have Hz := Lib.hid (Hr.out.trans (Hs.out.trans (by rw [hs, Bool.true_and])))
          clear hs
          go_wp2
          go_roundw
          case rel => exact ⟨k + 1, hlt, by go_num, Hz.out, hB1⟩
          case measure => simp [intOf]; omega
      · have hlt' : ¬ (k : Int) < (l.length : Int) := by omega
        have Hz := Lib.hid (allS_end (f := sameT) (l := l) (m := m) (k := k) (by omega) (by have := Hlen.out; omega))
        go_wp2
        go_ret
        exact ⟨by rw [Hr.out, Hz.out]; rfl, hB⟩
  · have q : ((l.length : Int) != (m.length : Int)) = true := by rw [bne_iff_ne]; omega
    have Hz := Lib.hid (allS_len (f := sameT) hlen)
    clear hlen
    go_enter Tryd.func134, Tryd.ntmps134
    go_wp2
    go_ret
    exact ⟨by rw [Hz.out]; rfl, Below.refl _ _⟩

set_option maxRecDepth 100000 in
set_option maxHeartbeats 4000000 in
theorem sameTerm_c (t : Tm) : SameTermAt t := by
  induction t using Tm.rec (motive_2 := fun l => ∀ t ∈ l, SameTermAt t) with
  | nil x hx => simp at hx
  | cons t ts ih ihs x hx =>
    rcases List.mem_cons.1 hx with rfl | hx
    · exact ih
    · exact ihs x hx
  | mk op s n l ih =>
    intro u w cs ds hc hd
    obtain ⟨p1, q1, rfl, _, _, _, t1⟩ := hc.look
    obtain ⟨p2, q2, rfl, _, _, _, t2⟩ := hd.look
    have Hs := Lib.hid (sameT_eq (.mk op s n l) u)
    have H := Lib.hid (fun (W : World) (hb : Below w.heap.size w W) => equalTerms_c l u.l ih _ _ W ((TmS.below t1 hb).more hb.size) ((TmS.below t2 hb).more hb.size))
    simp only [Tm.op_mk, Tm.s_mk, Tm.n_mk, Tm.l_mk] at Hs H ⊢
    clear hc hd t1 t2 ih
    obtain ⟨b1, hb1⟩ : ∃ b, (op == u.op) = b := ⟨_, rfl⟩
    obtain ⟨b2, hb2⟩ : ∃ b, (s.toList == u.s.toList) = b := ⟨_, rfl⟩
    obtain ⟨b3, hb3⟩ : ∃ b, (n == u.n) = b := ⟨_, rfl⟩
    have Hf : Hid ((b1 && b2 && b3) = false → sameT (.mk op s n l) u = false) := Lib.hid (by
      intro h
      rw [Hs.out, hb1, hb2, hb3, h, Bool.false_and])
    cases b1
    · have Hz := Lib.hid (Hf.out rfl)
      go_enter Tryd.func119, Tryd.ntmps119
      go_wp2
      go_ret
      exact ⟨by rw [Hz.out]; rfl, ((Below.refl _ _).alloc (Nat.le_refl _) _).alloc (by simp) _⟩
    cases b2
    · have Hz := Lib.hid (Hf.out rfl)
      go_enter Tryd.func119, Tryd.ntmps119
      go_wp2
      go_ret
      exact ⟨by rw [Hz.out]; rfl, ((Below.refl _ _).alloc (Nat.le_refl _) _).alloc (by simp) _⟩
    cases b3
    · have Hz := Lib.hid (Hf.out rfl)
      go_enter Tryd.func119, Tryd.ntmps119
      go_wp2
      go_ret
      exact ⟨by rw [Hz.out]; rfl, ((Below.refl _ _).alloc (Nat.le_refl _) _).alloc (by simp) _⟩
    have Hz : Hid (sameT (.mk op s n l) u = allS sameT l u.l) := Lib.hid (by rw [Hs.out, hb1, hb2, hb3]; rfl)
    go_enter Tryd.func119, Tryd.ntmps119
    go_wp2_with fail
    refine (H.out _ (((Below.refl _ _).alloc (Nat.le_refl _) _).alloc (by simp) _)).mono ?_
    rintro e w1 ⟨rfl, b1⟩
    go_wp2
    go_ret
    exact ⟨by rw [Hz.out]; rfl, (((Below.refl _ _).alloc (Nat.le_refl _) _).alloc (by simp) _).trans (b1.mono (by simp; omega))⟩
end Go.Proofs.YtbpdfmpfnbdeoaaDoor
