/- slices.Equal over texts and numbers; dtree.sameDecl; slices.EqualFunc over relations; dtree.Same. -/
import Derived.Test.YthjfkngfgomkbaaDoorTsame2
namespace Go.Proofs.YthjfkngfgomkbaaDoor
open Go.RowKit

set_option maxRecDepth 100000 in
set_option maxHeartbeats 4000000 in
theorem equalStrs_c (l m : List ByteArray) (v1 v2 : Value) (w : World) (h1 : SlOf w w.heap.size 1 StrC l v1) (h2 : SlOf w w.heap.size 1 StrC m v2) :
    Calls Tryd.prog 43 #[v1, v2] w fun e w' => e = .returned (.bool (allS strE l m)) ∧ Below w.heap.size w w' := by
  obtain ⟨o1, cap1, rfl, hc1, hm1, S1⟩ := SlOf.open h1
  obtain ⟨o2, cap2, rfl, hc2, hm2, S2⟩ := SlOf.open h2
  clear h1 h2
  by_cases hlen : l.length = m.length
  · have q : ((l.length : Int) != (m.length : Int)) = false := by rw [hlen]; simp
    have Hlen := Lib.hid hlen
    clear hlen
    go_enter Tryd.func43, Tryd.ntmps43
    go_wp2
    go_loopw [13] (fun i wr => ∃ k : Nat, k ≤ l.length ∧ i = .int .i64 k ∧ allS strE l m = allS strE (l.drop k) (m.drop k) ∧ Below w.heap.size w wr) (fun i _ => l.length - (intOf i).toNat)
    case atStart => exact ⟨0, Nat.zero_le _, rfl, rfl, Below.refl _ _⟩
    case round =>
      obtain ⟨k, hk, rfl, hr, hB⟩ := hrel
      have Hr := Lib.hid hr
      clear hr
      have hBs := hB.size
      by_cases hlt : k < l.length
      · have hlt' : (k : Int) < (l.length : Int) := by omega
        have hlt2 : k < m.length := by have := Hlen.out; omega
        have hlt3 : (k : Int) < (m.length : Int) := by omega
        obtain ⟨t, ht⟩ : ∃ t, l[k]? = some t := ⟨l[k], List.getElem?_eq_getElem hlt⟩
        obtain ⟨u, hu⟩ : ∃ u, m[k]? = some u := ⟨m[k], List.getElem?_eq_getElem hlt2⟩
        obtain ⟨a, rfl, ha, _, c0⟩ := str_at S1 hB ht
        obtain ⟨b, rfl, hb, _, d0⟩ := str_at S2 hB hu
        have Hs := Lib.hid (allS_drop (f := strE) ht hu)
        clear ht hu
        obtain ⟨x, hx⟩ : ∃ x, (!t.toList == u.toList) = x := ⟨_, rfl⟩
        have hs : strE t u = !x := by rw [← hx]; exact (Bool.not_not _).symm
        cases x
        · have Hz := Lib.hid (Hr.out.trans (Hs.out.trans (by rw [hs, Bool.not_false, Bool.true_and])))
          clear hs
          go_wp2
          go_quiet (fail)
          go_wp2
          go_roundw
          case rel => exact ⟨k + 1, hlt, by go_num, Hz.out, below_drewN hB _⟩
          case measure => simp [intOf]; omega
        · have Hz := Lib.hid (Hr.out.trans (Hs.out.trans (by rw [hs, Bool.not_true, Bool.false_and])))
          clear hs
          go_wp2
          go_quiet (fail)
          go_wp2
          go_ret
          exact ⟨by rw [Hz.out]; rfl, below_drewN hB _⟩
      · have hlt' : ¬ (k : Int) < (l.length : Int) := by omega
        have Hz := Lib.hid (allS_end (f := strE) (l := l) (m := m) (k := k) (by omega) (by have := Hlen.out; omega))
        go_wp2
        go_ret
        exact ⟨by rw [Hr.out, Hz.out]; rfl, hB⟩
  · have q : ((l.length : Int) != (m.length : Int)) = true := by rw [bne_iff_ne]; omega
    have Hz := Lib.hid (allS_len (f := strE) hlen)
    clear hlen
    go_enter Tryd.func43, Tryd.ntmps43
    go_wp2
    go_ret
    exact ⟨by rw [Hz.out]; rfl, Below.refl _ _⟩

set_option maxRecDepth 100000 in
set_option maxHeartbeats 4000000 in
theorem equalInts_c (l m : List Int) (v1 v2 : Value) (w : World) (h1 : SlOf w w.heap.size 1 IntC l v1) (h2 : SlOf w w.heap.size 1 IntC m v2) :
    Calls Tryd.prog 44 #[v1, v2] w fun e w' => e = .returned (.bool (allS intE l m)) ∧ Below w.heap.size w w' := by
  obtain ⟨o1, cap1, rfl, hc1, hm1, S1⟩ := SlOf.open h1
  obtain ⟨o2, cap2, rfl, hc2, hm2, S2⟩ := SlOf.open h2
  clear h1 h2
  by_cases hlen : l.length = m.length
  · have q : ((l.length : Int) != (m.length : Int)) = false := by rw [hlen]; simp
    have Hlen := Lib.hid hlen
    clear hlen
    go_enter Tryd.func44, Tryd.ntmps44
    go_wp2
    go_loopw [13] (fun i wr => ∃ k : Nat, k ≤ l.length ∧ i = .int .i64 k ∧ allS intE l m = allS intE (l.drop k) (m.drop k) ∧ Below w.heap.size w wr) (fun i _ => l.length - (intOf i).toNat)
    case atStart => exact ⟨0, Nat.zero_le _, rfl, rfl, Below.refl _ _⟩
    case round =>
      obtain ⟨k, hk, rfl, hr, hB⟩ := hrel
      have Hr := Lib.hid hr
      clear hr
      have hBs := hB.size
      by_cases hlt : k < l.length
      · have hlt' : (k : Int) < (l.length : Int) := by omega
        have hlt2 : k < m.length := by have := Hlen.out; omega
        have hlt3 : (k : Int) < (m.length : Int) := by omega
        obtain ⟨t, ht⟩ : ∃ t, l[k]? = some t := ⟨l[k], List.getElem?_eq_getElem hlt⟩
        obtain ⟨u, hu⟩ : ∃ u, m[k]? = some u := ⟨m[k], List.getElem?_eq_getElem hlt2⟩
        obtain ⟨a, rfl, ha, _, c0⟩ := int_at S1 hB ht
        obtain ⟨b, rfl, hb, _, d0⟩ := int_at S2 hB hu
        have Hs := Lib.hid (allS_drop (f := intE) ht hu)
        clear ht hu
        obtain ⟨x, hx⟩ : ∃ x, (t != u) = x := ⟨_, rfl⟩
        have hs : intE t u = !x := by rw [← hx]; exact (Bool.not_not _).symm
        cases x
        · have Hz := Lib.hid (Hr.out.trans (Hs.out.trans (by rw [hs, Bool.not_false, Bool.true_and])))
          clear hs
          go_wp2
          go_quiet (fail)
          go_wp2
          go_roundw
          case rel => exact ⟨k + 1, hlt, by go_num, Hz.out, below_drewN hB _⟩
          case measure => simp [intOf]; omega
        · have Hz := Lib.hid (Hr.out.trans (Hs.out.trans (by rw [hs, Bool.not_true, Bool.false_and])))
          clear hs
          go_wp2
          go_quiet (fail)
          go_wp2
          go_ret
          exact ⟨by rw [Hz.out]; rfl, below_drewN hB _⟩
      · have hlt' : ¬ (k : Int) < (l.length : Int) := by omega
        have Hz := Lib.hid (allS_end (f := intE) (l := l) (m := m) (k := k) (by omega) (by have := Hlen.out; omega))
        go_wp2
        go_ret
        exact ⟨by rw [Hr.out, Hz.out]; rfl, hB⟩
  · have q : ((l.length : Int) != (m.length : Int)) = true := by rw [bne_iff_ne]; omega
    have Hz := Lib.hid (allS_len (f := intE) hlen)
    clear hlen
    go_enter Tryd.func44, Tryd.ntmps44
    go_wp2
    go_ret
    exact ⟨by rw [Hz.out]; rfl, Below.refl _ _⟩

set_option maxRecDepth 100000 in
set_option maxHeartbeats 4000000 in
theorem sameDecl_c (t u : De) (w : World) (cs ds : List Value) (hc : DeC w w.heap.size t cs) (hd : DeC w w.heap.size u ds) :
    Calls Tryd.prog 25 #[.agg cs.toArray, .agg ds.toArray] w fun e w' => e = .returned (.bool (sameD t u)) ∧ Below w.heap.size w w' := by
  obtain ⟨p1, q1, r1, s1, rfl, _, _, a1, t1⟩ := hc.look
  obtain ⟨p2, q2, r2, s2, rfl, _, _, a2, t2⟩ := hd.look
  have HN := Lib.hid (fun (W : World) (hb : Below w.heap.size w W) => equalStrs_c t.names u.names _ _ W (SlOf.str a1 hb hb.size) (SlOf.str a2 hb hb.size))
  have HT := Lib.hid (fun (W : World) (hb : Below w.heap.size w W) => equalInts_c t.types u.types _ _ W (SlOf.int t1 hb hb.size) (SlOf.int t2 hb hb.size))
  clear hc hd a1 a2 t1 t2
  obtain ⟨b1, hb1⟩ : ∃ b, (t.rel.toList == u.rel.toList) = b := ⟨_, rfl⟩
  obtain ⟨b2, hb2⟩ : ∃ b, (t.inn == u.inn) = b := ⟨_, rfl⟩
  obtain ⟨b3, hb3⟩ : ∃ b, (t.out == u.out) = b := ⟨_, rfl⟩
  have hz : sameD t u = (b1 && b2 && b3 && allS strE t.names u.names && allS intE t.types u.types) := by unfold sameD strE; rw [hb1, hb2, hb3]
  have Hz := Lib.hid hz
  clear hz
  cases b1
  · go_enter Tryd.func25, Tryd.ntmps25
    go_wp2
    go_ret
    exact ⟨by rw [Hz.out]; rfl, ((Below.refl _ _).alloc (Nat.le_refl _) _).alloc (by simp) _⟩
  cases b2
  · go_enter Tryd.func25, Tryd.ntmps25
    go_wp2
    go_ret
    exact ⟨by rw [Hz.out]; rfl, ((Below.refl _ _).alloc (Nat.le_refl _) _).alloc (by simp) _⟩
  cases b3
  · go_enter Tryd.func25, Tryd.ntmps25
    go_wp2
    go_ret
    exact ⟨by rw [Hz.out]; rfl, ((Below.refl _ _).alloc (Nat.le_refl _) _).alloc (by simp) _⟩
  go_enter Tryd.func25, Tryd.ntmps25
  go_wp2_with fail
  refine (HN.out _ (((Below.refl _ _).alloc (Nat.le_refl _) _).alloc (by simp) _)).mono ?_
  rintro e w1 ⟨rfl, b1⟩
  have B1 : Below w.heap.size w w1 := (((Below.refl _ _).alloc (Nat.le_refl _) _).alloc (by simp) _).trans (b1.mono (by simp; omega))
  obtain ⟨hc, hf⟩ := (⟨fun b o h => b1.cell (p := ⟨b, o, none⟩) h, fun b o h => b1.frozen (p := ⟨b, o, none⟩) h⟩ : (∀ b o, b < _ → w1.cell? ⟨b, o, none⟩ = _) ∧ (∀ b o, b < _ → w1.frozen? ⟨b, o, none⟩ = _))
  have hz1 : w.heap.size + 1 < w1.heap.size := by have := b1.size; simp at this; omega
  cases h1 : allS strE t.names u.names
  · have Hz1 : Hid (sameD t u = false) := Lib.hid (by rw [Hz.out, h1]; rfl)
    clear h1
    go_wp2
    go_ret
    exact ⟨by rw [Hz1.out]; rfl, B1⟩
  · have Hz1 : Hid (sameD t u = allS intE t.types u.types) := Lib.hid (by rw [Hz.out, h1]; rfl)
    clear h1
    go_wp2_with fail
    refine (HT.out _ B1).mono ?_
    rintro e w2 ⟨rfl, b2⟩
    go_wp2
    go_ret
    exact ⟨by rw [Hz1.out]; rfl, B1.trans (b2.mono (by omega))⟩

set_option maxRecDepth 100000 in
set_option maxHeartbeats 4000000 in
theorem equalDecls_c (l m : List De) (v1 v2 : Value) (w : World) (h1 : SlOf w w.heap.size 6 (DeC w w.heap.size) l v1) (h2 : SlOf w w.heap.size 6 (DeC w w.heap.size) m v2) :
    Calls Tryd.prog 24 #[v1, v2, .func (.func 25) #[] #[]] w fun e w' => e = .returned (.bool (allS sameD l m)) ∧ Below w.heap.size w w' := by
  obtain ⟨o1, cap1, rfl, hc1, hm1, S1⟩ := SlOf.open h1
  obtain ⟨o2, cap2, rfl, hc2, hm2, S2⟩ := SlOf.open h2
  clear h1 h2
  by_cases hlen : l.length = m.length
  · have q : ((l.length : Int) != (m.length : Int)) = false := by rw [hlen]; simp
    have Hlen := Lib.hid hlen
    clear hlen
    go_enter Tryd.func24, Tryd.ntmps24
    go_wp2
    go_loopw [17] (fun i wr => ∃ k : Nat, k ≤ l.length ∧ i = .int .i64 k ∧ allS sameD l m = allS sameD (l.drop k) (m.drop k) ∧ Below w.heap.size w wr) (fun i _ => l.length - (intOf i).toNat)
    case atStart => exact ⟨0, Nat.zero_le _, rfl, rfl, Below.refl _ _⟩
    case round =>
      obtain ⟨k, hk, rfl, hr, hB⟩ := hrel
      have Hr := Lib.hid hr
      clear hr
      have hBs := hB.size
      by_cases hlt : k < l.length
      · have hlt' : (k : Int) < (l.length : Int) := by omega
        have hlt2 : k < m.length := by have := Hlen.out; omega
        obtain ⟨t, ht⟩ : ∃ t, l[k]? = some t := ⟨l[k], List.getElem?_eq_getElem hlt⟩
        obtain ⟨u, hu⟩ : ∃ u, m[k]? = some u := ⟨m[k], List.getElem?_eq_getElem hlt2⟩
        obtain ⟨a, p1, q1, r1, s1, rfl, ha, Hc, c0, c1, c2, c3, c4, c5⟩ := de_at S1 hB ht
        obtain ⟨b, p2, q2, r2, s2, rfl, hb, Hd, d0, d1, d2, d3, d4, d5⟩ := de_at S2 hB hu
        have hal : (a.add (k * 6)).block < wr.heap.size := by rw [addBlock]; omega
        have hbl : (b.add (k * 6)).block < wr.heap.size := by rw [addBlock]; omega
        have Hs := Lib.hid (allS_drop (f := sameD) ht hu)
        clear ht hu
        have HI := Lib.hid (fun (W : World) (hb : Below wr.heap.size wr W) => sameDecl_c t u W _ _ ((Hc.out.below hb).more hb.size) ((Hd.out.below hb).more hb.size))
        go_wp2_with fail
        refine (HI.out _ (((Below.refl _ _).alloc (Nat.le_refl _) _).alloc (by simp) _)).mono ?_
        rintro e w1 ⟨rfl, b1⟩
        have hB1 := hB.trans ((((Below.refl _ wr).alloc (Nat.le_refl _) _).alloc (by simp) _).mono hBs |>.trans (b1.mono (by simp; omega)))
        cases hs : sameD t u
        · have Hz := Lib.hid (Hr.out.trans (Hs.out.trans (by rw [hs, Bool.false_and])))
          clear hs
          go_wp2
          go_ret
          exact ⟨by rw [Hz.out]; rfl, hB1⟩
        · have Hz := Lib.hid (Hr.out.trans (Hs.out.trans (by rw [hs, Bool.true_and])))
          clear hs
          go_wp2
          go_roundw
          case rel => exact ⟨k + 1, hlt, by go_num, Hz.out, hB1⟩
          case measure => simp [intOf]; omega
      · have hlt' : ¬ (k : Int) < (l.length : Int) := by omega
        have Hz := Lib.hid (allS_end (f := sameD) (l := l) (m := m) (k := k) (by omega) (by have := Hlen.out; omega))
        go_wp2
        go_ret
        exact ⟨by rw [Hr.out, Hz.out]; rfl, hB⟩
  · have q : ((l.length : Int) != (m.length : Int)) = true := by rw [bne_iff_ne]; omega
    have Hz := Lib.hid (allS_len (f := sameD) hlen)
    clear hlen
    go_enter Tryd.func24, Tryd.ntmps24
    go_wp2
    go_ret
    exact ⟨by rw [Hz.out]; rfl, Below.refl _ _⟩

set_option maxRecDepth 100000 in
set_option maxHeartbeats 4000000 in
theorem same_c (t u : Pg) (w : World) (cs ds : List Value) (hc : PgC w w.heap.size t cs) (hd : PgC w w.heap.size u ds) :
    Calls Tryd.prog 12 #[.agg cs.toArray, .agg ds.toArray] w fun e w' => e = .returned (.bool (sameP t u)) ∧ Below w.heap.size w w' := by
  obtain ⟨p1, q1, r1, s1, rfl, a1, t1⟩ := hc.look
  obtain ⟨p2, q2, r2, s2, rfl, a2, t2⟩ := hd.look
  have HA := Lib.hid (fun (W : World) (hb : Below w.heap.size w W) => equalDecls_c t.decls u.decls _ _ W (SlOf.decl a1 hb hb.size) (SlOf.decl a2 hb hb.size))
  have HL := Lib.hid (fun (W : World) (hb : Below w.heap.size w W) => equalRules_c t.rules u.rules _ _ W (SlOf.rule t1 hb hb.size) (SlOf.rule t2 hb hb.size))
  clear hc hd a1 a2 t1 t2
  go_enter Tryd.func12, Tryd.ntmps12
  go_wp2_with fail
  refine (HA.out _ (((Below.refl _ _).alloc (Nat.le_refl _) _).alloc (by simp) _)).mono ?_
  rintro e w1 ⟨rfl, b1⟩
  have B1 : Below w.heap.size w w1 := (((Below.refl _ _).alloc (Nat.le_refl _) _).alloc (by simp) _).trans (b1.mono (by simp; omega))
  obtain ⟨hc, hf⟩ := (⟨fun b o h => b1.cell (p := ⟨b, o, none⟩) h, fun b o h => b1.frozen (p := ⟨b, o, none⟩) h⟩ : (∀ b o, b < _ → w1.cell? ⟨b, o, none⟩ = _) ∧ (∀ b o, b < _ → w1.frozen? ⟨b, o, none⟩ = _))
  have hz1 : w.heap.size + 1 < w1.heap.size := by have := b1.size; simp at this; omega
  cases h1 : allS sameD t.decls u.decls
  · have Hz1 : Hid (sameP t u = false) := Lib.hid (by unfold sameP; rw [h1]; rfl)
    clear h1
    go_wp2
    go_ret
    exact ⟨by rw [Hz1.out]; rfl, B1⟩
  · have Hz1 : Hid (sameP t u = allS sameR t.rules u.rules) := Lib.hid (by unfold sameP; rw [h1]; rfl)
    clear h1
    go_wp2_with fail
    refine (HL.out _ B1).mono ?_
    rintro e w2 ⟨rfl, b2⟩
    go_wp2
    go_ret
    exact ⟨by rw [Hz1.out]; rfl, B1.trans (b2.mono (by omega))⟩

end Go.Proofs.YthjfkngfgomkbaaDoor
