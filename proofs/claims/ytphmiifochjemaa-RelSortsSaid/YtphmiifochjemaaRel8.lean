/- soritesref08.texts, Vals, Compare, Rise. -/
import Derived.Test.YtphmiifochjemaaVl
import Derived.BigQuiet
import Derived.Deep.QuietTactic
import Derived.Deep.RegionHeld3
namespace Go.Proofs.Ytphmiifochjemaa
open Go.RowKit

theorem retI' {k : IntKind} {a b : Int} (h : a = b) : Ending.returned (.int k a) = .returned (.int k b) := by rw [h]
theorem lex_at {α : Type} {c : α → α → Int} {l m : List α} {k : Nat} {x y : α} (hx : l[k]? = some x) (hy : m[k]? = some y) : lexC c (l.drop k) (m.drop k) = if c x y = 0 then lexC c (l.drop (k + 1)) (m.drop (k + 1)) else c x y := by
  have h1 : l.drop k = x :: l.drop (k + 1) := by rw [List.drop_eq_getElem_cons (List.getElem?_eq_some_iff.1 hx).1, (List.getElem?_eq_some_iff.1 hx).2]
  have h2 : m.drop k = y :: m.drop (k + 1) := by rw [List.drop_eq_getElem_cons (List.getElem?_eq_some_iff.1 hy).1, (List.getElem?_eq_some_iff.1 hy).2]
  rw [h1, h2]
  rfl
theorem lex_lo {α : Type} {c : α → α → Int} {l m : List α} {k : Nat} (hl : l.length ≤ k) (hm : k < m.length) : lexC c (l.drop k) (m.drop k) = -1 := by
  rw [List.drop_of_length_le hl, List.drop_eq_getElem_cons hm]; rfl
theorem lex_hi {α : Type} {c : α → α → Int} {l m : List α} {k : Nat} (hl : k < l.length) (hm : m.length ≤ k) : lexC c (l.drop k) (m.drop k) = 1 := by
  rw [List.drop_of_length_le hm, List.drop_eq_getElem_cons hl]; rfl
theorem lex_no {α : Type} {c : α → α → Int} {l m : List α} {k : Nat} (hl : l.length ≤ k) (hm : m.length ≤ k) : lexC c (l.drop k) (m.drop k) = 0 := by
  rw [List.drop_of_length_le hl, List.drop_of_length_le hm]; rfl
theorem byte_at (a : ByteArray) (k : Nat) (h : k < a.size) : a.data.toList[k]? = some a[k] := by
  rw [List.getElem?_eq_getElem (by simpa using h)]; rfl

set_option maxRecDepth 100000 in
set_option maxHeartbeats 4000000 in
theorem rtexts_c (a b : ByteArray) (ha : a.size ≤ maxLen) (_ : b.size ≤ maxLen) (w : World) :
    Calls Try.prog 47 #[.string a, .string b] w fun e w' => e = .returned (.int .i64 (textC a b)) ∧ Below w.heap.size w w' := by
  unfold maxLen at ha
  have hla : a.data.toList.length = a.size := by simp
  have hlb : b.data.toList.length = b.size := by simp
  have HLA := Lib.hid hla
  have HLB := Lib.hid hlb
  clear hla hlb
  go_enter Try.func47, Try.ntmps47
  go_wp2
  go_loopw [5] (fun i wr => ∃ k : Nat, k ≤ a.size ∧ k ≤ b.size ∧ i = .int .i64 k ∧ textC a b = lexC byteC (a.data.toList.drop k) (b.data.toList.drop k) ∧ Below w.heap.size w wr) (fun i _ => a.size - (intOf i).toNat)
  case atStart => exact ⟨0, Nat.zero_le _, Nat.zero_le _, rfl, rfl, Below.refl _ _⟩
  case round =>
    obtain ⟨k, hka, hkb, rfl, hr, hB⟩ := hrel
    have Hr := Lib.hid hr
    clear hr
    by_cases h1 : k < a.size
    · have h1' : (k : Int) < (a.size : Int) := by omega
      by_cases h2 : k < b.size
      · have h2' : (k : Int) < (b.size : Int) := by omega
        have hk0 : (0 : Int) ≤ (k : Int) := by omega
        have Hst := Lib.hid (Hr.out.trans (lex_at (c := byteC) (byte_at a k h1) (byte_at b k h2)))
        obtain ⟨x, hx⟩ : ∃ x, a[k]'h1 = x := ⟨_, rfl⟩
        obtain ⟨y, hy⟩ : ∃ y, b[k]'h2 = y := ⟨_, rfl⟩
        rw [hx, hy] at Hst
        have Hc : Hid (byteC x y = if x.toNat < y.toNat then -1 else if y.toNat < x.toNat then 1 else 0) := Lib.hid (by unfold byteC; simp only [UInt8.lt_iff_toNat_lt])
        by_cases h3 : x.toNat < y.toNat
        · have h3' : (x.toNat : Int) < (y.toNat : Int) := by omega
          have Hz : Hid (textC a b = -1) := Lib.hid (by rw [Hst.out, Hc.out, if_pos h3]; rfl)
          go_wp2
          go_quiet (fail)
          go_wp2
          go_ret
          exact ⟨retI' Hz.out.symm, below_drewN hB _⟩
        · have h3' : ¬ (x.toNat : Int) < (y.toNat : Int) := by omega
          by_cases h4 : y.toNat < x.toNat
          · have h4' : (y.toNat : Int) < (x.toNat : Int) := by omega
            have Hz : Hid (textC a b = 1) := Lib.hid (by rw [Hst.out, Hc.out, if_neg h3, if_pos h4]; rfl)
            go_wp2
            go_quiet (fail)
            go_wp2
            go_quiet (fail)
            go_wp2
            go_ret
            exact ⟨retI' Hz.out.symm, below_drewN (below_drewN hB _) _⟩
          · have h4' : ¬ (y.toNat : Int) < (x.toNat : Int) := by omega
            have Hz : Hid (textC a b = lexC byteC (a.data.toList.drop (k + 1)) (b.data.toList.drop (k + 1))) := Lib.hid (by rw [Hst.out, Hc.out, if_neg h3, if_neg h4]; rfl)
            go_wp2
            go_quiet (fail)
            go_wp2
            go_quiet (fail)
            go_wp2
            go_roundw
            case rel => exact ⟨k + 1, h1, h2, by go_num, Hz.out, below_drewN hB _⟩
            case measure => simp [intOf]; omega
      · have h2' : ¬ (k : Int) < (b.size : Int) := by omega
        have h5 : ¬ (a.size : Int) < (b.size : Int) := by omega
        have h6 : (b.size : Int) < (a.size : Int) := by omega
        have Hz : Hid (textC a b = 1) := Lib.hid (by rw [Hr.out, lex_hi (by rw [HLA.out]; exact h1) (by rw [HLB.out]; omega)])
        go_wp2
        go_ret
        exact ⟨retI' Hz.out.symm, hB⟩
    · have h1' : ¬ (k : Int) < (a.size : Int) := by omega
      by_cases h2 : k < b.size
      · have h5 : (a.size : Int) < (b.size : Int) := by omega
        have Hz : Hid (textC a b = -1) := Lib.hid (by rw [Hr.out, lex_lo (by rw [HLA.out]; omega) (by rw [HLB.out]; exact h2)])
        go_wp2
        go_ret
        exact ⟨retI' Hz.out.symm, hB⟩
      · have h5 : ¬ (a.size : Int) < (b.size : Int) := by omega
        have h6 : ¬ (b.size : Int) < (a.size : Int) := by omega
        have Hz : Hid (textC a b = 0) := Lib.hid (by rw [Hr.out, lex_no (by rw [HLA.out]; omega) (by rw [HLB.out]; omega)])
        go_wp2
        go_ret
        exact ⟨retI' Hz.out.symm, hB⟩

set_option maxRecDepth 100000 in
set_option maxHeartbeats 4000000 in
theorem rvals_c (a b : Vl) (ha : a.s.size ≤ maxLen) (hb : b.s.size ≤ maxLen) (w : World) :
    Calls Try.prog 40 #[.agg #[.bool a.sym, .int .i64 a.n, .string a.s], .agg #[.bool b.sym, .int .i64 b.n, .string b.s]] w fun e w' => e = .returned (.int .i64 (vlC a b)) ∧ Below w.heap.size w w' := by
  obtain ⟨sa, na, ta⟩ := a
  obtain ⟨sb, nb, tb⟩ := b
  simp only at ha hb ⊢
  have HT := Lib.hid (fun w => rtexts_c ta tb ha hb w)
  have HB0 : Hid (∀ (x y : Obj), Below w.heap.size w ((w.alloc x).alloc y)) := Lib.hid fun x y => ((Below.refl _ _).alloc (Nat.le_refl _) x).alloc (by simp) y
  have HZ : Hid (vlC ⟨sa, na, ta⟩ ⟨sb, nb, tb⟩ = if (sa != sb) = true then (if sb = true then -1 else 1) else if sa = true then textC ta tb else if na < nb then -1 else if nb < na then 1 else 0) := Lib.hid rfl
  clear ha hb
  cases sa with
  | false =>
    cases sb with
    | false =>
      by_cases h1 : na < nb
      · have Hz : Hid (vlC ⟨false, na, ta⟩ ⟨false, nb, tb⟩ = -1) := Lib.hid (by rw [HZ.out]; simp [h1])
        go_enter Try.func40, Try.ntmps40
        go_wp2
        go_ret
        exact ⟨retI' Hz.out.symm, HB0.out _ _⟩
      · by_cases h2 : nb < na
        · have Hz : Hid (vlC ⟨false, na, ta⟩ ⟨false, nb, tb⟩ = 1) := Lib.hid (by rw [HZ.out]; simp [h1, h2])
          go_enter Try.func40, Try.ntmps40
          go_wp2
          go_ret
          exact ⟨retI' Hz.out.symm, HB0.out _ _⟩
        · have Hz : Hid (vlC ⟨false, na, ta⟩ ⟨false, nb, tb⟩ = 0) := Lib.hid (by rw [HZ.out]; simp [h1, h2])
          go_enter Try.func40, Try.ntmps40
          go_wp2
          go_ret
          exact ⟨retI' Hz.out.symm, HB0.out _ _⟩
    | true =>
      have Hz : Hid (vlC ⟨false, na, ta⟩ ⟨true, nb, tb⟩ = -1) := Lib.hid (by rw [HZ.out]; simp)
      go_enter Try.func40, Try.ntmps40
      go_wp2
      go_ret
      exact ⟨retI' Hz.out.symm, HB0.out _ _⟩
  | true =>
    cases sb with
    | false =>
      have Hz : Hid (vlC ⟨true, na, ta⟩ ⟨false, nb, tb⟩ = 1) := Lib.hid (by rw [HZ.out]; simp)
      go_enter Try.func40, Try.ntmps40
      go_wp2
      go_ret
      exact ⟨retI' Hz.out.symm, HB0.out _ _⟩
    | true =>
      have Hz : Hid (vlC ⟨true, na, ta⟩ ⟨true, nb, tb⟩ = textC ta tb) := Lib.hid (by rw [HZ.out]; simp)
      go_enter Try.func40, Try.ntmps40
      go_wp2_with fail
      refine (HT.out _).mono ?_
      rintro e w1 ⟨rfl, b1⟩
      go_wp2
      go_ret
      exact ⟨retI' Hz.out.symm, (HB0.out _ _).trans (b1.mono (by simp; omega))⟩

theorem held33 {W w1 : World} (b : Below W.heap.size W.drew w1) {p q : Addr} {v0 v1 v2 u0 u1 u2 : Value} (hp : p.block < W.heap.size) (hq : q.block < W.heap.size)
    (h : W.cell? p = some v0 ∧ W.cell? ⟨p.block, p.off + 1, none⟩ = some v1 ∧ W.cell? ⟨p.block, p.off + 2, none⟩ = some v2 ∧ W.cell? q = some u0 ∧ W.cell? ⟨q.block, q.off + 1, none⟩ = some u1 ∧ W.cell? ⟨q.block, q.off + 2, none⟩ = some u2) :
    w1.cell? p = some v0 ∧ w1.cell? ⟨p.block, p.off + 1, none⟩ = some v1 ∧ w1.cell? ⟨p.block, p.off + 2, none⟩ = some v2 ∧ w1.cell? q = some u0 ∧ w1.cell? ⟨q.block, q.off + 1, none⟩ = some u1 ∧ w1.cell? ⟨q.block, q.off + 2, none⟩ = some u2 := by
  obtain ⟨h0, h1, h2, h3, h4, h5⟩ := h
  exact ⟨(b.cell hp).trans h0, (b.cell (p := ⟨p.block, p.off + 1, none⟩) hp).trans h1, (b.cell (p := ⟨p.block, p.off + 2, none⟩) hp).trans h2, (b.cell hq).trans h3, (b.cell (p := ⟨q.block, q.off + 1, none⟩) hq).trans h4, (b.cell (p := ⟨q.block, q.off + 2, none⟩) hq).trans h5⟩

set_option maxRecDepth 100000 in
set_option maxHeartbeats 4000000 in
theorem rcompare_c (a b : Rw) (v u : Value) (w : World) (h1 : SlOf w w.heap.size 3 VlC a v) (h2 : SlOf w w.heap.size 3 VlC b u) :
    Calls Try.prog 33 #[v, u] w fun e w' => e = .returned (.int .i64 (rwC a b)) ∧ Below w.heap.size w w' := by
  obtain ⟨o1, cap1, rfl, hc1, hm1, S1⟩ := SlOf.open h1
  obtain ⟨o2, cap2, rfl, hc2, hm2, S2⟩ := SlOf.open h2
  clear h1 h2
  go_enter Try.func33, Try.ntmps33
  go_wp2
  go_loopw [5] (fun i wr => ∃ k : Nat, k ≤ a.length ∧ k ≤ b.length ∧ i = .int .i64 k ∧ rwC a b = lexC vlC (a.drop k) (b.drop k) ∧ Below w.heap.size w wr) (fun i _ => a.length - (intOf i).toNat)
  case atStart => exact ⟨0, Nat.zero_le _, Nat.zero_le _, rfl, rfl, Below.refl _ _⟩
  case round =>
    obtain ⟨k, hka, hkb, rfl, hr, hB⟩ := hrel
    have Hr := Lib.hid hr
    clear hr
    by_cases h1 : k < a.length
    · have h1' : (k : Int) < (a.length : Int) := by omega
      by_cases h2 : k < b.length
      · have h2' : (k : Int) < (b.length : Int) := by omega
        obtain ⟨x, hx⟩ : ∃ x, a[k]? = some x := ⟨a[k], List.getElem?_eq_getElem h1⟩
        obtain ⟨y, hy⟩ : ∃ y, b[k]? = some y := ⟨b[k], List.getElem?_eq_getElem h2⟩
        obtain ⟨p, rfl, hp, _, hxs, c0, c1, c2⟩ := vl_at S1 hB hx
        obtain ⟨q, rfl, hq, _, hys, d0, d1, d2⟩ := vl_at S2 hB hy
        have hBs := hB.size
        have hpl : (p.add (k * 3)).block < wr.heap.size := by rw [addBlock]; omega
        have hql : (q.add (k * 3)).block < wr.heap.size := by rw [addBlock]; omega
        have Hst := Lib.hid (Hr.out.trans (lex_at (c := vlC) hx hy))
        have HV := Lib.hid (fun w => rvals_c x y hxs hys w)
        clear hx hy
        obtain ⟨z, hz⟩ : ∃ z, vlC x y = z := ⟨_, rfl⟩
        rw [hz] at Hst HV
        clear hz
        go_wp2
        go_region_held3 (fun w' => w'.cell? (p.add (k * 3)) = some (.bool x.sym) ∧ w'.cell? ⟨(p.add (k * 3)).block, (p.add (k * 3)).off + 1, none⟩ = some (.int .i64 x.n) ∧ w'.cell? ⟨(p.add (k * 3)).block, (p.add (k * 3)).off + 2, none⟩ = some (.string x.s) ∧ w'.cell? (q.add (k * 3)) = some (.bool y.sym) ∧ w'.cell? ⟨(q.add (k * 3)).block, (q.add (k * 3)).off + 1, none⟩ = some (.int .i64 y.n) ∧ w'.cell? ⟨(q.add (k * 3)).block, (q.add (k * 3)).off + 2, none⟩ = some (.string y.s)) (first | exact ⟨c0, c1, c2, d0, d1, d2⟩ | exact hk) (first | (go_at_call 40; refine (HV.out _).mono ?_; rintro e w1 ⟨rfl, b1⟩; have hk := held33 b1 hpl hql ⟨c0, c1, c2, d0, d1, d2⟩))
        have hB3 := hB.trans (((Below.refl _ wr).drew).trans (b1.mono (by show _ ≤ wr.heap.size; omega)) |>.mono hBs)
        by_cases hz : z = 0
        · subst hz
          have Hz2 := Lib.hid (Hst.out.trans (if_pos rfl))
          go_wp2
          go_roundw
          case rel => exact ⟨k + 1, h1, h2, by go_num, Hz2.out, hB3⟩
          case measure => simp [intOf]; omega
        · have Hz2 := Lib.hid (Hst.out.trans (if_neg hz))
          have hz' : (z != 0) = true := by simpa using hz
          go_wp2
          go_ret
          exact ⟨retI' Hz2.out.symm, hB3⟩
      · have h2' : ¬ (k : Int) < (b.length : Int) := by omega
        have h5 : ¬ (a.length : Int) < (b.length : Int) := by omega
        have h6 : (b.length : Int) < (a.length : Int) := by omega
        have Hz : Hid (rwC a b = 1) := Lib.hid (by rw [Hr.out, lex_hi h1 (by omega)])
        go_wp2
        go_ret
        exact ⟨retI' Hz.out.symm, hB⟩
    · have h1' : ¬ (k : Int) < (a.length : Int) := by omega
      by_cases h2 : k < b.length
      · have h5 : (a.length : Int) < (b.length : Int) := by omega
        have Hz : Hid (rwC a b = -1) := Lib.hid (by rw [Hr.out, lex_lo (by omega) h2])
        go_wp2
        go_ret
        exact ⟨retI' Hz.out.symm, hB⟩
      · have h5 : ¬ (a.length : Int) < (b.length : Int) := by omega
        have h6 : ¬ (b.length : Int) < (a.length : Int) := by omega
        have Hz : Hid (rwC a b = 0) := Lib.hid (by rw [Hr.out, lex_no (by omega) (by omega)])
        go_wp2
        go_ret
        exact ⟨retI' Hz.out.symm, hB⟩
end Go.Proofs.Ytphmiifochjemaa
