/- The law DlexLines answers true, in every world that holds the listed variables. -/
import Derived.Test.YtkfdklamfmnalaaDoorDmath
namespace Go.Proofs.YtkfdklamfmnalaaDoor
open Go.RowKit

theorem rise_at : ∀ {n m : Nat} {ts : List Tk} {i : Nat} {t : Tk}, Rise n m ts → ts[i]? = some t → n ≤ t.line ∧ t.line ≤ m
  | _, _, [], _, _, _, h => by simp at h
  | n, m, u :: ts, 0, t, ⟨h1, h2, _⟩, h => by
    simp only [List.getElem?_cons_zero, Option.some.injEq] at h
    subst h
    exact ⟨h1, h2⟩
  | n, m, u :: ts, i + 1, t, ⟨h1, h2, h3⟩, h => by
    have := rise_at (i := i) h3 (by simpa using h)
    omega
theorem rise_step : ∀ {n m : Nat} {ts : List Tk} {i : Nat} {t u : Tk}, Rise n m ts → ts[i]? = some t → ts[i + 1]? = some u → t.line ≤ u.line
  | _, _, [], _, _, _, _, h, _ => by simp at h
  | n, m, x :: ts, 0, t, u, ⟨_, _, h3⟩, h, h' => by
    simp only [List.getElem?_cons_zero, Option.some.injEq] at h
    subst h
    exact (rise_at (i := 0) h3 (by simpa using h')).1
  | n, m, x :: ts, i + 1, t, u, ⟨_, _, h3⟩, h, h' => rise_step (i := i) h3 (by simpa using h) (by simpa using h')
theorem lines_take (s : ByteArray) (k : Nat) (h : k < s.size) : lines (s.data.toList.take (k + 1)) = lines (s.data.toList.take k) + if (s[k].toNat : Int) = 10 then 1 else 0 := by
  rw [take_snoc s k h, lines_app]
  congr 1
  by_cases hc : s[k] = 10
  · rw [hc]; rfl
  · rw [if_neg (show ¬ (s[k].toNat : Int) = 10 from fun e => hc ((u8_eq _ 10).2 e))]
    simp [lines, hc]
theorem lines_le (l : List UInt8) : lines l ≤ l.length := List.count_le_length ..

set_option maxHeartbeats 4000000 in
theorem dlexLines_c (s0 : ByteArray) (a b c : Addr) (w : World) (hs : s0.size ≤ maxLen) (E : LEnv a b c w) :
    Calls Tryd.prog 11 #[.string s0] w fun e w' => e = .returned (.bool true) ∧ Below w.heap.size w w' := by
  have HE := Lib.hid E
  have Hs := Lib.hid hs
  clear E hs
  obtain ⟨s, hsd⟩ : ∃ s, cutS s0 = s := ⟨_, rfl⟩
  have hsz : s.size ≤ 3000 := by rw [← hsd]; exact cutS_size s0
  have Hsd := Lib.hid hsd
  have hlen := data_len s
  have hrise := lexF_rise (s.data.toList.length + 1) 1 s.data.toList
  have hR : Rise 1 (1 + lines s.data.toList) (lexL s.data.toList).1 := hrise.1
  have hE : ∀ e, (lexL s.data.toList).2 = some e → 1 ≤ e ∧ e ≤ 1 + lines s.data.toList := hrise.2
  have hlm : lines s.data.toList ≤ 3000 := by have := lines_le s.data.toList; omega
  clear hsd hrise
  cases he : (lexL s.data.toList).2 with
  | some n =>
    have Hr := Lib.hid (lexR_err (l := s.data.toList) (by omega) he)
    obtain ⟨n1, n2⟩ := hE n he
    have n1' : (1 : Int) ≤ (n : Int) := by omega
    obtain ⟨M, hM⟩ : ∃ M, 1 + lines s.data.toList = M := ⟨_, rfl⟩
    rw [hM] at n2
    have n2' : (n : Int) ≤ (M : Int) := by omega
    have HM := Lib.hid hM
    clear he hE hR hlen hM n1 n2 hlm
    go_enter Tryd.func11, Tryd.ntmps11
    go_wp2_with fail
    refine (dshown_c a b c _ HE.out).mono ?_
    rintro e w1 ⟨rfl, b1⟩
    go_wp2_with fail
    refine (cut_c s0 _ Hs.out).mono ?_
    rintro e w' ⟨rfl, rfl⟩
    rw [Hsd.out]
    go_wp2_with fail
    refine (lexE_c s a b c _ (by omega) (HE.out.below b1)).mono ?_
    rw [Hr.out]
    rintro e w2 ⟨v, rfl, hown, b2⟩
    clear hown
    go_wp2
    go_loop [7, 8] (fun ln i => ∃ k : Nat, k ≤ s.size ∧ i = .int .i64 k ∧ ln = .int .i64 ((1 + lines (s.data.toList.take k) : Nat) : Int)) (fun _ i => s.size - (intOf i).toNat)
    case atStart => exact ⟨0, Nat.zero_le _, rfl, rfl⟩
    case round =>
      obtain ⟨k, hk, rfl, rfl⟩ := hrel
      obtain ⟨q, hq⟩ : ∃ q, 1 + lines (s.data.toList.take k) = q := ⟨_, rfl⟩
      have hq3 : q ≤ 3001 := by
        rw [← hq]
        have := lines_le (s.data.toList.take k)
        rw [List.length_take] at this
        omega
      rw [hq]
      have Hq := Lib.hid hq
      clear hq
      by_cases hlt : k < s.size
      · have Ht := Lib.hid (lines_take s k hlt)
        by_cases h10 : ((s[k]'hlt).toNat : Int) = 10
        · have t1 : (((s[k]'hlt).toNat : Int) == 10) = true := by simp [h10]
          have Hn : Hid (1 + lines (s.data.toList.take (k + 1)) = q + 1) := Lib.hid (by rw [Ht.out, if_pos h10, ← Hq.out]; omega)
          clear h10
          go_wp2
          go_round
          case rel => exact ⟨k + 1, hlt, by go_num, by rw [Hn.out]; go_num⟩
          case measure => simp [intOf]; omega
        · have t1 : (((s[k]'hlt).toNat : Int) == 10) = false := by simp [h10]
          have Hn : Hid (1 + lines (s.data.toList.take (k + 1)) = q) := Lib.hid (by rw [Ht.out, if_neg h10, ← Hq.out]; omega)
          clear h10
          go_wp2
          go_round
          case rel => exact ⟨k + 1, hlt, by go_num, by rw [Hn.out]⟩
          case measure => simp [intOf]; omega
      · obtain rfl : k = s.size := by omega
        have hqM : q = M := by rw [← Hq.out, ← HM.out, List.take_of_length_le (by rw [data_len]; exact Nat.le_refl _)]
        subst hqM
        go_wp2
        go_ret
        exact ⟨rfl, chain2 b1 b2⟩
  | none =>
    have Hr := Lib.hid (lexR_ok (l := s.data.toList) (by omega) he)
    obtain ⟨M, hM⟩ : ∃ M, 1 + lines s.data.toList = M := ⟨_, rfl⟩
    rw [hM] at hR
    obtain ⟨ts, hts⟩ : ∃ ts, (lexL s.data.toList).1 = ts := ⟨_, rfl⟩
    rw [hts] at hR
    have Hts := Lib.hid hts
    have HR := Lib.hid hR
    have HM := Lib.hid hM
    have hM3 : M ≤ 3001 := by omega
    have htl : ts.length ≤ 3000 := by rw [← hts]; have := lexL_len s.data.toList; omega
    clear he hE hR hlen hM hlm hts
    go_enter Tryd.func11, Tryd.ntmps11
    go_wp2_with fail
    refine (dshown_c a b c _ HE.out).mono ?_
    rintro e w1 ⟨rfl, b1⟩
    go_wp2_with fail
    refine (cut_c s0 _ Hs.out).mono ?_
    rintro e w' ⟨rfl, rfl⟩
    rw [Hsd.out]
    go_wp2_with fail
    refine (lexE_c s a b c _ (by omega) (HE.out.below b1)).mono ?_
    rw [Hr.out, Hts.out]
    rintro e w2 ⟨v, rfl, hown, b2⟩
    have S2 := SliceOf.of_own hown
    clear hown
    go_wp2
    go_loop [7, 8] (fun ln i => ∃ k : Nat, k ≤ s.size ∧ i = .int .i64 k ∧ ln = .int .i64 ((1 + lines (s.data.toList.take k) : Nat) : Int)) (fun _ i => s.size - (intOf i).toNat)
    case atStart => exact ⟨0, Nat.zero_le _, rfl, rfl⟩
    case round =>
      obtain ⟨k, hk, rfl, rfl⟩ := hrel
      obtain ⟨q, hq⟩ : ∃ q, 1 + lines (s.data.toList.take k) = q := ⟨_, rfl⟩
      have hq3 : q ≤ 3001 := by
        rw [← hq]
        have := lines_le (s.data.toList.take k)
        rw [List.length_take] at this
        omega
      rw [hq]
      have Hq := Lib.hid hq
      clear hq
      by_cases hlt : k < s.size
      · have Ht := Lib.hid (lines_take s k hlt)
        by_cases h10 : ((s[k]'hlt).toNat : Int) = 10
        · have t1 : (((s[k]'hlt).toNat : Int) == 10) = true := by simp [h10]
          have Hn : Hid (1 + lines (s.data.toList.take (k + 1)) = q + 1) := Lib.hid (by rw [Ht.out, if_pos h10, ← Hq.out]; omega)
          clear h10
          go_wp2
          go_round
          case rel => exact ⟨k + 1, hlt, by go_num, by rw [Hn.out]; go_num⟩
          case measure => simp [intOf]; omega
        · have t1 : (((s[k]'hlt).toNat : Int) == 10) = false := by simp [h10]
          have Hn : Hid (1 + lines (s.data.toList.take (k + 1)) = q) := Lib.hid (by rw [Ht.out, if_neg h10, ← Hq.out]; omega)
          clear h10
          go_wp2
          go_round
          case rel => exact ⟨k + 1, hlt, by go_num, by rw [Hn.out]⟩
          case measure => simp [intOf]; omega
      · obtain rfl : k = s.size := by omega
        have hqM : q = M := by rw [← Hq.out, ← HM.out, List.take_of_length_le (by rw [data_len]; exact Nat.le_refl _)]
        subst hqM
        rcases S2 with ⟨rfl, hnil⟩ | ⟨ad, cap, rfl, m1, m2, m3, cs⟩
        · have hts0 : ts = [] := by simpa using hnil
          subst hts0
          go_wp2
          go_loop [9] (fun i => i = .int .i64 0) (fun _ => 0)
          case atStart => rfl
          case round =>
            obtain rfl := hrel
            go_wp2
            go_ret
            exact ⟨rfl, chain2 b1 b2⟩
        · have Cs := Lib.hid cs
          simp only [List.length_map] at m1
          unfold maxLen at m2
          have Hml : Hid ((ts.map tokI).length = ts.length) := Lib.hid (List.length_map ..)
          rw [Hml.out]
          clear cs
          go_wp2
          go_loopw [9] (fun i wr => ∃ k : Nat, k ≤ ts.length ∧ i = .int .i64 k ∧ Below w2.heap.size w2 wr) (fun i _ => ts.length - (intOf i).toNat)
          case atStart => exact ⟨0, Nat.zero_le _, rfl, Below.refl _ _⟩
          case round =>
            obtain ⟨j, hj, rfl, hB⟩ := hrel
            by_cases hlt2 : j < ts.length
            · obtain ⟨t, ht⟩ : ∃ t, ts[j]? = some t := ⟨ts[j], List.getElem?_eq_getElem hlt2⟩
              have hti : (ts.map tokI)[j]? = some (tokI t) := by rw [List.getElem?_map, ht]; rfl
              obtain ⟨_, _, d2⟩ := SliceOf.cells Cs.out m3 hB hti
              have hra := rise_at HR.out ht
              obtain ⟨ln, hln⟩ : ∃ ln : Nat, t.line = ln := ⟨_, rfl⟩
              have d2' : wr.cell? ⟨(ad.add (j * 3)).block, (ad.add (j * 3)).off + 2, none⟩ = some (.int .i64 (ln : Int)) := by rw [d2, ← hln]; rfl
              have q1 : decide ((ln : Int) < 1) = false := by simp; omega
              have q1' : decide (ln < 1) = false := by simp; omega
              have q1'' : decide (ln = 0) = false := by simp; omega
              have q2 : decide ((q : Int) < (ln : Int)) = false := by simp; omega
              have q2' : decide (q < ln) = false := by simp; omega
              rcases Nat.eq_zero_or_pos j with hj0 | hj0
              · have q3 : decide ((0 : Int) < (j : Int)) = false := by simp; omega
                have q3' : decide (0 < j) = false := by simp; omega
                clear ht hti d2 hra hln hj0
                go_wp2
                go_quiet (fail)
                go_wp2
                go_roundw
                case rel => exact ⟨j + 1, hlt2, by go_num, hB.trans (below_drewN (Below.refl _ _) _)⟩
                case measure => simp [intOf]; omega
              · obtain ⟨u, hu⟩ : ∃ u, ts[j - 1]? = some u := ⟨ts[j - 1], List.getElem?_eq_getElem (by omega)⟩
                have hui : (ts.map tokI)[j - 1]? = some (tokI u) := by rw [List.getElem?_map, hu]; rfl
                obtain ⟨_, _, e2⟩ := SliceOf.cells Cs.out m3 hB hui
                have hst := rise_step HR.out hu (by rw [show j - 1 + 1 = j by omega]; exact ht)
                obtain ⟨lu, hlu⟩ : ∃ lu : Nat, u.line = lu := ⟨_, rfl⟩
                have e2' : wr.cell? ⟨(ad.add ((j - 1) * 3)).block, (ad.add ((j - 1) * 3)).off + 2, none⟩ = some (.int .i64 (lu : Int)) := by rw [e2, ← hlu]; rfl
                have q3 : decide ((0 : Int) < (j : Int)) = true := by simp; omega
                have q3' : decide (0 < j) = true := by simp; omega
                have q4 : decide ((ln : Int) < (lu : Int)) = false := by simp; omega
                have q4' : decide (ln < lu) = false := by simp; omega
                have q5 : (j - 1 : Nat) < ts.length := by omega
                have q6 : IntKind.i64.wrap ((j : Int) - 1) = ((j - 1 : Nat) : Int) := by rw [IntWalk.i64_in _ (by omega)]; omega
                clear ht hti d2 hra hln hu hui e2 hst hlu hj0
                go_wp2
                go_quiet (fail)
                go_wp2
                go_roundw
                case rel => exact ⟨j + 1, hlt2, by go_num, hB.trans (below_drewN (Below.refl _ _) _)⟩
                case measure => simp [intOf]; omega
            · obtain rfl : j = ts.length := by omega
              have hx : ¬ ((ts.length : Int) < (ts.length : Int)) := by omega
              go_wp2
              go_ret
              exact ⟨rfl, chain2 b1 (chain2 b2 hB)⟩
end Go.Proofs.YtkfdklamfmnalaaDoor
