/- soritesref02.Show answers what dlex.Show answers, of texts of at most two hundred bytes. -/
import Derived.Test.YtkfdklamfmnalaaGreatDoorDshow
import Derived.Test.YtkfdklamfmnalaaGreatDoorRefQuote
namespace Go.Proofs.YtkfdklamfmnalaaGreatDoor
open Go.RowKit

theorem app3 (x y z : List UInt8) : Value.string ((⟨x.toArray⟩ : ByteArray) ++ ⟨y.toArray⟩ ++ ⟨z.toArray⟩) = .string ⟨(x ++ y ++ z).toArray⟩ := by
  rw [ByteArray.mk_append_mk, ByteArray.mk_append_mk]
theorem textI_len (t : TokI) : (textI t).length ≤ 4 * t.s.size + 2 := by
  unfold textI
  split
  · have h : ∀ l : List UInt8, (l.flatMap sign).length ≤ 4 * l.length := by
      intro l
      induction l with
      | nil => simp
      | cons c l ih => have := sign_len c; simp only [List.flatMap_cons, List.length_append, List.length_cons]; omega
    have := h t.s.data.toList
    have hz : t.s.data.toList.length = t.s.data.size := Array.length_toList
    have e : (quoteL t.s.data.toList).length = (t.s.data.toList.flatMap sign).length + 2 := by simp [quoteL]
    show _ ≤ 4 * t.s.data.size + 2
    omega
  · show t.s.data.toList.length ≤ 4 * t.s.data.size + 2
    rw [Array.length_toList]; omega
theorem showI_len (B : Nat) : ∀ ts : List TokI, (∀ t ∈ ts, t.s.size ≤ B) → (showI ts).length ≤ ts.length * (4 * B + 3)
  | [], _ => by simp [showI]
  | t :: ts, h => by
    have ih := showI_len B ts fun t ht => h t (by simp [ht])
    have h1 := textI_len t
    have h2 := h t (by simp)
    have e : showI (t :: ts) = textI t ++ [32] ++ showI ts := rfl
    show _ ≤ (ts.length + 1) * (4 * B + 3)
    rw [e, List.length_append, List.length_append, Nat.succ_mul]
    have e2 : ([32] : List UInt8).length = 1 := rfl
    generalize ts.length * (4 * B + 3) = q at ih ⊢
    omega

set_option maxRecDepth 100000 in
set_option maxHeartbeats 4000000 in
theorem refShow_c (v : Value) (ts : List TokI) (w : World) (hv : SliceOf w w.heap.size v ts) (hs : ∀ t ∈ ts, t.s.size ≤ 200) (hn : ts.length ≤ 200) :
    Calls Tryz.prog 12 #[v] w fun e w' => e = .returned (.string ⟨(showI ts).toArray⟩) ∧ Below w.heap.size w w' := by
  rcases hv with ⟨rfl, rfl⟩ | ⟨a, cap, rfl, h1, h2, h3, h4⟩
  · go_enter Tryz.func12, Tryz.ntmps12
    go_wp2
    go_loopw [3, 4] (fun o i wr => o = .string ⟨#[]⟩ ∧ i = .int .i64 0 ∧ Below w.heap.size w wr) (fun _ _ _ => 0)
    case atStart => exact ⟨rfl, rfl, Below.refl _ _⟩
    case round =>
      obtain ⟨rfl, rfl, hB⟩ := hrel
      go_wp2
      go_ret
      exact ⟨rfl, hB⟩
  · have hl : (showI ts).length ≤ 200 * (4 * 200 + 3) := Nat.le_trans (showI_len 200 ts hs) (Nat.mul_le_mul_right _ hn)
    have H4 := Lib.hid h4
    have Hs := Lib.hid hs
    have Hl := Lib.hid hl
    unfold maxLen at h2
    clear h4 hs hl
    go_enter Tryz.func12, Tryz.ntmps12
    go_wp2
    go_loopw [3, 4] (fun o i wr => ∃ (k : Nat) (acc : List UInt8), k ≤ ts.length ∧ i = .int .i64 k ∧ o = .string ⟨acc.toArray⟩ ∧ acc.length ≤ 160600 ∧ acc = showI (ts.take k) ∧ Below w.heap.size w wr) (fun _ i _ => ts.length - (intOf i).toNat)
    case atStart => exact ⟨0, [], Nat.zero_le _, rfl, rfl, by simp, rfl, Below.refl _ _⟩
    case round =>
      obtain ⟨k, acc, hk, rfl, rfl, hal, hacc, hB⟩ := hrel
      have Hacc := Lib.hid hacc
      clear hacc
      by_cases hlt : k < ts.length
      · obtain ⟨t, ht⟩ : ∃ t, ts[k]? = some t := ⟨ts[k], List.getElem?_eq_getElem hlt⟩
        obtain ⟨d0, d1, d2⟩ := SliceOf.cells H4.out h3 hB ht
        have hts : t.s.size ≤ 200 := Hs.out t (List.mem_of_getElem? ht)
        have Hn := Lib.hid (showI_take ts k t ht)
        have htl := textI_len t
        have hlen : acc.length + (textI t).length + 1 ≤ 160600 := by
          have h1 := Hl.out
          have h2 : (showI (ts.take (k + 1))).length ≤ (showI ts).length := by
            have : showI ts = showI (ts.take (k + 1)) ++ showI (ts.drop (k + 1)) := by rw [showI, showI, showI, ← List.flatMap_append, List.take_append_drop]
            rw [this, List.length_append]
            omega
          rw [Hn.out, ← Hacc.out] at h2
          simp only [List.length_append, List.length_cons, List.length_nil] at h2
          omega
        have hBs := hB.size
        clear ht
        obtain ⟨tk, s, tl⟩ := t
        simp only at d0 d1 d2 hts
        by_cases h3 : tk = 3
        · subst h3
          have Ht : Hid (textI ⟨3, s, tl⟩ = quoteL s.data.toList) := Lib.hid (by unfold textI; rw [if_pos rfl])
          rw [Ht.out] at hlen
          have e1 : ¬ 9223372036854775807 < acc.length + (quoteL s.data.toList).length := by omega
          have e2 : ¬ 9223372036854775807 < acc.length + (quoteL s.data.toList).length + 1 := by omega
          go_wp2_with fail
          refine (refQuote_c s (by omega) _).mono ?_
          rintro e w1 ⟨rfl, b1⟩
          go_wp2
          go_roundw
          case rel =>
            refine ⟨k + 1, acc ++ quoteL s.data.toList ++ [32], hlt, by go_num, ?_, by simp only [List.length_append, List.length_cons, List.length_nil]; omega, ?_, hB.trans (b1.mono hBs)⟩
            · exact app3 acc (quoteL s.data.toList) [32]
            · rw [Hn.out, Hacc.out, Ht.out]
          case measure => simp [intOf]; omega
        · have Ht : Hid (textI ⟨tk, s, tl⟩ = s.data.toList) := Lib.hid (by unfold textI; rw [if_neg h3])
          have hk' : (tk == 3) = false := by simp [h3]
          clear h3
          rw [Ht.out] at hlen
          obtain ⟨l, rfl⟩ : ∃ l : List UInt8, s = ⟨l.toArray⟩ := ⟨s.data.toList, (str_eta s).symm⟩
          simp only at hlen Ht
          have e1 : ¬ 9223372036854775807 < acc.length + l.length := by omega
          have e2 : ¬ 9223372036854775807 < acc.length + l.length + 1 := by omega
          go_wp2
          go_roundw
          case rel =>
            refine ⟨k + 1, acc ++ l ++ [32], hlt, by go_num, ?_, by simp only [List.length_append, List.length_cons, List.length_nil]; omega, ?_, hB⟩
            · exact app3 acc l [32]
            · rw [Hn.out, Hacc.out, Ht.out]
          case measure => simp [intOf]; omega
      · obtain rfl : k = ts.length := by omega
        have hk' : ¬ ((ts.length : Int) < (ts.length : Int)) := by omega
        go_wp2
        go_ret
        have e := Hacc.out
        rw [List.take_length] at e
        subst e
        exact ⟨rfl, hB⟩
end Go.Proofs.YtkfdklamfmnalaaGreatDoor
