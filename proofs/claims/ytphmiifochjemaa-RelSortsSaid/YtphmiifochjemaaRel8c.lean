/- soritesref08.Put, Sort. -/
import Derived.Test.YtphmiifochjemaaRel8b
namespace Go.Proofs.Ytphmiifochjemaa
open Go.RowKit

theorem grown_via' {a b : World} {o : Obj} {row : Option Nat} (k : (a.alloc o).grownBy b row) : a.grownBy b row :=
  ⟨k.os, k.tape, k.output, Nat.le_trans (by simp) k.size, fun i hi hne => (k.block i (by simp; omega) hne).trans (Below.heap_alloc a o i hi)⟩
/-- What has been appended to so far, and where. -/
def OutR (w wr : World) (v : Value) (l : List Rw) : Prop := Owned wr w.heap.size 23 1 (RwC w w.heap.size) v l ∧ Below w.heap.size w wr
theorem OutR.past {w wr w1 : World} {v : Value} {l : List Rw} (h : OutR w wr v l) (b : Below wr.heap.size wr w1) : OutR w w1 v l := ⟨h.1.past b, h.2.trans (b.mono h.2.size)⟩
theorem OutR.snoc {w wr w3 : World} {v v' : Value} {l : List Rw} {css : List (List Value)} {x : Rw} {cell : Value} (h : OutR w wr v l) (h1 : css.length = l.length) (h2 : ∀ (i : Nat) (x : Rw), l[i]? = some x → ∃ cs, css[i]? = some cs ∧ cs.length = 1 ∧ RwC w w.heap.size x cs)
    (hx : RwC w w.heap.size x [cell]) (hg : wr.grownBy w3 v.ownBlock) (ho : w3.ownsRow w.heap.size 23 1 v' (l.length + 1) (css.flatten ++ [cell])) : OutR w w3 v' (l ++ [x]) :=
  ⟨Owned.snoc h1 h2 rfl hx ho, h.2.grown hg h.2.size (fun k hk => (h.1.lt k hk).1)⟩
theorem OutR.rows {w wr : World} {v : Value} {l : List Rw} (h : OutR w wr v l) : RwsS wr wr.heap.size l v := h.1.slOf (fun _ _ hr => (hr.below h.2).more h.2.size)

set_option maxRecDepth 100000 in
set_option maxHeartbeats 8000000 in
theorem rput_c (l : List Rw) (t : Rw) (v u : Value) (w : World) (hl : l.length ≤ 1000000) (h1 : RwsS w w.heap.size l v) (h2 : SlOf w w.heap.size 3 VlC t u) :
    Calls Try.prog 21 #[v, u] w fun e w' => ∃ r, e = .returned (.tuple #[r, .bool (newL rwC l t)]) ∧ RwsS w' w'.heap.size (putL rwC l t) r ∧ Below w.heap.size w w' := by
  obtain ⟨i0, hi, hz0, hz1, hz2⟩ := info_parts infoRow
  obtain ⟨o1, cap1, rfl, hc1, hm1, S1⟩ := SlOf.open h1
  obtain ⟨o2, cap2, rfl, _⟩ := SlOf.uni h2
  have HT : Hid (RwC w w.heap.size t [.slice o2 t.length cap2]) := Lib.hid ⟨_, rfl, h2⟩
  have H2 := Lib.hid h2
  have HB1 : Hid (∀ k, k ≤ l.length → k + 1 ≤ maxLen) := Lib.hid (fun k hk => by unfold maxLen; omega)
  have HB2 : Hid (∀ k, k ≤ l.length → (k + 1) * 24 ≤ 140737488355328) := Lib.hid (fun k hk => by omega)
  have HB5 : Hid (l.length ≤ 1000000) := Lib.hid hl
  clear h1 h2 hl
  go_enter Try.func21, Try.ntmps21
  go_wp2
  go_loopw [6, 7] (fun ov i wr => ∃ k : Nat, k ≤ l.length ∧ i = .int .i64 k ∧ OutR w wr ov (l.take k) ∧ putL rwC l t = l.take k ++ putL rwC (l.drop k) t ∧ newL rwC l t = newL rwC (l.drop k) t) (fun _ i _ => l.length - (intOf i).toNat)
  case atStart => exact ⟨0, Nat.zero_le _, rfl, ⟨Owned.nil _ _ _ _ _, Below.refl _ _⟩, rfl, rfl⟩
  case round =>
    obtain ⟨k, hk, rfl, hO, hp, hn⟩ := hrel
    have hB := hO.2
    have hBs := hB.size
    have Hp := Lib.hid hp
    have Hn := Lib.hid hn
    have HO := Lib.hid hO
    have hlk : (l.take k).length = k := by rw [List.length_take]; omega
    have HLK := Lib.hid hlk
    clear hp hn hO hlk

    have HB3 : Hid (∀ n, n ≤ l.length + 1 → n + 1 ≤ maxLen) := Lib.hid (fun n hn => by have := HB5.out; unfold maxLen; omega)
    have HB4 : Hid (∀ n, n ≤ l.length + 1 → (n + 1) * 24 ≤ 140737488355328) := Lib.hid (fun n hn => by have := HB5.out; omega)
    by_cases hlt : k < l.length
    · have hlt' : (k : Int) < (l.length : Int) := by omega
      have hk0 : (0 : Int) ≤ (k : Int) := by omega
      obtain ⟨x, hx⟩ : ∃ x, l[k]? = some x := ⟨l[k], List.getElem?_eq_getElem hlt⟩
      obtain ⟨a, p3, q3, rfl, ha, Hx, c0, Hr⟩ := rw_at S1 hB hx
      have hal : (a.add k).block < wr.heap.size := by rw [addBlock]; omega
      have HI := Lib.hid (fun (W : World) (hb : Below wr.heap.size wr W) => rcompare_c x t _ _ W (VlS.past Hx.out hb) (VlS.past (VlS.past H2.out hB) hb))
      have HLT := Lib.hid (fun h => put_lt (c := rwC) (t := t) hx h)
      have HEQ := Lib.hid (fun h => put_eq (c := rwC) (t := t) hx h)
      have HGT := Lib.hid (fun h h' => put_gt (c := rwC) (t := t) hx h h')
      have HTK := Lib.hid (take_snoc hx)
      obtain ⟨z, hz⟩ : ∃ z, rwC x t = z := ⟨_, rfl⟩
      rw [hz] at HI HLT HEQ HGT
      clear hz hx
      go_wp2_with fail
      refine (HI.out _ (Below.refl _ _)).mono ?_
      rintro e w1 ⟨rfl, b1⟩
      have HO1 := Lib.hid (HO.out.past b1)
      have hw1 := b1.size
      have c1 : w1.cell? (a.add k) = some (.slice p3 x.length q3) := (b1.cell hal).trans c0
      have hal1 : (a.add k).block < w1.heap.size := by omega
      by_cases h0 : z < 0
      · have HP := Lib.hid (Hp.out.trans (HLT.out h0).1)
        have HN := Lib.hid (Hn.out.trans (HLT.out h0).2)
        obtain ⟨css, hcl, hce, hown⟩ := HO1.out.1
        rw [HLK.out] at hown
        have HCE := Lib.hid (And.intro hcl hce)
        have HOWN := Lib.hid hown
        have HS1 := Lib.hid (HB1.out k hk)
        have HS2 := Lib.hid (HB2.out k hk)
        clear hcl hce hown HEQ HGT HLT c0
        go_wp2_with (at_builtin; refine wpList_append_own _ rfl (.tmp 22) (.tmp 27) 22 rfl w.heap.size 23 i0 _ 1 24 Try.underlying22 hi hz0 hz1 hz2 rfl (by decide) _ k _ rfl (HOWN.out.alloc _) _ 1 1 [.slice p3 x.length q3] rfl rfl (news_new _ _ _ _ rfl) (one_row _ rfl) HS1.out HS2.out (by simp; omega) ?_; intro v' w3 hown' hgrow _; obtain ⟨g', cap', rfl, hgb⟩ := own_form hown' (Nat.succ_pos _); have HG3 := Lib.hid (grown_via' hgrow); have HOWN3 := Lib.hid hown'; clear hgrow hown')
        go_wp2
        go_roundw
        case rel =>
          refine ⟨k + 1, hlt, by go_num, ?_, HP.out, HN.out⟩
          rw [HTK.out]
          exact HO1.out.snoc HCE.out.1 HCE.out.2 Hr.out HG3.out (by rw [HLK.out]; exact HOWN3.out)
        case measure => simp [intOf]; omega
      · have hne : ((k : Int) == (l.length : Int)) = false := by simp; omega
        have HI1 := Lib.hid (HI.out w1 b1)
        go_wp2_with fail
        refine HI1.out.mono ?_
        rintro e w2 ⟨rfl, b2⟩
        have HO2' := Lib.hid (HO1.out.past b2)
        have hw2 := b2.size
        by_cases h1 : z = 0
        · subst h1
          have HP : Hid (putL rwC l t = l.take k ++ l.drop k) := Lib.hid (by rw [Hp.out, (HEQ.out rfl).1])
          have HN : Hid (newL rwC l t = false) := Lib.hid (by rw [Hn.out, (HEQ.out rfl).2])
          clear HEQ HGT HLT c0 c1 HI HI1
          go_wp2
          go_loopw [6, 7] (fun ov i wx => ∃ (j : Nat) (M : List Rw), k ≤ j ∧ j ≤ l.length ∧ i = .int .i64 j ∧ OutR w wx ov (l.take k ++ M) ∧ M ++ l.drop j = l.drop k) (fun _ i _ => l.length - (intOf i).toNat)
          case atStart => exact ⟨k, [], Nat.le_refl _, hk, rfl, by rw [List.append_nil]; exact HO2'.out, rfl⟩
          case round =>
            obtain ⟨j, M, hkj, hj, rfl, hO, hM⟩ := hrel
            have hB := hO.2
            have hBs := hB.size
            have HM := Lib.hid hM
            have HO := Lib.hid hO
            clear hO hM
            by_cases hlt : j < l.length
            · have hlt' : (j : Int) < (l.length : Int) := by omega
              have hj0 : (0 : Int) ≤ (j : Int) := by omega
              obtain ⟨x, hx⟩ : ∃ x, l[j]? = some x := ⟨l[j], List.getElem?_eq_getElem hlt⟩
              obtain ⟨a', p3, q3, e2, ha, Hx, c0, Hr⟩ := rw_at S1 hB hx
              have hal : (a'.add j).block < wr.heap.size := by rw [addBlock]; omega
              cases e2
              have HM2 : Hid ((M ++ [x]) ++ l.drop (j + 1) = l.drop k) := Lib.hid (by rw [List.append_assoc, ← HM.out, drop_cons' hx]; rfl)
              have hlen : (l.take k ++ M).length ≤ l.length + 1 := by
                have h1 := congrArg List.length HM.out
                rw [List.length_append, List.length_drop, List.length_drop] at h1
                rw [List.length_append, HLK.out]
                omega
              obtain ⟨css, hcl, hce, hown⟩ := HO.out.1
              obtain ⟨N, hN⟩ : ∃ N, (l.take k ++ M).length = N := ⟨_, rfl⟩
              rw [hN] at hown hlen
              have HNN := Lib.hid hN
              have HCE := Lib.hid (And.intro hcl hce)
              have HOWN := Lib.hid hown
              have HS1 : Hid (N + 1 ≤ maxLen) := Lib.hid (HB3.out _ hlen)
              have HS2 : Hid ((N + 1) * 24 ≤ 140737488355328) := Lib.hid (HB4.out _ hlen)
              clear hx hcl hce hown hlen hN
              go_wp2_with (at_builtin; refine wpList_append_own _ rfl (.tmp 53) (.tmp 58) 22 rfl w.heap.size 23 i0 _ 1 24 Try.underlying22 hi hz0 hz1 hz2 rfl (by decide) _ N _ rfl (HOWN.out.alloc _) _ 1 1 [.slice p3 x.length q3] rfl rfl (news_new _ _ _ _ rfl) (one_row _ rfl) HS1.out HS2.out (by simp; omega) ?_; intro v' w3 hown' hgrow _; obtain ⟨g', cap', rfl, hgb⟩ := own_form hown' (Nat.succ_pos _); have HG3 := Lib.hid (grown_via' hgrow); have HOWN3 := Lib.hid hown'; clear hgrow hown')
              go_wp2
              go_roundw
              case rel =>
                refine ⟨j + 1, M ++ [x], by omega, hlt, by go_num, ?_, HM2.out⟩
                rw [← List.append_assoc]
                exact HO.out.snoc HCE.out.1 HCE.out.2 Hr.out HG3.out (by rw [HNN.out]; exact HOWN3.out)
              case measure => simp [intOf]; omega
            · have hlt' : ¬ (j : Int) < (l.length : Int) := by omega
              have He : Hid (l.take k ++ M = putL rwC l t) := Lib.hid (by
                have h1 := HM.out
                rw [List.drop_of_length_le (show l.length ≤ j by omega), List.append_nil] at h1
                rw [HP.out, h1])
              have hO := HO.out
              rw [He.out] at hO
              go_wp2
              go_ret2
              exact ⟨_, by rw [HN.out]; rfl, hO.rows, hO.2⟩
        · have h1' : (z != 0) = true := by simpa using h1
          have HP : Hid (putL rwC l t = (l.take k ++ [t]) ++ l.drop k) := Lib.hid (by rw [Hp.out, (HGT.out h0 h1).1, List.append_assoc])
          have HN : Hid (newL rwC l t = true) := Lib.hid (by rw [Hn.out, (HGT.out h0 h1).2])
          clear HEQ HGT HLT c0 c1 HI HI1
          obtain ⟨css, hcl, hce, hown⟩ := HO2'.out.1
          rw [HLK.out] at hown
          have HCE := Lib.hid (And.intro hcl hce)
          have HOWN := Lib.hid hown
          have HS1 := Lib.hid (HB1.out k hk)
          have HS2 := Lib.hid (HB2.out k hk)
          clear hcl hce hown
          go_wp2_with (at_builtin; refine wpList_append_own _ rfl (.tmp 45) (.tmp 47) 22 rfl w.heap.size 23 i0 _ 1 24 Try.underlying22 hi hz0 hz1 hz2 rfl (by decide) _ k _ rfl (HOWN.out.alloc _) _ 1 1 [.slice o2 t.length cap2] rfl rfl (news_new _ _ _ _ rfl) (one_row _ rfl) HS1.out HS2.out (by simp; omega) ?_; intro v' w3 hown' hgrow _; obtain ⟨g', cap', rfl, hgb⟩ := own_form hown' (Nat.succ_pos _); have HG3 := Lib.hid (grown_via' hgrow); have HOWN3 := Lib.hid hown'; clear hgrow hown')
          have HO2 := Lib.hid (HO2'.out.snoc HCE.out.1 HCE.out.2 HT.out HG3.out (by rw [HLK.out]; exact HOWN3.out))
          go_wp2
          go_loopw [6, 7] (fun ov i wx => ∃ (j : Nat) (M : List Rw), k ≤ j ∧ j ≤ l.length ∧ i = .int .i64 j ∧ OutR w wx ov ((l.take k ++ [t]) ++ M) ∧ M ++ l.drop j = l.drop k) (fun _ i _ => l.length - (intOf i).toNat)
          case atStart => exact ⟨k, [], Nat.le_refl _, hk, rfl, by rw [List.append_nil]; exact HO2.out, rfl⟩
          case round =>
            obtain ⟨j, M, hkj, hj, rfl, hO, hM⟩ := hrel
            have hB := hO.2
            have hBs := hB.size
            have HM := Lib.hid hM
            have HO := Lib.hid hO
            clear hO hM
            by_cases hlt : j < l.length
            · have hlt' : (j : Int) < (l.length : Int) := by omega
              have hj0 : (0 : Int) ≤ (j : Int) := by omega
              obtain ⟨x, hx⟩ : ∃ x, l[j]? = some x := ⟨l[j], List.getElem?_eq_getElem hlt⟩
              obtain ⟨a', p3, q3, e2, ha, Hx, c0, Hr⟩ := rw_at S1 hB hx
              have hal : (a'.add j).block < wr.heap.size := by rw [addBlock]; omega
              cases e2
              have HM2 : Hid ((M ++ [x]) ++ l.drop (j + 1) = l.drop k) := Lib.hid (by rw [List.append_assoc, ← HM.out, drop_cons' hx]; rfl)
              have hlen : ((l.take k ++ [t]) ++ M).length ≤ l.length + 1 := by
                have h1 := congrArg List.length HM.out
                rw [List.length_append, List.length_drop, List.length_drop] at h1
                rw [List.length_append, List.length_append, List.length_cons, List.length_nil, HLK.out]
                omega
              obtain ⟨css, hcl, hce, hown⟩ := HO.out.1
              obtain ⟨N, hN⟩ : ∃ N, ((l.take k ++ [t]) ++ M).length = N := ⟨_, rfl⟩
              rw [hN] at hown hlen
              have HNN := Lib.hid hN
              have HCE := Lib.hid (And.intro hcl hce)
              have HOWN := Lib.hid hown
              have HS1 : Hid (N + 1 ≤ maxLen) := Lib.hid (HB3.out _ hlen)
              have HS2 : Hid ((N + 1) * 24 ≤ 140737488355328) := Lib.hid (HB4.out _ hlen)
              clear hx hcl hce hown hlen hN
              go_wp2_with (at_builtin; refine wpList_append_own _ rfl (.tmp 53) (.tmp 58) 22 rfl w.heap.size 23 i0 _ 1 24 Try.underlying22 hi hz0 hz1 hz2 rfl (by decide) _ N _ rfl (HOWN.out.alloc _) _ 1 1 [.slice p3 x.length q3] rfl rfl (news_new _ _ _ _ rfl) (one_row _ rfl) HS1.out HS2.out (by simp; omega) ?_; intro v' w3 hown' hgrow _; obtain ⟨g', cap', rfl, hgb⟩ := own_form hown' (Nat.succ_pos _); have HG3 := Lib.hid (grown_via' hgrow); have HOWN3 := Lib.hid hown'; clear hgrow hown')
              go_wp2
              go_roundw
              case rel =>
                refine ⟨j + 1, M ++ [x], by omega, hlt, by go_num, ?_, HM2.out⟩
                rw [← List.append_assoc]
                exact HO.out.snoc HCE.out.1 HCE.out.2 Hr.out HG3.out (by rw [HNN.out]; exact HOWN3.out)
              case measure => simp [intOf]; omega
            · have hlt' : ¬ (j : Int) < (l.length : Int) := by omega
              have He : Hid ((l.take k ++ [t]) ++ M = putL rwC l t) := Lib.hid (by
                have h1 := HM.out
                rw [List.drop_of_length_le (show l.length ≤ j by omega), List.append_nil] at h1
                rw [HP.out, h1])
              have hO := HO.out
              rw [He.out] at hO
              go_wp2
              go_ret2
              exact ⟨_, by rw [HN.out]; rfl, hO.rows, hO.2⟩
    · have hlt' : ¬ (k : Int) < (l.length : Int) := by omega
      have hne : ((k : Int) == (l.length : Int)) = true := by simp; omega
      have HP : Hid (putL rwC l t = (l.take k ++ [t]) ++ l.drop k) := Lib.hid (by rw [Hp.out, (put_end (c := rwC) (t := t) (show l.length ≤ k by omega)).1, List.append_assoc])
      have HN : Hid (newL rwC l t = true) := Lib.hid (by rw [Hn.out, (put_end (c := rwC) (t := t) (show l.length ≤ k by omega)).2])
      obtain ⟨css, hcl, hce, hown⟩ := HO.out.1
      rw [HLK.out] at hown
      have HCE := Lib.hid (And.intro hcl hce)
      have HOWN := Lib.hid hown
      have HS1 := Lib.hid (HB1.out k hk)
      have HS2 := Lib.hid (HB2.out k hk)
      clear hcl hce hown
      go_wp2_with (at_builtin; refine wpList_append_own _ rfl (.tmp 45) (.tmp 47) 22 rfl w.heap.size 23 i0 _ 1 24 Try.underlying22 hi hz0 hz1 hz2 rfl (by decide) _ k _ rfl (HOWN.out.alloc _) _ 1 1 [.slice o2 t.length cap2] rfl rfl (news_new _ _ _ _ rfl) (one_row _ rfl) HS1.out HS2.out (by simp; omega) ?_; intro v' w3 hown' hgrow _; obtain ⟨g', cap', rfl, hgb⟩ := own_form hown' (Nat.succ_pos _); have HG3 := Lib.hid (grown_via' hgrow); have HOWN3 := Lib.hid hown'; clear hgrow hown')
      have HO2 := Lib.hid (HO.out.snoc HCE.out.1 HCE.out.2 HT.out HG3.out (by rw [HLK.out]; exact HOWN3.out))
      go_wp2
      go_loopw [6, 7] (fun ov i wx => ∃ (j : Nat) (M : List Rw), k ≤ j ∧ j ≤ l.length ∧ i = .int .i64 j ∧ OutR w wx ov ((l.take k ++ [t]) ++ M) ∧ M ++ l.drop j = l.drop k) (fun _ i _ => l.length - (intOf i).toNat)
      case atStart => exact ⟨k, [], Nat.le_refl _, hk, rfl, by rw [List.append_nil]; exact HO2.out, rfl⟩
      case round =>
        obtain ⟨j, M, hkj, hj, rfl, hO, hM⟩ := hrel
        have hB := hO.2
        have hBs := hB.size
        have HM := Lib.hid hM
        have HO := Lib.hid hO
        clear hO hM
        by_cases hlt : j < l.length
        · exfalso
          omega
        · have hlt' : ¬ (j : Int) < (l.length : Int) := by omega
          have He : Hid ((l.take k ++ [t]) ++ M = putL rwC l t) := Lib.hid (by
            have h1 := HM.out
            rw [List.drop_of_length_le (show l.length ≤ j by omega), List.append_nil] at h1
            rw [HP.out, h1])
          have hO := HO.out
          rw [He.out] at hO
          go_wp2
          go_ret2
          exact ⟨_, by rw [HN.out]; rfl, hO.rows, hO.2⟩
end Go.Proofs.Ytphmiifochjemaa
