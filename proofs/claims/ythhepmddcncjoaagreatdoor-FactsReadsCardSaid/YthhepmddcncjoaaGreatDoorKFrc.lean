/- soritesref10.cut. soritesref10.value. soritesref10.One. -/
import Derived.Test.YthhepmddcncjoaaGreatDoorKUnquote
import Derived.Test.YthhepmddcncjoaaGreatDoorKFd
import Derived.Test.YthhepmddcncjoaaGreatDoorKFq
import Derived.Test.YthhepmddcncjoaaGreatDoorKFv
import Derived.Test.YthhepmddcncjoaaGreatDoorKFR
set_option linter.unusedSimpArgs false
set_option linter.unusedVariables false
namespace Go.Proofs.YthhepmddcncjoaaGreatDoor
open Go.RowKit

theorem infoStr : (Tryz.prog.info? 9).map (fun i => (i.zero, i.size, i.bytes)) = some (some (.string ⟨#[]⟩), 1, 16) := by kernel_rfl
def piece (L : List UInt8) (m k : Nat) : List UInt8 := (L.drop m).take (k - m)
theorem cut_last {c : UInt8} {L : List UInt8} {m : Nat} (h : ∀ x ∈ piece L m L.length, x ≠ c) : cutB c (L.drop m) = [piece L m L.length] := by
  have e : piece L m L.length = L.drop m := by unfold piece; rw [List.take_of_length_le (by simp)]
  rw [e] at h ⊢
  exact cutB_none h
theorem cut_next {c : UInt8} {L : List UInt8} {m k : Nat} (hm : m ≤ k) (hk : L[k]? = some c) (h : ∀ x ∈ piece L m k, x ≠ c) : cutB c (L.drop m) = piece L m k :: cutB c (L.drop (k + 1)) := by
  have e : L.drop m = piece L m k ++ c :: L.drop (k + 1) := by
    obtain ⟨hlt, hc⟩ := List.getElem?_eq_some_iff.1 hk
    have hd : L.drop k = c :: L.drop (k + 1) := by rw [List.drop_eq_getElem_cons hlt, hc]
    unfold piece
    conv => lhs; rw [← List.take_append_drop (k - m) (L.drop m), List.drop_drop, show m + (k - m) = k by omega]
    rw [hd]
  rw [e]
  exact cutB_first _ h
theorem piece_step {c x : UInt8} {L : List UInt8} {m k : Nat} (hm : m ≤ k) (hk : L[k]? = some x) (hx : x ≠ c) (h : ∀ x ∈ piece L m k, x ≠ c) : ∀ x ∈ piece L m (k + 1), x ≠ c := by
  have e : piece L m (k + 1) = piece L m k ++ [x] := by
    unfold piece
    rw [show k + 1 - m = (k - m) + 1 by omega, List.take_add_one, List.getElem?_drop, show m + (k - m) = k by omega, hk]
    rfl
  intro y hy
  rw [e, List.mem_append] at hy
  rcases hy with hy | hy
  · exact h y hy
  · rw [List.mem_singleton.1 hy]; exact hx
theorem piece_of (s : ByteArray) (m k : Nat) : (s.extract m k).data.toList = piece s.data.toList m k := by
  rw [Lib.extract_data]; rfl
set_option maxRecDepth 100000 in
set_option maxHeartbeats 4000000 in
theorem rcut_c (s : ByteArray) (c : UInt8) (w : World) (hs : s.size ≤ 1000000) :
    Calls Tryz.prog 31 #[.string s, .int .u8 (c.toNat : Int)] w fun e w' => ∃ (v : Value) (l : List ByteArray), e = .returned v ∧ l.map (fun x => x.data.toList) = cutB c s.data.toList ∧ w'.ownsRow w.heap.size 9 1 v l.length (l.map Value.string) ∧ Below w.heap.size w w' := by
  obtain ⟨i0, hi, hz0, hz1, hz2⟩ := info_parts infoStr
  have hlen : s.data.toList.length = s.size := by simp
  go_enter Tryz.func31, Tryz.ntmps31
  go_wp2
  go_loopw [5, 6, 7] (fun v f i wr => ∃ (acc : List ByteArray) (m k : Nat), f = .int .i64 (m : Int) ∧ i = .int .i64 (k : Int) ∧ k ≤ s.size + 1 ∧ (k ≤ s.size → m ≤ k ∧ cutB c s.data.toList = acc.map (fun x => x.data.toList) ++ cutB c (s.data.toList.drop m) ∧ ∀ x ∈ piece s.data.toList m k, x ≠ c) ∧ (k = s.size + 1 → acc.map (fun x => x.data.toList) = cutB c s.data.toList) ∧ acc.length ≤ k ∧ wr.ownsRow w.heap.size 9 1 v acc.length (acc.map Value.string) ∧ Below w.heap.size w wr) (fun _ _ i _ => s.size + 1 - (intOf i).toNat)
  case atStart => exact ⟨[], 0, 0, rfl, rfl, by omega, fun _ => ⟨Nat.le_refl _, rfl, fun x hx => by simp [piece] at hx⟩, fun h => by omega, Nat.le_refl _, World.ownsRow_nil _ _ _ _, Below.refl _ _⟩
  case round =>
    obtain ⟨acc, m, k, rfl, rfl, hk, h1, h2, hacc, hown, hB⟩ := hrel
    have hsz := hB.size
    by_cases hlt : k ≤ s.size
    · obtain ⟨hm, h3, h4⟩ := h1 hlt
      have hlt' : (k : Int) ≤ (s.size : Int) := by omega
      have gs : ∀ w : World, (Instr.slice 9 (.string s) (some (.int .i64 (m : Int))) (some (.int .i64 (k : Int))) none).run Tryz.prog w = .ok (.string (s.extract m k)) w := fun w => by
        have h := run_slice_string (P := Tryz.prog) (w := w) 9 s .i64 .i64 (m : Int) (k : Int) Tryz.underlying9 (by omega) (by omega) (by omega)
        rwa [show (m : Int).toNat = m by omega, show (k : Int).toNat = k by omega] at h
      clear h1 h2
      by_cases he : k = s.size
      · subst he
        have he2 : ((s.size : Int) == (s.size : Int)) = true := by simp
        have HN : Hid ((acc ++ [s.extract m s.size]).map (fun x => x.data.toList) = cutB c s.data.toList) := Lib.hid (by
          rw [h3, List.map_append, List.map_singleton, piece_of, ← hlen]
          rw [← hlen] at h4
          rw [cut_last h4])
        clear h3 h4
        go_wp2_with (at_builtin; refine wpList_append_own _ rfl (.tmp 25) (.tmp 30) 35 rfl w.heap.size 9 i0 (.string ⟨#[]⟩) 1 16 Tryz.underlying35 hi hz0 hz1 hz2 rfl (by decide) _ _ _ rfl (hown.alloc _) ⟨wr.heap.size, 0, none⟩ 1 1 [.string (s.extract m s.size)] rfl rfl (cell_one_new _ _ _) ?c2 ?c3 ?c4 ?c5 ?_)
        case c2 => first | rfl | (intro u hu; simp at hu; subst hu; rfl)
        case c3 => unfold maxLen; omega
        case c4 => omega
        case c5 => simp; omega
        intro v' w2 hown' hgrow' _
        go_wp2
        go_roundw
        case rel =>
          refine ⟨acc ++ [s.extract m s.size], s.size + 1, s.size + 1, by go_num, by go_num, Nat.le_refl _, fun h => by omega, fun _ => HN.out, by simp; omega, ?_, (hB.alloc (by omega) _).grown hgrow' (by simp; omega) (fun j hj => (hown.lt j hj).1)⟩
          rw [List.map_append, List.length_append]
          exact hown'
        case measure => simp [intOf] <;> omega
      · have hne : ((k : Int) == (s.size : Int)) = false := by rw [beq_eq_false_iff_ne]; omega
        have hlt2 : k < s.size := by omega
        have hlt3 : (k : Int) < (s.size : Int) := by omega
        have hk : s.data.toList[k]? = some s[k] := by rw [List.getElem?_eq_getElem (by omega)]; rfl
        by_cases hc : s[k] = c
        · have hc' : ((s[k].toNat : Int) == (c.toNat : Int)) = true := by rw [hc]; simp
          have HN : Hid (cutB c s.data.toList = (acc ++ [s.extract m k]).map (fun x => x.data.toList) ++ cutB c (s.data.toList.drop (k + 1))) := Lib.hid (by
            rw [hc] at hk
            rw [h3, List.map_append, List.map_singleton, piece_of, cut_next hm hk h4, List.append_assoc]; rfl)
          clear h3 h4 hk hc
          go_wp2_with (at_builtin; refine wpList_append_own _ rfl (.tmp 25) (.tmp 30) 35 rfl w.heap.size 9 i0 (.string ⟨#[]⟩) 1 16 Tryz.underlying35 hi hz0 hz1 hz2 rfl (by decide) _ _ _ rfl (hown.alloc _) ⟨wr.heap.size, 0, none⟩ 1 1 [.string (s.extract m k)] rfl rfl (cell_one_new _ _ _) ?c2 ?c3 ?c4 ?c5 ?_)
          case c2 => first | rfl | (intro u hu; simp at hu; subst hu; rfl)
          case c3 => unfold maxLen; omega
          case c4 => omega
          case c5 => simp; omega
          intro v' w2 hown' hgrow' _
          go_wp2
          go_roundw
          case rel =>
            refine ⟨acc ++ [s.extract m k], k + 1, k + 1, by go_num, by go_num, by omega, fun _ => ⟨Nat.le_refl _, HN.out, fun x hx => by simp [piece] at hx⟩, fun h => by omega, by simp; omega, ?_, (hB.alloc (by omega) _).grown hgrow' (by simp; omega) (fun j hj => (hown.lt j hj).1)⟩
            rw [List.map_append, List.length_append]
            exact hown'
          case measure => simp [intOf] <;> omega
        · have hc' : ((s[k].toNat : Int) == (c.toNat : Int)) = false := by
            rw [beq_eq_false_iff_ne]
            intro h
            exact hc (UInt8.toNat_inj.1 (by omega))
          have H4 := Lib.hid (piece_step hm hk hc h4)
          have H3 := Lib.hid h3
          clear h3 h4 hk hc
          go_wp2
          go_roundw
          case rel => exact ⟨acc, m, k + 1, rfl, by go_num, by omega, fun _ => ⟨by omega, H3.out, H4.out⟩, fun h => by omega, by omega, hown, hB⟩
          case measure => simp [intOf] <;> omega
    · have hlt' : ¬ (k : Int) ≤ (s.size : Int) := by omega
      have hN := h2 (by omega)
      go_wp2
      go_ret
      exact ⟨_, rfl, acc, hN, hown, hB⟩
end Go.Proofs.YthhepmddcncjoaaGreatDoor
namespace Go.Proofs.YthhepmddcncjoaaGreatDoor
open Go.RowKit

set_option maxRecDepth 100000 in
set_option maxHeartbeats 4000000 in
theorem rvalue_c (t : ByteArray) (k : Int) (w : World) (hs : t.size ≤ 5000) :
    Calls Tryz.prog 64 #[.string t, .int .i64 k] w fun e w' => e = .returned (valV k (valQ k t.data.toList)) ∧ Below w.heap.size w w' := by
  have hr := rowNew w 51 [.bool false, .int .i64 0, .string ⟨#[]⟩]
  obtain ⟨W, hW⟩ : ∃ W, w.alloc (.cells #[.bool false, .int .i64 0, .string ⟨#[]⟩] 51) = W := ⟨_, rfl⟩
  have hb : Below w.heap.size w W := by rw [← hW]; exact alB _ _
  have hr1 : W.heap[w.heap.size]? = some (.cells #[.bool false, .int .i64 0, .string ⟨#[]⟩] 51 (0, 0)) := by rw [← hW]; exact hr
  have HR := Lib.hid hr1
  have HB := Lib.hid hb
  have HP := Lib.hid (refParse_c t W (by unfold maxLen; omega))
  rw [refL_numL] at HP
  have HU := Lib.hid (refUnquote_c t hs W)
  clear hr hb hr1
  have hfix : ∀ (w1 : World), Below W.heap.size W w1 → w1.heap[w.heap.size]? = some (.cells #[.bool false, .int .i64 0, .string ⟨#[]⟩] 51 (0, 0)) := fun w1 b => (b.block _ (heap_lt HR.out)).trans HR.out
  have HF := Lib.hid hfix
  clear hfix
  by_cases hk : k = 1
  · subst hk
    cases hn : numL t.data.toList with
    | none =>
      have Hq : Hid (valQ 1 t.data.toList = none) := Lib.hid (by unfold valQ; rw [if_pos rfl, hn]; rfl)
      rw [hn] at HP
      clear hn
      go_enter Tryz.func64, Tryz.ntmps64
      go_wp2_with fail
      (try rw [hW])
      refine HP.out.mono ?_
      rintro e w1 ⟨rfl, b1⟩
      simp only [parseV]
      have r1 := HF.out w1 b1
      obtain ⟨c0, c1, c2, f0, f1, f2⟩ : w1.cell? ⟨w.heap.size, 0, none⟩ = some (.bool false) ∧ w1.cell? ⟨w.heap.size, 1, none⟩ = some (.int .i64 0) ∧ w1.cell? ⟨w.heap.size, 2, none⟩ = some (.string ⟨#[]⟩) ∧ w1.frozen? ⟨w.heap.size, 0, none⟩ = false ∧ w1.frozen? ⟨w.heap.size, 1, none⟩ = false ∧ w1.frozen? ⟨w.heap.size, 2, none⟩ = false := ⟨row_cells r1 0, row_cells r1 1, row_cells r1 2, frz_row r1 0, frz_row r1 1, frz_row r1 2⟩
      have hz := heap_lt r1
      have HB1 := Lib.hid (HB.out.trans (b1.mono HB.out.size))
      clear b1
      have r3 := set3 r1 (.bool false) (.int .i64 0) (.string ⟨#[]⟩)
      have HB3 := Lib.hid (set3B HB1.out (Nat.le_refl _) (.bool false) (.int .i64 0) (.string ⟨#[]⟩))
      obtain ⟨x0, x1, x2⟩ : (((w1.setCell ⟨w.heap.size, 0, none⟩ (.bool false)).setCell ⟨w.heap.size, 1, none⟩ (.int .i64 0)).setCell ⟨w.heap.size, 2, none⟩ (.string ⟨#[]⟩)).cell? ⟨w.heap.size, 0, none⟩ = some (.bool false) ∧ (((w1.setCell ⟨w.heap.size, 0, none⟩ (.bool false)).setCell ⟨w.heap.size, 1, none⟩ (.int .i64 0)).setCell ⟨w.heap.size, 2, none⟩ (.string ⟨#[]⟩)).cell? ⟨w.heap.size, 1, none⟩ = some (.int .i64 0) ∧ (((w1.setCell ⟨w.heap.size, 0, none⟩ (.bool false)).setCell ⟨w.heap.size, 1, none⟩ (.int .i64 0)).setCell ⟨w.heap.size, 2, none⟩ (.string ⟨#[]⟩)).cell? ⟨w.heap.size, 2, none⟩ = some (.string ⟨#[]⟩) := ⟨row_cells r3 0, row_cells r3 1, row_cells r3 2⟩
      clear r3
      go_wp2
      refine bodyPost_ret (v := .tuple #[.agg #[.bool false, .int .i64 0, .string ⟨#[]⟩], .int .i64 95]) (by simp [results, Tryz.results64, go_sem, x0, x1, x2]) rfl ?_
      exact ⟨by first | (rw [Hq.out]; rfl) | rw [Hq.out], HB3.out⟩
    | some n =>
      have Hq : Hid (valQ 1 t.data.toList = some ⟨false, n, ⟨#[]⟩⟩) := Lib.hid (by unfold valQ; rw [if_pos rfl, hn]; rfl)
      rw [hn] at HP
      clear hn
      go_enter Tryz.func64, Tryz.ntmps64
      go_wp2_with fail
      (try rw [hW])
      refine HP.out.mono ?_
      rintro e w1 ⟨rfl, b1⟩
      simp only [parseV]
      have r1 := HF.out w1 b1
      obtain ⟨c0, c1, c2, f0, f1, f2⟩ : w1.cell? ⟨w.heap.size, 0, none⟩ = some (.bool false) ∧ w1.cell? ⟨w.heap.size, 1, none⟩ = some (.int .i64 0) ∧ w1.cell? ⟨w.heap.size, 2, none⟩ = some (.string ⟨#[]⟩) ∧ w1.frozen? ⟨w.heap.size, 0, none⟩ = false ∧ w1.frozen? ⟨w.heap.size, 1, none⟩ = false ∧ w1.frozen? ⟨w.heap.size, 2, none⟩ = false := ⟨row_cells r1 0, row_cells r1 1, row_cells r1 2, frz_row r1 0, frz_row r1 1, frz_row r1 2⟩
      have hz := heap_lt r1
      have HB1 := Lib.hid (HB.out.trans (b1.mono HB.out.size))
      clear b1
      have r3 := set3 r1 (.bool false) (.int .i64 n) (.string ⟨#[]⟩)
      have HB3 := Lib.hid (set3B HB1.out (Nat.le_refl _) (.bool false) (.int .i64 n) (.string ⟨#[]⟩))
      obtain ⟨x0, x1, x2⟩ : (((w1.setCell ⟨w.heap.size, 0, none⟩ (.bool false)).setCell ⟨w.heap.size, 1, none⟩ (.int .i64 n)).setCell ⟨w.heap.size, 2, none⟩ (.string ⟨#[]⟩)).cell? ⟨w.heap.size, 0, none⟩ = some (.bool false) ∧ (((w1.setCell ⟨w.heap.size, 0, none⟩ (.bool false)).setCell ⟨w.heap.size, 1, none⟩ (.int .i64 n)).setCell ⟨w.heap.size, 2, none⟩ (.string ⟨#[]⟩)).cell? ⟨w.heap.size, 1, none⟩ = some (.int .i64 n) ∧ (((w1.setCell ⟨w.heap.size, 0, none⟩ (.bool false)).setCell ⟨w.heap.size, 1, none⟩ (.int .i64 n)).setCell ⟨w.heap.size, 2, none⟩ (.string ⟨#[]⟩)).cell? ⟨w.heap.size, 2, none⟩ = some (.string ⟨#[]⟩) := ⟨row_cells r3 0, row_cells r3 1, row_cells r3 2⟩
      clear r3
      go_wp2
      refine bodyPost_ret (v := .tuple #[.agg #[.bool false, .int .i64 n, .string ⟨#[]⟩], .int .i64 0]) (by simp [results, Tryz.results64, go_sem, x0, x1, x2]) rfl ?_
      exact ⟨by first | (rw [Hq.out]; rfl) | rw [Hq.out], HB3.out⟩
  · have hk' : (k == 1) = false := by simpa using hk
    have Hbe : Hid (badE k = 96) := Lib.hid (by unfold badE; rw [if_neg hk])
    cases hn : unqL t.data.toList with
    | none =>
      have Hq : Hid (valV k (valQ k t.data.toList) = .tuple #[.agg #[.bool false, .int .i64 0, .string ⟨#[]⟩], .int .i64 96]) := Lib.hid (by unfold valQ; rw [if_neg hk, hn]; show Value.tuple #[_, .int .i64 (badE k)] = _; rw [Hbe.out])
      rw [hn] at HU
      clear hn
      go_enter Tryz.func64, Tryz.ntmps64
      go_wp2_with fail
      (try rw [hW])
      refine HU.out.mono ?_
      rintro e w1 ⟨rfl, b1⟩
      simp only [unqV]
      have r1 := HF.out w1 b1
      obtain ⟨c0, c1, c2, f0, f1, f2⟩ : w1.cell? ⟨w.heap.size, 0, none⟩ = some (.bool false) ∧ w1.cell? ⟨w.heap.size, 1, none⟩ = some (.int .i64 0) ∧ w1.cell? ⟨w.heap.size, 2, none⟩ = some (.string ⟨#[]⟩) ∧ w1.frozen? ⟨w.heap.size, 0, none⟩ = false ∧ w1.frozen? ⟨w.heap.size, 1, none⟩ = false ∧ w1.frozen? ⟨w.heap.size, 2, none⟩ = false := ⟨row_cells r1 0, row_cells r1 1, row_cells r1 2, frz_row r1 0, frz_row r1 1, frz_row r1 2⟩
      have hz := heap_lt r1
      have HB1 := Lib.hid (HB.out.trans (b1.mono HB.out.size))
      clear b1
      have r3 := set3 r1 (.bool false) (.int .i64 0) (.string ⟨#[]⟩)
      have HB3 := Lib.hid (set3B HB1.out (Nat.le_refl _) (.bool false) (.int .i64 0) (.string ⟨#[]⟩))
      obtain ⟨x0, x1, x2⟩ : (((w1.setCell ⟨w.heap.size, 0, none⟩ (.bool false)).setCell ⟨w.heap.size, 1, none⟩ (.int .i64 0)).setCell ⟨w.heap.size, 2, none⟩ (.string ⟨#[]⟩)).cell? ⟨w.heap.size, 0, none⟩ = some (.bool false) ∧ (((w1.setCell ⟨w.heap.size, 0, none⟩ (.bool false)).setCell ⟨w.heap.size, 1, none⟩ (.int .i64 0)).setCell ⟨w.heap.size, 2, none⟩ (.string ⟨#[]⟩)).cell? ⟨w.heap.size, 1, none⟩ = some (.int .i64 0) ∧ (((w1.setCell ⟨w.heap.size, 0, none⟩ (.bool false)).setCell ⟨w.heap.size, 1, none⟩ (.int .i64 0)).setCell ⟨w.heap.size, 2, none⟩ (.string ⟨#[]⟩)).cell? ⟨w.heap.size, 2, none⟩ = some (.string ⟨#[]⟩) := ⟨row_cells r3 0, row_cells r3 1, row_cells r3 2⟩
      clear r3
      go_wp2
      refine bodyPost_ret (v := .tuple #[.agg #[.bool false, .int .i64 0, .string ⟨#[]⟩], .int .i64 96]) (by simp [results, Tryz.results64, go_sem, x0, x1, x2]) rfl ?_
      exact ⟨by first | (rw [Hq.out]; rfl) | rw [Hq.out], HB3.out⟩
    | some l =>
      have Hq : Hid (valQ k t.data.toList = some ⟨true, 0, ⟨l.toArray⟩⟩) := Lib.hid (by unfold valQ; rw [if_neg hk, hn]; rfl)
      rw [hn] at HU
      clear hn
      go_enter Tryz.func64, Tryz.ntmps64
      go_wp2_with fail
      (try rw [hW])
      refine HU.out.mono ?_
      rintro e w1 ⟨rfl, b1⟩
      simp only [unqV]
      have r1 := HF.out w1 b1
      obtain ⟨c0, c1, c2, f0, f1, f2⟩ : w1.cell? ⟨w.heap.size, 0, none⟩ = some (.bool false) ∧ w1.cell? ⟨w.heap.size, 1, none⟩ = some (.int .i64 0) ∧ w1.cell? ⟨w.heap.size, 2, none⟩ = some (.string ⟨#[]⟩) ∧ w1.frozen? ⟨w.heap.size, 0, none⟩ = false ∧ w1.frozen? ⟨w.heap.size, 1, none⟩ = false ∧ w1.frozen? ⟨w.heap.size, 2, none⟩ = false := ⟨row_cells r1 0, row_cells r1 1, row_cells r1 2, frz_row r1 0, frz_row r1 1, frz_row r1 2⟩
      have hz := heap_lt r1
      have HB1 := Lib.hid (HB.out.trans (b1.mono HB.out.size))
      clear b1
      have r3 := set3 r1 (.bool true) (.int .i64 0) (.string ⟨l.toArray⟩)
      have HB3 := Lib.hid (set3B HB1.out (Nat.le_refl _) (.bool true) (.int .i64 0) (.string ⟨l.toArray⟩))
      obtain ⟨x0, x1, x2⟩ : (((w1.setCell ⟨w.heap.size, 0, none⟩ (.bool true)).setCell ⟨w.heap.size, 1, none⟩ (.int .i64 0)).setCell ⟨w.heap.size, 2, none⟩ (.string ⟨l.toArray⟩)).cell? ⟨w.heap.size, 0, none⟩ = some (.bool true) ∧ (((w1.setCell ⟨w.heap.size, 0, none⟩ (.bool true)).setCell ⟨w.heap.size, 1, none⟩ (.int .i64 0)).setCell ⟨w.heap.size, 2, none⟩ (.string ⟨l.toArray⟩)).cell? ⟨w.heap.size, 1, none⟩ = some (.int .i64 0) ∧ (((w1.setCell ⟨w.heap.size, 0, none⟩ (.bool true)).setCell ⟨w.heap.size, 1, none⟩ (.int .i64 0)).setCell ⟨w.heap.size, 2, none⟩ (.string ⟨l.toArray⟩)).cell? ⟨w.heap.size, 2, none⟩ = some (.string ⟨l.toArray⟩) := ⟨row_cells r3 0, row_cells r3 1, row_cells r3 2⟩
      clear r3
      go_wp2
      refine bodyPost_ret (v := .tuple #[.agg #[.bool true, .int .i64 0, .string ⟨l.toArray⟩], .int .i64 0]) (by simp [results, Tryz.results64, go_sem, x0, x1, x2]) rfl ?_
      exact ⟨by first | (rw [Hq.out]; rfl) | rw [Hq.out], HB3.out⟩
end Go.Proofs.YthhepmddcncjoaaGreatDoor
namespace Go.Proofs.YthhepmddcncjoaaGreatDoor
open Go.RowKit

inductive OneR (n0 : Nat) (w : World) : Sum Int (Nat × Rw) → Ending → World → Prop
  | bad {e : Int} {W : World} : Below n0 w W → OneR n0 w (.inl e) (.returned (.tuple #[.int .i64 0, .slice none 0 0, .int .i64 e])) W
  | good {k : Nat} {r : Rw} {v : Value} {xs : List Value} {W : World} : Below n0 w W → W.ownsRow n0 51 3 v r.length xs → Laid 3 VlC r xs → OneR n0 w (.inr (k, r)) (.returned (.tuple #[.int .i64 (k : Int), v, .int .i64 0])) W
theorem laid_strs {l : List ByteArray} (h : ∀ x ∈ l, x.size ≤ maxLen) : Laid 1 StrC l (l.map Value.string) := by
  refine ⟨by simp, fun i x hx => ⟨[.string x], rfl, ⟨rfl, h x (List.mem_of_getElem? hx)⟩, fun j c hj => ?_⟩⟩
  have hj0 : j = 0 := by have := (List.getElem?_eq_some_iff.1 hj).1; simp at this; omega
  subst hj0
  simp only [List.getElem?_cons_zero, Option.some.injEq] at hj
  subst hj
  rw [Nat.mul_one, Nat.add_zero, List.getElem?_map, hx]; rfl
def slotsO : List (Option Tmp) := [some 59, some 60, some 61, some 62, some 63, some 64, some 65, some 66, some 67, some 68, some 69, some 70, some 71, some 72, some 73, some 58, some 74, some 75, some 12, none, some 13]
def depsO : List (Nat × Nat) := [(2, 1), (3, 0), (3, 2), (4, 3), (6, 5), (8, 6), (8, 7), (9, 8), (10, 9), (12, 10), (12, 11), (13, 12), (14, 4), (14, 13), (15, 14), (16, 15), (17, 15), (19, 18), (19, 16), (20, 17)]
def factsO (aS aD aT : Addr) (n c N k0 m v1 n0 j k : Nat) (z er : Int) (tc : ByteArray) (y : Vl) (tv : Value) : List (Value → Prop) :=
  [fun u => u = .slice (some aS) n c, fun u => u = .int .i64 (j : Int), fun u => u = .int .i64 ((j : Int) + 1), fun u => u = .pointer (some ⟨aS.block, aS.off + (j + 1), none⟩), fun u => u = .string tc, fun u => u = .pointer (some ⟨n0, 0, none⟩), fun u => u = .slice (some aD) N k0, fun u => u = .int .i64 (k : Int), fun u => u = .pointer (some (aD.add (k * 6))), fun u => u = .pointer (some ⟨(aD.add (k * 6)).block, (aD.add (k * 6)).off + 2, none⟩), fun u => u = .slice (some aT) m v1, fun u => u = .int .i64 (j : Int), fun u => u = .pointer (some (aT.add j)), fun u => u = .int .i64 z, fun u => u = tv, fun u => u = tv, fun u => u = .agg #[.bool y.sym, .int .i64 y.n, .string y.s], fun u => u = .int .i64 er, fun _ => True, fun _ => True, fun u => u = .int .i64 er]
set_option maxRecDepth 100000 in
set_option maxHeartbeats 8000000 in
theorem rone_c (p : Pg) (s : ByteArray) (w : World) (cs : List Value) (hc : PgC w w.heap.size p cs) (hs : s.size ≤ 5000) :
    Calls Tryz.prog 32 #[.agg cs.toArray, .string s] w (OneR w.heap.size w (oneQ p.decls s.data.toList)) := by
  obtain ⟨o0, k0, o1, k1, rfl, hd, _⟩ := hc.look
  have HD := Lib.hid hd
  have HF := Lib.hid (fun (x : ByteArray) (W : World) (hb : Below w.heap.size w W) => find5_c x p.decls (.slice o0 p.decls.length k0) W (SlOf.decl hd hb hb.size))
  have HS := Lib.hid hs
  have HB0 : Hid (∀ (x : Obj), Below w.heap.size w (w.alloc x)) := Lib.hid fun x => alB w x
  clear hd hs
  have hr0 := rowNew w 25 [.slice o0 p.decls.length k0, .slice o1 p.rules.length k1]
  obtain ⟨W0, hW0⟩ : ∃ W0, w.alloc (.cells #[.slice o0 p.decls.length k0, .slice o1 p.rules.length k1] 25) = W0 := ⟨_, rfl⟩
  have hr1 : W0.heap[w.heap.size]? = some (.cells #[.slice o0 p.decls.length k0, .slice o1 p.rules.length k1] 25 (0, 0)) := by rw [← hW0]; exact hr0
  have hb0 : Below w.heap.size w W0 := by rw [← hW0]; exact alB _ _
  have HR0 := Lib.hid hr1
  have HC := Lib.hid (rcut_c s 9 W0 (by have := HS.out; omega))
  have HB1 := Lib.hid hb0
  clear hr0 hr1 hb0
  go_enter Tryz.func32, Tryz.ntmps32
  go_wp2_with fail
  (try rw [hW0])
  refine HC.out.mono ?_
  rintro e w1 ⟨v, ls, rfl, hls, hown, b1⟩
  have hsz0 := heap_lt HR0.out
  have HLs := Lib.hid hls
  have B1 := Lib.hid (HB1.out.trans (b1.mono HB1.out.size))
  have r1 := (b1.block _ hsz0).trans HR0.out
  have hz1 := heap_lt r1
  have hlsz : ∀ x ∈ ls, x.size ≤ 5000 := fun x hx => by
    have h1 := cutB_size 9 s.data.toList x.data.toList (by rw [← hls]; exact List.mem_map_of_mem hx)
    have h2 : x.data.toList.length = x.size := by simp
    have h3 : s.data.toList.length = s.size := by simp
    have := HS.out
    omega
  have HLz := Lib.hid hlsz
  have HCl : Hid (ls.length ≤ 5001) := Lib.hid (by
    have h1 := congrArg List.length hls
    rw [List.length_map, cutB_len] at h1
    have h2 : s.data.toList.count 9 ≤ s.data.toList.length := List.count_le_length
    have h3 : s.data.toList.length = s.size := by simp
    have := HS.out
    omega)
  have hS := sl_own0 hown (laid_strs fun x hx => by have := hlsz x hx; unfold maxLen; omega)
  obtain ⟨l0, lt, hlc⟩ : ∃ l0 lt, ls = l0 :: lt := by
    cases ls with
    | nil => exact absurd hls.symm (cutB_ne _ _)
    | cons x r => exact ⟨x, r, rfl⟩
  subst hlc
  obtain ⟨a, cq, rfl, hac, hcm, SS⟩ := SlOf.open hS
  obtain ⟨aS, rfl, haS, _, cS⟩ := str_at SS (Below.refl _ w1) (k := 0) rfl
  have c0 : w1.cell? ⟨w.heap.size, 0, none⟩ = some (.slice o0 p.decls.length k0) := row_cells r1 0
  have cS0 : w1.cell? aS = some (.string l0) := cS
  have hgr : ∀ W', Below w1.heap.size w1.drew W' → W'.cell? ⟨w.heap.size, 0, none⟩ = some (.slice o0 p.decls.length k0) ∧ W'.cell? aS = some (.string l0) ∧ Below w1.heap.size w1.drew W' := fun W' h =>
    ⟨(h.cell (p := ⟨w.heap.size, 0, none⟩) hz1).trans c0, (h.cell haS).trans cS0, h⟩
  have hS0 := hgr w1.drew (Below.refl _ _)
  have HK := Lib.hid hgr
  have HF2 : Hid (∀ W', Below w1.heap.size w1.drew W' → Calls Tryz.prog 63 #[.slice o0 p.decls.length k0, .string l0] W' fun e w' => e = .returned (findV (findY l0 p.decls)) ∧ Below W'.heap.size W' w') := Lib.hid fun W' h => HF.out l0 W' (B1.out.trans ((drewB h).mono B1.out.size))
  have HQ : Hid (headQ s.data.toList = l0) := Lib.hid (by
    unfold headQ
    rw [← hls]; rfl)
  have HTl : Hid ((cutB 9 s.data.toList).tail = lt.map fun x => x.data.toList) := Lib.hid (by rw [← hls]; rfl)
  clear b1 hls hlsz hown hS r1 cS c0 cS0 hgr
  cases hf : findY l0 p.decls with
  | none =>
    have HO : Hid (oneQ p.decls s.data.toList = .inl 93) := Lib.hid (by unfold oneQ; rw [HQ.out, hf])
    rw [hf] at HF2
    simp only [findV] at HF2
    clear hf
    go_wp2_with fail
    go_region_held3 (fun w' => w'.cell? ⟨w.heap.size, 0, none⟩ = some (.slice o0 p.decls.length k0) ∧ w'.cell? aS = some (.string l0) ∧ Below w1.heap.size w1.drew w') (first | exact hk1 | exact hS0)
      (first | (go_at_call 63; refine (HF2.out _ hS0.2.2).mono ?_; rintro e1 w2 ⟨rfl, b2⟩; have hk1 := HK.out _ (hS0.2.2.trans (b2.mono hS0.2.2.size))))
    all_goals
      have HB2 := Lib.hid (B1.out.trans ((drewB hk1.2.2).mono B1.out.size))
      clear hk1 hS0
      go_wp2
      go_ret3
      rw [HO.out]
      exact .bad HB2.out
  | some k =>
    have hkl := findY_lt hf
    obtain ⟨d, hdk⟩ : ∃ d, p.decls[k]? = some d := ⟨p.decls[k], List.getElem?_eq_getElem hkl⟩
    rw [hf] at HF2
    simp only [findV] at HF2
    obtain ⟨oD, capD, eD, hcD, hmD, SD⟩ := SlOf.open (SlOf.decl HD.out B1.out B1.out.size)
    cases eD
    obtain ⟨aD, u0, v0, u1, v1, rfl, haD, HDc, _, _, dT, dI, _, _⟩ := de_at SD (Below.refl _ w1) hdk
    have hty : tyOf p.decls k = d.types := by unfold tyOf; rw [hdk]; rfl
    have hin : inOf p.decls k = d.inn := by unfold inOf; rw [hdk]; rfl
    have HOk : Hid (oneQ p.decls s.data.toList = if d.inn = false then .inl 93 else if (lt.map fun x => x.data.toList).length ≠ d.types.length then .inl 94 else
        match valsQ d.types (lt.map fun x => x.data.toList) with
        | .inl e => .inl e
        | .inr r => .inr (k, r)) := Lib.hid (by
      unfold oneQ
      rw [HQ.out, hf]
      simp only [hty, hin, HTl.out]
      rfl)
    have hkl1 : (k : Int) < (p.decls.length : Int) := by omega
    have hk0 : (0 : Int) ≤ (k : Int) := by omega
    have hadl : (aD.add (k * 6)).block < w1.heap.size := by rw [addBlock]; exact haD
    have HG : Hid (∀ W', Below w1.heap.size w1.drew W' → W'.cell? ⟨w.heap.size, 0, none⟩ = some (.slice (some aD) p.decls.length k0) ∧ W'.cell? ⟨(aD.add (k * 6)).block, (aD.add (k * 6)).off + 2, none⟩ = some (.slice u1 d.types.length v1) ∧ W'.cell? ⟨(aD.add (k * 6)).block, (aD.add (k * 6)).off + 3, none⟩ = some (.bool d.inn)) := Lib.hid fun W' h =>
      ⟨(h.cell (p := ⟨w.heap.size, 0, none⟩) hz1).trans hS0.1, (h.cell (p := ⟨(aD.add (k * 6)).block, (aD.add (k * 6)).off + 2, none⟩) hadl).trans dT, (h.cell (p := ⟨(aD.add (k * 6)).block, (aD.add (k * 6)).off + 3, none⟩) hadl).trans dI⟩
    have hwr : wrap64 (lt.length : Int) = (lt.length : Int) := by rw [List.length_cons] at hac; unfold wrap64; omega
    have HT : Hid (SlOf w1 w1.heap.size 1 IntC d.types (.slice u1 d.types.length v1)) := Lib.hid (by
      obtain ⟨_, _, _, _, e, _, _, _, hT⟩ := HDc.out.look
      cases e
      exact hT)
    clear hf dT dI hdk hty hin
    cases hi : d.inn with
    | false =>
      have HO : Hid (oneQ p.decls s.data.toList = .inl 93) := Lib.hid (by rw [HOk.out, hi]; rfl)
      rw [hi] at HG
      go_wp2_with fail
      go_region_held3 (fun w' => w'.cell? ⟨w.heap.size, 0, none⟩ = some (.slice (some aD) p.decls.length k0) ∧ w'.cell? aS = some (.string l0) ∧ Below w1.heap.size w1.drew w') (first | exact hk1 | exact hS0)
        (first | (go_at_call 63; refine (HF2.out _ hS0.2.2).mono ?_; rintro e1 w2 ⟨rfl, b2⟩; have hk1 := HK.out _ (hS0.2.2.trans (b2.mono hS0.2.2.size))))
      all_goals
        have HB2 := Lib.hid (B1.out.trans ((drewB hk1.2.2).mono B1.out.size))
        obtain ⟨g0, g1, g2⟩ := HG.out _ hk1.2.2
        clear hk1 hS0
        go_wp2
        go_ret3
        rw [HO.out]
        exact .bad HB2.out
    | true =>
      rw [hi] at HG
      by_cases hl : lt.length = d.types.length
      case neg =>
        have HO : Hid (oneQ p.decls s.data.toList = .inl 94) := Lib.hid (by
          rw [HOk.out, hi, if_neg (by decide), List.length_map, if_pos hl])
        have hne : ((lt.length : Int) != (d.types.length : Int)) = true := by simp; omega
        clear hl
        go_wp2_with fail
        go_region_held3 (fun w' => w'.cell? ⟨w.heap.size, 0, none⟩ = some (.slice (some aD) p.decls.length k0) ∧ w'.cell? aS = some (.string l0) ∧ Below w1.heap.size w1.drew w') (first | exact hk1 | exact hS0)
          (first | (go_at_call 63; refine (HF2.out _ hS0.2.2).mono ?_; rintro e1 w2 ⟨rfl, b2⟩; have hk1 := HK.out _ (hS0.2.2.trans (b2.mono hS0.2.2.size))))
        all_goals
          have HB2 := Lib.hid (B1.out.trans ((drewB hk1.2.2).mono B1.out.size))
          obtain ⟨g0, g1, g2⟩ := HG.out _ hk1.2.2
          clear hk1 hS0
          go_wp2
          go_ret3
          rw [HO.out]
          exact .bad HB2.out
      case pos =>
        have HOk2 : Hid (oneQ p.decls s.data.toList = match valsQ d.types (lt.map fun x => x.data.toList) with
          | .inl e => .inl e
          | .inr r => .inr (k, r)) := Lib.hid (by
          rw [HOk.out, hi, if_neg (by decide), List.length_map, if_neg (by omega)])
        have hne : ((lt.length : Int) != (d.types.length : Int)) = false := by simp; omega
        have Hl := Lib.hid hl
        clear hl
        go_wp2_with fail
        go_region_held3 (fun w' => w'.cell? ⟨w.heap.size, 0, none⟩ = some (.slice (some aD) p.decls.length k0) ∧ w'.cell? aS = some (.string l0) ∧ Below w1.heap.size w1.drew w') (first | exact hk1 | exact hS0)
          (first | (go_at_call 63; refine (HF2.out _ hS0.2.2).mono ?_; rintro e1 w2 ⟨rfl, b2⟩; have hk1 := HK.out _ (hS0.2.2.trans (b2.mono hS0.2.2.size))))
        all_goals
          obtain ⟨g0, g1, g2⟩ := HG.out _ hk1.2.2
          have HB2 := Lib.hid hk1.2.2
          clear hk1 hS0
          go_wp2
          clear g0 g1 g2 hwr
          go_loopw [10, 11] (fun r i wr => ∃ (c : Nat) (vals : Rw) (xs : List Value), c ≤ d.types.length ∧ i = .int .i64 (c : Int) ∧ wr.ownsRow w1.heap.size 51 3 r c xs ∧ Laid 3 VlC vals xs ∧ vals.length = c ∧ Below w1.heap.size w1.drew wr ∧ Hid (valsQ d.types (lt.map fun t => t.data.toList) = consQ vals (valsQ (d.types.drop c) ((lt.map fun t => t.data.toList).drop c)))) (fun _ i _ => d.types.length - (intOf i).toNat)
          case atStart => exact ⟨0, [], [], Nat.zero_le _, rfl, World.ownsRow_nil _ _ _ _, Laid.nil, rfl, HB2.out, Lib.hid (by rw [List.drop_zero, List.drop_zero]; cases valsQ d.types (lt.map fun t => t.data.toList) <;> rfl)⟩
          case round =>
            obtain ⟨c, vals, xs, hc, rfl, hown, hlaid, hvl, hB, HQ'⟩ := hrel
            obtain ⟨g0, g1, g2⟩ := HG.out _ hB
            by_cases hlt : c < d.types.length
            · have hlt' : (c : Int) < (d.types.length : Int) := by omega
              obtain ⟨z, hz⟩ : ∃ z, d.types[c]? = some z := ⟨d.types[c], List.getElem?_eq_getElem hlt⟩
              obtain ⟨tc, htc⟩ : ∃ tc, lt[c]? = some tc := ⟨lt[c]'(by have := Hl.out; omega), List.getElem?_eq_getElem _⟩
              obtain ⟨o2, q2, e2', _, _, ST⟩ := SlOf.open HT.out
              cases e2'
              obtain ⟨aT, rfl, haT, _, cT⟩ := int_at ST (Below.refl _ w1) hz
              obtain ⟨aS', eS, haS', _, cS⟩ := str_at SS (Below.refl _ w1) (k := c + 1) (by simpa using htc)
              cases eS
              have Hstep := Lib.hid (valsQ_drop hz (show (lt.map fun t => t.data.toList)[c]? = some tc.data.toList by rw [List.getElem?_map, htc]; rfl))
              have htm : tc.size ≤ 5000 := HLz.out tc (List.mem_cons_of_mem _ (List.mem_of_getElem? htc))
              obtain ⟨tv, htv⟩ : ∃ tv, valV z (valQ z tc.data.toList) = tv := ⟨_, rfl⟩
              have hcb : c ≤ 5000 := by have h1 := HCl.out; rw [List.length_cons] at h1; have h2 := Hl.out; omega
              have hcl1 : (c : Int) + 1 < ((l0 :: lt).length : Int) := by rw [List.length_cons]; have := Hl.out; omega
              have hcl2 : (c : Int) < (lt.length : Int) := by have := Hl.out; omega
              have hc1 : (0 : Int) ≤ (c : Int) + 1 := by omega
              have hc0 : (0 : Int) ≤ (c : Int) := by omega
              have hwr1 : Below w1.heap.size w1 wr := drewB hB
              have hws := hwr1.size
              have haddS : aS.add (c + 1) = ⟨aS.block, aS.off + (c + 1), none⟩ := by unfold Addr.add; split <;> simp_all
              have hcS1 : aS.block < wr.drew.heap.size := by show aS.block < wr.heap.size; omega
              have hcS2 : wr.drew.cell? ⟨aS.block, aS.off + (c + 1), none⟩ = some (.string tc) := by rw [← haddS]; exact (hwr1.cell (p := aS.add (c + 1)) (by rw [addBlock]; exact haS)).trans cS
              have hcP1 : w.heap.size < wr.drew.heap.size := by show w.heap.size < wr.heap.size; omega
              have hcP2 : wr.drew.cell? ⟨w.heap.size, 0, none⟩ = some (.slice (some aD) p.decls.length k0) := g0
              have hcD1 : (aD.add (k * 6)).block < wr.drew.heap.size := by show _ < wr.heap.size; omega
              have hcD2 : wr.drew.cell? ⟨(aD.add (k * 6)).block, (aD.add (k * 6)).off + 2, none⟩ = some (.slice (some aT) d.types.length v1) := g1
              have hcT1 : (aT.add c).block < wr.drew.heap.size := by rw [addBlock]; show aT.block < wr.heap.size; omega
              have hcT2 : wr.drew.cell? (aT.add c) = some (.int .i64 z) := (hwr1.cell (p := aT.add c) (by rw [addBlock]; exact haT)).trans cT
              have HV := Lib.hid (fun (W : World) => rvalue_c tc z W htm)
              rw [htv] at HV
              obtain ⟨y, er, htv, hy⟩ : ∃ (y : Vl) (er : Int), tv = .tuple #[.agg #[.bool y.sym, .int .i64 y.n, .string y.s], .int .i64 er] ∧ ((er = 0 ∧ valQ z tc.data.toList = some y) ∨ ((er = 95 ∨ er = 96) ∧ er = badE z ∧ valQ z tc.data.toList = none)) := by
                rw [← htv]
                cases hq : valQ z tc.data.toList with
                | some x => exact ⟨x, 0, rfl, .inl ⟨rfl, rfl⟩⟩
                | none => exact ⟨⟨false, 0, ⟨#[]⟩⟩, badE z, rfl, .inr ⟨by unfold badE; split <;> simp, rfl, rfl⟩⟩
              have HY := Lib.hid hy
              clear hy hz htc cT cS
              have hwc : IntKind.i64.wrap ((c : Int) + 1) = (c : Int) + 1 := by rw [IntKind.wrap_i64]; omega
              have hwc2 : wrap64 ((c : Int) + 1) = (c : Int) + 1 := by unfold wrap64; omega
              go_wp2_with fail
              refine wp_region_any (by kernel_rfl) ?_
              (try (change wpAny _ _ _ _ _ _ _ (World.drew _)))
              refine wpAny_say slotsO _ _ (FD 18 19 depsO (factsO aS aD aT (l0 :: lt).length cq p.decls.length k0 d.types.length v1 w.heap.size c k z er tc y tv) wr.drew 51 #[.bool false, .int .i64 0, .string ⟨#[]⟩] #[.bool y.sym, .int .i64 y.n, .string y.s]) (by kernel_rfl) (by kernel_rfl) (by kernel_rfl) (by kernel_rfl) (by kernel_rfl) ⟨?O0, ?O1, ?O2, ?O3, ?O4, ?O5, ?O6, ?O7, ?O8, ?O9, ?O10, ?O11, ?O12, ?O13, ?O14, ?O15, ?O16, ?O17, ?O18, ?O19, ?O20, trivial⟩ FD.start ?Ofin
              case O0 =>
               intro l' val A' w' K hl hn' hd hF hfar hdep hK
               have e : A'.tmps[7]?.getD undef = .slice (some aS) (l0 :: lt).length cq := hfar 7 (by decide)
               unfold Oper.wp
               simp [execOp, e, go_sem, Result.andThen]
               exact hK _ _ (hF.read (by rw [hl]; decide) (fun q hq h => by simp only [depsO, List.mem_cons, List.not_mem_nil, or_false] at hq; rcases hq with rfl | rfl | rfl | rfl | rfl | rfl | rfl | rfl | rfl | rfl | rfl | rfl | rfl | rfl | rfl | rfl | rfl | rfl | rfl | rfl <;> simp at h <;> exact hd _ (by kernel_rfl)) (fun p hp => by cases hp; rfl) (by decide) (by decide))
              case O1 =>
               intro l' val A' w' K hl hn' hd hF hfar hdep hK
               have e : A'.tmps[11]?.getD undef = .int .i64 (c : Int) := hfar 11 (by decide)
               unfold Oper.wp
               simp [execOp, e, go_sem, Result.andThen]
               exact hK _ _ (hF.read (by rw [hl]; decide) (fun q hq h => by simp only [depsO, List.mem_cons, List.not_mem_nil, or_false] at hq; rcases hq with rfl | rfl | rfl | rfl | rfl | rfl | rfl | rfl | rfl | rfl | rfl | rfl | rfl | rfl | rfl | rfl | rfl | rfl | rfl | rfl <;> simp at h <;> exact hd _ (by kernel_rfl)) (fun p hp => by cases hp; rfl) (by decide) (by decide))
              case O2 =>
               intro l' val A' w' K hl hn' hd hF hfar hdep hK
               have e1 : A'.tmps[60]?.getD undef = .int .i64 (c : Int) := (hdep 1 60 rfl (by kernel_rfl)).trans (hF.rd 1 _ (hd 1 (by kernel_rfl)) rfl)
               unfold Oper.wp
               simp [execOp, e1, hwc, hwc2, go_sem, Result.andThen]
               exact hK _ _ (hF.read (by rw [hl]; decide) (fun q hq h => by simp only [depsO, List.mem_cons, List.not_mem_nil, or_false] at hq; rcases hq with rfl | rfl | rfl | rfl | rfl | rfl | rfl | rfl | rfl | rfl | rfl | rfl | rfl | rfl | rfl | rfl | rfl | rfl | rfl | rfl <;> simp at h <;> exact hd _ (by kernel_rfl)) (fun p hp => by cases hp; rfl) (by decide) (by decide))
              case O3 =>
               intro l' val A' w' K hl hn' hd hF hfar hdep hK
               have e0 : A'.tmps[59]?.getD undef = .slice (some aS) (l0 :: lt).length cq := (hdep 0 59 rfl (by kernel_rfl)).trans (hF.rd 0 _ (hd 0 (by kernel_rfl)) rfl)
               have e2 : A'.tmps[61]?.getD undef = .int .i64 ((c : Int) + 1) := (hdep 2 61 rfl (by kernel_rfl)).trans (hF.rd 2 _ (hd 2 (by kernel_rfl)) rfl)
               unfold Oper.wp
               simp [execOp, e0, e2, hwc, hwc2, hcl2, hcl1, hc1, go_sem, Result.andThen]
               exact hK _ _ (hF.read (by rw [hl]; decide) (fun q hq h => by simp only [depsO, List.mem_cons, List.not_mem_nil, or_false] at hq; rcases hq with rfl | rfl | rfl | rfl | rfl | rfl | rfl | rfl | rfl | rfl | rfl | rfl | rfl | rfl | rfl | rfl | rfl | rfl | rfl | rfl <;> simp at h <;> exact hd _ (by kernel_rfl)) (fun p hp => by cases hp; rfl) (by decide) (by decide))
              case O4 =>
               intro l' val A' w' K hl hn' hd hF hfar hdep hK
               have e3 : A'.tmps[62]?.getD undef = .pointer (some ⟨aS.block, aS.off + (c + 1), none⟩) := (hdep 3 62 rfl (by kernel_rfl)).trans (hF.rd 3 _ (hd 3 (by kernel_rfl)) rfl)
               have c0 := (hF.bl.cell (p := ⟨aS.block, aS.off + (c + 1), none⟩) hcS1).trans hcS2
               unfold Oper.wp
               simp [execOp, e3, c0, go_sem, Result.andThen]
               exact hK _ _ (hF.read (by rw [hl]; decide) (fun q hq h => by simp only [depsO, List.mem_cons, List.not_mem_nil, or_false] at hq; rcases hq with rfl | rfl | rfl | rfl | rfl | rfl | rfl | rfl | rfl | rfl | rfl | rfl | rfl | rfl | rfl | rfl | rfl | rfl | rfl | rfl <;> simp at h <;> exact hd _ (by kernel_rfl)) (fun p hp => by cases hp; rfl) (by decide) (by decide))
              case O5 =>
               intro l' val A' w' K hl hn' hd hF hfar hdep hK
               have e : A'.tmps[2]?.getD undef = .pointer (some ⟨w.heap.size, 0, none⟩) := hfar 2 (by decide)
               unfold Oper.wp
               simp [execOp, e, go_sem, Result.andThen]
               exact hK _ _ (hF.read (by rw [hl]; decide) (fun q hq h => by simp only [depsO, List.mem_cons, List.not_mem_nil, or_false] at hq; rcases hq with rfl | rfl | rfl | rfl | rfl | rfl | rfl | rfl | rfl | rfl | rfl | rfl | rfl | rfl | rfl | rfl | rfl | rfl | rfl | rfl <;> simp at h <;> exact hd _ (by kernel_rfl)) (fun p hp => by cases hp; rfl) (by decide) (by decide))
              case O6 =>
               intro l' val A' w' K hl hn' hd hF hfar hdep hK
               have e5 : A'.tmps[64]?.getD undef = .pointer (some ⟨w.heap.size, 0, none⟩) := (hdep 5 64 rfl (by kernel_rfl)).trans (hF.rd 5 _ (hd 5 (by kernel_rfl)) rfl)
               have c0 := (hF.bl.cell (p := ⟨w.heap.size, 0, none⟩) hcP1).trans hcP2
               unfold Oper.wp
               simp [execOp, e5, c0, go_sem, Result.andThen]
               exact hK _ _ (hF.read (by rw [hl]; decide) (fun q hq h => by simp only [depsO, List.mem_cons, List.not_mem_nil, or_false] at hq; rcases hq with rfl | rfl | rfl | rfl | rfl | rfl | rfl | rfl | rfl | rfl | rfl | rfl | rfl | rfl | rfl | rfl | rfl | rfl | rfl | rfl <;> simp at h <;> exact hd _ (by kernel_rfl)) (fun p hp => by cases hp; rfl) (by decide) (by decide))
              case O7 =>
               intro l' val A' w' K hl hn' hd hF hfar hdep hK
               have e : A'.tmps[8]?.getD undef = .int .i64 (k : Int) := hfar 8 (by decide)
               unfold Oper.wp
               simp [execOp, e, go_sem, Result.andThen]
               exact hK _ _ (hF.read (by rw [hl]; decide) (fun q hq h => by simp only [depsO, List.mem_cons, List.not_mem_nil, or_false] at hq; rcases hq with rfl | rfl | rfl | rfl | rfl | rfl | rfl | rfl | rfl | rfl | rfl | rfl | rfl | rfl | rfl | rfl | rfl | rfl | rfl | rfl <;> simp at h <;> exact hd _ (by kernel_rfl)) (fun p hp => by cases hp; rfl) (by decide) (by decide))
              case O8 =>
               intro l' val A' w' K hl hn' hd hF hfar hdep hK
               have e6 : A'.tmps[65]?.getD undef = .slice (some aD) p.decls.length k0 := (hdep 6 65 rfl (by kernel_rfl)).trans (hF.rd 6 _ (hd 6 (by kernel_rfl)) rfl)
               have e7 : A'.tmps[66]?.getD undef = .int .i64 (k : Int) := (hdep 7 66 rfl (by kernel_rfl)).trans (hF.rd 7 _ (hd 7 (by kernel_rfl)) rfl)
               unfold Oper.wp
               simp [execOp, e6, e7, hk0, hkl1, go_sem, Result.andThen]
               exact hK _ _ (hF.read (by rw [hl]; decide) (fun q hq h => by simp only [depsO, List.mem_cons, List.not_mem_nil, or_false] at hq; rcases hq with rfl | rfl | rfl | rfl | rfl | rfl | rfl | rfl | rfl | rfl | rfl | rfl | rfl | rfl | rfl | rfl | rfl | rfl | rfl | rfl <;> simp at h <;> exact hd _ (by kernel_rfl)) (fun p hp => by cases hp; rfl) (by decide) (by decide))
              case O9 =>
               intro l' val A' w' K hl hn' hd hF hfar hdep hK
               have e8 : A'.tmps[67]?.getD undef = .pointer (some (aD.add (k * 6))) := (hdep 8 67 rfl (by kernel_rfl)).trans (hF.rd 8 _ (hd 8 (by kernel_rfl)) rfl)
               unfold Oper.wp
               simp [execOp, e8, go_sem, Result.andThen]
               exact hK _ _ (hF.read (by rw [hl]; decide) (fun q hq h => by simp only [depsO, List.mem_cons, List.not_mem_nil, or_false] at hq; rcases hq with rfl | rfl | rfl | rfl | rfl | rfl | rfl | rfl | rfl | rfl | rfl | rfl | rfl | rfl | rfl | rfl | rfl | rfl | rfl | rfl <;> simp at h <;> exact hd _ (by kernel_rfl)) (fun p hp => by cases hp; rfl) (by decide) (by decide))
              case O10 =>
               intro l' val A' w' K hl hn' hd hF hfar hdep hK
               have e9 : A'.tmps[68]?.getD undef = .pointer (some ⟨(aD.add (k * 6)).block, (aD.add (k * 6)).off + 2, none⟩) := (hdep 9 68 rfl (by kernel_rfl)).trans (hF.rd 9 _ (hd 9 (by kernel_rfl)) rfl)
               have c0 := (hF.bl.cell (p := ⟨(aD.add (k * 6)).block, (aD.add (k * 6)).off + 2, none⟩) hcD1).trans hcD2
               unfold Oper.wp
               simp [execOp, e9, c0, go_sem, Result.andThen]
               exact hK _ _ (hF.read (by rw [hl]; decide) (fun q hq h => by simp only [depsO, List.mem_cons, List.not_mem_nil, or_false] at hq; rcases hq with rfl | rfl | rfl | rfl | rfl | rfl | rfl | rfl | rfl | rfl | rfl | rfl | rfl | rfl | rfl | rfl | rfl | rfl | rfl | rfl <;> simp at h <;> exact hd _ (by kernel_rfl)) (fun p hp => by cases hp; rfl) (by decide) (by decide))
              case O11 =>
               intro l' val A' w' K hl hn' hd hF hfar hdep hK
               have e : A'.tmps[11]?.getD undef = .int .i64 (c : Int) := hfar 11 (by decide)
               unfold Oper.wp
               simp [execOp, e, go_sem, Result.andThen]
               exact hK _ _ (hF.read (by rw [hl]; decide) (fun q hq h => by simp only [depsO, List.mem_cons, List.not_mem_nil, or_false] at hq; rcases hq with rfl | rfl | rfl | rfl | rfl | rfl | rfl | rfl | rfl | rfl | rfl | rfl | rfl | rfl | rfl | rfl | rfl | rfl | rfl | rfl <;> simp at h <;> exact hd _ (by kernel_rfl)) (fun p hp => by cases hp; rfl) (by decide) (by decide))
              case O12 =>
               intro l' val A' w' K hl hn' hd hF hfar hdep hK
               have e10 : A'.tmps[69]?.getD undef = .slice (some aT) d.types.length v1 := (hdep 10 69 rfl (by kernel_rfl)).trans (hF.rd 10 _ (hd 10 (by kernel_rfl)) rfl)
               have e11 : A'.tmps[70]?.getD undef = .int .i64 (c : Int) := (hdep 11 70 rfl (by kernel_rfl)).trans (hF.rd 11 _ (hd 11 (by kernel_rfl)) rfl)
               unfold Oper.wp
               simp [execOp, e10, e11, hlt', hc0, go_sem, Result.andThen]
               exact hK _ _ (hF.read (by rw [hl]; decide) (fun q hq h => by simp only [depsO, List.mem_cons, List.not_mem_nil, or_false] at hq; rcases hq with rfl | rfl | rfl | rfl | rfl | rfl | rfl | rfl | rfl | rfl | rfl | rfl | rfl | rfl | rfl | rfl | rfl | rfl | rfl | rfl <;> simp at h <;> exact hd _ (by kernel_rfl)) (fun p hp => by cases hp; rfl) (by decide) (by decide))
              case O13 =>
               intro l' val A' w' K hl hn' hd hF hfar hdep hK
               have e12 : A'.tmps[71]?.getD undef = .pointer (some (aT.add c)) := (hdep 12 71 rfl (by kernel_rfl)).trans (hF.rd 12 _ (hd 12 (by kernel_rfl)) rfl)
               have c0 := (hF.bl.cell (p := aT.add c) hcT1).trans hcT2
               unfold Oper.wp
               simp [execOp, e12, c0, go_sem, Result.andThen]
               exact hK _ _ (hF.read (by rw [hl]; decide) (fun q hq h => by simp only [depsO, List.mem_cons, List.not_mem_nil, or_false] at hq; rcases hq with rfl | rfl | rfl | rfl | rfl | rfl | rfl | rfl | rfl | rfl | rfl | rfl | rfl | rfl | rfl | rfl | rfl | rfl | rfl | rfl <;> simp at h <;> exact hd _ (by kernel_rfl)) (fun p hp => by cases hp; rfl) (by decide) (by decide))
              case O14 =>
               intro l' val A' w' K hl hn' hd hF hfar hdep hK
               have e4 : A'.tmps[63]?.getD undef = .string tc := (hdep 4 63 rfl (by kernel_rfl)).trans (hF.rd 4 _ (hd 4 (by kernel_rfl)) rfl)
               have e13 : A'.tmps[72]?.getD undef = .int .i64 z := (hdep 13 72 rfl (by kernel_rfl)).trans (hF.rd 13 _ (hd 13 (by kernel_rfl)) rfl)
               unfold Oper.wp
               simp [execOp, e4, e13, go_sem, Result.andThen]
               refine (HV.out w').mono ?_
               rintro e5 w5 ⟨rfl, b5⟩
               exact hK _ _ (hF.called (by rw [hl]; decide) (fun q hq h => by simp only [depsO, List.mem_cons, List.not_mem_nil, or_false] at hq; rcases hq with rfl | rfl | rfl | rfl | rfl | rfl | rfl | rfl | rfl | rfl | rfl | rfl | rfl | rfl | rfl | rfl | rfl | rfl | rfl | rfl <;> simp at h <;> exact hd _ (by kernel_rfl)) (fun p hp => by cases hp; rfl) (by decide) (by decide) b5)
              case O15 =>
               intro l' val A' w' K hl hn' hd hF hfar hdep hK
               have e14 : A'.tmps[73]?.getD undef = tv := (hdep 14 73 rfl (by kernel_rfl)).trans (hF.rd 14 _ (hd 14 (by kernel_rfl)) rfl)
               unfold Oper.wp
               simp [execOp, e14, go_sem, Result.andThen]
               exact hK _ _ (hF.read (by rw [hl]; decide) (fun q hq h => by simp only [depsO, List.mem_cons, List.not_mem_nil, or_false] at hq; rcases hq with rfl | rfl | rfl | rfl | rfl | rfl | rfl | rfl | rfl | rfl | rfl | rfl | rfl | rfl | rfl | rfl | rfl | rfl | rfl | rfl <;> simp at h <;> exact hd _ (by kernel_rfl)) (fun p hp => by cases hp; rfl) (by decide) (by decide))
              case O16 =>
               intro l' val A' w' K hl hn' hd hF hfar hdep hK
               have e15 : A'.tmps[58]?.getD undef = tv := (hdep 15 58 rfl (by kernel_rfl)).trans (hF.rd 15 _ (hd 15 (by kernel_rfl)) rfl)
               subst htv
               unfold Oper.wp
               simp [execOp, e15, go_sem, Result.andThen]
               exact hK _ _ (hF.read (by rw [hl]; decide) (fun q hq h => by simp only [depsO, List.mem_cons, List.not_mem_nil, or_false] at hq; rcases hq with rfl | rfl | rfl | rfl | rfl | rfl | rfl | rfl | rfl | rfl | rfl | rfl | rfl | rfl | rfl | rfl | rfl | rfl | rfl | rfl <;> simp at h <;> exact hd _ (by kernel_rfl)) (fun p hp => by cases hp; rfl) (by decide) (by decide))
              case O17 =>
               intro l' val A' w' K hl hn' hd hF hfar hdep hK
               have e15 : A'.tmps[58]?.getD undef = tv := (hdep 15 58 rfl (by kernel_rfl)).trans (hF.rd 15 _ (hd 15 (by kernel_rfl)) rfl)
               subst htv
               unfold Oper.wp
               simp [execOp, e15, go_sem, Result.andThen]
               exact hK _ _ (hF.read (by rw [hl]; decide) (fun q hq h => by simp only [depsO, List.mem_cons, List.not_mem_nil, or_false] at hq; rcases hq with rfl | rfl | rfl | rfl | rfl | rfl | rfl | rfl | rfl | rfl | rfl | rfl | rfl | rfl | rfl | rfl | rfl | rfl | rfl | rfl <;> simp at h <;> exact hd _ (by kernel_rfl)) (fun p hp => by cases hp; rfl) (by decide) (by decide))
              case O18 =>
               intro l' val A' w' K hl hn' hd hF hfar hdep hK
               unfold Oper.wp
               simp [execOp, go_sem, Result.andThen]
               exact hK _ _ (hF.made (by rw [hl]; decide) hn' (fun q hq h => by simp only [depsO, List.mem_cons, List.not_mem_nil, or_false] at hq; rcases hq with rfl | rfl | rfl | rfl | rfl | rfl | rfl | rfl | rfl | rfl | rfl | rfl | rfl | rfl | rfl | rfl | rfl | rfl | rfl | rfl <;> simp at h <;> exact hd _ (by kernel_rfl)) (fun p hp => by cases hp; trivial) (by decide) (by decide) ((Below.refl _ _).alloc (Nat.le_refl _) _) rfl (World.alloc_heap_new w' _))
              case O19 =>
               intro l' val A' w' K hl hn' hd hF hfar hdep hK
               obtain ⟨bb, hvb, hB', hrb⟩ := hF.box (hd 18 (by kernel_rfl)) hn'
               have e18 : A'.tmps[12]?.getD undef = .pointer (some ⟨bb, 0, none⟩) := (hdep 18 12 rfl (by kernel_rfl)).trans hvb
               have e16 : A'.tmps[74]?.getD undef = .agg #[.bool y.sym, .int .i64 y.n, .string y.s] := (hdep 16 74 rfl (by kernel_rfl)).trans (hF.rd 16 _ (hd 16 (by kernel_rfl)) rfl)
               obtain ⟨c0, c1, c2, f0, f1, f2⟩ : w'.cell? ⟨bb, 0, none⟩ = some (.bool false) ∧ w'.cell? ⟨bb, 1, none⟩ = some (.int .i64 0) ∧ w'.cell? ⟨bb, 2, none⟩ = some (.string ⟨#[]⟩) ∧ w'.frozen? ⟨bb, 0, none⟩ = false ∧ w'.frozen? ⟨bb, 1, none⟩ = false ∧ w'.frozen? ⟨bb, 2, none⟩ = false := ⟨row_cells hrb 0, row_cells hrb 1, row_cells hrb 2, frz_row hrb 0, frz_row hrb 1, frz_row hrb 2⟩
               have hz := heap_lt hrb
               have r3 := set3 hrb (.bool y.sym) (.int .i64 y.n) (.string y.s)
               have hB3 := set3B hF.bl hB' (.bool y.sym) (.int .i64 y.n) (.string y.s)
               unfold Oper.wp
               simp [execOp, e18, e16, c0, c1, c2, f0, f1, f2, hz, go_sem, Result.andThen]
               exact hK undef _ (hF.stored (by rw [hl]; decide) (fun q hq h => by simp only [depsO, List.mem_cons, List.not_mem_nil, or_false] at hq; rcases hq with rfl | rfl | rfl | rfl | rfl | rfl | rfl | rfl | rfl | rfl | rfl | rfl | rfl | rfl | rfl | rfl | rfl | rfl | rfl | rfl <;> simp at h <;> exact hd _ (by kernel_rfl)) (fun p hp => by cases hp; trivial) (by decide) (by decide) hvb hB' hB3 r3)
              case O20 =>
               intro l' val A' w' K hl hn' hd hF hfar hdep hK
               have e17 : A'.tmps[75]?.getD undef = .int .i64 er := (hdep 17 75 rfl (by kernel_rfl)).trans (hF.rd 17 _ (hd 17 (by kernel_rfl)) rfl)
               unfold Oper.wp
               simp [execOp, e17, go_sem, Result.andThen]
               exact hK _ _ (hF.read (by rw [hl]; decide) (fun q hq h => by simp only [depsO, List.mem_cons, List.not_mem_nil, or_false] at hq; rcases hq with rfl | rfl | rfl | rfl | rfl | rfl | rfl | rfl | rfl | rfl | rfl | rfl | rfl | rfl | rfl | rfl | rfl | rfl | rfl | rfl <;> simp at h <;> exact hd _ (by kernel_rfl)) (fun p hp => by cases hp; rfl) (by decide) (by decide))
              case Ofin =>
               intro l' val w5 hall5 hF
               obtain ⟨bb, hvb, hB', hrb⟩ := hF.fin (hall5 18 (by decide)) (hall5 19 (by decide))
               have hv20 := hF.rd 20 _ (hall5 20 (by decide)) rfl
               have hb5 : Below w1.heap.size w1.drew w5 := hB.trans ((drewB hF.bl).mono hB.size)
               have hr5 : Below wr.heap.size wr w5 := drewB hF.bl
               have HBf := Lib.hid (B1.out.trans ((drewB hb5).mono B1.out.size))
               simp only [slotsO, putsA, Nat.zero_add, Nat.reduceAdd]
               rw [hvb, hv20]
               generalize val 0 = u0'
               generalize val 1 = u1'
               generalize val 2 = u2'
               generalize val 3 = u3'
               generalize val 4 = u4'
               generalize val 5 = u5'
               generalize val 6 = u6'
               generalize val 7 = u7'
               generalize val 8 = u8'
               generalize val 9 = u9'
               generalize val 10 = u10'
               generalize val 11 = u11'
               generalize val 12 = u12'
               generalize val 13 = u13'
               generalize val 14 = u14'
               generalize val 15 = u15'
               generalize val 16 = u16'
               generalize val 17 = u17'
               generalize val 19 = u19'
               have hown5 := own_past hown hr5
               have HB5 := Lib.hid hb5
               obtain ⟨v0', v1', v2'⟩ : w5.cell? ⟨bb, 0, none⟩ = some (.bool y.sym) ∧ w5.cell? ⟨bb, 1, none⟩ = some (.int .i64 y.n) ∧ w5.cell? ⟨bb, 2, none⟩ = some (.string y.s) := ⟨row_cells hrb 0, row_cells hrb 1, row_cells hrb 2⟩
               have hw15 := HB5.out.size
               have hw15' : w1.heap.size ≤ w5.heap.size := hw15
               clear hF hall5 hv20 hvb val hr5 hb5 hcS1 hcS2 hcP1 hcP2 hcD1 hcD2 hcT1 hcT2 g0 g1 g2 hwr1 hB
               rcases HY.out with ⟨rfl, hq⟩ | ⟨her, hbe, hq⟩
               · have HQ2 : Hid (valsQ d.types (lt.map fun t => t.data.toList) = consQ (vals ++ [y]) (valsQ (d.types.drop (c + 1)) ((lt.map fun t => t.data.toList).drop (c + 1)))) := Lib.hid (by
                   rw [HQ'.out, Hstep.out, hq]
                   simp only []
                   cases valsQ (d.types.drop (c + 1)) ((lt.map fun t => t.data.toList).drop (c + 1)) <;> simp [consQ])
                 have hlay : VlC y [.bool y.sym, .int .i64 y.n, .string y.s] := ⟨rfl, valQ_lay hq (by
                   have h2 : tc.data.toList.length = tc.size := by simp
                   omega)⟩
                 have HLay := Lib.hid hlay
                 have HL := Lib.hid hlaid
                 clear hq hlay hlaid hwc hwc2
                 go_simp
                 obtain ⟨iV, hv, hv0, hv1, hv2⟩ := info_parts infoVal
                 go_wp2_with (at_builtin; refine wpList_append_any _ rfl (.tmp 79) (.tmp 81) 39 rfl w1.heap.size 51 iV _ 3 32 Tryz.underlying39 hv hv0 hv1 hv2 rfl (by decide) _ c xs rfl (own_past hown5 (alB _ _)) (.slice (some ⟨w5.heap.size, 0, none⟩) 1 1) 1 [.bool y.sym, .int .i64 y.n, .string y.s] rfl (.inr ⟨_, _, rfl, rfl, World.news_of_block (World.alloc_heap_new _ _), val_one y⟩) ?d3 ?d4 ?d5 ?_)
                 case d3 => unfold maxLen; omega
                 case d4 => omega
                 case d5 => first | omega | (simp; omega)
                 intro v6 w6 hown6 hg6 _
                 have HO6 := Lib.hid hown6
                 have hb6 : Below w1.heap.size w1.drew w6 := (HB5.out.trans ((alB w5 _).mono HB5.out.size)).grown hg6 (by simp; omega) (fun j hj => (hown5.lt j hj).1)
                 have HB6 := Lib.hid hb6
                 clear hown6 hg6 hb6
                 go_wp2
                 go_roundw
                 case rel => exact ⟨c + 1, vals ++ [y], _, by omega, by go_num, HO6.out, HL.out.snoc rfl HLay.out, by rw [List.length_append, hvl]; rfl, HB6.out, HQ2⟩
                 case measure => simp [intOf]; omega
               · have HO : Hid (oneQ p.decls s.data.toList = .inl er) := Lib.hid (by
                   rw [HOk2.out, HQ'.out, Hstep.out, hq, hbe]; rfl)
                 have her1 : (er != 0) = true := by rcases her with h | h <;> rw [h] <;> rfl
                 clear her hbe hq
                 go_simp
                 go_wp2
                 go_ret3
                 rw [HO.out]
                 exact .bad HBf.out
            · have hlt' : ¬ (c : Int) < (d.types.length : Int) := by omega
              have HO : Hid (oneQ p.decls s.data.toList = .inr (k, vals)) := Lib.hid (by
                rw [HOk2.out, HQ'.out, List.drop_of_length_le (by omega), valsQ_nil]
                simp [consQ])
              have HBf := Lib.hid (B1.out.trans ((drewB hB).mono B1.out.size))
              go_wp2
              go_ret3
              rw [HO.out]
              exact .good HBf.out (by rw [hvl]; exact own_base hown B1.out.size) hlaid
end Go.Proofs.YthhepmddcncjoaaGreatDoor
