/- soritesref02.number: the token of digits that stands there. -/
import Derived.Test.YthjfkngfgomkbaaGreatDoorRword
namespace Go.Proofs.YthjfkngfgomkbaaGreatDoor
open Go.RowKit

theorem kept_all {W w1 : World} (hb : Below W.heap.size W w1) : (∀ b o, b < W.heap.size → w1.cell? ⟨b, o, none⟩ = W.cell? ⟨b, o, none⟩) ∧ (∀ b o, b < W.heap.size → w1.frozen? ⟨b, o, none⟩ = W.frozen? ⟨b, o, none⟩) :=
  ⟨fun b o h => hb.cell (p := ⟨b, o, none⟩) h, fun b o h => hb.frozen (p := ⟨b, o, none⟩) h⟩


set_option maxRecDepth 100000 in
set_option maxHeartbeats 4000000 in
theorem rnumber_c (s : ByteArray) (i0 : Nat) (hi : i0 < s.size) (hs : s.size ≤ 1073741824) (hl : digB (s[i0].toNat : Int) = true) (w : World) :
    Calls Tryz.prog 55 #[.string s, .int .i64 (i0 : Int)] w fun e w' => e = .returned (oneV i0 (tokL (s.data.toList.drop i0))) ∧ Below w.heap.size w w' := by
  have hlen : (s.data.toList.drop i0).length = s.size - i0 := by simp
  have hr := runN_len partB (s.data.toList.drop i0)
  obtain ⟨z, hz⟩ : ∃ z, runN partB (s.data.toList.drop i0) = z := ⟨_, rfl⟩
  have Hrun := Lib.hid (rrun_c s i0 (by omega) hs)
  have ht : tokL (s.data.toList.drop i0) = if (numL ((s.data.toList.drop i0).take z)).isSome = true then some (2, (s.data.toList.drop i0).take z, z) else none := by
    rw [← hz, drop_cons s i0 hi]; exact dig_head hl
  rw [hz] at Hrun hr
  have hiz : i0 + z ≤ s.size := by omega
  obtain ⟨t, htt⟩ : ∃ t, s.extract i0 (i0 + z) = t := ⟨_, rfl⟩
  have htl : t.data.toList = (s.data.toList.drop i0).take z := by
    rw [← htt, Lib.extract_data]
    congr 1
    omega
  have gs : ∀ w : World, (Instr.slice 9 (.string s) (some (.int .i64 (i0 : Int))) (some (.int .i64 ((i0 : Int) + (z : Int)))) none).run Tryz.prog w = .ok (.string t) w := fun w => by
    have h := run_slice_string (P := Tryz.prog) (w := w) 9 s .i64 .i64 (i0 : Int) ((i0 : Int) + (z : Int)) Tryz.underlying9 (by omega) (by omega) (by omega)
    rwa [show ((i0 : Int) + (z : Int)).toNat = i0 + z by omega, Int.toNat_natCast, htt] at h
  have hts : t.size ≤ maxLen := by rw [← htt, ByteArray.size_extract]; unfold maxLen; omega
  rw [← htl] at ht
  have Ht := Lib.hid ht
  have Hp := Lib.hid (refParse_c t)
  have Hts := Lib.hid hts
  clear ht hz hl htt htl hts
  have HPz := Lib.hid (refL_numL t.data.toList)
  cases hn : numL t.data.toList with
  | none =>
    have Hv : Hid (oneV i0 (tokL (s.data.toList.drop i0)) = .tuple #[.agg #[.int .i64 0, .string ⟨#[]⟩, .int .i64 0], .int .i64 0]) := Lib.hid (by rw [Ht.out, hn]; rfl)
    have Hn := Lib.hid hn
    clear hn
    go_enter Tryz.func55, Tryz.ntmps55
    go_wp2_with fail
    refine (Hrun.out _).mono ?_
    rintro e w1 ⟨rfl, rfl⟩
    go_wp2_with fail
    refine (Hp.out _ Hts.out).mono ?_
    rw [HPz.out, Hn.out]
    rintro e w1 ⟨rfl, b1⟩
    simp only [parseV]
    obtain ⟨hc, hf⟩ := kept_all b1
    have hz : w.heap.size < w1.heap.size := by have := b1.size; simp at this; omega
    go_wp2
    rw [Hv.out]
    exact bodyPost_ret (v := .tuple #[.agg #[.int .i64 0, .string ⟨#[]⟩, .int .i64 0], .int .i64 0]) (by simp [results, Tryz.results55, go_sem, hc]) rfl ⟨rfl, (((((Below.refl _ _).alloc (Nat.le_refl _) _).trans (b1.mono (by simp))).setCell (Nat.le_refl _) _).setCell (Nat.le_refl _) _).setCell (Nat.le_refl _) _⟩
  | some n =>
    have Hv : Hid (oneV i0 (tokL (s.data.toList.drop i0)) = .tuple #[.agg #[.int .i64 2, .string t, .int .i64 0], .int .i64 ((i0 : Int) + (z : Int))]) := Lib.hid (by
      rw [Ht.out, hn]
      simp only [oneV, str_eta, Option.isSome_some, if_true]
      rfl)
    have Hn := Lib.hid hn
    clear hn
    go_enter Tryz.func55, Tryz.ntmps55
    go_wp2_with fail
    refine (Hrun.out _).mono ?_
    rintro e w1 ⟨rfl, rfl⟩
    go_wp2_with fail
    refine (Hp.out _ Hts.out).mono ?_
    rw [HPz.out, Hn.out]
    rintro e w1 ⟨rfl, b1⟩
    simp only [parseV]
    obtain ⟨hc, hf⟩ := kept_all b1
    have hz : w.heap.size < w1.heap.size := by have := b1.size; simp at this; omega
    go_wp2
    rw [Hv.out]
    exact bodyPost_ret (v := .tuple #[.agg #[.int .i64 2, .string t, .int .i64 0], .int .i64 ((i0 : Int) + (z : Int))]) (by simp [results, Tryz.results55, go_sem, hc]) rfl ⟨rfl, (((((Below.refl _ _).alloc (Nat.le_refl _) _).trans (b1.mono (by simp))).setCell (Nat.le_refl _) _).setCell (Nat.le_refl _) _).setCell (Nat.le_refl _) _⟩
end Go.Proofs.YthjfkngfgomkbaaGreatDoor
