/- soritesref01.one answers the sign of a byte. soritesref01.Quote answers the text of a symbol, for texts of at most five thousand bytes. -/
import Derived.Test.YthjfkngfgomkbaaGreatDoorRef
namespace Go.Proofs.YthjfkngfgomkbaaGreatDoor
open Go.RowKit

theorem ofNat_back (c : UInt8) : UInt8.ofNat c.toNat = c := by simp
theorem str_two (c d : UInt8) : Value.string ((⟨#[c]⟩ : ByteArray) ++ ⟨#[d]⟩) = .string ⟨[c, d].toArray⟩ := str_cons c [d]

theorem conv2d (W : World) (n m : Int) : (convert 30 9 (.slice (some ⟨W.heap.size, 0, none⟩) 2 2)).run Tryz.prog (W.alloc (.cells #[.int .u8 n, .int .u8 m] 5)).drew = .ok (.string ⟨#[UInt8.ofNat n.toNat, UInt8.ofNat m.toNat]⟩) (W.alloc (.cells #[.int .u8 n, .int .u8 m] 5)).drew := by
  rw [run_convert_bytes_string _ 30 9 5 _ _ _ Tryz.underlying30 Tryz.underlying5 Tryz.underlying9]
  rw [run_bytesToString _ _ 2 2 [n, m] (by go_simp)]
  rfl
theorem conv2e (W : World) (n m : Int) (c d : UInt8) (hn : UInt8.ofNat n.toNat = c) (hm : UInt8.ofNat m.toNat = d) : (convert 30 9 (.slice (some ⟨W.heap.size, 0, none⟩) 2 2)).run Tryz.prog (W.alloc (.cells #[.int .u8 n, .int .u8 m] 5)).drew = .ok (.string ⟨#[c, d]⟩) (W.alloc (.cells #[.int .u8 n, .int .u8 m] 5)).drew := by
  subst hn hm
  exact conv2d W n m
theorem str_hex (c d : UInt8) : Value.string ((⟨#[92, 120]⟩ : ByteArray) ++ ⟨#[c, d]⟩) = .string ⟨[92, 120, c, d].toArray⟩ := by
  show Value.string (ByteArray.mk [92, 120].toArray ++ ByteArray.mk [c, d].toArray) = _
  rw [ByteArray.mk_append_mk]
  rfl
theorem hex_at1 (k : Nat) (hk : k < 16) : UInt8.ofNat (((hexS[k]'(show k < hexS.size from hk)).toNat : Int).toNat) = hexL.getD k 0 := by
  have := hex_fin ⟨k, hk⟩
  simp only [Int.toNat_natCast, ofNat_back]
  exact this

set_option maxRecDepth 100000 in
set_option maxHeartbeats 2000000 in
theorem oneC_c (c : UInt8) (z : Int) (hz : z = (c.toNat : Int)) (w : World) :
    Calls Tryz.prog 120 #[.int .u8 z] w fun e w' => e = .returned (.string ⟨(sign c).toArray⟩) ∧ Below w.heap.size w w' := by
  subst hz
  have ne : ∀ d : UInt8, c ≠ d → ((c.toNat : Int) == (d.toNat : Int)) = false := by
    intro d hd
    rw [beq_eq_false_iff_ne]
    intro e
    exact hd (UInt8.toNat_inj.1 (by omega))
  have hb : UInt8.ofNat ((c.toNat : Int).toNat) = c := by simp
  by_cases h10 : c = 10
  · subst h10
    go_enter Tryz.func120, Tryz.ntmps120
    go_wp2
    go_ret
    exact ⟨rfl, Below.refl _ _⟩
  by_cases h34 : c = 34
  · subst h34
    have hcv := fun W => conv1 W 34
    go_enter Tryz.func120, Tryz.ntmps120
    go_wp2
    go_ret
    exact ⟨rfl, (Below.refl _ _).alloc (Nat.le_refl _) _⟩
  by_cases h92 : c = 92
  · subst h92
    have hcv := fun W => conv1 W 92
    go_enter Tryz.func120, Tryz.ntmps120
    go_wp2
    go_ret
    exact ⟨rfl, (Below.refl _ _).alloc (Nat.le_refl _) _⟩
  have e10 : ((c.toNat : Int) == 10) = false := ne 10 h10
  have e34 : ((c.toNat : Int) == 34) = false := ne 34 h34
  have e92 : ((c.toNat : Int) == 92) = false := ne 92 h92
  have hcl := c.toNat_lt
  by_cases hp : 32 ≤ c.toNat ∧ c.toNat ≤ 126
  · have hs : Hid (sign c = [c]) := Lib.hid (by
      unfold sign
      rw [if_neg h10, if_neg (by rintro (h | h); exact h34 h; exact h92 h), if_pos (by unfold plainB; simp; omega)])
    have p1 : ¬ (c.toNat : Int) < 32 := by omega
    have p2 : ¬ 126 < (c.toNat : Int) := by omega
    have hcv := fun W => conv1 W (c.toNat : Int)
    rw [hb] at hcv
    clear h10 h34 h92 hp hb ne
    go_enter Tryz.func120, Tryz.ntmps120
    go_wp2
    go_ret
    rw [hs.out]
    exact ⟨rfl, (Below.refl _ _).alloc (Nat.le_refl _) _⟩
  have q0 : 0 ≤ (c.toNat : Int) / 16 := by omega
  have q1 : (c.toNat : Int) / 16 < 16 := by omega
  have r0 : 0 ≤ (c.toNat : Int) % 16 := by omega
  have r1 : (c.toNat : Int) % 16 < 16 := by omega
  have hs : Hid (sign c = [92, 120, hexL.getD (c.toNat / 16) 0, hexL.getD (c.toNat % 16) 0]) := Lib.hid (by
    unfold sign
    rw [if_neg h10, if_neg (by rintro (h | h); exact h34 h; exact h92 h), if_neg (by unfold plainB; simp; omega)])
  have hx1 := hex_at1 (c.toNat / 16) (by omega)
  have hx2 := hex_at1 (c.toNat % 16) (by omega)
  clear h10 h34 h92 hb ne
  have hcv := fun W => conv2e W ((hexS[c.toNat / 16]'(show c.toNat / 16 < 16 by omega)).toNat : Int) ((hexS[c.toNat % 16]'(show c.toNat % 16 < 16 by omega)).toNat : Int) _ _ hx1 hx2
  clear hx1 hx2
  simp only [hexS] at hcv
  by_cases hlow : c.toNat < 32
  · have p1 : (c.toNat : Int) < 32 := by omega
    clear hp
    go_enter Tryz.func120, Tryz.ntmps120
    go_wp2
    go_region
    all_goals (try go_wp2)
    all_goals go_ret
    all_goals rw [hs.out]
    all_goals exact ⟨congrArg Ending.returned (str_hex _ _), (Below.alloc (Below.refl _ _) (Nat.le_refl _) _).drew⟩
  · have p1 : ¬ (c.toNat : Int) < 32 := by omega
    have p2 : 126 < (c.toNat : Int) := by omega
    clear hp
    go_enter Tryz.func120, Tryz.ntmps120
    go_wp2
    go_region
    all_goals (try go_wp2)
    all_goals go_ret
    all_goals rw [hs.out]
    all_goals exact ⟨congrArg Ending.returned (str_hex _ _), (Below.alloc (Below.refl _ _) (Nat.le_refl _) _).drew⟩
end Go.Proofs.YthjfkngfgomkbaaGreatDoor
namespace Go.Proofs.YthjfkngfgomkbaaGreatDoor
open Go.RowKit

theorem str_app (l m : List UInt8) : Value.string ((⟨l.toArray⟩ : ByteArray) ++ ⟨m.toArray⟩) = .string ⟨(l ++ m).toArray⟩ := by
  show Value.string (ByteArray.mk l.toArray ++ ByteArray.mk m.toArray) = _
  rw [ByteArray.mk_append_mk]

set_option maxRecDepth 100000 in
set_option maxHeartbeats 1000000 in
theorem refQuote_c (s : ByteArray) (hs : s.size ≤ 5000) (w : World) :
    Calls Tryz.prog 105 #[.string s] w fun e w' => e = .returned (.string ⟨(quoteL s.data.toList).toArray⟩) ∧ Below w.heap.size w w' := by
  go_enter Tryz.func105, Tryz.ntmps105
  go_wp2
  go_loopw [3, 4] (fun o i wr => ∃ (pos : Nat) (acc : List UInt8), pos ≤ s.size ∧ i = .int .i64 pos ∧ o = .string ⟨acc.toArray⟩ ∧ acc.length ≤ 4 * pos + 1 ∧ acc = 34 :: (s.data.toList.take pos).flatMap sign ∧ Below w.heap.size w wr) (fun _ i _ => s.size - (intOf i).toNat)
  case atStart => exact ⟨0, [34], by omega, rfl, rfl, by simp, rfl, Below.refl _ _⟩
  case round =>
    obtain ⟨pos, acc, hp, rfl, rfl, hal, hacc, hb⟩ := hrel
    have Hacc := Lib.hid hacc
    clear hacc
    by_cases hlt : pos < s.size
    · have hsl := sign_len s[pos]
      have hst := Lib.hid (take_snoc s pos hlt)
      have e1 : ¬ 9223372036854775807 < acc.length + (sign s[pos]).length := by omega
      go_wp2_with fail
      refine (oneC_c s[pos] _ rfl _).mono ?_
      rintro e w1 ⟨rfl, b1⟩
      go_wp2
      go_roundw
      case rel =>
        refine ⟨pos + 1, acc ++ sign s[pos], hlt, by go_num, str_app _ _, by simp; omega, ?_, chain2 hb (by exact b1)⟩
        rw [Hacc.out, hst.out]
        simp
      case measure => simp [intOf]; omega
    · obtain rfl : pos = s.size := by omega
      have hf := Lib.hid (show s.data.toList.take s.size = s.data.toList from List.take_of_length_le (by simp))
      have e1 : ¬ 9223372036854775807 < acc.length + 1 := by omega
      go_wp2
      go_ret
      refine ⟨?_, hb⟩
      rw [show quoteL s.data.toList = acc ++ [34] by rw [Hacc.out, hf.out]; rfl]
      exact congrArg Ending.returned (str_app acc [34])
end Go.Proofs.YthjfkngfgomkbaaGreatDoor
