/- Turning a new slice of one or two bytes into a text. soritesref01.digits, Num and ParseNum answer what plain functions of the bytes say. soritesref01.Num answers a number's numeral, and soritesref01.ParseNum what the reader numL says of the bytes. -/
import Derived.Test.YthjfkngfgomkbaaGreatDoorChecked
import Derived.WalkKit
import Derived.WalkLawsBesides
import Derived.Laws.BytesString
import Derived.Test.YthjfkngfgomkbaaGreatDoorNumc
import Derived.Test.YthjfkngfgomkbaaGreatDoorQuote
import Derived.Test.YthjfkngfgomkbaaGreatDoorTdig
import Derived.Lib.ItoaLen
namespace Go.Proofs.YthjfkngfgomkbaaGreatDoor
open Go.RowKit

theorem conv1 (W : World) (n : Int) : (convert 30 9 (.slice (some ⟨W.heap.size, 0, none⟩) 1 1)).run Tryz.prog (W.alloc (.cells #[.int .u8 n] 5)) = .ok (.string ⟨#[UInt8.ofNat n.toNat]⟩) (W.alloc (.cells #[.int .u8 n] 5)) := by
  rw [run_convert_bytes_string _ 30 9 5 _ _ _ Tryz.underlying30 Tryz.underlying5 Tryz.underlying9]
  rw [run_bytesToString _ _ 1 1 [n] (by go_simp)]
  rfl
theorem conv2 (W : World) (n m : Int) : (convert 30 9 (.slice (some ⟨W.heap.size, 0, none⟩) 2 2)).run Tryz.prog (W.alloc (.cells #[.int .u8 n, .int .u8 m] 5)) = .ok (.string ⟨#[UInt8.ofNat n.toNat, UInt8.ofNat m.toNat]⟩) (W.alloc (.cells #[.int .u8 n, .int .u8 m] 5)) := by
  rw [run_convert_bytes_string _ 30 9 5 _ _ _ Tryz.underlying30 Tryz.underlying5 Tryz.underlying9]
  rw [run_bytesToString _ _ 2 2 [n, m] (by go_simp)]
  rfl
end Go.Proofs.YthjfkngfgomkbaaGreatDoor
namespace Go.Proofs.YthjfkngfgomkbaaGreatDoor
open Go.RowKit

theorem chain2 {w w1 w2 : World} (b1 : Below w.heap.size w w1) (b2 : Below w1.heap.size w1 w2) : Below w.heap.size w w2 :=
  b1.trans (b2.mono b1.size)

theorem int_u64 {a b : Int} (h : a = b) : Value.int .u64 a = Value.int .u64 b := by rw [h]

def emptyOf : Value → Nat
  | .string b => 1 - b.size
  | _ => 0
theorem str_cons (c : UInt8) (l : List UInt8) : Value.string ((⟨#[c]⟩ : ByteArray) ++ ⟨l.toArray⟩) = .string ⟨(c :: l).toArray⟩ := by
  show Value.string (ByteArray.mk [c].toArray ++ ByteArray.mk l.toArray) = _
  rw [ByteArray.mk_append_mk]
  rfl
def digInv (u m : Nat) (acc : List UInt8) : Prop := (acc = [] ∧ m = u) ∨ (acc ≠ [] ∧ (if m = 0 then acc else Lib.decDigits m ++ acc) = Lib.decDigits u)

theorem digInv_step {u m : Nat} {acc : List UInt8} (h : digInv u m acc) (hp : acc = [] ∨ 0 < m) : digInv u (m / 10) ((48 + UInt8.ofNat (m % 10)) :: acc) := by
  have hd : (48 + UInt8.ofNat (m % 10) : UInt8) = UInt8.ofNat (48 + m % 10) := by simp
  rw [hd]
  refine .inr ⟨by simp, ?_⟩
  have key : ∀ l : List UInt8, (if m / 10 = 0 then UInt8.ofNat (48 + m % 10) :: l else Lib.decDigits (m / 10) ++ UInt8.ofNat (48 + m % 10) :: l) = Lib.decDigits m ++ l := by
    intro l
    by_cases h10 : m < 10
    · rw [if_pos (by omega), dec_one m h10, show m % 10 = m by omega]
      rfl
    · rw [if_neg (by omega), dec_more m h10]
      simp
  rw [key]
  rcases h with ⟨rfl, rfl⟩ | ⟨hne, h⟩
  · simp
  · rcases hp with h0 | h0
    · exact absurd h0 hne
    · rwa [if_neg (by omega)] at h
theorem digInv_len {u m : Nat} {acc : List UInt8} (hu : u ≤ 18446744073709551615) (h : digInv u m acc) : acc.length ≤ 1000 := by
  have h20 : (Lib.decDigits u).length ≤ 20 := by rw [Lib.decDigits_length]; exact Lib.nDigits_le20 u (by omega)
  rcases h with ⟨rfl, _⟩ | ⟨_, h⟩
  · simp
  · rw [← h] at h20
    split at h20
    · omega
    · rw [List.length_append] at h20
      omega
theorem digInv_end {u : Nat} {acc : List UInt8} (h : digInv u 0 acc) (hne : acc ≠ []) : acc = Lib.decDigits u := by
  rcases h with ⟨h, _⟩ | ⟨_, h⟩
  · exact absurd h hne
  · simpa using h

set_option maxRecDepth 100000 in
set_option maxHeartbeats 1000000 in
theorem digits_c (u : Nat) (hu : u ≤ 18446744073709551615) (z : Int) (hz : z = (u : Int)) (w : World) :
    Calls Tryz.prog 125 #[.int .u64 z] w fun e w' => e = .returned (.string ⟨(Lib.decDigits u).toArray⟩) ∧ Below w.heap.size w w' := by
  subst hz
  go_enter Tryz.func125, Tryz.ntmps125
  go_wp2
  go_loopw [0, 3] (fun n s wr => ∃ (m : Nat) (acc : List UInt8), n = .int .u64 (m : Int) ∧ s = .string ⟨acc.toArray⟩ ∧ m ≤ u ∧ acc.length ≤ 1000 ∧ digInv u m acc ∧ Below w.heap.size w wr) (fun n s _ => 2 * (intOf n).toNat + emptyOf s)
  case atStart => exact ⟨u, [], rfl, rfl, Nat.le_refl _, by simp, .inl ⟨rfl, rfl⟩, Below.refl _ _⟩
  case round =>
    obtain ⟨m, acc, rfl, rfl, hm, hal, hinv, hb⟩ := hrel
    have hmz : (m : Int) ≤ 18446744073709551615 := by omega
    have Hinv := Lib.hid hinv
    have Hu := Lib.hid hu
    have Hm := Lib.hid hm
    clear hinv hu
    by_cases ha : acc = []
    · subst ha
      have e0 : (⟨([] : List UInt8).toArray⟩ : ByteArray).toList.isEmpty = true := by rw [Lib.toList_data]; rfl
      have hcv := fun n => conv1 wr n
      go_wp2
      go_roundw
      case rel => exact ⟨m / 10, _ :: [], int_u64 (by omega), rfl, by omega, by simp, digInv_step Hinv.out (.inl rfl), hb.alloc hb.size _⟩
      case measure => simp [intOf, emptyOf, ByteArray.size_mk']; omega
    · have e0 : acc.isEmpty = false := by simp [ha]
      have hcv := fun n => conv1 wr n
      by_cases h0 : m = 0
      · subst h0
        have hE := Lib.hid (digInv_end Hinv.out ha)
        go_wp2
        go_ret
        rw [← hE.out]
        exact ⟨rfl, hb⟩
      · have h0' : 0 < m := by omega
        go_wp2
        go_roundw
        case rel =>
          have hst := digInv_step Hinv.out (.inr h0')
          exact ⟨m / 10, _ :: acc, int_u64 (by omega), str_cons _ _, by omega, digInv_len Hu.out hst, hst, hb.alloc hb.size _⟩
        case measure => simp [intOf, emptyOf]; omega
end Go.Proofs.YthjfkngfgomkbaaGreatDoor
namespace Go.Proofs.YthjfkngfgomkbaaGreatDoor
open Go.RowKit

set_option maxRecDepth 100000 in
set_option maxHeartbeats 1000000 in
theorem refNum_c (n : Int) (h0 : -9223372036854775808 ≤ n) (h1 : n ≤ 9223372036854775807) (w : World) :
    Calls Tryz.prog 104 #[.int .i64 n] w fun e w' => e = .returned (.string ⟨(Lib.itoa n).toArray⟩) ∧ Below w.heap.size w w' := by
  by_cases hn : n < 0
  · have hd : (Lib.decDigits n.natAbs).length ≤ 20 := by rw [Lib.decDigits_length]; exact Lib.nDigits_le20 _ (by omega)
    have hi := Lib.hid (show Lib.itoa n = 45 :: Lib.decDigits n.natAbs by unfold Lib.itoa; rw [if_pos hn])
    go_enter Tryz.func104, Tryz.ntmps104
    go_wp2_with fail
    refine (digits_c n.natAbs (by omega) _ (by omega) _).mono ?_
    rintro e w1 ⟨rfl, b1⟩
    go_wp2
    go_ret
    rw [hi.out]
    exact ⟨congrArg Ending.returned (str_cons _ _), b1⟩
  · have hi := Lib.hid (show Lib.itoa n = Lib.decDigits n.toNat by unfold Lib.itoa; rw [if_neg hn])
    go_enter Tryz.func104, Tryz.ntmps104
    go_wp2_with fail
    refine (digits_c n.toNat (by omega) _ (by omega) _).mono ?_
    rintro e w1 ⟨rfl, b1⟩
    go_wp2
    go_ret
    rw [hi.out]
    exact ⟨rfl, b1⟩
end Go.Proofs.YthjfkngfgomkbaaGreatDoor
