/- soritesref01.Next answers the byte whose sign stands next, and how long it is. -/
import Derived.Test.YthjfkngfgomkbaaGreatDoorRefQuote
import Derived.Test.YthjfkngfgomkbaaGreatDoorSignBack
import Derived.Deep.RegionHeld3
import Derived.IntWalk
namespace Go.Proofs.YthjfkngfgomkbaaGreatDoor
open Go.RowKit

theorem next_some {l : List UInt8} {c : UInt8} {n : Nat} (h : sign c = l.take n) (hn : n ≤ l.length) : firstS l = some (c, n) := by
  have h1 : l = sign c ++ l.drop n := by rw [h, List.take_append_drop]
  have h2 : (sign c).length = n := by rw [h]; simp; omega
  have h3 := firstS_sign c (l.drop n)
  rwa [← h1, h2] at h3
theorem next_none {l : List UInt8} (h : ∀ (m : Nat) (c : UInt8), 1 ≤ m → m ≤ 4 → m ≤ l.length → sign c ≠ l.take m) : firstS l = none := by
  cases hf : firstS l with
  | none => rfl
  | some x =>
    obtain ⟨c, n⟩ := x
    have h1 := firstS_back hf
    have hc := sign_ne c
    have hl : 1 ≤ (sign c).length := by
      cases h : sign c with
      | nil => exact absurd h hc
      | cons => simp
    have h2 : (sign c).length ≤ l.length := by rw [h1]; simp
    refine absurd ?_ (h (sign c).length c hl (sign_len c) h2)
    rw [h1, List.take_left']
    rfl
def nextV : Option (UInt8 × Nat) → Value
  | some (c, n) => .tuple #[.int .u8 (c.toNat : Int), .int .i64 (n : Int)]
  | none => .tuple #[.int .u8 0, .int .i64 0]

set_option maxRecDepth 100000 in
set_option maxHeartbeats 4000000 in
theorem next_c (s : ByteArray) (at' : Nat) (hs : s.size ≤ 5000) (ha : at' ≤ s.size) (w : World) :
    Calls Tryz.prog 98 #[.string s, .int .i64 (at' : Int)] w fun e w' => e = .returned (nextV (firstS (s.data.toList.drop at'))) ∧ Below w.heap.size w w' := by
  obtain ⟨l, hl⟩ : ∃ l, s.data.toList.drop at' = l := ⟨_, rfl⟩
  have hll : l.length = s.size - at' := by rw [← hl]; simp
  have hex : ∀ n, (s.extract at' (at' + n)).toList = l.take n := by
    intro n
    rw [Lib.toList_data, Lib.extract_data, ← hl]
    congr 1
    omega
  have Hex := Lib.hid hex
  rw [hl]
  clear hl hex
  go_enter Tryz.func98, Tryz.ntmps98
  go_wp2
  go_loopw [6] (fun i wr => ∃ n : Nat, 1 ≤ n ∧ n ≤ 5 ∧ i = .int .i64 n ∧ (∀ (m : Nat) (c : UInt8), 1 ≤ m → m < n → m ≤ l.length → sign c ≠ l.take m) ∧ Below w.heap.size w wr) (fun i _ => 5 - (intOf i).toNat)
  case atStart => exact ⟨1, by omega, by omega, rfl, fun m c h1 h2 => by omega, Below.refl _ _⟩
  case round =>
    obtain ⟨n, hn1, hn5, rfl, hno, hb⟩ := hrel
    have Hno := Lib.hid hno
    clear hno
    by_cases h4 : n ≤ 4
    · have h4' : (n : Int) ≤ 4 := by omega
      by_cases hin : at' + n ≤ s.size
      · have hin' : (at' : Int) + (n : Int) ≤ (s.size : Int) := by omega
        go_wp2
        go_loopw [7] (fun i wr2 => ∃ k : Nat, k ≤ 256 ∧ i = .int .i64 k ∧ (∀ d : UInt8, d.toNat < k → sign d ≠ l.take n) ∧ Below w.heap.size w wr2) (fun i _ => 256 - (intOf i).toNat)
        case atStart => exact ⟨0, by omega, rfl, fun d h => by omega, hb⟩
        case round =>
          obtain ⟨k, hk, rfl, hkno, hb2⟩ := hrel
          have Hkno := Lib.hid hkno
          clear hkno
          by_cases hlt : k < 256
          · have hlt' : (k : Int) < 256 := by omega
            obtain ⟨d, hd⟩ : ∃ d, UInt8.ofNat k = d := ⟨_, rfl⟩
            have hdk : (k : Int) = (d.toNat : Int) := by rw [← hd]; simp; omega
            have Hz : Hid (IntKind.u8.wrap (k : Int) = (d.toNat : Int)) := Lib.hid (by rw [← hdk]; exact IntWalk.u8_in _ (by omega))
            have Hdk := Lib.hid hdk
            have g1 : IntKind.i64.wrap ((at' : Int) + (n : Int)) = (at' : Int) + (n : Int) := IntWalk.i64_in _ (by omega)
            have g2 : ∀ w : World, (Instr.slice 9 (.string s) (some (.int .i64 (at' : Int))) (some (.int .i64 ((at' : Int) + (n : Int)))) none).run Tryz.prog w = .ok (.string (s.extract at' (at' + n))) w := fun w => by
              have h := run_slice_string (P := Tryz.prog) (w := w) 9 s .i64 .i64 (at' : Int) ((at' : Int) + (n : Int)) Tryz.underlying9 (by omega) (by omega) (by omega)
              rwa [show ((at' : Int) + (n : Int)).toNat = at' + n by omega, Int.toNat_natCast] at h
            by_cases hq : sign d = l.take n
            · have hq' : (sign d == (s.extract at' (at' + n)).toList) = true := by rw [Hex.out, hq]; simp
              have Hr := Lib.hid (next_some hq (by omega))
              clear hq hd hdk
              go_wp2_with fail
              go_region_held3 (fun _ => True) (trivial) ((go_at_call 120; refine (one_c d _ ?_ _).mono ?_; exact Hz.out; rintro e w' ⟨rfl, b⟩))
              go_wp2
              go_ret2
              rw [Hr.out]
              refine ⟨?_, chain2 hb2 (((Below.refl _ wr).drew).trans b)⟩
              show Ending.returned (.tuple #[.int .u8 (k : Int), .int .i64 (n : Int)]) = _
              rw [Hdk.out]
              rfl
            · have hq' : (sign d == (s.extract at' (at' + n)).toList) = false := by rw [Hex.out]; simp [hq]
              have Hq := Lib.hid hq
              clear hq hd hdk
              go_wp2_with fail
              go_region_held3 (fun _ => True) (trivial) ((go_at_call 120; refine (one_c d _ ?_ _).mono ?_; exact Hz.out; rintro e w' ⟨rfl, b⟩))
              go_wp2
              go_roundw
              case rel =>
                refine ⟨k + 1, by omega, by go_num, fun d' hd' => ?_, chain2 hb2 (((Below.refl _ wr).drew).trans b)⟩
                by_cases hlt2 : d'.toNat < k
                · exact Hkno.out d' hlt2
                · have h1 := Hdk.out
                  have : d' = d := UInt8.toNat_inj.1 (by omega)
                  rw [this]
                  exact Hq.out
              case measure => simp [intOf]; omega
          · have hlt' : ¬ (k : Int) < 256 := by omega
            go_wp2
            go_roundw
            case rel =>
              refine ⟨n + 1, by omega, by omega, by go_num, fun m c h1 h2 h3 => ?_, hb2⟩
              by_cases hm : m < n
              · exact Hno.out m c h1 hm h3
              · obtain rfl : m = n := by omega
                exact Hkno.out c (by have := c.toNat_lt; omega)
            case measure => simp [intOf]; omega
      · have hin' : ¬ (at' : Int) + (n : Int) ≤ (s.size : Int) := by omega
        have Hr := Lib.hid (next_none fun m c h1 h2 h3 => Hno.out m c h1 (by omega) h3)
        go_wp2
        go_ret2
        rw [Hr.out]
        exact ⟨rfl, hb⟩
    · have h4' : ¬ (n : Int) ≤ 4 := by omega
      have Hr := Lib.hid (next_none (l := l) fun m c h1 h2 h3 => Hno.out m c h1 (by omega) h3)
      go_wp2
      go_ret2
      rw [Hr.out]
      exact ⟨rfl, hb⟩
end Go.Proofs.YthjfkngfgomkbaaGreatDoor
