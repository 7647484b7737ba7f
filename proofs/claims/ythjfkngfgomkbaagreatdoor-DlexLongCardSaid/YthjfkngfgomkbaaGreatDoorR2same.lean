/- soritesref02.Same answers true of two slices that hold the same tokens. -/
import Derived.Test.YthjfkngfgomkbaaGreatDoorDslice
import Derived.Deep.QuietTactic
import Derived.BigQuiet
import Derived.WalkSmall
namespace Go.Proofs.YthjfkngfgomkbaaGreatDoor
open Go.RowKit

theorem SliceOf.uni {w : World} {B : Nat} {v : Value} {ts : List TokI} (h : SliceOf w B v ts) : ∃ o cap, v = .slice o ts.length cap ∧ ts.length ≤ cap ∧ cap ≤ 9223372036854775807 ∧
    ∀ (i : Nat) (t : TokI) (w' : World), ts[i]? = some t → Below B w w' → ∃ a, o = some a ∧ w'.cell? (a.add (i * 3)) = some (.int .i64 t.kind) ∧ w'.cell? ⟨(a.add (i * 3)).block, (a.add (i * 3)).off + 1, none⟩ = some (.string t.s) ∧ w'.cell? ⟨(a.add (i * 3)).block, (a.add (i * 3)).off + 2, none⟩ = some (.int .i64 t.line) := by
  rcases h with ⟨rfl, rfl⟩ | ⟨a, cap, h1, h2, h3, h4, h5⟩
  · exact ⟨none, 0, rfl, Nat.le_refl _, by omega, fun i t w' hx => by simp at hx⟩
  · refine ⟨some a, cap, h1, h2, by unfold maxLen at h3; omega, fun i t w' hx hb => ⟨a, rfl, SliceOf.cells h5 h4 hb hx⟩⟩

set_option maxRecDepth 100000 in
set_option maxHeartbeats 4000000 in
theorem r2same_c (v1 v2 : Value) (ts : List TokI) (w : World) (h1 : SliceOf w w.heap.size v1 ts) (h2 : SliceOf w w.heap.size v2 ts) :
    Calls Tryz.prog 11 #[v1, v2] w fun e w' => e = .returned (.bool true) ∧ Below w.heap.size w w' := by
  obtain ⟨o1, cap1, rfl, hc1, hm1, s1⟩ := SliceOf.uni h1
  obtain ⟨o2, cap2, rfl, hc2, hm2, s2⟩ := SliceOf.uni h2
  have S1 := Lib.hid s1
  have S2 := Lib.hid s2
  clear s1 s2 h1 h2
  go_enter Tryz.func11, Tryz.ntmps11
  go_wp2
  go_loopw [5] (fun i wr => ∃ k : Nat, k ≤ ts.length ∧ i = .int .i64 k ∧ Below w.heap.size w wr) (fun i _ => ts.length - (intOf i).toNat)
  case atStart => exact ⟨0, Nat.zero_le _, rfl, Below.refl _ _⟩
  case round =>
    obtain ⟨k, hk, rfl, hB⟩ := hrel
    by_cases hlt : k < ts.length
    · have hlt' : (k : Int) < (ts.length : Int) := by omega
      obtain ⟨t, ht⟩ : ∃ t, ts[k]? = some t := ⟨ts[k], List.getElem?_eq_getElem hlt⟩
      obtain ⟨a, rfl, c0, c1, c2⟩ := S1.out k t wr ht hB
      obtain ⟨b, rfl, d0, d1, d2⟩ := S2.out k t wr ht hB
      clear ht
      go_wp2
      go_quiet (fail)
      go_wp2
      go_roundw
      case rel => exact ⟨k + 1, hlt, by go_num, below_drewN hB _⟩
      case measure => simp [intOf]; omega
    · have hlt' : ¬ (k : Int) < (ts.length : Int) := by omega
      go_wp2
      go_ret
      exact ⟨rfl, hB⟩
end Go.Proofs.YthjfkngfgomkbaaGreatDoor
