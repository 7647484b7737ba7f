/- soriteslaw12.cut. -/
import Derived.Test.YtiljpacmkmmlcaaCva
set_option linter.unusedSimpArgs false
set_option linter.unusedVariables false
namespace Go.Proofs.Ytiljpacmkmmlcaa
open Go.RowKit

def CutR (l : List (List Int)) (o : Option Addr) (cap : Nat) (w : World) (e : Ending) : Prop := e = .returned (.slice o (l.take 70).length cap) ∧ SetsS w w.heap.size (l.take 70) (.slice o (l.take 70).length cap)
set_option linter.unusedVariables false in
set_option maxRecDepth 100000 in
set_option maxHeartbeats 4000000 in
theorem cut12_c (l : List (List Int)) (o : Option Addr) (cap : Nat) (w : World) (h : SetsS w w.heap.size l (.slice o l.length cap)) :
    Calls Try.prog 10 #[.slice o l.length cap] w fun e w' => CutR l o cap w e ∧ w = w' := by
  obtain ⟨o1, cap1, e1, hc1, hm1, _⟩ := SlOf.open h
  injection e1 with e1 _ e2
  subst e1
  subst e2
  have Hcut := Lib.hid (h.cutR (n := 70))
  clear h
  by_cases hl : 70 < l.length
  · have hl' : (70 : Int) < (l.length : Int) := by omega
    have h70 : (70 : Int) ≤ (cap : Int) := by omega
    have Hp : Hid ((l.take 70).length = 70) := Lib.hid (by rw [List.length_take]; omega)
    clear hl
    go_enter Try.func10, Try.ntmps10
    go_wp2
    go_ret
    have h1 := Hcut.out
    rw [Hp.out] at h1
    exact ⟨⟨by rw [Hp.out]; rfl, by rw [Hp.out]; exact h1⟩, rfl⟩
  · have hl' : ¬ (70 : Int) < (l.length : Int) := by omega
    have Hp : Hid (l.take 70 = l) := Lib.hid (List.take_of_length_le (by omega))
    clear hl
    go_enter Try.func10, Try.ntmps10
    go_wp2
    go_ret
    have h1 := Hcut.out
    rw [Hp.out] at h1
    exact ⟨⟨by rw [Hp.out]; rfl, by rw [Hp.out]; exact h1⟩, rfl⟩
end Go.Proofs.Ytiljpacmkmmlcaa
