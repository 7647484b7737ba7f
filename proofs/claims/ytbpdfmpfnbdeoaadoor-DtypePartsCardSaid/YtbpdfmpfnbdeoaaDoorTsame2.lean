/- dtree.sameAtom, sameLit, sameRule, and slices.EqualFunc over parts and rules. -/
import Derived.Test.YtbpdfmpfnbdeoaaDoorTsame
import Derived.Test.YtbpdfmpfnbdeoaaDoorTlook
namespace Go.Proofs.YtbpdfmpfnbdeoaaDoor
open Go.RowKit

set_option maxRecDepth 100000 in
set_option maxHeartbeats 4000000 in
theorem sameAtom_c (t u : Am) (w : World) (cs ds : List Value) (hc : AmC w w.heap.size t cs) (hd : AmC w w.heap.size u ds) :
    Calls Tryd.prog 120 #[.agg cs.toArray, .agg ds.toArray] w fun e w' => e = .returned (.bool (sameA t u)) ∧ Below w.heap.size w w' := by
  obtain ⟨p1, q1, rfl, _, t1⟩ := hc.look
  obtain ⟨p2, q2, rfl, _, t2⟩ := hd.look
  have H := Lib.hid (fun (W : World) (hb : Below w.heap.size w W) => equalTerms_c t.l u.l (fun x _ => sameTerm_c x) _ _ W ((TmS.below t1 hb).more hb.size) ((TmS.below t2 hb).more hb.size))
  clear hc hd t1 t2
  obtain ⟨b1, hb1⟩ : ∃ b, (t.rel.toList == u.rel.toList) = b := ⟨_, rfl⟩
  have Hz : Hid (sameA t u = (b1 && allS sameT t.l u.l)) := Lib.hid (by unfold sameA; rw [sameTs_all, hb1])
  cases b1
  · go_enter Tryd.func120, Tryd.ntmps120
    go_wp2
    go_ret
    exact ⟨by rw [Hz.out]; rfl, ((Below.refl _ _).alloc (Nat.le_refl _) _).alloc (by simp) _⟩
  · go_enter Tryd.func120, Tryd.ntmps120
    go_wp2_with fail
    refine (H.out _ (((Below.refl _ _).alloc (Nat.le_refl _) _).alloc (by simp) _)).mono ?_
    rintro e w1 ⟨rfl, b1⟩
    go_wp2
    go_ret
    exact ⟨by rw [Hz.out]; rfl, (((Below.refl _ _).alloc (Nat.le_refl _) _).alloc (by simp) _).trans (b1.mono (by simp; omega))⟩
end Go.Proofs.YtbpdfmpfnbdeoaaDoor
