/- cover.Least. -/
import Derived.Test.YtiljpacmkmmlcaaWm
import Derived.Test.YtiljpacmkmmlcaaCv5
set_option linter.unusedSimpArgs false
set_option linter.unusedVariables false
namespace Go.Proofs.Ytiljpacmkmmlcaa
open Go.RowKit

theorem RM_least {c : Int} {l : List (List Int)} {a : Nat} (h : rightS c l = true) (hl : LeastN (l.map maskL).length (RM (l.map maskL)) a) : LeastN l.length (RS l) a := by
  rw [List.length_map] at hl
  exact least_congr (least_flip hl) fun x y hx hy => RM_RS h hy hx
theorem masks_ne {l : List (List Int)} : l.map maskL = [] ↔ l = [] := List.map_eq_nil_iff
theorem rs_60 {c : Int} {l : List (List Int)} (h : rightS c l = true) : (l.map maskL).length ≤ 60 := by
  rw [List.length_map]
  exact (rightS_iff.1 h).1.2.2
set_option linter.unusedVariables false in
set_option maxRecDepth 100000 in
set_option maxHeartbeats 8000000 in
theorem least_c (c : Int) (l : List (List Int)) (v : Value) (w : World) (h : SetsS w w.heap.size l v) :
    Calls Try.prog 16 #[.int .i64 c, v] w fun e w' => LeastR c l e ∧ Below w.heap.size w w' := by
  have HA := Lib.hid (asColumns_c c l v w h)
  obtain ⟨o1, cap1, rfl, hc1, hm1, S1⟩ := SlOf.open h
  clear h
  go_enter Try.func16, Try.ntmps16
  go_wp2_with fail
  refine HA.out.mono ?_
  rintro e w1 ⟨hR, hb1⟩
  have HB1 := Lib.hid hb1
  clear hb1
  rcases hR with ⟨hr, rfl⟩ | ⟨u, hr, rfl, hown, h256⟩
  · have Hr := Lib.hid hr
    clear hr
    go_wp2
    go_ret2
    exact ⟨.inl ⟨Hr.out, rfl⟩, HB1.out⟩
  · have Hr := Lib.hid hr
    have hms : w1.ownsRow w.heap.size 54 1 u (l.map maskL).length (mvL (l.map maskL)) := by rw [List.length_map]; exact hown
    have HC := Lib.hid (chainsOf_c (l.map maskL) u w1 (rs_60 hr) (masks_nodup hr) h256 (ms_of_own hms h256))
    clear hr hown h256 hms
    go_wp2_with fail
    refine HC.out.mono ?_
    rintro e w2 ⟨⟨cv, vs, cs, rfl, hch, hcs⟩, hb2⟩
    obtain ⟨oc, capc, hcv⟩ : ∃ o cap, cv = .slice o cs.length cap := by
      rcases hch.own.2 with ⟨e, h0⟩ | ⟨g, cap, cur, e, _⟩
      · exact ⟨none, 0, by rw [e, h0]⟩
      · exact ⟨_, _, e⟩
    subst hcv
    have HCs := Lib.hid hcs
    have HB2 := Lib.hid (HB1.out.trans (hb2.mono HB1.out.size))
    clear hch hcs hb2 HC
    go_wp2
    go_ret2
    refine ⟨.inr ⟨cs.length, Hr.out, rfl, ?_⟩, HB2.out⟩
    rcases HCs.out.n with ⟨h1, h2⟩ | ⟨h1, h2⟩
    · exact .inl ⟨masks_ne.1 h1, h2⟩
    · exact .inr ⟨fun e => h1 (masks_ne.2 e), RM_least Hr.out h2⟩
end Go.Proofs.Ytiljpacmkmmlcaa
