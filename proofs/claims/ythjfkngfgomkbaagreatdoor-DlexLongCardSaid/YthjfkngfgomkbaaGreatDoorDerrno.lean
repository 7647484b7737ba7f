/- dlex.errnoOf answers which error a line's error is. -/
import Derived.Test.YthjfkngfgomkbaaGreatDoorDas
namespace Go.Proofs.YthjfkngfgomkbaaGreatDoor
open Go.RowKit

/-- What a pointer points to lies in a row of plain cells. -/
def RowAt (x : Addr) (w : World) : Prop := ∃ (cs : Array Value) (t : TypeId), w.heap[x.block]? = some (.cells cs t (0, 0))
theorem RowAt.below {x : Addr} {w w' : World} (h : RowAt x w) (hb : Below w.heap.size w w') : RowAt x w' := by
  obtain ⟨cs, t, h⟩ := h
  exact ⟨cs, t, (hb.block _ (Array.getElem?_eq_some_iff.1 h).1).trans h⟩
theorem RowAt.belowB {x : Addr} {w w' : World} {B : Nat} (h : RowAt x w) (hx : x.block < B) (hb : Below B w w') : RowAt x w' := by
  obtain ⟨cs, t, h⟩ := h
  exact ⟨cs, t, (hb.block _ hx).trans h⟩
theorem RowAt.lt {x : Addr} {w : World} (h : RowAt x w) : x.block < w.heap.size := by
  obtain ⟨cs, t, h⟩ := h
  exact (Array.getElem?_eq_some_iff.1 h).1

set_option maxHeartbeats 1000000 in
theorem errnoOf_tok (n : Int) (a b c : Addr) (w : World) (E : DEnv a b c w) (hb : RowAt b w) (hc : RowAt c w) :
    Calls Tryz.prog 23 #[leV n b] w fun e w' => e = .returned (.int .i64 20) ∧ Below w.heap.size w w' := by
  obtain ⟨cb, tb, hb⟩ := hb
  obtain ⟨cc, tc, hc⟩ := hc
  have hi := Lib.hid (is_wrap_other n b c w E.ne hb hc)
  have hm := E.many
  clear hb hc E
  go_enter Tryz.func23, Tryz.ntmps23
  go_wp2_with fail
  refine hi.out.mono ?_
  rintro e w1 ⟨rfl, b1⟩
  go_wp2
  go_ret
  exact ⟨rfl, b1⟩
set_option maxHeartbeats 1000000 in
theorem errnoOf_many (n : Int) (a b c : Addr) (w : World) (E : DEnv a b c w) :
    Calls Tryz.prog 23 #[leV n c] w fun e w' => e = .returned (.int .i64 21) ∧ Below w.heap.size w w' := by
  have hi := Lib.hid (is_wrap_same n c w)
  have hm := E.many
  clear E
  go_enter Tryz.func23, Tryz.ntmps23
  go_wp2_with fail
  refine hi.out.mono ?_
  rintro e w1 ⟨rfl, b1⟩
  go_wp2
  go_ret
  exact ⟨rfl, b1⟩
end Go.Proofs.YthjfkngfgomkbaaGreatDoor
