/- Lists of relations and of numbers among the arguments, opened. -/
import Derived.Test.YtbpdfmpfnbdeoaaDoorTopen
import Derived.ChangeArms
import Derived.ChangeSame
namespace Go.Proofs.YtbpdfmpfnbdeoaaDoor
open Go.RowKit Go.ChangeShapes Go.WideShapes

set_option maxRecDepth 100000 in
theorem open_decls {H : Type} {enc : TypeId × Value → H} {w : World} {b0 : Nat} {v : Value} {d : DataW H} {p : List MemPlace}
    (hv : Value.okWide Tryd.prog w .any b0 28 v) (h : DataW.Trod enc Tryd.prog w 0 (fun _ => true) true 28 v d p) : ∃ l, SlOf w w.heap.size 6 (DeC w w.heap.size) l v := by
  obtain ⟨o, len, cap, rfl⟩ := okWide_slice Tryd.underlying28 hv
  obtain ⟨fuel, hf⟩ := h
  exact open_sl (R := DeC w w.heap.size) Tryd.underlying28 cDecl (by omega) (fun m cs y hm hy => open_decl m cs y hy) hf
set_option maxRecDepth 100000 in
theorem open_ints {H : Type} {enc : TypeId × Value → H} {w : World} {b0 : Nat} {v : Value} {d : DataW H} {p : List MemPlace}
    (hv : Value.okWide Tryd.prog w .any b0 37 v) (h : DataW.Trod enc Tryd.prog w 0 (fun _ => true) true 37 v d p) : ∃ l, SlOf w w.heap.size 1 IntC l v := by
  obtain ⟨o, len, cap, rfl⟩ := okWide_slice Tryd.underlying37 hv
  obtain ⟨fuel, hf⟩ := h
  exact open_sl (R := IntC) Tryd.underlying37 cInt (by omega) (fun m cs y hm hy => by obtain ⟨s, e, _, z⟩ := DataW.trod_int Tryd.underlying3 hy; exact ⟨s, e, wf_i64 z⟩) hf
end Go.Proofs.YtbpdfmpfnbdeoaaDoor
