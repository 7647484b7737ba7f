/- soriteslaw12.CoverDual. -/
import Derived.Test.YtiljpacmkmmlcaaWv
import Derived.Test.YtiljpacmkmmlcaaCv8
set_option linter.unusedSimpArgs false
set_option linter.unusedVariables false
namespace Go.Proofs.Ytiljpacmkmmlcaa
open Go.RowKit
theorem coverDual_c (c : Int) (l : List (List Int)) (v : Value) (w : World) (_hc : -9223372036854775808 ≤ c ∧ c ≤ 9223372036854775807) (h : SetsS w w.heap.size l v) :
    Calls Try.prog 6 #[.int .i64 c, v] w fun e w' => e = .returned (.bool true) ∧ Below w.heap.size w w' :=
  dual12_of c l v w h (shown12_c w) fun w' h' => least_c c l v w' h'
end Go.Proofs.Ytiljpacmkmmlcaa
