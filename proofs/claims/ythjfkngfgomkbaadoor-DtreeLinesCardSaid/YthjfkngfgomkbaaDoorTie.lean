/-
  DERIVED. GIVEN WITH THE SEED: THE PROGRAM's TIES (one call each: nine closed facts by the kernel) AND EACH ROW's TIE, after the 31st guide's Derived/Test/Toyas{Tie, Card}.lean. No idea stands in it: it is a product of the set-up. Laid BY PROGRAM, IN A SANDBOX (cutbox-door.mjs). By AI agents, Wed Nov 11 2026. No macro, syntax, notation, axiom, sorry.
-/
import Derived.Test.YthjfkngfgomkbaaDoorRows
import Derived.LaidByTextLater
import Derived.SevenTiedAt
import Derived.LaidSub
import Derived.LaidOnce
namespace Go.Proofs.YthjfkngfgomkbaaDoor
open Go
set_option maxRecDepth 100000
theorem seatTie1 : Tryd.prog.laidByTextLater [("math/bits.deBruijn32tab", Rows.laid_math_bits_deBruijn32tab), ("math/bits.deBruijn64tab", Rows.laid_math_bits_deBruijn64tab), ("internal/strconv.uint64pow10", Rows.laid_internal_strconv_uint64pow10), ("sorites/dtree.errTree", Rows.laid_sorites_dtree_errTree), ("sorites/dtree.typeWords", Rows.laid_sorites_dtree_typeWords), ("sorites/dtree.termSigns", Rows.laid_sorites_dtree_termSigns), ("sorites/dtree.litWords", Rows.laid_sorites_dtree_litWords)] [.data, .data, .data, .sentinel, .data, .data, .data] true :=
  Program.laidByTextLater_by_one 58 8 65 (by kernel_rfl) (by kernel_rfl) (by kernel_rfl) (by kernel_rfl) (by kernel_rfl) (by kernel_rfl) (fun _ _ => by kernel_rfl)
theorem noOwnUnsafe : Tryd.pinned.checked.prog.headLifts.contains "ownunsafe" = false := by kernel_rfl
theorem tie : Tryd.prog.laidByTextLater [("math/bits.deBruijn32tab", Rows.laid_math_bits_deBruijn32tab), ("math/bits.deBruijn64tab", Rows.laid_math_bits_deBruijn64tab), ("internal/strconv.uint64pow10", Rows.laid_internal_strconv_uint64pow10), ("sorites/dtree.errTree", Rows.laid_sorites_dtree_errTree), ("sorites/dtree.typeWords", Rows.laid_sorites_dtree_typeWords), ("sorites/dtree.termSigns", Rows.laid_sorites_dtree_termSigns), ("sorites/dtree.litWords", Rows.laid_sorites_dtree_litWords)] [.data, .data, .data, .sentinel, .data, .data, .data] true :=
  Program.laidByTextLater.sub seatTie1 ["math/bits.deBruijn32tab", "math/bits.deBruijn64tab", "internal/strconv.uint64pow10", "sorites/dtree.errTree", "sorites/dtree.typeWords", "sorites/dtree.termSigns", "sorites/dtree.litWords"] (by kernel_rfl) (by kernel_rfl)
theorem dtreeRight_row_tie : Rows.dtreeRightRow.laidByTextAt .later Tryd.pinned [.data, .data, .data, .sentinel, .data, .data, .data] true :=
  OpenClaim.laidByTextAt_later rfl rfl tie noOwnUnsafe
theorem dtreeSames_row_tie : Rows.dtreeSamesRow.laidByTextAt .later Tryd.pinned [.data, .data, .data, .sentinel, .data, .data, .data] true :=
  OpenClaim.laidByTextAt_later rfl rfl tie noOwnUnsafe
theorem dtreeApart_row_tie : Rows.dtreeApartRow.laidByTextAt .later Tryd.pinned [.data, .data, .data, .sentinel, .data, .data, .data] true :=
  OpenClaim.laidByTextAt_later rfl rfl tie noOwnUnsafe
theorem dtreeParts_row_tie : Rows.dtreePartsRow.laidByTextAt .later Tryd.pinned [.data, .data, .data, .sentinel, .data, .data, .data] true :=
  OpenClaim.laidByTextAt_later rfl rfl tie noOwnUnsafe
theorem dtreeLines_row_tie : Rows.dtreeLinesRow.laidByTextAt .later Tryd.pinned [.data, .data, .data, .sentinel, .data, .data, .data] true :=
  OpenClaim.laidByTextAt_later rfl rfl tie noOwnUnsafe
theorem dtreeRightUpto_row_tie : Rows.dtreeRightUptoRow.laidByTextAt .later Tryd.pinned [.data, .data, .data, .sentinel, .data, .data, .data] true :=
  OpenClaim.laidByTextAt_later rfl rfl tie noOwnUnsafe
theorem dtreeSamesUpto_row_tie : Rows.dtreeSamesUptoRow.laidByTextAt .later Tryd.pinned [.data, .data, .data, .sentinel, .data, .data, .data] true :=
  OpenClaim.laidByTextAt_later rfl rfl tie noOwnUnsafe
theorem dtreeApartUpto_row_tie : Rows.dtreeApartUptoRow.laidByTextAt .later Tryd.pinned [.data, .data, .data, .sentinel, .data, .data, .data] true :=
  OpenClaim.laidByTextAt_later rfl rfl tie noOwnUnsafe
theorem dtreePartsUpto_row_tie : Rows.dtreePartsUptoRow.laidByTextAt .later Tryd.pinned [.data, .data, .data, .sentinel, .data, .data, .data] true :=
  OpenClaim.laidByTextAt_later rfl rfl tie noOwnUnsafe
theorem dtreeLinesUpto_row_tie : Rows.dtreeLinesUptoRow.laidByTextAt .later Tryd.pinned [.data, .data, .data, .sentinel, .data, .data, .data] true :=
  OpenClaim.laidByTextAt_later rfl rfl tie noOwnUnsafe
end Go.Proofs.YthjfkngfgomkbaaDoor
