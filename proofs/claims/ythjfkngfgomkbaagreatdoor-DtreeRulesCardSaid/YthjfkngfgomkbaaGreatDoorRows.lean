/-
  NARROWER THAN 'FOR EVERY INPUT', by the rows' own cells (each row's printed sentence says how): DlexLexes: laid · DlexLong: laid · DtreeShows: loops, laid · DtreeRules: loops, laid.
  DERIVED. THE GIVEN ROWS OF THIS SEAT. 4 by the template 'for every input the law returns true; each argument reads behind the call as it read before'; 0 by the template 'total and deterministic' (their statements: YthjfkngfgomkbaaGreatDoorTotals.lean).
  GIVEN WITH THE SEED: the statements are not yours to turn. If you find one false, say at which input.
  Laid BY PROGRAM, IN A SANDBOX (cutbox-rows.mjs): the forced cells as the released guide's own fill.sh prints them over the translation a09281728ff26e5e… (all of the seat's roots in one cut). By AI agents, Wed Nov 11 2026. No macro, syntax, notation, axiom, sorry.
-/
import Derived.Test.YthjfkngfgomkbaaGreatDoorChecked
import GoSem.Claim
import GoSem.ClaimJoined
import GoSem.ClaimMapViews
import Derived.JoinedTies
import Derived.KernelRfl
namespace Go.Proofs.YthjfkngfgomkbaaGreatDoor
/- THE CELL 'sum', in the pinned program and in every row, IS THE sha256 OF THE DUMP (.gsa) THAT YthjfkngfgomkbaaGreatDoorProg.lean LOADS. Nothing in Lean hashes anything: it is a label: what it is worth is what the hold of that sum in a sandbox is worth. -/
noncomputable def Tryz.pinned : Pinned := { name := "ythjfkngfgomkbaagreatdoor", sum := "a09281728ff26e5e04f79451ac5b5a2961a08363e5bd61d398bfcd58bca504f6", checked := Tryz.checked }
namespace Rows
def none {H : Type} : Left H := { results := [], args := [] }

/- WHAT THE LISTED PACKAGE-LEVEL VARIABLES READ AS WHEN THE CALL BEGINS. Each datum BY PROGRAM (the guide's laid-datum.mjs) off the statement by which the dump's own 'gosem.cut.vars' lays the variable. In a bare row this is a premise. The card (YthjfkngfgomkbaaGreatDoorCards.lean) ties it to the program's text. -/
def laid_errors_errorType {H : Type} : DataW H := .iface "internal/reflectlite.rtype" (.agg [.ptr (.lit (.string [101, 114, 114, 111, 114]))])
def laid_sorites_text_errForm {H : Type} : DataW H := .iface "*errors.errorString" (.ptr (.agg [.lit (.string [116, 101, 120, 116, 58, 32, 110, 111, 32, 115, 117, 99, 104, 32, 102, 111, 114, 109])]))
def laid_sorites_dlex_errNone {H : Type} : DataW H := .iface "*errors.errorString" (.ptr (.agg [.lit (.string [100, 108, 101, 120, 58, 32, 110, 111, 32, 116, 111, 107, 101, 110])]))
def laid_sorites_dlex_errMany {H : Type} : DataW H := .iface "*errors.errorString" (.ptr (.agg [.lit (.string [100, 108, 101, 120, 58, 32, 116, 111, 111, 32, 109, 97, 110, 121, 32, 116, 111, 107, 101, 110, 115])]))
def laid_math_bits_deBruijn32tab {H : Type} : DataW H := .agg [.lit (.int .u8 0), .lit (.int .u8 1), .lit (.int .u8 28), .lit (.int .u8 2), .lit (.int .u8 29), .lit (.int .u8 14), .lit (.int .u8 24), .lit (.int .u8 3), .lit (.int .u8 30), .lit (.int .u8 22), .lit (.int .u8 20), .lit (.int .u8 15), .lit (.int .u8 25), .lit (.int .u8 17), .lit (.int .u8 4), .lit (.int .u8 8), .lit (.int .u8 31), .lit (.int .u8 27), .lit (.int .u8 13), .lit (.int .u8 23), .lit (.int .u8 21), .lit (.int .u8 19), .lit (.int .u8 16), .lit (.int .u8 7), .lit (.int .u8 26), .lit (.int .u8 12), .lit (.int .u8 18), .lit (.int .u8 6), .lit (.int .u8 11), .lit (.int .u8 5), .lit (.int .u8 10), .lit (.int .u8 9)]
def laid_math_bits_deBruijn64tab {H : Type} : DataW H := .agg [.lit (.int .u8 0), .lit (.int .u8 1), .lit (.int .u8 56), .lit (.int .u8 2), .lit (.int .u8 57), .lit (.int .u8 49), .lit (.int .u8 28), .lit (.int .u8 3), .lit (.int .u8 61), .lit (.int .u8 58), .lit (.int .u8 42), .lit (.int .u8 50), .lit (.int .u8 38), .lit (.int .u8 29), .lit (.int .u8 17), .lit (.int .u8 4), .lit (.int .u8 62), .lit (.int .u8 47), .lit (.int .u8 59), .lit (.int .u8 36), .lit (.int .u8 45), .lit (.int .u8 43), .lit (.int .u8 51), .lit (.int .u8 22), .lit (.int .u8 53), .lit (.int .u8 39), .lit (.int .u8 33), .lit (.int .u8 30), .lit (.int .u8 24), .lit (.int .u8 18), .lit (.int .u8 12), .lit (.int .u8 5), .lit (.int .u8 63), .lit (.int .u8 55), .lit (.int .u8 48), .lit (.int .u8 27), .lit (.int .u8 60), .lit (.int .u8 41), .lit (.int .u8 37), .lit (.int .u8 16), .lit (.int .u8 46), .lit (.int .u8 35), .lit (.int .u8 44), .lit (.int .u8 21), .lit (.int .u8 52), .lit (.int .u8 32), .lit (.int .u8 23), .lit (.int .u8 11), .lit (.int .u8 54), .lit (.int .u8 26), .lit (.int .u8 40), .lit (.int .u8 15), .lit (.int .u8 34), .lit (.int .u8 20), .lit (.int .u8 31), .lit (.int .u8 10), .lit (.int .u8 25), .lit (.int .u8 14), .lit (.int .u8 19), .lit (.int .u8 9), .lit (.int .u8 13), .lit (.int .u8 8), .lit (.int .u8 7), .lit (.int .u8 6)]
def laid_internal_strconv_uint64pow10 {H : Type} : DataW H := .agg [.lit (.int .u64 1), .lit (.int .u64 10), .lit (.int .u64 100), .lit (.int .u64 1000), .lit (.int .u64 10000), .lit (.int .u64 100000), .lit (.int .u64 1000000), .lit (.int .u64 10000000), .lit (.int .u64 100000000), .lit (.int .u64 1000000000), .lit (.int .u64 10000000000), .lit (.int .u64 100000000000), .lit (.int .u64 1000000000000), .lit (.int .u64 10000000000000), .lit (.int .u64 100000000000000), .lit (.int .u64 1000000000000000), .lit (.int .u64 10000000000000000), .lit (.int .u64 100000000000000000), .lit (.int .u64 1000000000000000000), .lit (.int .u64 10000000000000000000)]
def laid_sorites_dtree_errTree {H : Type} : DataW H := .iface "*errors.errorString" (.ptr (.agg [.lit (.string [100, 116, 114, 101, 101, 58, 32, 110, 111, 32, 114, 105, 103, 104, 116, 32, 116, 114, 101, 101])]))
def laid_sorites_dtree_typeWords {H : Type} : DataW H := .agg [.lit (.string []), .lit (.string [110, 117, 109, 98, 101, 114]), .lit (.string [115, 121, 109, 98, 111, 108])]
def laid_sorites_dtree_termSigns {H : Type} : DataW H := .agg [.lit (.string []), .lit (.string []), .lit (.string []), .lit (.string []), .lit (.string []), .lit (.string [43]), .lit (.string [45]), .lit (.string [42])]
def laid_sorites_dtree_litWords {H : Type} : DataW H := .agg [.lit (.string []), .lit (.string []), .lit (.string []), .lit (.string [61]), .lit (.string [33, 61]), .lit (.string [60]), .lit (.string [60, 61]), .lit (.string [99, 111, 117, 110, 116]), .lit (.string [115, 117, 109]), .lit (.string [109, 105, 110]), .lit (.string [109, 97, 120])]

/-- 'soriteslaw02.DlexLexes': WHATEVER THE INPUT: true; the input reads as it did. -/
def dlexLexesSpec : ChangeSpec := { name := "dlexLexes", fn := fun _ => fun
  | [d] => { results := [.lit (.bool true)], args := [d] }
  | _ => none }
def dlexLexesRow : OpenClaim := { program := "ythjfkngfgomkbaagreatdoor", sum := "a09281728ff26e5e04f79451ac5b5a2961a08363e5bd61d398bfcd58bca504f6", func := "sorites/soriteslaw02.DlexLexes", spec := "dlexLexes", inPlace := ["internal/bytealg.IndexByteString", "internal/bytealg.CountString", "internal/bytealg.IndexString", "internal/abi.NoEscape", "internal/reflectlite.TypeOf", "internal/reflectlite.ValueOf", "(internal/reflectlite.Value).Type", "(internal/reflectlite.Value).IsNil", "(internal/reflectlite.Value).Elem", "(internal/reflectlite.Value).Set"], unfollowed := true, recurses := true, named := ["sorites/dlex.errMany", "internal/bytealg.MaxLen", "sorites/dlex.errNone", "sorites/text.errForm", "errors.errorType"], apart := false, laid := [("errors.errorType", laid_errors_errorType), ("sorites/text.errForm", laid_sorites_text_errForm), ("sorites/dlex.errNone", laid_sorites_dlex_errNone), ("sorites/dlex.errMany", laid_sorites_dlex_errMany)] }
def DlexLexesSaid : Prop := dlexLexesRow.holds Tryz.pinned (OpenSpec.ofChange dlexLexesSpec)

/-- ITS FALSE NEIGHBOUR: 'it returns false'. Refute it at one input. -/
def dlexLexesWrong : ChangeSpec := { name := "dlexLexes", fn := fun _ => fun
  | [d] => { results := [.lit (.bool false)], args := [d] }
  | _ => none }
def DlexLexesWrongFalsely : Prop := dlexLexesRow.holds Tryz.pinned (OpenSpec.ofChange dlexLexesWrong)

/-- 'soriteslaw02.DlexLong': WHATEVER THE INPUT: true; the input reads as it did. -/
def dlexLongSpec : ChangeSpec := { name := "dlexLong", fn := fun _ => fun
  | [d1, d2] => { results := [.lit (.bool true)], args := [d1, d2] }
  | _ => none }
def dlexLongRow : OpenClaim := { program := "ythjfkngfgomkbaagreatdoor", sum := "a09281728ff26e5e04f79451ac5b5a2961a08363e5bd61d398bfcd58bca504f6", func := "sorites/soriteslaw02.DlexLong", spec := "dlexLong", inPlace := ["internal/bytealg.IndexByteString", "internal/bytealg.CountString", "internal/bytealg.IndexString", "internal/abi.NoEscape", "internal/reflectlite.TypeOf", "internal/reflectlite.ValueOf", "(internal/reflectlite.Value).Type", "(internal/reflectlite.Value).IsNil", "(internal/reflectlite.Value).Elem", "(internal/reflectlite.Value).Set"], unfollowed := true, recurses := true, named := ["sorites/dlex.errMany", "internal/bytealg.MaxLen", "sorites/dlex.errNone", "sorites/text.errForm", "errors.errorType"], apart := false, laid := [("errors.errorType", laid_errors_errorType), ("sorites/text.errForm", laid_sorites_text_errForm), ("sorites/dlex.errNone", laid_sorites_dlex_errNone), ("sorites/dlex.errMany", laid_sorites_dlex_errMany)] }
def DlexLongSaid : Prop := dlexLongRow.holds Tryz.pinned (OpenSpec.ofChange dlexLongSpec)

/-- ITS FALSE NEIGHBOUR: 'it returns false'. Refute it at one input. -/
def dlexLongWrong : ChangeSpec := { name := "dlexLong", fn := fun _ => fun
  | [d1, d2] => { results := [.lit (.bool false)], args := [d1, d2] }
  | _ => none }
def DlexLongWrongFalsely : Prop := dlexLongRow.holds Tryz.pinned (OpenSpec.ofChange dlexLongWrong)

/-- 'soriteslaw03.DtreeShows': WHATEVER THE INPUT: true; the input reads as it did. -/
def dtreeShowsSpec : ChangeSpec := { name := "dtreeShows", fn := fun _ => fun
  | [d] => { results := [.lit (.bool true)], args := [d] }
  | _ => none }
def dtreeShowsRow : OpenClaim := { program := "ythjfkngfgomkbaagreatdoor", sum := "a09281728ff26e5e04f79451ac5b5a2961a08363e5bd61d398bfcd58bca504f6", func := "sorites/soriteslaw03.DtreeShows", spec := "dtreeShows", inPlace := ["internal/reflectlite.TypeOf", "internal/abi.NoEscape", "internal/bytealg.MakeNoZero"], unfollowed := true, recurses := true, named := ["sorites/dtree.errTree", "sorites/dtree.typeWords", "sorites/dtree.termSigns", "internal/strconv.uint64pow10", "math/bits.deBruijn32tab", "math/bits.deBruijn64tab", "sorites/dtree.litWords"], loops := true, apart := false, laid := [("math/bits.deBruijn32tab", laid_math_bits_deBruijn32tab), ("math/bits.deBruijn64tab", laid_math_bits_deBruijn64tab), ("internal/strconv.uint64pow10", laid_internal_strconv_uint64pow10), ("sorites/dtree.errTree", laid_sorites_dtree_errTree), ("sorites/dtree.typeWords", laid_sorites_dtree_typeWords), ("sorites/dtree.termSigns", laid_sorites_dtree_termSigns), ("sorites/dtree.litWords", laid_sorites_dtree_litWords)] }
def DtreeShowsSaid : Prop := dtreeShowsRow.holds Tryz.pinned (OpenSpec.ofChange dtreeShowsSpec)

/-- ITS FALSE NEIGHBOUR: 'it returns false'. Refute it at one input. -/
def dtreeShowsWrong : ChangeSpec := { name := "dtreeShows", fn := fun _ => fun
  | [d] => { results := [.lit (.bool false)], args := [d] }
  | _ => none }
def DtreeShowsWrongFalsely : Prop := dtreeShowsRow.holds Tryz.pinned (OpenSpec.ofChange dtreeShowsWrong)

/-- 'soriteslaw03.DtreeRules': WHATEVER THE INPUT: true; the input reads as it did. -/
def dtreeRulesSpec : ChangeSpec := { name := "dtreeRules", fn := fun _ => fun
  | [d] => { results := [.lit (.bool true)], args := [d] }
  | _ => none }
def dtreeRulesRow : OpenClaim := { program := "ythjfkngfgomkbaagreatdoor", sum := "a09281728ff26e5e04f79451ac5b5a2961a08363e5bd61d398bfcd58bca504f6", func := "sorites/soriteslaw03.DtreeRules", spec := "dtreeRules", inPlace := ["internal/reflectlite.TypeOf", "internal/abi.NoEscape", "internal/bytealg.MakeNoZero"], unfollowed := true, recurses := true, named := ["sorites/dtree.errTree", "sorites/dtree.typeWords", "sorites/dtree.termSigns", "internal/strconv.uint64pow10", "math/bits.deBruijn32tab", "math/bits.deBruijn64tab", "sorites/dtree.litWords"], loops := true, apart := false, laid := [("math/bits.deBruijn32tab", laid_math_bits_deBruijn32tab), ("math/bits.deBruijn64tab", laid_math_bits_deBruijn64tab), ("internal/strconv.uint64pow10", laid_internal_strconv_uint64pow10), ("sorites/dtree.errTree", laid_sorites_dtree_errTree), ("sorites/dtree.typeWords", laid_sorites_dtree_typeWords), ("sorites/dtree.termSigns", laid_sorites_dtree_termSigns), ("sorites/dtree.litWords", laid_sorites_dtree_litWords)] }
def DtreeRulesSaid : Prop := dtreeRulesRow.holds Tryz.pinned (OpenSpec.ofChange dtreeRulesSpec)

/-- ITS FALSE NEIGHBOUR: 'it returns false'. Refute it at one input. -/
def dtreeRulesWrong : ChangeSpec := { name := "dtreeRules", fn := fun _ => fun
  | [d] => { results := [.lit (.bool false)], args := [d] }
  | _ => none }
def DtreeRulesWrongFalsely : Prop := dtreeRulesRow.holds Tryz.pinned (OpenSpec.ofChange dtreeRulesWrong)

/- THE SECOND FORM. 'bulk': how many values and letters a reading holds, each counted each time it is reached (what is shared counts as often as it is met; a slice's spare places count too). A statement '..UptoSaid' is the law's where the arguments, and the package variables that the reading takes, are together of bulk at most 1048576: NARROWER than '..Said'. Prove '..Said' where nothing that the law and all that it calls make is longer than what came in: it says more and counts as full. Else prove '..UptoSaid'. A law counts once. -/
mutual
def uptoBulk {H : Type} : DataW H → Nat
  | .lit (.string bytes) => bytes.length + 1
  | .lit _ => 1
  | .nil => 1
  | .ptr d => uptoBulk d + 1
  | .slice elems spare => uptoBulkAll elems + uptoBulkAll spare + 1
  | .agg parts => uptoBulkAll parts + 1
  | .iface _ d => uptoBulk d + 1
  | .map entries => uptoBulkEntries entries + 1
  | .held _ => 1
def uptoBulkAll {H : Type} : List (DataW H) → Nat
  | [] => 0
  | d :: r => uptoBulk d + uptoBulkAll r
def uptoBulkEntries {H : Type} : List (Lit × DataW H) → Nat
  | [] => 0
  | x :: r => uptoBulkEntry x + uptoBulkEntries r
def uptoBulkEntry {H : Type} : Lit × DataW H → Nat
  | (.string bytes, d) => bytes.length + uptoBulk d + 1
  | (_, d) => uptoBulk d + 1
 end
def uptoSmall : (H : Type) → List (DataW H) → Bool := fun _ ds => decide (uptoBulkAll ds ≤ 1048576)
def OpenSpec.upto (s : _root_.Go.ChangeSpec) : _root_.Go.OpenSpec := { _root_.Go.OpenSpec.ofChange s with cond := some uptoSmall }

/-- 'soriteslaw02.DlexLexes', WHERE WHAT IT READS IS OF BULK AT MOST 1048576: true; the input reads as it did. -/
def dlexLexesUptoRow : OpenClaim := { program := "ythjfkngfgomkbaagreatdoor", sum := "a09281728ff26e5e04f79451ac5b5a2961a08363e5bd61d398bfcd58bca504f6", func := "sorites/soriteslaw02.DlexLexes", spec := "dlexLexes", inPlace := ["internal/bytealg.IndexByteString", "internal/bytealg.CountString", "internal/bytealg.IndexString", "internal/abi.NoEscape", "internal/reflectlite.TypeOf", "internal/reflectlite.ValueOf", "(internal/reflectlite.Value).Type", "(internal/reflectlite.Value).IsNil", "(internal/reflectlite.Value).Elem", "(internal/reflectlite.Value).Set"], unfollowed := true, recurses := true, named := ["sorites/dlex.errMany", "internal/bytealg.MaxLen", "sorites/dlex.errNone", "sorites/text.errForm", "errors.errorType"], apart := false, laid := [("errors.errorType", laid_errors_errorType), ("sorites/text.errForm", laid_sorites_text_errForm), ("sorites/dlex.errNone", laid_sorites_dlex_errNone), ("sorites/dlex.errMany", laid_sorites_dlex_errMany)], narrowed := true }
def DlexLexesUptoSaid : Prop := dlexLexesUptoRow.holds Tryz.pinned (OpenSpec.upto dlexLexesSpec)

/-- 'soriteslaw02.DlexLong', WHERE WHAT IT READS IS OF BULK AT MOST 1048576: true; the input reads as it did. -/
def dlexLongUptoRow : OpenClaim := { program := "ythjfkngfgomkbaagreatdoor", sum := "a09281728ff26e5e04f79451ac5b5a2961a08363e5bd61d398bfcd58bca504f6", func := "sorites/soriteslaw02.DlexLong", spec := "dlexLong", inPlace := ["internal/bytealg.IndexByteString", "internal/bytealg.CountString", "internal/bytealg.IndexString", "internal/abi.NoEscape", "internal/reflectlite.TypeOf", "internal/reflectlite.ValueOf", "(internal/reflectlite.Value).Type", "(internal/reflectlite.Value).IsNil", "(internal/reflectlite.Value).Elem", "(internal/reflectlite.Value).Set"], unfollowed := true, recurses := true, named := ["sorites/dlex.errMany", "internal/bytealg.MaxLen", "sorites/dlex.errNone", "sorites/text.errForm", "errors.errorType"], apart := false, laid := [("errors.errorType", laid_errors_errorType), ("sorites/text.errForm", laid_sorites_text_errForm), ("sorites/dlex.errNone", laid_sorites_dlex_errNone), ("sorites/dlex.errMany", laid_sorites_dlex_errMany)], narrowed := true }
def DlexLongUptoSaid : Prop := dlexLongUptoRow.holds Tryz.pinned (OpenSpec.upto dlexLongSpec)

/-- 'soriteslaw03.DtreeShows', WHERE WHAT IT READS IS OF BULK AT MOST 1048576: true; the input reads as it did. -/
def dtreeShowsUptoRow : OpenClaim := { program := "ythjfkngfgomkbaagreatdoor", sum := "a09281728ff26e5e04f79451ac5b5a2961a08363e5bd61d398bfcd58bca504f6", func := "sorites/soriteslaw03.DtreeShows", spec := "dtreeShows", inPlace := ["internal/reflectlite.TypeOf", "internal/abi.NoEscape", "internal/bytealg.MakeNoZero"], unfollowed := true, recurses := true, named := ["sorites/dtree.errTree", "sorites/dtree.typeWords", "sorites/dtree.termSigns", "internal/strconv.uint64pow10", "math/bits.deBruijn32tab", "math/bits.deBruijn64tab", "sorites/dtree.litWords"], loops := true, apart := false, laid := [("math/bits.deBruijn32tab", laid_math_bits_deBruijn32tab), ("math/bits.deBruijn64tab", laid_math_bits_deBruijn64tab), ("internal/strconv.uint64pow10", laid_internal_strconv_uint64pow10), ("sorites/dtree.errTree", laid_sorites_dtree_errTree), ("sorites/dtree.typeWords", laid_sorites_dtree_typeWords), ("sorites/dtree.termSigns", laid_sorites_dtree_termSigns), ("sorites/dtree.litWords", laid_sorites_dtree_litWords)], narrowed := true }
def DtreeShowsUptoSaid : Prop := dtreeShowsUptoRow.holds Tryz.pinned (OpenSpec.upto dtreeShowsSpec)

/-- 'soriteslaw03.DtreeRules', WHERE WHAT IT READS IS OF BULK AT MOST 1048576: true; the input reads as it did. -/
def dtreeRulesUptoRow : OpenClaim := { program := "ythjfkngfgomkbaagreatdoor", sum := "a09281728ff26e5e04f79451ac5b5a2961a08363e5bd61d398bfcd58bca504f6", func := "sorites/soriteslaw03.DtreeRules", spec := "dtreeRules", inPlace := ["internal/reflectlite.TypeOf", "internal/abi.NoEscape", "internal/bytealg.MakeNoZero"], unfollowed := true, recurses := true, named := ["sorites/dtree.errTree", "sorites/dtree.typeWords", "sorites/dtree.termSigns", "internal/strconv.uint64pow10", "math/bits.deBruijn32tab", "math/bits.deBruijn64tab", "sorites/dtree.litWords"], loops := true, apart := false, laid := [("math/bits.deBruijn32tab", laid_math_bits_deBruijn32tab), ("math/bits.deBruijn64tab", laid_math_bits_deBruijn64tab), ("internal/strconv.uint64pow10", laid_internal_strconv_uint64pow10), ("sorites/dtree.errTree", laid_sorites_dtree_errTree), ("sorites/dtree.typeWords", laid_sorites_dtree_typeWords), ("sorites/dtree.termSigns", laid_sorites_dtree_termSigns), ("sorites/dtree.litWords", laid_sorites_dtree_litWords)], narrowed := true }
def DtreeRulesUptoSaid : Prop := dtreeRulesUptoRow.holds Tryz.pinned (OpenSpec.upto dtreeRulesSpec)

end Rows
end Go.Proofs.YthjfkngfgomkbaaGreatDoor
