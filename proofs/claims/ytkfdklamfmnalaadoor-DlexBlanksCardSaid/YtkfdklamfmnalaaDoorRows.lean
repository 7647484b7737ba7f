/-
  NARROWER THAN 'FOR EVERY INPUT', by the rows' own cells (each row's printed sentence says how): TextNums: laid · TextSyms: laid · TextNames: laid · TextBack: laid · TextApart: laid · TextJoins: laid · DlexBack: laid · DlexBlanks: laid · DlexLines: laid.
  DERIVED. THE GIVEN ROWS OF THIS SEAT. 9 by the template 'for every input the law returns true; each argument reads behind the call as it read before'; 0 by the template 'total and deterministic' (their statements: YtkfdklamfmnalaaDoorTotals.lean).
  GIVEN WITH THE SEED: the statements are not yours to turn. If you find one false, say at which input.
  Laid BY PROGRAM, IN A SANDBOX (cutbox-rows.mjs): the forced cells as the released guide's own fill.sh prints them over the translation dacd9923a2839f87… (all of the seat's roots in one cut). By AI agents, Wed Nov 11 2026. No macro, syntax, notation, axiom, sorry.
-/
import Derived.Test.YtkfdklamfmnalaaDoorChecked
import GoSem.Claim
import GoSem.ClaimJoined
import GoSem.ClaimMapViews
import Derived.JoinedTies
import Derived.KernelRfl
namespace Go.Proofs.YtkfdklamfmnalaaDoor
/- THE CELL 'sum', in the pinned program and in every row, IS THE sha256 OF THE DUMP (.gsa) THAT YtkfdklamfmnalaaDoorProg.lean LOADS. Nothing in Lean hashes anything: it is a label: what it is worth is what the hold of that sum in a sandbox is worth. -/
noncomputable def Tryd.pinned : Pinned := { name := "ytkfdklamfmnalaadoor", sum := "dacd9923a2839f874d163258e5744e0bb1496f9c4c73d2faffd62eafd7dbcac5", checked := Tryd.checked }
namespace Rows
def none {H : Type} : Left H := { results := [], args := [] }

/- WHAT THE LISTED PACKAGE-LEVEL VARIABLES READ AS WHEN THE CALL BEGINS. Each datum BY PROGRAM (the guide's laid-datum.mjs) off the statement by which the dump's own 'gosem.cut.vars' lays the variable. In a bare row this is a premise. The card (YtkfdklamfmnalaaDoorCards.lean) ties it to the program's text. -/
def laid_math_bits_deBruijn32tab {H : Type} : DataW H := .agg [.lit (.int .u8 0), .lit (.int .u8 1), .lit (.int .u8 28), .lit (.int .u8 2), .lit (.int .u8 29), .lit (.int .u8 14), .lit (.int .u8 24), .lit (.int .u8 3), .lit (.int .u8 30), .lit (.int .u8 22), .lit (.int .u8 20), .lit (.int .u8 15), .lit (.int .u8 25), .lit (.int .u8 17), .lit (.int .u8 4), .lit (.int .u8 8), .lit (.int .u8 31), .lit (.int .u8 27), .lit (.int .u8 13), .lit (.int .u8 23), .lit (.int .u8 21), .lit (.int .u8 19), .lit (.int .u8 16), .lit (.int .u8 7), .lit (.int .u8 26), .lit (.int .u8 12), .lit (.int .u8 18), .lit (.int .u8 6), .lit (.int .u8 11), .lit (.int .u8 5), .lit (.int .u8 10), .lit (.int .u8 9)]
def laid_math_bits_deBruijn64tab {H : Type} : DataW H := .agg [.lit (.int .u8 0), .lit (.int .u8 1), .lit (.int .u8 56), .lit (.int .u8 2), .lit (.int .u8 57), .lit (.int .u8 49), .lit (.int .u8 28), .lit (.int .u8 3), .lit (.int .u8 61), .lit (.int .u8 58), .lit (.int .u8 42), .lit (.int .u8 50), .lit (.int .u8 38), .lit (.int .u8 29), .lit (.int .u8 17), .lit (.int .u8 4), .lit (.int .u8 62), .lit (.int .u8 47), .lit (.int .u8 59), .lit (.int .u8 36), .lit (.int .u8 45), .lit (.int .u8 43), .lit (.int .u8 51), .lit (.int .u8 22), .lit (.int .u8 53), .lit (.int .u8 39), .lit (.int .u8 33), .lit (.int .u8 30), .lit (.int .u8 24), .lit (.int .u8 18), .lit (.int .u8 12), .lit (.int .u8 5), .lit (.int .u8 63), .lit (.int .u8 55), .lit (.int .u8 48), .lit (.int .u8 27), .lit (.int .u8 60), .lit (.int .u8 41), .lit (.int .u8 37), .lit (.int .u8 16), .lit (.int .u8 46), .lit (.int .u8 35), .lit (.int .u8 44), .lit (.int .u8 21), .lit (.int .u8 52), .lit (.int .u8 32), .lit (.int .u8 23), .lit (.int .u8 11), .lit (.int .u8 54), .lit (.int .u8 26), .lit (.int .u8 40), .lit (.int .u8 15), .lit (.int .u8 34), .lit (.int .u8 20), .lit (.int .u8 31), .lit (.int .u8 10), .lit (.int .u8 25), .lit (.int .u8 14), .lit (.int .u8 19), .lit (.int .u8 9), .lit (.int .u8 13), .lit (.int .u8 8), .lit (.int .u8 7), .lit (.int .u8 6)]
def laid_internal_strconv_uint64pow10 {H : Type} : DataW H := .agg [.lit (.int .u64 1), .lit (.int .u64 10), .lit (.int .u64 100), .lit (.int .u64 1000), .lit (.int .u64 10000), .lit (.int .u64 100000), .lit (.int .u64 1000000), .lit (.int .u64 10000000), .lit (.int .u64 100000000), .lit (.int .u64 1000000000), .lit (.int .u64 10000000000), .lit (.int .u64 100000000000), .lit (.int .u64 1000000000000), .lit (.int .u64 10000000000000), .lit (.int .u64 100000000000000), .lit (.int .u64 1000000000000000), .lit (.int .u64 10000000000000000), .lit (.int .u64 100000000000000000), .lit (.int .u64 1000000000000000000), .lit (.int .u64 10000000000000000000)]
def laid_sorites_text_errForm {H : Type} : DataW H := .iface "*errors.errorString" (.ptr (.agg [.lit (.string [116, 101, 120, 116, 58, 32, 110, 111, 32, 115, 117, 99, 104, 32, 102, 111, 114, 109])]))
def laid_errors_errorType {H : Type} : DataW H := .iface "internal/reflectlite.rtype" (.agg [.ptr (.lit (.string [101, 114, 114, 111, 114]))])
def laid_sorites_dlex_errNone {H : Type} : DataW H := .iface "*errors.errorString" (.ptr (.agg [.lit (.string [100, 108, 101, 120, 58, 32, 110, 111, 32, 116, 111, 107, 101, 110])]))
def laid_sorites_dlex_errMany {H : Type} : DataW H := .iface "*errors.errorString" (.ptr (.agg [.lit (.string [100, 108, 101, 120, 58, 32, 116, 111, 111, 32, 109, 97, 110, 121, 32, 116, 111, 107, 101, 110, 115])]))

/-- 'soriteslaw01.TextNums': WHATEVER THE INPUT: true; the input reads as it did. -/
def textNumsSpec : ChangeSpec := { name := "textNums", fn := fun _ => fun
  | [d1, d2] => { results := [.lit (.bool true)], args := [d1, d2] }
  | _ => none }
def textNumsRow : OpenClaim := { program := "ytkfdklamfmnalaadoor", sum := "dacd9923a2839f874d163258e5744e0bb1496f9c4c73d2faffd62eafd7dbcac5", func := "sorites/soriteslaw01.TextNums", spec := "textNums", inPlace := ["internal/reflectlite.TypeOf", "internal/abi.NoEscape", "internal/bytealg.MakeNoZero"], unfollowed := true, recurses := true, named := ["sorites/text.errForm", "internal/strconv.uint64pow10", "math/bits.deBruijn32tab", "math/bits.deBruijn64tab"], apart := false, laid := [("math/bits.deBruijn32tab", laid_math_bits_deBruijn32tab), ("math/bits.deBruijn64tab", laid_math_bits_deBruijn64tab), ("internal/strconv.uint64pow10", laid_internal_strconv_uint64pow10), ("sorites/text.errForm", laid_sorites_text_errForm)] }
def TextNumsSaid : Prop := textNumsRow.holds Tryd.pinned (OpenSpec.ofChange textNumsSpec)

/-- ITS FALSE NEIGHBOUR: 'it returns false'. Refute it at one input. -/
def textNumsWrong : ChangeSpec := { name := "textNums", fn := fun _ => fun
  | [d1, d2] => { results := [.lit (.bool false)], args := [d1, d2] }
  | _ => none }
def TextNumsWrongFalsely : Prop := textNumsRow.holds Tryd.pinned (OpenSpec.ofChange textNumsWrong)

/-- 'soriteslaw01.TextSyms': WHATEVER THE INPUT: true; the input reads as it did. -/
def textSymsSpec : ChangeSpec := { name := "textSyms", fn := fun _ => fun
  | [d1, d2] => { results := [.lit (.bool true)], args := [d1, d2] }
  | _ => none }
def textSymsRow : OpenClaim := { program := "ytkfdklamfmnalaadoor", sum := "dacd9923a2839f874d163258e5744e0bb1496f9c4c73d2faffd62eafd7dbcac5", func := "sorites/soriteslaw01.TextSyms", spec := "textSyms", inPlace := ["internal/reflectlite.TypeOf", "internal/abi.NoEscape", "internal/bytealg.MakeNoZero", "internal/bytealg.IndexByteString"], unfollowed := true, recurses := true, named := ["sorites/text.errForm", "internal/strconv.uint64pow10", "math/bits.deBruijn32tab", "math/bits.deBruijn64tab"], apart := false, laid := [("math/bits.deBruijn32tab", laid_math_bits_deBruijn32tab), ("math/bits.deBruijn64tab", laid_math_bits_deBruijn64tab), ("internal/strconv.uint64pow10", laid_internal_strconv_uint64pow10), ("sorites/text.errForm", laid_sorites_text_errForm)] }
def TextSymsSaid : Prop := textSymsRow.holds Tryd.pinned (OpenSpec.ofChange textSymsSpec)

/-- ITS FALSE NEIGHBOUR: 'it returns false'. Refute it at one input. -/
def textSymsWrong : ChangeSpec := { name := "textSyms", fn := fun _ => fun
  | [d1, d2] => { results := [.lit (.bool false)], args := [d1, d2] }
  | _ => none }
def TextSymsWrongFalsely : Prop := textSymsRow.holds Tryd.pinned (OpenSpec.ofChange textSymsWrong)

/-- 'soriteslaw01.TextNames': WHATEVER THE INPUT: true; the input reads as it did. -/
def textNamesSpec : ChangeSpec := { name := "textNames", fn := fun _ => fun
  | [d] => { results := [.lit (.bool true)], args := [d] }
  | _ => none }
def textNamesRow : OpenClaim := { program := "ytkfdklamfmnalaadoor", sum := "dacd9923a2839f874d163258e5744e0bb1496f9c4c73d2faffd62eafd7dbcac5", func := "sorites/soriteslaw01.TextNames", spec := "textNames", inPlace := ["internal/reflectlite.TypeOf", "internal/abi.NoEscape", "internal/bytealg.MakeNoZero"], unfollowed := true, recurses := true, named := ["sorites/text.errForm", "internal/strconv.uint64pow10", "math/bits.deBruijn32tab", "math/bits.deBruijn64tab"], apart := false, laid := [("math/bits.deBruijn32tab", laid_math_bits_deBruijn32tab), ("math/bits.deBruijn64tab", laid_math_bits_deBruijn64tab), ("internal/strconv.uint64pow10", laid_internal_strconv_uint64pow10), ("sorites/text.errForm", laid_sorites_text_errForm)] }
def TextNamesSaid : Prop := textNamesRow.holds Tryd.pinned (OpenSpec.ofChange textNamesSpec)

/-- ITS FALSE NEIGHBOUR: 'it returns false'. Refute it at one input. -/
def textNamesWrong : ChangeSpec := { name := "textNames", fn := fun _ => fun
  | [d] => { results := [.lit (.bool false)], args := [d] }
  | _ => none }
def TextNamesWrongFalsely : Prop := textNamesRow.holds Tryd.pinned (OpenSpec.ofChange textNamesWrong)

/-- 'soriteslaw01.TextBack': WHATEVER THE INPUT: true; the input reads as it did. -/
def textBackSpec : ChangeSpec := { name := "textBack", fn := fun _ => fun
  | [d1, d2, d3] => { results := [.lit (.bool true)], args := [d1, d2, d3] }
  | _ => none }
def textBackRow : OpenClaim := { program := "ytkfdklamfmnalaadoor", sum := "dacd9923a2839f874d163258e5744e0bb1496f9c4c73d2faffd62eafd7dbcac5", func := "sorites/soriteslaw01.TextBack", spec := "textBack", inPlace := ["internal/reflectlite.TypeOf", "internal/abi.NoEscape", "internal/bytealg.MakeNoZero", "internal/bytealg.IndexByteString"], unfollowed := true, recurses := true, named := ["sorites/text.errForm", "internal/strconv.uint64pow10", "math/bits.deBruijn32tab", "math/bits.deBruijn64tab"], apart := false, laid := [("math/bits.deBruijn32tab", laid_math_bits_deBruijn32tab), ("math/bits.deBruijn64tab", laid_math_bits_deBruijn64tab), ("internal/strconv.uint64pow10", laid_internal_strconv_uint64pow10), ("sorites/text.errForm", laid_sorites_text_errForm)] }
def TextBackSaid : Prop := textBackRow.holds Tryd.pinned (OpenSpec.ofChange textBackSpec)

/-- ITS FALSE NEIGHBOUR: 'it returns false'. Refute it at one input. -/
def textBackWrong : ChangeSpec := { name := "textBack", fn := fun _ => fun
  | [d1, d2, d3] => { results := [.lit (.bool false)], args := [d1, d2, d3] }
  | _ => none }
def TextBackWrongFalsely : Prop := textBackRow.holds Tryd.pinned (OpenSpec.ofChange textBackWrong)

/-- 'soriteslaw01.TextApart': WHATEVER THE INPUT: true; the input reads as it did. -/
def textApartSpec : ChangeSpec := { name := "textApart", fn := fun _ => fun
  | [d1, d2, d3, d4] => { results := [.lit (.bool true)], args := [d1, d2, d3, d4] }
  | _ => none }
def textApartRow : OpenClaim := { program := "ytkfdklamfmnalaadoor", sum := "dacd9923a2839f874d163258e5744e0bb1496f9c4c73d2faffd62eafd7dbcac5", func := "sorites/soriteslaw01.TextApart", spec := "textApart", inPlace := ["internal/reflectlite.TypeOf", "internal/abi.NoEscape", "internal/bytealg.MakeNoZero"], unfollowed := true, recurses := true, named := ["sorites/text.errForm", "internal/strconv.uint64pow10", "math/bits.deBruijn32tab", "math/bits.deBruijn64tab"], apart := false, laid := [("math/bits.deBruijn32tab", laid_math_bits_deBruijn32tab), ("math/bits.deBruijn64tab", laid_math_bits_deBruijn64tab), ("internal/strconv.uint64pow10", laid_internal_strconv_uint64pow10), ("sorites/text.errForm", laid_sorites_text_errForm)] }
def TextApartSaid : Prop := textApartRow.holds Tryd.pinned (OpenSpec.ofChange textApartSpec)

/-- ITS FALSE NEIGHBOUR: 'it returns false'. Refute it at one input. -/
def textApartWrong : ChangeSpec := { name := "textApart", fn := fun _ => fun
  | [d1, d2, d3, d4] => { results := [.lit (.bool false)], args := [d1, d2, d3, d4] }
  | _ => none }
def TextApartWrongFalsely : Prop := textApartRow.holds Tryd.pinned (OpenSpec.ofChange textApartWrong)

/-- 'soriteslaw01.TextJoins': WHATEVER THE INPUT: true; the input reads as it did. -/
def textJoinsSpec : ChangeSpec := { name := "textJoins", fn := fun _ => fun
  | [d1, d2] => { results := [.lit (.bool true)], args := [d1, d2] }
  | _ => none }
def textJoinsRow : OpenClaim := { program := "ytkfdklamfmnalaadoor", sum := "dacd9923a2839f874d163258e5744e0bb1496f9c4c73d2faffd62eafd7dbcac5", func := "sorites/soriteslaw01.TextJoins", spec := "textJoins", inPlace := ["internal/reflectlite.TypeOf", "internal/abi.NoEscape", "internal/bytealg.MakeNoZero"], unfollowed := true, recurses := true, named := ["sorites/text.errForm", "internal/strconv.uint64pow10", "math/bits.deBruijn32tab", "math/bits.deBruijn64tab"], apart := false, laid := [("math/bits.deBruijn32tab", laid_math_bits_deBruijn32tab), ("math/bits.deBruijn64tab", laid_math_bits_deBruijn64tab), ("internal/strconv.uint64pow10", laid_internal_strconv_uint64pow10), ("sorites/text.errForm", laid_sorites_text_errForm)] }
def TextJoinsSaid : Prop := textJoinsRow.holds Tryd.pinned (OpenSpec.ofChange textJoinsSpec)

/-- ITS FALSE NEIGHBOUR: 'it returns false'. Refute it at one input. -/
def textJoinsWrong : ChangeSpec := { name := "textJoins", fn := fun _ => fun
  | [d1, d2] => { results := [.lit (.bool false)], args := [d1, d2] }
  | _ => none }
def TextJoinsWrongFalsely : Prop := textJoinsRow.holds Tryd.pinned (OpenSpec.ofChange textJoinsWrong)

/-- 'soriteslaw02.DlexBack': WHATEVER THE INPUT: true; the input reads as it did. -/
def dlexBackSpec : ChangeSpec := { name := "dlexBack", fn := fun _ => fun
  | [d] => { results := [.lit (.bool true)], args := [d] }
  | _ => none }
def dlexBackRow : OpenClaim := { program := "ytkfdklamfmnalaadoor", sum := "dacd9923a2839f874d163258e5744e0bb1496f9c4c73d2faffd62eafd7dbcac5", func := "sorites/soriteslaw02.DlexBack", spec := "dlexBack", inPlace := ["internal/bytealg.IndexByteString", "internal/bytealg.CountString", "internal/bytealg.IndexString", "internal/abi.NoEscape", "internal/reflectlite.TypeOf", "internal/reflectlite.ValueOf", "(internal/reflectlite.Value).Type", "(internal/reflectlite.Value).IsNil", "(internal/reflectlite.Value).Elem", "(internal/reflectlite.Value).Set", "internal/bytealg.MakeNoZero"], unfollowed := true, recurses := true, named := ["sorites/dlex.errMany", "internal/bytealg.MaxLen", "sorites/dlex.errNone", "sorites/text.errForm", "errors.errorType"], apart := false, laid := [("errors.errorType", laid_errors_errorType), ("sorites/text.errForm", laid_sorites_text_errForm), ("sorites/dlex.errNone", laid_sorites_dlex_errNone), ("sorites/dlex.errMany", laid_sorites_dlex_errMany)] }
def DlexBackSaid : Prop := dlexBackRow.holds Tryd.pinned (OpenSpec.ofChange dlexBackSpec)

/-- ITS FALSE NEIGHBOUR: 'it returns false'. Refute it at one input. -/
def dlexBackWrong : ChangeSpec := { name := "dlexBack", fn := fun _ => fun
  | [d] => { results := [.lit (.bool false)], args := [d] }
  | _ => none }
def DlexBackWrongFalsely : Prop := dlexBackRow.holds Tryd.pinned (OpenSpec.ofChange dlexBackWrong)

/-- 'soriteslaw02.DlexBlanks': WHATEVER THE INPUT: true; the input reads as it did. -/
def dlexBlanksSpec : ChangeSpec := { name := "dlexBlanks", fn := fun _ => fun
  | [d1, d2, d3, d4] => { results := [.lit (.bool true)], args := [d1, d2, d3, d4] }
  | _ => none }
def dlexBlanksRow : OpenClaim := { program := "ytkfdklamfmnalaadoor", sum := "dacd9923a2839f874d163258e5744e0bb1496f9c4c73d2faffd62eafd7dbcac5", func := "sorites/soriteslaw02.DlexBlanks", spec := "dlexBlanks", inPlace := ["internal/bytealg.IndexByteString", "internal/bytealg.CountString", "internal/bytealg.IndexString", "internal/abi.NoEscape", "internal/reflectlite.TypeOf", "internal/reflectlite.ValueOf", "(internal/reflectlite.Value).Type", "(internal/reflectlite.Value).IsNil", "(internal/reflectlite.Value).Elem", "(internal/reflectlite.Value).Set"], unfollowed := true, recurses := true, named := ["sorites/dlex.errMany", "internal/bytealg.MaxLen", "sorites/dlex.errNone", "sorites/text.errForm", "errors.errorType"], apart := false, laid := [("errors.errorType", laid_errors_errorType), ("sorites/text.errForm", laid_sorites_text_errForm), ("sorites/dlex.errNone", laid_sorites_dlex_errNone), ("sorites/dlex.errMany", laid_sorites_dlex_errMany)] }
def DlexBlanksSaid : Prop := dlexBlanksRow.holds Tryd.pinned (OpenSpec.ofChange dlexBlanksSpec)

/-- ITS FALSE NEIGHBOUR: 'it returns false'. Refute it at one input. -/
def dlexBlanksWrong : ChangeSpec := { name := "dlexBlanks", fn := fun _ => fun
  | [d1, d2, d3, d4] => { results := [.lit (.bool false)], args := [d1, d2, d3, d4] }
  | _ => none }
def DlexBlanksWrongFalsely : Prop := dlexBlanksRow.holds Tryd.pinned (OpenSpec.ofChange dlexBlanksWrong)

/-- 'soriteslaw02.DlexLines': WHATEVER THE INPUT: true; the input reads as it did. -/
def dlexLinesSpec : ChangeSpec := { name := "dlexLines", fn := fun _ => fun
  | [d] => { results := [.lit (.bool true)], args := [d] }
  | _ => none }
def dlexLinesRow : OpenClaim := { program := "ytkfdklamfmnalaadoor", sum := "dacd9923a2839f874d163258e5744e0bb1496f9c4c73d2faffd62eafd7dbcac5", func := "sorites/soriteslaw02.DlexLines", spec := "dlexLines", inPlace := ["internal/bytealg.IndexByteString", "internal/bytealg.CountString", "internal/bytealg.IndexString", "internal/abi.NoEscape", "internal/reflectlite.TypeOf", "internal/reflectlite.ValueOf", "(internal/reflectlite.Value).Type", "(internal/reflectlite.Value).IsNil", "(internal/reflectlite.Value).Elem", "(internal/reflectlite.Value).Set"], unfollowed := true, recurses := true, named := ["sorites/dlex.errMany", "internal/bytealg.MaxLen", "sorites/dlex.errNone", "sorites/text.errForm", "errors.errorType"], apart := false, laid := [("errors.errorType", laid_errors_errorType), ("sorites/text.errForm", laid_sorites_text_errForm), ("sorites/dlex.errNone", laid_sorites_dlex_errNone), ("sorites/dlex.errMany", laid_sorites_dlex_errMany)] }
def DlexLinesSaid : Prop := dlexLinesRow.holds Tryd.pinned (OpenSpec.ofChange dlexLinesSpec)

/-- ITS FALSE NEIGHBOUR: 'it returns false'. Refute it at one input. -/
def dlexLinesWrong : ChangeSpec := { name := "dlexLines", fn := fun _ => fun
  | [d] => { results := [.lit (.bool false)], args := [d] }
  | _ => none }
def DlexLinesWrongFalsely : Prop := dlexLinesRow.holds Tryd.pinned (OpenSpec.ofChange dlexLinesWrong)

/- THE SECOND FORM. 'bulk': how many values and letters a reading holds, each counted each time it is reached (what is shared counts as often as it is met; a slice's spare places count too). A statement '..UptoSaid' is the law's where the arguments, and the package variables that the reading takes, are together of bulk at most 1048576: NARROWER than '..Said'. Prove '..Said' where nothing that the law and all that it calls make is longer than what came in: it says more and counts as full. Else prove '..UptoSaid'. A law counts once. -/
mutual
def uptoBulk {H : Type} : DataW H → Nat
  | .lit (.string bytes) => bytes.length + 1
  | .lit _ => 1
  | .nil => 1
  | .ptr d => uptoBulk d + 1
  | .slice elems spare => uptoBulkAll elems + uptoBulkAll spare + 1
  | .agg parts => uptoBulkAll parts + 1
  | .iface _ d => uptoBulk d + 1
  | .map entries => uptoBulkEntries entries + 1
  | .held _ => 1
def uptoBulkAll {H : Type} : List (DataW H) → Nat
  | [] => 0
  | d :: r => uptoBulk d + uptoBulkAll r
def uptoBulkEntries {H : Type} : List (Lit × DataW H) → Nat
  | [] => 0
  | x :: r => uptoBulkEntry x + uptoBulkEntries r
def uptoBulkEntry {H : Type} : Lit × DataW H → Nat
  | (.string bytes, d) => bytes.length + uptoBulk d + 1
  | (_, d) => uptoBulk d + 1
 end
def uptoSmall : (H : Type) → List (DataW H) → Bool := fun _ ds => decide (uptoBulkAll ds ≤ 1048576)
def OpenSpec.upto (s : _root_.Go.ChangeSpec) : _root_.Go.OpenSpec := { _root_.Go.OpenSpec.ofChange s with cond := some uptoSmall }

/-- 'soriteslaw01.TextNums', WHERE WHAT IT READS IS OF BULK AT MOST 1048576: true; the input reads as it did. -/
def textNumsUptoRow : OpenClaim := { program := "ytkfdklamfmnalaadoor", sum := "dacd9923a2839f874d163258e5744e0bb1496f9c4c73d2faffd62eafd7dbcac5", func := "sorites/soriteslaw01.TextNums", spec := "textNums", inPlace := ["internal/reflectlite.TypeOf", "internal/abi.NoEscape", "internal/bytealg.MakeNoZero"], unfollowed := true, recurses := true, named := ["sorites/text.errForm", "internal/strconv.uint64pow10", "math/bits.deBruijn32tab", "math/bits.deBruijn64tab"], apart := false, laid := [("math/bits.deBruijn32tab", laid_math_bits_deBruijn32tab), ("math/bits.deBruijn64tab", laid_math_bits_deBruijn64tab), ("internal/strconv.uint64pow10", laid_internal_strconv_uint64pow10), ("sorites/text.errForm", laid_sorites_text_errForm)], narrowed := true }
def TextNumsUptoSaid : Prop := textNumsUptoRow.holds Tryd.pinned (OpenSpec.upto textNumsSpec)

/-- 'soriteslaw01.TextSyms', WHERE WHAT IT READS IS OF BULK AT MOST 1048576: true; the input reads as it did. -/
def textSymsUptoRow : OpenClaim := { program := "ytkfdklamfmnalaadoor", sum := "dacd9923a2839f874d163258e5744e0bb1496f9c4c73d2faffd62eafd7dbcac5", func := "sorites/soriteslaw01.TextSyms", spec := "textSyms", inPlace := ["internal/reflectlite.TypeOf", "internal/abi.NoEscape", "internal/bytealg.MakeNoZero", "internal/bytealg.IndexByteString"], unfollowed := true, recurses := true, named := ["sorites/text.errForm", "internal/strconv.uint64pow10", "math/bits.deBruijn32tab", "math/bits.deBruijn64tab"], apart := false, laid := [("math/bits.deBruijn32tab", laid_math_bits_deBruijn32tab), ("math/bits.deBruijn64tab", laid_math_bits_deBruijn64tab), ("internal/strconv.uint64pow10", laid_internal_strconv_uint64pow10), ("sorites/text.errForm", laid_sorites_text_errForm)], narrowed := true }
def TextSymsUptoSaid : Prop := textSymsUptoRow.holds Tryd.pinned (OpenSpec.upto textSymsSpec)

/-- 'soriteslaw01.TextNames', WHERE WHAT IT READS IS OF BULK AT MOST 1048576: true; the input reads as it did. -/
def textNamesUptoRow : OpenClaim := { program := "ytkfdklamfmnalaadoor", sum := "dacd9923a2839f874d163258e5744e0bb1496f9c4c73d2faffd62eafd7dbcac5", func := "sorites/soriteslaw01.TextNames", spec := "textNames", inPlace := ["internal/reflectlite.TypeOf", "internal/abi.NoEscape", "internal/bytealg.MakeNoZero"], unfollowed := true, recurses := true, named := ["sorites/text.errForm", "internal/strconv.uint64pow10", "math/bits.deBruijn32tab", "math/bits.deBruijn64tab"], apart := false, laid := [("math/bits.deBruijn32tab", laid_math_bits_deBruijn32tab), ("math/bits.deBruijn64tab", laid_math_bits_deBruijn64tab), ("internal/strconv.uint64pow10", laid_internal_strconv_uint64pow10), ("sorites/text.errForm", laid_sorites_text_errForm)], narrowed := true }
def TextNamesUptoSaid : Prop := textNamesUptoRow.holds Tryd.pinned (OpenSpec.upto textNamesSpec)

/-- 'soriteslaw01.TextBack', WHERE WHAT IT READS IS OF BULK AT MOST 1048576: true; the input reads as it did. -/
def textBackUptoRow : OpenClaim := { program := "ytkfdklamfmnalaadoor", sum := "dacd9923a2839f874d163258e5744e0bb1496f9c4c73d2faffd62eafd7dbcac5", func := "sorites/soriteslaw01.TextBack", spec := "textBack", inPlace := ["internal/reflectlite.TypeOf", "internal/abi.NoEscape", "internal/bytealg.MakeNoZero", "internal/bytealg.IndexByteString"], unfollowed := true, recurses := true, named := ["sorites/text.errForm", "internal/strconv.uint64pow10", "math/bits.deBruijn32tab", "math/bits.deBruijn64tab"], apart := false, laid := [("math/bits.deBruijn32tab", laid_math_bits_deBruijn32tab), ("math/bits.deBruijn64tab", laid_math_bits_deBruijn64tab), ("internal/strconv.uint64pow10", laid_internal_strconv_uint64pow10), ("sorites/text.errForm", laid_sorites_text_errForm)], narrowed := true }
def TextBackUptoSaid : Prop := textBackUptoRow.holds Tryd.pinned (OpenSpec.upto textBackSpec)

/-- 'soriteslaw01.TextApart', WHERE WHAT IT READS IS OF BULK AT MOST 1048576: true; the input reads as it did. -/
def textApartUptoRow : OpenClaim := { program := "ytkfdklamfmnalaadoor", sum := "dacd9923a2839f874d163258e5744e0bb1496f9c4c73d2faffd62eafd7dbcac5", func := "sorites/soriteslaw01.TextApart", spec := "textApart", inPlace := ["internal/reflectlite.TypeOf", "internal/abi.NoEscape", "internal/bytealg.MakeNoZero"], unfollowed := true, recurses := true, named := ["sorites/text.errForm", "internal/strconv.uint64pow10", "math/bits.deBruijn32tab", "math/bits.deBruijn64tab"], apart := false, laid := [("math/bits.deBruijn32tab", laid_math_bits_deBruijn32tab), ("math/bits.deBruijn64tab", laid_math_bits_deBruijn64tab), ("internal/strconv.uint64pow10", laid_internal_strconv_uint64pow10), ("sorites/text.errForm", laid_sorites_text_errForm)], narrowed := true }
def TextApartUptoSaid : Prop := textApartUptoRow.holds Tryd.pinned (OpenSpec.upto textApartSpec)

/-- 'soriteslaw01.TextJoins', WHERE WHAT IT READS IS OF BULK AT MOST 1048576: true; the input reads as it did. -/
def textJoinsUptoRow : OpenClaim := { program := "ytkfdklamfmnalaadoor", sum := "dacd9923a2839f874d163258e5744e0bb1496f9c4c73d2faffd62eafd7dbcac5", func := "sorites/soriteslaw01.TextJoins", spec := "textJoins", inPlace := ["internal/reflectlite.TypeOf", "internal/abi.NoEscape", "internal/bytealg.MakeNoZero"], unfollowed := true, recurses := true, named := ["sorites/text.errForm", "internal/strconv.uint64pow10", "math/bits.deBruijn32tab", "math/bits.deBruijn64tab"], apart := false, laid := [("math/bits.deBruijn32tab", laid_math_bits_deBruijn32tab), ("math/bits.deBruijn64tab", laid_math_bits_deBruijn64tab), ("internal/strconv.uint64pow10", laid_internal_strconv_uint64pow10), ("sorites/text.errForm", laid_sorites_text_errForm)], narrowed := true }
def TextJoinsUptoSaid : Prop := textJoinsUptoRow.holds Tryd.pinned (OpenSpec.upto textJoinsSpec)

/-- 'soriteslaw02.DlexBack', WHERE WHAT IT READS IS OF BULK AT MOST 1048576: true; the input reads as it did. -/
def dlexBackUptoRow : OpenClaim := { program := "ytkfdklamfmnalaadoor", sum := "dacd9923a2839f874d163258e5744e0bb1496f9c4c73d2faffd62eafd7dbcac5", func := "sorites/soriteslaw02.DlexBack", spec := "dlexBack", inPlace := ["internal/bytealg.IndexByteString", "internal/bytealg.CountString", "internal/bytealg.IndexString", "internal/abi.NoEscape", "internal/reflectlite.TypeOf", "internal/reflectlite.ValueOf", "(internal/reflectlite.Value).Type", "(internal/reflectlite.Value).IsNil", "(internal/reflectlite.Value).Elem", "(internal/reflectlite.Value).Set", "internal/bytealg.MakeNoZero"], unfollowed := true, recurses := true, named := ["sorites/dlex.errMany", "internal/bytealg.MaxLen", "sorites/dlex.errNone", "sorites/text.errForm", "errors.errorType"], apart := false, laid := [("errors.errorType", laid_errors_errorType), ("sorites/text.errForm", laid_sorites_text_errForm), ("sorites/dlex.errNone", laid_sorites_dlex_errNone), ("sorites/dlex.errMany", laid_sorites_dlex_errMany)], narrowed := true }
def DlexBackUptoSaid : Prop := dlexBackUptoRow.holds Tryd.pinned (OpenSpec.upto dlexBackSpec)

/-- 'soriteslaw02.DlexBlanks', WHERE WHAT IT READS IS OF BULK AT MOST 1048576: true; the input reads as it did. -/
def dlexBlanksUptoRow : OpenClaim := { program := "ytkfdklamfmnalaadoor", sum := "dacd9923a2839f874d163258e5744e0bb1496f9c4c73d2faffd62eafd7dbcac5", func := "sorites/soriteslaw02.DlexBlanks", spec := "dlexBlanks", inPlace := ["internal/bytealg.IndexByteString", "internal/bytealg.CountString", "internal/bytealg.IndexString", "internal/abi.NoEscape", "internal/reflectlite.TypeOf", "internal/reflectlite.ValueOf", "(internal/reflectlite.Value).Type", "(internal/reflectlite.Value).IsNil", "(internal/reflectlite.Value).Elem", "(internal/reflectlite.Value).Set"], unfollowed := true, recurses := true, named := ["sorites/dlex.errMany", "internal/bytealg.MaxLen", "sorites/dlex.errNone", "sorites/text.errForm", "errors.errorType"], apart := false, laid := [("errors.errorType", laid_errors_errorType), ("sorites/text.errForm", laid_sorites_text_errForm), ("sorites/dlex.errNone", laid_sorites_dlex_errNone), ("sorites/dlex.errMany", laid_sorites_dlex_errMany)], narrowed := true }
def DlexBlanksUptoSaid : Prop := dlexBlanksUptoRow.holds Tryd.pinned (OpenSpec.upto dlexBlanksSpec)

/-- 'soriteslaw02.DlexLines', WHERE WHAT IT READS IS OF BULK AT MOST 1048576: true; the input reads as it did. -/
def dlexLinesUptoRow : OpenClaim := { program := "ytkfdklamfmnalaadoor", sum := "dacd9923a2839f874d163258e5744e0bb1496f9c4c73d2faffd62eafd7dbcac5", func := "sorites/soriteslaw02.DlexLines", spec := "dlexLines", inPlace := ["internal/bytealg.IndexByteString", "internal/bytealg.CountString", "internal/bytealg.IndexString", "internal/abi.NoEscape", "internal/reflectlite.TypeOf", "internal/reflectlite.ValueOf", "(internal/reflectlite.Value).Type", "(internal/reflectlite.Value).IsNil", "(internal/reflectlite.Value).Elem", "(internal/reflectlite.Value).Set"], unfollowed := true, recurses := true, named := ["sorites/dlex.errMany", "internal/bytealg.MaxLen", "sorites/dlex.errNone", "sorites/text.errForm", "errors.errorType"], apart := false, laid := [("errors.errorType", laid_errors_errorType), ("sorites/text.errForm", laid_sorites_text_errForm), ("sorites/dlex.errNone", laid_sorites_dlex_errNone), ("sorites/dlex.errMany", laid_sorites_dlex_errMany)], narrowed := true }
def DlexLinesUptoSaid : Prop := dlexLinesUptoRow.holds Tryd.pinned (OpenSpec.upto dlexLinesSpec)

end Rows
end Go.Proofs.YtkfdklamfmnalaaDoor
