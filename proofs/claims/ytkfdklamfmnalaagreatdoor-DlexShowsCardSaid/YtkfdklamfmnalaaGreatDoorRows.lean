/-
  NARROWER THAN 'FOR EVERY INPUT', by the rows' own cells (each row's printed sentence says how): DlexLexes: laid · DlexLong: laid · DlexShows: laid.
  DERIVED. THE GIVEN ROWS OF THIS SEAT. 3 by the template 'for every input the law returns true; each argument reads behind the call as it read before'; 0 by the template 'total and deterministic' (their statements: YtkfdklamfmnalaaGreatDoorTotals.lean).
  GIVEN WITH THE SEED: the statements are not yours to turn. If you find one false, say at which input.
  Laid BY PROGRAM, IN A SANDBOX (cutbox-rows.mjs): the forced cells as the released guide's own fill.sh prints them over the translation 09a578cf722845a5… (all of the seat's roots in one cut). By AI agents, Wed Nov 11 2026. No macro, syntax, notation, axiom, sorry.
-/
import Derived.Test.YtkfdklamfmnalaaGreatDoorChecked
import GoSem.Claim
import GoSem.ClaimJoined
import GoSem.ClaimMapViews
import Derived.JoinedTies
import Derived.KernelRfl
namespace Go.Proofs.YtkfdklamfmnalaaGreatDoor
/- THE CELL 'sum', in the pinned program and in every row, IS THE sha256 OF THE DUMP (.gsa) THAT YtkfdklamfmnalaaGreatDoorProg.lean LOADS. Nothing in Lean hashes anything: it is a label: what it is worth is what the hold of that sum in a sandbox is worth. -/
noncomputable def Tryz.pinned : Pinned := { name := "ytkfdklamfmnalaagreatdoor", sum := "09a578cf722845a5ceaf75e9c25608d417a66c0ca59ab977361832d28d47328c", checked := Tryz.checked }
namespace Rows
def none {H : Type} : Left H := { results := [], args := [] }

/- WHAT THE LISTED PACKAGE-LEVEL VARIABLES READ AS WHEN THE CALL BEGINS. Each datum BY PROGRAM (the guide's laid-datum.mjs) off the statement by which the dump's own 'gosem.cut.vars' lays the variable. In a bare row this is a premise. The card (YtkfdklamfmnalaaGreatDoorCards.lean) ties it to the program's text. -/
def laid_errors_errorType {H : Type} : DataW H := .iface "internal/reflectlite.rtype" (.agg [.ptr (.lit (.string [101, 114, 114, 111, 114]))])
def laid_sorites_text_errForm {H : Type} : DataW H := .iface "*errors.errorString" (.ptr (.agg [.lit (.string [116, 101, 120, 116, 58, 32, 110, 111, 32, 115, 117, 99, 104, 32, 102, 111, 114, 109])]))
def laid_sorites_dlex_errNone {H : Type} : DataW H := .iface "*errors.errorString" (.ptr (.agg [.lit (.string [100, 108, 101, 120, 58, 32, 110, 111, 32, 116, 111, 107, 101, 110])]))
def laid_sorites_dlex_errMany {H : Type} : DataW H := .iface "*errors.errorString" (.ptr (.agg [.lit (.string [100, 108, 101, 120, 58, 32, 116, 111, 111, 32, 109, 97, 110, 121, 32, 116, 111, 107, 101, 110, 115])]))

/-- 'soriteslaw02.DlexLexes': WHATEVER THE INPUT: true; the input reads as it did. -/
def dlexLexesSpec : ChangeSpec := { name := "dlexLexes", fn := fun _ => fun
  | [d] => { results := [.lit (.bool true)], args := [d] }
  | _ => none }
def dlexLexesRow : OpenClaim := { program := "ytkfdklamfmnalaagreatdoor", sum := "09a578cf722845a5ceaf75e9c25608d417a66c0ca59ab977361832d28d47328c", func := "sorites/soriteslaw02.DlexLexes", spec := "dlexLexes", inPlace := ["internal/bytealg.IndexByteString", "internal/bytealg.CountString", "internal/bytealg.IndexString", "internal/abi.NoEscape", "internal/reflectlite.TypeOf", "internal/reflectlite.ValueOf", "(internal/reflectlite.Value).Type", "(internal/reflectlite.Value).IsNil", "(internal/reflectlite.Value).Elem", "(internal/reflectlite.Value).Set"], unfollowed := true, recurses := true, named := ["sorites/dlex.errMany", "internal/bytealg.MaxLen", "sorites/dlex.errNone", "sorites/text.errForm", "errors.errorType"], apart := false, laid := [("errors.errorType", laid_errors_errorType), ("sorites/text.errForm", laid_sorites_text_errForm), ("sorites/dlex.errNone", laid_sorites_dlex_errNone), ("sorites/dlex.errMany", laid_sorites_dlex_errMany)] }
def DlexLexesSaid : Prop := dlexLexesRow.holds Tryz.pinned (OpenSpec.ofChange dlexLexesSpec)

/-- ITS FALSE NEIGHBOUR: 'it returns false'. Refute it at one input. -/
def dlexLexesWrong : ChangeSpec := { name := "dlexLexes", fn := fun _ => fun
  | [d] => { results := [.lit (.bool false)], args := [d] }
  | _ => none }
def DlexLexesWrongFalsely : Prop := dlexLexesRow.holds Tryz.pinned (OpenSpec.ofChange dlexLexesWrong)

/-- 'soriteslaw02.DlexLong': WHATEVER THE INPUT: true; the input reads as it did. -/
def dlexLongSpec : ChangeSpec := { name := "dlexLong", fn := fun _ => fun
  | [d1, d2] => { results := [.lit (.bool true)], args := [d1, d2] }
  | _ => none }
def dlexLongRow : OpenClaim := { program := "ytkfdklamfmnalaagreatdoor", sum := "09a578cf722845a5ceaf75e9c25608d417a66c0ca59ab977361832d28d47328c", func := "sorites/soriteslaw02.DlexLong", spec := "dlexLong", inPlace := ["internal/bytealg.IndexByteString", "internal/bytealg.CountString", "internal/bytealg.IndexString", "internal/abi.NoEscape", "internal/reflectlite.TypeOf", "internal/reflectlite.ValueOf", "(internal/reflectlite.Value).Type", "(internal/reflectlite.Value).IsNil", "(internal/reflectlite.Value).Elem", "(internal/reflectlite.Value).Set"], unfollowed := true, recurses := true, named := ["sorites/dlex.errMany", "internal/bytealg.MaxLen", "sorites/dlex.errNone", "sorites/text.errForm", "errors.errorType"], apart := false, laid := [("errors.errorType", laid_errors_errorType), ("sorites/text.errForm", laid_sorites_text_errForm), ("sorites/dlex.errNone", laid_sorites_dlex_errNone), ("sorites/dlex.errMany", laid_sorites_dlex_errMany)] }
def DlexLongSaid : Prop := dlexLongRow.holds Tryz.pinned (OpenSpec.ofChange dlexLongSpec)

/-- ITS FALSE NEIGHBOUR: 'it returns false'. Refute it at one input. -/
def dlexLongWrong : ChangeSpec := { name := "dlexLong", fn := fun _ => fun
  | [d1, d2] => { results := [.lit (.bool false)], args := [d1, d2] }
  | _ => none }
def DlexLongWrongFalsely : Prop := dlexLongRow.holds Tryz.pinned (OpenSpec.ofChange dlexLongWrong)

/-- 'soriteslaw02.DlexShows': WHATEVER THE INPUT: true; the input reads as it did. -/
def dlexShowsSpec : ChangeSpec := { name := "dlexShows", fn := fun _ => fun
  | [d] => { results := [.lit (.bool true)], args := [d] }
  | _ => none }
def dlexShowsRow : OpenClaim := { program := "ytkfdklamfmnalaagreatdoor", sum := "09a578cf722845a5ceaf75e9c25608d417a66c0ca59ab977361832d28d47328c", func := "sorites/soriteslaw02.DlexShows", spec := "dlexShows", inPlace := ["internal/bytealg.IndexByteString", "internal/bytealg.CountString", "internal/bytealg.IndexString", "internal/abi.NoEscape", "internal/reflectlite.TypeOf", "internal/reflectlite.ValueOf", "(internal/reflectlite.Value).Type", "(internal/reflectlite.Value).IsNil", "(internal/reflectlite.Value).Elem", "(internal/reflectlite.Value).Set", "internal/bytealg.MakeNoZero"], unfollowed := true, recurses := true, named := ["sorites/dlex.errMany", "internal/bytealg.MaxLen", "sorites/dlex.errNone", "sorites/text.errForm", "errors.errorType"], apart := false, laid := [("errors.errorType", laid_errors_errorType), ("sorites/text.errForm", laid_sorites_text_errForm), ("sorites/dlex.errNone", laid_sorites_dlex_errNone), ("sorites/dlex.errMany", laid_sorites_dlex_errMany)] }
def DlexShowsSaid : Prop := dlexShowsRow.holds Tryz.pinned (OpenSpec.ofChange dlexShowsSpec)

/-- ITS FALSE NEIGHBOUR: 'it returns false'. Refute it at one input. -/
def dlexShowsWrong : ChangeSpec := { name := "dlexShows", fn := fun _ => fun
  | [d] => { results := [.lit (.bool false)], args := [d] }
  | _ => none }
def DlexShowsWrongFalsely : Prop := dlexShowsRow.holds Tryz.pinned (OpenSpec.ofChange dlexShowsWrong)

/- THE SECOND FORM. 'bulk': how many values and letters a reading holds, each counted each time it is reached (what is shared counts as often as it is met; a slice's spare places count too). A statement '..UptoSaid' is the law's where the arguments, and the package variables that the reading takes, are together of bulk at most 1048576: NARROWER than '..Said'. Prove '..Said' where nothing that the law and all that it calls make is longer than what came in: it says more and counts as full. Else prove '..UptoSaid'. A law counts once. -/
mutual
def uptoBulk {H : Type} : DataW H → Nat
  | .lit (.string bytes) => bytes.length + 1
  | .lit _ => 1
  | .nil => 1
  | .ptr d => uptoBulk d + 1
  | .slice elems spare => uptoBulkAll elems + uptoBulkAll spare + 1
  | .agg parts => uptoBulkAll parts + 1
  | .iface _ d => uptoBulk d + 1
  | .map entries => uptoBulkEntries entries + 1
  | .held _ => 1
def uptoBulkAll {H : Type} : List (DataW H) → Nat
  | [] => 0
  | d :: r => uptoBulk d + uptoBulkAll r
def uptoBulkEntries {H : Type} : List (Lit × DataW H) → Nat
  | [] => 0
  | x :: r => uptoBulkEntry x + uptoBulkEntries r
def uptoBulkEntry {H : Type} : Lit × DataW H → Nat
  | (.string bytes, d) => bytes.length + uptoBulk d + 1
  | (_, d) => uptoBulk d + 1
 end
def uptoSmall : (H : Type) → List (DataW H) → Bool := fun _ ds => decide (uptoBulkAll ds ≤ 1048576)
def OpenSpec.upto (s : _root_.Go.ChangeSpec) : _root_.Go.OpenSpec := { _root_.Go.OpenSpec.ofChange s with cond := some uptoSmall }

/-- 'soriteslaw02.DlexLexes', WHERE WHAT IT READS IS OF BULK AT MOST 1048576: true; the input reads as it did. -/
def dlexLexesUptoRow : OpenClaim := { program := "ytkfdklamfmnalaagreatdoor", sum := "09a578cf722845a5ceaf75e9c25608d417a66c0ca59ab977361832d28d47328c", func := "sorites/soriteslaw02.DlexLexes", spec := "dlexLexes", inPlace := ["internal/bytealg.IndexByteString", "internal/bytealg.CountString", "internal/bytealg.IndexString", "internal/abi.NoEscape", "internal/reflectlite.TypeOf", "internal/reflectlite.ValueOf", "(internal/reflectlite.Value).Type", "(internal/reflectlite.Value).IsNil", "(internal/reflectlite.Value).Elem", "(internal/reflectlite.Value).Set"], unfollowed := true, recurses := true, named := ["sorites/dlex.errMany", "internal/bytealg.MaxLen", "sorites/dlex.errNone", "sorites/text.errForm", "errors.errorType"], apart := false, laid := [("errors.errorType", laid_errors_errorType), ("sorites/text.errForm", laid_sorites_text_errForm), ("sorites/dlex.errNone", laid_sorites_dlex_errNone), ("sorites/dlex.errMany", laid_sorites_dlex_errMany)], narrowed := true }
def DlexLexesUptoSaid : Prop := dlexLexesUptoRow.holds Tryz.pinned (OpenSpec.upto dlexLexesSpec)

/-- 'soriteslaw02.DlexLong', WHERE WHAT IT READS IS OF BULK AT MOST 1048576: true; the input reads as it did. -/
def dlexLongUptoRow : OpenClaim := { program := "ytkfdklamfmnalaagreatdoor", sum := "09a578cf722845a5ceaf75e9c25608d417a66c0ca59ab977361832d28d47328c", func := "sorites/soriteslaw02.DlexLong", spec := "dlexLong", inPlace := ["internal/bytealg.IndexByteString", "internal/bytealg.CountString", "internal/bytealg.IndexString", "internal/abi.NoEscape", "internal/reflectlite.TypeOf", "internal/reflectlite.ValueOf", "(internal/reflectlite.Value).Type", "(internal/reflectlite.Value).IsNil", "(internal/reflectlite.Value).Elem", "(internal/reflectlite.Value).Set"], unfollowed := true, recurses := true, named := ["sorites/dlex.errMany", "internal/bytealg.MaxLen", "sorites/dlex.errNone", "sorites/text.errForm", "errors.errorType"], apart := false, laid := [("errors.errorType", laid_errors_errorType), ("sorites/text.errForm", laid_sorites_text_errForm), ("sorites/dlex.errNone", laid_sorites_dlex_errNone), ("sorites/dlex.errMany", laid_sorites_dlex_errMany)], narrowed := true }
def DlexLongUptoSaid : Prop := dlexLongUptoRow.holds Tryz.pinned (OpenSpec.upto dlexLongSpec)

/-- 'soriteslaw02.DlexShows', WHERE WHAT IT READS IS OF BULK AT MOST 1048576: true; the input reads as it did. -/
def dlexShowsUptoRow : OpenClaim := { program := "ytkfdklamfmnalaagreatdoor", sum := "09a578cf722845a5ceaf75e9c25608d417a66c0ca59ab977361832d28d47328c", func := "sorites/soriteslaw02.DlexShows", spec := "dlexShows", inPlace := ["internal/bytealg.IndexByteString", "internal/bytealg.CountString", "internal/bytealg.IndexString", "internal/abi.NoEscape", "internal/reflectlite.TypeOf", "internal/reflectlite.ValueOf", "(internal/reflectlite.Value).Type", "(internal/reflectlite.Value).IsNil", "(internal/reflectlite.Value).Elem", "(internal/reflectlite.Value).Set", "internal/bytealg.MakeNoZero"], unfollowed := true, recurses := true, named := ["sorites/dlex.errMany", "internal/bytealg.MaxLen", "sorites/dlex.errNone", "sorites/text.errForm", "errors.errorType"], apart := false, laid := [("errors.errorType", laid_errors_errorType), ("sorites/text.errForm", laid_sorites_text_errForm), ("sorites/dlex.errNone", laid_sorites_dlex_errNone), ("sorites/dlex.errMany", laid_sorites_dlex_errMany)], narrowed := true }
def DlexShowsUptoSaid : Prop := dlexShowsUptoRow.holds Tryz.pinned (OpenSpec.upto dlexShowsSpec)

end Rows
end Go.Proofs.YtkfdklamfmnalaaGreatDoor
