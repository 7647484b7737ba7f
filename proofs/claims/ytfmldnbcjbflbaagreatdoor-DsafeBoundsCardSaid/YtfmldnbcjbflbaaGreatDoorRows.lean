/-
  NARROWER THAN 'FOR EVERY INPUT', by the rows' own cells (each row's printed sentence says how): DtypeChecks: loops, laid · DsafeOrders: loops, laid · DsafeBounds: loops, laid · DsafeChecks: loops, laid.
  DERIVED. THE GIVEN ROWS OF THIS SEAT. 4 by the template 'for every input the law returns true; each argument reads behind the call as it read before'; 0 by the template 'total and deterministic' (their statements: YtfmldnbcjbflbaaGreatDoorTotals.lean).
  GIVEN WITH THE SEED: the statements are not yours to turn. If you find one false, say at which input.
  Laid BY PROGRAM, IN A SANDBOX (cutbox-rows.mjs): the forced cells as the released guide's own fill.sh prints them over the translation 2f0683e906077059… (all of the seat's roots in one cut). By AI agents, Wed Nov 11 2026. No macro, syntax, notation, axiom, sorry.
-/
import Derived.Test.YtfmldnbcjbflbaaGreatDoorChecked
import GoSem.Claim
import GoSem.ClaimJoined
import GoSem.ClaimMapViews
import Derived.JoinedTies
import Derived.KernelRfl
namespace Go.Proofs.YtfmldnbcjbflbaaGreatDoor
/- THE CELL 'sum', in the pinned program and in every row, IS THE sha256 OF THE DUMP (.gsa) THAT YtfmldnbcjbflbaaGreatDoorProg.lean LOADS. Nothing in Lean hashes anything: it is a label: what it is worth is what the hold of that sum in a sandbox is worth. -/
noncomputable def Tryz.pinned : Pinned := { name := "ytfmldnbcjbflbaagreatdoor", sum := "2f0683e906077059237f6bce13f6af0acf1ed095690fc53eaece1ae561359cd6", checked := Tryz.checked }
namespace Rows
def none {H : Type} : Left H := { results := [], args := [] }

/- WHAT THE LISTED PACKAGE-LEVEL VARIABLES READ AS WHEN THE CALL BEGINS. Each datum BY PROGRAM (the guide's laid-datum.mjs) off the statement by which the dump's own 'gosem.cut.vars' lays the variable. In a bare row this is a premise. The card (YtfmldnbcjbflbaaGreatDoorCards.lean) ties it to the program's text. -/
def laid_sorites_dtree_errTree {H : Type} : DataW H := .iface "*errors.errorString" (.ptr (.agg [.lit (.string [100, 116, 114, 101, 101, 58, 32, 110, 111, 32, 114, 105, 103, 104, 116, 32, 116, 114, 101, 101])]))
def laid_sorites_dtype_errTwice {H : Type} : DataW H := .iface "*errors.errorString" (.ptr (.agg [.lit (.string [100, 116, 121, 112, 101, 58, 32, 97, 32, 114, 101, 108, 97, 116, 105, 111, 110, 32, 111, 102, 32, 97, 32, 110, 97, 109, 101, 32, 116, 104, 97, 116, 32, 116, 104, 101, 114, 101, 32, 105, 115])]))
def laid_sorites_dtype_errNoRel {H : Type} : DataW H := .iface "*errors.errorString" (.ptr (.agg [.lit (.string [100, 116, 121, 112, 101, 58, 32, 110, 111, 32, 114, 101, 108, 97, 116, 105, 111, 110, 32, 111, 102, 32, 116, 104, 97, 116, 32, 110, 97, 109, 101])]))
def laid_sorites_dtype_errArity {H : Type} : DataW H := .iface "*errors.errorString" (.ptr (.agg [.lit (.string [100, 116, 121, 112, 101, 58, 32, 110, 111, 116, 32, 97, 115, 32, 109, 97, 110, 121, 32, 97, 114, 103, 117, 109, 101, 110, 116, 115, 32, 97, 115, 32, 99, 111, 108, 117, 109, 110, 115])]))
def laid_sorites_dtype_errType {H : Type} : DataW H := .iface "*errors.errorString" (.ptr (.agg [.lit (.string [100, 116, 121, 112, 101, 58, 32, 110, 111, 32, 116, 121, 112, 101, 44, 32, 111, 114, 32, 109, 111, 114, 101, 32, 116, 104, 97, 110, 32, 111, 110, 101])]))
def laid_sorites_dsafe_errTree {H : Type} : DataW H := .iface "*errors.errorString" (.ptr (.agg [.lit (.string [100, 115, 97, 102, 101, 58, 32, 110, 111, 32, 114, 105, 103, 104, 116, 32, 114, 117, 108, 101])]))
def laid_sorites_dsafe_errUnsafe {H : Type} : DataW H := .iface "*errors.errorString" (.ptr (.agg [.lit (.string [100, 115, 97, 102, 101, 58, 32, 110, 111, 32, 115, 97, 102, 101, 32, 114, 117, 108, 101])]))

/-- 'soriteslaw05.DtypeChecks': WHATEVER THE INPUT: true; the input reads as it did. -/
def dtypeChecksSpec : ChangeSpec := { name := "dtypeChecks", fn := fun _ => fun
  | [d] => { results := [.lit (.bool true)], args := [d] }
  | _ => none }
def dtypeChecksRow : OpenClaim := { program := "ytfmldnbcjbflbaagreatdoor", sum := "2f0683e906077059237f6bce13f6af0acf1ed095690fc53eaece1ae561359cd6", func := "sorites/soriteslaw05.DtypeChecks", spec := "dtypeChecks", inPlace := ["internal/reflectlite.TypeOf"], unfollowed := true, recurses := true, named := ["sorites/dtree.errTree", "sorites/dtype.errType", "sorites/dtype.errNoRel", "sorites/dtype.errArity", "sorites/dtype.errTwice"], loops := true, apart := false, laid := [("sorites/dtree.errTree", laid_sorites_dtree_errTree), ("sorites/dtype.errTwice", laid_sorites_dtype_errTwice), ("sorites/dtype.errNoRel", laid_sorites_dtype_errNoRel), ("sorites/dtype.errArity", laid_sorites_dtype_errArity), ("sorites/dtype.errType", laid_sorites_dtype_errType)] }
def DtypeChecksSaid : Prop := dtypeChecksRow.holds Tryz.pinned (OpenSpec.ofChange dtypeChecksSpec)

/-- ITS FALSE NEIGHBOUR: 'it returns false'. Refute it at one input. -/
def dtypeChecksWrong : ChangeSpec := { name := "dtypeChecks", fn := fun _ => fun
  | [d] => { results := [.lit (.bool false)], args := [d] }
  | _ => none }
def DtypeChecksWrongFalsely : Prop := dtypeChecksRow.holds Tryz.pinned (OpenSpec.ofChange dtypeChecksWrong)

/-- 'soriteslaw06.DsafeOrders': WHATEVER THE INPUT: true; the input reads as it did. -/
def dsafeOrdersSpec : ChangeSpec := { name := "dsafeOrders", fn := fun _ => fun
  | [d] => { results := [.lit (.bool true)], args := [d] }
  | _ => none }
def dsafeOrdersRow : OpenClaim := { program := "ytfmldnbcjbflbaagreatdoor", sum := "2f0683e906077059237f6bce13f6af0acf1ed095690fc53eaece1ae561359cd6", func := "sorites/soriteslaw06.DsafeOrders", spec := "dsafeOrders", inPlace := ["internal/reflectlite.TypeOf"], unfollowed := true, recurses := true, named := ["sorites/dsafe.errTree", "sorites/dtree.errTree", "sorites/dsafe.errUnsafe"], loops := true, apart := false, laid := [("sorites/dtree.errTree", laid_sorites_dtree_errTree), ("sorites/dsafe.errTree", laid_sorites_dsafe_errTree), ("sorites/dsafe.errUnsafe", laid_sorites_dsafe_errUnsafe)] }
def DsafeOrdersSaid : Prop := dsafeOrdersRow.holds Tryz.pinned (OpenSpec.ofChange dsafeOrdersSpec)

/-- ITS FALSE NEIGHBOUR: 'it returns false'. Refute it at one input. -/
def dsafeOrdersWrong : ChangeSpec := { name := "dsafeOrders", fn := fun _ => fun
  | [d] => { results := [.lit (.bool false)], args := [d] }
  | _ => none }
def DsafeOrdersWrongFalsely : Prop := dsafeOrdersRow.holds Tryz.pinned (OpenSpec.ofChange dsafeOrdersWrong)

/-- 'soriteslaw06.DsafeBounds': WHATEVER THE INPUT: true; the input reads as it did. -/
def dsafeBoundsSpec : ChangeSpec := { name := "dsafeBounds", fn := fun _ => fun
  | [d1, d2] => { results := [.lit (.bool true)], args := [d1, d2] }
  | _ => none }
def dsafeBoundsRow : OpenClaim := { program := "ytfmldnbcjbflbaagreatdoor", sum := "2f0683e906077059237f6bce13f6af0acf1ed095690fc53eaece1ae561359cd6", func := "sorites/soriteslaw06.DsafeBounds", spec := "dsafeBounds", inPlace := ["internal/reflectlite.TypeOf"], unfollowed := true, recurses := true, named := ["sorites/dsafe.errTree", "sorites/dtree.errTree", "sorites/dsafe.errUnsafe"], loops := true, apart := false, laid := [("sorites/dtree.errTree", laid_sorites_dtree_errTree), ("sorites/dsafe.errTree", laid_sorites_dsafe_errTree), ("sorites/dsafe.errUnsafe", laid_sorites_dsafe_errUnsafe)] }
def DsafeBoundsSaid : Prop := dsafeBoundsRow.holds Tryz.pinned (OpenSpec.ofChange dsafeBoundsSpec)

/-- ITS FALSE NEIGHBOUR: 'it returns false'. Refute it at one input. -/
def dsafeBoundsWrong : ChangeSpec := { name := "dsafeBounds", fn := fun _ => fun
  | [d1, d2] => { results := [.lit (.bool false)], args := [d1, d2] }
  | _ => none }
def DsafeBoundsWrongFalsely : Prop := dsafeBoundsRow.holds Tryz.pinned (OpenSpec.ofChange dsafeBoundsWrong)

/-- 'soriteslaw06.DsafeChecks': WHATEVER THE INPUT: true; the input reads as it did. -/
def dsafeChecksSpec : ChangeSpec := { name := "dsafeChecks", fn := fun _ => fun
  | [d] => { results := [.lit (.bool true)], args := [d] }
  | _ => none }
def dsafeChecksRow : OpenClaim := { program := "ytfmldnbcjbflbaagreatdoor", sum := "2f0683e906077059237f6bce13f6af0acf1ed095690fc53eaece1ae561359cd6", func := "sorites/soriteslaw06.DsafeChecks", spec := "dsafeChecks", inPlace := ["internal/reflectlite.TypeOf"], unfollowed := true, recurses := true, named := ["sorites/dsafe.errTree", "sorites/dtree.errTree", "sorites/dsafe.errUnsafe", "sorites/dtype.errTwice", "sorites/dtype.errType", "sorites/dtype.errNoRel", "sorites/dtype.errArity"], loops := true, apart := false, laid := [("sorites/dtree.errTree", laid_sorites_dtree_errTree), ("sorites/dtype.errTwice", laid_sorites_dtype_errTwice), ("sorites/dtype.errNoRel", laid_sorites_dtype_errNoRel), ("sorites/dtype.errArity", laid_sorites_dtype_errArity), ("sorites/dtype.errType", laid_sorites_dtype_errType), ("sorites/dsafe.errTree", laid_sorites_dsafe_errTree), ("sorites/dsafe.errUnsafe", laid_sorites_dsafe_errUnsafe)] }
def DsafeChecksSaid : Prop := dsafeChecksRow.holds Tryz.pinned (OpenSpec.ofChange dsafeChecksSpec)

/-- ITS FALSE NEIGHBOUR: 'it returns false'. Refute it at one input. -/
def dsafeChecksWrong : ChangeSpec := { name := "dsafeChecks", fn := fun _ => fun
  | [d] => { results := [.lit (.bool false)], args := [d] }
  | _ => none }
def DsafeChecksWrongFalsely : Prop := dsafeChecksRow.holds Tryz.pinned (OpenSpec.ofChange dsafeChecksWrong)

/- THE SECOND FORM. 'bulk': how many values and letters a reading holds, each counted each time it is reached (what is shared counts as often as it is met; a slice's spare places count too). A statement '..UptoSaid' is the law's where the arguments, and the package variables that the reading takes, are together of bulk at most 1048576: NARROWER than '..Said'. Prove '..Said' where nothing that the law and all that it calls make is longer than what came in: it says more and counts as full. Else prove '..UptoSaid'. A law counts once. -/
mutual
def uptoBulk {H : Type} : DataW H → Nat
  | .lit (.string bytes) => bytes.length + 1
  | .lit _ => 1
  | .nil => 1
  | .ptr d => uptoBulk d + 1
  | .slice elems spare => uptoBulkAll elems + uptoBulkAll spare + 1
  | .agg parts => uptoBulkAll parts + 1
  | .iface _ d => uptoBulk d + 1
  | .map entries => uptoBulkEntries entries + 1
  | .held _ => 1
def uptoBulkAll {H : Type} : List (DataW H) → Nat
  | [] => 0
  | d :: r => uptoBulk d + uptoBulkAll r
def uptoBulkEntries {H : Type} : List (Lit × DataW H) → Nat
  | [] => 0
  | x :: r => uptoBulkEntry x + uptoBulkEntries r
def uptoBulkEntry {H : Type} : Lit × DataW H → Nat
  | (.string bytes, d) => bytes.length + uptoBulk d + 1
  | (_, d) => uptoBulk d + 1
 end
def uptoSmall : (H : Type) → List (DataW H) → Bool := fun _ ds => decide (uptoBulkAll ds ≤ 1048576)
def OpenSpec.upto (s : _root_.Go.ChangeSpec) : _root_.Go.OpenSpec := { _root_.Go.OpenSpec.ofChange s with cond := some uptoSmall }

/-- 'soriteslaw05.DtypeChecks', WHERE WHAT IT READS IS OF BULK AT MOST 1048576: true; the input reads as it did. -/
def dtypeChecksUptoRow : OpenClaim := { program := "ytfmldnbcjbflbaagreatdoor", sum := "2f0683e906077059237f6bce13f6af0acf1ed095690fc53eaece1ae561359cd6", func := "sorites/soriteslaw05.DtypeChecks", spec := "dtypeChecks", inPlace := ["internal/reflectlite.TypeOf"], unfollowed := true, recurses := true, named := ["sorites/dtree.errTree", "sorites/dtype.errType", "sorites/dtype.errNoRel", "sorites/dtype.errArity", "sorites/dtype.errTwice"], loops := true, apart := false, laid := [("sorites/dtree.errTree", laid_sorites_dtree_errTree), ("sorites/dtype.errTwice", laid_sorites_dtype_errTwice), ("sorites/dtype.errNoRel", laid_sorites_dtype_errNoRel), ("sorites/dtype.errArity", laid_sorites_dtype_errArity), ("sorites/dtype.errType", laid_sorites_dtype_errType)], narrowed := true }
def DtypeChecksUptoSaid : Prop := dtypeChecksUptoRow.holds Tryz.pinned (OpenSpec.upto dtypeChecksSpec)

/-- 'soriteslaw06.DsafeOrders', WHERE WHAT IT READS IS OF BULK AT MOST 1048576: true; the input reads as it did. -/
def dsafeOrdersUptoRow : OpenClaim := { program := "ytfmldnbcjbflbaagreatdoor", sum := "2f0683e906077059237f6bce13f6af0acf1ed095690fc53eaece1ae561359cd6", func := "sorites/soriteslaw06.DsafeOrders", spec := "dsafeOrders", inPlace := ["internal/reflectlite.TypeOf"], unfollowed := true, recurses := true, named := ["sorites/dsafe.errTree", "sorites/dtree.errTree", "sorites/dsafe.errUnsafe"], loops := true, apart := false, laid := [("sorites/dtree.errTree", laid_sorites_dtree_errTree), ("sorites/dsafe.errTree", laid_sorites_dsafe_errTree), ("sorites/dsafe.errUnsafe", laid_sorites_dsafe_errUnsafe)], narrowed := true }
def DsafeOrdersUptoSaid : Prop := dsafeOrdersUptoRow.holds Tryz.pinned (OpenSpec.upto dsafeOrdersSpec)

/-- 'soriteslaw06.DsafeBounds', WHERE WHAT IT READS IS OF BULK AT MOST 1048576: true; the input reads as it did. -/
def dsafeBoundsUptoRow : OpenClaim := { program := "ytfmldnbcjbflbaagreatdoor", sum := "2f0683e906077059237f6bce13f6af0acf1ed095690fc53eaece1ae561359cd6", func := "sorites/soriteslaw06.DsafeBounds", spec := "dsafeBounds", inPlace := ["internal/reflectlite.TypeOf"], unfollowed := true, recurses := true, named := ["sorites/dsafe.errTree", "sorites/dtree.errTree", "sorites/dsafe.errUnsafe"], loops := true, apart := false, laid := [("sorites/dtree.errTree", laid_sorites_dtree_errTree), ("sorites/dsafe.errTree", laid_sorites_dsafe_errTree), ("sorites/dsafe.errUnsafe", laid_sorites_dsafe_errUnsafe)], narrowed := true }
def DsafeBoundsUptoSaid : Prop := dsafeBoundsUptoRow.holds Tryz.pinned (OpenSpec.upto dsafeBoundsSpec)

/-- 'soriteslaw06.DsafeChecks', WHERE WHAT IT READS IS OF BULK AT MOST 1048576: true; the input reads as it did. -/
def dsafeChecksUptoRow : OpenClaim := { program := "ytfmldnbcjbflbaagreatdoor", sum := "2f0683e906077059237f6bce13f6af0acf1ed095690fc53eaece1ae561359cd6", func := "sorites/soriteslaw06.DsafeChecks", spec := "dsafeChecks", inPlace := ["internal/reflectlite.TypeOf"], unfollowed := true, recurses := true, named := ["sorites/dsafe.errTree", "sorites/dtree.errTree", "sorites/dsafe.errUnsafe", "sorites/dtype.errTwice", "sorites/dtype.errType", "sorites/dtype.errNoRel", "sorites/dtype.errArity"], loops := true, apart := false, laid := [("sorites/dtree.errTree", laid_sorites_dtree_errTree), ("sorites/dtype.errTwice", laid_sorites_dtype_errTwice), ("sorites/dtype.errNoRel", laid_sorites_dtype_errNoRel), ("sorites/dtype.errArity", laid_sorites_dtype_errArity), ("sorites/dtype.errType", laid_sorites_dtype_errType), ("sorites/dsafe.errTree", laid_sorites_dsafe_errTree), ("sorites/dsafe.errUnsafe", laid_sorites_dsafe_errUnsafe)], narrowed := true }
def DsafeChecksUptoSaid : Prop := dsafeChecksUptoRow.holds Tryz.pinned (OpenSpec.upto dsafeChecksSpec)

end Rows
end Go.Proofs.YtfmldnbcjbflbaaGreatDoor
