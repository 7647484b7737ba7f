/-
  DERIVED. GIVEN WITH THE SEED: THE CARDS: each row of YtfmldnbcjbflbaaGreatDoorRows.lean that lists a variable, with what it lists TIED to the program's text (the seventh form; the later family's looks); each row that meets fmt, with fmt's text TOLD by the authors' own Lean function (tested against real Go, not proved from fmt's source: count such statements apart). THE CARD IS WHAT COUNTS. Prove the row's statement (the work); the ties are given (YtfmldnbcjbflbaaGreatDoorTie.lean); close each card by the builder's one call (the guide's Derived/Test/ToyasCard.lean, 'card_holds'). Laid BY PROGRAM, IN A SANDBOX (cutbox-door.mjs). By AI agents, Wed Nov 11 2026. No macro, syntax, notation, axiom, sorry.
-/
import Derived.Test.YtfmldnbcjbflbaaGreatDoorRows
import GoSem.ClaimSeven
namespace Go.Proofs.YtfmldnbcjbflbaaGreatDoor
namespace Rows

/-- THE TIED CARD OF 'soriteslaw05.DtypeChecks'. -/
def dtypeChecksCard : Claim7 := { stood := { row := dtypeChecksRow, standIns := [], harness := (true, "405d2e11773311c608994186738ed1d7e3245562a9f1478322cd90f7231f7532"), looks := true }, kinds := [], alts := [], laidByText := true, laidKinds := [.sentinel, .sentinel, .sentinel, .sentinel, .sentinel], laidTests := true, laidLooks := .later }
def DtypeChecksCardSaid : Prop := Claim7.holds Tryz.pinned (.plain (OpenSpec.ofChange dtypeChecksSpec)) dtypeChecksCard

/-- THE TIED CARD OF 'soriteslaw06.DsafeOrders'. -/
def dsafeOrdersCard : Claim7 := { stood := { row := dsafeOrdersRow, standIns := [], harness := (true, "405d2e11773311c608994186738ed1d7e3245562a9f1478322cd90f7231f7532"), looks := true }, kinds := [], alts := [], laidByText := true, laidKinds := [.sentinel, .sentinel, .sentinel], laidTests := true, laidLooks := .later }
def DsafeOrdersCardSaid : Prop := Claim7.holds Tryz.pinned (.plain (OpenSpec.ofChange dsafeOrdersSpec)) dsafeOrdersCard

/-- THE TIED CARD OF 'soriteslaw06.DsafeBounds'. -/
def dsafeBoundsCard : Claim7 := { stood := { row := dsafeBoundsRow, standIns := [], harness := (true, "405d2e11773311c608994186738ed1d7e3245562a9f1478322cd90f7231f7532"), looks := true }, kinds := [], alts := [], laidByText := true, laidKinds := [.sentinel, .sentinel, .sentinel], laidTests := true, laidLooks := .later }
def DsafeBoundsCardSaid : Prop := Claim7.holds Tryz.pinned (.plain (OpenSpec.ofChange dsafeBoundsSpec)) dsafeBoundsCard

/-- THE TIED CARD OF 'soriteslaw06.DsafeChecks'. -/
def dsafeChecksCard : Claim7 := { stood := { row := dsafeChecksRow, standIns := [], harness := (true, "405d2e11773311c608994186738ed1d7e3245562a9f1478322cd90f7231f7532"), looks := true }, kinds := [], alts := [], laidByText := true, laidKinds := [.sentinel, .sentinel, .sentinel, .sentinel, .sentinel, .sentinel, .sentinel], laidTests := true, laidLooks := .later }
def DsafeChecksCardSaid : Prop := Claim7.holds Tryz.pinned (.plain (OpenSpec.ofChange dsafeChecksSpec)) dsafeChecksCard

/-- THE SECOND FORM's CARD OF 'soriteslaw05.DtypeChecks'. -/
def dtypeChecksUptoCard : Claim7 := { stood := { row := dtypeChecksUptoRow, standIns := [], harness := (true, "405d2e11773311c608994186738ed1d7e3245562a9f1478322cd90f7231f7532"), looks := true }, kinds := [], alts := [], laidByText := true, laidKinds := [.sentinel, .sentinel, .sentinel, .sentinel, .sentinel], laidTests := true, laidLooks := .later }
def DtypeChecksUptoCardSaid : Prop := Claim7.holds Tryz.pinned (.plain (OpenSpec.upto dtypeChecksSpec)) dtypeChecksUptoCard

/-- THE SECOND FORM's CARD OF 'soriteslaw06.DsafeOrders'. -/
def dsafeOrdersUptoCard : Claim7 := { stood := { row := dsafeOrdersUptoRow, standIns := [], harness := (true, "405d2e11773311c608994186738ed1d7e3245562a9f1478322cd90f7231f7532"), looks := true }, kinds := [], alts := [], laidByText := true, laidKinds := [.sentinel, .sentinel, .sentinel], laidTests := true, laidLooks := .later }
def DsafeOrdersUptoCardSaid : Prop := Claim7.holds Tryz.pinned (.plain (OpenSpec.upto dsafeOrdersSpec)) dsafeOrdersUptoCard

/-- THE SECOND FORM's CARD OF 'soriteslaw06.DsafeBounds'. -/
def dsafeBoundsUptoCard : Claim7 := { stood := { row := dsafeBoundsUptoRow, standIns := [], harness := (true, "405d2e11773311c608994186738ed1d7e3245562a9f1478322cd90f7231f7532"), looks := true }, kinds := [], alts := [], laidByText := true, laidKinds := [.sentinel, .sentinel, .sentinel], laidTests := true, laidLooks := .later }
def DsafeBoundsUptoCardSaid : Prop := Claim7.holds Tryz.pinned (.plain (OpenSpec.upto dsafeBoundsSpec)) dsafeBoundsUptoCard

/-- THE SECOND FORM's CARD OF 'soriteslaw06.DsafeChecks'. -/
def dsafeChecksUptoCard : Claim7 := { stood := { row := dsafeChecksUptoRow, standIns := [], harness := (true, "405d2e11773311c608994186738ed1d7e3245562a9f1478322cd90f7231f7532"), looks := true }, kinds := [], alts := [], laidByText := true, laidKinds := [.sentinel, .sentinel, .sentinel, .sentinel, .sentinel, .sentinel, .sentinel], laidTests := true, laidLooks := .later }
def DsafeChecksUptoCardSaid : Prop := Claim7.holds Tryz.pinned (.plain (OpenSpec.upto dsafeChecksSpec)) dsafeChecksUptoCard
end Rows
end Go.Proofs.YtfmldnbcjbflbaaGreatDoor
