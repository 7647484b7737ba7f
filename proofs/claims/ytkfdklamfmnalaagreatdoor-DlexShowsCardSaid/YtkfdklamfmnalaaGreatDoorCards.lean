/-
  DERIVED. GIVEN WITH THE SEED: THE CARDS: each row of YtkfdklamfmnalaaGreatDoorRows.lean that lists a variable, with what it lists TIED to the program's text (the seventh form; the later family's looks); each row that meets fmt, with fmt's text TOLD by the authors' own Lean function (tested against real Go, not proved from fmt's source: count such statements apart). THE CARD IS WHAT COUNTS. Prove the row's statement (the work); the ties are given (YtkfdklamfmnalaaGreatDoorTie.lean); close each card by the builder's one call (the guide's Derived/Test/ToyasCard.lean, 'card_holds'). Laid BY PROGRAM, IN A SANDBOX (cutbox-door.mjs). By AI agents, Wed Nov 11 2026. No macro, syntax, notation, axiom, sorry.
-/
import Derived.Test.YtkfdklamfmnalaaGreatDoorRows
import GoSem.ClaimSeven
namespace Go.Proofs.YtkfdklamfmnalaaGreatDoor
namespace Rows

/-- THE TIED CARD OF 'soriteslaw02.DlexLexes'. -/
def dlexLexesCard : Claim7 := { stood := { row := dlexLexesRow, standIns := [], harness := (true, "4e70ef2776532079ae875eedfb5fb8a99a047d1fa8a8739ebf8f3af081587adb"), looks := true }, kinds := [], alts := [], laidByText := true, laidKinds := [.handle, .sentinel, .sentinel, .sentinel], laidTests := true, laidLooks := .later }
def DlexLexesCardSaid : Prop := Claim7.holds Tryz.pinned (.plain (OpenSpec.ofChange dlexLexesSpec)) dlexLexesCard

/-- THE TIED CARD OF 'soriteslaw02.DlexLong'. -/
def dlexLongCard : Claim7 := { stood := { row := dlexLongRow, standIns := [], harness := (true, "4e70ef2776532079ae875eedfb5fb8a99a047d1fa8a8739ebf8f3af081587adb"), looks := true }, kinds := [], alts := [], laidByText := true, laidKinds := [.handle, .sentinel, .sentinel, .sentinel], laidTests := true, laidLooks := .later }
def DlexLongCardSaid : Prop := Claim7.holds Tryz.pinned (.plain (OpenSpec.ofChange dlexLongSpec)) dlexLongCard

/-- THE TIED CARD OF 'soriteslaw02.DlexShows'. -/
def dlexShowsCard : Claim7 := { stood := { row := dlexShowsRow, standIns := [], harness := (true, "4e70ef2776532079ae875eedfb5fb8a99a047d1fa8a8739ebf8f3af081587adb"), looks := true }, kinds := [], alts := [], laidByText := true, laidKinds := [.handle, .sentinel, .sentinel, .sentinel], laidTests := true, laidLooks := .later }
def DlexShowsCardSaid : Prop := Claim7.holds Tryz.pinned (.plain (OpenSpec.ofChange dlexShowsSpec)) dlexShowsCard

/-- THE SECOND FORM's CARD OF 'soriteslaw02.DlexLexes'. -/
def dlexLexesUptoCard : Claim7 := { stood := { row := dlexLexesUptoRow, standIns := [], harness := (true, "4e70ef2776532079ae875eedfb5fb8a99a047d1fa8a8739ebf8f3af081587adb"), looks := true }, kinds := [], alts := [], laidByText := true, laidKinds := [.handle, .sentinel, .sentinel, .sentinel], laidTests := true, laidLooks := .later }
def DlexLexesUptoCardSaid : Prop := Claim7.holds Tryz.pinned (.plain (OpenSpec.upto dlexLexesSpec)) dlexLexesUptoCard

/-- THE SECOND FORM's CARD OF 'soriteslaw02.DlexLong'. -/
def dlexLongUptoCard : Claim7 := { stood := { row := dlexLongUptoRow, standIns := [], harness := (true, "4e70ef2776532079ae875eedfb5fb8a99a047d1fa8a8739ebf8f3af081587adb"), looks := true }, kinds := [], alts := [], laidByText := true, laidKinds := [.handle, .sentinel, .sentinel, .sentinel], laidTests := true, laidLooks := .later }
def DlexLongUptoCardSaid : Prop := Claim7.holds Tryz.pinned (.plain (OpenSpec.upto dlexLongSpec)) dlexLongUptoCard

/-- THE SECOND FORM's CARD OF 'soriteslaw02.DlexShows'. -/
def dlexShowsUptoCard : Claim7 := { stood := { row := dlexShowsUptoRow, standIns := [], harness := (true, "4e70ef2776532079ae875eedfb5fb8a99a047d1fa8a8739ebf8f3af081587adb"), looks := true }, kinds := [], alts := [], laidByText := true, laidKinds := [.handle, .sentinel, .sentinel, .sentinel], laidTests := true, laidLooks := .later }
def DlexShowsUptoCardSaid : Prop := Claim7.holds Tryz.pinned (.plain (OpenSpec.upto dlexShowsSpec)) dlexShowsUptoCard
end Rows
end Go.Proofs.YtkfdklamfmnalaaGreatDoor
