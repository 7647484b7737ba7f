/-
  DERIVED. GIVEN WITH THE SEED: THE CARDS: each row of YtkfdklamfmnalaaDoorRows.lean that lists a variable, with what it lists TIED to the program's text (the seventh form; the later family's looks); each row that meets fmt, with fmt's text TOLD by the authors' own Lean function (tested against real Go, not proved from fmt's source: count such statements apart). THE CARD IS WHAT COUNTS. Prove the row's statement (the work); the ties are given (YtkfdklamfmnalaaDoorTie.lean); close each card by the builder's one call (the guide's Derived/Test/ToyasCard.lean, 'card_holds'). Laid BY PROGRAM, IN A SANDBOX (cutbox-door.mjs). By AI agents, Wed Nov 11 2026. No macro, syntax, notation, axiom, sorry.
-/
import Derived.Test.YtkfdklamfmnalaaDoorRows
import GoSem.ClaimSeven
namespace Go.Proofs.YtkfdklamfmnalaaDoor
namespace Rows

/-- THE TIED CARD OF 'soriteslaw01.TextNums'. -/
def textNumsCard : Claim7 := { stood := { row := textNumsRow, standIns := [], harness := (true, "12aed2b8370fe2af8e9f53f1cc5026c65c31b4a4e58617e4a6447271c8591de9"), looks := true }, kinds := [], alts := [], laidByText := true, laidKinds := [.data, .data, .data, .sentinel], laidTests := true, laidLooks := .later }
def TextNumsCardSaid : Prop := Claim7.holds Tryd.pinned (.plain (OpenSpec.ofChange textNumsSpec)) textNumsCard

/-- THE TIED CARD OF 'soriteslaw01.TextSyms'. -/
def textSymsCard : Claim7 := { stood := { row := textSymsRow, standIns := [], harness := (true, "12aed2b8370fe2af8e9f53f1cc5026c65c31b4a4e58617e4a6447271c8591de9"), looks := true }, kinds := [], alts := [], laidByText := true, laidKinds := [.data, .data, .data, .sentinel], laidTests := true, laidLooks := .later }
def TextSymsCardSaid : Prop := Claim7.holds Tryd.pinned (.plain (OpenSpec.ofChange textSymsSpec)) textSymsCard

/-- THE TIED CARD OF 'soriteslaw01.TextNames'. -/
def textNamesCard : Claim7 := { stood := { row := textNamesRow, standIns := [], harness := (true, "12aed2b8370fe2af8e9f53f1cc5026c65c31b4a4e58617e4a6447271c8591de9"), looks := true }, kinds := [], alts := [], laidByText := true, laidKinds := [.data, .data, .data, .sentinel], laidTests := true, laidLooks := .later }
def TextNamesCardSaid : Prop := Claim7.holds Tryd.pinned (.plain (OpenSpec.ofChange textNamesSpec)) textNamesCard

/-- THE TIED CARD OF 'soriteslaw01.TextBack'. -/
def textBackCard : Claim7 := { stood := { row := textBackRow, standIns := [], harness := (true, "12aed2b8370fe2af8e9f53f1cc5026c65c31b4a4e58617e4a6447271c8591de9"), looks := true }, kinds := [], alts := [], laidByText := true, laidKinds := [.data, .data, .data, .sentinel], laidTests := true, laidLooks := .later }
def TextBackCardSaid : Prop := Claim7.holds Tryd.pinned (.plain (OpenSpec.ofChange textBackSpec)) textBackCard

/-- THE TIED CARD OF 'soriteslaw01.TextApart'. -/
def textApartCard : Claim7 := { stood := { row := textApartRow, standIns := [], harness := (true, "12aed2b8370fe2af8e9f53f1cc5026c65c31b4a4e58617e4a6447271c8591de9"), looks := true }, kinds := [], alts := [], laidByText := true, laidKinds := [.data, .data, .data, .sentinel], laidTests := true, laidLooks := .later }
def TextApartCardSaid : Prop := Claim7.holds Tryd.pinned (.plain (OpenSpec.ofChange textApartSpec)) textApartCard

/-- THE TIED CARD OF 'soriteslaw01.TextJoins'. -/
def textJoinsCard : Claim7 := { stood := { row := textJoinsRow, standIns := [], harness := (true, "12aed2b8370fe2af8e9f53f1cc5026c65c31b4a4e58617e4a6447271c8591de9"), looks := true }, kinds := [], alts := [], laidByText := true, laidKinds := [.data, .data, .data, .sentinel], laidTests := true, laidLooks := .later }
def TextJoinsCardSaid : Prop := Claim7.holds Tryd.pinned (.plain (OpenSpec.ofChange textJoinsSpec)) textJoinsCard

/-- THE TIED CARD OF 'soriteslaw02.DlexBack'. -/
def dlexBackCard : Claim7 := { stood := { row := dlexBackRow, standIns := [], harness := (true, "12aed2b8370fe2af8e9f53f1cc5026c65c31b4a4e58617e4a6447271c8591de9"), looks := true }, kinds := [], alts := [], laidByText := true, laidKinds := [.handle, .sentinel, .sentinel, .sentinel], laidTests := true, laidLooks := .later }
def DlexBackCardSaid : Prop := Claim7.holds Tryd.pinned (.plain (OpenSpec.ofChange dlexBackSpec)) dlexBackCard

/-- THE TIED CARD OF 'soriteslaw02.DlexBlanks'. -/
def dlexBlanksCard : Claim7 := { stood := { row := dlexBlanksRow, standIns := [], harness := (true, "12aed2b8370fe2af8e9f53f1cc5026c65c31b4a4e58617e4a6447271c8591de9"), looks := true }, kinds := [], alts := [], laidByText := true, laidKinds := [.handle, .sentinel, .sentinel, .sentinel], laidTests := true, laidLooks := .later }
def DlexBlanksCardSaid : Prop := Claim7.holds Tryd.pinned (.plain (OpenSpec.ofChange dlexBlanksSpec)) dlexBlanksCard

/-- THE TIED CARD OF 'soriteslaw02.DlexLines'. -/
def dlexLinesCard : Claim7 := { stood := { row := dlexLinesRow, standIns := [], harness := (true, "12aed2b8370fe2af8e9f53f1cc5026c65c31b4a4e58617e4a6447271c8591de9"), looks := true }, kinds := [], alts := [], laidByText := true, laidKinds := [.handle, .sentinel, .sentinel, .sentinel], laidTests := true, laidLooks := .later }
def DlexLinesCardSaid : Prop := Claim7.holds Tryd.pinned (.plain (OpenSpec.ofChange dlexLinesSpec)) dlexLinesCard

/-- THE SECOND FORM's CARD OF 'soriteslaw01.TextNums'. -/
def textNumsUptoCard : Claim7 := { stood := { row := textNumsUptoRow, standIns := [], harness := (true, "12aed2b8370fe2af8e9f53f1cc5026c65c31b4a4e58617e4a6447271c8591de9"), looks := true }, kinds := [], alts := [], laidByText := true, laidKinds := [.data, .data, .data, .sentinel], laidTests := true, laidLooks := .later }
def TextNumsUptoCardSaid : Prop := Claim7.holds Tryd.pinned (.plain (OpenSpec.upto textNumsSpec)) textNumsUptoCard

/-- THE SECOND FORM's CARD OF 'soriteslaw01.TextSyms'. -/
def textSymsUptoCard : Claim7 := { stood := { row := textSymsUptoRow, standIns := [], harness := (true, "12aed2b8370fe2af8e9f53f1cc5026c65c31b4a4e58617e4a6447271c8591de9"), looks := true }, kinds := [], alts := [], laidByText := true, laidKinds := [.data, .data, .data, .sentinel], laidTests := true, laidLooks := .later }
def TextSymsUptoCardSaid : Prop := Claim7.holds Tryd.pinned (.plain (OpenSpec.upto textSymsSpec)) textSymsUptoCard

/-- THE SECOND FORM's CARD OF 'soriteslaw01.TextNames'. -/
def textNamesUptoCard : Claim7 := { stood := { row := textNamesUptoRow, standIns := [], harness := (true, "12aed2b8370fe2af8e9f53f1cc5026c65c31b4a4e58617e4a6447271c8591de9"), looks := true }, kinds := [], alts := [], laidByText := true, laidKinds := [.data, .data, .data, .sentinel], laidTests := true, laidLooks := .later }
def TextNamesUptoCardSaid : Prop := Claim7.holds Tryd.pinned (.plain (OpenSpec.upto textNamesSpec)) textNamesUptoCard

/-- THE SECOND FORM's CARD OF 'soriteslaw01.TextBack'. -/
def textBackUptoCard : Claim7 := { stood := { row := textBackUptoRow, standIns := [], harness := (true, "12aed2b8370fe2af8e9f53f1cc5026c65c31b4a4e58617e4a6447271c8591de9"), looks := true }, kinds := [], alts := [], laidByText := true, laidKinds := [.data, .data, .data, .sentinel], laidTests := true, laidLooks := .later }
def TextBackUptoCardSaid : Prop := Claim7.holds Tryd.pinned (.plain (OpenSpec.upto textBackSpec)) textBackUptoCard

/-- THE SECOND FORM's CARD OF 'soriteslaw01.TextApart'. -/
def textApartUptoCard : Claim7 := { stood := { row := textApartUptoRow, standIns := [], harness := (true, "12aed2b8370fe2af8e9f53f1cc5026c65c31b4a4e58617e4a6447271c8591de9"), looks := true }, kinds := [], alts := [], laidByText := true, laidKinds := [.data, .data, .data, .sentinel], laidTests := true, laidLooks := .later }
def TextApartUptoCardSaid : Prop := Claim7.holds Tryd.pinned (.plain (OpenSpec.upto textApartSpec)) textApartUptoCard

/-- THE SECOND FORM's CARD OF 'soriteslaw01.TextJoins'. -/
def textJoinsUptoCard : Claim7 := { stood := { row := textJoinsUptoRow, standIns := [], harness := (true, "12aed2b8370fe2af8e9f53f1cc5026c65c31b4a4e58617e4a6447271c8591de9"), looks := true }, kinds := [], alts := [], laidByText := true, laidKinds := [.data, .data, .data, .sentinel], laidTests := true, laidLooks := .later }
def TextJoinsUptoCardSaid : Prop := Claim7.holds Tryd.pinned (.plain (OpenSpec.upto textJoinsSpec)) textJoinsUptoCard

/-- THE SECOND FORM's CARD OF 'soriteslaw02.DlexBack'. -/
def dlexBackUptoCard : Claim7 := { stood := { row := dlexBackUptoRow, standIns := [], harness := (true, "12aed2b8370fe2af8e9f53f1cc5026c65c31b4a4e58617e4a6447271c8591de9"), looks := true }, kinds := [], alts := [], laidByText := true, laidKinds := [.handle, .sentinel, .sentinel, .sentinel], laidTests := true, laidLooks := .later }
def DlexBackUptoCardSaid : Prop := Claim7.holds Tryd.pinned (.plain (OpenSpec.upto dlexBackSpec)) dlexBackUptoCard

/-- THE SECOND FORM's CARD OF 'soriteslaw02.DlexBlanks'. -/
def dlexBlanksUptoCard : Claim7 := { stood := { row := dlexBlanksUptoRow, standIns := [], harness := (true, "12aed2b8370fe2af8e9f53f1cc5026c65c31b4a4e58617e4a6447271c8591de9"), looks := true }, kinds := [], alts := [], laidByText := true, laidKinds := [.handle, .sentinel, .sentinel, .sentinel], laidTests := true, laidLooks := .later }
def DlexBlanksUptoCardSaid : Prop := Claim7.holds Tryd.pinned (.plain (OpenSpec.upto dlexBlanksSpec)) dlexBlanksUptoCard

/-- THE SECOND FORM's CARD OF 'soriteslaw02.DlexLines'. -/
def dlexLinesUptoCard : Claim7 := { stood := { row := dlexLinesUptoRow, standIns := [], harness := (true, "12aed2b8370fe2af8e9f53f1cc5026c65c31b4a4e58617e4a6447271c8591de9"), looks := true }, kinds := [], alts := [], laidByText := true, laidKinds := [.handle, .sentinel, .sentinel, .sentinel], laidTests := true, laidLooks := .later }
def DlexLinesUptoCardSaid : Prop := Claim7.holds Tryd.pinned (.plain (OpenSpec.upto dlexLinesSpec)) dlexLinesUptoCard
end Rows
end Go.Proofs.YtkfdklamfmnalaaDoor
