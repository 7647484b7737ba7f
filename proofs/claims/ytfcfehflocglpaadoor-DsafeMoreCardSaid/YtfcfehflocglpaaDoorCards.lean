/-
  DERIVED. GIVEN WITH THE SEED: THE CARDS: each row of YtfcfehflocglpaaDoorRows.lean that lists a variable, with what it lists TIED to the program's text (the seventh form; the later family's looks); each row that meets fmt, with fmt's text TOLD by the authors' own Lean function (tested against real Go, not proved from fmt's source: count such statements apart). THE CARD IS WHAT COUNTS. Prove the row's statement (the work); the ties are given (YtfcfehflocglpaaDoorTie.lean); close each card by the builder's one call (the guide's Derived/Test/ToyasCard.lean, 'card_holds'). Laid BY PROGRAM, IN A SANDBOX (cutbox-door.mjs). By AI agents, Wed Nov 11 2026. No macro, syntax, notation, axiom, sorry.
-/
import Derived.Test.YtfcfehflocglpaaDoorRows
import GoSem.ClaimSeven
namespace Go.Proofs.YtfcfehflocglpaaDoor
namespace Rows

/-- THE TIED CARD OF 'soriteslaw05.DtypeVars'. -/
def dtypeVarsCard : Claim7 := { stood := { row := dtypeVarsRow, standIns := [], harness := (true, "2ee60d2012ac9d293a406baba7c93344b90a206d8a3b1cb7b88c47e7506c1624"), looks := true }, kinds := [], alts := [], laidByText := true, laidKinds := [.sentinel, .sentinel, .sentinel, .sentinel, .sentinel], laidTests := true, laidLooks := .later }
def DtypeVarsCardSaid : Prop := Claim7.holds Tryd.pinned (.plain (OpenSpec.ofChange dtypeVarsSpec)) dtypeVarsCard

/-- THE TIED CARD OF 'soriteslaw05.DtypeTypes'. -/
def dtypeTypesCard : Claim7 := { stood := { row := dtypeTypesRow, standIns := [], harness := (true, "2ee60d2012ac9d293a406baba7c93344b90a206d8a3b1cb7b88c47e7506c1624"), looks := true }, kinds := [], alts := [], laidByText := true, laidKinds := [.sentinel, .sentinel, .sentinel, .sentinel, .sentinel], laidTests := true, laidLooks := .later }
def DtypeTypesCardSaid : Prop := Claim7.holds Tryd.pinned (.plain (OpenSpec.ofChange dtypeTypesSpec)) dtypeTypesCard

/-- THE TIED CARD OF 'soriteslaw05.DtypeMoves'. -/
def dtypeMovesCard : Claim7 := { stood := { row := dtypeMovesRow, standIns := [], harness := (true, "2ee60d2012ac9d293a406baba7c93344b90a206d8a3b1cb7b88c47e7506c1624"), looks := true }, kinds := [], alts := [], laidByText := true, laidKinds := [.sentinel, .sentinel, .sentinel, .sentinel, .sentinel], laidTests := true, laidLooks := .later }
def DtypeMovesCardSaid : Prop := Claim7.holds Tryd.pinned (.plain (OpenSpec.ofChange dtypeMovesSpec)) dtypeMovesCard

/-- THE TIED CARD OF 'soriteslaw05.DtypeLess'. -/
def dtypeLessCard : Claim7 := { stood := { row := dtypeLessRow, standIns := [], harness := (true, "2ee60d2012ac9d293a406baba7c93344b90a206d8a3b1cb7b88c47e7506c1624"), looks := true }, kinds := [], alts := [], laidByText := true, laidKinds := [.sentinel, .sentinel, .sentinel, .sentinel, .sentinel], laidTests := true, laidLooks := .later }
def DtypeLessCardSaid : Prop := Claim7.holds Tryd.pinned (.plain (OpenSpec.ofChange dtypeLessSpec)) dtypeLessCard

/-- THE TIED CARD OF 'soriteslaw05.DtypeParts'. -/
def dtypePartsCard : Claim7 := { stood := { row := dtypePartsRow, standIns := [], harness := (true, "2ee60d2012ac9d293a406baba7c93344b90a206d8a3b1cb7b88c47e7506c1624"), looks := true }, kinds := [], alts := [], laidByText := true, laidKinds := [.sentinel, .sentinel, .sentinel, .sentinel, .sentinel], laidTests := true, laidLooks := .later }
def DtypePartsCardSaid : Prop := Claim7.holds Tryd.pinned (.plain (OpenSpec.ofChange dtypePartsSpec)) dtypePartsCard

/-- THE TIED CARD OF 'soriteslaw06.DsafeOnce'. -/
def dsafeOnceCard : Claim7 := { stood := { row := dsafeOnceRow, standIns := [], harness := (true, "2ee60d2012ac9d293a406baba7c93344b90a206d8a3b1cb7b88c47e7506c1624"), looks := true }, kinds := [], alts := [], laidByText := true, laidKinds := [.sentinel, .sentinel, .sentinel], laidTests := true, laidLooks := .later }
def DsafeOnceCardSaid : Prop := Claim7.holds Tryd.pinned (.plain (OpenSpec.ofChange dsafeOnceSpec)) dsafeOnceCard

/-- THE TIED CARD OF 'soriteslaw06.DsafeMore'. -/
def dsafeMoreCard : Claim7 := { stood := { row := dsafeMoreRow, standIns := [], harness := (true, "2ee60d2012ac9d293a406baba7c93344b90a206d8a3b1cb7b88c47e7506c1624"), looks := true }, kinds := [], alts := [], laidByText := true, laidKinds := [.sentinel, .sentinel, .sentinel], laidTests := true, laidLooks := .later }
def DsafeMoreCardSaid : Prop := Claim7.holds Tryd.pinned (.plain (OpenSpec.ofChange dsafeMoreSpec)) dsafeMoreCard

/-- THE TIED CARD OF 'soriteslaw06.DsafeFacts'. -/
def dsafeFactsCard : Claim7 := { stood := { row := dsafeFactsRow, standIns := [], harness := (true, "2ee60d2012ac9d293a406baba7c93344b90a206d8a3b1cb7b88c47e7506c1624"), looks := true }, kinds := [], alts := [], laidByText := true, laidKinds := [.sentinel, .sentinel, .sentinel], laidTests := true, laidLooks := .later }
def DsafeFactsCardSaid : Prop := Claim7.holds Tryd.pinned (.plain (OpenSpec.ofChange dsafeFactsSpec)) dsafeFactsCard

/-- THE SECOND FORM's CARD OF 'soriteslaw05.DtypeVars'. -/
def dtypeVarsUptoCard : Claim7 := { stood := { row := dtypeVarsUptoRow, standIns := [], harness := (true, "2ee60d2012ac9d293a406baba7c93344b90a206d8a3b1cb7b88c47e7506c1624"), looks := true }, kinds := [], alts := [], laidByText := true, laidKinds := [.sentinel, .sentinel, .sentinel, .sentinel, .sentinel], laidTests := true, laidLooks := .later }
def DtypeVarsUptoCardSaid : Prop := Claim7.holds Tryd.pinned (.plain (OpenSpec.upto dtypeVarsSpec)) dtypeVarsUptoCard

/-- THE SECOND FORM's CARD OF 'soriteslaw05.DtypeTypes'. -/
def dtypeTypesUptoCard : Claim7 := { stood := { row := dtypeTypesUptoRow, standIns := [], harness := (true, "2ee60d2012ac9d293a406baba7c93344b90a206d8a3b1cb7b88c47e7506c1624"), looks := true }, kinds := [], alts := [], laidByText := true, laidKinds := [.sentinel, .sentinel, .sentinel, .sentinel, .sentinel], laidTests := true, laidLooks := .later }
def DtypeTypesUptoCardSaid : Prop := Claim7.holds Tryd.pinned (.plain (OpenSpec.upto dtypeTypesSpec)) dtypeTypesUptoCard

/-- THE SECOND FORM's CARD OF 'soriteslaw05.DtypeMoves'. -/
def dtypeMovesUptoCard : Claim7 := { stood := { row := dtypeMovesUptoRow, standIns := [], harness := (true, "2ee60d2012ac9d293a406baba7c93344b90a206d8a3b1cb7b88c47e7506c1624"), looks := true }, kinds := [], alts := [], laidByText := true, laidKinds := [.sentinel, .sentinel, .sentinel, .sentinel, .sentinel], laidTests := true, laidLooks := .later }
def DtypeMovesUptoCardSaid : Prop := Claim7.holds Tryd.pinned (.plain (OpenSpec.upto dtypeMovesSpec)) dtypeMovesUptoCard

/-- THE SECOND FORM's CARD OF 'soriteslaw05.DtypeLess'. -/
def dtypeLessUptoCard : Claim7 := { stood := { row := dtypeLessUptoRow, standIns := [], harness := (true, "2ee60d2012ac9d293a406baba7c93344b90a206d8a3b1cb7b88c47e7506c1624"), looks := true }, kinds := [], alts := [], laidByText := true, laidKinds := [.sentinel, .sentinel, .sentinel, .sentinel, .sentinel], laidTests := true, laidLooks := .later }
def DtypeLessUptoCardSaid : Prop := Claim7.holds Tryd.pinned (.plain (OpenSpec.upto dtypeLessSpec)) dtypeLessUptoCard

/-- THE SECOND FORM's CARD OF 'soriteslaw05.DtypeParts'. -/
def dtypePartsUptoCard : Claim7 := { stood := { row := dtypePartsUptoRow, standIns := [], harness := (true, "2ee60d2012ac9d293a406baba7c93344b90a206d8a3b1cb7b88c47e7506c1624"), looks := true }, kinds := [], alts := [], laidByText := true, laidKinds := [.sentinel, .sentinel, .sentinel, .sentinel, .sentinel], laidTests := true, laidLooks := .later }
def DtypePartsUptoCardSaid : Prop := Claim7.holds Tryd.pinned (.plain (OpenSpec.upto dtypePartsSpec)) dtypePartsUptoCard

/-- THE SECOND FORM's CARD OF 'soriteslaw06.DsafeOnce'. -/
def dsafeOnceUptoCard : Claim7 := { stood := { row := dsafeOnceUptoRow, standIns := [], harness := (true, "2ee60d2012ac9d293a406baba7c93344b90a206d8a3b1cb7b88c47e7506c1624"), looks := true }, kinds := [], alts := [], laidByText := true, laidKinds := [.sentinel, .sentinel, .sentinel], laidTests := true, laidLooks := .later }
def DsafeOnceUptoCardSaid : Prop := Claim7.holds Tryd.pinned (.plain (OpenSpec.upto dsafeOnceSpec)) dsafeOnceUptoCard

/-- THE SECOND FORM's CARD OF 'soriteslaw06.DsafeMore'. -/
def dsafeMoreUptoCard : Claim7 := { stood := { row := dsafeMoreUptoRow, standIns := [], harness := (true, "2ee60d2012ac9d293a406baba7c93344b90a206d8a3b1cb7b88c47e7506c1624"), looks := true }, kinds := [], alts := [], laidByText := true, laidKinds := [.sentinel, .sentinel, .sentinel], laidTests := true, laidLooks := .later }
def DsafeMoreUptoCardSaid : Prop := Claim7.holds Tryd.pinned (.plain (OpenSpec.upto dsafeMoreSpec)) dsafeMoreUptoCard

/-- THE SECOND FORM's CARD OF 'soriteslaw06.DsafeFacts'. -/
def dsafeFactsUptoCard : Claim7 := { stood := { row := dsafeFactsUptoRow, standIns := [], harness := (true, "2ee60d2012ac9d293a406baba7c93344b90a206d8a3b1cb7b88c47e7506c1624"), looks := true }, kinds := [], alts := [], laidByText := true, laidKinds := [.sentinel, .sentinel, .sentinel], laidTests := true, laidLooks := .later }
def DsafeFactsUptoCardSaid : Prop := Claim7.holds Tryd.pinned (.plain (OpenSpec.upto dsafeFactsSpec)) dsafeFactsUptoCard
end Rows
end Go.Proofs.YtfcfehflocglpaaDoor
