/-
  DERIVED. GIVEN WITH THE SEED: THE CARDS: each row of YthjfkngfgomkbaaGreatDoorRows.lean that lists a variable, with what it lists TIED to the program's text (the seventh form; the later family's looks); each row that meets fmt, with fmt's text TOLD by the authors' own Lean function (tested against real Go, not proved from fmt's source: count such statements apart). THE CARD IS WHAT COUNTS. Prove the row's statement (the work); the ties are given (YthjfkngfgomkbaaGreatDoorTie.lean); close each card by the builder's one call (the guide's Derived/Test/ToyasCard.lean, 'card_holds'). Laid BY PROGRAM, IN A SANDBOX (cutbox-door.mjs). By AI agents, Wed Nov 11 2026. No macro, syntax, notation, axiom, sorry.
-/
import Derived.Test.YthjfkngfgomkbaaGreatDoorRows
import GoSem.ClaimSeven
namespace Go.Proofs.YthjfkngfgomkbaaGreatDoor
namespace Rows

/-- THE TIED CARD OF 'soriteslaw02.DlexLexes'. -/
def dlexLexesCard : Claim7 := { stood := { row := dlexLexesRow, standIns := [], harness := (true, "2735e52da9e788ab5670ee81ae9880b8694d9bbd8a55e8d7a4fb47a58cb2c072"), looks := true }, kinds := [], alts := [], laidByText := true, laidKinds := [.handle, .sentinel, .sentinel, .sentinel], laidTests := true, laidLooks := .later }
def DlexLexesCardSaid : Prop := Claim7.holds Tryz.pinned (.plain (OpenSpec.ofChange dlexLexesSpec)) dlexLexesCard

/-- THE TIED CARD OF 'soriteslaw02.DlexLong'. -/
def dlexLongCard : Claim7 := { stood := { row := dlexLongRow, standIns := [], harness := (true, "2735e52da9e788ab5670ee81ae9880b8694d9bbd8a55e8d7a4fb47a58cb2c072"), looks := true }, kinds := [], alts := [], laidByText := true, laidKinds := [.handle, .sentinel, .sentinel, .sentinel], laidTests := true, laidLooks := .later }
def DlexLongCardSaid : Prop := Claim7.holds Tryz.pinned (.plain (OpenSpec.ofChange dlexLongSpec)) dlexLongCard

/-- THE TIED CARD OF 'soriteslaw03.DtreeShows'. -/
def dtreeShowsCard : Claim7 := { stood := { row := dtreeShowsRow, standIns := [], harness := (true, "2735e52da9e788ab5670ee81ae9880b8694d9bbd8a55e8d7a4fb47a58cb2c072"), looks := true }, kinds := [], alts := [], laidByText := true, laidKinds := [.data, .data, .data, .sentinel, .data, .data, .data], laidTests := true, laidLooks := .later }
def DtreeShowsCardSaid : Prop := Claim7.holds Tryz.pinned (.plain (OpenSpec.ofChange dtreeShowsSpec)) dtreeShowsCard

/-- THE TIED CARD OF 'soriteslaw03.DtreeRules'. -/
def dtreeRulesCard : Claim7 := { stood := { row := dtreeRulesRow, standIns := [], harness := (true, "2735e52da9e788ab5670ee81ae9880b8694d9bbd8a55e8d7a4fb47a58cb2c072"), looks := true }, kinds := [], alts := [], laidByText := true, laidKinds := [.data, .data, .data, .sentinel, .data, .data, .data], laidTests := true, laidLooks := .later }
def DtreeRulesCardSaid : Prop := Claim7.holds Tryz.pinned (.plain (OpenSpec.ofChange dtreeRulesSpec)) dtreeRulesCard

/-- THE SECOND FORM's CARD OF 'soriteslaw02.DlexLexes'. -/
def dlexLexesUptoCard : Claim7 := { stood := { row := dlexLexesUptoRow, standIns := [], harness := (true, "2735e52da9e788ab5670ee81ae9880b8694d9bbd8a55e8d7a4fb47a58cb2c072"), looks := true }, kinds := [], alts := [], laidByText := true, laidKinds := [.handle, .sentinel, .sentinel, .sentinel], laidTests := true, laidLooks := .later }
def DlexLexesUptoCardSaid : Prop := Claim7.holds Tryz.pinned (.plain (OpenSpec.upto dlexLexesSpec)) dlexLexesUptoCard

/-- THE SECOND FORM's CARD OF 'soriteslaw02.DlexLong'. -/
def dlexLongUptoCard : Claim7 := { stood := { row := dlexLongUptoRow, standIns := [], harness := (true, "2735e52da9e788ab5670ee81ae9880b8694d9bbd8a55e8d7a4fb47a58cb2c072"), looks := true }, kinds := [], alts := [], laidByText := true, laidKinds := [.handle, .sentinel, .sentinel, .sentinel], laidTests := true, laidLooks := .later }
def DlexLongUptoCardSaid : Prop := Claim7.holds Tryz.pinned (.plain (OpenSpec.upto dlexLongSpec)) dlexLongUptoCard

/-- THE SECOND FORM's CARD OF 'soriteslaw03.DtreeShows'. -/
def dtreeShowsUptoCard : Claim7 := { stood := { row := dtreeShowsUptoRow, standIns := [], harness := (true, "2735e52da9e788ab5670ee81ae9880b8694d9bbd8a55e8d7a4fb47a58cb2c072"), looks := true }, kinds := [], alts := [], laidByText := true, laidKinds := [.data, .data, .data, .sentinel, .data, .data, .data], laidTests := true, laidLooks := .later }
def DtreeShowsUptoCardSaid : Prop := Claim7.holds Tryz.pinned (.plain (OpenSpec.upto dtreeShowsSpec)) dtreeShowsUptoCard

/-- THE SECOND FORM's CARD OF 'soriteslaw03.DtreeRules'. -/
def dtreeRulesUptoCard : Claim7 := { stood := { row := dtreeRulesUptoRow, standIns := [], harness := (true, "2735e52da9e788ab5670ee81ae9880b8694d9bbd8a55e8d7a4fb47a58cb2c072"), looks := true }, kinds := [], alts := [], laidByText := true, laidKinds := [.data, .data, .data, .sentinel, .data, .data, .data], laidTests := true, laidLooks := .later }
def DtreeRulesUptoCardSaid : Prop := Claim7.holds Tryz.pinned (.plain (OpenSpec.upto dtreeRulesSpec)) dtreeRulesUptoCard
end Rows
end Go.Proofs.YthjfkngfgomkbaaGreatDoor
