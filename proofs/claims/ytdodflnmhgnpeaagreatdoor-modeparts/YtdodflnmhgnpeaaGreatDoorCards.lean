/-
  DERIVED. GIVEN WITH THE SEED: THE CARDS: each row of YtdodflnmhgnpeaaGreatDoorRows.lean that lists a variable, with what it lists TIED to the program's text (the seventh form; the later family's looks); each row that meets fmt, with fmt's text TOLD by the authors' own Lean function (tested against real Go, not proved from fmt's source: count such statements apart). THE CARD IS WHAT COUNTS. Prove the row's statement (the work); the ties are given (YtdodflnmhgnpeaaGreatDoorTie.lean); close each card by the builder's one call (the guide's Derived/Test/ToyasCard.lean, 'card_holds'). Laid BY PROGRAM, IN A SANDBOX (cutbox-door.mjs). By AI agents, Wed Nov 11 2026. No macro, syntax, notation, axiom, sorry.
-/
import Derived.Test.YtdodflnmhgnpeaaGreatDoorRows
import GoSem.ClaimSeven
namespace Go.Proofs.YtdodflnmhgnpeaaGreatDoor
namespace Rows

/-- THE TIED CARD OF 'lockboxlaw05.BlockAsks'. -/
def blockAsksCard : Claim7 := { stood := { row := blockAsksRow, standIns := [], harness := (true, "7d2cf949174739022ae3db1819ceed9c3953cdf07e8c818adc6e4071f814f381"), looks := true }, kinds := [], alts := [], laidByText := true, laidKinds := [.handle], laidTests := true, laidLooks := .later }
def BlockAsksCardSaid : Prop := Claim7.holds Tryz.pinned (.plain (OpenSpec.ofChange blockAsksSpec)) blockAsksCard

/-- THE TIED CARD OF 'lockboxlaw06.ModeDoes'. -/
def modeDoesCard : Claim7 := { stood := { row := modeDoesRow, standIns := [], harness := (true, "7d2cf949174739022ae3db1819ceed9c3953cdf07e8c818adc6e4071f814f381"), looks := true }, kinds := [], alts := [], laidByText := true, laidKinds := [.handle], laidTests := true, laidLooks := .later }
def ModeDoesCardSaid : Prop := Claim7.holds Tryz.pinned (.plain (OpenSpec.ofChange modeDoesSpec)) modeDoesCard

/-- THE TIED CARD OF 'lockboxlaw06.ModeXors'. -/
def modeXorsCard : Claim7 := { stood := { row := modeXorsRow, standIns := [], harness := (true, "7d2cf949174739022ae3db1819ceed9c3953cdf07e8c818adc6e4071f814f381"), looks := true }, kinds := [], alts := [], laidByText := true, laidKinds := [.handle], laidTests := true, laidLooks := .later }
def ModeXorsCardSaid : Prop := Claim7.holds Tryz.pinned (.plain (OpenSpec.ofChange modeXorsSpec)) modeXorsCard

/-- THE TIED CARD OF 'lockboxlaw06.ModeBack'. -/
def modeBackCard : Claim7 := { stood := { row := modeBackRow, standIns := [], harness := (true, "7d2cf949174739022ae3db1819ceed9c3953cdf07e8c818adc6e4071f814f381"), looks := true }, kinds := [], alts := [], laidByText := true, laidKinds := [.handle], laidTests := true, laidLooks := .later }
def ModeBackCardSaid : Prop := Claim7.holds Tryz.pinned (.plain (OpenSpec.ofChange modeBackSpec)) modeBackCard

/-- THE TIED CARD OF 'lockboxlaw06.ModeParts'. -/
def modePartsCard : Claim7 := { stood := { row := modePartsRow, standIns := [], harness := (true, "7d2cf949174739022ae3db1819ceed9c3953cdf07e8c818adc6e4071f814f381"), looks := true }, kinds := [], alts := [], laidByText := true, laidKinds := [.handle], laidTests := true, laidLooks := .later }
def ModePartsCardSaid : Prop := Claim7.holds Tryz.pinned (.plain (OpenSpec.ofChange modePartsSpec)) modePartsCard

/-- THE TIED CARD OF 'lockboxlaw06.ModeKeeps'. -/
def modeKeepsCard : Claim7 := { stood := { row := modeKeepsRow, standIns := [], harness := (true, "7d2cf949174739022ae3db1819ceed9c3953cdf07e8c818adc6e4071f814f381"), looks := true }, kinds := [], alts := [], laidByText := true, laidKinds := [.handle], laidTests := true, laidLooks := .later }
def ModeKeepsCardSaid : Prop := Claim7.holds Tryz.pinned (.plain (OpenSpec.ofChange modeKeepsSpec)) modeKeepsCard

/-- THE SECOND FORM's CARD OF 'lockboxlaw05.BlockAsks'. -/
def blockAsksUptoCard : Claim7 := { stood := { row := blockAsksUptoRow, standIns := [], harness := (true, "7d2cf949174739022ae3db1819ceed9c3953cdf07e8c818adc6e4071f814f381"), looks := true }, kinds := [], alts := [], laidByText := true, laidKinds := [.handle], laidTests := true, laidLooks := .later }
def BlockAsksUptoCardSaid : Prop := Claim7.holds Tryz.pinned (.plain (OpenSpec.upto blockAsksSpec)) blockAsksUptoCard

/-- THE SECOND FORM's CARD OF 'lockboxlaw06.ModeDoes'. -/
def modeDoesUptoCard : Claim7 := { stood := { row := modeDoesUptoRow, standIns := [], harness := (true, "7d2cf949174739022ae3db1819ceed9c3953cdf07e8c818adc6e4071f814f381"), looks := true }, kinds := [], alts := [], laidByText := true, laidKinds := [.handle], laidTests := true, laidLooks := .later }
def ModeDoesUptoCardSaid : Prop := Claim7.holds Tryz.pinned (.plain (OpenSpec.upto modeDoesSpec)) modeDoesUptoCard

/-- THE SECOND FORM's CARD OF 'lockboxlaw06.ModeXors'. -/
def modeXorsUptoCard : Claim7 := { stood := { row := modeXorsUptoRow, standIns := [], harness := (true, "7d2cf949174739022ae3db1819ceed9c3953cdf07e8c818adc6e4071f814f381"), looks := true }, kinds := [], alts := [], laidByText := true, laidKinds := [.handle], laidTests := true, laidLooks := .later }
def ModeXorsUptoCardSaid : Prop := Claim7.holds Tryz.pinned (.plain (OpenSpec.upto modeXorsSpec)) modeXorsUptoCard

/-- THE SECOND FORM's CARD OF 'lockboxlaw06.ModeBack'. -/
def modeBackUptoCard : Claim7 := { stood := { row := modeBackUptoRow, standIns := [], harness := (true, "7d2cf949174739022ae3db1819ceed9c3953cdf07e8c818adc6e4071f814f381"), looks := true }, kinds := [], alts := [], laidByText := true, laidKinds := [.handle], laidTests := true, laidLooks := .later }
def ModeBackUptoCardSaid : Prop := Claim7.holds Tryz.pinned (.plain (OpenSpec.upto modeBackSpec)) modeBackUptoCard

/-- THE SECOND FORM's CARD OF 'lockboxlaw06.ModeParts'. -/
def modePartsUptoCard : Claim7 := { stood := { row := modePartsUptoRow, standIns := [], harness := (true, "7d2cf949174739022ae3db1819ceed9c3953cdf07e8c818adc6e4071f814f381"), looks := true }, kinds := [], alts := [], laidByText := true, laidKinds := [.handle], laidTests := true, laidLooks := .later }
def ModePartsUptoCardSaid : Prop := Claim7.holds Tryz.pinned (.plain (OpenSpec.upto modePartsSpec)) modePartsUptoCard

/-- THE SECOND FORM's CARD OF 'lockboxlaw06.ModeKeeps'. -/
def modeKeepsUptoCard : Claim7 := { stood := { row := modeKeepsUptoRow, standIns := [], harness := (true, "7d2cf949174739022ae3db1819ceed9c3953cdf07e8c818adc6e4071f814f381"), looks := true }, kinds := [], alts := [], laidByText := true, laidKinds := [.handle], laidTests := true, laidLooks := .later }
def ModeKeepsUptoCardSaid : Prop := Claim7.holds Tryz.pinned (.plain (OpenSpec.upto modeKeepsSpec)) modeKeepsUptoCard
end Rows
end Go.Proofs.YtdodflnmhgnpeaaGreatDoor
