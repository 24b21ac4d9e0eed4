/-
  DERIVED. GIVEN WITH THE SEED: THE CARDS: each row of YtmmgimpokpgnaaaGreatDoorRows.lean that lists a variable, with what it lists TIED to the program's text (the seventh form; the later family's looks); each row that meets fmt, with fmt's text TOLD by the authors' own Lean function (tested against real Go, not proved from fmt's source: count such statements apart). THE CARD IS WHAT COUNTS. Prove the row's statement (the work); the ties are given (YtmmgimpokpgnaaaGreatDoorTie.lean); close each card by the builder's one call (the guide's Derived/Test/ToyasCard.lean, 'card_holds'). Laid BY PROGRAM, IN A SANDBOX (cutbox-door.mjs). By AI agents, Wed Nov 11 2026. No macro, syntax, notation, axiom, sorry.
-/
import Derived.Test.YtmmgimpokpgnaaaGreatDoorRows
import GoSem.ClaimSeven
namespace Go.Proofs.YtmmgimpokpgnaaaGreatDoor
namespace Rows

/-- THE TIED CARD OF 'lockboxlaw05.BlockAsks'. -/
def blockAsksCard : Claim7 := { stood := { row := blockAsksRow, standIns := [], harness := (true, "86f3862d8cf022184d6389c64ff8e2953ccac7078b74e74e2a6aef7bbe2e0c52"), looks := true }, kinds := [], alts := [], laidByText := true, laidKinds := [.handle], laidTests := true, laidLooks := .later }
def BlockAsksCardSaid : Prop := Claim7.holds Tryz.pinned (.plain (OpenSpec.ofChange blockAsksSpec)) blockAsksCard

/-- THE TIED CARD OF 'lockboxlaw06.ModeDoes'. -/
def modeDoesCard : Claim7 := { stood := { row := modeDoesRow, standIns := [], harness := (true, "86f3862d8cf022184d6389c64ff8e2953ccac7078b74e74e2a6aef7bbe2e0c52"), looks := true }, kinds := [], alts := [], laidByText := true, laidKinds := [.handle], laidTests := true, laidLooks := .later }
def ModeDoesCardSaid : Prop := Claim7.holds Tryz.pinned (.plain (OpenSpec.ofChange modeDoesSpec)) modeDoesCard

/-- THE TIED CARD OF 'lockboxlaw06.ModeKeeps'. -/
def modeKeepsCard : Claim7 := { stood := { row := modeKeepsRow, standIns := [], harness := (true, "86f3862d8cf022184d6389c64ff8e2953ccac7078b74e74e2a6aef7bbe2e0c52"), looks := true }, kinds := [], alts := [], laidByText := true, laidKinds := [.handle], laidTests := true, laidLooks := .later }
def ModeKeepsCardSaid : Prop := Claim7.holds Tryz.pinned (.plain (OpenSpec.ofChange modeKeepsSpec)) modeKeepsCard

/-- THE TIED CARD OF 'lockboxlaw07.MacCmacs'. -/
def macCmacsCard : Claim7 := { stood := { row := macCmacsRow, standIns := [], harness := (true, "86f3862d8cf022184d6389c64ff8e2953ccac7078b74e74e2a6aef7bbe2e0c52"), looks := true }, kinds := [], alts := [], laidByText := true, laidKinds := [.handle], laidTests := true, laidLooks := .later }
def MacCmacsCardSaid : Prop := Claim7.holds Tryz.pinned (.plain (OpenSpec.ofChange macCmacsSpec)) macCmacsCard

/-- THE TIED CARD OF 'lockboxlaw07.MacRetails'. -/
def macRetailsCard : Claim7 := { stood := { row := macRetailsRow, standIns := [], harness := (true, "86f3862d8cf022184d6389c64ff8e2953ccac7078b74e74e2a6aef7bbe2e0c52"), looks := true }, kinds := [], alts := [], laidByText := true, laidKinds := [.handle], laidTests := true, laidLooks := .later }
def MacRetailsCardSaid : Prop := Claim7.holds Tryz.pinned (.plain (OpenSpec.ofChange macRetailsSpec)) macRetailsCard

/-- THE SECOND FORM's CARD OF 'lockboxlaw05.BlockAsks'. -/
def blockAsksUptoCard : Claim7 := { stood := { row := blockAsksUptoRow, standIns := [], harness := (true, "86f3862d8cf022184d6389c64ff8e2953ccac7078b74e74e2a6aef7bbe2e0c52"), looks := true }, kinds := [], alts := [], laidByText := true, laidKinds := [.handle], laidTests := true, laidLooks := .later }
def BlockAsksUptoCardSaid : Prop := Claim7.holds Tryz.pinned (.plain (OpenSpec.upto blockAsksSpec)) blockAsksUptoCard

/-- THE SECOND FORM's CARD OF 'lockboxlaw06.ModeDoes'. -/
def modeDoesUptoCard : Claim7 := { stood := { row := modeDoesUptoRow, standIns := [], harness := (true, "86f3862d8cf022184d6389c64ff8e2953ccac7078b74e74e2a6aef7bbe2e0c52"), looks := true }, kinds := [], alts := [], laidByText := true, laidKinds := [.handle], laidTests := true, laidLooks := .later }
def ModeDoesUptoCardSaid : Prop := Claim7.holds Tryz.pinned (.plain (OpenSpec.upto modeDoesSpec)) modeDoesUptoCard

/-- THE SECOND FORM's CARD OF 'lockboxlaw06.ModeKeeps'. -/
def modeKeepsUptoCard : Claim7 := { stood := { row := modeKeepsUptoRow, standIns := [], harness := (true, "86f3862d8cf022184d6389c64ff8e2953ccac7078b74e74e2a6aef7bbe2e0c52"), looks := true }, kinds := [], alts := [], laidByText := true, laidKinds := [.handle], laidTests := true, laidLooks := .later }
def ModeKeepsUptoCardSaid : Prop := Claim7.holds Tryz.pinned (.plain (OpenSpec.upto modeKeepsSpec)) modeKeepsUptoCard

/-- THE SECOND FORM's CARD OF 'lockboxlaw07.MacCmacs'. -/
def macCmacsUptoCard : Claim7 := { stood := { row := macCmacsUptoRow, standIns := [], harness := (true, "86f3862d8cf022184d6389c64ff8e2953ccac7078b74e74e2a6aef7bbe2e0c52"), looks := true }, kinds := [], alts := [], laidByText := true, laidKinds := [.handle], laidTests := true, laidLooks := .later }
def MacCmacsUptoCardSaid : Prop := Claim7.holds Tryz.pinned (.plain (OpenSpec.upto macCmacsSpec)) macCmacsUptoCard

/-- THE SECOND FORM's CARD OF 'lockboxlaw07.MacRetails'. -/
def macRetailsUptoCard : Claim7 := { stood := { row := macRetailsUptoRow, standIns := [], harness := (true, "86f3862d8cf022184d6389c64ff8e2953ccac7078b74e74e2a6aef7bbe2e0c52"), looks := true }, kinds := [], alts := [], laidByText := true, laidKinds := [.handle], laidTests := true, laidLooks := .later }
def MacRetailsUptoCardSaid : Prop := Claim7.holds Tryz.pinned (.plain (OpenSpec.upto macRetailsSpec)) macRetailsUptoCard
end Rows
end Go.Proofs.YtmmgimpokpgnaaaGreatDoor
