/-
  DERIVED. GIVEN WITH THE SEED: THE CARDS: each row of YtaeleohjikheiaaGreatDoorRows.lean that lists a variable, with what it lists TIED to the program's text (the seventh form; the later family's looks); each row that meets fmt, with fmt's text TOLD by the authors' own Lean function (tested against real Go, not proved from fmt's source: count such statements apart). THE CARD IS WHAT COUNTS. Prove the row's statement (the work); the ties are given (YtaeleohjikheiaaGreatDoorTie.lean); close each card by the builder's one call (the guide's Derived/Test/ToyasCard.lean, 'card_holds'). Laid BY PROGRAM, IN A SANDBOX (cutbox-door.mjs). By AI agents, Wed Nov 11 2026. No macro, syntax, notation, axiom, sorry.
-/
import Derived.Test.YtaeleohjikheiaaGreatDoorRows
import GoSem.ClaimSeven
namespace Go.Proofs.YtaeleohjikheiaaGreatDoor
namespace Rows

/-- THE TIED CARD OF 'lockboxlaw06.ModeDoes'. -/
def modeDoesCard : Claim7 := { stood := { row := modeDoesRow, standIns := [], harness := (true, "f352372c4b8b1614ea4be210f49b5323ff8f1e88597bb11f26bb53e2e0cdfc5d"), looks := true }, kinds := [], alts := [], laidByText := true, laidKinds := [.handle], laidTests := true, laidLooks := .later }
def ModeDoesCardSaid : Prop := Claim7.holds Tryz.pinned (.plain (OpenSpec.ofChange modeDoesSpec)) modeDoesCard

/-- THE TIED CARD OF 'lockboxlaw07.MacCmacs'. -/
def macCmacsCard : Claim7 := { stood := { row := macCmacsRow, standIns := [], harness := (true, "f352372c4b8b1614ea4be210f49b5323ff8f1e88597bb11f26bb53e2e0cdfc5d"), looks := true }, kinds := [], alts := [], laidByText := true, laidKinds := [.handle], laidTests := true, laidLooks := .later }
def MacCmacsCardSaid : Prop := Claim7.holds Tryz.pinned (.plain (OpenSpec.ofChange macCmacsSpec)) macCmacsCard

/-- THE TIED CARD OF 'lockboxlaw09.PartRights'. -/
def partRightsCard : Claim7 := { stood := { row := partRightsRow, standIns := [], harness := (true, "f352372c4b8b1614ea4be210f49b5323ff8f1e88597bb11f26bb53e2e0cdfc5d"), looks := true }, kinds := [], alts := [], laidByText := true, laidKinds := [.handle], laidTests := true, laidLooks := .later }
def PartRightsCardSaid : Prop := Claim7.holds Tryz.pinned (.plain (OpenSpec.ofChange partRightsSpec)) partRightsCard

/-- THE TIED CARD OF 'lockboxlaw09.PartValues'. -/
def partValuesCard : Claim7 := { stood := { row := partValuesRow, standIns := [], harness := (true, "f352372c4b8b1614ea4be210f49b5323ff8f1e88597bb11f26bb53e2e0cdfc5d"), looks := true }, kinds := [], alts := [], laidByText := true, laidKinds := [.handle], laidTests := true, laidLooks := .later }
def PartValuesCardSaid : Prop := Claim7.holds Tryz.pinned (.plain (OpenSpec.ofChange partValuesSpec)) partValuesCard

/-- THE TIED CARD OF 'lockboxlaw09.PartJoins'. -/
def partJoinsCard : Claim7 := { stood := { row := partJoinsRow, standIns := [], harness := (true, "f352372c4b8b1614ea4be210f49b5323ff8f1e88597bb11f26bb53e2e0cdfc5d"), looks := true }, kinds := [], alts := [], laidByText := true, laidKinds := [.handle], laidTests := true, laidLooks := .later }
def PartJoinsCardSaid : Prop := Claim7.holds Tryz.pinned (.plain (OpenSpec.ofChange partJoinsSpec)) partJoinsCard

/-- THE TIED CARD OF 'lockboxlaw09.PartJoin'. -/
def partJoinCard : Claim7 := { stood := { row := partJoinRow, standIns := [], harness := (true, "f352372c4b8b1614ea4be210f49b5323ff8f1e88597bb11f26bb53e2e0cdfc5d"), looks := true }, kinds := [], alts := [], laidByText := true, laidKinds := [.handle], laidTests := true, laidLooks := .later }
def PartJoinCardSaid : Prop := Claim7.holds Tryz.pinned (.plain (OpenSpec.ofChange partJoinSpec)) partJoinCard

/-- THE TIED CARD OF 'lockboxlaw09.PartKeeps'. -/
def partKeepsCard : Claim7 := { stood := { row := partKeepsRow, standIns := [], harness := (true, "f352372c4b8b1614ea4be210f49b5323ff8f1e88597bb11f26bb53e2e0cdfc5d"), looks := true }, kinds := [], alts := [], laidByText := true, laidKinds := [.handle], laidTests := true, laidLooks := .later }
def PartKeepsCardSaid : Prop := Claim7.holds Tryz.pinned (.plain (OpenSpec.ofChange partKeepsSpec)) partKeepsCard

/-- THE TIED CARD OF 'lockboxlaw09.PartOdd'. -/
def partOddCard : Claim7 := { stood := { row := partOddRow, standIns := [], harness := (true, "f352372c4b8b1614ea4be210f49b5323ff8f1e88597bb11f26bb53e2e0cdfc5d"), looks := true }, kinds := [], alts := [], laidByText := true, laidKinds := [.handle], laidTests := true, laidLooks := .later }
def PartOddCardSaid : Prop := Claim7.holds Tryz.pinned (.plain (OpenSpec.ofChange partOddSpec)) partOddCard

/-- THE SECOND FORM's CARD OF 'lockboxlaw06.ModeDoes'. -/
def modeDoesUptoCard : Claim7 := { stood := { row := modeDoesUptoRow, standIns := [], harness := (true, "f352372c4b8b1614ea4be210f49b5323ff8f1e88597bb11f26bb53e2e0cdfc5d"), looks := true }, kinds := [], alts := [], laidByText := true, laidKinds := [.handle], laidTests := true, laidLooks := .later }
def ModeDoesUptoCardSaid : Prop := Claim7.holds Tryz.pinned (.plain (OpenSpec.upto modeDoesSpec)) modeDoesUptoCard

/-- THE SECOND FORM's CARD OF 'lockboxlaw07.MacCmacs'. -/
def macCmacsUptoCard : Claim7 := { stood := { row := macCmacsUptoRow, standIns := [], harness := (true, "f352372c4b8b1614ea4be210f49b5323ff8f1e88597bb11f26bb53e2e0cdfc5d"), looks := true }, kinds := [], alts := [], laidByText := true, laidKinds := [.handle], laidTests := true, laidLooks := .later }
def MacCmacsUptoCardSaid : Prop := Claim7.holds Tryz.pinned (.plain (OpenSpec.upto macCmacsSpec)) macCmacsUptoCard

/-- THE SECOND FORM's CARD OF 'lockboxlaw09.PartRights'. -/
def partRightsUptoCard : Claim7 := { stood := { row := partRightsUptoRow, standIns := [], harness := (true, "f352372c4b8b1614ea4be210f49b5323ff8f1e88597bb11f26bb53e2e0cdfc5d"), looks := true }, kinds := [], alts := [], laidByText := true, laidKinds := [.handle], laidTests := true, laidLooks := .later }
def PartRightsUptoCardSaid : Prop := Claim7.holds Tryz.pinned (.plain (OpenSpec.upto partRightsSpec)) partRightsUptoCard

/-- THE SECOND FORM's CARD OF 'lockboxlaw09.PartValues'. -/
def partValuesUptoCard : Claim7 := { stood := { row := partValuesUptoRow, standIns := [], harness := (true, "f352372c4b8b1614ea4be210f49b5323ff8f1e88597bb11f26bb53e2e0cdfc5d"), looks := true }, kinds := [], alts := [], laidByText := true, laidKinds := [.handle], laidTests := true, laidLooks := .later }
def PartValuesUptoCardSaid : Prop := Claim7.holds Tryz.pinned (.plain (OpenSpec.upto partValuesSpec)) partValuesUptoCard

/-- THE SECOND FORM's CARD OF 'lockboxlaw09.PartJoins'. -/
def partJoinsUptoCard : Claim7 := { stood := { row := partJoinsUptoRow, standIns := [], harness := (true, "f352372c4b8b1614ea4be210f49b5323ff8f1e88597bb11f26bb53e2e0cdfc5d"), looks := true }, kinds := [], alts := [], laidByText := true, laidKinds := [.handle], laidTests := true, laidLooks := .later }
def PartJoinsUptoCardSaid : Prop := Claim7.holds Tryz.pinned (.plain (OpenSpec.upto partJoinsSpec)) partJoinsUptoCard

/-- THE SECOND FORM's CARD OF 'lockboxlaw09.PartJoin'. -/
def partJoinUptoCard : Claim7 := { stood := { row := partJoinUptoRow, standIns := [], harness := (true, "f352372c4b8b1614ea4be210f49b5323ff8f1e88597bb11f26bb53e2e0cdfc5d"), looks := true }, kinds := [], alts := [], laidByText := true, laidKinds := [.handle], laidTests := true, laidLooks := .later }
def PartJoinUptoCardSaid : Prop := Claim7.holds Tryz.pinned (.plain (OpenSpec.upto partJoinSpec)) partJoinUptoCard

/-- THE SECOND FORM's CARD OF 'lockboxlaw09.PartKeeps'. -/
def partKeepsUptoCard : Claim7 := { stood := { row := partKeepsUptoRow, standIns := [], harness := (true, "f352372c4b8b1614ea4be210f49b5323ff8f1e88597bb11f26bb53e2e0cdfc5d"), looks := true }, kinds := [], alts := [], laidByText := true, laidKinds := [.handle], laidTests := true, laidLooks := .later }
def PartKeepsUptoCardSaid : Prop := Claim7.holds Tryz.pinned (.plain (OpenSpec.upto partKeepsSpec)) partKeepsUptoCard

/-- THE SECOND FORM's CARD OF 'lockboxlaw09.PartOdd'. -/
def partOddUptoCard : Claim7 := { stood := { row := partOddUptoRow, standIns := [], harness := (true, "f352372c4b8b1614ea4be210f49b5323ff8f1e88597bb11f26bb53e2e0cdfc5d"), looks := true }, kinds := [], alts := [], laidByText := true, laidKinds := [.handle], laidTests := true, laidLooks := .later }
def PartOddUptoCardSaid : Prop := Claim7.holds Tryz.pinned (.plain (OpenSpec.upto partOddSpec)) partOddUptoCard
end Rows
end Go.Proofs.YtaeleohjikheiaaGreatDoor
