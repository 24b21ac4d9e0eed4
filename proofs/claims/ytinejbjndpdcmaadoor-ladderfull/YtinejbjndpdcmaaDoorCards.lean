/-
  DERIVED. GIVEN WITH THE SEED: THE CARDS: each row of YtinejbjndpdcmaaDoorRows.lean that lists a variable, with what it lists TIED to the program's text (the seventh form; the later family's looks); each row that meets fmt, with fmt's text TOLD by the authors' own Lean function (tested against real Go, not proved from fmt's source: count such statements apart). THE CARD IS WHAT COUNTS. Prove the row's statement (the work); the ties are given (YtinejbjndpdcmaaDoorTie.lean); close each card by the builder's one call (the guide's Derived/Test/ToyasCard.lean, 'card_holds'). Laid BY PROGRAM, IN A SANDBOX (cutbox-door.mjs). By AI agents, Wed Nov 11 2026. No macro, syntax, notation, axiom, sorry.
-/
import Derived.Test.YtinejbjndpdcmaaDoorRows
import GoSem.ClaimSeven
namespace Go.Proofs.YtinejbjndpdcmaaDoor
namespace Rows

/-- THE TIED CARD OF 'lockboxlaw13.LadderNexts'. -/
def ladderNextsCard : Claim7 := { stood := { row := ladderNextsRow, standIns := [], harness := (true, "1a68de4265998d81233023c9843a3291c5a8b29096ca22deecc993fa2cabf1ab"), looks := true }, kinds := [], alts := [], laidByText := true, laidKinds := [.data, .data], laidTests := true, laidLooks := .later }
def LadderNextsCardSaid : Prop := Claim7.holds Tryd.pinned (.plain (OpenSpec.ofChange ladderNextsSpec)) ladderNextsCard

/-- THE TIED CARD OF 'lockboxlaw13.LadderHost'. -/
def ladderHostCard : Claim7 := { stood := { row := ladderHostRow, standIns := [], harness := (true, "1a68de4265998d81233023c9843a3291c5a8b29096ca22deecc993fa2cabf1ab"), looks := true }, kinds := [], alts := [], laidByText := true, laidKinds := [.data, .data], laidTests := true, laidLooks := .later }
def LadderHostCardSaid : Prop := Claim7.holds Tryd.pinned (.plain (OpenSpec.ofChange ladderHostSpec)) ladderHostCard

/-- THE TIED CARD OF 'lockboxlaw13.LadderFull'. -/
def ladderFullCard : Claim7 := { stood := { row := ladderFullRow, standIns := [], harness := (true, "1a68de4265998d81233023c9843a3291c5a8b29096ca22deecc993fa2cabf1ab"), looks := true }, kinds := [], alts := [], laidByText := true, laidKinds := [.data, .data], laidTests := true, laidLooks := .later }
def LadderFullCardSaid : Prop := Claim7.holds Tryd.pinned (.plain (OpenSpec.ofChange ladderFullSpec)) ladderFullCard

/-- THE TIED CARD OF 'lockboxlaw13.LadderApart'. -/
def ladderApartCard : Claim7 := { stood := { row := ladderApartRow, standIns := [], harness := (true, "1a68de4265998d81233023c9843a3291c5a8b29096ca22deecc993fa2cabf1ab"), looks := true }, kinds := [], alts := [], laidByText := true, laidKinds := [.data, .data, .handle], laidTests := true, laidLooks := .later }
def LadderApartCardSaid : Prop := Claim7.holds Tryd.pinned (.plain (OpenSpec.ofChange ladderApartSpec)) ladderApartCard

/-- THE SECOND FORM's CARD OF 'lockboxlaw13.LadderNexts'. -/
def ladderNextsUptoCard : Claim7 := { stood := { row := ladderNextsUptoRow, standIns := [], harness := (true, "1a68de4265998d81233023c9843a3291c5a8b29096ca22deecc993fa2cabf1ab"), looks := true }, kinds := [], alts := [], laidByText := true, laidKinds := [.data, .data], laidTests := true, laidLooks := .later }
def LadderNextsUptoCardSaid : Prop := Claim7.holds Tryd.pinned (.plain (OpenSpec.upto ladderNextsSpec)) ladderNextsUptoCard

/-- THE SECOND FORM's CARD OF 'lockboxlaw13.LadderHost'. -/
def ladderHostUptoCard : Claim7 := { stood := { row := ladderHostUptoRow, standIns := [], harness := (true, "1a68de4265998d81233023c9843a3291c5a8b29096ca22deecc993fa2cabf1ab"), looks := true }, kinds := [], alts := [], laidByText := true, laidKinds := [.data, .data], laidTests := true, laidLooks := .later }
def LadderHostUptoCardSaid : Prop := Claim7.holds Tryd.pinned (.plain (OpenSpec.upto ladderHostSpec)) ladderHostUptoCard

/-- THE SECOND FORM's CARD OF 'lockboxlaw13.LadderFull'. -/
def ladderFullUptoCard : Claim7 := { stood := { row := ladderFullUptoRow, standIns := [], harness := (true, "1a68de4265998d81233023c9843a3291c5a8b29096ca22deecc993fa2cabf1ab"), looks := true }, kinds := [], alts := [], laidByText := true, laidKinds := [.data, .data], laidTests := true, laidLooks := .later }
def LadderFullUptoCardSaid : Prop := Claim7.holds Tryd.pinned (.plain (OpenSpec.upto ladderFullSpec)) ladderFullUptoCard

/-- THE SECOND FORM's CARD OF 'lockboxlaw13.LadderApart'. -/
def ladderApartUptoCard : Claim7 := { stood := { row := ladderApartUptoRow, standIns := [], harness := (true, "1a68de4265998d81233023c9843a3291c5a8b29096ca22deecc993fa2cabf1ab"), looks := true }, kinds := [], alts := [], laidByText := true, laidKinds := [.data, .data, .handle], laidTests := true, laidLooks := .later }
def LadderApartUptoCardSaid : Prop := Claim7.holds Tryd.pinned (.plain (OpenSpec.upto ladderApartSpec)) ladderApartUptoCard
end Rows
end Go.Proofs.YtinejbjndpdcmaaDoor
