/-
  DERIVED. GIVEN WITH THE SEED: THE CARDS: each row of YtlmacfmfmjhidaaGreatDoorRows.lean that lists a variable, with what it lists TIED to the program's text (the seventh form; the later family's looks); each row that meets fmt, with fmt's text TOLD by the authors' own Lean function (tested against real Go, not proved from fmt's source: count such statements apart). THE CARD IS WHAT COUNTS. Prove the row's statement (the work); the ties are given (YtlmacfmfmjhidaaGreatDoorTie.lean); close each card by the builder's one call (the guide's Derived/Test/ToyasCard.lean, 'card_holds'). Laid BY PROGRAM, IN A SANDBOX (cutbox-door.mjs). By AI agents, Wed Nov 11 2026. No macro, syntax, notation, axiom, sorry.
-/
import Derived.Test.YtlmacfmfmjhidaaGreatDoorRows
import GoSem.ClaimSeven
namespace Go.Proofs.YtlmacfmfmjhidaaGreatDoor
namespace Rows

/-- THE TIED CARD OF 'lockboxlaw11.WrapWraps'. -/
def wrapWrapsCard : Claim7 := { stood := { row := wrapWrapsRow, standIns := [], harness := (true, "5c0ce6bbb0a699faef97d869ebcce0d360811a7dc5af30436f2f40944bf2e095"), looks := true }, kinds := [], alts := [], laidByText := true, laidKinds := [.data, .data, .data, .handle], laidTests := true, laidLooks := .later }
def WrapWrapsCardSaid : Prop := Claim7.holds Tryz.pinned (.plain (OpenSpec.ofChange wrapWrapsSpec)) wrapWrapsCard

/-- THE TIED CARD OF 'lockboxlaw11.WrapUnwraps'. -/
def wrapUnwrapsCard : Claim7 := { stood := { row := wrapUnwrapsRow, standIns := [], harness := (true, "5c0ce6bbb0a699faef97d869ebcce0d360811a7dc5af30436f2f40944bf2e095"), looks := true }, kinds := [], alts := [], laidByText := true, laidKinds := [.data, .data, .data, .handle], laidTests := true, laidLooks := .later }
def WrapUnwrapsCardSaid : Prop := Claim7.holds Tryz.pinned (.plain (OpenSpec.ofChange wrapUnwrapsSpec)) wrapUnwrapsCard

/-- THE TIED CARD OF 'lockboxlaw11.WrapSpoilt'. -/
def wrapSpoiltCard : Claim7 := { stood := { row := wrapSpoiltRow, standIns := [], harness := (true, "5c0ce6bbb0a699faef97d869ebcce0d360811a7dc5af30436f2f40944bf2e095"), looks := true }, kinds := [], alts := [], laidByText := true, laidKinds := [.data, .data, .data, .handle], laidTests := true, laidLooks := .later }
def WrapSpoiltCardSaid : Prop := Claim7.holds Tryz.pinned (.plain (OpenSpec.ofChange wrapSpoiltSpec)) wrapSpoiltCard

/-- THE SECOND FORM's CARD OF 'lockboxlaw11.WrapWraps'. -/
def wrapWrapsUptoCard : Claim7 := { stood := { row := wrapWrapsUptoRow, standIns := [], harness := (true, "5c0ce6bbb0a699faef97d869ebcce0d360811a7dc5af30436f2f40944bf2e095"), looks := true }, kinds := [], alts := [], laidByText := true, laidKinds := [.data, .data, .data, .handle], laidTests := true, laidLooks := .later }
def WrapWrapsUptoCardSaid : Prop := Claim7.holds Tryz.pinned (.plain (OpenSpec.upto wrapWrapsSpec)) wrapWrapsUptoCard

/-- THE SECOND FORM's CARD OF 'lockboxlaw11.WrapUnwraps'. -/
def wrapUnwrapsUptoCard : Claim7 := { stood := { row := wrapUnwrapsUptoRow, standIns := [], harness := (true, "5c0ce6bbb0a699faef97d869ebcce0d360811a7dc5af30436f2f40944bf2e095"), looks := true }, kinds := [], alts := [], laidByText := true, laidKinds := [.data, .data, .data, .handle], laidTests := true, laidLooks := .later }
def WrapUnwrapsUptoCardSaid : Prop := Claim7.holds Tryz.pinned (.plain (OpenSpec.upto wrapUnwrapsSpec)) wrapUnwrapsUptoCard

/-- THE SECOND FORM's CARD OF 'lockboxlaw11.WrapSpoilt'. -/
def wrapSpoiltUptoCard : Claim7 := { stood := { row := wrapSpoiltUptoRow, standIns := [], harness := (true, "5c0ce6bbb0a699faef97d869ebcce0d360811a7dc5af30436f2f40944bf2e095"), looks := true }, kinds := [], alts := [], laidByText := true, laidKinds := [.data, .data, .data, .handle], laidTests := true, laidLooks := .later }
def WrapSpoiltUptoCardSaid : Prop := Claim7.holds Tryz.pinned (.plain (OpenSpec.upto wrapSpoiltSpec)) wrapSpoiltUptoCard
end Rows
end Go.Proofs.YtlmacfmfmjhidaaGreatDoor
