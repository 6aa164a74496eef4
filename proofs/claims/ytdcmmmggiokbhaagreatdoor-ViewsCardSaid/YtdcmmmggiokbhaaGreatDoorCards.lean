/-
  DERIVED. GIVEN WITH THE SEED: THE CARDS: each row of YtdcmmmggiokbhaaGreatDoorRows.lean that lists a variable, with what it lists TIED to the program's text (the seventh form; the later family's looks); each row that meets fmt, with fmt's text TOLD by the authors' own Lean function (tested against real Go, not proved from fmt's source: count such statements apart). THE CARD IS WHAT COUNTS. Prove the row's statement (the work); the ties are given (YtdcmmmggiokbhaaGreatDoorTie.lean); close each card by the builder's one call (the guide's Derived/Test/ToyasCard.lean, 'card_holds'). Laid BY PROGRAM, IN A SANDBOX (cutbox-door.mjs). By AI agents, Wed Nov 11 2026. No macro, syntax, notation, axiom, sorry.
-/
import Derived.Test.YtdcmmmggiokbhaaGreatDoorRows
import GoSem.ClaimSeven
namespace Go.Proofs.YtdcmmmggiokbhaaGreatDoor
namespace Rows

/-- THE TIED CARD OF 'overlaylaw.Files'. -/
def filesCard : Claim7 := { stood := { row := filesRow, standIns := [], harness := (true, "508866388f8a4ac4e1609c1c1bfd916fb3a7dfc2dc149ec3c7464e9eaf3b36b4"), looks := true }, kinds := [], alts := [], laidByText := true, laidKinds := [.data, .data, .data, .handle, .sentinel, .sentinel, .sentinel, .sentinel], laidTests := true, laidLooks := .later }
def FilesCardSaid : Prop := Claim7.holds Tryz.pinned (.plain (OpenSpec.ofChange filesSpec)) filesCard

/-- THE TIED CARD OF 'overlaylaw.Views'. -/
def viewsCard : Claim7 := { stood := { row := viewsRow, standIns := [], harness := (true, "508866388f8a4ac4e1609c1c1bfd916fb3a7dfc2dc149ec3c7464e9eaf3b36b4"), looks := true }, kinds := [], alts := [], laidByText := true, laidKinds := [.data, .data, .data, .handle, .sentinel, .sentinel, .sentinel, .sentinel], laidTests := true, laidLooks := .later }
def ViewsCardSaid : Prop := Claim7.holds Tryz.pinned (.plain (OpenSpec.ofChange viewsSpec)) viewsCard

/-- THE SECOND FORM's CARD OF 'overlaylaw.Files'. -/
def filesUptoCard : Claim7 := { stood := { row := filesUptoRow, standIns := [], harness := (true, "508866388f8a4ac4e1609c1c1bfd916fb3a7dfc2dc149ec3c7464e9eaf3b36b4"), looks := true }, kinds := [], alts := [], laidByText := true, laidKinds := [.data, .data, .data, .handle, .sentinel, .sentinel, .sentinel, .sentinel], laidTests := true, laidLooks := .later }
def FilesUptoCardSaid : Prop := Claim7.holds Tryz.pinned (.plain (OpenSpec.upto filesSpec)) filesUptoCard

/-- THE SECOND FORM's CARD OF 'overlaylaw.Views'. -/
def viewsUptoCard : Claim7 := { stood := { row := viewsUptoRow, standIns := [], harness := (true, "508866388f8a4ac4e1609c1c1bfd916fb3a7dfc2dc149ec3c7464e9eaf3b36b4"), looks := true }, kinds := [], alts := [], laidByText := true, laidKinds := [.data, .data, .data, .handle, .sentinel, .sentinel, .sentinel, .sentinel], laidTests := true, laidLooks := .later }
def ViewsUptoCardSaid : Prop := Claim7.holds Tryz.pinned (.plain (OpenSpec.upto viewsSpec)) viewsUptoCard
end Rows
end Go.Proofs.YtdcmmmggiokbhaaGreatDoor
