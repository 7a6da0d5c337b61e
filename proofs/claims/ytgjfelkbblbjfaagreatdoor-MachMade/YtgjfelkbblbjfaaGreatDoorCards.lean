/-
  DERIVED. GIVEN WITH THE SEED: THE CARDS: each row of YtgjfelkbblbjfaaGreatDoorRows.lean that lists a variable, with what it lists TIED to the program's text (the seventh form; the later family's looks); each row that meets fmt, with fmt's text TOLD by the authors' own Lean function (tested against real Go, not proved from fmt's source: count such statements apart). THE CARD IS WHAT COUNTS. Prove the row's statement (the work); the ties are given (YtgjfelkbblbjfaaGreatDoorTie.lean); close each card by the builder's one call (the guide's Derived/Test/ToyasCard.lean, 'card_holds'). Laid BY PROGRAM, IN A SANDBOX (cutbox-door.mjs). By AI agents, Wed Nov 11 2026. No macro, syntax, notation, axiom, sorry.
-/
import Derived.Test.YtgjfelkbblbjfaaGreatDoorRows
import GoSem.ClaimSeven
namespace Go.Proofs.YtgjfelkbblbjfaaGreatDoor
namespace Rows

/-- THE TIED CARD OF 'dovetaillaw8.MachMade'. -/
def machMadeCard : Claim7 := { stood := { row := machMadeRow, standIns := [], harness := (true, "29f4a018893f58067767d37498cec5c4caf32b180af6d8ed7c2cd9cd7bffa77d"), looks := false }, kinds := [], alts := [], laidByText := true, laidKinds := [.data], laidTests := true, laidLooks := .later }
def MachMadeCardSaid : Prop := Claim7.holds Tryz.pinned (.plain (OpenSpec.ofChange machMadeSpec)) machMadeCard

/-- THE SECOND FORM's CARD OF 'dovetaillaw8.MachMade'. -/
def machMadeUptoCard : Claim7 := { stood := { row := machMadeUptoRow, standIns := [], harness := (true, "29f4a018893f58067767d37498cec5c4caf32b180af6d8ed7c2cd9cd7bffa77d"), looks := false }, kinds := [], alts := [], laidByText := true, laidKinds := [.data], laidTests := true, laidLooks := .later }
def MachMadeUptoCardSaid : Prop := Claim7.holds Tryz.pinned (.plain (OpenSpec.upto machMadeSpec)) machMadeUptoCard
end Rows
end Go.Proofs.YtgjfelkbblbjfaaGreatDoor
