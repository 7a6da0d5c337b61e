/-
  DERIVED. GIVEN WITH THE SEED: THE CARDS: each row of YtdhjjlnabbpinaaGreatDoorRows.lean that lists a variable, with what it lists TIED to the program's text (the seventh form; the later family's looks); each row that meets fmt, with fmt's text TOLD by the authors' own Lean function (tested against real Go, not proved from fmt's source: count such statements apart). THE CARD IS WHAT COUNTS. Prove the row's statement (the work); the ties are given (YtdhjjlnabbpinaaGreatDoorTie.lean); close each card by the builder's one call (the guide's Derived/Test/ToyasCard.lean, 'card_holds'). Laid BY PROGRAM, IN A SANDBOX (cutbox-door.mjs). By AI agents, Wed Nov 11 2026. No macro, syntax, notation, axiom, sorry.
-/
import Derived.Test.YtdhjjlnabbpinaaGreatDoorRows
import GoSem.ClaimSeven
namespace Go.Proofs.YtdhjjlnabbpinaaGreatDoor
namespace Rows

/-- THE TIED CARD OF 'dovetaillaw8.MachSteps'. -/
def machStepsCard : Claim7 := { stood := { row := machStepsRow, standIns := [], harness := (true, "eebc1b1c161beeaa2b92038b0d79cd67d27371e4b4cfb79ee6a2d2c8ac2bbc2e"), looks := false }, kinds := [], alts := [], laidByText := true, laidKinds := [.data], laidTests := true, laidLooks := .later }
def MachStepsCardSaid : Prop := Claim7.holds Tryz.pinned (.plain (OpenSpec.ofChange machStepsSpec)) machStepsCard

/-- THE TIED CARD OF 'dovetaillaw8.MachMade'. -/
def machMadeCard : Claim7 := { stood := { row := machMadeRow, standIns := [], harness := (true, "eebc1b1c161beeaa2b92038b0d79cd67d27371e4b4cfb79ee6a2d2c8ac2bbc2e"), looks := false }, kinds := [], alts := [], laidByText := true, laidKinds := [.data], laidTests := true, laidLooks := .later }
def MachMadeCardSaid : Prop := Claim7.holds Tryz.pinned (.plain (OpenSpec.ofChange machMadeSpec)) machMadeCard

/-- THE TIED CARD OF 'dovetaillaw8.MachCalls'. -/
def machCallsCard : Claim7 := { stood := { row := machCallsRow, standIns := [], harness := (true, "eebc1b1c161beeaa2b92038b0d79cd67d27371e4b4cfb79ee6a2d2c8ac2bbc2e"), looks := false }, kinds := [], alts := [], laidByText := true, laidKinds := [.data], laidTests := true, laidLooks := .later }
def MachCallsCardSaid : Prop := Claim7.holds Tryz.pinned (.plain (OpenSpec.ofChange machCallsSpec)) machCallsCard

/-- THE SECOND FORM's CARD OF 'dovetaillaw8.MachSteps'. -/
def machStepsUptoCard : Claim7 := { stood := { row := machStepsUptoRow, standIns := [], harness := (true, "eebc1b1c161beeaa2b92038b0d79cd67d27371e4b4cfb79ee6a2d2c8ac2bbc2e"), looks := false }, kinds := [], alts := [], laidByText := true, laidKinds := [.data], laidTests := true, laidLooks := .later }
def MachStepsUptoCardSaid : Prop := Claim7.holds Tryz.pinned (.plain (OpenSpec.upto machStepsSpec)) machStepsUptoCard

/-- THE SECOND FORM's CARD OF 'dovetaillaw8.MachMade'. -/
def machMadeUptoCard : Claim7 := { stood := { row := machMadeUptoRow, standIns := [], harness := (true, "eebc1b1c161beeaa2b92038b0d79cd67d27371e4b4cfb79ee6a2d2c8ac2bbc2e"), looks := false }, kinds := [], alts := [], laidByText := true, laidKinds := [.data], laidTests := true, laidLooks := .later }
def MachMadeUptoCardSaid : Prop := Claim7.holds Tryz.pinned (.plain (OpenSpec.upto machMadeSpec)) machMadeUptoCard

/-- THE SECOND FORM's CARD OF 'dovetaillaw8.MachCalls'. -/
def machCallsUptoCard : Claim7 := { stood := { row := machCallsUptoRow, standIns := [], harness := (true, "eebc1b1c161beeaa2b92038b0d79cd67d27371e4b4cfb79ee6a2d2c8ac2bbc2e"), looks := false }, kinds := [], alts := [], laidByText := true, laidKinds := [.data], laidTests := true, laidLooks := .later }
def MachCallsUptoCardSaid : Prop := Claim7.holds Tryz.pinned (.plain (OpenSpec.upto machCallsSpec)) machCallsUptoCard
end Rows
end Go.Proofs.YtdhjjlnabbpinaaGreatDoor
