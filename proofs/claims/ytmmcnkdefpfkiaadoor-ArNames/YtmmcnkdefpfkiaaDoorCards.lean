/-
  DERIVED. GIVEN WITH THE SEED: THE CARDS: each row of YtmmcnkdefpfkiaaDoorRows.lean that lists a variable, with what it lists TIED to the program's text (the seventh form; the later family's looks); each row that meets fmt, with fmt's text TOLD by the authors' own Lean function (tested against real Go, not proved from fmt's source: count such statements apart). THE CARD IS WHAT COUNTS. Prove the row's statement (the work); the ties are given (YtmmcnkdefpfkiaaDoorTie.lean); close each card by the builder's one call (the guide's Derived/Test/ToyasCard.lean, 'card_holds'). Laid BY PROGRAM, IN A SANDBOX (cutbox-door.mjs). By AI agents, Wed Nov 11 2026. No macro, syntax, notation, axiom, sorry.
-/
import Derived.Test.YtmmcnkdefpfkiaaDoorRows
import GoSem.ClaimSeven
namespace Go.Proofs.YtmmcnkdefpfkiaaDoor
namespace Rows

/-- THE TIED CARD OF 'dovetaillaw17.ArMany'. -/
def arManyCard : Claim7 := { stood := { row := arManyRow, standIns := [], harness := (true, "362d2a56f2f6512293438d95415ff452c4dd0a49a277521caba4b394611c8157"), looks := true }, kinds := [], alts := [], laidByText := true, laidKinds := [.data, .data, .data, .data, .sentinel, .sentinel, .pinned], laidTests := true, laidLooks := .later }
def ArManyCardSaid : Prop := Claim7.holds Tryd.pinned (.plain (OpenSpec.ofChange arManySpec)) arManyCard

/-- THE TIED CARD OF 'dovetaillaw17.ArNames'. -/
def arNamesCard : Claim7 := { stood := { row := arNamesRow, standIns := [], harness := (true, "362d2a56f2f6512293438d95415ff452c4dd0a49a277521caba4b394611c8157"), looks := true }, kinds := [], alts := [], laidByText := true, laidKinds := [.data, .data, .data, .data, .sentinel, .sentinel, .pinned], laidTests := true, laidLooks := .later }
def ArNamesCardSaid : Prop := Claim7.holds Tryd.pinned (.plain (OpenSpec.ofChange arNamesSpec)) arNamesCard

/-- THE SECOND FORM's CARD OF 'dovetaillaw17.ArMany'. -/
def arManyUptoCard : Claim7 := { stood := { row := arManyUptoRow, standIns := [], harness := (true, "362d2a56f2f6512293438d95415ff452c4dd0a49a277521caba4b394611c8157"), looks := true }, kinds := [], alts := [], laidByText := true, laidKinds := [.data, .data, .data, .data, .sentinel, .sentinel, .pinned], laidTests := true, laidLooks := .later }
def ArManyUptoCardSaid : Prop := Claim7.holds Tryd.pinned (.plain (OpenSpec.upto arManySpec)) arManyUptoCard

/-- THE SECOND FORM's CARD OF 'dovetaillaw17.ArNames'. -/
def arNamesUptoCard : Claim7 := { stood := { row := arNamesUptoRow, standIns := [], harness := (true, "362d2a56f2f6512293438d95415ff452c4dd0a49a277521caba4b394611c8157"), looks := true }, kinds := [], alts := [], laidByText := true, laidKinds := [.data, .data, .data, .data, .sentinel, .sentinel, .pinned], laidTests := true, laidLooks := .later }
def ArNamesUptoCardSaid : Prop := Claim7.holds Tryd.pinned (.plain (OpenSpec.upto arNamesSpec)) arNamesUptoCard
end Rows
end Go.Proofs.YtmmcnkdefpfkiaaDoor
