/-
  DERIVED. GIVEN WITH THE SEED: THE CARDS: each row of YtejmifokceoofaaDoorRows.lean that lists a variable, with what it lists TIED to the program's text (the seventh form; the later family's looks); each row that meets fmt, with fmt's text TOLD by the authors' own Lean function (tested against real Go, not proved from fmt's source: count such statements apart). THE CARD IS WHAT COUNTS. Prove the row's statement (the work); the ties are given (YtejmifokceoofaaDoorTie.lean); close each card by the builder's one call (the guide's Derived/Test/ToyasCard.lean, 'card_holds'). Laid BY PROGRAM, IN A SANDBOX (cutbox-door.mjs). By AI agents, Wed Nov 11 2026. No macro, syntax, notation, axiom, sorry.
-/
import Derived.Test.YtejmifokceoofaaDoorRows
import GoSem.ClaimSeven
namespace Go.Proofs.YtejmifokceoofaaDoor
namespace Rows

/-- THE TIED CARD OF 'dovetaillaw8.MachAlu'. -/
def machAluCard : Claim7 := { stood := { row := machAluRow, standIns := [], harness := (true, "bc8c834c6a1f87a82012fe345b346633e90507adde4858b75b1ed5306126d900"), looks := false }, kinds := [], alts := [], laidByText := true, laidKinds := [.data], laidTests := true, laidLooks := .later }
def MachAluCardSaid : Prop := Claim7.holds Tryd.pinned (.plain (OpenSpec.ofChange machAluSpec)) machAluCard

/-- THE TIED CARD OF 'dovetaillaw8.MachParts'. -/
def machPartsCard : Claim7 := { stood := { row := machPartsRow, standIns := [], harness := (true, "bc8c834c6a1f87a82012fe345b346633e90507adde4858b75b1ed5306126d900"), looks := false }, kinds := [], alts := [], laidByText := true, laidKinds := [.data], laidTests := true, laidLooks := .later }
def MachPartsCardSaid : Prop := Claim7.holds Tryd.pinned (.plain (OpenSpec.ofChange machPartsSpec)) machPartsCard

/-- THE TIED CARD OF 'dovetaillaw8.MachWords'. -/
def machWordsCard : Claim7 := { stood := { row := machWordsRow, standIns := [], harness := (true, "bc8c834c6a1f87a82012fe345b346633e90507adde4858b75b1ed5306126d900"), looks := false }, kinds := [], alts := [], laidByText := true, laidKinds := [.data], laidTests := true, laidLooks := .later }
def MachWordsCardSaid : Prop := Claim7.holds Tryd.pinned (.plain (OpenSpec.ofChange machWordsSpec)) machWordsCard

/-- THE TIED CARD OF 'dovetaillaw8.MachDivides'. -/
def machDividesCard : Claim7 := { stood := { row := machDividesRow, standIns := [], harness := (true, "bc8c834c6a1f87a82012fe345b346633e90507adde4858b75b1ed5306126d900"), looks := false }, kinds := [], alts := [], laidByText := true, laidKinds := [.data], laidTests := true, laidLooks := .later }
def MachDividesCardSaid : Prop := Claim7.holds Tryd.pinned (.plain (OpenSpec.ofChange machDividesSpec)) machDividesCard

/-- THE TIED CARD OF 'dovetaillaw8.MachMuls'. -/
def machMulsCard : Claim7 := { stood := { row := machMulsRow, standIns := [], harness := (true, "bc8c834c6a1f87a82012fe345b346633e90507adde4858b75b1ed5306126d900"), looks := false }, kinds := [], alts := [], laidByText := true, laidKinds := [.data], laidTests := true, laidLooks := .later }
def MachMulsCardSaid : Prop := Claim7.holds Tryd.pinned (.plain (OpenSpec.ofChange machMulsSpec)) machMulsCard

/-- THE TIED CARD OF 'dovetaillaw8.MachTraps'. -/
def machTrapsCard : Claim7 := { stood := { row := machTrapsRow, standIns := [], harness := (true, "bc8c834c6a1f87a82012fe345b346633e90507adde4858b75b1ed5306126d900"), looks := false }, kinds := [], alts := [], laidByText := true, laidKinds := [.data], laidTests := true, laidLooks := .later }
def MachTrapsCardSaid : Prop := Claim7.holds Tryd.pinned (.plain (OpenSpec.ofChange machTrapsSpec)) machTrapsCard

/-- THE SECOND FORM's CARD OF 'dovetaillaw8.MachAlu'. -/
def machAluUptoCard : Claim7 := { stood := { row := machAluUptoRow, standIns := [], harness := (true, "bc8c834c6a1f87a82012fe345b346633e90507adde4858b75b1ed5306126d900"), looks := false }, kinds := [], alts := [], laidByText := true, laidKinds := [.data], laidTests := true, laidLooks := .later }
def MachAluUptoCardSaid : Prop := Claim7.holds Tryd.pinned (.plain (OpenSpec.upto machAluSpec)) machAluUptoCard

/-- THE SECOND FORM's CARD OF 'dovetaillaw8.MachParts'. -/
def machPartsUptoCard : Claim7 := { stood := { row := machPartsUptoRow, standIns := [], harness := (true, "bc8c834c6a1f87a82012fe345b346633e90507adde4858b75b1ed5306126d900"), looks := false }, kinds := [], alts := [], laidByText := true, laidKinds := [.data], laidTests := true, laidLooks := .later }
def MachPartsUptoCardSaid : Prop := Claim7.holds Tryd.pinned (.plain (OpenSpec.upto machPartsSpec)) machPartsUptoCard

/-- THE SECOND FORM's CARD OF 'dovetaillaw8.MachWords'. -/
def machWordsUptoCard : Claim7 := { stood := { row := machWordsUptoRow, standIns := [], harness := (true, "bc8c834c6a1f87a82012fe345b346633e90507adde4858b75b1ed5306126d900"), looks := false }, kinds := [], alts := [], laidByText := true, laidKinds := [.data], laidTests := true, laidLooks := .later }
def MachWordsUptoCardSaid : Prop := Claim7.holds Tryd.pinned (.plain (OpenSpec.upto machWordsSpec)) machWordsUptoCard

/-- THE SECOND FORM's CARD OF 'dovetaillaw8.MachDivides'. -/
def machDividesUptoCard : Claim7 := { stood := { row := machDividesUptoRow, standIns := [], harness := (true, "bc8c834c6a1f87a82012fe345b346633e90507adde4858b75b1ed5306126d900"), looks := false }, kinds := [], alts := [], laidByText := true, laidKinds := [.data], laidTests := true, laidLooks := .later }
def MachDividesUptoCardSaid : Prop := Claim7.holds Tryd.pinned (.plain (OpenSpec.upto machDividesSpec)) machDividesUptoCard

/-- THE SECOND FORM's CARD OF 'dovetaillaw8.MachMuls'. -/
def machMulsUptoCard : Claim7 := { stood := { row := machMulsUptoRow, standIns := [], harness := (true, "bc8c834c6a1f87a82012fe345b346633e90507adde4858b75b1ed5306126d900"), looks := false }, kinds := [], alts := [], laidByText := true, laidKinds := [.data], laidTests := true, laidLooks := .later }
def MachMulsUptoCardSaid : Prop := Claim7.holds Tryd.pinned (.plain (OpenSpec.upto machMulsSpec)) machMulsUptoCard

/-- THE SECOND FORM's CARD OF 'dovetaillaw8.MachTraps'. -/
def machTrapsUptoCard : Claim7 := { stood := { row := machTrapsUptoRow, standIns := [], harness := (true, "bc8c834c6a1f87a82012fe345b346633e90507adde4858b75b1ed5306126d900"), looks := false }, kinds := [], alts := [], laidByText := true, laidKinds := [.data], laidTests := true, laidLooks := .later }
def MachTrapsUptoCardSaid : Prop := Claim7.holds Tryd.pinned (.plain (OpenSpec.upto machTrapsSpec)) machTrapsUptoCard
end Rows
end Go.Proofs.YtejmifokceoofaaDoor
