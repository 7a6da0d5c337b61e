/-
  DERIVED. GIVEN WITH THE SEED: THE CARDS: each row of YtcghekkhbiomgaaGreatDoorRows.lean that lists a variable, with what it lists TIED to the program's text (the seventh form; the later family's looks); each row that meets fmt, with fmt's text TOLD by the authors' own Lean function (tested against real Go, not proved from fmt's source: count such statements apart). THE CARD IS WHAT COUNTS. Prove the row's statement (the work); the ties are given (YtcghekkhbiomgaaGreatDoorTie.lean); close each card by the builder's one call (the guide's Derived/Test/ToyasCard.lean, 'card_holds'). Laid BY PROGRAM, IN A SANDBOX (cutbox-door.mjs). By AI agents, Wed Nov 11 2026. No macro, syntax, notation, axiom, sorry.
-/
import Derived.Test.YtcghekkhbiomgaaGreatDoorRows
import GoSem.ClaimSeven
namespace Go.Proofs.YtcghekkhbiomgaaGreatDoor
namespace Rows

/-- THE TIED CARD OF 'dovetaillaw5.AsmTells'. -/
def asmTellsCard : Claim7 := { stood := { row := asmTellsRow, standIns := [], harness := (true, "cb0c91abf8040df01e048a06a6ecc61b4d2960890d42f35de3f2a9ce7a0dec99"), looks := true }, kinds := [], alts := [], laidByText := true, laidKinds := [.data, .data, .data, .data, .sentinel, .sentinel, .data, .data, .pinned], laidTests := true, laidLooks := .later }
def AsmTellsCardSaid : Prop := Claim7.holds Tryz.pinned (.plain (OpenSpec.ofChange asmTellsSpec)) asmTellsCard

/-- THE TIED CARD OF 'dovetaillaw5.AsmReads'. -/
def asmReadsCard : Claim7 := { stood := { row := asmReadsRow, standIns := [], harness := (true, "cb0c91abf8040df01e048a06a6ecc61b4d2960890d42f35de3f2a9ce7a0dec99"), looks := true }, kinds := [], alts := [], laidByText := true, laidKinds := [.data, .data, .data, .data, .sentinel, .sentinel, .data, .data, .pinned], laidTests := true, laidLooks := .later }
def AsmReadsCardSaid : Prop := Claim7.holds Tryz.pinned (.plain (OpenSpec.ofChange asmReadsSpec)) asmReadsCard

/-- THE TIED CARD OF 'dovetaillaw5.AsmLines'. -/
def asmLinesCard : Claim7 := { stood := { row := asmLinesRow, standIns := [], harness := (true, "cb0c91abf8040df01e048a06a6ecc61b4d2960890d42f35de3f2a9ce7a0dec99"), looks := true }, kinds := [], alts := [], laidByText := true, laidKinds := [.data, .data, .data, .data, .sentinel, .sentinel, .data, .data, .pinned], laidTests := true, laidLooks := .later }
def AsmLinesCardSaid : Prop := Claim7.holds Tryz.pinned (.plain (OpenSpec.ofChange asmLinesSpec)) asmLinesCard

/-- THE TIED CARD OF 'dovetaillaw5.AsmDumps'. -/
def asmDumpsCard : Claim7 := { stood := { row := asmDumpsRow, standIns := [], harness := (true, "cb0c91abf8040df01e048a06a6ecc61b4d2960890d42f35de3f2a9ce7a0dec99"), looks := true }, kinds := [], alts := [], laidByText := true, laidKinds := [.data, .data, .data, .data, .sentinel, .sentinel, .data, .data, .pinned], laidTests := true, laidLooks := .later }
def AsmDumpsCardSaid : Prop := Claim7.holds Tryz.pinned (.plain (OpenSpec.ofChange asmDumpsSpec)) asmDumpsCard

/-- THE TIED CARD OF 'dovetaillaw5.AsmNoise'. -/
def asmNoiseCard : Claim7 := { stood := { row := asmNoiseRow, standIns := [], harness := (true, "cb0c91abf8040df01e048a06a6ecc61b4d2960890d42f35de3f2a9ce7a0dec99"), looks := true }, kinds := [], alts := [], laidByText := true, laidKinds := [.data, .data, .data, .data, .sentinel, .sentinel, .data, .data, .pinned], laidTests := true, laidLooks := .later }
def AsmNoiseCardSaid : Prop := Claim7.holds Tryz.pinned (.plain (OpenSpec.ofChange asmNoiseSpec)) asmNoiseCard

/-- THE SECOND FORM's CARD OF 'dovetaillaw5.AsmTells'. -/
def asmTellsUptoCard : Claim7 := { stood := { row := asmTellsUptoRow, standIns := [], harness := (true, "cb0c91abf8040df01e048a06a6ecc61b4d2960890d42f35de3f2a9ce7a0dec99"), looks := true }, kinds := [], alts := [], laidByText := true, laidKinds := [.data, .data, .data, .data, .sentinel, .sentinel, .data, .data, .pinned], laidTests := true, laidLooks := .later }
def AsmTellsUptoCardSaid : Prop := Claim7.holds Tryz.pinned (.plain (OpenSpec.upto asmTellsSpec)) asmTellsUptoCard

/-- THE SECOND FORM's CARD OF 'dovetaillaw5.AsmReads'. -/
def asmReadsUptoCard : Claim7 := { stood := { row := asmReadsUptoRow, standIns := [], harness := (true, "cb0c91abf8040df01e048a06a6ecc61b4d2960890d42f35de3f2a9ce7a0dec99"), looks := true }, kinds := [], alts := [], laidByText := true, laidKinds := [.data, .data, .data, .data, .sentinel, .sentinel, .data, .data, .pinned], laidTests := true, laidLooks := .later }
def AsmReadsUptoCardSaid : Prop := Claim7.holds Tryz.pinned (.plain (OpenSpec.upto asmReadsSpec)) asmReadsUptoCard

/-- THE SECOND FORM's CARD OF 'dovetaillaw5.AsmLines'. -/
def asmLinesUptoCard : Claim7 := { stood := { row := asmLinesUptoRow, standIns := [], harness := (true, "cb0c91abf8040df01e048a06a6ecc61b4d2960890d42f35de3f2a9ce7a0dec99"), looks := true }, kinds := [], alts := [], laidByText := true, laidKinds := [.data, .data, .data, .data, .sentinel, .sentinel, .data, .data, .pinned], laidTests := true, laidLooks := .later }
def AsmLinesUptoCardSaid : Prop := Claim7.holds Tryz.pinned (.plain (OpenSpec.upto asmLinesSpec)) asmLinesUptoCard

/-- THE SECOND FORM's CARD OF 'dovetaillaw5.AsmDumps'. -/
def asmDumpsUptoCard : Claim7 := { stood := { row := asmDumpsUptoRow, standIns := [], harness := (true, "cb0c91abf8040df01e048a06a6ecc61b4d2960890d42f35de3f2a9ce7a0dec99"), looks := true }, kinds := [], alts := [], laidByText := true, laidKinds := [.data, .data, .data, .data, .sentinel, .sentinel, .data, .data, .pinned], laidTests := true, laidLooks := .later }
def AsmDumpsUptoCardSaid : Prop := Claim7.holds Tryz.pinned (.plain (OpenSpec.upto asmDumpsSpec)) asmDumpsUptoCard

/-- THE SECOND FORM's CARD OF 'dovetaillaw5.AsmNoise'. -/
def asmNoiseUptoCard : Claim7 := { stood := { row := asmNoiseUptoRow, standIns := [], harness := (true, "cb0c91abf8040df01e048a06a6ecc61b4d2960890d42f35de3f2a9ce7a0dec99"), looks := true }, kinds := [], alts := [], laidByText := true, laidKinds := [.data, .data, .data, .data, .sentinel, .sentinel, .data, .data, .pinned], laidTests := true, laidLooks := .later }
def AsmNoiseUptoCardSaid : Prop := Claim7.holds Tryz.pinned (.plain (OpenSpec.upto asmNoiseSpec)) asmNoiseUptoCard
end Rows
end Go.Proofs.YtcghekkhbiomgaaGreatDoor
