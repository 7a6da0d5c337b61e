/-
  DERIVED. GIVEN WITH THE SEED: THE CARDS: each row of YtebnhejnacmhiaaDoorRows.lean that lists a variable, with what it lists TIED to the program's text (the seventh form; the later family's looks); each row that meets fmt, with fmt's text TOLD by the authors' own Lean function (tested against real Go, not proved from fmt's source: count such statements apart). THE CARD IS WHAT COUNTS. Prove the row's statement (the work); the ties are given (YtebnhejnacmhiaaDoorTie.lean); close each card by the builder's one call (the guide's Derived/Test/ToyasCard.lean, 'card_holds'). Laid BY PROGRAM, IN A SANDBOX (cutbox-door.mjs). By AI agents, Wed Nov 11 2026. No macro, syntax, notation, axiom, sorry.
-/
import Derived.Test.YtebnhejnacmhiaaDoorRows
import GoSem.ClaimSeven
namespace Go.Proofs.YtebnhejnacmhiaaDoor
namespace Rows

/-- THE TIED CARD OF 'dovetaillaw17.ArBack'. -/
def arBackCard : Claim7 := { stood := { row := arBackRow, standIns := [], harness := (true, "64e05e19cfd01fc6628fa787557feb586d9e1842c22cc32e0f20ae2acd418187"), looks := true }, kinds := [], alts := [], laidByText := true, laidKinds := [.data, .data, .data, .data, .sentinel, .sentinel, .pinned], laidTests := true, laidLooks := .later }
def ArBackCardSaid : Prop := Claim7.holds Tryd.pinned (.plain (OpenSpec.ofChange arBackSpec)) arBackCard

/-- THE TIED CARD OF 'dovetaillaw17.ArMany'. -/
def arManyCard : Claim7 := { stood := { row := arManyRow, standIns := [], harness := (true, "64e05e19cfd01fc6628fa787557feb586d9e1842c22cc32e0f20ae2acd418187"), looks := true }, kinds := [], alts := [], laidByText := true, laidKinds := [.data, .data, .data, .data, .sentinel, .sentinel, .pinned], laidTests := true, laidLooks := .later }
def ArManyCardSaid : Prop := Claim7.holds Tryd.pinned (.plain (OpenSpec.ofChange arManySpec)) arManyCard

/-- THE TIED CARD OF 'dovetaillaw17.ArNames'. -/
def arNamesCard : Claim7 := { stood := { row := arNamesRow, standIns := [], harness := (true, "64e05e19cfd01fc6628fa787557feb586d9e1842c22cc32e0f20ae2acd418187"), looks := true }, kinds := [], alts := [], laidByText := true, laidKinds := [.data, .data, .data, .data, .sentinel, .sentinel, .pinned], laidTests := true, laidLooks := .later }
def ArNamesCardSaid : Prop := Claim7.holds Tryd.pinned (.plain (OpenSpec.ofChange arNamesSpec)) arNamesCard

/-- THE TIED CARD OF 'dovetaillaw17.ArOrder'. -/
def arOrderCard : Claim7 := { stood := { row := arOrderRow, standIns := [], harness := (true, "64e05e19cfd01fc6628fa787557feb586d9e1842c22cc32e0f20ae2acd418187"), looks := true }, kinds := [], alts := [], laidByText := true, laidKinds := [.data, .data, .data, .data, .sentinel, .sentinel, .pinned], laidTests := true, laidLooks := .later }
def ArOrderCardSaid : Prop := Claim7.holds Tryd.pinned (.plain (OpenSpec.ofChange arOrderSpec)) arOrderCard

/-- THE SECOND FORM's CARD OF 'dovetaillaw17.ArBack'. -/
def arBackUptoCard : Claim7 := { stood := { row := arBackUptoRow, standIns := [], harness := (true, "64e05e19cfd01fc6628fa787557feb586d9e1842c22cc32e0f20ae2acd418187"), looks := true }, kinds := [], alts := [], laidByText := true, laidKinds := [.data, .data, .data, .data, .sentinel, .sentinel, .pinned], laidTests := true, laidLooks := .later }
def ArBackUptoCardSaid : Prop := Claim7.holds Tryd.pinned (.plain (OpenSpec.upto arBackSpec)) arBackUptoCard

/-- THE SECOND FORM's CARD OF 'dovetaillaw17.ArMany'. -/
def arManyUptoCard : Claim7 := { stood := { row := arManyUptoRow, standIns := [], harness := (true, "64e05e19cfd01fc6628fa787557feb586d9e1842c22cc32e0f20ae2acd418187"), looks := true }, kinds := [], alts := [], laidByText := true, laidKinds := [.data, .data, .data, .data, .sentinel, .sentinel, .pinned], laidTests := true, laidLooks := .later }
def ArManyUptoCardSaid : Prop := Claim7.holds Tryd.pinned (.plain (OpenSpec.upto arManySpec)) arManyUptoCard

/-- THE SECOND FORM's CARD OF 'dovetaillaw17.ArNames'. -/
def arNamesUptoCard : Claim7 := { stood := { row := arNamesUptoRow, standIns := [], harness := (true, "64e05e19cfd01fc6628fa787557feb586d9e1842c22cc32e0f20ae2acd418187"), looks := true }, kinds := [], alts := [], laidByText := true, laidKinds := [.data, .data, .data, .data, .sentinel, .sentinel, .pinned], laidTests := true, laidLooks := .later }
def ArNamesUptoCardSaid : Prop := Claim7.holds Tryd.pinned (.plain (OpenSpec.upto arNamesSpec)) arNamesUptoCard

/-- THE SECOND FORM's CARD OF 'dovetaillaw17.ArOrder'. -/
def arOrderUptoCard : Claim7 := { stood := { row := arOrderUptoRow, standIns := [], harness := (true, "64e05e19cfd01fc6628fa787557feb586d9e1842c22cc32e0f20ae2acd418187"), looks := true }, kinds := [], alts := [], laidByText := true, laidKinds := [.data, .data, .data, .data, .sentinel, .sentinel, .pinned], laidTests := true, laidLooks := .later }
def ArOrderUptoCardSaid : Prop := Claim7.holds Tryd.pinned (.plain (OpenSpec.upto arOrderSpec)) arOrderUptoCard
end Rows
end Go.Proofs.YtebnhejnacmhiaaDoor
