/-
  No cell of these rows narrows 'for every input' (looked for: loops, veiled, ifaces, maps, wideKeys, modest, calm, conditions, laid).
  DERIVED. THE GIVEN ROWS OF THIS SEAT. 4 by the template 'for every input the law returns true; each argument reads behind the call as it read before'; 0 by the template 'total and deterministic' (their statements: YtkmmffpipopjcaaTotals.lean).
  GIVEN WITH THE SEED: the statements are not yours to turn. If you find one false, say at which input.
  Laid BY PROGRAM, IN A SANDBOX (cutbox-rows.mjs): the forced cells as the released guide's own fill.sh prints them over the translation 0b481a0f382bc334… (all of the seat's roots in one cut). By AI agents, Wed Nov 11 2026. No macro, syntax, notation, axiom, sorry.
-/
import Derived.Test.YtkmmffpipopjcaaChecked
import GoSem.Claim
import GoSem.ClaimJoined
import GoSem.ClaimMapViews
import Derived.JoinedTies
import Derived.KernelRfl
namespace Go.Proofs.Ytkmmffpipopjcaa
/- THE CELL 'sum', in the pinned program and in every row, IS THE sha256 OF THE DUMP (.gsa) THAT YtkmmffpipopjcaaProg.lean LOADS. Nothing in Lean hashes anything: it is a label: what it is worth is what the hold of that sum in a sandbox is worth. -/
noncomputable def Try.pinned : Pinned := { name := "ytkmmffpipopjcaa", sum := "0b481a0f382bc3348eedda00046a622895a8e14b737d76f541616c3ee0dd3a28", checked := Try.checked }
namespace Rows
def none {H : Type} : Left H := { results := [], args := [] }

/-- 'dovetaillaw13.RelaReads': WHATEVER THE INPUT: true; the input reads as it did. -/
def relaReadsSpec : ChangeSpec := { name := "relaReads", fn := fun _ => fun
  | [d1, d2, d3, d4] => { results := [.lit (.bool true)], args := [d1, d2, d3, d4] }
  | _ => none }
def relaReadsRow : OpenClaim := { program := "ytkmmffpipopjcaa", sum := "0b481a0f382bc3348eedda00046a622895a8e14b737d76f541616c3ee0dd3a28", func := "dovetail/dovetaillaw13.RelaReads", spec := "relaReads", apart := false }
def RelaReadsSaid : Prop := relaReadsRow.holds Try.pinned (OpenSpec.ofChange relaReadsSpec)

/-- ITS FALSE NEIGHBOUR: 'it returns false'. Refute it at one input. -/
def relaReadsWrong : ChangeSpec := { name := "relaReads", fn := fun _ => fun
  | [d1, d2, d3, d4] => { results := [.lit (.bool false)], args := [d1, d2, d3, d4] }
  | _ => none }
def RelaReadsWrongFalsely : Prop := relaReadsRow.holds Try.pinned (OpenSpec.ofChange relaReadsWrong)

/-- 'dovetaillaw13.RelaTypes': WHATEVER THE INPUT: true; the input reads as it did. -/
def relaTypesSpec : ChangeSpec := { name := "relaTypes", fn := fun _ => fun
  | [d] => { results := [.lit (.bool true)], args := [d] }
  | _ => none }
def relaTypesRow : OpenClaim := { program := "ytkmmffpipopjcaa", sum := "0b481a0f382bc3348eedda00046a622895a8e14b737d76f541616c3ee0dd3a28", func := "dovetail/dovetaillaw13.RelaTypes", spec := "relaTypes", apart := false }
def RelaTypesSaid : Prop := relaTypesRow.holds Try.pinned (OpenSpec.ofChange relaTypesSpec)

/-- ITS FALSE NEIGHBOUR: 'it returns false'. Refute it at one input. -/
def relaTypesWrong : ChangeSpec := { name := "relaTypes", fn := fun _ => fun
  | [d] => { results := [.lit (.bool false)], args := [d] }
  | _ => none }
def RelaTypesWrongFalsely : Prop := relaTypesRow.holds Try.pinned (OpenSpec.ofChange relaTypesWrong)

/-- 'dovetaillaw13.RelaEdges': WHATEVER THE INPUT: true; the input reads as it did. -/
def relaEdgesSpec : ChangeSpec := { name := "relaEdges", fn := fun _ => fun
  | [d1, d2, d3] => { results := [.lit (.bool true)], args := [d1, d2, d3] }
  | _ => none }
def relaEdgesRow : OpenClaim := { program := "ytkmmffpipopjcaa", sum := "0b481a0f382bc3348eedda00046a622895a8e14b737d76f541616c3ee0dd3a28", func := "dovetail/dovetaillaw13.RelaEdges", spec := "relaEdges", apart := false }
def RelaEdgesSaid : Prop := relaEdgesRow.holds Try.pinned (OpenSpec.ofChange relaEdgesSpec)

/-- ITS FALSE NEIGHBOUR: 'it returns false'. Refute it at one input. -/
def relaEdgesWrong : ChangeSpec := { name := "relaEdges", fn := fun _ => fun
  | [d1, d2, d3] => { results := [.lit (.bool false)], args := [d1, d2, d3] }
  | _ => none }
def RelaEdgesWrongFalsely : Prop := relaEdgesRow.holds Try.pinned (OpenSpec.ofChange relaEdgesWrong)

/-- 'dovetaillaw13.RelaMany': WHATEVER THE INPUT: true; the input reads as it did. -/
def relaManySpec : ChangeSpec := { name := "relaMany", fn := fun _ => fun
  | [d1, d2, d3] => { results := [.lit (.bool true)], args := [d1, d2, d3] }
  | _ => none }
def relaManyRow : OpenClaim := { program := "ytkmmffpipopjcaa", sum := "0b481a0f382bc3348eedda00046a622895a8e14b737d76f541616c3ee0dd3a28", func := "dovetail/dovetaillaw13.RelaMany", spec := "relaMany", apart := false }
def RelaManySaid : Prop := relaManyRow.holds Try.pinned (OpenSpec.ofChange relaManySpec)

/-- ITS FALSE NEIGHBOUR: 'it returns false'. Refute it at one input. -/
def relaManyWrong : ChangeSpec := { name := "relaMany", fn := fun _ => fun
  | [d1, d2, d3] => { results := [.lit (.bool false)], args := [d1, d2, d3] }
  | _ => none }
def RelaManyWrongFalsely : Prop := relaManyRow.holds Try.pinned (OpenSpec.ofChange relaManyWrong)

/- THE SECOND FORM. 'bulk': how many values and letters a reading holds, each counted each time it is reached (what is shared counts as often as it is met; a slice's spare places count too). A statement '..UptoSaid' is the law's where the arguments, and the package variables that the reading takes, are together of bulk at most 1048576: NARROWER than '..Said'. Prove '..Said' where nothing that the law and all that it calls make is longer than what came in: it says more and counts as full. Else prove '..UptoSaid'. A law counts once. -/
mutual
def uptoBulk {H : Type} : DataW H → Nat
  | .lit (.string bytes) => bytes.length + 1
  | .lit _ => 1
  | .nil => 1
  | .ptr d => uptoBulk d + 1
  | .slice elems spare => uptoBulkAll elems + uptoBulkAll spare + 1
  | .agg parts => uptoBulkAll parts + 1
  | .iface _ d => uptoBulk d + 1
  | .map entries => uptoBulkEntries entries + 1
  | .held _ => 1
def uptoBulkAll {H : Type} : List (DataW H) → Nat
  | [] => 0
  | d :: r => uptoBulk d + uptoBulkAll r
def uptoBulkEntries {H : Type} : List (Lit × DataW H) → Nat
  | [] => 0
  | x :: r => uptoBulkEntry x + uptoBulkEntries r
def uptoBulkEntry {H : Type} : Lit × DataW H → Nat
  | (.string bytes, d) => bytes.length + uptoBulk d + 1
  | (_, d) => uptoBulk d + 1
 end
def uptoSmall : (H : Type) → List (DataW H) → Bool := fun _ ds => decide (uptoBulkAll ds ≤ 1048576)
def OpenSpec.upto (s : _root_.Go.ChangeSpec) : _root_.Go.OpenSpec := { _root_.Go.OpenSpec.ofChange s with cond := some uptoSmall }

/-- 'dovetaillaw13.RelaReads', WHERE WHAT IT READS IS OF BULK AT MOST 1048576: true; the input reads as it did. -/
def relaReadsUptoRow : OpenClaim := { program := "ytkmmffpipopjcaa", sum := "0b481a0f382bc3348eedda00046a622895a8e14b737d76f541616c3ee0dd3a28", func := "dovetail/dovetaillaw13.RelaReads", spec := "relaReads", apart := false, narrowed := true }
def RelaReadsUptoSaid : Prop := relaReadsUptoRow.holds Try.pinned (OpenSpec.upto relaReadsSpec)

/-- 'dovetaillaw13.RelaTypes', WHERE WHAT IT READS IS OF BULK AT MOST 1048576: true; the input reads as it did. -/
def relaTypesUptoRow : OpenClaim := { program := "ytkmmffpipopjcaa", sum := "0b481a0f382bc3348eedda00046a622895a8e14b737d76f541616c3ee0dd3a28", func := "dovetail/dovetaillaw13.RelaTypes", spec := "relaTypes", apart := false, narrowed := true }
def RelaTypesUptoSaid : Prop := relaTypesUptoRow.holds Try.pinned (OpenSpec.upto relaTypesSpec)

/-- 'dovetaillaw13.RelaEdges', WHERE WHAT IT READS IS OF BULK AT MOST 1048576: true; the input reads as it did. -/
def relaEdgesUptoRow : OpenClaim := { program := "ytkmmffpipopjcaa", sum := "0b481a0f382bc3348eedda00046a622895a8e14b737d76f541616c3ee0dd3a28", func := "dovetail/dovetaillaw13.RelaEdges", spec := "relaEdges", apart := false, narrowed := true }
def RelaEdgesUptoSaid : Prop := relaEdgesUptoRow.holds Try.pinned (OpenSpec.upto relaEdgesSpec)

/-- 'dovetaillaw13.RelaMany', WHERE WHAT IT READS IS OF BULK AT MOST 1048576: true; the input reads as it did. -/
def relaManyUptoRow : OpenClaim := { program := "ytkmmffpipopjcaa", sum := "0b481a0f382bc3348eedda00046a622895a8e14b737d76f541616c3ee0dd3a28", func := "dovetail/dovetaillaw13.RelaMany", spec := "relaMany", apart := false, narrowed := true }
def RelaManyUptoSaid : Prop := relaManyUptoRow.holds Try.pinned (OpenSpec.upto relaManySpec)

end Rows
end Go.Proofs.Ytkmmffpipopjcaa
