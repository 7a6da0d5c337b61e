/-
  No cell of these rows narrows 'for every input' (looked for: loops, veiled, ifaces, maps, wideKeys, modest, calm, conditions, laid).
  DERIVED. THE GIVEN ROWS OF THIS SEAT. 4 by the template 'for every input the law returns true; each argument reads behind the call as it read before'; 0 by the template 'total and deterministic' (their statements: YtmmbahblnmhhmaaTotals.lean).
  GIVEN WITH THE SEED: the statements are not yours to turn. If you find one false, say at which input.
  Laid BY PROGRAM, IN A SANDBOX (cutbox-rows.mjs): the forced cells as the released guide's own fill.sh prints them over the translation 3c6e3c7c5e58d32c… (all of the seat's roots in one cut). By AI agents, Wed Nov 11 2026. No macro, syntax, notation, axiom, sorry.
-/
import Derived.Test.YtmmbahblnmhhmaaChecked
import GoSem.Claim
import GoSem.ClaimJoined
import GoSem.ClaimMapViews
import Derived.JoinedTies
import Derived.KernelRfl
namespace Go.Proofs.Ytmmbahblnmhhmaa
/- THE CELL 'sum', in the pinned program and in every row, IS THE sha256 OF THE DUMP (.gsa) THAT YtmmbahblnmhhmaaProg.lean LOADS. Nothing in Lean hashes anything: it is a label: what it is worth is what the hold of that sum in a sandbox is worth. -/
noncomputable def Try.pinned : Pinned := { name := "ytmmbahblnmhhmaa", sum := "3c6e3c7c5e58d32c85e3d40e52b801d06e3754f78c3184a66381283d7ab3fa38", checked := Try.checked }
namespace Rows
def none {H : Type} : Left H := { results := [], args := [] }

/-- 'dovetaillaw11.ShdrReads': WHATEVER THE INPUT: true; the input reads as it did. -/
def shdrReadsSpec : ChangeSpec := { name := "shdrReads", fn := fun _ => fun
  | [d1, d2, d3] => { results := [.lit (.bool true)], args := [d1, d2, d3] }
  | _ => none }
def shdrReadsRow : OpenClaim := { program := "ytmmbahblnmhhmaa", sum := "3c6e3c7c5e58d32c85e3d40e52b801d06e3754f78c3184a66381283d7ab3fa38", func := "dovetail/dovetaillaw11.ShdrReads", spec := "shdrReads", inPlace := ["internal/bytealg.IndexByte"], apart := false }
def ShdrReadsSaid : Prop := shdrReadsRow.holds Try.pinned (OpenSpec.ofChange shdrReadsSpec)

/-- ITS FALSE NEIGHBOUR: 'it returns false'. Refute it at one input. -/
def shdrReadsWrong : ChangeSpec := { name := "shdrReads", fn := fun _ => fun
  | [d1, d2, d3] => { results := [.lit (.bool false)], args := [d1, d2, d3] }
  | _ => none }
def ShdrReadsWrongFalsely : Prop := shdrReadsRow.holds Try.pinned (OpenSpec.ofChange shdrReadsWrong)

/-- 'dovetaillaw11.ShdrSpoilt': WHATEVER THE INPUT: true; the input reads as it did. -/
def shdrSpoiltSpec : ChangeSpec := { name := "shdrSpoilt", fn := fun _ => fun
  | [d1, d2, d3, d4] => { results := [.lit (.bool true)], args := [d1, d2, d3, d4] }
  | _ => none }
def shdrSpoiltRow : OpenClaim := { program := "ytmmbahblnmhhmaa", sum := "3c6e3c7c5e58d32c85e3d40e52b801d06e3754f78c3184a66381283d7ab3fa38", func := "dovetail/dovetaillaw11.ShdrSpoilt", spec := "shdrSpoilt", inPlace := ["internal/bytealg.IndexByte"], apart := false }
def ShdrSpoiltSaid : Prop := shdrSpoiltRow.holds Try.pinned (OpenSpec.ofChange shdrSpoiltSpec)

/-- ITS FALSE NEIGHBOUR: 'it returns false'. Refute it at one input. -/
def shdrSpoiltWrong : ChangeSpec := { name := "shdrSpoilt", fn := fun _ => fun
  | [d1, d2, d3, d4] => { results := [.lit (.bool false)], args := [d1, d2, d3, d4] }
  | _ => none }
def ShdrSpoiltWrongFalsely : Prop := shdrSpoiltRow.holds Try.pinned (OpenSpec.ofChange shdrSpoiltWrong)

/-- 'dovetaillaw11.ShdrData': WHATEVER THE INPUT: true; the input reads as it did. -/
def shdrDataSpec : ChangeSpec := { name := "shdrData", fn := fun _ => fun
  | [d1, d2] => { results := [.lit (.bool true)], args := [d1, d2] }
  | _ => none }
def shdrDataRow : OpenClaim := { program := "ytmmbahblnmhhmaa", sum := "3c6e3c7c5e58d32c85e3d40e52b801d06e3754f78c3184a66381283d7ab3fa38", func := "dovetail/dovetaillaw11.ShdrData", spec := "shdrData", inPlace := ["internal/bytealg.IndexByte"], apart := false }
def ShdrDataSaid : Prop := shdrDataRow.holds Try.pinned (OpenSpec.ofChange shdrDataSpec)

/-- ITS FALSE NEIGHBOUR: 'it returns false'. Refute it at one input. -/
def shdrDataWrong : ChangeSpec := { name := "shdrData", fn := fun _ => fun
  | [d1, d2] => { results := [.lit (.bool false)], args := [d1, d2] }
  | _ => none }
def ShdrDataWrongFalsely : Prop := shdrDataRow.holds Try.pinned (OpenSpec.ofChange shdrDataWrong)

/-- 'dovetaillaw11.ShdrRules': WHATEVER THE INPUT: true; the input reads as it did. -/
def shdrRulesSpec : ChangeSpec := { name := "shdrRules", fn := fun _ => fun
  | [d1, d2, d3, d4] => { results := [.lit (.bool true)], args := [d1, d2, d3, d4] }
  | _ => none }
def shdrRulesRow : OpenClaim := { program := "ytmmbahblnmhhmaa", sum := "3c6e3c7c5e58d32c85e3d40e52b801d06e3754f78c3184a66381283d7ab3fa38", func := "dovetail/dovetaillaw11.ShdrRules", spec := "shdrRules", inPlace := ["internal/bytealg.IndexByte"], apart := false }
def ShdrRulesSaid : Prop := shdrRulesRow.holds Try.pinned (OpenSpec.ofChange shdrRulesSpec)

/-- ITS FALSE NEIGHBOUR: 'it returns false'. Refute it at one input. -/
def shdrRulesWrong : ChangeSpec := { name := "shdrRules", fn := fun _ => fun
  | [d1, d2, d3, d4] => { results := [.lit (.bool false)], args := [d1, d2, d3, d4] }
  | _ => none }
def ShdrRulesWrongFalsely : Prop := shdrRulesRow.holds Try.pinned (OpenSpec.ofChange shdrRulesWrong)

/- THE SECOND FORM. 'bulk': how many values and letters a reading holds, each counted each time it is reached (what is shared counts as often as it is met; a slice's spare places count too). A statement '..UptoSaid' is the law's where the arguments, and the package variables that the reading takes, are together of bulk at most 1048576: NARROWER than '..Said'. Prove '..Said' where nothing that the law and all that it calls make is longer than what came in: it says more and counts as full. Else prove '..UptoSaid'. A law counts once. -/
mutual
def uptoBulk {H : Type} : DataW H → Nat
  | .lit (.string bytes) => bytes.length + 1
  | .lit _ => 1
  | .nil => 1
  | .ptr d => uptoBulk d + 1
  | .slice elems spare => uptoBulkAll elems + uptoBulkAll spare + 1
  | .agg parts => uptoBulkAll parts + 1
  | .iface _ d => uptoBulk d + 1
  | .map entries => uptoBulkEntries entries + 1
  | .held _ => 1
def uptoBulkAll {H : Type} : List (DataW H) → Nat
  | [] => 0
  | d :: r => uptoBulk d + uptoBulkAll r
def uptoBulkEntries {H : Type} : List (Lit × DataW H) → Nat
  | [] => 0
  | x :: r => uptoBulkEntry x + uptoBulkEntries r
def uptoBulkEntry {H : Type} : Lit × DataW H → Nat
  | (.string bytes, d) => bytes.length + uptoBulk d + 1
  | (_, d) => uptoBulk d + 1
 end
def uptoSmall : (H : Type) → List (DataW H) → Bool := fun _ ds => decide (uptoBulkAll ds ≤ 1048576)
def OpenSpec.upto (s : _root_.Go.ChangeSpec) : _root_.Go.OpenSpec := { _root_.Go.OpenSpec.ofChange s with cond := some uptoSmall }

/-- 'dovetaillaw11.ShdrReads', WHERE WHAT IT READS IS OF BULK AT MOST 1048576: true; the input reads as it did. -/
def shdrReadsUptoRow : OpenClaim := { program := "ytmmbahblnmhhmaa", sum := "3c6e3c7c5e58d32c85e3d40e52b801d06e3754f78c3184a66381283d7ab3fa38", func := "dovetail/dovetaillaw11.ShdrReads", spec := "shdrReads", inPlace := ["internal/bytealg.IndexByte"], apart := false, narrowed := true }
def ShdrReadsUptoSaid : Prop := shdrReadsUptoRow.holds Try.pinned (OpenSpec.upto shdrReadsSpec)

/-- 'dovetaillaw11.ShdrSpoilt', WHERE WHAT IT READS IS OF BULK AT MOST 1048576: true; the input reads as it did. -/
def shdrSpoiltUptoRow : OpenClaim := { program := "ytmmbahblnmhhmaa", sum := "3c6e3c7c5e58d32c85e3d40e52b801d06e3754f78c3184a66381283d7ab3fa38", func := "dovetail/dovetaillaw11.ShdrSpoilt", spec := "shdrSpoilt", inPlace := ["internal/bytealg.IndexByte"], apart := false, narrowed := true }
def ShdrSpoiltUptoSaid : Prop := shdrSpoiltUptoRow.holds Try.pinned (OpenSpec.upto shdrSpoiltSpec)

/-- 'dovetaillaw11.ShdrData', WHERE WHAT IT READS IS OF BULK AT MOST 1048576: true; the input reads as it did. -/
def shdrDataUptoRow : OpenClaim := { program := "ytmmbahblnmhhmaa", sum := "3c6e3c7c5e58d32c85e3d40e52b801d06e3754f78c3184a66381283d7ab3fa38", func := "dovetail/dovetaillaw11.ShdrData", spec := "shdrData", inPlace := ["internal/bytealg.IndexByte"], apart := false, narrowed := true }
def ShdrDataUptoSaid : Prop := shdrDataUptoRow.holds Try.pinned (OpenSpec.upto shdrDataSpec)

/-- 'dovetaillaw11.ShdrRules', WHERE WHAT IT READS IS OF BULK AT MOST 1048576: true; the input reads as it did. -/
def shdrRulesUptoRow : OpenClaim := { program := "ytmmbahblnmhhmaa", sum := "3c6e3c7c5e58d32c85e3d40e52b801d06e3754f78c3184a66381283d7ab3fa38", func := "dovetail/dovetaillaw11.ShdrRules", spec := "shdrRules", inPlace := ["internal/bytealg.IndexByte"], apart := false, narrowed := true }
def ShdrRulesUptoSaid : Prop := shdrRulesUptoRow.holds Try.pinned (OpenSpec.upto shdrRulesSpec)

end Rows
end Go.Proofs.Ytmmbahblnmhhmaa
