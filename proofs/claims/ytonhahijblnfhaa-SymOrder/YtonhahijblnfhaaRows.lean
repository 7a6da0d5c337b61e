/-
  No cell of these rows narrows 'for every input' (looked for: loops, veiled, ifaces, maps, wideKeys, modest, calm, conditions, laid).
  DERIVED. THE GIVEN ROWS OF THIS SEAT. 4 by the template 'for every input the law returns true; each argument reads behind the call as it read before'; 0 by the template 'total and deterministic' (their statements: YtonhahijblnfhaaTotals.lean).
  GIVEN WITH THE SEED: the statements are not yours to turn. If you find one false, say at which input.
  Laid BY PROGRAM, IN A SANDBOX (cutbox-rows.mjs): the forced cells as the released guide's own fill.sh prints them over the translation 808b24f51286d8b4… (all of the seat's roots in one cut). By AI agents, Wed Nov 11 2026. No macro, syntax, notation, axiom, sorry.
-/
import Derived.Test.YtonhahijblnfhaaChecked
import GoSem.Claim
import GoSem.ClaimJoined
import GoSem.ClaimMapViews
import Derived.JoinedTies
import Derived.KernelRfl
namespace Go.Proofs.Ytonhahijblnfhaa
/- THE CELL 'sum', in the pinned program and in every row, IS THE sha256 OF THE DUMP (.gsa) THAT YtonhahijblnfhaaProg.lean LOADS. Nothing in Lean hashes anything: it is a label: what it is worth is what the hold of that sum in a sandbox is worth. -/
noncomputable def Try.pinned : Pinned := { name := "ytonhahijblnfhaa", sum := "808b24f51286d8b48648a59537592339c0e26b4cf62f9b6aba4e0c7c579a4c92", checked := Try.checked }
namespace Rows
def none {H : Type} : Left H := { results := [], args := [] }

/-- 'dovetaillaw12.SymReads': WHATEVER THE INPUT: true; the input reads as it did. -/
def symReadsSpec : ChangeSpec := { name := "symReads", fn := fun _ => fun
  | [d1, d2, d3, d4] => { results := [.lit (.bool true)], args := [d1, d2, d3, d4] }
  | _ => none }
def symReadsRow : OpenClaim := { program := "ytonhahijblnfhaa", sum := "808b24f51286d8b48648a59537592339c0e26b4cf62f9b6aba4e0c7c579a4c92", func := "dovetail/dovetaillaw12.SymReads", spec := "symReads", inPlace := ["internal/bytealg.IndexByte"], apart := false }
def SymReadsSaid : Prop := symReadsRow.holds Try.pinned (OpenSpec.ofChange symReadsSpec)

/-- ITS FALSE NEIGHBOUR: 'it returns false'. Refute it at one input. -/
def symReadsWrong : ChangeSpec := { name := "symReads", fn := fun _ => fun
  | [d1, d2, d3, d4] => { results := [.lit (.bool false)], args := [d1, d2, d3, d4] }
  | _ => none }
def SymReadsWrongFalsely : Prop := symReadsRow.holds Try.pinned (OpenSpec.ofChange symReadsWrong)

/-- 'dovetaillaw12.SymOrder': WHATEVER THE INPUT: true; the input reads as it did. -/
def symOrderSpec : ChangeSpec := { name := "symOrder", fn := fun _ => fun
  | [d1, d2] => { results := [.lit (.bool true)], args := [d1, d2] }
  | _ => none }
def symOrderRow : OpenClaim := { program := "ytonhahijblnfhaa", sum := "808b24f51286d8b48648a59537592339c0e26b4cf62f9b6aba4e0c7c579a4c92", func := "dovetail/dovetaillaw12.SymOrder", spec := "symOrder", inPlace := ["internal/bytealg.IndexByte"], apart := false }
def SymOrderSaid : Prop := symOrderRow.holds Try.pinned (OpenSpec.ofChange symOrderSpec)

/-- ITS FALSE NEIGHBOUR: 'it returns false'. Refute it at one input. -/
def symOrderWrong : ChangeSpec := { name := "symOrder", fn := fun _ => fun
  | [d1, d2] => { results := [.lit (.bool false)], args := [d1, d2] }
  | _ => none }
def SymOrderWrongFalsely : Prop := symOrderRow.holds Try.pinned (OpenSpec.ofChange symOrderWrong)

/-- 'dovetaillaw12.SymMany': WHATEVER THE INPUT: true; the input reads as it did. -/
def symManySpec : ChangeSpec := { name := "symMany", fn := fun _ => fun
  | [d1, d2] => { results := [.lit (.bool true)], args := [d1, d2] }
  | _ => none }
def symManyRow : OpenClaim := { program := "ytonhahijblnfhaa", sum := "808b24f51286d8b48648a59537592339c0e26b4cf62f9b6aba4e0c7c579a4c92", func := "dovetail/dovetaillaw12.SymMany", spec := "symMany", inPlace := ["internal/bytealg.IndexByte"], apart := false }
def SymManySaid : Prop := symManyRow.holds Try.pinned (OpenSpec.ofChange symManySpec)

/-- ITS FALSE NEIGHBOUR: 'it returns false'. Refute it at one input. -/
def symManyWrong : ChangeSpec := { name := "symMany", fn := fun _ => fun
  | [d1, d2] => { results := [.lit (.bool false)], args := [d1, d2] }
  | _ => none }
def SymManyWrongFalsely : Prop := symManyRow.holds Try.pinned (OpenSpec.ofChange symManyWrong)

/-- 'dovetaillaw12.SymFields': WHATEVER THE INPUT: true; the input reads as it did. -/
def symFieldsSpec : ChangeSpec := { name := "symFields", fn := fun _ => fun
  | [d1, d2, d3, d4, d5, d6, d7] => { results := [.lit (.bool true)], args := [d1, d2, d3, d4, d5, d6, d7] }
  | _ => none }
def symFieldsRow : OpenClaim := { program := "ytonhahijblnfhaa", sum := "808b24f51286d8b48648a59537592339c0e26b4cf62f9b6aba4e0c7c579a4c92", func := "dovetail/dovetaillaw12.SymFields", spec := "symFields", inPlace := ["internal/bytealg.IndexByte"], apart := false }
def SymFieldsSaid : Prop := symFieldsRow.holds Try.pinned (OpenSpec.ofChange symFieldsSpec)

/-- ITS FALSE NEIGHBOUR: 'it returns false'. Refute it at one input. -/
def symFieldsWrong : ChangeSpec := { name := "symFields", fn := fun _ => fun
  | [d1, d2, d3, d4, d5, d6, d7] => { results := [.lit (.bool false)], args := [d1, d2, d3, d4, d5, d6, d7] }
  | _ => none }
def SymFieldsWrongFalsely : Prop := symFieldsRow.holds Try.pinned (OpenSpec.ofChange symFieldsWrong)

/- THE SECOND FORM. 'bulk': how many values and letters a reading holds, each counted each time it is reached (what is shared counts as often as it is met; a slice's spare places count too). A statement '..UptoSaid' is the law's where the arguments, and the package variables that the reading takes, are together of bulk at most 1048576: NARROWER than '..Said'. Prove '..Said' where nothing that the law and all that it calls make is longer than what came in: it says more and counts as full. Else prove '..UptoSaid'. A law counts once. -/
mutual
def uptoBulk {H : Type} : DataW H → Nat
  | .lit (.string bytes) => bytes.length + 1
  | .lit _ => 1
  | .nil => 1
  | .ptr d => uptoBulk d + 1
  | .slice elems spare => uptoBulkAll elems + uptoBulkAll spare + 1
  | .agg parts => uptoBulkAll parts + 1
  | .iface _ d => uptoBulk d + 1
  | .map entries => uptoBulkEntries entries + 1
  | .held _ => 1
def uptoBulkAll {H : Type} : List (DataW H) → Nat
  | [] => 0
  | d :: r => uptoBulk d + uptoBulkAll r
def uptoBulkEntries {H : Type} : List (Lit × DataW H) → Nat
  | [] => 0
  | x :: r => uptoBulkEntry x + uptoBulkEntries r
def uptoBulkEntry {H : Type} : Lit × DataW H → Nat
  | (.string bytes, d) => bytes.length + uptoBulk d + 1
  | (_, d) => uptoBulk d + 1
 end
def uptoSmall : (H : Type) → List (DataW H) → Bool := fun _ ds => decide (uptoBulkAll ds ≤ 1048576)
def OpenSpec.upto (s : _root_.Go.ChangeSpec) : _root_.Go.OpenSpec := { _root_.Go.OpenSpec.ofChange s with cond := some uptoSmall }

/-- 'dovetaillaw12.SymReads', WHERE WHAT IT READS IS OF BULK AT MOST 1048576: true; the input reads as it did. -/
def symReadsUptoRow : OpenClaim := { program := "ytonhahijblnfhaa", sum := "808b24f51286d8b48648a59537592339c0e26b4cf62f9b6aba4e0c7c579a4c92", func := "dovetail/dovetaillaw12.SymReads", spec := "symReads", inPlace := ["internal/bytealg.IndexByte"], apart := false, narrowed := true }
def SymReadsUptoSaid : Prop := symReadsUptoRow.holds Try.pinned (OpenSpec.upto symReadsSpec)

/-- 'dovetaillaw12.SymOrder', WHERE WHAT IT READS IS OF BULK AT MOST 1048576: true; the input reads as it did. -/
def symOrderUptoRow : OpenClaim := { program := "ytonhahijblnfhaa", sum := "808b24f51286d8b48648a59537592339c0e26b4cf62f9b6aba4e0c7c579a4c92", func := "dovetail/dovetaillaw12.SymOrder", spec := "symOrder", inPlace := ["internal/bytealg.IndexByte"], apart := false, narrowed := true }
def SymOrderUptoSaid : Prop := symOrderUptoRow.holds Try.pinned (OpenSpec.upto symOrderSpec)

/-- 'dovetaillaw12.SymMany', WHERE WHAT IT READS IS OF BULK AT MOST 1048576: true; the input reads as it did. -/
def symManyUptoRow : OpenClaim := { program := "ytonhahijblnfhaa", sum := "808b24f51286d8b48648a59537592339c0e26b4cf62f9b6aba4e0c7c579a4c92", func := "dovetail/dovetaillaw12.SymMany", spec := "symMany", inPlace := ["internal/bytealg.IndexByte"], apart := false, narrowed := true }
def SymManyUptoSaid : Prop := symManyUptoRow.holds Try.pinned (OpenSpec.upto symManySpec)

/-- 'dovetaillaw12.SymFields', WHERE WHAT IT READS IS OF BULK AT MOST 1048576: true; the input reads as it did. -/
def symFieldsUptoRow : OpenClaim := { program := "ytonhahijblnfhaa", sum := "808b24f51286d8b48648a59537592339c0e26b4cf62f9b6aba4e0c7c579a4c92", func := "dovetail/dovetaillaw12.SymFields", spec := "symFields", inPlace := ["internal/bytealg.IndexByte"], apart := false, narrowed := true }
def SymFieldsUptoSaid : Prop := symFieldsUptoRow.holds Try.pinned (OpenSpec.upto symFieldsSpec)

end Rows
end Go.Proofs.Ytonhahijblnfhaa
