/-
  NARROWER THAN 'FOR EVERY INPUT', by the rows' own cells (each row's printed sentence says how): MachAlu: laid · MachParts: laid · MachWords: laid · MachDivides: laid · MachMuls: laid · MachTraps: laid.
  DERIVED. THE GIVEN ROWS OF THIS SEAT. 6 by the template 'for every input the law returns true; each argument reads behind the call as it read before'; 0 by the template 'total and deterministic' (their statements: YtejmifokceoofaaDoorTotals.lean).
  GIVEN WITH THE SEED: the statements are not yours to turn. If you find one false, say at which input.
  Laid BY PROGRAM, IN A SANDBOX (cutbox-rows.mjs): the forced cells as the released guide's own fill.sh prints them over the translation 4f4fc16174da6a01… (all of the seat's roots in one cut). By AI agents, Wed Nov 11 2026. No macro, syntax, notation, axiom, sorry.
-/
import Derived.Test.YtejmifokceoofaaDoorChecked
import GoSem.Claim
import GoSem.ClaimJoined
import GoSem.ClaimMapViews
import Derived.JoinedTies
import Derived.KernelRfl
namespace Go.Proofs.YtejmifokceoofaaDoor
/- THE CELL 'sum', in the pinned program and in every row, IS THE sha256 OF THE DUMP (.gsa) THAT YtejmifokceoofaaDoorProg.lean LOADS. Nothing in Lean hashes anything: it is a label: what it is worth is what the hold of that sum in a sandbox is worth. -/
noncomputable def Tryd.pinned : Pinned := { name := "ytejmifokceoofaadoor", sum := "4f4fc16174da6a011fad954ed1b6c3c71718cafb1d1d2e7ed87603ac356b613c", checked := Tryd.checked }
namespace Rows
def none {H : Type} : Left H := { results := [], args := [] }

/- WHAT THE LISTED PACKAGE-LEVEL VARIABLES READ AS WHEN THE CALL BEGINS. Each datum BY PROGRAM (the guide's laid-datum.mjs) off the statement by which the dump's own 'gosem.cut.vars' lays the variable. In a bare row this is a premise. The card (YtejmifokceoofaaDoorCards.lean) ties it to the program's text. -/
def laid_dovetail_inst_words {H : Type} : DataW H := .agg [.lit (.int .u32 0), .lit (.int .u32 55), .lit (.int .u32 23), .lit (.int .u32 111), .lit (.int .u32 103), .lit (.int .u32 99), .lit (.int .u32 4195), .lit (.int .u32 16483), .lit (.int .u32 20579), .lit (.int .u32 24675), .lit (.int .u32 28771), .lit (.int .u32 3), .lit (.int .u32 4099), .lit (.int .u32 8195), .lit (.int .u32 12291), .lit (.int .u32 16387), .lit (.int .u32 20483), .lit (.int .u32 24579), .lit (.int .u32 35), .lit (.int .u32 4131), .lit (.int .u32 8227), .lit (.int .u32 12323), .lit (.int .u32 19), .lit (.int .u32 8211), .lit (.int .u32 12307), .lit (.int .u32 16403), .lit (.int .u32 24595), .lit (.int .u32 28691), .lit (.int .u32 4115), .lit (.int .u32 20499), .lit (.int .u32 1073762323), .lit (.int .u32 51), .lit (.int .u32 1073741875), .lit (.int .u32 4147), .lit (.int .u32 8243), .lit (.int .u32 12339), .lit (.int .u32 16435), .lit (.int .u32 20531), .lit (.int .u32 1073762355), .lit (.int .u32 24627), .lit (.int .u32 28723), .lit (.int .u32 27), .lit (.int .u32 4123), .lit (.int .u32 20507), .lit (.int .u32 1073762331), .lit (.int .u32 59), .lit (.int .u32 1073741883), .lit (.int .u32 4155), .lit (.int .u32 20539), .lit (.int .u32 1073762363), .lit (.int .u32 33554483), .lit (.int .u32 33558579), .lit (.int .u32 33562675), .lit (.int .u32 33566771), .lit (.int .u32 33570867), .lit (.int .u32 33574963), .lit (.int .u32 33579059), .lit (.int .u32 33583155), .lit (.int .u32 33554491), .lit (.int .u32 33570875), .lit (.int .u32 33574971), .lit (.int .u32 33579067), .lit (.int .u32 33583163), .lit (.int .u32 15), .lit (.int .u32 115), .lit (.int .u32 1048691)]

/-- 'dovetaillaw8.MachAlu': WHATEVER THE INPUT: true; the input reads as it did. -/
def machAluSpec : ChangeSpec := { name := "machAlu", fn := fun _ => fun
  | [d1, d2, d3] => { results := [.lit (.bool true)], args := [d1, d2, d3] }
  | _ => none }
def machAluRow : OpenClaim := { program := "ytejmifokceoofaadoor", sum := "4f4fc16174da6a011fad954ed1b6c3c71718cafb1d1d2e7ed87603ac356b613c", func := "dovetail/dovetaillaw8.MachAlu", spec := "machAlu", named := ["dovetail/inst.words"], plainKeys := false, apart := false, laid := [("dovetail/inst.words", laid_dovetail_inst_words)] }
def MachAluSaid : Prop := machAluRow.holds Tryd.pinned (OpenSpec.ofChange machAluSpec)

/-- ITS FALSE NEIGHBOUR: 'it returns false'. Refute it at one input. -/
def machAluWrong : ChangeSpec := { name := "machAlu", fn := fun _ => fun
  | [d1, d2, d3] => { results := [.lit (.bool false)], args := [d1, d2, d3] }
  | _ => none }
def MachAluWrongFalsely : Prop := machAluRow.holds Tryd.pinned (OpenSpec.ofChange machAluWrong)

/-- 'dovetaillaw8.MachParts': WHATEVER THE INPUT: true; the input reads as it did. -/
def machPartsSpec : ChangeSpec := { name := "machParts", fn := fun _ => fun
  | [d1, d2, d3] => { results := [.lit (.bool true)], args := [d1, d2, d3] }
  | _ => none }
def machPartsRow : OpenClaim := { program := "ytejmifokceoofaadoor", sum := "4f4fc16174da6a011fad954ed1b6c3c71718cafb1d1d2e7ed87603ac356b613c", func := "dovetail/dovetaillaw8.MachParts", spec := "machParts", named := ["dovetail/inst.words"], plainKeys := false, apart := false, laid := [("dovetail/inst.words", laid_dovetail_inst_words)] }
def MachPartsSaid : Prop := machPartsRow.holds Tryd.pinned (OpenSpec.ofChange machPartsSpec)

/-- ITS FALSE NEIGHBOUR: 'it returns false'. Refute it at one input. -/
def machPartsWrong : ChangeSpec := { name := "machParts", fn := fun _ => fun
  | [d1, d2, d3] => { results := [.lit (.bool false)], args := [d1, d2, d3] }
  | _ => none }
def MachPartsWrongFalsely : Prop := machPartsRow.holds Tryd.pinned (OpenSpec.ofChange machPartsWrong)

/-- 'dovetaillaw8.MachWords': WHATEVER THE INPUT: true; the input reads as it did. -/
def machWordsSpec : ChangeSpec := { name := "machWords", fn := fun _ => fun
  | [d1, d2, d3, d4] => { results := [.lit (.bool true)], args := [d1, d2, d3, d4] }
  | _ => none }
def machWordsRow : OpenClaim := { program := "ytejmifokceoofaadoor", sum := "4f4fc16174da6a011fad954ed1b6c3c71718cafb1d1d2e7ed87603ac356b613c", func := "dovetail/dovetaillaw8.MachWords", spec := "machWords", named := ["dovetail/inst.words"], plainKeys := false, apart := false, laid := [("dovetail/inst.words", laid_dovetail_inst_words)] }
def MachWordsSaid : Prop := machWordsRow.holds Tryd.pinned (OpenSpec.ofChange machWordsSpec)

/-- ITS FALSE NEIGHBOUR: 'it returns false'. Refute it at one input. -/
def machWordsWrong : ChangeSpec := { name := "machWords", fn := fun _ => fun
  | [d1, d2, d3, d4] => { results := [.lit (.bool false)], args := [d1, d2, d3, d4] }
  | _ => none }
def MachWordsWrongFalsely : Prop := machWordsRow.holds Tryd.pinned (OpenSpec.ofChange machWordsWrong)

/-- 'dovetaillaw8.MachDivides': WHATEVER THE INPUT: true; the input reads as it did. -/
def machDividesSpec : ChangeSpec := { name := "machDivides", fn := fun _ => fun
  | [d1, d2] => { results := [.lit (.bool true)], args := [d1, d2] }
  | _ => none }
def machDividesRow : OpenClaim := { program := "ytejmifokceoofaadoor", sum := "4f4fc16174da6a011fad954ed1b6c3c71718cafb1d1d2e7ed87603ac356b613c", func := "dovetail/dovetaillaw8.MachDivides", spec := "machDivides", named := ["dovetail/inst.words"], plainKeys := false, apart := false, laid := [("dovetail/inst.words", laid_dovetail_inst_words)] }
def MachDividesSaid : Prop := machDividesRow.holds Tryd.pinned (OpenSpec.ofChange machDividesSpec)

/-- ITS FALSE NEIGHBOUR: 'it returns false'. Refute it at one input. -/
def machDividesWrong : ChangeSpec := { name := "machDivides", fn := fun _ => fun
  | [d1, d2] => { results := [.lit (.bool false)], args := [d1, d2] }
  | _ => none }
def MachDividesWrongFalsely : Prop := machDividesRow.holds Tryd.pinned (OpenSpec.ofChange machDividesWrong)

/-- 'dovetaillaw8.MachMuls': WHATEVER THE INPUT: true; the input reads as it did. -/
def machMulsSpec : ChangeSpec := { name := "machMuls", fn := fun _ => fun
  | [d1, d2] => { results := [.lit (.bool true)], args := [d1, d2] }
  | _ => none }
def machMulsRow : OpenClaim := { program := "ytejmifokceoofaadoor", sum := "4f4fc16174da6a011fad954ed1b6c3c71718cafb1d1d2e7ed87603ac356b613c", func := "dovetail/dovetaillaw8.MachMuls", spec := "machMuls", named := ["dovetail/inst.words"], plainKeys := false, apart := false, laid := [("dovetail/inst.words", laid_dovetail_inst_words)] }
def MachMulsSaid : Prop := machMulsRow.holds Tryd.pinned (OpenSpec.ofChange machMulsSpec)

/-- ITS FALSE NEIGHBOUR: 'it returns false'. Refute it at one input. -/
def machMulsWrong : ChangeSpec := { name := "machMuls", fn := fun _ => fun
  | [d1, d2] => { results := [.lit (.bool false)], args := [d1, d2] }
  | _ => none }
def MachMulsWrongFalsely : Prop := machMulsRow.holds Tryd.pinned (OpenSpec.ofChange machMulsWrong)

/-- 'dovetaillaw8.MachTraps': WHATEVER THE INPUT: true; the input reads as it did. -/
def machTrapsSpec : ChangeSpec := { name := "machTraps", fn := fun _ => fun
  | [d1, d2, d3] => { results := [.lit (.bool true)], args := [d1, d2, d3] }
  | _ => none }
def machTrapsRow : OpenClaim := { program := "ytejmifokceoofaadoor", sum := "4f4fc16174da6a011fad954ed1b6c3c71718cafb1d1d2e7ed87603ac356b613c", func := "dovetail/dovetaillaw8.MachTraps", spec := "machTraps", named := ["dovetail/inst.words"], plainKeys := false, apart := false, laid := [("dovetail/inst.words", laid_dovetail_inst_words)] }
def MachTrapsSaid : Prop := machTrapsRow.holds Tryd.pinned (OpenSpec.ofChange machTrapsSpec)

/-- ITS FALSE NEIGHBOUR: 'it returns false'. Refute it at one input. -/
def machTrapsWrong : ChangeSpec := { name := "machTraps", fn := fun _ => fun
  | [d1, d2, d3] => { results := [.lit (.bool false)], args := [d1, d2, d3] }
  | _ => none }
def MachTrapsWrongFalsely : Prop := machTrapsRow.holds Tryd.pinned (OpenSpec.ofChange machTrapsWrong)

/- THE SECOND FORM. 'bulk': how many values and letters a reading holds, each counted each time it is reached (what is shared counts as often as it is met; a slice's spare places count too). A statement '..UptoSaid' is the law's where the arguments, and the package variables that the reading takes, are together of bulk at most 1048576: NARROWER than '..Said'. Prove '..Said' where nothing that the law and all that it calls make is longer than what came in: it says more and counts as full. Else prove '..UptoSaid'. A law counts once. -/
mutual
def uptoBulk {H : Type} : DataW H → Nat
  | .lit (.string bytes) => bytes.length + 1
  | .lit _ => 1
  | .nil => 1
  | .ptr d => uptoBulk d + 1
  | .slice elems spare => uptoBulkAll elems + uptoBulkAll spare + 1
  | .agg parts => uptoBulkAll parts + 1
  | .iface _ d => uptoBulk d + 1
  | .map entries => uptoBulkEntries entries + 1
  | .held _ => 1
def uptoBulkAll {H : Type} : List (DataW H) → Nat
  | [] => 0
  | d :: r => uptoBulk d + uptoBulkAll r
def uptoBulkEntries {H : Type} : List (Lit × DataW H) → Nat
  | [] => 0
  | x :: r => uptoBulkEntry x + uptoBulkEntries r
def uptoBulkEntry {H : Type} : Lit × DataW H → Nat
  | (.string bytes, d) => bytes.length + uptoBulk d + 1
  | (_, d) => uptoBulk d + 1
 end
def uptoSmall : (H : Type) → List (DataW H) → Bool := fun _ ds => decide (uptoBulkAll ds ≤ 1048576)
def OpenSpec.upto (s : _root_.Go.ChangeSpec) : _root_.Go.OpenSpec := { _root_.Go.OpenSpec.ofChange s with cond := some uptoSmall }

/-- 'dovetaillaw8.MachAlu', WHERE WHAT IT READS IS OF BULK AT MOST 1048576: true; the input reads as it did. -/
def machAluUptoRow : OpenClaim := { program := "ytejmifokceoofaadoor", sum := "4f4fc16174da6a011fad954ed1b6c3c71718cafb1d1d2e7ed87603ac356b613c", func := "dovetail/dovetaillaw8.MachAlu", spec := "machAlu", named := ["dovetail/inst.words"], plainKeys := false, apart := false, laid := [("dovetail/inst.words", laid_dovetail_inst_words)], narrowed := true }
def MachAluUptoSaid : Prop := machAluUptoRow.holds Tryd.pinned (OpenSpec.upto machAluSpec)

/-- 'dovetaillaw8.MachParts', WHERE WHAT IT READS IS OF BULK AT MOST 1048576: true; the input reads as it did. -/
def machPartsUptoRow : OpenClaim := { program := "ytejmifokceoofaadoor", sum := "4f4fc16174da6a011fad954ed1b6c3c71718cafb1d1d2e7ed87603ac356b613c", func := "dovetail/dovetaillaw8.MachParts", spec := "machParts", named := ["dovetail/inst.words"], plainKeys := false, apart := false, laid := [("dovetail/inst.words", laid_dovetail_inst_words)], narrowed := true }
def MachPartsUptoSaid : Prop := machPartsUptoRow.holds Tryd.pinned (OpenSpec.upto machPartsSpec)

/-- 'dovetaillaw8.MachWords', WHERE WHAT IT READS IS OF BULK AT MOST 1048576: true; the input reads as it did. -/
def machWordsUptoRow : OpenClaim := { program := "ytejmifokceoofaadoor", sum := "4f4fc16174da6a011fad954ed1b6c3c71718cafb1d1d2e7ed87603ac356b613c", func := "dovetail/dovetaillaw8.MachWords", spec := "machWords", named := ["dovetail/inst.words"], plainKeys := false, apart := false, laid := [("dovetail/inst.words", laid_dovetail_inst_words)], narrowed := true }
def MachWordsUptoSaid : Prop := machWordsUptoRow.holds Tryd.pinned (OpenSpec.upto machWordsSpec)

/-- 'dovetaillaw8.MachDivides', WHERE WHAT IT READS IS OF BULK AT MOST 1048576: true; the input reads as it did. -/
def machDividesUptoRow : OpenClaim := { program := "ytejmifokceoofaadoor", sum := "4f4fc16174da6a011fad954ed1b6c3c71718cafb1d1d2e7ed87603ac356b613c", func := "dovetail/dovetaillaw8.MachDivides", spec := "machDivides", named := ["dovetail/inst.words"], plainKeys := false, apart := false, laid := [("dovetail/inst.words", laid_dovetail_inst_words)], narrowed := true }
def MachDividesUptoSaid : Prop := machDividesUptoRow.holds Tryd.pinned (OpenSpec.upto machDividesSpec)

/-- 'dovetaillaw8.MachMuls', WHERE WHAT IT READS IS OF BULK AT MOST 1048576: true; the input reads as it did. -/
def machMulsUptoRow : OpenClaim := { program := "ytejmifokceoofaadoor", sum := "4f4fc16174da6a011fad954ed1b6c3c71718cafb1d1d2e7ed87603ac356b613c", func := "dovetail/dovetaillaw8.MachMuls", spec := "machMuls", named := ["dovetail/inst.words"], plainKeys := false, apart := false, laid := [("dovetail/inst.words", laid_dovetail_inst_words)], narrowed := true }
def MachMulsUptoSaid : Prop := machMulsUptoRow.holds Tryd.pinned (OpenSpec.upto machMulsSpec)

/-- 'dovetaillaw8.MachTraps', WHERE WHAT IT READS IS OF BULK AT MOST 1048576: true; the input reads as it did. -/
def machTrapsUptoRow : OpenClaim := { program := "ytejmifokceoofaadoor", sum := "4f4fc16174da6a011fad954ed1b6c3c71718cafb1d1d2e7ed87603ac356b613c", func := "dovetail/dovetaillaw8.MachTraps", spec := "machTraps", named := ["dovetail/inst.words"], plainKeys := false, apart := false, laid := [("dovetail/inst.words", laid_dovetail_inst_words)], narrowed := true }
def MachTrapsUptoSaid : Prop := machTrapsUptoRow.holds Tryd.pinned (OpenSpec.upto machTrapsSpec)

end Rows
end Go.Proofs.YtejmifokceoofaaDoor
