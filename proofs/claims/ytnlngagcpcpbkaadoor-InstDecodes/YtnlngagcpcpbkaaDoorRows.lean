/-
  NARROWER THAN 'FOR EVERY INPUT', by the rows' own cells (each row's printed sentence says how): InstDecodes: laid · InstEncodes: laid · InstBack: laid · InstNames: laid · InstFields: laid · InstBounds: laid.
  DERIVED. THE GIVEN ROWS OF THIS SEAT. 6 by the template 'for every input the law returns true; each argument reads behind the call as it read before'; 0 by the template 'total and deterministic' (their statements: YtnlngagcpcpbkaaDoorTotals.lean).
  GIVEN WITH THE SEED: the statements are not yours to turn. If you find one false, say at which input.
  Laid BY PROGRAM, IN A SANDBOX (cutbox-rows.mjs): the forced cells as the released guide's own fill.sh prints them over the translation 9f81defbfe8f1fd3… (all of the seat's roots in one cut). By AI agents, Wed Nov 11 2026. No macro, syntax, notation, axiom, sorry.
-/
import Derived.Test.YtnlngagcpcpbkaaDoorChecked
import GoSem.Claim
import GoSem.ClaimJoined
import GoSem.ClaimMapViews
import Derived.JoinedTies
import Derived.KernelRfl
namespace Go.Proofs.YtnlngagcpcpbkaaDoor
/- THE CELL 'sum', in the pinned program and in every row, IS THE sha256 OF THE DUMP (.gsa) THAT YtnlngagcpcpbkaaDoorProg.lean LOADS. Nothing in Lean hashes anything: it is a label: what it is worth is what the hold of that sum in a sandbox is worth. -/
noncomputable def Tryd.pinned : Pinned := { name := "ytnlngagcpcpbkaadoor", sum := "9f81defbfe8f1fd3978bec0546da3e26181d7670fd65129bf22a5d3513825d86", checked := Tryd.checked }
namespace Rows
def none {H : Type} : Left H := { results := [], args := [] }

/- WHAT THE LISTED PACKAGE-LEVEL VARIABLES READ AS WHEN THE CALL BEGINS. Each datum BY PROGRAM (the guide's laid-datum.mjs) off the statement by which the dump's own 'gosem.cut.vars' lays the variable. In a bare row this is a premise. The card (YtnlngagcpcpbkaaDoorCards.lean) ties it to the program's text. -/
def laid_dovetail_inst_words {H : Type} : DataW H := .agg [.lit (.int .u32 0), .lit (.int .u32 55), .lit (.int .u32 23), .lit (.int .u32 111), .lit (.int .u32 103), .lit (.int .u32 99), .lit (.int .u32 4195), .lit (.int .u32 16483), .lit (.int .u32 20579), .lit (.int .u32 24675), .lit (.int .u32 28771), .lit (.int .u32 3), .lit (.int .u32 4099), .lit (.int .u32 8195), .lit (.int .u32 12291), .lit (.int .u32 16387), .lit (.int .u32 20483), .lit (.int .u32 24579), .lit (.int .u32 35), .lit (.int .u32 4131), .lit (.int .u32 8227), .lit (.int .u32 12323), .lit (.int .u32 19), .lit (.int .u32 8211), .lit (.int .u32 12307), .lit (.int .u32 16403), .lit (.int .u32 24595), .lit (.int .u32 28691), .lit (.int .u32 4115), .lit (.int .u32 20499), .lit (.int .u32 1073762323), .lit (.int .u32 51), .lit (.int .u32 1073741875), .lit (.int .u32 4147), .lit (.int .u32 8243), .lit (.int .u32 12339), .lit (.int .u32 16435), .lit (.int .u32 20531), .lit (.int .u32 1073762355), .lit (.int .u32 24627), .lit (.int .u32 28723), .lit (.int .u32 27), .lit (.int .u32 4123), .lit (.int .u32 20507), .lit (.int .u32 1073762331), .lit (.int .u32 59), .lit (.int .u32 1073741883), .lit (.int .u32 4155), .lit (.int .u32 20539), .lit (.int .u32 1073762363), .lit (.int .u32 33554483), .lit (.int .u32 33558579), .lit (.int .u32 33562675), .lit (.int .u32 33566771), .lit (.int .u32 33570867), .lit (.int .u32 33574963), .lit (.int .u32 33579059), .lit (.int .u32 33583155), .lit (.int .u32 33554491), .lit (.int .u32 33570875), .lit (.int .u32 33574971), .lit (.int .u32 33579067), .lit (.int .u32 33583163), .lit (.int .u32 15), .lit (.int .u32 115), .lit (.int .u32 1048691)]
def laid_dovetail_inst_names {H : Type} : DataW H := .agg [.lit (.string []), .lit (.string [108, 117, 105]), .lit (.string [97, 117, 105, 112, 99]), .lit (.string [106, 97, 108]), .lit (.string [106, 97, 108, 114]), .lit (.string [98, 101, 113]), .lit (.string [98, 110, 101]), .lit (.string [98, 108, 116]), .lit (.string [98, 103, 101]), .lit (.string [98, 108, 116, 117]), .lit (.string [98, 103, 101, 117]), .lit (.string [108, 98]), .lit (.string [108, 104]), .lit (.string [108, 119]), .lit (.string [108, 100]), .lit (.string [108, 98, 117]), .lit (.string [108, 104, 117]), .lit (.string [108, 119, 117]), .lit (.string [115, 98]), .lit (.string [115, 104]), .lit (.string [115, 119]), .lit (.string [115, 100]), .lit (.string [97, 100, 100, 105]), .lit (.string [115, 108, 116, 105]), .lit (.string [115, 108, 116, 105, 117]), .lit (.string [120, 111, 114, 105]), .lit (.string [111, 114, 105]), .lit (.string [97, 110, 100, 105]), .lit (.string [115, 108, 108, 105]), .lit (.string [115, 114, 108, 105]), .lit (.string [115, 114, 97, 105]), .lit (.string [97, 100, 100]), .lit (.string [115, 117, 98]), .lit (.string [115, 108, 108]), .lit (.string [115, 108, 116]), .lit (.string [115, 108, 116, 117]), .lit (.string [120, 111, 114]), .lit (.string [115, 114, 108]), .lit (.string [115, 114, 97]), .lit (.string [111, 114]), .lit (.string [97, 110, 100]), .lit (.string [97, 100, 100, 105, 119]), .lit (.string [115, 108, 108, 105, 119]), .lit (.string [115, 114, 108, 105, 119]), .lit (.string [115, 114, 97, 105, 119]), .lit (.string [97, 100, 100, 119]), .lit (.string [115, 117, 98, 119]), .lit (.string [115, 108, 108, 119]), .lit (.string [115, 114, 108, 119]), .lit (.string [115, 114, 97, 119]), .lit (.string [109, 117, 108]), .lit (.string [109, 117, 108, 104]), .lit (.string [109, 117, 108, 104, 115, 117]), .lit (.string [109, 117, 108, 104, 117]), .lit (.string [100, 105, 118]), .lit (.string [100, 105, 118, 117]), .lit (.string [114, 101, 109]), .lit (.string [114, 101, 109, 117]), .lit (.string [109, 117, 108, 119]), .lit (.string [100, 105, 118, 119]), .lit (.string [100, 105, 118, 117, 119]), .lit (.string [114, 101, 109, 119]), .lit (.string [114, 101, 109, 117, 119]), .lit (.string [102, 101, 110, 99, 101]), .lit (.string [101, 99, 97, 108, 108]), .lit (.string [101, 98, 114, 101, 97, 107])]

/-- 'dovetaillaw4.InstDecodes': WHATEVER THE INPUT: true; the input reads as it did. -/
def instDecodesSpec : ChangeSpec := { name := "instDecodes", fn := fun _ => fun
  | [d] => { results := [.lit (.bool true)], args := [d] }
  | _ => none }
def instDecodesRow : OpenClaim := { program := "ytnlngagcpcpbkaadoor", sum := "9f81defbfe8f1fd3978bec0546da3e26181d7670fd65129bf22a5d3513825d86", func := "dovetail/dovetaillaw4.InstDecodes", spec := "instDecodes", named := ["dovetail/inst.words", "dovetail/inst.names"], plainKeys := false, apart := false, laid := [("dovetail/inst.words", laid_dovetail_inst_words), ("dovetail/inst.names", laid_dovetail_inst_names)] }
def InstDecodesSaid : Prop := instDecodesRow.holds Tryd.pinned (OpenSpec.ofChange instDecodesSpec)

/-- ITS FALSE NEIGHBOUR: 'it returns false'. Refute it at one input. -/
def instDecodesWrong : ChangeSpec := { name := "instDecodes", fn := fun _ => fun
  | [d] => { results := [.lit (.bool false)], args := [d] }
  | _ => none }
def InstDecodesWrongFalsely : Prop := instDecodesRow.holds Tryd.pinned (OpenSpec.ofChange instDecodesWrong)

/-- 'dovetaillaw4.InstEncodes': WHATEVER THE INPUT: true; the input reads as it did. -/
def instEncodesSpec : ChangeSpec := { name := "instEncodes", fn := fun _ => fun
  | [d] => { results := [.lit (.bool true)], args := [d] }
  | _ => none }
def instEncodesRow : OpenClaim := { program := "ytnlngagcpcpbkaadoor", sum := "9f81defbfe8f1fd3978bec0546da3e26181d7670fd65129bf22a5d3513825d86", func := "dovetail/dovetaillaw4.InstEncodes", spec := "instEncodes", named := ["dovetail/inst.words", "dovetail/inst.names"], plainKeys := false, apart := false, laid := [("dovetail/inst.words", laid_dovetail_inst_words), ("dovetail/inst.names", laid_dovetail_inst_names)] }
def InstEncodesSaid : Prop := instEncodesRow.holds Tryd.pinned (OpenSpec.ofChange instEncodesSpec)

/-- ITS FALSE NEIGHBOUR: 'it returns false'. Refute it at one input. -/
def instEncodesWrong : ChangeSpec := { name := "instEncodes", fn := fun _ => fun
  | [d] => { results := [.lit (.bool false)], args := [d] }
  | _ => none }
def InstEncodesWrongFalsely : Prop := instEncodesRow.holds Tryd.pinned (OpenSpec.ofChange instEncodesWrong)

/-- 'dovetaillaw4.InstBack': WHATEVER THE INPUT: true; the input reads as it did. -/
def instBackSpec : ChangeSpec := { name := "instBack", fn := fun _ => fun
  | [d1, d2, d3, d4, d5] => { results := [.lit (.bool true)], args := [d1, d2, d3, d4, d5] }
  | _ => none }
def instBackRow : OpenClaim := { program := "ytnlngagcpcpbkaadoor", sum := "9f81defbfe8f1fd3978bec0546da3e26181d7670fd65129bf22a5d3513825d86", func := "dovetail/dovetaillaw4.InstBack", spec := "instBack", named := ["dovetail/inst.words", "dovetail/inst.names"], plainKeys := false, apart := false, laid := [("dovetail/inst.words", laid_dovetail_inst_words), ("dovetail/inst.names", laid_dovetail_inst_names)] }
def InstBackSaid : Prop := instBackRow.holds Tryd.pinned (OpenSpec.ofChange instBackSpec)

/-- ITS FALSE NEIGHBOUR: 'it returns false'. Refute it at one input. -/
def instBackWrong : ChangeSpec := { name := "instBack", fn := fun _ => fun
  | [d1, d2, d3, d4, d5] => { results := [.lit (.bool false)], args := [d1, d2, d3, d4, d5] }
  | _ => none }
def InstBackWrongFalsely : Prop := instBackRow.holds Tryd.pinned (OpenSpec.ofChange instBackWrong)

/-- 'dovetaillaw4.InstNames': WHATEVER THE INPUT: true; the input reads as it did. -/
def instNamesSpec : ChangeSpec := { name := "instNames", fn := fun _ => fun
  | [d1, d2, d3] => { results := [.lit (.bool true)], args := [d1, d2, d3] }
  | _ => none }
def instNamesRow : OpenClaim := { program := "ytnlngagcpcpbkaadoor", sum := "9f81defbfe8f1fd3978bec0546da3e26181d7670fd65129bf22a5d3513825d86", func := "dovetail/dovetaillaw4.InstNames", spec := "instNames", named := ["dovetail/inst.words", "dovetail/inst.names"], plainKeys := false, apart := false, laid := [("dovetail/inst.words", laid_dovetail_inst_words), ("dovetail/inst.names", laid_dovetail_inst_names)] }
def InstNamesSaid : Prop := instNamesRow.holds Tryd.pinned (OpenSpec.ofChange instNamesSpec)

/-- ITS FALSE NEIGHBOUR: 'it returns false'. Refute it at one input. -/
def instNamesWrong : ChangeSpec := { name := "instNames", fn := fun _ => fun
  | [d1, d2, d3] => { results := [.lit (.bool false)], args := [d1, d2, d3] }
  | _ => none }
def InstNamesWrongFalsely : Prop := instNamesRow.holds Tryd.pinned (OpenSpec.ofChange instNamesWrong)

/-- 'dovetaillaw4.InstFields': WHATEVER THE INPUT: true; the input reads as it did. -/
def instFieldsSpec : ChangeSpec := { name := "instFields", fn := fun _ => fun
  | [d1, d2, d3, d4] => { results := [.lit (.bool true)], args := [d1, d2, d3, d4] }
  | _ => none }
def instFieldsRow : OpenClaim := { program := "ytnlngagcpcpbkaadoor", sum := "9f81defbfe8f1fd3978bec0546da3e26181d7670fd65129bf22a5d3513825d86", func := "dovetail/dovetaillaw4.InstFields", spec := "instFields", named := ["dovetail/inst.words", "dovetail/inst.names"], plainKeys := false, apart := false, laid := [("dovetail/inst.words", laid_dovetail_inst_words), ("dovetail/inst.names", laid_dovetail_inst_names)] }
def InstFieldsSaid : Prop := instFieldsRow.holds Tryd.pinned (OpenSpec.ofChange instFieldsSpec)

/-- ITS FALSE NEIGHBOUR: 'it returns false'. Refute it at one input. -/
def instFieldsWrong : ChangeSpec := { name := "instFields", fn := fun _ => fun
  | [d1, d2, d3, d4] => { results := [.lit (.bool false)], args := [d1, d2, d3, d4] }
  | _ => none }
def InstFieldsWrongFalsely : Prop := instFieldsRow.holds Tryd.pinned (OpenSpec.ofChange instFieldsWrong)

/-- 'dovetaillaw4.InstBounds': WHATEVER THE INPUT: true; the input reads as it did. -/
def instBoundsSpec : ChangeSpec := { name := "instBounds", fn := fun _ => fun
  | [d1, d2, d3] => { results := [.lit (.bool true)], args := [d1, d2, d3] }
  | _ => none }
def instBoundsRow : OpenClaim := { program := "ytnlngagcpcpbkaadoor", sum := "9f81defbfe8f1fd3978bec0546da3e26181d7670fd65129bf22a5d3513825d86", func := "dovetail/dovetaillaw4.InstBounds", spec := "instBounds", named := ["dovetail/inst.words", "dovetail/inst.names"], plainKeys := false, apart := false, laid := [("dovetail/inst.words", laid_dovetail_inst_words), ("dovetail/inst.names", laid_dovetail_inst_names)] }
def InstBoundsSaid : Prop := instBoundsRow.holds Tryd.pinned (OpenSpec.ofChange instBoundsSpec)

/-- ITS FALSE NEIGHBOUR: 'it returns false'. Refute it at one input. -/
def instBoundsWrong : ChangeSpec := { name := "instBounds", fn := fun _ => fun
  | [d1, d2, d3] => { results := [.lit (.bool false)], args := [d1, d2, d3] }
  | _ => none }
def InstBoundsWrongFalsely : Prop := instBoundsRow.holds Tryd.pinned (OpenSpec.ofChange instBoundsWrong)

/- THE SECOND FORM. 'bulk': how many values and letters a reading holds, each counted each time it is reached (what is shared counts as often as it is met; a slice's spare places count too). A statement '..UptoSaid' is the law's where the arguments, and the package variables that the reading takes, are together of bulk at most 1048576: NARROWER than '..Said'. Prove '..Said' where nothing that the law and all that it calls make is longer than what came in: it says more and counts as full. Else prove '..UptoSaid'. A law counts once. -/
mutual
def uptoBulk {H : Type} : DataW H → Nat
  | .lit (.string bytes) => bytes.length + 1
  | .lit _ => 1
  | .nil => 1
  | .ptr d => uptoBulk d + 1
  | .slice elems spare => uptoBulkAll elems + uptoBulkAll spare + 1
  | .agg parts => uptoBulkAll parts + 1
  | .iface _ d => uptoBulk d + 1
  | .map entries => uptoBulkEntries entries + 1
  | .held _ => 1
def uptoBulkAll {H : Type} : List (DataW H) → Nat
  | [] => 0
  | d :: r => uptoBulk d + uptoBulkAll r
def uptoBulkEntries {H : Type} : List (Lit × DataW H) → Nat
  | [] => 0
  | x :: r => uptoBulkEntry x + uptoBulkEntries r
def uptoBulkEntry {H : Type} : Lit × DataW H → Nat
  | (.string bytes, d) => bytes.length + uptoBulk d + 1
  | (_, d) => uptoBulk d + 1
 end
def uptoSmall : (H : Type) → List (DataW H) → Bool := fun _ ds => decide (uptoBulkAll ds ≤ 1048576)
def OpenSpec.upto (s : _root_.Go.ChangeSpec) : _root_.Go.OpenSpec := { _root_.Go.OpenSpec.ofChange s with cond := some uptoSmall }

/-- 'dovetaillaw4.InstDecodes', WHERE WHAT IT READS IS OF BULK AT MOST 1048576: true; the input reads as it did. -/
def instDecodesUptoRow : OpenClaim := { program := "ytnlngagcpcpbkaadoor", sum := "9f81defbfe8f1fd3978bec0546da3e26181d7670fd65129bf22a5d3513825d86", func := "dovetail/dovetaillaw4.InstDecodes", spec := "instDecodes", named := ["dovetail/inst.words", "dovetail/inst.names"], plainKeys := false, apart := false, laid := [("dovetail/inst.words", laid_dovetail_inst_words), ("dovetail/inst.names", laid_dovetail_inst_names)], narrowed := true }
def InstDecodesUptoSaid : Prop := instDecodesUptoRow.holds Tryd.pinned (OpenSpec.upto instDecodesSpec)

/-- 'dovetaillaw4.InstEncodes', WHERE WHAT IT READS IS OF BULK AT MOST 1048576: true; the input reads as it did. -/
def instEncodesUptoRow : OpenClaim := { program := "ytnlngagcpcpbkaadoor", sum := "9f81defbfe8f1fd3978bec0546da3e26181d7670fd65129bf22a5d3513825d86", func := "dovetail/dovetaillaw4.InstEncodes", spec := "instEncodes", named := ["dovetail/inst.words", "dovetail/inst.names"], plainKeys := false, apart := false, laid := [("dovetail/inst.words", laid_dovetail_inst_words), ("dovetail/inst.names", laid_dovetail_inst_names)], narrowed := true }
def InstEncodesUptoSaid : Prop := instEncodesUptoRow.holds Tryd.pinned (OpenSpec.upto instEncodesSpec)

/-- 'dovetaillaw4.InstBack', WHERE WHAT IT READS IS OF BULK AT MOST 1048576: true; the input reads as it did. -/
def instBackUptoRow : OpenClaim := { program := "ytnlngagcpcpbkaadoor", sum := "9f81defbfe8f1fd3978bec0546da3e26181d7670fd65129bf22a5d3513825d86", func := "dovetail/dovetaillaw4.InstBack", spec := "instBack", named := ["dovetail/inst.words", "dovetail/inst.names"], plainKeys := false, apart := false, laid := [("dovetail/inst.words", laid_dovetail_inst_words), ("dovetail/inst.names", laid_dovetail_inst_names)], narrowed := true }
def InstBackUptoSaid : Prop := instBackUptoRow.holds Tryd.pinned (OpenSpec.upto instBackSpec)

/-- 'dovetaillaw4.InstNames', WHERE WHAT IT READS IS OF BULK AT MOST 1048576: true; the input reads as it did. -/
def instNamesUptoRow : OpenClaim := { program := "ytnlngagcpcpbkaadoor", sum := "9f81defbfe8f1fd3978bec0546da3e26181d7670fd65129bf22a5d3513825d86", func := "dovetail/dovetaillaw4.InstNames", spec := "instNames", named := ["dovetail/inst.words", "dovetail/inst.names"], plainKeys := false, apart := false, laid := [("dovetail/inst.words", laid_dovetail_inst_words), ("dovetail/inst.names", laid_dovetail_inst_names)], narrowed := true }
def InstNamesUptoSaid : Prop := instNamesUptoRow.holds Tryd.pinned (OpenSpec.upto instNamesSpec)

/-- 'dovetaillaw4.InstFields', WHERE WHAT IT READS IS OF BULK AT MOST 1048576: true; the input reads as it did. -/
def instFieldsUptoRow : OpenClaim := { program := "ytnlngagcpcpbkaadoor", sum := "9f81defbfe8f1fd3978bec0546da3e26181d7670fd65129bf22a5d3513825d86", func := "dovetail/dovetaillaw4.InstFields", spec := "instFields", named := ["dovetail/inst.words", "dovetail/inst.names"], plainKeys := false, apart := false, laid := [("dovetail/inst.words", laid_dovetail_inst_words), ("dovetail/inst.names", laid_dovetail_inst_names)], narrowed := true }
def InstFieldsUptoSaid : Prop := instFieldsUptoRow.holds Tryd.pinned (OpenSpec.upto instFieldsSpec)

/-- 'dovetaillaw4.InstBounds', WHERE WHAT IT READS IS OF BULK AT MOST 1048576: true; the input reads as it did. -/
def instBoundsUptoRow : OpenClaim := { program := "ytnlngagcpcpbkaadoor", sum := "9f81defbfe8f1fd3978bec0546da3e26181d7670fd65129bf22a5d3513825d86", func := "dovetail/dovetaillaw4.InstBounds", spec := "instBounds", named := ["dovetail/inst.words", "dovetail/inst.names"], plainKeys := false, apart := false, laid := [("dovetail/inst.words", laid_dovetail_inst_words), ("dovetail/inst.names", laid_dovetail_inst_names)], narrowed := true }
def InstBoundsUptoSaid : Prop := instBoundsUptoRow.holds Tryd.pinned (OpenSpec.upto instBoundsSpec)

end Rows
end Go.Proofs.YtnlngagcpcpbkaaDoor
