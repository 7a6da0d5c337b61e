/- Contracts of le.Set and of the document's Set: a new row that holds the bytes with the number's lowest n laid over them, or none and false. -/
import Derived.Test.YtmmcnkdefpfkiaaDoorMake
namespace Go.Proofs.YtmmcnkdefpfkiaaDoor
open Go.RowKit
set_option linter.unusedVariables false
set_option maxRecDepth 100000
set_option maxRecDepth 20000

theorem map_set_int (l : List Int) (j : Nat) (x : Int) : (l.map (Value.int .u8)).set j (.int .u8 x) = (l.set j x).map (Value.int .u8) := by
  rw [List.map_set]









/-- What Set is to answer. -/
def setRes (bs : List Int) (off v n : Int) : List Int := if 1 ≤ n ∧ n ≤ 8 ∧ off + n ≤ bs.length then setLe bs off.toNat v n.toNat else []
def setOk (bs : List Int) (off n : Int) : Bool := decide (1 ≤ n ∧ n ≤ 8 ∧ off + n ≤ bs.length)





end Go.Proofs.YtmmcnkdefpfkiaaDoor
