/- Contracts of le.put and of le.Put16, le.Put32, le.Put64: the bytes, and behind them each number's lowest bytes, in a row of the call's own. -/
import Derived.Test.YtmmcnkdefpfkiaaDoorSets
namespace Go.Proofs.YtmmcnkdefpfkiaaDoor
open Go.RowKit
set_option linter.unusedVariables false
set_option maxRecDepth 100000
set_option maxRecDepth 20000

theorem map_snoc (l : List Int) (x : Int) : l.map (Value.int .u8) ++ [.int .u8 x] = (l ++ [x]).map (Value.int .u8) := by simp



/-- Numbers, each in n bytes, one behind another. -/
def flat (n : Nat) : List Int → List Int
  | [] => []
  | x :: r => bytesOf x n ++ flat n r
theorem flat_append (n : Nat) : ∀ l m : List Int, flat n (l ++ m) = flat n l ++ flat n m
  | [], m => rfl
  | x :: r, m => by simp [flat, flat_append n r m]
theorem flat_length (n : Nat) : ∀ l : List Int, (flat n l).length = l.length * n
  | [] => by simp [flat]
  | x :: r => by simp [flat, flat_length n r, bytesOf_length, Nat.add_mul]; omega
theorem flat_bytes (n : Nat) : ∀ l : List Int, Bytes (flat n l)
  | [] => Bytes.nil
  | x :: r => (bytesOf_bytes x n).append (flat_bytes n r)

theorem take_step (l : List Int) (k : Nat) (h : k < l.length) : l.take (k + 1) = l.take k ++ [l[k]?.getD 0] := take_snoc l k h
theorem flat_step (n : Nat) (bs xs : List Int) (k : Nat) (h : k < xs.length) : bs ++ flat n (xs.take k) ++ bytesOf (xs[k]?.getD 0) n = bs ++ flat n (xs.take (k + 1)) := by
  rw [take_snoc xs k h, flat_append]; simp [flat]







end Go.Proofs.YtmmcnkdefpfkiaaDoor
