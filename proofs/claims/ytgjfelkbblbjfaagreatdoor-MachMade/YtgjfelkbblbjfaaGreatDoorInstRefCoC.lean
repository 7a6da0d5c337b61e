/- The contract of the document's CodeOf, an operation at a time. -/
import Derived.Test.YtgjfelkbblbjfaaGreatDoorJ24
import Derived.RegionTactic
namespace Go.Proofs.YtgjfelkbblbjfaaGreatDoor
open Go.RowKit
set_option linter.unusedVariables false
set_option maxRecDepth 100000
set_option linter.unusedSimpArgs false

set_option maxRecDepth 100000 in
set_option maxHeartbeats 800000 in
theorem co_31 (w : World) : Calls Tryz.prog 28 #[.int .i64 31] w fun e w' => e = .returned (.agg #[.int .u32 51, .int .u32 0, .int .u32 0]) ∧ Below w.heap.size w w' := by
  go_enter Tryz.func28, Tryz.ntmps28
  go_wp2
  go_region
  all_goals go_wp2
  all_goals go_returns
  all_goals exact ⟨rfl, by go_grown⟩
set_option maxRecDepth 100000 in
set_option maxHeartbeats 800000 in
theorem co_32 (w : World) : Calls Tryz.prog 28 #[.int .i64 32] w fun e w' => e = .returned (.agg #[.int .u32 51, .int .u32 0, .int .u32 32]) ∧ Below w.heap.size w w' := by
  go_enter Tryz.func28, Tryz.ntmps28
  go_wp2
  go_region
  all_goals go_wp2
  all_goals go_returns
  all_goals exact ⟨rfl, by go_grown⟩
set_option maxRecDepth 100000 in
set_option maxHeartbeats 800000 in
theorem co_33 (w : World) : Calls Tryz.prog 28 #[.int .i64 33] w fun e w' => e = .returned (.agg #[.int .u32 51, .int .u32 1, .int .u32 0]) ∧ Below w.heap.size w w' := by
  go_enter Tryz.func28, Tryz.ntmps28
  go_wp2
  go_region
  all_goals go_wp2
  all_goals go_returns
  all_goals exact ⟨rfl, by go_grown⟩
set_option maxRecDepth 100000 in
set_option maxHeartbeats 800000 in
theorem co_34 (w : World) : Calls Tryz.prog 28 #[.int .i64 34] w fun e w' => e = .returned (.agg #[.int .u32 51, .int .u32 2, .int .u32 0]) ∧ Below w.heap.size w w' := by
  go_enter Tryz.func28, Tryz.ntmps28
  go_wp2
  go_region
  all_goals go_wp2
  all_goals go_returns
  all_goals exact ⟨rfl, by go_grown⟩
set_option maxRecDepth 100000 in
set_option maxHeartbeats 800000 in
theorem co_35 (w : World) : Calls Tryz.prog 28 #[.int .i64 35] w fun e w' => e = .returned (.agg #[.int .u32 51, .int .u32 3, .int .u32 0]) ∧ Below w.heap.size w w' := by
  go_enter Tryz.func28, Tryz.ntmps28
  go_wp2
  go_region
  all_goals go_wp2
  all_goals go_returns
  all_goals exact ⟨rfl, by go_grown⟩
set_option maxRecDepth 100000 in
set_option maxHeartbeats 800000 in
theorem co_36 (w : World) : Calls Tryz.prog 28 #[.int .i64 36] w fun e w' => e = .returned (.agg #[.int .u32 51, .int .u32 4, .int .u32 0]) ∧ Below w.heap.size w w' := by
  go_enter Tryz.func28, Tryz.ntmps28
  go_wp2
  go_region
  all_goals go_wp2
  all_goals go_returns
  all_goals exact ⟨rfl, by go_grown⟩
set_option maxRecDepth 100000 in
set_option maxHeartbeats 800000 in
theorem co_37 (w : World) : Calls Tryz.prog 28 #[.int .i64 37] w fun e w' => e = .returned (.agg #[.int .u32 51, .int .u32 5, .int .u32 0]) ∧ Below w.heap.size w w' := by
  go_enter Tryz.func28, Tryz.ntmps28
  go_wp2
  go_region
  all_goals go_wp2
  all_goals go_returns
  all_goals exact ⟨rfl, by go_grown⟩
set_option maxRecDepth 100000 in
set_option maxHeartbeats 800000 in
theorem co_38 (w : World) : Calls Tryz.prog 28 #[.int .i64 38] w fun e w' => e = .returned (.agg #[.int .u32 51, .int .u32 5, .int .u32 32]) ∧ Below w.heap.size w w' := by
  go_enter Tryz.func28, Tryz.ntmps28
  go_wp2
  go_region
  all_goals go_wp2
  all_goals go_returns
  all_goals exact ⟨rfl, by go_grown⟩
set_option maxRecDepth 100000 in
set_option maxHeartbeats 800000 in
theorem co_39 (w : World) : Calls Tryz.prog 28 #[.int .i64 39] w fun e w' => e = .returned (.agg #[.int .u32 51, .int .u32 6, .int .u32 0]) ∧ Below w.heap.size w w' := by
  go_enter Tryz.func28, Tryz.ntmps28
  go_wp2
  go_region
  all_goals go_wp2
  all_goals go_returns
  all_goals exact ⟨rfl, by go_grown⟩
set_option maxRecDepth 100000 in
set_option maxHeartbeats 800000 in
theorem co_40 (w : World) : Calls Tryz.prog 28 #[.int .i64 40] w fun e w' => e = .returned (.agg #[.int .u32 51, .int .u32 7, .int .u32 0]) ∧ Below w.heap.size w w' := by
  go_enter Tryz.func28, Tryz.ntmps28
  go_wp2
  go_region
  all_goals go_wp2
  all_goals go_returns
  all_goals exact ⟨rfl, by go_grown⟩

end Go.Proofs.YtgjfelkbblbjfaaGreatDoor
