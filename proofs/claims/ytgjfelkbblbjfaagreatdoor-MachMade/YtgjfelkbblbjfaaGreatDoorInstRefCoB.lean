/- The contract of the document's CodeOf, an operation at a time. -/
import Derived.Test.YtgjfelkbblbjfaaGreatDoorJ24
import Derived.RegionTactic
namespace Go.Proofs.YtgjfelkbblbjfaaGreatDoor
open Go.RowKit
set_option linter.unusedVariables false
set_option maxRecDepth 100000
set_option linter.unusedSimpArgs false

set_option maxRecDepth 100000 in
set_option maxHeartbeats 800000 in
theorem co_22 (w : World) : Calls Tryz.prog 28 #[.int .i64 22] w fun e w' => e = .returned (.agg #[.int .u32 19, .int .u32 0, .int .u32 0]) ∧ Below w.heap.size w w' := by
  go_enter Tryz.func28, Tryz.ntmps28
  go_wp2
  go_region
  all_goals go_wp2
  all_goals go_returns
  all_goals exact ⟨rfl, by go_grown⟩
set_option maxRecDepth 100000 in
set_option maxHeartbeats 800000 in
theorem co_23 (w : World) : Calls Tryz.prog 28 #[.int .i64 23] w fun e w' => e = .returned (.agg #[.int .u32 19, .int .u32 2, .int .u32 0]) ∧ Below w.heap.size w w' := by
  go_enter Tryz.func28, Tryz.ntmps28
  go_wp2
  go_region
  all_goals go_wp2
  all_goals go_returns
  all_goals exact ⟨rfl, by go_grown⟩
set_option maxRecDepth 100000 in
set_option maxHeartbeats 800000 in
theorem co_24 (w : World) : Calls Tryz.prog 28 #[.int .i64 24] w fun e w' => e = .returned (.agg #[.int .u32 19, .int .u32 3, .int .u32 0]) ∧ Below w.heap.size w w' := by
  go_enter Tryz.func28, Tryz.ntmps28
  go_wp2
  go_region
  all_goals go_wp2
  all_goals go_returns
  all_goals exact ⟨rfl, by go_grown⟩
set_option maxRecDepth 100000 in
set_option maxHeartbeats 800000 in
theorem co_25 (w : World) : Calls Tryz.prog 28 #[.int .i64 25] w fun e w' => e = .returned (.agg #[.int .u32 19, .int .u32 4, .int .u32 0]) ∧ Below w.heap.size w w' := by
  go_enter Tryz.func28, Tryz.ntmps28
  go_wp2
  go_region
  all_goals go_wp2
  all_goals go_returns
  all_goals exact ⟨rfl, by go_grown⟩
set_option maxRecDepth 100000 in
set_option maxHeartbeats 800000 in
theorem co_26 (w : World) : Calls Tryz.prog 28 #[.int .i64 26] w fun e w' => e = .returned (.agg #[.int .u32 19, .int .u32 6, .int .u32 0]) ∧ Below w.heap.size w w' := by
  go_enter Tryz.func28, Tryz.ntmps28
  go_wp2
  go_region
  all_goals go_wp2
  all_goals go_returns
  all_goals exact ⟨rfl, by go_grown⟩
set_option maxRecDepth 100000 in
set_option maxHeartbeats 800000 in
theorem co_27 (w : World) : Calls Tryz.prog 28 #[.int .i64 27] w fun e w' => e = .returned (.agg #[.int .u32 19, .int .u32 7, .int .u32 0]) ∧ Below w.heap.size w w' := by
  go_enter Tryz.func28, Tryz.ntmps28
  go_wp2
  go_region
  all_goals go_wp2
  all_goals go_returns
  all_goals exact ⟨rfl, by go_grown⟩
set_option maxRecDepth 100000 in
set_option maxHeartbeats 800000 in
theorem co_28 (w : World) : Calls Tryz.prog 28 #[.int .i64 28] w fun e w' => e = .returned (.agg #[.int .u32 19, .int .u32 1, .int .u32 0]) ∧ Below w.heap.size w w' := by
  go_enter Tryz.func28, Tryz.ntmps28
  go_wp2
  go_region
  all_goals go_wp2
  all_goals go_returns
  all_goals exact ⟨rfl, by go_grown⟩
set_option maxRecDepth 100000 in
set_option maxHeartbeats 800000 in
theorem co_29 (w : World) : Calls Tryz.prog 28 #[.int .i64 29] w fun e w' => e = .returned (.agg #[.int .u32 19, .int .u32 5, .int .u32 0]) ∧ Below w.heap.size w w' := by
  go_enter Tryz.func28, Tryz.ntmps28
  go_wp2
  go_region
  all_goals go_wp2
  all_goals go_returns
  all_goals exact ⟨rfl, by go_grown⟩
set_option maxRecDepth 100000 in
set_option maxHeartbeats 800000 in
theorem co_30 (w : World) : Calls Tryz.prog 28 #[.int .i64 30] w fun e w' => e = .returned (.agg #[.int .u32 19, .int .u32 5, .int .u32 16]) ∧ Below w.heap.size w w' := by
  go_enter Tryz.func28, Tryz.ntmps28
  go_wp2
  go_region
  all_goals go_wp2
  all_goals go_returns
  all_goals exact ⟨rfl, by go_grown⟩

end Go.Proofs.YtgjfelkbblbjfaaGreatDoor
