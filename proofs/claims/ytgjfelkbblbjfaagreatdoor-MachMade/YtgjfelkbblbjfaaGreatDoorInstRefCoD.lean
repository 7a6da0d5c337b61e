/- The contract of the document's CodeOf, an operation at a time. -/
import Derived.Test.YtgjfelkbblbjfaaGreatDoorJ24
import Derived.RegionTactic
namespace Go.Proofs.YtgjfelkbblbjfaaGreatDoor
open Go.RowKit
set_option linter.unusedVariables false
set_option maxRecDepth 100000
set_option linter.unusedSimpArgs false

set_option maxRecDepth 100000 in
set_option maxHeartbeats 800000 in
theorem co_41 (w : World) : Calls Tryz.prog 28 #[.int .i64 41] w fun e w' => e = .returned (.agg #[.int .u32 27, .int .u32 0, .int .u32 0]) ∧ Below w.heap.size w w' := by
  go_enter Tryz.func28, Tryz.ntmps28
  go_wp2
  go_region
  all_goals go_wp2
  all_goals go_returns
  all_goals exact ⟨rfl, by go_grown⟩
set_option maxRecDepth 100000 in
set_option maxHeartbeats 800000 in
theorem co_42 (w : World) : Calls Tryz.prog 28 #[.int .i64 42] w fun e w' => e = .returned (.agg #[.int .u32 27, .int .u32 1, .int .u32 0]) ∧ Below w.heap.size w w' := by
  go_enter Tryz.func28, Tryz.ntmps28
  go_wp2
  go_region
  all_goals go_wp2
  all_goals go_returns
  all_goals exact ⟨rfl, by go_grown⟩
set_option maxRecDepth 100000 in
set_option maxHeartbeats 800000 in
theorem co_43 (w : World) : Calls Tryz.prog 28 #[.int .i64 43] w fun e w' => e = .returned (.agg #[.int .u32 27, .int .u32 5, .int .u32 0]) ∧ Below w.heap.size w w' := by
  go_enter Tryz.func28, Tryz.ntmps28
  go_wp2
  go_region
  all_goals go_wp2
  all_goals go_returns
  all_goals exact ⟨rfl, by go_grown⟩
set_option maxRecDepth 100000 in
set_option maxHeartbeats 800000 in
theorem co_44 (w : World) : Calls Tryz.prog 28 #[.int .i64 44] w fun e w' => e = .returned (.agg #[.int .u32 27, .int .u32 5, .int .u32 32]) ∧ Below w.heap.size w w' := by
  go_enter Tryz.func28, Tryz.ntmps28
  go_wp2
  go_region
  all_goals go_wp2
  all_goals go_returns
  all_goals exact ⟨rfl, by go_grown⟩
set_option maxRecDepth 100000 in
set_option maxHeartbeats 800000 in
theorem co_45 (w : World) : Calls Tryz.prog 28 #[.int .i64 45] w fun e w' => e = .returned (.agg #[.int .u32 59, .int .u32 0, .int .u32 0]) ∧ Below w.heap.size w w' := by
  go_enter Tryz.func28, Tryz.ntmps28
  go_wp2
  go_region
  all_goals go_wp2
  all_goals go_returns
  all_goals exact ⟨rfl, by go_grown⟩
set_option maxRecDepth 100000 in
set_option maxHeartbeats 800000 in
theorem co_46 (w : World) : Calls Tryz.prog 28 #[.int .i64 46] w fun e w' => e = .returned (.agg #[.int .u32 59, .int .u32 0, .int .u32 32]) ∧ Below w.heap.size w w' := by
  go_enter Tryz.func28, Tryz.ntmps28
  go_wp2
  go_region
  all_goals go_wp2
  all_goals go_returns
  all_goals exact ⟨rfl, by go_grown⟩
set_option maxRecDepth 100000 in
set_option maxHeartbeats 800000 in
theorem co_47 (w : World) : Calls Tryz.prog 28 #[.int .i64 47] w fun e w' => e = .returned (.agg #[.int .u32 59, .int .u32 1, .int .u32 0]) ∧ Below w.heap.size w w' := by
  go_enter Tryz.func28, Tryz.ntmps28
  go_wp2
  go_region
  all_goals go_wp2
  all_goals go_returns
  all_goals exact ⟨rfl, by go_grown⟩
set_option maxRecDepth 100000 in
set_option maxHeartbeats 800000 in
theorem co_48 (w : World) : Calls Tryz.prog 28 #[.int .i64 48] w fun e w' => e = .returned (.agg #[.int .u32 59, .int .u32 5, .int .u32 0]) ∧ Below w.heap.size w w' := by
  go_enter Tryz.func28, Tryz.ntmps28
  go_wp2
  go_region
  all_goals go_wp2
  all_goals go_returns
  all_goals exact ⟨rfl, by go_grown⟩
set_option maxRecDepth 100000 in
set_option maxHeartbeats 800000 in
theorem co_49 (w : World) : Calls Tryz.prog 28 #[.int .i64 49] w fun e w' => e = .returned (.agg #[.int .u32 59, .int .u32 5, .int .u32 32]) ∧ Below w.heap.size w w' := by
  go_enter Tryz.func28, Tryz.ntmps28
  go_wp2
  go_region
  all_goals go_wp2
  all_goals go_returns
  all_goals exact ⟨rfl, by go_grown⟩

end Go.Proofs.YtgjfelkbblbjfaaGreatDoor
