/- The contract of the document's CodeOf, an operation at a time. -/
import Derived.Test.YtgjfelkbblbjfaaGreatDoorJ24
import Derived.RegionTactic
namespace Go.Proofs.YtgjfelkbblbjfaaGreatDoor
open Go.RowKit
set_option linter.unusedVariables false
set_option maxRecDepth 100000
set_option linter.unusedSimpArgs false

set_option maxRecDepth 100000 in
set_option maxHeartbeats 800000 in
theorem co_1 (w : World) : Calls Tryz.prog 28 #[.int .i64 1] w fun e w' => e = .returned (.agg #[.int .u32 55, .int .u32 0, .int .u32 0]) ∧ Below w.heap.size w w' := by
  go_enter Tryz.func28, Tryz.ntmps28
  go_wp2
  all_goals go_returns
  all_goals exact ⟨rfl, by go_grown⟩
set_option maxRecDepth 100000 in
set_option maxHeartbeats 800000 in
theorem co_2 (w : World) : Calls Tryz.prog 28 #[.int .i64 2] w fun e w' => e = .returned (.agg #[.int .u32 23, .int .u32 0, .int .u32 0]) ∧ Below w.heap.size w w' := by
  go_enter Tryz.func28, Tryz.ntmps28
  go_wp2
  all_goals go_returns
  all_goals exact ⟨rfl, by go_grown⟩
set_option maxRecDepth 100000 in
set_option maxHeartbeats 800000 in
theorem co_3 (w : World) : Calls Tryz.prog 28 #[.int .i64 3] w fun e w' => e = .returned (.agg #[.int .u32 111, .int .u32 0, .int .u32 0]) ∧ Below w.heap.size w w' := by
  go_enter Tryz.func28, Tryz.ntmps28
  go_wp2
  all_goals go_returns
  all_goals exact ⟨rfl, by go_grown⟩
set_option maxRecDepth 100000 in
set_option maxHeartbeats 800000 in
theorem co_4 (w : World) : Calls Tryz.prog 28 #[.int .i64 4] w fun e w' => e = .returned (.agg #[.int .u32 103, .int .u32 0, .int .u32 0]) ∧ Below w.heap.size w w' := by
  go_enter Tryz.func28, Tryz.ntmps28
  go_wp2
  all_goals go_returns
  all_goals exact ⟨rfl, by go_grown⟩
set_option maxRecDepth 100000 in
set_option maxHeartbeats 800000 in
theorem co_5 (w : World) : Calls Tryz.prog 28 #[.int .i64 5] w fun e w' => e = .returned (.agg #[.int .u32 99, .int .u32 0, .int .u32 0]) ∧ Below w.heap.size w w' := by
  go_enter Tryz.func28, Tryz.ntmps28
  go_wp2
  all_goals go_returns
  all_goals exact ⟨rfl, by go_grown⟩
set_option maxRecDepth 100000 in
set_option maxHeartbeats 800000 in
theorem co_6 (w : World) : Calls Tryz.prog 28 #[.int .i64 6] w fun e w' => e = .returned (.agg #[.int .u32 99, .int .u32 1, .int .u32 0]) ∧ Below w.heap.size w w' := by
  go_enter Tryz.func28, Tryz.ntmps28
  go_wp2
  all_goals go_returns
  all_goals exact ⟨rfl, by go_grown⟩
set_option maxRecDepth 100000 in
set_option maxHeartbeats 800000 in
theorem co_7 (w : World) : Calls Tryz.prog 28 #[.int .i64 7] w fun e w' => e = .returned (.agg #[.int .u32 99, .int .u32 4, .int .u32 0]) ∧ Below w.heap.size w w' := by
  go_enter Tryz.func28, Tryz.ntmps28
  go_wp2
  all_goals go_returns
  all_goals exact ⟨rfl, by go_grown⟩
set_option maxRecDepth 100000 in
set_option maxHeartbeats 800000 in
theorem co_8 (w : World) : Calls Tryz.prog 28 #[.int .i64 8] w fun e w' => e = .returned (.agg #[.int .u32 99, .int .u32 5, .int .u32 0]) ∧ Below w.heap.size w w' := by
  go_enter Tryz.func28, Tryz.ntmps28
  go_wp2
  all_goals go_returns
  all_goals exact ⟨rfl, by go_grown⟩
set_option maxRecDepth 100000 in
set_option maxHeartbeats 800000 in
theorem co_9 (w : World) : Calls Tryz.prog 28 #[.int .i64 9] w fun e w' => e = .returned (.agg #[.int .u32 99, .int .u32 6, .int .u32 0]) ∧ Below w.heap.size w w' := by
  go_enter Tryz.func28, Tryz.ntmps28
  go_wp2
  all_goals go_returns
  all_goals exact ⟨rfl, by go_grown⟩
set_option maxRecDepth 100000 in
set_option maxHeartbeats 800000 in
theorem co_10 (w : World) : Calls Tryz.prog 28 #[.int .i64 10] w fun e w' => e = .returned (.agg #[.int .u32 99, .int .u32 7, .int .u32 0]) ∧ Below w.heap.size w w' := by
  go_enter Tryz.func28, Tryz.ntmps28
  go_wp2
  all_goals go_returns
  all_goals exact ⟨rfl, by go_grown⟩
set_option maxRecDepth 100000 in
set_option maxHeartbeats 800000 in
theorem co_11 (w : World) : Calls Tryz.prog 28 #[.int .i64 11] w fun e w' => e = .returned (.agg #[.int .u32 3, .int .u32 0, .int .u32 0]) ∧ Below w.heap.size w w' := by
  go_enter Tryz.func28, Tryz.ntmps28
  go_wp2
  all_goals go_returns
  all_goals exact ⟨rfl, by go_grown⟩
set_option maxRecDepth 100000 in
set_option maxHeartbeats 800000 in
theorem co_12 (w : World) : Calls Tryz.prog 28 #[.int .i64 12] w fun e w' => e = .returned (.agg #[.int .u32 3, .int .u32 1, .int .u32 0]) ∧ Below w.heap.size w w' := by
  go_enter Tryz.func28, Tryz.ntmps28
  go_wp2
  all_goals go_returns
  all_goals exact ⟨rfl, by go_grown⟩
set_option maxRecDepth 100000 in
set_option maxHeartbeats 800000 in
theorem co_13 (w : World) : Calls Tryz.prog 28 #[.int .i64 13] w fun e w' => e = .returned (.agg #[.int .u32 3, .int .u32 2, .int .u32 0]) ∧ Below w.heap.size w w' := by
  go_enter Tryz.func28, Tryz.ntmps28
  go_wp2
  all_goals go_returns
  all_goals exact ⟨rfl, by go_grown⟩
set_option maxRecDepth 100000 in
set_option maxHeartbeats 800000 in
theorem co_14 (w : World) : Calls Tryz.prog 28 #[.int .i64 14] w fun e w' => e = .returned (.agg #[.int .u32 3, .int .u32 3, .int .u32 0]) ∧ Below w.heap.size w w' := by
  go_enter Tryz.func28, Tryz.ntmps28
  go_wp2
  all_goals go_returns
  all_goals exact ⟨rfl, by go_grown⟩
set_option maxRecDepth 100000 in
set_option maxHeartbeats 800000 in
theorem co_15 (w : World) : Calls Tryz.prog 28 #[.int .i64 15] w fun e w' => e = .returned (.agg #[.int .u32 3, .int .u32 4, .int .u32 0]) ∧ Below w.heap.size w w' := by
  go_enter Tryz.func28, Tryz.ntmps28
  go_wp2
  all_goals go_returns
  all_goals exact ⟨rfl, by go_grown⟩
set_option maxRecDepth 100000 in
set_option maxHeartbeats 800000 in
theorem co_16 (w : World) : Calls Tryz.prog 28 #[.int .i64 16] w fun e w' => e = .returned (.agg #[.int .u32 3, .int .u32 5, .int .u32 0]) ∧ Below w.heap.size w w' := by
  go_enter Tryz.func28, Tryz.ntmps28
  go_wp2
  all_goals go_returns
  all_goals exact ⟨rfl, by go_grown⟩
set_option maxRecDepth 100000 in
set_option maxHeartbeats 800000 in
theorem co_17 (w : World) : Calls Tryz.prog 28 #[.int .i64 17] w fun e w' => e = .returned (.agg #[.int .u32 3, .int .u32 6, .int .u32 0]) ∧ Below w.heap.size w w' := by
  go_enter Tryz.func28, Tryz.ntmps28
  go_wp2
  all_goals go_returns
  all_goals exact ⟨rfl, by go_grown⟩
set_option maxRecDepth 100000 in
set_option maxHeartbeats 800000 in
theorem co_18 (w : World) : Calls Tryz.prog 28 #[.int .i64 18] w fun e w' => e = .returned (.agg #[.int .u32 35, .int .u32 0, .int .u32 0]) ∧ Below w.heap.size w w' := by
  go_enter Tryz.func28, Tryz.ntmps28
  go_wp2
  all_goals go_returns
  all_goals exact ⟨rfl, by go_grown⟩
set_option maxRecDepth 100000 in
set_option maxHeartbeats 800000 in
theorem co_19 (w : World) : Calls Tryz.prog 28 #[.int .i64 19] w fun e w' => e = .returned (.agg #[.int .u32 35, .int .u32 1, .int .u32 0]) ∧ Below w.heap.size w w' := by
  go_enter Tryz.func28, Tryz.ntmps28
  go_wp2
  all_goals go_returns
  all_goals exact ⟨rfl, by go_grown⟩
set_option maxRecDepth 100000 in
set_option maxHeartbeats 800000 in
theorem co_20 (w : World) : Calls Tryz.prog 28 #[.int .i64 20] w fun e w' => e = .returned (.agg #[.int .u32 35, .int .u32 2, .int .u32 0]) ∧ Below w.heap.size w w' := by
  go_enter Tryz.func28, Tryz.ntmps28
  go_wp2
  all_goals go_returns
  all_goals exact ⟨rfl, by go_grown⟩
set_option maxRecDepth 100000 in
set_option maxHeartbeats 800000 in
theorem co_21 (w : World) : Calls Tryz.prog 28 #[.int .i64 21] w fun e w' => e = .returned (.agg #[.int .u32 35, .int .u32 3, .int .u32 0]) ∧ Below w.heap.size w w' := by
  go_enter Tryz.func28, Tryz.ntmps28
  go_wp2
  all_goals go_returns
  all_goals exact ⟨rfl, by go_grown⟩
set_option maxRecDepth 100000 in
set_option maxHeartbeats 800000 in
theorem co_50 (w : World) : Calls Tryz.prog 28 #[.int .i64 50] w fun e w' => e = .returned (.agg #[.int .u32 51, .int .u32 0, .int .u32 1]) ∧ Below w.heap.size w w' := by
  go_enter Tryz.func28, Tryz.ntmps28
  go_wp2
  all_goals go_returns
  all_goals exact ⟨rfl, by go_grown⟩
set_option maxRecDepth 100000 in
set_option maxHeartbeats 800000 in
theorem co_51 (w : World) : Calls Tryz.prog 28 #[.int .i64 51] w fun e w' => e = .returned (.agg #[.int .u32 51, .int .u32 1, .int .u32 1]) ∧ Below w.heap.size w w' := by
  go_enter Tryz.func28, Tryz.ntmps28
  go_wp2
  all_goals go_returns
  all_goals exact ⟨rfl, by go_grown⟩
set_option maxRecDepth 100000 in
set_option maxHeartbeats 800000 in
theorem co_52 (w : World) : Calls Tryz.prog 28 #[.int .i64 52] w fun e w' => e = .returned (.agg #[.int .u32 51, .int .u32 2, .int .u32 1]) ∧ Below w.heap.size w w' := by
  go_enter Tryz.func28, Tryz.ntmps28
  go_wp2
  all_goals go_returns
  all_goals exact ⟨rfl, by go_grown⟩
set_option maxRecDepth 100000 in
set_option maxHeartbeats 800000 in
theorem co_53 (w : World) : Calls Tryz.prog 28 #[.int .i64 53] w fun e w' => e = .returned (.agg #[.int .u32 51, .int .u32 3, .int .u32 1]) ∧ Below w.heap.size w w' := by
  go_enter Tryz.func28, Tryz.ntmps28
  go_wp2
  all_goals go_returns
  all_goals exact ⟨rfl, by go_grown⟩
set_option maxRecDepth 100000 in
set_option maxHeartbeats 800000 in
theorem co_54 (w : World) : Calls Tryz.prog 28 #[.int .i64 54] w fun e w' => e = .returned (.agg #[.int .u32 51, .int .u32 4, .int .u32 1]) ∧ Below w.heap.size w w' := by
  go_enter Tryz.func28, Tryz.ntmps28
  go_wp2
  all_goals go_returns
  all_goals exact ⟨rfl, by go_grown⟩
set_option maxRecDepth 100000 in
set_option maxHeartbeats 800000 in
theorem co_55 (w : World) : Calls Tryz.prog 28 #[.int .i64 55] w fun e w' => e = .returned (.agg #[.int .u32 51, .int .u32 5, .int .u32 1]) ∧ Below w.heap.size w w' := by
  go_enter Tryz.func28, Tryz.ntmps28
  go_wp2
  all_goals go_returns
  all_goals exact ⟨rfl, by go_grown⟩
set_option maxRecDepth 100000 in
set_option maxHeartbeats 800000 in
theorem co_56 (w : World) : Calls Tryz.prog 28 #[.int .i64 56] w fun e w' => e = .returned (.agg #[.int .u32 51, .int .u32 6, .int .u32 1]) ∧ Below w.heap.size w w' := by
  go_enter Tryz.func28, Tryz.ntmps28
  go_wp2
  all_goals go_returns
  all_goals exact ⟨rfl, by go_grown⟩
set_option maxRecDepth 100000 in
set_option maxHeartbeats 800000 in
theorem co_57 (w : World) : Calls Tryz.prog 28 #[.int .i64 57] w fun e w' => e = .returned (.agg #[.int .u32 51, .int .u32 7, .int .u32 1]) ∧ Below w.heap.size w w' := by
  go_enter Tryz.func28, Tryz.ntmps28
  go_wp2
  all_goals go_returns
  all_goals exact ⟨rfl, by go_grown⟩
set_option maxRecDepth 100000 in
set_option maxHeartbeats 800000 in
theorem co_58 (w : World) : Calls Tryz.prog 28 #[.int .i64 58] w fun e w' => e = .returned (.agg #[.int .u32 59, .int .u32 0, .int .u32 1]) ∧ Below w.heap.size w w' := by
  go_enter Tryz.func28, Tryz.ntmps28
  go_wp2
  all_goals go_returns
  all_goals exact ⟨rfl, by go_grown⟩
set_option maxRecDepth 100000 in
set_option maxHeartbeats 800000 in
theorem co_59 (w : World) : Calls Tryz.prog 28 #[.int .i64 59] w fun e w' => e = .returned (.agg #[.int .u32 59, .int .u32 4, .int .u32 1]) ∧ Below w.heap.size w w' := by
  go_enter Tryz.func28, Tryz.ntmps28
  go_wp2
  all_goals go_returns
  all_goals exact ⟨rfl, by go_grown⟩
set_option maxRecDepth 100000 in
set_option maxHeartbeats 800000 in
theorem co_60 (w : World) : Calls Tryz.prog 28 #[.int .i64 60] w fun e w' => e = .returned (.agg #[.int .u32 59, .int .u32 5, .int .u32 1]) ∧ Below w.heap.size w w' := by
  go_enter Tryz.func28, Tryz.ntmps28
  go_wp2
  all_goals go_returns
  all_goals exact ⟨rfl, by go_grown⟩
set_option maxRecDepth 100000 in
set_option maxHeartbeats 800000 in
theorem co_61 (w : World) : Calls Tryz.prog 28 #[.int .i64 61] w fun e w' => e = .returned (.agg #[.int .u32 59, .int .u32 6, .int .u32 1]) ∧ Below w.heap.size w w' := by
  go_enter Tryz.func28, Tryz.ntmps28
  go_wp2
  all_goals go_returns
  all_goals exact ⟨rfl, by go_grown⟩
set_option maxRecDepth 100000 in
set_option maxHeartbeats 800000 in
theorem co_62 (w : World) : Calls Tryz.prog 28 #[.int .i64 62] w fun e w' => e = .returned (.agg #[.int .u32 59, .int .u32 7, .int .u32 1]) ∧ Below w.heap.size w w' := by
  go_enter Tryz.func28, Tryz.ntmps28
  go_wp2
  all_goals go_returns
  all_goals exact ⟨rfl, by go_grown⟩

end Go.Proofs.YtgjfelkbblbjfaaGreatDoor
