/- Plain facts for the walk over LeEdges: the six offsets that it asks, and what they come to. -/
import Derived.Test.YtenpjddjoebljaaArg
import Derived.Deep.LoopGhost
namespace Go.Proofs.Ytenpjddjoebljaa
open Go.RowKit

theorem wrap64_bd (n : Int) : 0 ≤ IntKind.u64.wrap n ∧ IntKind.u64.wrap n ≤ 18446744073709551615 := by rw [IntKind.wrap_u64]; omega

theorem six (w : World) (t : TypeId) (x0 x1 x2 x3 x4 x5 : Int) (h0 : 0 ≤ x0 ∧ x0 ≤ 18446744073709551615) (h1 : 0 ≤ x1 ∧ x1 ≤ 18446744073709551615) (h2 : 0 ≤ x2 ∧ x2 ≤ 18446744073709551615)
    (h3 : 0 ≤ x3 ∧ x3 ≤ 18446744073709551615) (h4 : 0 ≤ x4 ∧ x4 ≤ 18446744073709551615) (h5 : 0 ≤ x5 ∧ x5 ≤ 18446744073709551615) (j : Nat) (hj : j < 6) :
    ∃ e, (w.alloc (.cells #[.int .u64 x0, .int .u64 x1, .int .u64 x2, .int .u64 x3, .int .u64 x4, .int .u64 x5] t)).cell? ⟨w.heap.size, j, none⟩ = some (.int .u64 e) ∧ 0 ≤ e ∧ e ≤ 18446744073709551615 := by
  rw [cell_of_row _ _ j _ t (0, 0) (heap_alloc_new w _)]
  match j, hj with
  | 0, _ => exact ⟨x0, rfl, h0⟩
  | 1, _ => exact ⟨x1, rfl, h1⟩
  | 2, _ => exact ⟨x2, rfl, h2⟩
  | 3, _ => exact ⟨x3, rfl, h3⟩
  | 4, _ => exact ⟨x4, rfl, h4⟩
  | 5, _ => exact ⟨x5, rfl, h5⟩

theorem has_yes {bs : List Int} {e : Int} {n : Nat} (h : e + n ≤ bs.length) : has bs e n = true := by unfold has; exact decide_eq_true h
theorem has_no {bs : List Int} {e : Int} {n : Nat} (h : ¬ e + n ≤ bs.length) : has bs e n = false := by unfold has; exact decide_eq_false h
theorem cutOf_all (bs : List Int) : cutOf bs 0 bs.length = bs := by unfold cutOf; simp
theorem cutOk_all (bs : List Int) : cutOk bs 0 bs.length = true := by unfold cutOk; simp
theorem cutOf_end (bs : List Int) : cutOf bs bs.length 0 = [] := by unfold cutOf; simp
theorem cutOk_end (bs : List Int) : cutOk bs bs.length 0 = true := by unfold cutOk; simp
theorem cutOk_far (bs : List Int) (n : Int) (h : 0 < n) : cutOk bs bs.length n = false := by unfold cutOk; exact decide_eq_false (by omega)

end Go.Proofs.Ytenpjddjoebljaa
