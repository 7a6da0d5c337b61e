/- The statements' example, known, is true. -/
import Derived.Test.YtejmifokceoofaaDoorJ00
namespace Go.Proofs.YtejmifokceoofaaDoor
open Go.RowKit
set_option linter.unusedVariables false
set_option maxRecDepth 100000

theorem tmod_two (x : Int) : (x.tmod 2 == 0) = decide (x % 2 = 0) := by
  have h1 := Int.dvd_iff_tmod_eq_zero (a := 2) (b := x)
  have h2 := Int.dvd_iff_emod_eq_zero (a := 2) (b := x)
  rw [Bool.eq_iff_iff]
  simp only [beq_iff_eq, decide_eq_true_eq]
  exact h1.symm.trans h2



end Go.Proofs.YtejmifokceoofaaDoor
