/- Contracts of the helps Strings (where both sides are the same) and Place. -/
import Derived.Test.YtkmmffpipopjcaaTxtRow
import Derived.Deep.QuietTactic
import Derived.BigQuiet
import Derived.Deep.DeepCutAuto
namespace Go.Proofs.Ytkmmffpipopjcaa
open Go.RowKit
set_option linter.unusedVariables false
set_option linter.unusedSimpArgs false

theorem bel_drewS (w : World) (n : Nat) : Below w.heap.size w (w.drewN n) := ⟨rfl, rfl, rfl, Nat.le_refl _, fun _ _ => rfl⟩
theorem strq_yes (a : ByteArray) : (a.toList == a.toList) = true := by simp





end Go.Proofs.Ytkmmffpipopjcaa
