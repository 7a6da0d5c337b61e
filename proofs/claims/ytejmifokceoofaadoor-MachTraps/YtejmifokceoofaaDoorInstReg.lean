/- The contract of package inst's putRegisters. -/
import Derived.Test.YtejmifokceoofaaDoorInstEnc
namespace Go.Proofs.YtejmifokceoofaaDoor
open Go.RowKit Go.Maps
set_option linter.unusedVariables false
set_option maxRecDepth 100000
set_option linter.unusedSimpArgs false

theorem isr_yes {r : Int} (h : isr r = true) : 0 ≤ r ∧ r < 32 := by simpa [isr] using h
theorem rg_ret {a b : Int} {w w' : World} (h : a = b) (hb : Below w.heap.size w w') : Ending.returned (Value.tuple #[.int .u32 a, .bool true]) = .returned (.tuple #[.int .u32 b, .bool true]) ∧ Below w.heap.size w w' := by
  subst h; exact ⟨rfl, hb⟩



























end Go.Proofs.YtejmifokceoofaaDoor
