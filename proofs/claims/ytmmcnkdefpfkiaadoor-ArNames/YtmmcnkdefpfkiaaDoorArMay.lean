/- Names that may be: the law's may. -/
import Derived.Test.YtmmcnkdefpfkiaaDoorArSame
namespace Go.Proofs.YtmmcnkdefpfkiaaDoor
open Go.RowKit Go.Maps
set_option linter.unusedVariables false
set_option maxRecDepth 100000
set_option maxRecDepth 20000
set_option linter.unusedSimpArgs false

theorem byte_same (c n : UInt8) : ((c.toNat : Int) == (n.toNat : Int)) = decide (c = n) := by
  by_cases h : c = n
  · simp [h]
  · rw [decide_eq_false h]
    have : c.toNat ≠ n.toNat := fun e => h (UInt8.toNat_inj.1 e)
    simp
    omega
theorem strAtM (l : T8) (j : Nat) (h : j < (str l).size) (h2 : j < l.length) : (str l)[j] = l[j] := rfl
def okm (m : Mb) : Bool := okN m.n



end Go.Proofs.YtmmcnkdefpfkiaaDoor
