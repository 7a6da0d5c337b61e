/- The contract of package inst's Encode. -/
import Derived.Test.YtejmifokceoofaaDoorJ01
import Derived.Deep.RegionWith
namespace Go.Proofs.YtejmifokceoofaaDoor
open Go.RowKit Go.Maps
set_option linter.unusedVariables false
set_option maxRecDepth 100000
set_option linter.unusedSimpArgs false

/-- Whether an immediate fits an operation's word, and the word with it. -/
def imOk (f x v : Int) : Bool := if shb x = 6 then decide (0 ≤ v) && decide (v < 64) else if shb x = 5 then decide (0 ≤ v) && decide (v < 32) else fitsOf f v
def imPut (f x v : Int) : Int := if shb x = 0 then putOf f x v else if imOk f x v = true then bits .or .u32 x (v * 1048576) else 0



/-- Whether the registers that a form has are such, and the word with them. -/
def rgOk (d a b : Bool) (r0 r1 r2 : Int) : Bool := (!d || isr r0) && (!a || isr r1) && (!b || isr r2)
def rgPut (d a b : Bool) (x r0 r1 r2 : Int) : Int :=
  let x1 := if d = true then bits .or .u32 x (r0 * 128) else x
  let x2 := if a = true then bits .or .u32 x1 (r1 * 32768) else x1
  if b = true then bits .or .u32 x2 (r2 * 1048576) else x2

end Go.Proofs.YtejmifokceoofaaDoor
