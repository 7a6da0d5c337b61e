/- The contract of package inst's Encode. -/
import Derived.Test.YtejmifokceoofaaDoorInstReg
namespace Go.Proofs.YtejmifokceoofaaDoor
open Go.RowKit Go.Maps
set_option linter.unusedVariables false
set_option maxRecDepth 100000
set_option linter.unusedSimpArgs false











end Go.Proofs.YtejmifokceoofaaDoor
