/- The contract of the document's CodeOf. -/
import Derived.Test.YtejmifokceoofaaDoorInstRefCoA
import Derived.Test.YtejmifokceoofaaDoorInstRefCoB
import Derived.Test.YtejmifokceoofaaDoorInstRefCoC
import Derived.Test.YtejmifokceoofaaDoorInstRefCoD
namespace Go.Proofs.YtejmifokceoofaaDoor
open Go.RowKit
set_option linter.unusedVariables false
set_option maxRecDepth 100000

theorem co_any {k : Nat} (hk : 1 ≤ k) (hk' : k < 63) (w : World) : Calls Tryd.prog 46 #[.int .i64 k] w fun e w' => e = .returned (.agg #[.int .u32 (co0 k), .int .u32 (co1 k), .int .u32 (co2 k)]) ∧ Below w.heap.size w w' := by
  match k, hk, hk' with
  | 1, _, _ => exact co_1 w
  | 2, _, _ => exact co_2 w
  | 3, _, _ => exact co_3 w
  | 4, _, _ => exact co_4 w
  | 5, _, _ => exact co_5 w
  | 6, _, _ => exact co_6 w
  | 7, _, _ => exact co_7 w
  | 8, _, _ => exact co_8 w
  | 9, _, _ => exact co_9 w
  | 10, _, _ => exact co_10 w
  | 11, _, _ => exact co_11 w
  | 12, _, _ => exact co_12 w
  | 13, _, _ => exact co_13 w
  | 14, _, _ => exact co_14 w
  | 15, _, _ => exact co_15 w
  | 16, _, _ => exact co_16 w
  | 17, _, _ => exact co_17 w
  | 18, _, _ => exact co_18 w
  | 19, _, _ => exact co_19 w
  | 20, _, _ => exact co_20 w
  | 21, _, _ => exact co_21 w
  | 22, _, _ => exact co_22 w
  | 23, _, _ => exact co_23 w
  | 24, _, _ => exact co_24 w
  | 25, _, _ => exact co_25 w
  | 26, _, _ => exact co_26 w
  | 27, _, _ => exact co_27 w
  | 28, _, _ => exact co_28 w
  | 29, _, _ => exact co_29 w
  | 30, _, _ => exact co_30 w
  | 31, _, _ => exact co_31 w
  | 32, _, _ => exact co_32 w
  | 33, _, _ => exact co_33 w
  | 34, _, _ => exact co_34 w
  | 35, _, _ => exact co_35 w
  | 36, _, _ => exact co_36 w
  | 37, _, _ => exact co_37 w
  | 38, _, _ => exact co_38 w
  | 39, _, _ => exact co_39 w
  | 40, _, _ => exact co_40 w
  | 41, _, _ => exact co_41 w
  | 42, _, _ => exact co_42 w
  | 43, _, _ => exact co_43 w
  | 44, _, _ => exact co_44 w
  | 45, _, _ => exact co_45 w
  | 46, _, _ => exact co_46 w
  | 47, _, _ => exact co_47 w
  | 48, _, _ => exact co_48 w
  | 49, _, _ => exact co_49 w
  | 50, _, _ => exact co_50 w
  | 51, _, _ => exact co_51 w
  | 52, _, _ => exact co_52 w
  | 53, _, _ => exact co_53 w
  | 54, _, _ => exact co_54 w
  | 55, _, _ => exact co_55 w
  | 56, _, _ => exact co_56 w
  | 57, _, _ => exact co_57 w
  | 58, _, _ => exact co_58 w
  | 59, _, _ => exact co_59 w
  | 60, _, _ => exact co_60 w
  | 61, _, _ => exact co_61 w
  | 62, _, _ => exact co_62 w
  | k + 63, _, h => exact absurd h (by omega)

end Go.Proofs.YtejmifokceoofaaDoor
