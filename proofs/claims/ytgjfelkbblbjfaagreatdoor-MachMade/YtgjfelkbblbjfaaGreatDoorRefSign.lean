/- The document's Sign at the widths of loads. -/
import Derived.Test.YtgjfelkbblbjfaaGreatDoorJ07
import Derived.Test.YtgjfelkbblbjfaaGreatDoorImmRef
namespace Go.Proofs.YtgjfelkbblbjfaaGreatDoor
open Go.RowKit
set_option linter.unusedVariables false
set_option maxRecDepth 100000

theorem signOf_8 (v : Int) : signOf v 8 = (v + 128) % 256 - 128 := by unfold signOf; rw [if_neg (by decide), show (min (8 : Int) 64).toNat = 8 by decide]; rfl
theorem signOf_16 (v : Int) : signOf v 16 = (v + 32768) % 65536 - 32768 := by unfold signOf; rw [if_neg (by decide), show (min (16 : Int) 64).toNat = 16 by decide]; rfl
theorem signOf_32 (v : Int) : signOf v 32 = (v + 2147483648) % 4294967296 - 2147483648 := by unfold signOf; rw [if_neg (by decide), show (min (32 : Int) 64).toNat = 32 by decide]; rfl
theorem signOf_64 {v : Int} (h : 0 ≤ v ∧ v ≤ 18446744073709551615) : u64 (signOf v 64) = u64 v := by
  unfold signOf
  rw [if_neg (by decide), show (min (64 : Int) 64).toNat = 64 by decide, show sgn 64 v = (v + 9223372036854775808) % 18446744073709551616 - 9223372036854775808 from rfl]
  unfold u64
  omega

end Go.Proofs.YtgjfelkbblbjfaaGreatDoor
