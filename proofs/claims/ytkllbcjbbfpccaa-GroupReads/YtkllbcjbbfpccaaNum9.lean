/- The contract of the document's num. -/
import Derived.Test.YtkllbcjbbfpccaaRead
namespace Go.Proofs.Ytkllbcjbbfpccaa
open Go.RowKit
set_option linter.unusedVariables false
set_option linter.unusedSimpArgs false

theorem num9_any (a : Option Addr) (len cap : Nat) (bs : List Int) (off : Int) (n : Nat) (w : World) (r : Rd w a len cap bs) (ho : 0 ≤ off) (ho' : off ≤ 18446744073709551615) (hn : 1 ≤ n) (h8 : n ≤ 8) :
    Calls Try.prog 20 #[.slice a len cap, .int .u64 off, .int .i64 n] w fun e w' => e = .returned (.int .u64 (got bs off n)) ∧ w' = w := by
  have hc := num_any a len cap bs off n w r ho ho' hn h8
  generalize got bs off n = g at *
  generalize has bs off n = t at *
  go_enter Try.func20, Try.ntmps20
  go_wp2_with (go_at_call 24; refine hc.mono ?_; rintro e w' ⟨rfl, rfl⟩)
  go_ret
  exact ⟨rfl, rfl⟩

end Go.Proofs.Ytkllbcjbbfpccaa
