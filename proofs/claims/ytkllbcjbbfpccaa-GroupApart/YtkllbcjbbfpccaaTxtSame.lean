/- Contracts of the helps Strings (where both sides are the same) and Place. -/
import Derived.Test.YtkllbcjbbfpccaaTxtRow
import Derived.Deep.QuietTactic
import Derived.BigQuiet
import Derived.Deep.DeepCutAuto
namespace Go.Proofs.Ytkllbcjbbfpccaa
open Go.RowKit
set_option linter.unusedVariables false
set_option linter.unusedSimpArgs false

theorem bel_drewS (w : World) (n : Nat) : Below w.heap.size w (w.drewN n) := ⟨rfl, rfl, rfl, Nat.le_refl _, fun _ _ => rfl⟩
theorem strq_yes (a : ByteArray) : (a.toList == a.toList) = true := by simp



theorem place11_any (k n : Int) (hk : -9223372036854775808 ≤ k ∧ k ≤ 9223372036854775807) (hn : 1 ≤ n ∧ n ≤ 1000000) :
    ∃ z, (0 ≤ z ∧ z < n) ∧ ∀ w, Calls Try.prog 15 #[.int .i64 k, .int .i64 n] w fun e w' => e = .returned (.int .i64 z) ∧ w' = w := by
  have hb : -n < k.tmod n ∧ k.tmod n < n := ⟨by have e := Int.neg_tmod k n; have h2 := Int.tmod_lt_of_pos (-k) (show 0 < n by omega); omega, Int.tmod_lt_of_pos k (by omega)⟩
  obtain ⟨r, hr⟩ : ∃ r, k.tmod n = r := ⟨_, rfl⟩
  rw [hr] at hb
  have hk1 := hk.1
  have hk2 := hk.2
  have hn0 : ¬ n = 0 := by omega
  have hn1 := hn.1
  have hn2 := hn.2
  by_cases h0 : r < 0
  · refine ⟨r + n, by omega, fun w => ?_⟩
    go_enter Try.func15, Try.ntmps15
    go_wp2
    go_ret
    exact ⟨rfl, rfl⟩
  · refine ⟨r, by omega, fun w => ?_⟩
    have h0' : 0 ≤ r := by omega
    go_enter Try.func15, Try.ntmps15
    go_wp2
    go_ret
    exact ⟨rfl, rfl⟩

end Go.Proofs.Ytkllbcjbbfpccaa
