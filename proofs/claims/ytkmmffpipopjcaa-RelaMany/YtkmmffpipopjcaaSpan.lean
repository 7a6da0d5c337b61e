/- Contracts of package span's calls and of the document's own: each returns what the plain functions say. -/
import Derived.Test.YtkmmffpipopjcaaSpanPlain
namespace Go.Proofs.Ytkmmffpipopjcaa
open Go.RowKit
set_option linter.unusedVariables false









theorem ret_sum {l : List Int} (h : l.sum ≤ 18446744073709551615) : Ending.returned (.tuple #[.int .u64 l.sum, .bool true]) = .returned (.tuple #[.int .u64 (sumOf l), .bool (sumOk l)]) := by
  unfold sumOf sumOk; rw [if_pos h, decide_eq_true h]
theorem ret_none {l : List Int} (h : ¬ l.sum ≤ 18446744073709551615) : Ending.returned (.tuple #[.int .u64 0, .bool false]) = .returned (.tuple #[.int .u64 (sumOf l), .bool (sumOk l)]) := by
  unfold sumOf sumOk; rw [if_neg h, decide_eq_false h]





theorem within_any (a n c : Int) (w : World) (a0 : 0 ≤ a) (a1 : a ≤ 18446744073709551615) (n0 : 0 ≤ n) (n1 : n ≤ 18446744073709551615) (c0 : 0 ≤ c) (c1 : c ≤ 18446744073709551615) :
    Calls Try.prog 26 #[.int .u64 a, .int .u64 n, .int .u64 c] w fun e w' => e = .returned (.bool (withinOf a n c)) ∧ w' = w := by
  by_cases h : a ≤ c
  · go_enter Try.func26, Try.ntmps26
    go_wp2
    go_ret
    exact ⟨ret_bool (by unfold withinOf; rw [Bool.eq_iff_iff]; simp; omega), rfl⟩
  · go_enter Try.func26, Try.ntmps26
    go_wp2
    go_ret
    exact ⟨ret_bool (by unfold withinOf; rw [Bool.eq_iff_iff]; simp; omega), rfl⟩

theorem rwithin_any (a n c : Int) (w : World) (a0 : 0 ≤ a) (a1 : a ≤ 18446744073709551615) (n0 : 0 ≤ n) (n1 : n ≤ 18446744073709551615) (c0 : 0 ≤ c) (c1 : c ≤ 18446744073709551615) :
    Calls Try.prog 22 #[.int .u64 a, .int .u64 n, .int .u64 c] w fun e w' => e = .returned (.bool (withinOf a n c)) ∧ w' = w := by
  by_cases h : a ≤ c
  · go_enter Try.func22, Try.ntmps22
    go_wp2
    go_ret
    exact ⟨ret_bool (by unfold withinOf; rw [Bool.eq_iff_iff]; simp; omega), rfl⟩
  · go_enter Try.func22, Try.ntmps22
    go_wp2
    go_ret
    exact ⟨ret_bool (by unfold withinOf; rw [Bool.eq_iff_iff]; simp; omega), rfl⟩





end Go.Proofs.Ytkmmffpipopjcaa
