/- Contracts of package span's calls and of the document's own: each returns what the plain functions say. -/
import Derived.Test.YtmmbahblnmhhmaaSpanPlain
namespace Go.Proofs.Ytmmbahblnmhhmaa
open Go.RowKit
set_option linter.unusedVariables false

theorem log2_any (a : Int) (w : World) (h0 : 0 ≤ a) (h1 : a ≤ 18446744073709551615) :
    Calls Try.prog 47 #[.int .u64 a] w fun e w' => e = .returned (.int .i64 (lg a)) ∧ w' = w := by
  have g0 := lg_lo a
  have g1 := lg_hi h1
  go_enter Try.func47, Try.ntmps47
  go_wp2
  go_loop [0, 3] (fun b h => ∃ y : Int, 0 ≤ y ∧ y ≤ a ∧ b = .int .u64 y ∧ h = .int .i64 (lg a - lg y - 1)) (fun b _ => (intOf b).toNat)
  case atStart => exact ⟨a, h0, Int.le_refl _, rfl, by rw [Int.sub_self]; rfl⟩
  case round =>
    obtain ⟨y, y0, y1, rfl, rfl⟩ := hrel
    have f0 := lg_lo y
    have f1 := lg_hi (a := y) (by omega)
    by_cases hz : y = 0
    · subst hz
      rw [lg_zero]
      have e : lg a - (-1) - 1 = lg a := by omega
      rw [e]
      clear e
      go_wp2
      go_ret
      exact ⟨rfl, rfl⟩
    · have HL := hide (lg_half (a := y) (by omega))
      go_wp2
      go_round
      case rel => exact ⟨y / 2, by omega, by omega, by go_num, by rw [HL.out]; go_num⟩
      case measure => simp [intOf]; omega



theorem pow2_any (a : Int) (w : World) (h0 : 0 ≤ a) (h1 : a ≤ 18446744073709551615) :
    Calls Try.prog 45 #[.int .u64 a] w fun e w' => e = .returned (.bool (isPow a)) ∧ w' = w := by
  by_cases hz : a = 0
  · subst hz
    have e : isPow 0 = false := by decide
    rw [e]
    go_enter Try.func45, Try.ntmps45
    go_wp2
    go_ret
    exact ⟨rfl, rfl⟩
  · have g0 := lg_nonneg (a := a) (by omega)
    have g1 := lg_hi h1
    have p0 := pow_lg_le (a := a) (by omega)
    have p1 : (0 : Int) < 2 ^ (lg a).toNat := Int.pow_pos (by decide)
    have hc := log2_any a w h0 h1
    go_enter Try.func45, Try.ntmps45
    go_wp2_with (go_at_call 47; refine hc.mono ?_; rintro e w' ⟨rfl, rfl⟩)
    go_ret
    refine ⟨ret_bool ?_, rfl⟩
    unfold isPow
    rw [Bool.eq_iff_iff]
    simp only [Bool.and_eq_true, bne_iff_ne, ne_eq, beq_iff_eq, decide_eq_true_eq]
    omega

theorem rpow2_any (a : Int) (w : World) (h0 : 0 ≤ a) (h1 : a ≤ 18446744073709551615) :
    Calls Try.prog 26 #[.int .u64 a] w fun e w' => e = .returned (.bool (isPow a)) ∧ w' = w := by
  by_cases hz : a = 0
  · subst hz
    have e : isPow 0 = false := by decide
    rw [e]
    go_enter Try.func26, Try.ntmps26
    go_wp2
    go_ret
    exact ⟨rfl, rfl⟩
  · have H := hide (and_pred (a := a) (by omega) h1)
    go_enter Try.func26, Try.ntmps26
    go_wp2
    go_ret
    refine ⟨ret_bool ?_, rfl⟩
    rw [← H.out]
    simp [hz]

theorem ret_sum {l : List Int} (h : l.sum ≤ 18446744073709551615) : Ending.returned (.tuple #[.int .u64 l.sum, .bool true]) = .returned (.tuple #[.int .u64 (sumOf l), .bool (sumOk l)]) := by
  unfold sumOf sumOk; rw [if_pos h, decide_eq_true h]
theorem ret_none {l : List Int} (h : ¬ l.sum ≤ 18446744073709551615) : Ending.returned (.tuple #[.int .u64 0, .bool false]) = .returned (.tuple #[.int .u64 (sumOf l), .bool (sumOk l)]) := by
  unfold sumOf sumOk; rw [if_neg h, decide_eq_false h]





theorem within_any (a n c : Int) (w : World) (a0 : 0 ≤ a) (a1 : a ≤ 18446744073709551615) (n0 : 0 ≤ n) (n1 : n ≤ 18446744073709551615) (c0 : 0 ≤ c) (c1 : c ≤ 18446744073709551615) :
    Calls Try.prog 33 #[.int .u64 a, .int .u64 n, .int .u64 c] w fun e w' => e = .returned (.bool (withinOf a n c)) ∧ w' = w := by
  by_cases h : a ≤ c
  · go_enter Try.func33, Try.ntmps33
    go_wp2
    go_ret
    exact ⟨ret_bool (by unfold withinOf; rw [Bool.eq_iff_iff]; simp; omega), rfl⟩
  · go_enter Try.func33, Try.ntmps33
    go_wp2
    go_ret
    exact ⟨ret_bool (by unfold withinOf; rw [Bool.eq_iff_iff]; simp; omega), rfl⟩

theorem rwithin_any (a n c : Int) (w : World) (a0 : 0 ≤ a) (a1 : a ≤ 18446744073709551615) (n0 : 0 ≤ n) (n1 : n ≤ 18446744073709551615) (c0 : 0 ≤ c) (c1 : c ≤ 18446744073709551615) :
    Calls Try.prog 23 #[.int .u64 a, .int .u64 n, .int .u64 c] w fun e w' => e = .returned (.bool (withinOf a n c)) ∧ w' = w := by
  by_cases h : a ≤ c
  · go_enter Try.func23, Try.ntmps23
    go_wp2
    go_ret
    exact ⟨ret_bool (by unfold withinOf; rw [Bool.eq_iff_iff]; simp; omega), rfl⟩
  · go_enter Try.func23, Try.ntmps23
    go_wp2
    go_ret
    exact ⟨ret_bool (by unfold withinOf; rw [Bool.eq_iff_iff]; simp; omega), rfl⟩





end Go.Proofs.Ytmmbahblnmhhmaa
