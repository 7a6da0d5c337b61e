/- Contracts of package mach's Alu and of what it calls: each operation makes of two numbers what aluF says. -/
import Derived.Test.YtgjfelkbblbjfaaGreatDoorJ07
import Derived.Test.YtgjfelkbblbjfaaGreatDoorShelf
namespace Go.Proofs.YtgjfelkbblbjfaaGreatDoor
open Go.RowKit
set_option linter.unusedVariables false
set_option maxRecDepth 100000
set_option linter.unusedSimpArgs false

theorem truth_any (b : Bool) (w : World) : Calls Tryz.prog 46 #[.bool b] w fun e w' => e = .returned (.int .u64 (if b = true then 1 else 0)) ∧ w' = w := by
  cases b
  · go_enter Tryz.func46, Tryz.ntmps46
    go_wp2
    go_ret
    exact ⟨rfl, rfl⟩
  · go_enter Tryz.func46, Tryz.ntmps46
    go_wp2
    go_ret
    exact ⟨rfl, rfl⟩

theorem ext_any (a : Int) (w : World) : Calls Tryz.prog 52 #[.int .u32 a] w fun e w' => e = .returned (.int .u64 (sx a)) ∧ w' = w := by
  go_enter Tryz.func52, Tryz.ntmps52
  go_wp2
  go_ret
  refine ⟨ret_int ?_, rfl⟩
  first | rfl | (simp only [aluF, wrap_u64, wrap_u32, wrap_s64, wrap_s32, wrap64_is, wrap32_is, sx_def]; done) | (simp only [aluF, wrap_u64, wrap_u32, wrap_s64, wrap_s32, wrap64_is, wrap32_is, sx_def]; rfl) | (rw [HK.out]; rfl)

theorem quo_i64 (a b : Int) (w : World) (a0 : -9223372036854775808 ≤ a) (a1 : a ≤ 9223372036854775807) (b0 : -9223372036854775808 ≤ b) (b1 : b ≤ 9223372036854775807) :
    Calls Tryz.prog 48 #[.int .i64 a, .int .i64 b] w fun e w' => e = .returned (.int .i64 (if b = 0 then -1 else s64 (a.tdiv b))) ∧ w' = w := by
  by_cases hb : b = 0
  · rw [if_pos hb]
    subst hb
    go_enter Tryz.func48, Tryz.ntmps48
    go_wp2
    all_goals go_ret
    all_goals exact ⟨ret_int (by decide), rfl⟩
  · rw [if_neg hb]
    have hb' : (b == 0) = false := by simpa using hb
    go_enter Tryz.func48, Tryz.ntmps48
    go_wp2
    go_ret
    exact ⟨ret_int (by simp only [wrap64_is, wrap32_is]), rfl⟩

theorem rst_i64 (a b : Int) (w : World) (a0 : -9223372036854775808 ≤ a) (a1 : a ≤ 9223372036854775807) (b0 : -9223372036854775808 ≤ b) (b1 : b ≤ 9223372036854775807) :
    Calls Tryz.prog 50 #[.int .i64 a, .int .i64 b] w fun e w' => e = .returned (.int .i64 (if b = 0 then a else a.tmod b)) ∧ w' = w := by
  by_cases hb : b = 0
  · rw [if_pos hb]
    subst hb
    go_enter Tryz.func50, Tryz.ntmps50
    go_wp2
    all_goals go_ret
    all_goals exact ⟨rfl, rfl⟩
  · rw [if_neg hb]
    have hb' : (b == 0) = false := by simpa using hb
    go_enter Tryz.func50, Tryz.ntmps50
    go_wp2
    go_ret
    exact ⟨rfl, rfl⟩

theorem quo_u64 (a b : Int) (w : World) (a0 : 0 ≤ a) (a1 : a ≤ 18446744073709551615) (b0 : 0 ≤ b) (b1 : b ≤ 18446744073709551615) :
    Calls Tryz.prog 49 #[.int .u64 a, .int .u64 b] w fun e w' => e = .returned (.int .u64 (if b = 0 then 18446744073709551615 else a / b)) ∧ w' = w := by
  by_cases hb : b = 0
  · rw [if_pos hb]
    subst hb
    go_enter Tryz.func49, Tryz.ntmps49
    go_wp2
    all_goals go_ret
    all_goals exact ⟨ret_int (by decide), rfl⟩
  · rw [if_neg hb]
    have hb' : (b == 0) = false := by simpa using hb
    go_enter Tryz.func49, Tryz.ntmps49
    go_wp2
    go_ret
    exact ⟨rfl, rfl⟩

theorem rst_u64 (a b : Int) (w : World) (a0 : 0 ≤ a) (a1 : a ≤ 18446744073709551615) (b0 : 0 ≤ b) (b1 : b ≤ 18446744073709551615) :
    Calls Tryz.prog 51 #[.int .u64 a, .int .u64 b] w fun e w' => e = .returned (.int .u64 (if b = 0 then a else a % b)) ∧ w' = w := by
  by_cases hb : b = 0
  · rw [if_pos hb]
    subst hb
    go_enter Tryz.func51, Tryz.ntmps51
    go_wp2
    all_goals go_ret
    all_goals exact ⟨rfl, rfl⟩
  · rw [if_neg hb]
    have hb' : (b == 0) = false := by simpa using hb
    go_enter Tryz.func51, Tryz.ntmps51
    go_wp2
    go_ret
    exact ⟨rfl, rfl⟩

theorem quo_i32 (a b : Int) (w : World) (a0 : -2147483648 ≤ a) (a1 : a ≤ 2147483647) (b0 : -2147483648 ≤ b) (b1 : b ≤ 2147483647) :
    Calls Tryz.prog 70 #[.int .i32 a, .int .i32 b] w fun e w' => e = .returned (.int .i32 (if b = 0 then -1 else s32 (a.tdiv b))) ∧ w' = w := by
  by_cases hb : b = 0
  · rw [if_pos hb]
    subst hb
    go_enter Tryz.func70, Tryz.ntmps70
    go_wp2
    all_goals go_ret
    all_goals exact ⟨ret_int (by decide), rfl⟩
  · rw [if_neg hb]
    have hb' : (b == 0) = false := by simpa using hb
    go_enter Tryz.func70, Tryz.ntmps70
    go_wp2
    go_ret
    exact ⟨ret_int (by simp only [wrap64_is, wrap32_is]), rfl⟩

theorem rst_i32 (a b : Int) (w : World) (a0 : -2147483648 ≤ a) (a1 : a ≤ 2147483647) (b0 : -2147483648 ≤ b) (b1 : b ≤ 2147483647) :
    Calls Tryz.prog 72 #[.int .i32 a, .int .i32 b] w fun e w' => e = .returned (.int .i32 (if b = 0 then a else a.tmod b)) ∧ w' = w := by
  by_cases hb : b = 0
  · rw [if_pos hb]
    subst hb
    go_enter Tryz.func72, Tryz.ntmps72
    go_wp2
    all_goals go_ret
    all_goals exact ⟨rfl, rfl⟩
  · rw [if_neg hb]
    have hb' : (b == 0) = false := by simpa using hb
    go_enter Tryz.func72, Tryz.ntmps72
    go_wp2
    go_ret
    exact ⟨rfl, rfl⟩

theorem quo_u32 (a b : Int) (w : World) (a0 : 0 ≤ a) (a1 : a ≤ 4294967295) (b0 : 0 ≤ b) (b1 : b ≤ 4294967295) :
    Calls Tryz.prog 71 #[.int .u32 a, .int .u32 b] w fun e w' => e = .returned (.int .u32 (if b = 0 then 4294967295 else a / b)) ∧ w' = w := by
  by_cases hb : b = 0
  · rw [if_pos hb]
    subst hb
    go_enter Tryz.func71, Tryz.ntmps71
    go_wp2
    all_goals go_ret
    all_goals exact ⟨ret_int (by decide), rfl⟩
  · rw [if_neg hb]
    have hb' : (b == 0) = false := by simpa using hb
    go_enter Tryz.func71, Tryz.ntmps71
    go_wp2
    go_ret
    exact ⟨rfl, rfl⟩

theorem rst_u32 (a b : Int) (w : World) (a0 : 0 ≤ a) (a1 : a ≤ 4294967295) (b0 : 0 ≤ b) (b1 : b ≤ 4294967295) :
    Calls Tryz.prog 73 #[.int .u32 a, .int .u32 b] w fun e w' => e = .returned (.int .u32 (if b = 0 then a else a % b)) ∧ w' = w := by
  by_cases hb : b = 0
  · rw [if_pos hb]
    subst hb
    go_enter Tryz.func73, Tryz.ntmps73
    go_wp2
    all_goals go_ret
    all_goals exact ⟨rfl, rfl⟩
  · rw [if_neg hb]
    have hb' : (b == 0) = false := by simpa using hb
    go_enter Tryz.func73, Tryz.ntmps73
    go_wp2
    go_ret
    exact ⟨rfl, rfl⟩

theorem prod_50 (a b : Int) (w : World) (a0 : 0 ≤ a) (a1 : a ≤ 18446744073709551615) (b0 : 0 ≤ b) (b1 : b ≤ 18446744073709551615) :
    Calls Tryz.prog 47 #[.int .i64 50, .int .u64 a, .int .u64 b] w fun e w' => e = .returned (.int .u64 (aluF 50 a b)) ∧ w' = w := by
  obtain ⟨x, rfl⟩ := Int.eq_ofNat_of_zero_le a0
  obtain ⟨y, rfl⟩ := Int.eq_ofNat_of_zero_le b0
  have HM := hide (Tryz.bits_Mul64 x y (by omega) (by omega) w)
  obtain ⟨h, hh⟩ : ∃ h : Nat, x * y / 18446744073709551616 = h := ⟨_, rfl⟩
  obtain ⟨l, hl⟩ : ∃ l : Nat, x * y % 18446744073709551616 = l := ⟨_, rfl⟩
  have eh : (x : Int) * (y : Int) / 18446744073709551616 = (h : Int) := by rw [← hh, ← Int.natCast_mul]; simp
  have el : u64 ((x : Int) * (y : Int)) = (l : Int) := by unfold u64; rw [← hl, ← Int.natCast_mul]; simp
  have hb : h ≤ 18446744073709551615 := by rw [← hh]; exact hi_bd (by omega) (by omega)
  have hlb : l ≤ 18446744073709551615 := by rw [← hl]; omega
  rw [hh, hl] at HM
  have EH := hide eh
  have EL := hide el
  clear eh el hh hl
  all_goals go_enter Tryz.func47, Tryz.ntmps47
  all_goals go_wp2_with fail
  all_goals refine HM.out.mono ?_
  all_goals rintro e w' ⟨rfl, rfl⟩
  all_goals go_wp2
  all_goals go_ret
  all_goals refine ⟨ret_int ?_, rfl⟩
  all_goals simp only [aluF, wrap_u64, wrap_u32, wrap_s64, wrap_s32, wrap64_is, wrap32_is, sx_def, EL.out]

theorem prod_51 (a b : Int) (w : World) (a0 : 0 ≤ a) (a1 : a ≤ 18446744073709551615) (b0 : 0 ≤ b) (b1 : b ≤ 18446744073709551615) :
    Calls Tryz.prog 47 #[.int .i64 51, .int .u64 a, .int .u64 b] w fun e w' => e = .returned (.int .u64 (aluF 51 a b)) ∧ w' = w := by
  obtain ⟨x, rfl⟩ := Int.eq_ofNat_of_zero_le a0
  obtain ⟨y, rfl⟩ := Int.eq_ofNat_of_zero_le b0
  have HM := hide (Tryz.bits_Mul64 x y (by omega) (by omega) w)
  obtain ⟨h, hh⟩ : ∃ h : Nat, x * y / 18446744073709551616 = h := ⟨_, rfl⟩
  obtain ⟨l, hl⟩ : ∃ l : Nat, x * y % 18446744073709551616 = l := ⟨_, rfl⟩
  have eh : (x : Int) * (y : Int) / 18446744073709551616 = (h : Int) := by rw [← hh, ← Int.natCast_mul]; simp
  have el : u64 ((x : Int) * (y : Int)) = (l : Int) := by unfold u64; rw [← hl, ← Int.natCast_mul]; simp
  have hb : h ≤ 18446744073709551615 := by rw [← hh]; exact hi_bd (by omega) (by omega)
  have hlb : l ≤ 18446744073709551615 := by rw [← hl]; omega
  rw [hh, hl] at HM
  have EH := hide eh
  have EL := hide el
  clear eh el hh hl
  have hsa : (decide (wrap64 (x : Int) < 0) = true ∧ s64 x < 0) ∨ (decide (wrap64 (x : Int) < 0) = false ∧ ¬ s64 x < 0) := by
    rw [wrap64_is]; by_cases h : s64 x < 0 <;> simp [h]
  have hsb : (decide (wrap64 (y : Int) < 0) = true ∧ s64 y < 0) ∨ (decide (wrap64 (y : Int) < 0) = false ∧ ¬ s64 y < 0) := by
    rw [wrap64_is]; by_cases h : s64 y < 0 <;> simp [h]
  rcases hsa with ⟨ta, na⟩ | ⟨ta, na⟩ <;> rcases hsb with ⟨tb, nb⟩ | ⟨tb, nb⟩
  all_goals have NA := hide na
  all_goals clear na
  all_goals have NB := hide nb
  all_goals clear nb
  all_goals go_enter Tryz.func47, Tryz.ntmps47
  all_goals go_wp2_with fail
  all_goals refine HM.out.mono ?_
  all_goals rintro e w' ⟨rfl, rfl⟩
  all_goals go_wp2
  all_goals go_ret
  all_goals refine ⟨ret_int ?_, rfl⟩
  all_goals simp only [aluF, wrap_u64, wrap_u32, wrap_s64, wrap_s32, wrap64_is, wrap32_is, sx_def, EH.out]
  all_goals have na := NA.out
  all_goals have nb := NB.out
  all_goals repeat' split
  all_goals unfold u64
  all_goals omega

theorem prod_52 (a b : Int) (w : World) (a0 : 0 ≤ a) (a1 : a ≤ 18446744073709551615) (b0 : 0 ≤ b) (b1 : b ≤ 18446744073709551615) :
    Calls Tryz.prog 47 #[.int .i64 52, .int .u64 a, .int .u64 b] w fun e w' => e = .returned (.int .u64 (aluF 52 a b)) ∧ w' = w := by
  obtain ⟨x, rfl⟩ := Int.eq_ofNat_of_zero_le a0
  obtain ⟨y, rfl⟩ := Int.eq_ofNat_of_zero_le b0
  have HM := hide (Tryz.bits_Mul64 x y (by omega) (by omega) w)
  obtain ⟨h, hh⟩ : ∃ h : Nat, x * y / 18446744073709551616 = h := ⟨_, rfl⟩
  obtain ⟨l, hl⟩ : ∃ l : Nat, x * y % 18446744073709551616 = l := ⟨_, rfl⟩
  have eh : (x : Int) * (y : Int) / 18446744073709551616 = (h : Int) := by rw [← hh, ← Int.natCast_mul]; simp
  have el : u64 ((x : Int) * (y : Int)) = (l : Int) := by unfold u64; rw [← hl, ← Int.natCast_mul]; simp
  have hb : h ≤ 18446744073709551615 := by rw [← hh]; exact hi_bd (by omega) (by omega)
  have hlb : l ≤ 18446744073709551615 := by rw [← hl]; omega
  rw [hh, hl] at HM
  have EH := hide eh
  have EL := hide el
  clear eh el hh hl
  have hsa : (decide (wrap64 (x : Int) < 0) = true ∧ s64 x < 0) ∨ (decide (wrap64 (x : Int) < 0) = false ∧ ¬ s64 x < 0) := by
    rw [wrap64_is]; by_cases h : s64 x < 0 <;> simp [h]
  rcases hsa with ⟨ta, na⟩ | ⟨ta, na⟩
  all_goals have NA := hide na
  all_goals clear na
  all_goals go_enter Tryz.func47, Tryz.ntmps47
  all_goals go_wp2_with fail
  all_goals refine HM.out.mono ?_
  all_goals rintro e w' ⟨rfl, rfl⟩
  all_goals go_wp2
  all_goals go_ret
  all_goals refine ⟨ret_int ?_, rfl⟩
  all_goals simp only [aluF, wrap_u64, wrap_u32, wrap_s64, wrap_s32, wrap64_is, wrap32_is, sx_def, EH.out]
  all_goals have na := NA.out
  all_goals repeat' split
  all_goals unfold u64
  all_goals omega

theorem prod_53 (a b : Int) (w : World) (a0 : 0 ≤ a) (a1 : a ≤ 18446744073709551615) (b0 : 0 ≤ b) (b1 : b ≤ 18446744073709551615) :
    Calls Tryz.prog 47 #[.int .i64 53, .int .u64 a, .int .u64 b] w fun e w' => e = .returned (.int .u64 (aluF 53 a b)) ∧ w' = w := by
  obtain ⟨x, rfl⟩ := Int.eq_ofNat_of_zero_le a0
  obtain ⟨y, rfl⟩ := Int.eq_ofNat_of_zero_le b0
  have HM := hide (Tryz.bits_Mul64 x y (by omega) (by omega) w)
  obtain ⟨h, hh⟩ : ∃ h : Nat, x * y / 18446744073709551616 = h := ⟨_, rfl⟩
  obtain ⟨l, hl⟩ : ∃ l : Nat, x * y % 18446744073709551616 = l := ⟨_, rfl⟩
  have eh : (x : Int) * (y : Int) / 18446744073709551616 = (h : Int) := by rw [← hh, ← Int.natCast_mul]; simp
  have el : u64 ((x : Int) * (y : Int)) = (l : Int) := by unfold u64; rw [← hl, ← Int.natCast_mul]; simp
  have hb : h ≤ 18446744073709551615 := by rw [← hh]; exact hi_bd (by omega) (by omega)
  have hlb : l ≤ 18446744073709551615 := by rw [← hl]; omega
  rw [hh, hl] at HM
  have EH := hide eh
  have EL := hide el
  clear eh el hh hl
  all_goals go_enter Tryz.func47, Tryz.ntmps47
  all_goals go_wp2_with fail
  all_goals refine HM.out.mono ?_
  all_goals rintro e w' ⟨rfl, rfl⟩
  all_goals go_wp2
  all_goals go_ret
  all_goals refine ⟨ret_int ?_, rfl⟩
  all_goals simp only [aluF, wrap_u64, wrap_u32, wrap_s64, wrap_s32, wrap64_is, wrap32_is, sx_def, EH.out]

theorem alu_22 (a b : Int) (w : World) (a0 : 0 ≤ a) (a1 : a ≤ 18446744073709551615) (b0 : 0 ≤ b) (b1 : b ≤ 18446744073709551615) :
    Calls Tryz.prog 27 #[.int .i64 22, .int .u64 a, .int .u64 b] w fun e w' => e = .returned (.int .u64 (aluF 22 a b)) ∧ w' = w := by
  go_enter Tryz.func27, Tryz.ntmps27
  go_wp2
  go_ret
  refine ⟨ret_int ?_, rfl⟩
  first | rfl | (simp only [aluF, wrap_u64, wrap_u32, wrap_s64, wrap_s32, wrap64_is, wrap32_is, sx_def]; done) | (simp only [aluF, wrap_u64, wrap_u32, wrap_s64, wrap_s32, wrap64_is, wrap32_is, sx_def]; rfl) | (rw [HK.out]; rfl)

theorem alu_31 (a b : Int) (w : World) (a0 : 0 ≤ a) (a1 : a ≤ 18446744073709551615) (b0 : 0 ≤ b) (b1 : b ≤ 18446744073709551615) :
    Calls Tryz.prog 27 #[.int .i64 31, .int .u64 a, .int .u64 b] w fun e w' => e = .returned (.int .u64 (aluF 31 a b)) ∧ w' = w := by
  go_enter Tryz.func27, Tryz.ntmps27
  go_wp2
  go_ret
  refine ⟨ret_int ?_, rfl⟩
  first | rfl | (simp only [aluF, wrap_u64, wrap_u32, wrap_s64, wrap_s32, wrap64_is, wrap32_is, sx_def]; done) | (simp only [aluF, wrap_u64, wrap_u32, wrap_s64, wrap_s32, wrap64_is, wrap32_is, sx_def]; rfl) | (rw [HK.out]; rfl)

theorem alu_32 (a b : Int) (w : World) (a0 : 0 ≤ a) (a1 : a ≤ 18446744073709551615) (b0 : 0 ≤ b) (b1 : b ≤ 18446744073709551615) :
    Calls Tryz.prog 27 #[.int .i64 32, .int .u64 a, .int .u64 b] w fun e w' => e = .returned (.int .u64 (aluF 32 a b)) ∧ w' = w := by
  go_enter Tryz.func27, Tryz.ntmps27
  go_wp2
  go_ret
  refine ⟨ret_int ?_, rfl⟩
  first | rfl | (simp only [aluF, wrap_u64, wrap_u32, wrap_s64, wrap_s32, wrap64_is, wrap32_is, sx_def]; done) | (simp only [aluF, wrap_u64, wrap_u32, wrap_s64, wrap_s32, wrap64_is, wrap32_is, sx_def]; rfl) | (rw [HK.out]; rfl)

theorem alu_25 (a b : Int) (w : World) (a0 : 0 ≤ a) (a1 : a ≤ 18446744073709551615) (b0 : 0 ≤ b) (b1 : b ≤ 18446744073709551615) :
    Calls Tryz.prog 27 #[.int .i64 25, .int .u64 a, .int .u64 b] w fun e w' => e = .returned (.int .u64 (aluF 25 a b)) ∧ w' = w := by
  go_enter Tryz.func27, Tryz.ntmps27
  go_wp2
  go_ret
  exact ⟨rfl, rfl⟩

theorem alu_36 (a b : Int) (w : World) (a0 : 0 ≤ a) (a1 : a ≤ 18446744073709551615) (b0 : 0 ≤ b) (b1 : b ≤ 18446744073709551615) :
    Calls Tryz.prog 27 #[.int .i64 36, .int .u64 a, .int .u64 b] w fun e w' => e = .returned (.int .u64 (aluF 36 a b)) ∧ w' = w := by
  go_enter Tryz.func27, Tryz.ntmps27
  go_wp2
  go_ret
  exact ⟨rfl, rfl⟩

theorem alu_26 (a b : Int) (w : World) (a0 : 0 ≤ a) (a1 : a ≤ 18446744073709551615) (b0 : 0 ≤ b) (b1 : b ≤ 18446744073709551615) :
    Calls Tryz.prog 27 #[.int .i64 26, .int .u64 a, .int .u64 b] w fun e w' => e = .returned (.int .u64 (aluF 26 a b)) ∧ w' = w := by
  go_enter Tryz.func27, Tryz.ntmps27
  go_wp2
  go_ret
  exact ⟨rfl, rfl⟩

theorem alu_39 (a b : Int) (w : World) (a0 : 0 ≤ a) (a1 : a ≤ 18446744073709551615) (b0 : 0 ≤ b) (b1 : b ≤ 18446744073709551615) :
    Calls Tryz.prog 27 #[.int .i64 39, .int .u64 a, .int .u64 b] w fun e w' => e = .returned (.int .u64 (aluF 39 a b)) ∧ w' = w := by
  go_enter Tryz.func27, Tryz.ntmps27
  go_wp2
  go_ret
  exact ⟨rfl, rfl⟩

theorem alu_27 (a b : Int) (w : World) (a0 : 0 ≤ a) (a1 : a ≤ 18446744073709551615) (b0 : 0 ≤ b) (b1 : b ≤ 18446744073709551615) :
    Calls Tryz.prog 27 #[.int .i64 27, .int .u64 a, .int .u64 b] w fun e w' => e = .returned (.int .u64 (aluF 27 a b)) ∧ w' = w := by
  go_enter Tryz.func27, Tryz.ntmps27
  go_wp2
  go_ret
  exact ⟨rfl, rfl⟩

theorem alu_40 (a b : Int) (w : World) (a0 : 0 ≤ a) (a1 : a ≤ 18446744073709551615) (b0 : 0 ≤ b) (b1 : b ≤ 18446744073709551615) :
    Calls Tryz.prog 27 #[.int .i64 40, .int .u64 a, .int .u64 b] w fun e w' => e = .returned (.int .u64 (aluF 40 a b)) ∧ w' = w := by
  go_enter Tryz.func27, Tryz.ntmps27
  go_wp2
  go_ret
  exact ⟨rfl, rfl⟩

theorem alu_23 (a b : Int) (w : World) (a0 : 0 ≤ a) (a1 : a ≤ 18446744073709551615) (b0 : 0 ≤ b) (b1 : b ≤ 18446744073709551615) :
    Calls Tryz.prog 27 #[.int .i64 23, .int .u64 a, .int .u64 b] w fun e w' => e = .returned (.int .u64 (aluF 23 a b)) ∧ w' = w := by
  obtain ⟨t, ht⟩ : ∃ t : Bool, decide (wrap64 a < wrap64 b) = t := ⟨_, rfl⟩
  have HT := hide (truth_any t w)
  have hv : (if t = true then (1 : Int) else 0) = aluF 23 a b := by
    simp only [aluF, ← ht, decide_eq_true_eq, wrap64_is]
  have HV := hide hv
  clear hv
  generalize (if t = true then (1 : Int) else 0) = v at *
  go_enter Tryz.func27, Tryz.ntmps27
  go_wp2_with fail
  refine HT.out.mono ?_
  rintro e w' ⟨rfl, rfl⟩
  go_wp2
  go_ret
  exact ⟨ret_int HV.out, rfl⟩

theorem alu_34 (a b : Int) (w : World) (a0 : 0 ≤ a) (a1 : a ≤ 18446744073709551615) (b0 : 0 ≤ b) (b1 : b ≤ 18446744073709551615) :
    Calls Tryz.prog 27 #[.int .i64 34, .int .u64 a, .int .u64 b] w fun e w' => e = .returned (.int .u64 (aluF 34 a b)) ∧ w' = w := by
  obtain ⟨t, ht⟩ : ∃ t : Bool, decide (wrap64 a < wrap64 b) = t := ⟨_, rfl⟩
  have HT := hide (truth_any t w)
  have hv : (if t = true then (1 : Int) else 0) = aluF 34 a b := by
    simp only [aluF, ← ht, decide_eq_true_eq, wrap64_is]
  have HV := hide hv
  clear hv
  generalize (if t = true then (1 : Int) else 0) = v at *
  go_enter Tryz.func27, Tryz.ntmps27
  go_wp2_with fail
  refine HT.out.mono ?_
  rintro e w' ⟨rfl, rfl⟩
  go_wp2
  go_ret
  exact ⟨ret_int HV.out, rfl⟩

theorem alu_24 (a b : Int) (w : World) (a0 : 0 ≤ a) (a1 : a ≤ 18446744073709551615) (b0 : 0 ≤ b) (b1 : b ≤ 18446744073709551615) :
    Calls Tryz.prog 27 #[.int .i64 24, .int .u64 a, .int .u64 b] w fun e w' => e = .returned (.int .u64 (aluF 24 a b)) ∧ w' = w := by
  obtain ⟨t, ht⟩ : ∃ t : Bool, decide (a < b) = t := ⟨_, rfl⟩
  have HT := hide (truth_any t w)
  have hv : (if t = true then (1 : Int) else 0) = aluF 24 a b := by
    simp only [aluF, ← ht, decide_eq_true_eq, wrap64_is]
  have HV := hide hv
  clear hv
  generalize (if t = true then (1 : Int) else 0) = v at *
  go_enter Tryz.func27, Tryz.ntmps27
  go_wp2_with fail
  refine HT.out.mono ?_
  rintro e w' ⟨rfl, rfl⟩
  go_wp2
  go_ret
  exact ⟨ret_int HV.out, rfl⟩

theorem alu_35 (a b : Int) (w : World) (a0 : 0 ≤ a) (a1 : a ≤ 18446744073709551615) (b0 : 0 ≤ b) (b1 : b ≤ 18446744073709551615) :
    Calls Tryz.prog 27 #[.int .i64 35, .int .u64 a, .int .u64 b] w fun e w' => e = .returned (.int .u64 (aluF 35 a b)) ∧ w' = w := by
  obtain ⟨t, ht⟩ : ∃ t : Bool, decide (a < b) = t := ⟨_, rfl⟩
  have HT := hide (truth_any t w)
  have hv : (if t = true then (1 : Int) else 0) = aluF 35 a b := by
    simp only [aluF, ← ht, decide_eq_true_eq, wrap64_is]
  have HV := hide hv
  clear hv
  generalize (if t = true then (1 : Int) else 0) = v at *
  go_enter Tryz.func27, Tryz.ntmps27
  go_wp2_with fail
  refine HT.out.mono ?_
  rintro e w' ⟨rfl, rfl⟩
  go_wp2
  go_ret
  exact ⟨ret_int HV.out, rfl⟩

theorem alu_28 (a b : Int) (w : World) (a0 : 0 ≤ a) (a1 : a ≤ 18446744073709551615) (b0 : 0 ≤ b) (b1 : b ≤ 18446744073709551615) :
    Calls Tryz.prog 27 #[.int .i64 28, .int .u64 a, .int .u64 b] w fun e w' => e = .returned (.int .u64 (aluF 28 a b)) ∧ w' = w := by
  obtain ⟨k, hk, hk1, hk2⟩ := and63 b0 b1
  have HK := hide hk2
  clear hk2
  go_enter Tryz.func27, Tryz.ntmps27
  go_wp2
  go_ret
  refine ⟨ret_int ?_, rfl⟩
  first | rfl | (simp only [aluF, wrap_u64, wrap_u32, wrap_s64, wrap_s32, wrap64_is, wrap32_is, sx_def, HK.out]; done) | (simp only [aluF, wrap_u64, wrap_u32, wrap_s64, wrap_s32, wrap64_is, wrap32_is, sx_def, HK.out]; rfl) | (rw [HK.out]; rfl)

theorem alu_33 (a b : Int) (w : World) (a0 : 0 ≤ a) (a1 : a ≤ 18446744073709551615) (b0 : 0 ≤ b) (b1 : b ≤ 18446744073709551615) :
    Calls Tryz.prog 27 #[.int .i64 33, .int .u64 a, .int .u64 b] w fun e w' => e = .returned (.int .u64 (aluF 33 a b)) ∧ w' = w := by
  obtain ⟨k, hk, hk1, hk2⟩ := and63 b0 b1
  have HK := hide hk2
  clear hk2
  go_enter Tryz.func27, Tryz.ntmps27
  go_wp2
  go_ret
  refine ⟨ret_int ?_, rfl⟩
  first | rfl | (simp only [aluF, wrap_u64, wrap_u32, wrap_s64, wrap_s32, wrap64_is, wrap32_is, sx_def, HK.out]; done) | (simp only [aluF, wrap_u64, wrap_u32, wrap_s64, wrap_s32, wrap64_is, wrap32_is, sx_def, HK.out]; rfl) | (rw [HK.out]; rfl)

theorem alu_29 (a b : Int) (w : World) (a0 : 0 ≤ a) (a1 : a ≤ 18446744073709551615) (b0 : 0 ≤ b) (b1 : b ≤ 18446744073709551615) :
    Calls Tryz.prog 27 #[.int .i64 29, .int .u64 a, .int .u64 b] w fun e w' => e = .returned (.int .u64 (aluF 29 a b)) ∧ w' = w := by
  obtain ⟨k, hk, hk1, hk2⟩ := and63 b0 b1
  have HK := hide hk2
  clear hk2
  go_enter Tryz.func27, Tryz.ntmps27
  go_wp2
  go_ret
  refine ⟨ret_int ?_, rfl⟩
  first | rfl | (simp only [aluF, wrap_u64, wrap_u32, wrap_s64, wrap_s32, wrap64_is, wrap32_is, sx_def, HK.out]; done) | (simp only [aluF, wrap_u64, wrap_u32, wrap_s64, wrap_s32, wrap64_is, wrap32_is, sx_def, HK.out]; rfl) | (rw [HK.out]; rfl)

theorem alu_37 (a b : Int) (w : World) (a0 : 0 ≤ a) (a1 : a ≤ 18446744073709551615) (b0 : 0 ≤ b) (b1 : b ≤ 18446744073709551615) :
    Calls Tryz.prog 27 #[.int .i64 37, .int .u64 a, .int .u64 b] w fun e w' => e = .returned (.int .u64 (aluF 37 a b)) ∧ w' = w := by
  obtain ⟨k, hk, hk1, hk2⟩ := and63 b0 b1
  have HK := hide hk2
  clear hk2
  go_enter Tryz.func27, Tryz.ntmps27
  go_wp2
  go_ret
  refine ⟨ret_int ?_, rfl⟩
  first | rfl | (simp only [aluF, wrap_u64, wrap_u32, wrap_s64, wrap_s32, wrap64_is, wrap32_is, sx_def, HK.out]; done) | (simp only [aluF, wrap_u64, wrap_u32, wrap_s64, wrap_s32, wrap64_is, wrap32_is, sx_def, HK.out]; rfl) | (rw [HK.out]; rfl)

theorem alu_30 (a b : Int) (w : World) (a0 : 0 ≤ a) (a1 : a ≤ 18446744073709551615) (b0 : 0 ≤ b) (b1 : b ≤ 18446744073709551615) :
    Calls Tryz.prog 27 #[.int .i64 30, .int .u64 a, .int .u64 b] w fun e w' => e = .returned (.int .u64 (aluF 30 a b)) ∧ w' = w := by
  obtain ⟨k, hk, hk1, hk2⟩ := and63 b0 b1
  have HK := hide hk2
  clear hk2
  go_enter Tryz.func27, Tryz.ntmps27
  go_wp2
  go_ret
  refine ⟨ret_int ?_, rfl⟩
  first | rfl | (simp only [aluF, wrap_u64, wrap_u32, wrap_s64, wrap_s32, wrap64_is, wrap32_is, sx_def, HK.out]; done) | (simp only [aluF, wrap_u64, wrap_u32, wrap_s64, wrap_s32, wrap64_is, wrap32_is, sx_def, HK.out]; rfl) | (rw [HK.out]; rfl)

theorem alu_38 (a b : Int) (w : World) (a0 : 0 ≤ a) (a1 : a ≤ 18446744073709551615) (b0 : 0 ≤ b) (b1 : b ≤ 18446744073709551615) :
    Calls Tryz.prog 27 #[.int .i64 38, .int .u64 a, .int .u64 b] w fun e w' => e = .returned (.int .u64 (aluF 38 a b)) ∧ w' = w := by
  obtain ⟨k, hk, hk1, hk2⟩ := and63 b0 b1
  have HK := hide hk2
  clear hk2
  go_enter Tryz.func27, Tryz.ntmps27
  go_wp2
  go_ret
  refine ⟨ret_int ?_, rfl⟩
  first | rfl | (simp only [aluF, wrap_u64, wrap_u32, wrap_s64, wrap_s32, wrap64_is, wrap32_is, sx_def, HK.out]; done) | (simp only [aluF, wrap_u64, wrap_u32, wrap_s64, wrap_s32, wrap64_is, wrap32_is, sx_def, HK.out]; rfl) | (rw [HK.out]; rfl)

theorem alu_50 (a b : Int) (w : World) (a0 : 0 ≤ a) (a1 : a ≤ 18446744073709551615) (b0 : 0 ≤ b) (b1 : b ≤ 18446744073709551615) :
    Calls Tryz.prog 27 #[.int .i64 50, .int .u64 a, .int .u64 b] w fun e w' => e = .returned (.int .u64 (aluF 50 a b)) ∧ w' = w := by
  have HP := hide (prod_50 a b w a0 a1 b0 b1)
  generalize aluF 50 a b = v at *
  go_enter Tryz.func27, Tryz.ntmps27
  go_wp2_with fail
  refine HP.out.mono ?_
  rintro e w' ⟨rfl, rfl⟩
  go_wp2
  go_ret
  exact ⟨rfl, rfl⟩

theorem alu_51 (a b : Int) (w : World) (a0 : 0 ≤ a) (a1 : a ≤ 18446744073709551615) (b0 : 0 ≤ b) (b1 : b ≤ 18446744073709551615) :
    Calls Tryz.prog 27 #[.int .i64 51, .int .u64 a, .int .u64 b] w fun e w' => e = .returned (.int .u64 (aluF 51 a b)) ∧ w' = w := by
  have HP := hide (prod_51 a b w a0 a1 b0 b1)
  generalize aluF 51 a b = v at *
  go_enter Tryz.func27, Tryz.ntmps27
  go_wp2_with fail
  refine HP.out.mono ?_
  rintro e w' ⟨rfl, rfl⟩
  go_wp2
  go_ret
  exact ⟨rfl, rfl⟩

theorem alu_52 (a b : Int) (w : World) (a0 : 0 ≤ a) (a1 : a ≤ 18446744073709551615) (b0 : 0 ≤ b) (b1 : b ≤ 18446744073709551615) :
    Calls Tryz.prog 27 #[.int .i64 52, .int .u64 a, .int .u64 b] w fun e w' => e = .returned (.int .u64 (aluF 52 a b)) ∧ w' = w := by
  have HP := hide (prod_52 a b w a0 a1 b0 b1)
  generalize aluF 52 a b = v at *
  go_enter Tryz.func27, Tryz.ntmps27
  go_wp2_with fail
  refine HP.out.mono ?_
  rintro e w' ⟨rfl, rfl⟩
  go_wp2
  go_ret
  exact ⟨rfl, rfl⟩

theorem alu_53 (a b : Int) (w : World) (a0 : 0 ≤ a) (a1 : a ≤ 18446744073709551615) (b0 : 0 ≤ b) (b1 : b ≤ 18446744073709551615) :
    Calls Tryz.prog 27 #[.int .i64 53, .int .u64 a, .int .u64 b] w fun e w' => e = .returned (.int .u64 (aluF 53 a b)) ∧ w' = w := by
  have HP := hide (prod_53 a b w a0 a1 b0 b1)
  generalize aluF 53 a b = v at *
  go_enter Tryz.func27, Tryz.ntmps27
  go_wp2_with fail
  refine HP.out.mono ?_
  rintro e w' ⟨rfl, rfl⟩
  go_wp2
  go_ret
  exact ⟨rfl, rfl⟩

theorem alu_54 (a b : Int) (w : World) (a0 : 0 ≤ a) (a1 : a ≤ 18446744073709551615) (b0 : 0 ≤ b) (b1 : b ≤ 18446744073709551615) :
    Calls Tryz.prog 27 #[.int .i64 54, .int .u64 a, .int .u64 b] w fun e w' => e = .returned (.int .u64 (aluF 54 a b)) ∧ w' = w := by
  have sa := s64_bd a
  have sb := s64_bd b
  have HP := hide (quo_i64 (s64 a) (s64 b) w sa.1 sa.2 sb.1 sb.2)
  have hv : IntKind.u64.wrap (if s64 b = 0 then -1 else s64 ((s64 a).tdiv (s64 b))) = aluF 54 a b := by
    simp only [wrap_u64, aluF, s64_zero b0 b1]
    split
    · decide
    · rw [u64_s64]
  have ea : wrap64 a = s64 a := wrap64_is a
  have eb : wrap64 b = s64 b := wrap64_is b
  have HV := hide hv
  clear hv
  generalize (if s64 b = 0 then -1 else s64 ((s64 a).tdiv (s64 b))) = v at *
  generalize s64 a = x at *
  generalize s64 b = y at *
  generalize aluF 54 a b = z at *
  go_enter Tryz.func27, Tryz.ntmps27
  go_wp2_with fail
  refine HP.out.mono ?_
  rintro e w' ⟨rfl, rfl⟩
  go_wp2
  go_ret
  exact ⟨ret_int HV.out, rfl⟩

theorem alu_56 (a b : Int) (w : World) (a0 : 0 ≤ a) (a1 : a ≤ 18446744073709551615) (b0 : 0 ≤ b) (b1 : b ≤ 18446744073709551615) :
    Calls Tryz.prog 27 #[.int .i64 56, .int .u64 a, .int .u64 b] w fun e w' => e = .returned (.int .u64 (aluF 56 a b)) ∧ w' = w := by
  have sa := s64_bd a
  have sb := s64_bd b
  have HP := hide (rst_i64 (s64 a) (s64 b) w sa.1 sa.2 sb.1 sb.2)
  have hv : IntKind.u64.wrap (if s64 b = 0 then s64 a else (s64 a).tmod (s64 b)) = aluF 56 a b := by
    simp only [wrap_u64, aluF, s64_zero b0 b1]
    split
    · rw [u64_s64, u64_id a0 a1]
    · rfl
  have ea : wrap64 a = s64 a := wrap64_is a
  have eb : wrap64 b = s64 b := wrap64_is b
  have HV := hide hv
  clear hv
  generalize (if s64 b = 0 then s64 a else (s64 a).tmod (s64 b)) = v at *
  generalize s64 a = x at *
  generalize s64 b = y at *
  generalize aluF 56 a b = z at *
  go_enter Tryz.func27, Tryz.ntmps27
  go_wp2_with fail
  refine HP.out.mono ?_
  rintro e w' ⟨rfl, rfl⟩
  go_wp2
  go_ret
  exact ⟨ret_int HV.out, rfl⟩

theorem alu_55 (a b : Int) (w : World) (a0 : 0 ≤ a) (a1 : a ≤ 18446744073709551615) (b0 : 0 ≤ b) (b1 : b ≤ 18446744073709551615) :
    Calls Tryz.prog 27 #[.int .i64 55, .int .u64 a, .int .u64 b] w fun e w' => e = .returned (.int .u64 (aluF 55 a b)) ∧ w' = w := by
  have HP := hide (quo_u64 a b w a0 a1 b0 b1)
  have e : aluF 55 a b = (if b = 0 then 18446744073709551615 else a / b) := rfl
  rw [e]
  clear e
  generalize (if b = 0 then 18446744073709551615 else a / b) = v at *
  go_enter Tryz.func27, Tryz.ntmps27
  go_wp2_with fail
  refine HP.out.mono ?_
  rintro e w' ⟨rfl, rfl⟩
  go_wp2
  go_ret
  exact ⟨rfl, rfl⟩

theorem alu_57 (a b : Int) (w : World) (a0 : 0 ≤ a) (a1 : a ≤ 18446744073709551615) (b0 : 0 ≤ b) (b1 : b ≤ 18446744073709551615) :
    Calls Tryz.prog 27 #[.int .i64 57, .int .u64 a, .int .u64 b] w fun e w' => e = .returned (.int .u64 (aluF 57 a b)) ∧ w' = w := by
  have HP := hide (rst_u64 a b w a0 a1 b0 b1)
  have e : aluF 57 a b = (if b = 0 then a else a % b) := rfl
  rw [e]
  clear e
  generalize (if b = 0 then a else a % b) = v at *
  go_enter Tryz.func27, Tryz.ntmps27
  go_wp2_with fail
  refine HP.out.mono ?_
  rintro e w' ⟨rfl, rfl⟩
  go_wp2
  go_ret
  exact ⟨rfl, rfl⟩

theorem wrd_41 (a b : Int) (w : World) (a0 : 0 ≤ a) (a1 : a ≤ 4294967295) (b0 : 0 ≤ b) (b1 : b ≤ 4294967295) :
    Calls Tryz.prog 53 #[.int .i64 41, .int .u32 a, .int .u32 b] w fun e w' => e = .returned (.int .u32 (u32 (a + b))) ∧ w' = w := by
  go_enter Tryz.func53, Tryz.ntmps53
  go_wp2
  go_ret
  refine ⟨ret_int ?_, rfl⟩
  first | rfl | (simp only [aluF, wrap_u64, wrap_u32, wrap_s64, wrap_s32, wrap64_is, wrap32_is, sx_def]; done) | (simp only [aluF, wrap_u64, wrap_u32, wrap_s64, wrap_s32, wrap64_is, wrap32_is, sx_def]; rfl) | (rw [HK.out]; rfl)

theorem alu_41 (a b : Int) (w : World) (a0 : 0 ≤ a) (a1 : a ≤ 18446744073709551615) (b0 : 0 ≤ b) (b1 : b ≤ 18446744073709551615) :
    Calls Tryz.prog 27 #[.int .i64 41, .int .u64 a, .int .u64 b] w fun e w' => e = .returned (.int .u64 (aluF 41 a b)) ∧ w' = w := by
  have sa := u32_bd a
  have sb := u32_bd b
  have HP := hide (wrd_41 (u32 a) (u32 b) w sa.1 sa.2 sb.1 sb.2)
  have hv : sx (u32 ((u32 a) + (u32 b))) = aluF 41 a b := by
    simp only [aluF]
    rw [sx_u32, sx_add]
  have HV := hide hv
  clear hv
  have ea : IntKind.u32.wrap a = u32 a := wrap_u32 a
  have eb : IntKind.u32.wrap b = u32 b := wrap_u32 b
  generalize (u32 ((u32 a) + (u32 b))) = v at *
  generalize u32 a = x at *
  generalize u32 b = y at *
  go_enter Tryz.func27, Tryz.ntmps27
  go_wp2_with fail
  refine HP.out.mono ?_
  rintro e w' ⟨rfl, rfl⟩
  go_wp2_with fail
  refine (ext_any _ _).mono ?_
  rintro e w' ⟨rfl, rfl⟩
  go_wp2
  go_ret
  exact ⟨ret_int HV.out, rfl⟩

theorem wrd_42 (a b : Int) (w : World) (a0 : 0 ≤ a) (a1 : a ≤ 4294967295) (b0 : 0 ≤ b) (b1 : b ≤ 4294967295) :
    Calls Tryz.prog 53 #[.int .i64 42, .int .u32 a, .int .u32 b] w fun e w' => e = .returned (.int .u32 (u32 (a * 2 ^ (b % 32).toNat))) ∧ w' = w := by
  obtain ⟨k, hk, hk1, hk2⟩ := and31w b0 b1
  have HK := hide hk2
  clear hk2
  go_enter Tryz.func53, Tryz.ntmps53
  go_wp2
  go_ret
  refine ⟨ret_int ?_, rfl⟩
  first | rfl | (simp only [aluF, wrap_u64, wrap_u32, wrap_s64, wrap_s32, wrap64_is, wrap32_is, sx_def, HK.out]; done) | (simp only [aluF, wrap_u64, wrap_u32, wrap_s64, wrap_s32, wrap64_is, wrap32_is, sx_def, HK.out]; rfl) | (rw [HK.out]; rfl)

theorem alu_42 (a b : Int) (w : World) (a0 : 0 ≤ a) (a1 : a ≤ 18446744073709551615) (b0 : 0 ≤ b) (b1 : b ≤ 18446744073709551615) :
    Calls Tryz.prog 27 #[.int .i64 42, .int .u64 a, .int .u64 b] w fun e w' => e = .returned (.int .u64 (aluF 42 a b)) ∧ w' = w := by
  have sa := u32_bd a
  have sb := u32_bd b
  have HP := hide (wrd_42 (u32 a) (u32 b) w sa.1 sa.2 sb.1 sb.2)
  have hv : sx (u32 ((u32 a) * 2 ^ ((u32 b) % 32).toNat)) = aluF 42 a b := by
    simp only [aluF]
    rw [sx_u32, u32_mod, sx_mul1]
  have HV := hide hv
  clear hv
  have ea : IntKind.u32.wrap a = u32 a := wrap_u32 a
  have eb : IntKind.u32.wrap b = u32 b := wrap_u32 b
  generalize (u32 ((u32 a) * 2 ^ ((u32 b) % 32).toNat)) = v at *
  generalize u32 a = x at *
  generalize u32 b = y at *
  go_enter Tryz.func27, Tryz.ntmps27
  go_wp2_with fail
  refine HP.out.mono ?_
  rintro e w' ⟨rfl, rfl⟩
  go_wp2_with fail
  refine (ext_any _ _).mono ?_
  rintro e w' ⟨rfl, rfl⟩
  go_wp2
  go_ret
  exact ⟨ret_int HV.out, rfl⟩

theorem wrd_43 (a b : Int) (w : World) (a0 : 0 ≤ a) (a1 : a ≤ 4294967295) (b0 : 0 ≤ b) (b1 : b ≤ 4294967295) :
    Calls Tryz.prog 53 #[.int .i64 43, .int .u32 a, .int .u32 b] w fun e w' => e = .returned (.int .u32 (a / 2 ^ (b % 32).toNat)) ∧ w' = w := by
  obtain ⟨k, hk, hk1, hk2⟩ := and31w b0 b1
  have HK := hide hk2
  clear hk2
  go_enter Tryz.func53, Tryz.ntmps53
  go_wp2
  go_ret
  refine ⟨ret_int ?_, rfl⟩
  first | rfl | (simp only [aluF, wrap_u64, wrap_u32, wrap_s64, wrap_s32, wrap64_is, wrap32_is, sx_def, HK.out]; done) | (simp only [aluF, wrap_u64, wrap_u32, wrap_s64, wrap_s32, wrap64_is, wrap32_is, sx_def, HK.out]; rfl) | (rw [HK.out]; rfl)

theorem alu_43 (a b : Int) (w : World) (a0 : 0 ≤ a) (a1 : a ≤ 18446744073709551615) (b0 : 0 ≤ b) (b1 : b ≤ 18446744073709551615) :
    Calls Tryz.prog 27 #[.int .i64 43, .int .u64 a, .int .u64 b] w fun e w' => e = .returned (.int .u64 (aluF 43 a b)) ∧ w' = w := by
  have sa := u32_bd a
  have sb := u32_bd b
  have HP := hide (wrd_43 (u32 a) (u32 b) w sa.1 sa.2 sb.1 sb.2)
  have hv : sx ((u32 a) / 2 ^ ((u32 b) % 32).toNat) = aluF 43 a b := by
    simp only [aluF]
    rw [u32_mod]
  have HV := hide hv
  clear hv
  have ea : IntKind.u32.wrap a = u32 a := wrap_u32 a
  have eb : IntKind.u32.wrap b = u32 b := wrap_u32 b
  generalize ((u32 a) / 2 ^ ((u32 b) % 32).toNat) = v at *
  generalize u32 a = x at *
  generalize u32 b = y at *
  go_enter Tryz.func27, Tryz.ntmps27
  go_wp2_with fail
  refine HP.out.mono ?_
  rintro e w' ⟨rfl, rfl⟩
  go_wp2_with fail
  refine (ext_any _ _).mono ?_
  rintro e w' ⟨rfl, rfl⟩
  go_wp2
  go_ret
  exact ⟨ret_int HV.out, rfl⟩

theorem wrd_44 (a b : Int) (w : World) (a0 : 0 ≤ a) (a1 : a ≤ 4294967295) (b0 : 0 ≤ b) (b1 : b ≤ 4294967295) :
    Calls Tryz.prog 53 #[.int .i64 44, .int .u32 a, .int .u32 b] w fun e w' => e = .returned (.int .u32 (u32 (s32 a / 2 ^ (b % 32).toNat))) ∧ w' = w := by
  obtain ⟨k, hk, hk1, hk2⟩ := and31w b0 b1
  have HK := hide hk2
  clear hk2
  go_enter Tryz.func53, Tryz.ntmps53
  go_wp2
  go_ret
  refine ⟨ret_int ?_, rfl⟩
  first | rfl | (simp only [aluF, wrap_u64, wrap_u32, wrap_s64, wrap_s32, wrap64_is, wrap32_is, sx_def, HK.out]; done) | (simp only [aluF, wrap_u64, wrap_u32, wrap_s64, wrap_s32, wrap64_is, wrap32_is, sx_def, HK.out]; rfl) | (rw [HK.out]; rfl)

theorem alu_44 (a b : Int) (w : World) (a0 : 0 ≤ a) (a1 : a ≤ 18446744073709551615) (b0 : 0 ≤ b) (b1 : b ≤ 18446744073709551615) :
    Calls Tryz.prog 27 #[.int .i64 44, .int .u64 a, .int .u64 b] w fun e w' => e = .returned (.int .u64 (aluF 44 a b)) ∧ w' = w := by
  have sa := u32_bd a
  have sb := u32_bd b
  have HP := hide (wrd_44 (u32 a) (u32 b) w sa.1 sa.2 sb.1 sb.2)
  have hv : sx (u32 (s32 (u32 a) / 2 ^ ((u32 b) % 32).toNat)) = aluF 44 a b := by
    simp only [aluF]
    rw [sx_u32, s32_u32, u32_mod, sx_sra]
  have HV := hide hv
  clear hv
  have ea : IntKind.u32.wrap a = u32 a := wrap_u32 a
  have eb : IntKind.u32.wrap b = u32 b := wrap_u32 b
  generalize (u32 (s32 (u32 a) / 2 ^ ((u32 b) % 32).toNat)) = v at *
  generalize u32 a = x at *
  generalize u32 b = y at *
  go_enter Tryz.func27, Tryz.ntmps27
  go_wp2_with fail
  refine HP.out.mono ?_
  rintro e w' ⟨rfl, rfl⟩
  go_wp2_with fail
  refine (ext_any _ _).mono ?_
  rintro e w' ⟨rfl, rfl⟩
  go_wp2
  go_ret
  exact ⟨ret_int HV.out, rfl⟩

theorem wrd_45 (a b : Int) (w : World) (a0 : 0 ≤ a) (a1 : a ≤ 4294967295) (b0 : 0 ≤ b) (b1 : b ≤ 4294967295) :
    Calls Tryz.prog 53 #[.int .i64 45, .int .u32 a, .int .u32 b] w fun e w' => e = .returned (.int .u32 (u32 (a + b))) ∧ w' = w := by
  go_enter Tryz.func53, Tryz.ntmps53
  go_wp2
  go_ret
  refine ⟨ret_int ?_, rfl⟩
  first | rfl | (simp only [aluF, wrap_u64, wrap_u32, wrap_s64, wrap_s32, wrap64_is, wrap32_is, sx_def]; done) | (simp only [aluF, wrap_u64, wrap_u32, wrap_s64, wrap_s32, wrap64_is, wrap32_is, sx_def]; rfl) | (rw [HK.out]; rfl)

theorem alu_45 (a b : Int) (w : World) (a0 : 0 ≤ a) (a1 : a ≤ 18446744073709551615) (b0 : 0 ≤ b) (b1 : b ≤ 18446744073709551615) :
    Calls Tryz.prog 27 #[.int .i64 45, .int .u64 a, .int .u64 b] w fun e w' => e = .returned (.int .u64 (aluF 45 a b)) ∧ w' = w := by
  have sa := u32_bd a
  have sb := u32_bd b
  have HP := hide (wrd_45 (u32 a) (u32 b) w sa.1 sa.2 sb.1 sb.2)
  have hv : sx (u32 ((u32 a) + (u32 b))) = aluF 45 a b := by
    simp only [aluF]
    rw [sx_u32, sx_add]
  have HV := hide hv
  clear hv
  have ea : IntKind.u32.wrap a = u32 a := wrap_u32 a
  have eb : IntKind.u32.wrap b = u32 b := wrap_u32 b
  generalize (u32 ((u32 a) + (u32 b))) = v at *
  generalize u32 a = x at *
  generalize u32 b = y at *
  go_enter Tryz.func27, Tryz.ntmps27
  go_wp2_with fail
  refine HP.out.mono ?_
  rintro e w' ⟨rfl, rfl⟩
  go_wp2_with fail
  refine (ext_any _ _).mono ?_
  rintro e w' ⟨rfl, rfl⟩
  go_wp2
  go_ret
  exact ⟨ret_int HV.out, rfl⟩

theorem wrd_46 (a b : Int) (w : World) (a0 : 0 ≤ a) (a1 : a ≤ 4294967295) (b0 : 0 ≤ b) (b1 : b ≤ 4294967295) :
    Calls Tryz.prog 53 #[.int .i64 46, .int .u32 a, .int .u32 b] w fun e w' => e = .returned (.int .u32 (u32 (a - b))) ∧ w' = w := by
  go_enter Tryz.func53, Tryz.ntmps53
  go_wp2
  go_ret
  refine ⟨ret_int ?_, rfl⟩
  first | rfl | (simp only [aluF, wrap_u64, wrap_u32, wrap_s64, wrap_s32, wrap64_is, wrap32_is, sx_def]; done) | (simp only [aluF, wrap_u64, wrap_u32, wrap_s64, wrap_s32, wrap64_is, wrap32_is, sx_def]; rfl) | (rw [HK.out]; rfl)

theorem alu_46 (a b : Int) (w : World) (a0 : 0 ≤ a) (a1 : a ≤ 18446744073709551615) (b0 : 0 ≤ b) (b1 : b ≤ 18446744073709551615) :
    Calls Tryz.prog 27 #[.int .i64 46, .int .u64 a, .int .u64 b] w fun e w' => e = .returned (.int .u64 (aluF 46 a b)) ∧ w' = w := by
  have sa := u32_bd a
  have sb := u32_bd b
  have HP := hide (wrd_46 (u32 a) (u32 b) w sa.1 sa.2 sb.1 sb.2)
  have hv : sx (u32 ((u32 a) - (u32 b))) = aluF 46 a b := by
    simp only [aluF]
    rw [sx_u32, sx_sub]
  have HV := hide hv
  clear hv
  have ea : IntKind.u32.wrap a = u32 a := wrap_u32 a
  have eb : IntKind.u32.wrap b = u32 b := wrap_u32 b
  generalize (u32 ((u32 a) - (u32 b))) = v at *
  generalize u32 a = x at *
  generalize u32 b = y at *
  go_enter Tryz.func27, Tryz.ntmps27
  go_wp2_with fail
  refine HP.out.mono ?_
  rintro e w' ⟨rfl, rfl⟩
  go_wp2_with fail
  refine (ext_any _ _).mono ?_
  rintro e w' ⟨rfl, rfl⟩
  go_wp2
  go_ret
  exact ⟨ret_int HV.out, rfl⟩

theorem wrd_47 (a b : Int) (w : World) (a0 : 0 ≤ a) (a1 : a ≤ 4294967295) (b0 : 0 ≤ b) (b1 : b ≤ 4294967295) :
    Calls Tryz.prog 53 #[.int .i64 47, .int .u32 a, .int .u32 b] w fun e w' => e = .returned (.int .u32 (u32 (a * 2 ^ (b % 32).toNat))) ∧ w' = w := by
  obtain ⟨k, hk, hk1, hk2⟩ := and31w b0 b1
  have HK := hide hk2
  clear hk2
  go_enter Tryz.func53, Tryz.ntmps53
  go_wp2
  go_ret
  refine ⟨ret_int ?_, rfl⟩
  first | rfl | (simp only [aluF, wrap_u64, wrap_u32, wrap_s64, wrap_s32, wrap64_is, wrap32_is, sx_def, HK.out]; done) | (simp only [aluF, wrap_u64, wrap_u32, wrap_s64, wrap_s32, wrap64_is, wrap32_is, sx_def, HK.out]; rfl) | (rw [HK.out]; rfl)

theorem alu_47 (a b : Int) (w : World) (a0 : 0 ≤ a) (a1 : a ≤ 18446744073709551615) (b0 : 0 ≤ b) (b1 : b ≤ 18446744073709551615) :
    Calls Tryz.prog 27 #[.int .i64 47, .int .u64 a, .int .u64 b] w fun e w' => e = .returned (.int .u64 (aluF 47 a b)) ∧ w' = w := by
  have sa := u32_bd a
  have sb := u32_bd b
  have HP := hide (wrd_47 (u32 a) (u32 b) w sa.1 sa.2 sb.1 sb.2)
  have hv : sx (u32 ((u32 a) * 2 ^ ((u32 b) % 32).toNat)) = aluF 47 a b := by
    simp only [aluF]
    rw [sx_u32, u32_mod, sx_mul1]
  have HV := hide hv
  clear hv
  have ea : IntKind.u32.wrap a = u32 a := wrap_u32 a
  have eb : IntKind.u32.wrap b = u32 b := wrap_u32 b
  generalize (u32 ((u32 a) * 2 ^ ((u32 b) % 32).toNat)) = v at *
  generalize u32 a = x at *
  generalize u32 b = y at *
  go_enter Tryz.func27, Tryz.ntmps27
  go_wp2_with fail
  refine HP.out.mono ?_
  rintro e w' ⟨rfl, rfl⟩
  go_wp2_with fail
  refine (ext_any _ _).mono ?_
  rintro e w' ⟨rfl, rfl⟩
  go_wp2
  go_ret
  exact ⟨ret_int HV.out, rfl⟩

theorem wrd_48 (a b : Int) (w : World) (a0 : 0 ≤ a) (a1 : a ≤ 4294967295) (b0 : 0 ≤ b) (b1 : b ≤ 4294967295) :
    Calls Tryz.prog 53 #[.int .i64 48, .int .u32 a, .int .u32 b] w fun e w' => e = .returned (.int .u32 (a / 2 ^ (b % 32).toNat)) ∧ w' = w := by
  obtain ⟨k, hk, hk1, hk2⟩ := and31w b0 b1
  have HK := hide hk2
  clear hk2
  go_enter Tryz.func53, Tryz.ntmps53
  go_wp2
  go_ret
  refine ⟨ret_int ?_, rfl⟩
  first | rfl | (simp only [aluF, wrap_u64, wrap_u32, wrap_s64, wrap_s32, wrap64_is, wrap32_is, sx_def, HK.out]; done) | (simp only [aluF, wrap_u64, wrap_u32, wrap_s64, wrap_s32, wrap64_is, wrap32_is, sx_def, HK.out]; rfl) | (rw [HK.out]; rfl)

theorem alu_48 (a b : Int) (w : World) (a0 : 0 ≤ a) (a1 : a ≤ 18446744073709551615) (b0 : 0 ≤ b) (b1 : b ≤ 18446744073709551615) :
    Calls Tryz.prog 27 #[.int .i64 48, .int .u64 a, .int .u64 b] w fun e w' => e = .returned (.int .u64 (aluF 48 a b)) ∧ w' = w := by
  have sa := u32_bd a
  have sb := u32_bd b
  have HP := hide (wrd_48 (u32 a) (u32 b) w sa.1 sa.2 sb.1 sb.2)
  have hv : sx ((u32 a) / 2 ^ ((u32 b) % 32).toNat) = aluF 48 a b := by
    simp only [aluF]
    rw [u32_mod]
  have HV := hide hv
  clear hv
  have ea : IntKind.u32.wrap a = u32 a := wrap_u32 a
  have eb : IntKind.u32.wrap b = u32 b := wrap_u32 b
  generalize ((u32 a) / 2 ^ ((u32 b) % 32).toNat) = v at *
  generalize u32 a = x at *
  generalize u32 b = y at *
  go_enter Tryz.func27, Tryz.ntmps27
  go_wp2_with fail
  refine HP.out.mono ?_
  rintro e w' ⟨rfl, rfl⟩
  go_wp2_with fail
  refine (ext_any _ _).mono ?_
  rintro e w' ⟨rfl, rfl⟩
  go_wp2
  go_ret
  exact ⟨ret_int HV.out, rfl⟩

theorem wrd_49 (a b : Int) (w : World) (a0 : 0 ≤ a) (a1 : a ≤ 4294967295) (b0 : 0 ≤ b) (b1 : b ≤ 4294967295) :
    Calls Tryz.prog 53 #[.int .i64 49, .int .u32 a, .int .u32 b] w fun e w' => e = .returned (.int .u32 (u32 (s32 a / 2 ^ (b % 32).toNat))) ∧ w' = w := by
  obtain ⟨k, hk, hk1, hk2⟩ := and31w b0 b1
  have HK := hide hk2
  clear hk2
  go_enter Tryz.func53, Tryz.ntmps53
  go_wp2
  go_ret
  refine ⟨ret_int ?_, rfl⟩
  first | rfl | (simp only [aluF, wrap_u64, wrap_u32, wrap_s64, wrap_s32, wrap64_is, wrap32_is, sx_def, HK.out]; done) | (simp only [aluF, wrap_u64, wrap_u32, wrap_s64, wrap_s32, wrap64_is, wrap32_is, sx_def, HK.out]; rfl) | (rw [HK.out]; rfl)

theorem alu_49 (a b : Int) (w : World) (a0 : 0 ≤ a) (a1 : a ≤ 18446744073709551615) (b0 : 0 ≤ b) (b1 : b ≤ 18446744073709551615) :
    Calls Tryz.prog 27 #[.int .i64 49, .int .u64 a, .int .u64 b] w fun e w' => e = .returned (.int .u64 (aluF 49 a b)) ∧ w' = w := by
  have sa := u32_bd a
  have sb := u32_bd b
  have HP := hide (wrd_49 (u32 a) (u32 b) w sa.1 sa.2 sb.1 sb.2)
  have hv : sx (u32 (s32 (u32 a) / 2 ^ ((u32 b) % 32).toNat)) = aluF 49 a b := by
    simp only [aluF]
    rw [sx_u32, s32_u32, u32_mod, sx_sra]
  have HV := hide hv
  clear hv
  have ea : IntKind.u32.wrap a = u32 a := wrap_u32 a
  have eb : IntKind.u32.wrap b = u32 b := wrap_u32 b
  generalize (u32 (s32 (u32 a) / 2 ^ ((u32 b) % 32).toNat)) = v at *
  generalize u32 a = x at *
  generalize u32 b = y at *
  go_enter Tryz.func27, Tryz.ntmps27
  go_wp2_with fail
  refine HP.out.mono ?_
  rintro e w' ⟨rfl, rfl⟩
  go_wp2_with fail
  refine (ext_any _ _).mono ?_
  rintro e w' ⟨rfl, rfl⟩
  go_wp2
  go_ret
  exact ⟨ret_int HV.out, rfl⟩

theorem wrd_58 (a b : Int) (w : World) (a0 : 0 ≤ a) (a1 : a ≤ 4294967295) (b0 : 0 ≤ b) (b1 : b ≤ 4294967295) :
    Calls Tryz.prog 53 #[.int .i64 58, .int .u32 a, .int .u32 b] w fun e w' => e = .returned (.int .u32 (u32 (a * b))) ∧ w' = w := by
  go_enter Tryz.func53, Tryz.ntmps53
  go_wp2
  go_ret
  refine ⟨ret_int ?_, rfl⟩
  first | rfl | (simp only [aluF, wrap_u64, wrap_u32, wrap_s64, wrap_s32, wrap64_is, wrap32_is, sx_def]; done) | (simp only [aluF, wrap_u64, wrap_u32, wrap_s64, wrap_s32, wrap64_is, wrap32_is, sx_def]; rfl) | (rw [HK.out]; rfl)

theorem alu_58 (a b : Int) (w : World) (a0 : 0 ≤ a) (a1 : a ≤ 18446744073709551615) (b0 : 0 ≤ b) (b1 : b ≤ 18446744073709551615) :
    Calls Tryz.prog 27 #[.int .i64 58, .int .u64 a, .int .u64 b] w fun e w' => e = .returned (.int .u64 (aluF 58 a b)) ∧ w' = w := by
  have sa := u32_bd a
  have sb := u32_bd b
  have HP := hide (wrd_58 (u32 a) (u32 b) w sa.1 sa.2 sb.1 sb.2)
  have hv : sx (u32 ((u32 a) * (u32 b))) = aluF 58 a b := by
    simp only [aluF]
    rw [sx_u32, sx_mul]
  have HV := hide hv
  clear hv
  have ea : IntKind.u32.wrap a = u32 a := wrap_u32 a
  have eb : IntKind.u32.wrap b = u32 b := wrap_u32 b
  generalize (u32 ((u32 a) * (u32 b))) = v at *
  generalize u32 a = x at *
  generalize u32 b = y at *
  go_enter Tryz.func27, Tryz.ntmps27
  go_wp2_with fail
  refine HP.out.mono ?_
  rintro e w' ⟨rfl, rfl⟩
  go_wp2_with fail
  refine (ext_any _ _).mono ?_
  rintro e w' ⟨rfl, rfl⟩
  go_wp2
  go_ret
  exact ⟨ret_int HV.out, rfl⟩

theorem wrd_59 (a b : Int) (w : World) (a0 : 0 ≤ a) (a1 : a ≤ 4294967295) (b0 : 0 ≤ b) (b1 : b ≤ 4294967295) :
    Calls Tryz.prog 53 #[.int .i64 59, .int .u32 a, .int .u32 b] w fun e w' => e = .returned (.int .u32 (u32 (if s32 b = 0 then -1 else s32 ((s32 a).tdiv (s32 b))))) ∧ w' = w := by
  have sa := s32_bd a
  have sb := s32_bd b
  have HP := hide (quo_i32 (s32 a) (s32 b) w sa.1 sa.2 sb.1 sb.2)
  have ea : wrap32 a = s32 a := wrap32_is a
  have eb : wrap32 b = s32 b := wrap32_is b
  generalize (if s32 b = 0 then -1 else s32 ((s32 a).tdiv (s32 b))) = v at *
  generalize s32 a = x at *
  generalize s32 b = y at *
  go_enter Tryz.func53, Tryz.ntmps53
  go_wp2_with fail
  refine HP.out.mono ?_
  rintro e w' ⟨rfl, rfl⟩
  go_wp2
  go_ret
  refine ⟨ret_int ?_, rfl⟩
  first | rfl | (simp only [aluF, wrap_u64, wrap_u32, wrap_s64, wrap_s32, wrap64_is, wrap32_is, sx_def]; done) | (simp only [aluF, wrap_u64, wrap_u32, wrap_s64, wrap_s32, wrap64_is, wrap32_is, sx_def]; rfl) | (rw [HK.out]; rfl)

theorem alu_59 (a b : Int) (w : World) (a0 : 0 ≤ a) (a1 : a ≤ 18446744073709551615) (b0 : 0 ≤ b) (b1 : b ≤ 18446744073709551615) :
    Calls Tryz.prog 27 #[.int .i64 59, .int .u64 a, .int .u64 b] w fun e w' => e = .returned (.int .u64 (aluF 59 a b)) ∧ w' = w := by
  have sa := u32_bd a
  have sb := u32_bd b
  have HP := hide (wrd_59 (u32 a) (u32 b) w sa.1 sa.2 sb.1 sb.2)
  have hv : sx (u32 (if s32 (u32 b) = 0 then -1 else s32 ((s32 (u32 a)).tdiv (s32 (u32 b))))) = aluF 59 a b := by
    simp only [aluF]
    rw [sx_u32, s32_u32, s32_u32]; simp only [s32_zero]; split
    · decide
    · rw [sx_s32]
  have HV := hide hv
  clear hv
  have ea : IntKind.u32.wrap a = u32 a := wrap_u32 a
  have eb : IntKind.u32.wrap b = u32 b := wrap_u32 b
  generalize (u32 (if s32 (u32 b) = 0 then -1 else s32 ((s32 (u32 a)).tdiv (s32 (u32 b))))) = v at *
  generalize u32 a = x at *
  generalize u32 b = y at *
  go_enter Tryz.func27, Tryz.ntmps27
  go_wp2_with fail
  refine HP.out.mono ?_
  rintro e w' ⟨rfl, rfl⟩
  go_wp2_with fail
  refine (ext_any _ _).mono ?_
  rintro e w' ⟨rfl, rfl⟩
  go_wp2
  go_ret
  exact ⟨ret_int HV.out, rfl⟩

theorem wrd_60 (a b : Int) (w : World) (a0 : 0 ≤ a) (a1 : a ≤ 4294967295) (b0 : 0 ≤ b) (b1 : b ≤ 4294967295) :
    Calls Tryz.prog 53 #[.int .i64 60, .int .u32 a, .int .u32 b] w fun e w' => e = .returned (.int .u32 (if b = 0 then 4294967295 else a / b)) ∧ w' = w := by
  have HP := hide (quo_u32 a b w a0 a1 b0 b1)
  generalize (if b = 0 then 4294967295 else a / b) = v at *
  go_enter Tryz.func53, Tryz.ntmps53
  go_wp2_with fail
  refine HP.out.mono ?_
  rintro e w' ⟨rfl, rfl⟩
  go_wp2
  go_ret
  exact ⟨rfl, rfl⟩

theorem alu_60 (a b : Int) (w : World) (a0 : 0 ≤ a) (a1 : a ≤ 18446744073709551615) (b0 : 0 ≤ b) (b1 : b ≤ 18446744073709551615) :
    Calls Tryz.prog 27 #[.int .i64 60, .int .u64 a, .int .u64 b] w fun e w' => e = .returned (.int .u64 (aluF 60 a b)) ∧ w' = w := by
  have sa := u32_bd a
  have sb := u32_bd b
  have HP := hide (wrd_60 (u32 a) (u32 b) w sa.1 sa.2 sb.1 sb.2)
  have hv : sx (if (u32 b) = 0 then 4294967295 else (u32 a) / (u32 b)) = aluF 60 a b := by
    simp only [aluF]
    split
    · decide
    · rfl
  have HV := hide hv
  clear hv
  have ea : IntKind.u32.wrap a = u32 a := wrap_u32 a
  have eb : IntKind.u32.wrap b = u32 b := wrap_u32 b
  generalize (if (u32 b) = 0 then 4294967295 else (u32 a) / (u32 b)) = v at *
  generalize u32 a = x at *
  generalize u32 b = y at *
  go_enter Tryz.func27, Tryz.ntmps27
  go_wp2_with fail
  refine HP.out.mono ?_
  rintro e w' ⟨rfl, rfl⟩
  go_wp2_with fail
  refine (ext_any _ _).mono ?_
  rintro e w' ⟨rfl, rfl⟩
  go_wp2
  go_ret
  exact ⟨ret_int HV.out, rfl⟩

theorem wrd_61 (a b : Int) (w : World) (a0 : 0 ≤ a) (a1 : a ≤ 4294967295) (b0 : 0 ≤ b) (b1 : b ≤ 4294967295) :
    Calls Tryz.prog 53 #[.int .i64 61, .int .u32 a, .int .u32 b] w fun e w' => e = .returned (.int .u32 (u32 (if s32 b = 0 then s32 a else (s32 a).tmod (s32 b)))) ∧ w' = w := by
  have sa := s32_bd a
  have sb := s32_bd b
  have HP := hide (rst_i32 (s32 a) (s32 b) w sa.1 sa.2 sb.1 sb.2)
  have ea : wrap32 a = s32 a := wrap32_is a
  have eb : wrap32 b = s32 b := wrap32_is b
  generalize (if s32 b = 0 then s32 a else (s32 a).tmod (s32 b)) = v at *
  generalize s32 a = x at *
  generalize s32 b = y at *
  go_enter Tryz.func53, Tryz.ntmps53
  go_wp2_with fail
  refine HP.out.mono ?_
  rintro e w' ⟨rfl, rfl⟩
  go_wp2
  go_ret
  refine ⟨ret_int ?_, rfl⟩
  first | rfl | (simp only [aluF, wrap_u64, wrap_u32, wrap_s64, wrap_s32, wrap64_is, wrap32_is, sx_def]; done) | (simp only [aluF, wrap_u64, wrap_u32, wrap_s64, wrap_s32, wrap64_is, wrap32_is, sx_def]; rfl) | (rw [HK.out]; rfl)

theorem alu_61 (a b : Int) (w : World) (a0 : 0 ≤ a) (a1 : a ≤ 18446744073709551615) (b0 : 0 ≤ b) (b1 : b ≤ 18446744073709551615) :
    Calls Tryz.prog 27 #[.int .i64 61, .int .u64 a, .int .u64 b] w fun e w' => e = .returned (.int .u64 (aluF 61 a b)) ∧ w' = w := by
  have sa := u32_bd a
  have sb := u32_bd b
  have HP := hide (wrd_61 (u32 a) (u32 b) w sa.1 sa.2 sb.1 sb.2)
  have hv : sx (u32 (if s32 (u32 b) = 0 then s32 (u32 a) else (s32 (u32 a)).tmod (s32 (u32 b)))) = aluF 61 a b := by
    simp only [aluF]
    rw [sx_u32, s32_u32, s32_u32]; simp only [s32_zero]; split
    · rw [sx_s32]
    · rfl
  have HV := hide hv
  clear hv
  have ea : IntKind.u32.wrap a = u32 a := wrap_u32 a
  have eb : IntKind.u32.wrap b = u32 b := wrap_u32 b
  generalize (u32 (if s32 (u32 b) = 0 then s32 (u32 a) else (s32 (u32 a)).tmod (s32 (u32 b)))) = v at *
  generalize u32 a = x at *
  generalize u32 b = y at *
  go_enter Tryz.func27, Tryz.ntmps27
  go_wp2_with fail
  refine HP.out.mono ?_
  rintro e w' ⟨rfl, rfl⟩
  go_wp2_with fail
  refine (ext_any _ _).mono ?_
  rintro e w' ⟨rfl, rfl⟩
  go_wp2
  go_ret
  exact ⟨ret_int HV.out, rfl⟩

theorem wrd_62 (a b : Int) (w : World) (a0 : 0 ≤ a) (a1 : a ≤ 4294967295) (b0 : 0 ≤ b) (b1 : b ≤ 4294967295) :
    Calls Tryz.prog 53 #[.int .i64 62, .int .u32 a, .int .u32 b] w fun e w' => e = .returned (.int .u32 (if b = 0 then a else a % b)) ∧ w' = w := by
  have HP := hide (rst_u32 a b w a0 a1 b0 b1)
  generalize (if b = 0 then a else a % b) = v at *
  go_enter Tryz.func53, Tryz.ntmps53
  go_wp2_with fail
  refine HP.out.mono ?_
  rintro e w' ⟨rfl, rfl⟩
  go_wp2
  go_ret
  exact ⟨rfl, rfl⟩

theorem alu_62 (a b : Int) (w : World) (a0 : 0 ≤ a) (a1 : a ≤ 18446744073709551615) (b0 : 0 ≤ b) (b1 : b ≤ 18446744073709551615) :
    Calls Tryz.prog 27 #[.int .i64 62, .int .u64 a, .int .u64 b] w fun e w' => e = .returned (.int .u64 (aluF 62 a b)) ∧ w' = w := by
  have sa := u32_bd a
  have sb := u32_bd b
  have HP := hide (wrd_62 (u32 a) (u32 b) w sa.1 sa.2 sb.1 sb.2)
  have hv : sx (if (u32 b) = 0 then (u32 a) else (u32 a) % (u32 b)) = aluF 62 a b := by
    simp only [aluF]
    split
    · rw [sx_u32]
    · rfl
  have HV := hide hv
  clear hv
  have ea : IntKind.u32.wrap a = u32 a := wrap_u32 a
  have eb : IntKind.u32.wrap b = u32 b := wrap_u32 b
  generalize (if (u32 b) = 0 then (u32 a) else (u32 a) % (u32 b)) = v at *
  generalize u32 a = x at *
  generalize u32 b = y at *
  go_enter Tryz.func27, Tryz.ntmps27
  go_wp2_with fail
  refine HP.out.mono ?_
  rintro e w' ⟨rfl, rfl⟩
  go_wp2_with fail
  refine (ext_any _ _).mono ?_
  rintro e w' ⟨rfl, rfl⟩
  go_wp2
  go_ret
  exact ⟨ret_int HV.out, rfl⟩

theorem alu_any (o : Nat) (a b : Int) (w : World) (h0 : 22 ≤ o) (h1 : o ≤ 62) (a0 : 0 ≤ a) (a1 : a ≤ 18446744073709551615) (b0 : 0 ≤ b) (b1 : b ≤ 18446744073709551615) :
    Calls Tryz.prog 27 #[.int .i64 (o : Int), .int .u64 a, .int .u64 b] w fun e w' => e = .returned (.int .u64 (aluF o a b)) ∧ w' = w := by
  rcases (show o = 22 ∨ o = 23 ∨ o = 24 ∨ o = 25 ∨ o = 26 ∨ o = 27 ∨ o = 28 ∨ o = 29 ∨ o = 30 ∨ o = 31 ∨ o = 32 ∨ o = 33 ∨ o = 34 ∨ o = 35 ∨ o = 36 ∨ o = 37 ∨ o = 38 ∨ o = 39 ∨ o = 40 ∨ o = 41 ∨ o = 42 ∨ o = 43 ∨ o = 44 ∨ o = 45 ∨ o = 46 ∨ o = 47 ∨ o = 48 ∨ o = 49 ∨ o = 50 ∨ o = 51 ∨ o = 52 ∨ o = 53 ∨ o = 54 ∨ o = 55 ∨ o = 56 ∨ o = 57 ∨ o = 58 ∨ o = 59 ∨ o = 60 ∨ o = 61 ∨ o = 62 by omega) with rfl | rfl | rfl | rfl | rfl | rfl | rfl | rfl | rfl | rfl | rfl | rfl | rfl | rfl | rfl | rfl | rfl | rfl | rfl | rfl | rfl | rfl | rfl | rfl | rfl | rfl | rfl | rfl | rfl | rfl | rfl | rfl | rfl | rfl | rfl | rfl | rfl | rfl | rfl | rfl | rfl
  · exact alu_22 a b w a0 a1 b0 b1
  · exact alu_23 a b w a0 a1 b0 b1
  · exact alu_24 a b w a0 a1 b0 b1
  · exact alu_25 a b w a0 a1 b0 b1
  · exact alu_26 a b w a0 a1 b0 b1
  · exact alu_27 a b w a0 a1 b0 b1
  · exact alu_28 a b w a0 a1 b0 b1
  · exact alu_29 a b w a0 a1 b0 b1
  · exact alu_30 a b w a0 a1 b0 b1
  · exact alu_31 a b w a0 a1 b0 b1
  · exact alu_32 a b w a0 a1 b0 b1
  · exact alu_33 a b w a0 a1 b0 b1
  · exact alu_34 a b w a0 a1 b0 b1
  · exact alu_35 a b w a0 a1 b0 b1
  · exact alu_36 a b w a0 a1 b0 b1
  · exact alu_37 a b w a0 a1 b0 b1
  · exact alu_38 a b w a0 a1 b0 b1
  · exact alu_39 a b w a0 a1 b0 b1
  · exact alu_40 a b w a0 a1 b0 b1
  · exact alu_41 a b w a0 a1 b0 b1
  · exact alu_42 a b w a0 a1 b0 b1
  · exact alu_43 a b w a0 a1 b0 b1
  · exact alu_44 a b w a0 a1 b0 b1
  · exact alu_45 a b w a0 a1 b0 b1
  · exact alu_46 a b w a0 a1 b0 b1
  · exact alu_47 a b w a0 a1 b0 b1
  · exact alu_48 a b w a0 a1 b0 b1
  · exact alu_49 a b w a0 a1 b0 b1
  · exact alu_50 a b w a0 a1 b0 b1
  · exact alu_51 a b w a0 a1 b0 b1
  · exact alu_52 a b w a0 a1 b0 b1
  · exact alu_53 a b w a0 a1 b0 b1
  · exact alu_54 a b w a0 a1 b0 b1
  · exact alu_55 a b w a0 a1 b0 b1
  · exact alu_56 a b w a0 a1 b0 b1
  · exact alu_57 a b w a0 a1 b0 b1
  · exact alu_58 a b w a0 a1 b0 b1
  · exact alu_59 a b w a0 a1 b0 b1
  · exact alu_60 a b w a0 a1 b0 b1
  · exact alu_61 a b w a0 a1 b0 b1
  · exact alu_62 a b w a0 a1 b0 b1

end Go.Proofs.YtgjfelkbblbjfaaGreatDoor
