/- Texts of this claim, joined: MachAluP, MachOps, MemMapC, MemKnown, MachJump, EnvSmall, EnvNote, EnvTrace, EnvOut, EnvEvents, EnvHas, MemPair, MachHas, MachCall, MachServe. -/
import Derived.Test.YtdhjjlnabbpinaaGreatDoorJ01
import Derived.Test.YtdhjjlnabbpinaaGreatDoorShelf
import Derived.Deep.QuietTactic
import Derived.BigQuiet
import Derived.Deep.RegionHeld3
import Derived.Test.YtdhjjlnabbpinaaGreatDoorJ00
import Derived.Deep.RegionWith
import Derived.WalkKit
import Derived.Deep.RegionLaw
import Derived.Deep.LoopGhost
import Derived.Deep.DeepCutAuto
import Derived.Handy
/- Contracts of package mach's Alu and of what it calls: each operation makes of two numbers what aluF says. -/
namespace Go.Proofs.YtdhjjlnabbpinaaGreatDoor
open Go.RowKit
set_option linter.unusedVariables false
set_option maxRecDepth 100000
set_option linter.unusedSimpArgs false

theorem truth_any (b : Bool) (w : World) : Calls Tryz.prog 62 #[.bool b] w fun e w' => e = .returned (.int .u64 (if b = true then 1 else 0)) ∧ w' = w := by
  cases b
  · go_enter Tryz.func62, Tryz.ntmps62
    go_wp2
    go_ret
    exact ⟨rfl, rfl⟩
  · go_enter Tryz.func62, Tryz.ntmps62
    go_wp2
    go_ret
    exact ⟨rfl, rfl⟩

theorem ext_any (a : Int) (w : World) : Calls Tryz.prog 68 #[.int .u32 a] w fun e w' => e = .returned (.int .u64 (sx a)) ∧ w' = w := by
  go_enter Tryz.func68, Tryz.ntmps68
  go_wp2
  go_ret
  refine ⟨ret_int ?_, rfl⟩
  first | rfl | (simp only [aluF, wrap_u64, wrap_u32, wrap_s64, wrap_s32, wrap64_is, wrap32_is, sx_def]; done) | (simp only [aluF, wrap_u64, wrap_u32, wrap_s64, wrap_s32, wrap64_is, wrap32_is, sx_def]; rfl) | (rw [HK.out]; rfl)

theorem quo_i64 (a b : Int) (w : World) (a0 : -9223372036854775808 ≤ a) (a1 : a ≤ 9223372036854775807) (b0 : -9223372036854775808 ≤ b) (b1 : b ≤ 9223372036854775807) :
    Calls Tryz.prog 64 #[.int .i64 a, .int .i64 b] w fun e w' => e = .returned (.int .i64 (if b = 0 then -1 else s64 (a.tdiv b))) ∧ w' = w := by
  by_cases hb : b = 0
  · rw [if_pos hb]
    subst hb
    go_enter Tryz.func64, Tryz.ntmps64
    go_wp2
    all_goals go_ret
    all_goals exact ⟨ret_int (by decide), rfl⟩
  · rw [if_neg hb]
    have hb' : (b == 0) = false := by simpa using hb
    go_enter Tryz.func64, Tryz.ntmps64
    go_wp2
    go_ret
    exact ⟨ret_int (by simp only [wrap64_is, wrap32_is]), rfl⟩

theorem rst_i64 (a b : Int) (w : World) (a0 : -9223372036854775808 ≤ a) (a1 : a ≤ 9223372036854775807) (b0 : -9223372036854775808 ≤ b) (b1 : b ≤ 9223372036854775807) :
    Calls Tryz.prog 66 #[.int .i64 a, .int .i64 b] w fun e w' => e = .returned (.int .i64 (if b = 0 then a else a.tmod b)) ∧ w' = w := by
  by_cases hb : b = 0
  · rw [if_pos hb]
    subst hb
    go_enter Tryz.func66, Tryz.ntmps66
    go_wp2
    all_goals go_ret
    all_goals exact ⟨rfl, rfl⟩
  · rw [if_neg hb]
    have hb' : (b == 0) = false := by simpa using hb
    go_enter Tryz.func66, Tryz.ntmps66
    go_wp2
    go_ret
    exact ⟨rfl, rfl⟩

theorem quo_u64 (a b : Int) (w : World) (a0 : 0 ≤ a) (a1 : a ≤ 18446744073709551615) (b0 : 0 ≤ b) (b1 : b ≤ 18446744073709551615) :
    Calls Tryz.prog 65 #[.int .u64 a, .int .u64 b] w fun e w' => e = .returned (.int .u64 (if b = 0 then 18446744073709551615 else a / b)) ∧ w' = w := by
  by_cases hb : b = 0
  · rw [if_pos hb]
    subst hb
    go_enter Tryz.func65, Tryz.ntmps65
    go_wp2
    all_goals go_ret
    all_goals exact ⟨ret_int (by decide), rfl⟩
  · rw [if_neg hb]
    have hb' : (b == 0) = false := by simpa using hb
    go_enter Tryz.func65, Tryz.ntmps65
    go_wp2
    go_ret
    exact ⟨rfl, rfl⟩

theorem rst_u64 (a b : Int) (w : World) (a0 : 0 ≤ a) (a1 : a ≤ 18446744073709551615) (b0 : 0 ≤ b) (b1 : b ≤ 18446744073709551615) :
    Calls Tryz.prog 67 #[.int .u64 a, .int .u64 b] w fun e w' => e = .returned (.int .u64 (if b = 0 then a else a % b)) ∧ w' = w := by
  by_cases hb : b = 0
  · rw [if_pos hb]
    subst hb
    go_enter Tryz.func67, Tryz.ntmps67
    go_wp2
    all_goals go_ret
    all_goals exact ⟨rfl, rfl⟩
  · rw [if_neg hb]
    have hb' : (b == 0) = false := by simpa using hb
    go_enter Tryz.func67, Tryz.ntmps67
    go_wp2
    go_ret
    exact ⟨rfl, rfl⟩

theorem quo_i32 (a b : Int) (w : World) (a0 : -2147483648 ≤ a) (a1 : a ≤ 2147483647) (b0 : -2147483648 ≤ b) (b1 : b ≤ 2147483647) :
    Calls Tryz.prog 100 #[.int .i32 a, .int .i32 b] w fun e w' => e = .returned (.int .i32 (if b = 0 then -1 else s32 (a.tdiv b))) ∧ w' = w := by
  by_cases hb : b = 0
  · rw [if_pos hb]
    subst hb
    go_enter Tryz.func100, Tryz.ntmps100
    go_wp2
    all_goals go_ret
    all_goals exact ⟨ret_int (by decide), rfl⟩
  · rw [if_neg hb]
    have hb' : (b == 0) = false := by simpa using hb
    go_enter Tryz.func100, Tryz.ntmps100
    go_wp2
    go_ret
    exact ⟨ret_int (by simp only [wrap64_is, wrap32_is]), rfl⟩

theorem rst_i32 (a b : Int) (w : World) (a0 : -2147483648 ≤ a) (a1 : a ≤ 2147483647) (b0 : -2147483648 ≤ b) (b1 : b ≤ 2147483647) :
    Calls Tryz.prog 102 #[.int .i32 a, .int .i32 b] w fun e w' => e = .returned (.int .i32 (if b = 0 then a else a.tmod b)) ∧ w' = w := by
  by_cases hb : b = 0
  · rw [if_pos hb]
    subst hb
    go_enter Tryz.func102, Tryz.ntmps102
    go_wp2
    all_goals go_ret
    all_goals exact ⟨rfl, rfl⟩
  · rw [if_neg hb]
    have hb' : (b == 0) = false := by simpa using hb
    go_enter Tryz.func102, Tryz.ntmps102
    go_wp2
    go_ret
    exact ⟨rfl, rfl⟩

theorem quo_u32 (a b : Int) (w : World) (a0 : 0 ≤ a) (a1 : a ≤ 4294967295) (b0 : 0 ≤ b) (b1 : b ≤ 4294967295) :
    Calls Tryz.prog 101 #[.int .u32 a, .int .u32 b] w fun e w' => e = .returned (.int .u32 (if b = 0 then 4294967295 else a / b)) ∧ w' = w := by
  by_cases hb : b = 0
  · rw [if_pos hb]
    subst hb
    go_enter Tryz.func101, Tryz.ntmps101
    go_wp2
    all_goals go_ret
    all_goals exact ⟨ret_int (by decide), rfl⟩
  · rw [if_neg hb]
    have hb' : (b == 0) = false := by simpa using hb
    go_enter Tryz.func101, Tryz.ntmps101
    go_wp2
    go_ret
    exact ⟨rfl, rfl⟩

theorem rst_u32 (a b : Int) (w : World) (a0 : 0 ≤ a) (a1 : a ≤ 4294967295) (b0 : 0 ≤ b) (b1 : b ≤ 4294967295) :
    Calls Tryz.prog 103 #[.int .u32 a, .int .u32 b] w fun e w' => e = .returned (.int .u32 (if b = 0 then a else a % b)) ∧ w' = w := by
  by_cases hb : b = 0
  · rw [if_pos hb]
    subst hb
    go_enter Tryz.func103, Tryz.ntmps103
    go_wp2
    all_goals go_ret
    all_goals exact ⟨rfl, rfl⟩
  · rw [if_neg hb]
    have hb' : (b == 0) = false := by simpa using hb
    go_enter Tryz.func103, Tryz.ntmps103
    go_wp2
    go_ret
    exact ⟨rfl, rfl⟩

theorem prod_50 (a b : Int) (w : World) (a0 : 0 ≤ a) (a1 : a ≤ 18446744073709551615) (b0 : 0 ≤ b) (b1 : b ≤ 18446744073709551615) :
    Calls Tryz.prog 63 #[.int .i64 50, .int .u64 a, .int .u64 b] w fun e w' => e = .returned (.int .u64 (aluF 50 a b)) ∧ w' = w := by
  obtain ⟨x, rfl⟩ := Int.eq_ofNat_of_zero_le a0
  obtain ⟨y, rfl⟩ := Int.eq_ofNat_of_zero_le b0
  have HM := hide (Tryz.bits_Mul64 x y (by omega) (by omega) w)
  obtain ⟨h, hh⟩ : ∃ h : Nat, x * y / 18446744073709551616 = h := ⟨_, rfl⟩
  obtain ⟨l, hl⟩ : ∃ l : Nat, x * y % 18446744073709551616 = l := ⟨_, rfl⟩
  have eh : (x : Int) * (y : Int) / 18446744073709551616 = (h : Int) := by rw [← hh, ← Int.natCast_mul]; simp
  have el : u64 ((x : Int) * (y : Int)) = (l : Int) := by unfold u64; rw [← hl, ← Int.natCast_mul]; simp
  have hb : h ≤ 18446744073709551615 := by rw [← hh]; exact hi_bd (by omega) (by omega)
  have hlb : l ≤ 18446744073709551615 := by rw [← hl]; omega
  rw [hh, hl] at HM
  have EH := hide eh
  have EL := hide el
  clear eh el hh hl
  all_goals go_enter Tryz.func63, Tryz.ntmps63
  all_goals go_wp2_with fail
  all_goals refine HM.out.mono ?_
  all_goals rintro e w' ⟨rfl, rfl⟩
  all_goals go_wp2
  all_goals go_ret
  all_goals refine ⟨ret_int ?_, rfl⟩
  all_goals simp only [aluF, wrap_u64, wrap_u32, wrap_s64, wrap_s32, wrap64_is, wrap32_is, sx_def, EL.out]

theorem prod_51 (a b : Int) (w : World) (a0 : 0 ≤ a) (a1 : a ≤ 18446744073709551615) (b0 : 0 ≤ b) (b1 : b ≤ 18446744073709551615) :
    Calls Tryz.prog 63 #[.int .i64 51, .int .u64 a, .int .u64 b] w fun e w' => e = .returned (.int .u64 (aluF 51 a b)) ∧ w' = w := by
  obtain ⟨x, rfl⟩ := Int.eq_ofNat_of_zero_le a0
  obtain ⟨y, rfl⟩ := Int.eq_ofNat_of_zero_le b0
  have HM := hide (Tryz.bits_Mul64 x y (by omega) (by omega) w)
  obtain ⟨h, hh⟩ : ∃ h : Nat, x * y / 18446744073709551616 = h := ⟨_, rfl⟩
  obtain ⟨l, hl⟩ : ∃ l : Nat, x * y % 18446744073709551616 = l := ⟨_, rfl⟩
  have eh : (x : Int) * (y : Int) / 18446744073709551616 = (h : Int) := by rw [← hh, ← Int.natCast_mul]; simp
  have el : u64 ((x : Int) * (y : Int)) = (l : Int) := by unfold u64; rw [← hl, ← Int.natCast_mul]; simp
  have hb : h ≤ 18446744073709551615 := by rw [← hh]; exact hi_bd (by omega) (by omega)
  have hlb : l ≤ 18446744073709551615 := by rw [← hl]; omega
  rw [hh, hl] at HM
  have EH := hide eh
  have EL := hide el
  clear eh el hh hl
  have hsa : (decide (wrap64 (x : Int) < 0) = true ∧ s64 x < 0) ∨ (decide (wrap64 (x : Int) < 0) = false ∧ ¬ s64 x < 0) := by
    rw [wrap64_is]; by_cases h : s64 x < 0 <;> simp [h]
  have hsb : (decide (wrap64 (y : Int) < 0) = true ∧ s64 y < 0) ∨ (decide (wrap64 (y : Int) < 0) = false ∧ ¬ s64 y < 0) := by
    rw [wrap64_is]; by_cases h : s64 y < 0 <;> simp [h]
  rcases hsa with ⟨ta, na⟩ | ⟨ta, na⟩ <;> rcases hsb with ⟨tb, nb⟩ | ⟨tb, nb⟩
  all_goals have NA := hide na
  all_goals clear na
  all_goals have NB := hide nb
  all_goals clear nb
  all_goals go_enter Tryz.func63, Tryz.ntmps63
  all_goals go_wp2_with fail
  all_goals refine HM.out.mono ?_
  all_goals rintro e w' ⟨rfl, rfl⟩
  all_goals go_wp2
  all_goals go_ret
  all_goals refine ⟨ret_int ?_, rfl⟩
  all_goals simp only [aluF, wrap_u64, wrap_u32, wrap_s64, wrap_s32, wrap64_is, wrap32_is, sx_def, EH.out]
  all_goals have na := NA.out
  all_goals have nb := NB.out
  all_goals repeat' split
  all_goals unfold u64
  all_goals omega

theorem prod_52 (a b : Int) (w : World) (a0 : 0 ≤ a) (a1 : a ≤ 18446744073709551615) (b0 : 0 ≤ b) (b1 : b ≤ 18446744073709551615) :
    Calls Tryz.prog 63 #[.int .i64 52, .int .u64 a, .int .u64 b] w fun e w' => e = .returned (.int .u64 (aluF 52 a b)) ∧ w' = w := by
  obtain ⟨x, rfl⟩ := Int.eq_ofNat_of_zero_le a0
  obtain ⟨y, rfl⟩ := Int.eq_ofNat_of_zero_le b0
  have HM := hide (Tryz.bits_Mul64 x y (by omega) (by omega) w)
  obtain ⟨h, hh⟩ : ∃ h : Nat, x * y / 18446744073709551616 = h := ⟨_, rfl⟩
  obtain ⟨l, hl⟩ : ∃ l : Nat, x * y % 18446744073709551616 = l := ⟨_, rfl⟩
  have eh : (x : Int) * (y : Int) / 18446744073709551616 = (h : Int) := by rw [← hh, ← Int.natCast_mul]; simp
  have el : u64 ((x : Int) * (y : Int)) = (l : Int) := by unfold u64; rw [← hl, ← Int.natCast_mul]; simp
  have hb : h ≤ 18446744073709551615 := by rw [← hh]; exact hi_bd (by omega) (by omega)
  have hlb : l ≤ 18446744073709551615 := by rw [← hl]; omega
  rw [hh, hl] at HM
  have EH := hide eh
  have EL := hide el
  clear eh el hh hl
  have hsa : (decide (wrap64 (x : Int) < 0) = true ∧ s64 x < 0) ∨ (decide (wrap64 (x : Int) < 0) = false ∧ ¬ s64 x < 0) := by
    rw [wrap64_is]; by_cases h : s64 x < 0 <;> simp [h]
  rcases hsa with ⟨ta, na⟩ | ⟨ta, na⟩
  all_goals have NA := hide na
  all_goals clear na
  all_goals go_enter Tryz.func63, Tryz.ntmps63
  all_goals go_wp2_with fail
  all_goals refine HM.out.mono ?_
  all_goals rintro e w' ⟨rfl, rfl⟩
  all_goals go_wp2
  all_goals go_ret
  all_goals refine ⟨ret_int ?_, rfl⟩
  all_goals simp only [aluF, wrap_u64, wrap_u32, wrap_s64, wrap_s32, wrap64_is, wrap32_is, sx_def, EH.out]
  all_goals have na := NA.out
  all_goals repeat' split
  all_goals unfold u64
  all_goals omega

theorem prod_53 (a b : Int) (w : World) (a0 : 0 ≤ a) (a1 : a ≤ 18446744073709551615) (b0 : 0 ≤ b) (b1 : b ≤ 18446744073709551615) :
    Calls Tryz.prog 63 #[.int .i64 53, .int .u64 a, .int .u64 b] w fun e w' => e = .returned (.int .u64 (aluF 53 a b)) ∧ w' = w := by
  obtain ⟨x, rfl⟩ := Int.eq_ofNat_of_zero_le a0
  obtain ⟨y, rfl⟩ := Int.eq_ofNat_of_zero_le b0
  have HM := hide (Tryz.bits_Mul64 x y (by omega) (by omega) w)
  obtain ⟨h, hh⟩ : ∃ h : Nat, x * y / 18446744073709551616 = h := ⟨_, rfl⟩
  obtain ⟨l, hl⟩ : ∃ l : Nat, x * y % 18446744073709551616 = l := ⟨_, rfl⟩
  have eh : (x : Int) * (y : Int) / 18446744073709551616 = (h : Int) := by rw [← hh, ← Int.natCast_mul]; simp
  have el : u64 ((x : Int) * (y : Int)) = (l : Int) := by unfold u64; rw [← hl, ← Int.natCast_mul]; simp
  have hb : h ≤ 18446744073709551615 := by rw [← hh]; exact hi_bd (by omega) (by omega)
  have hlb : l ≤ 18446744073709551615 := by rw [← hl]; omega
  rw [hh, hl] at HM
  have EH := hide eh
  have EL := hide el
  clear eh el hh hl
  all_goals go_enter Tryz.func63, Tryz.ntmps63
  all_goals go_wp2_with fail
  all_goals refine HM.out.mono ?_
  all_goals rintro e w' ⟨rfl, rfl⟩
  all_goals go_wp2
  all_goals go_ret
  all_goals refine ⟨ret_int ?_, rfl⟩
  all_goals simp only [aluF, wrap_u64, wrap_u32, wrap_s64, wrap_s32, wrap64_is, wrap32_is, sx_def, EH.out]

theorem alu_22 (a b : Int) (w : World) (a0 : 0 ≤ a) (a1 : a ≤ 18446744073709551615) (b0 : 0 ≤ b) (b1 : b ≤ 18446744073709551615) :
    Calls Tryz.prog 32 #[.int .i64 22, .int .u64 a, .int .u64 b] w fun e w' => e = .returned (.int .u64 (aluF 22 a b)) ∧ w' = w := by
  go_enter Tryz.func32, Tryz.ntmps32
  go_wp2
  go_ret
  refine ⟨ret_int ?_, rfl⟩
  first | rfl | (simp only [aluF, wrap_u64, wrap_u32, wrap_s64, wrap_s32, wrap64_is, wrap32_is, sx_def]; done) | (simp only [aluF, wrap_u64, wrap_u32, wrap_s64, wrap_s32, wrap64_is, wrap32_is, sx_def]; rfl) | (rw [HK.out]; rfl)

theorem alu_31 (a b : Int) (w : World) (a0 : 0 ≤ a) (a1 : a ≤ 18446744073709551615) (b0 : 0 ≤ b) (b1 : b ≤ 18446744073709551615) :
    Calls Tryz.prog 32 #[.int .i64 31, .int .u64 a, .int .u64 b] w fun e w' => e = .returned (.int .u64 (aluF 31 a b)) ∧ w' = w := by
  go_enter Tryz.func32, Tryz.ntmps32
  go_wp2
  go_ret
  refine ⟨ret_int ?_, rfl⟩
  first | rfl | (simp only [aluF, wrap_u64, wrap_u32, wrap_s64, wrap_s32, wrap64_is, wrap32_is, sx_def]; done) | (simp only [aluF, wrap_u64, wrap_u32, wrap_s64, wrap_s32, wrap64_is, wrap32_is, sx_def]; rfl) | (rw [HK.out]; rfl)

theorem alu_32 (a b : Int) (w : World) (a0 : 0 ≤ a) (a1 : a ≤ 18446744073709551615) (b0 : 0 ≤ b) (b1 : b ≤ 18446744073709551615) :
    Calls Tryz.prog 32 #[.int .i64 32, .int .u64 a, .int .u64 b] w fun e w' => e = .returned (.int .u64 (aluF 32 a b)) ∧ w' = w := by
  go_enter Tryz.func32, Tryz.ntmps32
  go_wp2
  go_ret
  refine ⟨ret_int ?_, rfl⟩
  first | rfl | (simp only [aluF, wrap_u64, wrap_u32, wrap_s64, wrap_s32, wrap64_is, wrap32_is, sx_def]; done) | (simp only [aluF, wrap_u64, wrap_u32, wrap_s64, wrap_s32, wrap64_is, wrap32_is, sx_def]; rfl) | (rw [HK.out]; rfl)

theorem alu_25 (a b : Int) (w : World) (a0 : 0 ≤ a) (a1 : a ≤ 18446744073709551615) (b0 : 0 ≤ b) (b1 : b ≤ 18446744073709551615) :
    Calls Tryz.prog 32 #[.int .i64 25, .int .u64 a, .int .u64 b] w fun e w' => e = .returned (.int .u64 (aluF 25 a b)) ∧ w' = w := by
  go_enter Tryz.func32, Tryz.ntmps32
  go_wp2
  go_ret
  exact ⟨rfl, rfl⟩

theorem alu_36 (a b : Int) (w : World) (a0 : 0 ≤ a) (a1 : a ≤ 18446744073709551615) (b0 : 0 ≤ b) (b1 : b ≤ 18446744073709551615) :
    Calls Tryz.prog 32 #[.int .i64 36, .int .u64 a, .int .u64 b] w fun e w' => e = .returned (.int .u64 (aluF 36 a b)) ∧ w' = w := by
  go_enter Tryz.func32, Tryz.ntmps32
  go_wp2
  go_ret
  exact ⟨rfl, rfl⟩

theorem alu_26 (a b : Int) (w : World) (a0 : 0 ≤ a) (a1 : a ≤ 18446744073709551615) (b0 : 0 ≤ b) (b1 : b ≤ 18446744073709551615) :
    Calls Tryz.prog 32 #[.int .i64 26, .int .u64 a, .int .u64 b] w fun e w' => e = .returned (.int .u64 (aluF 26 a b)) ∧ w' = w := by
  go_enter Tryz.func32, Tryz.ntmps32
  go_wp2
  go_ret
  exact ⟨rfl, rfl⟩

theorem alu_39 (a b : Int) (w : World) (a0 : 0 ≤ a) (a1 : a ≤ 18446744073709551615) (b0 : 0 ≤ b) (b1 : b ≤ 18446744073709551615) :
    Calls Tryz.prog 32 #[.int .i64 39, .int .u64 a, .int .u64 b] w fun e w' => e = .returned (.int .u64 (aluF 39 a b)) ∧ w' = w := by
  go_enter Tryz.func32, Tryz.ntmps32
  go_wp2
  go_ret
  exact ⟨rfl, rfl⟩

theorem alu_27 (a b : Int) (w : World) (a0 : 0 ≤ a) (a1 : a ≤ 18446744073709551615) (b0 : 0 ≤ b) (b1 : b ≤ 18446744073709551615) :
    Calls Tryz.prog 32 #[.int .i64 27, .int .u64 a, .int .u64 b] w fun e w' => e = .returned (.int .u64 (aluF 27 a b)) ∧ w' = w := by
  go_enter Tryz.func32, Tryz.ntmps32
  go_wp2
  go_ret
  exact ⟨rfl, rfl⟩

theorem alu_40 (a b : Int) (w : World) (a0 : 0 ≤ a) (a1 : a ≤ 18446744073709551615) (b0 : 0 ≤ b) (b1 : b ≤ 18446744073709551615) :
    Calls Tryz.prog 32 #[.int .i64 40, .int .u64 a, .int .u64 b] w fun e w' => e = .returned (.int .u64 (aluF 40 a b)) ∧ w' = w := by
  go_enter Tryz.func32, Tryz.ntmps32
  go_wp2
  go_ret
  exact ⟨rfl, rfl⟩

theorem alu_23 (a b : Int) (w : World) (a0 : 0 ≤ a) (a1 : a ≤ 18446744073709551615) (b0 : 0 ≤ b) (b1 : b ≤ 18446744073709551615) :
    Calls Tryz.prog 32 #[.int .i64 23, .int .u64 a, .int .u64 b] w fun e w' => e = .returned (.int .u64 (aluF 23 a b)) ∧ w' = w := by
  obtain ⟨t, ht⟩ : ∃ t : Bool, decide (wrap64 a < wrap64 b) = t := ⟨_, rfl⟩
  have HT := hide (truth_any t w)
  have hv : (if t = true then (1 : Int) else 0) = aluF 23 a b := by
    simp only [aluF, ← ht, decide_eq_true_eq, wrap64_is]
  have HV := hide hv
  clear hv
  generalize (if t = true then (1 : Int) else 0) = v at *
  go_enter Tryz.func32, Tryz.ntmps32
  go_wp2_with fail
  refine HT.out.mono ?_
  rintro e w' ⟨rfl, rfl⟩
  go_wp2
  go_ret
  exact ⟨ret_int HV.out, rfl⟩

theorem alu_34 (a b : Int) (w : World) (a0 : 0 ≤ a) (a1 : a ≤ 18446744073709551615) (b0 : 0 ≤ b) (b1 : b ≤ 18446744073709551615) :
    Calls Tryz.prog 32 #[.int .i64 34, .int .u64 a, .int .u64 b] w fun e w' => e = .returned (.int .u64 (aluF 34 a b)) ∧ w' = w := by
  obtain ⟨t, ht⟩ : ∃ t : Bool, decide (wrap64 a < wrap64 b) = t := ⟨_, rfl⟩
  have HT := hide (truth_any t w)
  have hv : (if t = true then (1 : Int) else 0) = aluF 34 a b := by
    simp only [aluF, ← ht, decide_eq_true_eq, wrap64_is]
  have HV := hide hv
  clear hv
  generalize (if t = true then (1 : Int) else 0) = v at *
  go_enter Tryz.func32, Tryz.ntmps32
  go_wp2_with fail
  refine HT.out.mono ?_
  rintro e w' ⟨rfl, rfl⟩
  go_wp2
  go_ret
  exact ⟨ret_int HV.out, rfl⟩

theorem alu_24 (a b : Int) (w : World) (a0 : 0 ≤ a) (a1 : a ≤ 18446744073709551615) (b0 : 0 ≤ b) (b1 : b ≤ 18446744073709551615) :
    Calls Tryz.prog 32 #[.int .i64 24, .int .u64 a, .int .u64 b] w fun e w' => e = .returned (.int .u64 (aluF 24 a b)) ∧ w' = w := by
  obtain ⟨t, ht⟩ : ∃ t : Bool, decide (a < b) = t := ⟨_, rfl⟩
  have HT := hide (truth_any t w)
  have hv : (if t = true then (1 : Int) else 0) = aluF 24 a b := by
    simp only [aluF, ← ht, decide_eq_true_eq, wrap64_is]
  have HV := hide hv
  clear hv
  generalize (if t = true then (1 : Int) else 0) = v at *
  go_enter Tryz.func32, Tryz.ntmps32
  go_wp2_with fail
  refine HT.out.mono ?_
  rintro e w' ⟨rfl, rfl⟩
  go_wp2
  go_ret
  exact ⟨ret_int HV.out, rfl⟩

theorem alu_35 (a b : Int) (w : World) (a0 : 0 ≤ a) (a1 : a ≤ 18446744073709551615) (b0 : 0 ≤ b) (b1 : b ≤ 18446744073709551615) :
    Calls Tryz.prog 32 #[.int .i64 35, .int .u64 a, .int .u64 b] w fun e w' => e = .returned (.int .u64 (aluF 35 a b)) ∧ w' = w := by
  obtain ⟨t, ht⟩ : ∃ t : Bool, decide (a < b) = t := ⟨_, rfl⟩
  have HT := hide (truth_any t w)
  have hv : (if t = true then (1 : Int) else 0) = aluF 35 a b := by
    simp only [aluF, ← ht, decide_eq_true_eq, wrap64_is]
  have HV := hide hv
  clear hv
  generalize (if t = true then (1 : Int) else 0) = v at *
  go_enter Tryz.func32, Tryz.ntmps32
  go_wp2_with fail
  refine HT.out.mono ?_
  rintro e w' ⟨rfl, rfl⟩
  go_wp2
  go_ret
  exact ⟨ret_int HV.out, rfl⟩

theorem alu_28 (a b : Int) (w : World) (a0 : 0 ≤ a) (a1 : a ≤ 18446744073709551615) (b0 : 0 ≤ b) (b1 : b ≤ 18446744073709551615) :
    Calls Tryz.prog 32 #[.int .i64 28, .int .u64 a, .int .u64 b] w fun e w' => e = .returned (.int .u64 (aluF 28 a b)) ∧ w' = w := by
  obtain ⟨k, hk, hk1, hk2⟩ := and63 b0 b1
  have HK := hide hk2
  clear hk2
  go_enter Tryz.func32, Tryz.ntmps32
  go_wp2
  go_ret
  refine ⟨ret_int ?_, rfl⟩
  first | rfl | (simp only [aluF, wrap_u64, wrap_u32, wrap_s64, wrap_s32, wrap64_is, wrap32_is, sx_def, HK.out]; done) | (simp only [aluF, wrap_u64, wrap_u32, wrap_s64, wrap_s32, wrap64_is, wrap32_is, sx_def, HK.out]; rfl) | (rw [HK.out]; rfl)

theorem alu_33 (a b : Int) (w : World) (a0 : 0 ≤ a) (a1 : a ≤ 18446744073709551615) (b0 : 0 ≤ b) (b1 : b ≤ 18446744073709551615) :
    Calls Tryz.prog 32 #[.int .i64 33, .int .u64 a, .int .u64 b] w fun e w' => e = .returned (.int .u64 (aluF 33 a b)) ∧ w' = w := by
  obtain ⟨k, hk, hk1, hk2⟩ := and63 b0 b1
  have HK := hide hk2
  clear hk2
  go_enter Tryz.func32, Tryz.ntmps32
  go_wp2
  go_ret
  refine ⟨ret_int ?_, rfl⟩
  first | rfl | (simp only [aluF, wrap_u64, wrap_u32, wrap_s64, wrap_s32, wrap64_is, wrap32_is, sx_def, HK.out]; done) | (simp only [aluF, wrap_u64, wrap_u32, wrap_s64, wrap_s32, wrap64_is, wrap32_is, sx_def, HK.out]; rfl) | (rw [HK.out]; rfl)

theorem alu_29 (a b : Int) (w : World) (a0 : 0 ≤ a) (a1 : a ≤ 18446744073709551615) (b0 : 0 ≤ b) (b1 : b ≤ 18446744073709551615) :
    Calls Tryz.prog 32 #[.int .i64 29, .int .u64 a, .int .u64 b] w fun e w' => e = .returned (.int .u64 (aluF 29 a b)) ∧ w' = w := by
  obtain ⟨k, hk, hk1, hk2⟩ := and63 b0 b1
  have HK := hide hk2
  clear hk2
  go_enter Tryz.func32, Tryz.ntmps32
  go_wp2
  go_ret
  refine ⟨ret_int ?_, rfl⟩
  first | rfl | (simp only [aluF, wrap_u64, wrap_u32, wrap_s64, wrap_s32, wrap64_is, wrap32_is, sx_def, HK.out]; done) | (simp only [aluF, wrap_u64, wrap_u32, wrap_s64, wrap_s32, wrap64_is, wrap32_is, sx_def, HK.out]; rfl) | (rw [HK.out]; rfl)

theorem alu_37 (a b : Int) (w : World) (a0 : 0 ≤ a) (a1 : a ≤ 18446744073709551615) (b0 : 0 ≤ b) (b1 : b ≤ 18446744073709551615) :
    Calls Tryz.prog 32 #[.int .i64 37, .int .u64 a, .int .u64 b] w fun e w' => e = .returned (.int .u64 (aluF 37 a b)) ∧ w' = w := by
  obtain ⟨k, hk, hk1, hk2⟩ := and63 b0 b1
  have HK := hide hk2
  clear hk2
  go_enter Tryz.func32, Tryz.ntmps32
  go_wp2
  go_ret
  refine ⟨ret_int ?_, rfl⟩
  first | rfl | (simp only [aluF, wrap_u64, wrap_u32, wrap_s64, wrap_s32, wrap64_is, wrap32_is, sx_def, HK.out]; done) | (simp only [aluF, wrap_u64, wrap_u32, wrap_s64, wrap_s32, wrap64_is, wrap32_is, sx_def, HK.out]; rfl) | (rw [HK.out]; rfl)

theorem alu_30 (a b : Int) (w : World) (a0 : 0 ≤ a) (a1 : a ≤ 18446744073709551615) (b0 : 0 ≤ b) (b1 : b ≤ 18446744073709551615) :
    Calls Tryz.prog 32 #[.int .i64 30, .int .u64 a, .int .u64 b] w fun e w' => e = .returned (.int .u64 (aluF 30 a b)) ∧ w' = w := by
  obtain ⟨k, hk, hk1, hk2⟩ := and63 b0 b1
  have HK := hide hk2
  clear hk2
  go_enter Tryz.func32, Tryz.ntmps32
  go_wp2
  go_ret
  refine ⟨ret_int ?_, rfl⟩
  first | rfl | (simp only [aluF, wrap_u64, wrap_u32, wrap_s64, wrap_s32, wrap64_is, wrap32_is, sx_def, HK.out]; done) | (simp only [aluF, wrap_u64, wrap_u32, wrap_s64, wrap_s32, wrap64_is, wrap32_is, sx_def, HK.out]; rfl) | (rw [HK.out]; rfl)

theorem alu_38 (a b : Int) (w : World) (a0 : 0 ≤ a) (a1 : a ≤ 18446744073709551615) (b0 : 0 ≤ b) (b1 : b ≤ 18446744073709551615) :
    Calls Tryz.prog 32 #[.int .i64 38, .int .u64 a, .int .u64 b] w fun e w' => e = .returned (.int .u64 (aluF 38 a b)) ∧ w' = w := by
  obtain ⟨k, hk, hk1, hk2⟩ := and63 b0 b1
  have HK := hide hk2
  clear hk2
  go_enter Tryz.func32, Tryz.ntmps32
  go_wp2
  go_ret
  refine ⟨ret_int ?_, rfl⟩
  first | rfl | (simp only [aluF, wrap_u64, wrap_u32, wrap_s64, wrap_s32, wrap64_is, wrap32_is, sx_def, HK.out]; done) | (simp only [aluF, wrap_u64, wrap_u32, wrap_s64, wrap_s32, wrap64_is, wrap32_is, sx_def, HK.out]; rfl) | (rw [HK.out]; rfl)

theorem alu_50 (a b : Int) (w : World) (a0 : 0 ≤ a) (a1 : a ≤ 18446744073709551615) (b0 : 0 ≤ b) (b1 : b ≤ 18446744073709551615) :
    Calls Tryz.prog 32 #[.int .i64 50, .int .u64 a, .int .u64 b] w fun e w' => e = .returned (.int .u64 (aluF 50 a b)) ∧ w' = w := by
  have HP := hide (prod_50 a b w a0 a1 b0 b1)
  generalize aluF 50 a b = v at *
  go_enter Tryz.func32, Tryz.ntmps32
  go_wp2_with fail
  refine HP.out.mono ?_
  rintro e w' ⟨rfl, rfl⟩
  go_wp2
  go_ret
  exact ⟨rfl, rfl⟩

theorem alu_51 (a b : Int) (w : World) (a0 : 0 ≤ a) (a1 : a ≤ 18446744073709551615) (b0 : 0 ≤ b) (b1 : b ≤ 18446744073709551615) :
    Calls Tryz.prog 32 #[.int .i64 51, .int .u64 a, .int .u64 b] w fun e w' => e = .returned (.int .u64 (aluF 51 a b)) ∧ w' = w := by
  have HP := hide (prod_51 a b w a0 a1 b0 b1)
  generalize aluF 51 a b = v at *
  go_enter Tryz.func32, Tryz.ntmps32
  go_wp2_with fail
  refine HP.out.mono ?_
  rintro e w' ⟨rfl, rfl⟩
  go_wp2
  go_ret
  exact ⟨rfl, rfl⟩

theorem alu_52 (a b : Int) (w : World) (a0 : 0 ≤ a) (a1 : a ≤ 18446744073709551615) (b0 : 0 ≤ b) (b1 : b ≤ 18446744073709551615) :
    Calls Tryz.prog 32 #[.int .i64 52, .int .u64 a, .int .u64 b] w fun e w' => e = .returned (.int .u64 (aluF 52 a b)) ∧ w' = w := by
  have HP := hide (prod_52 a b w a0 a1 b0 b1)
  generalize aluF 52 a b = v at *
  go_enter Tryz.func32, Tryz.ntmps32
  go_wp2_with fail
  refine HP.out.mono ?_
  rintro e w' ⟨rfl, rfl⟩
  go_wp2
  go_ret
  exact ⟨rfl, rfl⟩

theorem alu_53 (a b : Int) (w : World) (a0 : 0 ≤ a) (a1 : a ≤ 18446744073709551615) (b0 : 0 ≤ b) (b1 : b ≤ 18446744073709551615) :
    Calls Tryz.prog 32 #[.int .i64 53, .int .u64 a, .int .u64 b] w fun e w' => e = .returned (.int .u64 (aluF 53 a b)) ∧ w' = w := by
  have HP := hide (prod_53 a b w a0 a1 b0 b1)
  generalize aluF 53 a b = v at *
  go_enter Tryz.func32, Tryz.ntmps32
  go_wp2_with fail
  refine HP.out.mono ?_
  rintro e w' ⟨rfl, rfl⟩
  go_wp2
  go_ret
  exact ⟨rfl, rfl⟩

theorem alu_54 (a b : Int) (w : World) (a0 : 0 ≤ a) (a1 : a ≤ 18446744073709551615) (b0 : 0 ≤ b) (b1 : b ≤ 18446744073709551615) :
    Calls Tryz.prog 32 #[.int .i64 54, .int .u64 a, .int .u64 b] w fun e w' => e = .returned (.int .u64 (aluF 54 a b)) ∧ w' = w := by
  have sa := s64_bd a
  have sb := s64_bd b
  have HP := hide (quo_i64 (s64 a) (s64 b) w sa.1 sa.2 sb.1 sb.2)
  have hv : IntKind.u64.wrap (if s64 b = 0 then -1 else s64 ((s64 a).tdiv (s64 b))) = aluF 54 a b := by
    simp only [wrap_u64, aluF, s64_zero b0 b1]
    split
    · decide
    · rw [u64_s64]
  have ea : wrap64 a = s64 a := wrap64_is a
  have eb : wrap64 b = s64 b := wrap64_is b
  have HV := hide hv
  clear hv
  generalize (if s64 b = 0 then -1 else s64 ((s64 a).tdiv (s64 b))) = v at *
  generalize s64 a = x at *
  generalize s64 b = y at *
  generalize aluF 54 a b = z at *
  go_enter Tryz.func32, Tryz.ntmps32
  go_wp2_with fail
  refine HP.out.mono ?_
  rintro e w' ⟨rfl, rfl⟩
  go_wp2
  go_ret
  exact ⟨ret_int HV.out, rfl⟩

theorem alu_56 (a b : Int) (w : World) (a0 : 0 ≤ a) (a1 : a ≤ 18446744073709551615) (b0 : 0 ≤ b) (b1 : b ≤ 18446744073709551615) :
    Calls Tryz.prog 32 #[.int .i64 56, .int .u64 a, .int .u64 b] w fun e w' => e = .returned (.int .u64 (aluF 56 a b)) ∧ w' = w := by
  have sa := s64_bd a
  have sb := s64_bd b
  have HP := hide (rst_i64 (s64 a) (s64 b) w sa.1 sa.2 sb.1 sb.2)
  have hv : IntKind.u64.wrap (if s64 b = 0 then s64 a else (s64 a).tmod (s64 b)) = aluF 56 a b := by
    simp only [wrap_u64, aluF, s64_zero b0 b1]
    split
    · rw [u64_s64, u64_id a0 a1]
    · rfl
  have ea : wrap64 a = s64 a := wrap64_is a
  have eb : wrap64 b = s64 b := wrap64_is b
  have HV := hide hv
  clear hv
  generalize (if s64 b = 0 then s64 a else (s64 a).tmod (s64 b)) = v at *
  generalize s64 a = x at *
  generalize s64 b = y at *
  generalize aluF 56 a b = z at *
  go_enter Tryz.func32, Tryz.ntmps32
  go_wp2_with fail
  refine HP.out.mono ?_
  rintro e w' ⟨rfl, rfl⟩
  go_wp2
  go_ret
  exact ⟨ret_int HV.out, rfl⟩

theorem alu_55 (a b : Int) (w : World) (a0 : 0 ≤ a) (a1 : a ≤ 18446744073709551615) (b0 : 0 ≤ b) (b1 : b ≤ 18446744073709551615) :
    Calls Tryz.prog 32 #[.int .i64 55, .int .u64 a, .int .u64 b] w fun e w' => e = .returned (.int .u64 (aluF 55 a b)) ∧ w' = w := by
  have HP := hide (quo_u64 a b w a0 a1 b0 b1)
  have e : aluF 55 a b = (if b = 0 then 18446744073709551615 else a / b) := rfl
  rw [e]
  clear e
  generalize (if b = 0 then 18446744073709551615 else a / b) = v at *
  go_enter Tryz.func32, Tryz.ntmps32
  go_wp2_with fail
  refine HP.out.mono ?_
  rintro e w' ⟨rfl, rfl⟩
  go_wp2
  go_ret
  exact ⟨rfl, rfl⟩

theorem alu_57 (a b : Int) (w : World) (a0 : 0 ≤ a) (a1 : a ≤ 18446744073709551615) (b0 : 0 ≤ b) (b1 : b ≤ 18446744073709551615) :
    Calls Tryz.prog 32 #[.int .i64 57, .int .u64 a, .int .u64 b] w fun e w' => e = .returned (.int .u64 (aluF 57 a b)) ∧ w' = w := by
  have HP := hide (rst_u64 a b w a0 a1 b0 b1)
  have e : aluF 57 a b = (if b = 0 then a else a % b) := rfl
  rw [e]
  clear e
  generalize (if b = 0 then a else a % b) = v at *
  go_enter Tryz.func32, Tryz.ntmps32
  go_wp2_with fail
  refine HP.out.mono ?_
  rintro e w' ⟨rfl, rfl⟩
  go_wp2
  go_ret
  exact ⟨rfl, rfl⟩

theorem wrd_41 (a b : Int) (w : World) (a0 : 0 ≤ a) (a1 : a ≤ 4294967295) (b0 : 0 ≤ b) (b1 : b ≤ 4294967295) :
    Calls Tryz.prog 69 #[.int .i64 41, .int .u32 a, .int .u32 b] w fun e w' => e = .returned (.int .u32 (u32 (a + b))) ∧ w' = w := by
  go_enter Tryz.func69, Tryz.ntmps69
  go_wp2
  go_ret
  refine ⟨ret_int ?_, rfl⟩
  first | rfl | (simp only [aluF, wrap_u64, wrap_u32, wrap_s64, wrap_s32, wrap64_is, wrap32_is, sx_def]; done) | (simp only [aluF, wrap_u64, wrap_u32, wrap_s64, wrap_s32, wrap64_is, wrap32_is, sx_def]; rfl) | (rw [HK.out]; rfl)

theorem alu_41 (a b : Int) (w : World) (a0 : 0 ≤ a) (a1 : a ≤ 18446744073709551615) (b0 : 0 ≤ b) (b1 : b ≤ 18446744073709551615) :
    Calls Tryz.prog 32 #[.int .i64 41, .int .u64 a, .int .u64 b] w fun e w' => e = .returned (.int .u64 (aluF 41 a b)) ∧ w' = w := by
  have sa := u32_bd a
  have sb := u32_bd b
  have HP := hide (wrd_41 (u32 a) (u32 b) w sa.1 sa.2 sb.1 sb.2)
  have hv : sx (u32 ((u32 a) + (u32 b))) = aluF 41 a b := by
    simp only [aluF]
    rw [sx_u32, sx_add]
  have HV := hide hv
  clear hv
  have ea : IntKind.u32.wrap a = u32 a := wrap_u32 a
  have eb : IntKind.u32.wrap b = u32 b := wrap_u32 b
  generalize (u32 ((u32 a) + (u32 b))) = v at *
  generalize u32 a = x at *
  generalize u32 b = y at *
  go_enter Tryz.func32, Tryz.ntmps32
  go_wp2_with fail
  refine HP.out.mono ?_
  rintro e w' ⟨rfl, rfl⟩
  go_wp2_with fail
  refine (ext_any _ _).mono ?_
  rintro e w' ⟨rfl, rfl⟩
  go_wp2
  go_ret
  exact ⟨ret_int HV.out, rfl⟩

theorem wrd_42 (a b : Int) (w : World) (a0 : 0 ≤ a) (a1 : a ≤ 4294967295) (b0 : 0 ≤ b) (b1 : b ≤ 4294967295) :
    Calls Tryz.prog 69 #[.int .i64 42, .int .u32 a, .int .u32 b] w fun e w' => e = .returned (.int .u32 (u32 (a * 2 ^ (b % 32).toNat))) ∧ w' = w := by
  obtain ⟨k, hk, hk1, hk2⟩ := and31w b0 b1
  have HK := hide hk2
  clear hk2
  go_enter Tryz.func69, Tryz.ntmps69
  go_wp2
  go_ret
  refine ⟨ret_int ?_, rfl⟩
  first | rfl | (simp only [aluF, wrap_u64, wrap_u32, wrap_s64, wrap_s32, wrap64_is, wrap32_is, sx_def, HK.out]; done) | (simp only [aluF, wrap_u64, wrap_u32, wrap_s64, wrap_s32, wrap64_is, wrap32_is, sx_def, HK.out]; rfl) | (rw [HK.out]; rfl)

theorem alu_42 (a b : Int) (w : World) (a0 : 0 ≤ a) (a1 : a ≤ 18446744073709551615) (b0 : 0 ≤ b) (b1 : b ≤ 18446744073709551615) :
    Calls Tryz.prog 32 #[.int .i64 42, .int .u64 a, .int .u64 b] w fun e w' => e = .returned (.int .u64 (aluF 42 a b)) ∧ w' = w := by
  have sa := u32_bd a
  have sb := u32_bd b
  have HP := hide (wrd_42 (u32 a) (u32 b) w sa.1 sa.2 sb.1 sb.2)
  have hv : sx (u32 ((u32 a) * 2 ^ ((u32 b) % 32).toNat)) = aluF 42 a b := by
    simp only [aluF]
    rw [sx_u32, u32_mod, sx_mul1]
  have HV := hide hv
  clear hv
  have ea : IntKind.u32.wrap a = u32 a := wrap_u32 a
  have eb : IntKind.u32.wrap b = u32 b := wrap_u32 b
  generalize (u32 ((u32 a) * 2 ^ ((u32 b) % 32).toNat)) = v at *
  generalize u32 a = x at *
  generalize u32 b = y at *
  go_enter Tryz.func32, Tryz.ntmps32
  go_wp2_with fail
  refine HP.out.mono ?_
  rintro e w' ⟨rfl, rfl⟩
  go_wp2_with fail
  refine (ext_any _ _).mono ?_
  rintro e w' ⟨rfl, rfl⟩
  go_wp2
  go_ret
  exact ⟨ret_int HV.out, rfl⟩

theorem wrd_43 (a b : Int) (w : World) (a0 : 0 ≤ a) (a1 : a ≤ 4294967295) (b0 : 0 ≤ b) (b1 : b ≤ 4294967295) :
    Calls Tryz.prog 69 #[.int .i64 43, .int .u32 a, .int .u32 b] w fun e w' => e = .returned (.int .u32 (a / 2 ^ (b % 32).toNat)) ∧ w' = w := by
  obtain ⟨k, hk, hk1, hk2⟩ := and31w b0 b1
  have HK := hide hk2
  clear hk2
  go_enter Tryz.func69, Tryz.ntmps69
  go_wp2
  go_ret
  refine ⟨ret_int ?_, rfl⟩
  first | rfl | (simp only [aluF, wrap_u64, wrap_u32, wrap_s64, wrap_s32, wrap64_is, wrap32_is, sx_def, HK.out]; done) | (simp only [aluF, wrap_u64, wrap_u32, wrap_s64, wrap_s32, wrap64_is, wrap32_is, sx_def, HK.out]; rfl) | (rw [HK.out]; rfl)

theorem alu_43 (a b : Int) (w : World) (a0 : 0 ≤ a) (a1 : a ≤ 18446744073709551615) (b0 : 0 ≤ b) (b1 : b ≤ 18446744073709551615) :
    Calls Tryz.prog 32 #[.int .i64 43, .int .u64 a, .int .u64 b] w fun e w' => e = .returned (.int .u64 (aluF 43 a b)) ∧ w' = w := by
  have sa := u32_bd a
  have sb := u32_bd b
  have HP := hide (wrd_43 (u32 a) (u32 b) w sa.1 sa.2 sb.1 sb.2)
  have hv : sx ((u32 a) / 2 ^ ((u32 b) % 32).toNat) = aluF 43 a b := by
    simp only [aluF]
    rw [u32_mod]
  have HV := hide hv
  clear hv
  have ea : IntKind.u32.wrap a = u32 a := wrap_u32 a
  have eb : IntKind.u32.wrap b = u32 b := wrap_u32 b
  generalize ((u32 a) / 2 ^ ((u32 b) % 32).toNat) = v at *
  generalize u32 a = x at *
  generalize u32 b = y at *
  go_enter Tryz.func32, Tryz.ntmps32
  go_wp2_with fail
  refine HP.out.mono ?_
  rintro e w' ⟨rfl, rfl⟩
  go_wp2_with fail
  refine (ext_any _ _).mono ?_
  rintro e w' ⟨rfl, rfl⟩
  go_wp2
  go_ret
  exact ⟨ret_int HV.out, rfl⟩

theorem wrd_44 (a b : Int) (w : World) (a0 : 0 ≤ a) (a1 : a ≤ 4294967295) (b0 : 0 ≤ b) (b1 : b ≤ 4294967295) :
    Calls Tryz.prog 69 #[.int .i64 44, .int .u32 a, .int .u32 b] w fun e w' => e = .returned (.int .u32 (u32 (s32 a / 2 ^ (b % 32).toNat))) ∧ w' = w := by
  obtain ⟨k, hk, hk1, hk2⟩ := and31w b0 b1
  have HK := hide hk2
  clear hk2
  go_enter Tryz.func69, Tryz.ntmps69
  go_wp2
  go_ret
  refine ⟨ret_int ?_, rfl⟩
  first | rfl | (simp only [aluF, wrap_u64, wrap_u32, wrap_s64, wrap_s32, wrap64_is, wrap32_is, sx_def, HK.out]; done) | (simp only [aluF, wrap_u64, wrap_u32, wrap_s64, wrap_s32, wrap64_is, wrap32_is, sx_def, HK.out]; rfl) | (rw [HK.out]; rfl)

theorem alu_44 (a b : Int) (w : World) (a0 : 0 ≤ a) (a1 : a ≤ 18446744073709551615) (b0 : 0 ≤ b) (b1 : b ≤ 18446744073709551615) :
    Calls Tryz.prog 32 #[.int .i64 44, .int .u64 a, .int .u64 b] w fun e w' => e = .returned (.int .u64 (aluF 44 a b)) ∧ w' = w := by
  have sa := u32_bd a
  have sb := u32_bd b
  have HP := hide (wrd_44 (u32 a) (u32 b) w sa.1 sa.2 sb.1 sb.2)
  have hv : sx (u32 (s32 (u32 a) / 2 ^ ((u32 b) % 32).toNat)) = aluF 44 a b := by
    simp only [aluF]
    rw [sx_u32, s32_u32, u32_mod, sx_sra]
  have HV := hide hv
  clear hv
  have ea : IntKind.u32.wrap a = u32 a := wrap_u32 a
  have eb : IntKind.u32.wrap b = u32 b := wrap_u32 b
  generalize (u32 (s32 (u32 a) / 2 ^ ((u32 b) % 32).toNat)) = v at *
  generalize u32 a = x at *
  generalize u32 b = y at *
  go_enter Tryz.func32, Tryz.ntmps32
  go_wp2_with fail
  refine HP.out.mono ?_
  rintro e w' ⟨rfl, rfl⟩
  go_wp2_with fail
  refine (ext_any _ _).mono ?_
  rintro e w' ⟨rfl, rfl⟩
  go_wp2
  go_ret
  exact ⟨ret_int HV.out, rfl⟩

theorem wrd_45 (a b : Int) (w : World) (a0 : 0 ≤ a) (a1 : a ≤ 4294967295) (b0 : 0 ≤ b) (b1 : b ≤ 4294967295) :
    Calls Tryz.prog 69 #[.int .i64 45, .int .u32 a, .int .u32 b] w fun e w' => e = .returned (.int .u32 (u32 (a + b))) ∧ w' = w := by
  go_enter Tryz.func69, Tryz.ntmps69
  go_wp2
  go_ret
  refine ⟨ret_int ?_, rfl⟩
  first | rfl | (simp only [aluF, wrap_u64, wrap_u32, wrap_s64, wrap_s32, wrap64_is, wrap32_is, sx_def]; done) | (simp only [aluF, wrap_u64, wrap_u32, wrap_s64, wrap_s32, wrap64_is, wrap32_is, sx_def]; rfl) | (rw [HK.out]; rfl)

theorem alu_45 (a b : Int) (w : World) (a0 : 0 ≤ a) (a1 : a ≤ 18446744073709551615) (b0 : 0 ≤ b) (b1 : b ≤ 18446744073709551615) :
    Calls Tryz.prog 32 #[.int .i64 45, .int .u64 a, .int .u64 b] w fun e w' => e = .returned (.int .u64 (aluF 45 a b)) ∧ w' = w := by
  have sa := u32_bd a
  have sb := u32_bd b
  have HP := hide (wrd_45 (u32 a) (u32 b) w sa.1 sa.2 sb.1 sb.2)
  have hv : sx (u32 ((u32 a) + (u32 b))) = aluF 45 a b := by
    simp only [aluF]
    rw [sx_u32, sx_add]
  have HV := hide hv
  clear hv
  have ea : IntKind.u32.wrap a = u32 a := wrap_u32 a
  have eb : IntKind.u32.wrap b = u32 b := wrap_u32 b
  generalize (u32 ((u32 a) + (u32 b))) = v at *
  generalize u32 a = x at *
  generalize u32 b = y at *
  go_enter Tryz.func32, Tryz.ntmps32
  go_wp2_with fail
  refine HP.out.mono ?_
  rintro e w' ⟨rfl, rfl⟩
  go_wp2_with fail
  refine (ext_any _ _).mono ?_
  rintro e w' ⟨rfl, rfl⟩
  go_wp2
  go_ret
  exact ⟨ret_int HV.out, rfl⟩

theorem wrd_46 (a b : Int) (w : World) (a0 : 0 ≤ a) (a1 : a ≤ 4294967295) (b0 : 0 ≤ b) (b1 : b ≤ 4294967295) :
    Calls Tryz.prog 69 #[.int .i64 46, .int .u32 a, .int .u32 b] w fun e w' => e = .returned (.int .u32 (u32 (a - b))) ∧ w' = w := by
  go_enter Tryz.func69, Tryz.ntmps69
  go_wp2
  go_ret
  refine ⟨ret_int ?_, rfl⟩
  first | rfl | (simp only [aluF, wrap_u64, wrap_u32, wrap_s64, wrap_s32, wrap64_is, wrap32_is, sx_def]; done) | (simp only [aluF, wrap_u64, wrap_u32, wrap_s64, wrap_s32, wrap64_is, wrap32_is, sx_def]; rfl) | (rw [HK.out]; rfl)

theorem alu_46 (a b : Int) (w : World) (a0 : 0 ≤ a) (a1 : a ≤ 18446744073709551615) (b0 : 0 ≤ b) (b1 : b ≤ 18446744073709551615) :
    Calls Tryz.prog 32 #[.int .i64 46, .int .u64 a, .int .u64 b] w fun e w' => e = .returned (.int .u64 (aluF 46 a b)) ∧ w' = w := by
  have sa := u32_bd a
  have sb := u32_bd b
  have HP := hide (wrd_46 (u32 a) (u32 b) w sa.1 sa.2 sb.1 sb.2)
  have hv : sx (u32 ((u32 a) - (u32 b))) = aluF 46 a b := by
    simp only [aluF]
    rw [sx_u32, sx_sub]
  have HV := hide hv
  clear hv
  have ea : IntKind.u32.wrap a = u32 a := wrap_u32 a
  have eb : IntKind.u32.wrap b = u32 b := wrap_u32 b
  generalize (u32 ((u32 a) - (u32 b))) = v at *
  generalize u32 a = x at *
  generalize u32 b = y at *
  go_enter Tryz.func32, Tryz.ntmps32
  go_wp2_with fail
  refine HP.out.mono ?_
  rintro e w' ⟨rfl, rfl⟩
  go_wp2_with fail
  refine (ext_any _ _).mono ?_
  rintro e w' ⟨rfl, rfl⟩
  go_wp2
  go_ret
  exact ⟨ret_int HV.out, rfl⟩

theorem wrd_47 (a b : Int) (w : World) (a0 : 0 ≤ a) (a1 : a ≤ 4294967295) (b0 : 0 ≤ b) (b1 : b ≤ 4294967295) :
    Calls Tryz.prog 69 #[.int .i64 47, .int .u32 a, .int .u32 b] w fun e w' => e = .returned (.int .u32 (u32 (a * 2 ^ (b % 32).toNat))) ∧ w' = w := by
  obtain ⟨k, hk, hk1, hk2⟩ := and31w b0 b1
  have HK := hide hk2
  clear hk2
  go_enter Tryz.func69, Tryz.ntmps69
  go_wp2
  go_ret
  refine ⟨ret_int ?_, rfl⟩
  first | rfl | (simp only [aluF, wrap_u64, wrap_u32, wrap_s64, wrap_s32, wrap64_is, wrap32_is, sx_def, HK.out]; done) | (simp only [aluF, wrap_u64, wrap_u32, wrap_s64, wrap_s32, wrap64_is, wrap32_is, sx_def, HK.out]; rfl) | (rw [HK.out]; rfl)

theorem alu_47 (a b : Int) (w : World) (a0 : 0 ≤ a) (a1 : a ≤ 18446744073709551615) (b0 : 0 ≤ b) (b1 : b ≤ 18446744073709551615) :
    Calls Tryz.prog 32 #[.int .i64 47, .int .u64 a, .int .u64 b] w fun e w' => e = .returned (.int .u64 (aluF 47 a b)) ∧ w' = w := by
  have sa := u32_bd a
  have sb := u32_bd b
  have HP := hide (wrd_47 (u32 a) (u32 b) w sa.1 sa.2 sb.1 sb.2)
  have hv : sx (u32 ((u32 a) * 2 ^ ((u32 b) % 32).toNat)) = aluF 47 a b := by
    simp only [aluF]
    rw [sx_u32, u32_mod, sx_mul1]
  have HV := hide hv
  clear hv
  have ea : IntKind.u32.wrap a = u32 a := wrap_u32 a
  have eb : IntKind.u32.wrap b = u32 b := wrap_u32 b
  generalize (u32 ((u32 a) * 2 ^ ((u32 b) % 32).toNat)) = v at *
  generalize u32 a = x at *
  generalize u32 b = y at *
  go_enter Tryz.func32, Tryz.ntmps32
  go_wp2_with fail
  refine HP.out.mono ?_
  rintro e w' ⟨rfl, rfl⟩
  go_wp2_with fail
  refine (ext_any _ _).mono ?_
  rintro e w' ⟨rfl, rfl⟩
  go_wp2
  go_ret
  exact ⟨ret_int HV.out, rfl⟩

theorem wrd_48 (a b : Int) (w : World) (a0 : 0 ≤ a) (a1 : a ≤ 4294967295) (b0 : 0 ≤ b) (b1 : b ≤ 4294967295) :
    Calls Tryz.prog 69 #[.int .i64 48, .int .u32 a, .int .u32 b] w fun e w' => e = .returned (.int .u32 (a / 2 ^ (b % 32).toNat)) ∧ w' = w := by
  obtain ⟨k, hk, hk1, hk2⟩ := and31w b0 b1
  have HK := hide hk2
  clear hk2
  go_enter Tryz.func69, Tryz.ntmps69
  go_wp2
  go_ret
  refine ⟨ret_int ?_, rfl⟩
  first | rfl | (simp only [aluF, wrap_u64, wrap_u32, wrap_s64, wrap_s32, wrap64_is, wrap32_is, sx_def, HK.out]; done) | (simp only [aluF, wrap_u64, wrap_u32, wrap_s64, wrap_s32, wrap64_is, wrap32_is, sx_def, HK.out]; rfl) | (rw [HK.out]; rfl)

theorem alu_48 (a b : Int) (w : World) (a0 : 0 ≤ a) (a1 : a ≤ 18446744073709551615) (b0 : 0 ≤ b) (b1 : b ≤ 18446744073709551615) :
    Calls Tryz.prog 32 #[.int .i64 48, .int .u64 a, .int .u64 b] w fun e w' => e = .returned (.int .u64 (aluF 48 a b)) ∧ w' = w := by
  have sa := u32_bd a
  have sb := u32_bd b
  have HP := hide (wrd_48 (u32 a) (u32 b) w sa.1 sa.2 sb.1 sb.2)
  have hv : sx ((u32 a) / 2 ^ ((u32 b) % 32).toNat) = aluF 48 a b := by
    simp only [aluF]
    rw [u32_mod]
  have HV := hide hv
  clear hv
  have ea : IntKind.u32.wrap a = u32 a := wrap_u32 a
  have eb : IntKind.u32.wrap b = u32 b := wrap_u32 b
  generalize ((u32 a) / 2 ^ ((u32 b) % 32).toNat) = v at *
  generalize u32 a = x at *
  generalize u32 b = y at *
  go_enter Tryz.func32, Tryz.ntmps32
  go_wp2_with fail
  refine HP.out.mono ?_
  rintro e w' ⟨rfl, rfl⟩
  go_wp2_with fail
  refine (ext_any _ _).mono ?_
  rintro e w' ⟨rfl, rfl⟩
  go_wp2
  go_ret
  exact ⟨ret_int HV.out, rfl⟩

theorem wrd_49 (a b : Int) (w : World) (a0 : 0 ≤ a) (a1 : a ≤ 4294967295) (b0 : 0 ≤ b) (b1 : b ≤ 4294967295) :
    Calls Tryz.prog 69 #[.int .i64 49, .int .u32 a, .int .u32 b] w fun e w' => e = .returned (.int .u32 (u32 (s32 a / 2 ^ (b % 32).toNat))) ∧ w' = w := by
  obtain ⟨k, hk, hk1, hk2⟩ := and31w b0 b1
  have HK := hide hk2
  clear hk2
  go_enter Tryz.func69, Tryz.ntmps69
  go_wp2
  go_ret
  refine ⟨ret_int ?_, rfl⟩
  first | rfl | (simp only [aluF, wrap_u64, wrap_u32, wrap_s64, wrap_s32, wrap64_is, wrap32_is, sx_def, HK.out]; done) | (simp only [aluF, wrap_u64, wrap_u32, wrap_s64, wrap_s32, wrap64_is, wrap32_is, sx_def, HK.out]; rfl) | (rw [HK.out]; rfl)

theorem alu_49 (a b : Int) (w : World) (a0 : 0 ≤ a) (a1 : a ≤ 18446744073709551615) (b0 : 0 ≤ b) (b1 : b ≤ 18446744073709551615) :
    Calls Tryz.prog 32 #[.int .i64 49, .int .u64 a, .int .u64 b] w fun e w' => e = .returned (.int .u64 (aluF 49 a b)) ∧ w' = w := by
  have sa := u32_bd a
  have sb := u32_bd b
  have HP := hide (wrd_49 (u32 a) (u32 b) w sa.1 sa.2 sb.1 sb.2)
  have hv : sx (u32 (s32 (u32 a) / 2 ^ ((u32 b) % 32).toNat)) = aluF 49 a b := by
    simp only [aluF]
    rw [sx_u32, s32_u32, u32_mod, sx_sra]
  have HV := hide hv
  clear hv
  have ea : IntKind.u32.wrap a = u32 a := wrap_u32 a
  have eb : IntKind.u32.wrap b = u32 b := wrap_u32 b
  generalize (u32 (s32 (u32 a) / 2 ^ ((u32 b) % 32).toNat)) = v at *
  generalize u32 a = x at *
  generalize u32 b = y at *
  go_enter Tryz.func32, Tryz.ntmps32
  go_wp2_with fail
  refine HP.out.mono ?_
  rintro e w' ⟨rfl, rfl⟩
  go_wp2_with fail
  refine (ext_any _ _).mono ?_
  rintro e w' ⟨rfl, rfl⟩
  go_wp2
  go_ret
  exact ⟨ret_int HV.out, rfl⟩

theorem wrd_58 (a b : Int) (w : World) (a0 : 0 ≤ a) (a1 : a ≤ 4294967295) (b0 : 0 ≤ b) (b1 : b ≤ 4294967295) :
    Calls Tryz.prog 69 #[.int .i64 58, .int .u32 a, .int .u32 b] w fun e w' => e = .returned (.int .u32 (u32 (a * b))) ∧ w' = w := by
  go_enter Tryz.func69, Tryz.ntmps69
  go_wp2
  go_ret
  refine ⟨ret_int ?_, rfl⟩
  first | rfl | (simp only [aluF, wrap_u64, wrap_u32, wrap_s64, wrap_s32, wrap64_is, wrap32_is, sx_def]; done) | (simp only [aluF, wrap_u64, wrap_u32, wrap_s64, wrap_s32, wrap64_is, wrap32_is, sx_def]; rfl) | (rw [HK.out]; rfl)

theorem alu_58 (a b : Int) (w : World) (a0 : 0 ≤ a) (a1 : a ≤ 18446744073709551615) (b0 : 0 ≤ b) (b1 : b ≤ 18446744073709551615) :
    Calls Tryz.prog 32 #[.int .i64 58, .int .u64 a, .int .u64 b] w fun e w' => e = .returned (.int .u64 (aluF 58 a b)) ∧ w' = w := by
  have sa := u32_bd a
  have sb := u32_bd b
  have HP := hide (wrd_58 (u32 a) (u32 b) w sa.1 sa.2 sb.1 sb.2)
  have hv : sx (u32 ((u32 a) * (u32 b))) = aluF 58 a b := by
    simp only [aluF]
    rw [sx_u32, sx_mul]
  have HV := hide hv
  clear hv
  have ea : IntKind.u32.wrap a = u32 a := wrap_u32 a
  have eb : IntKind.u32.wrap b = u32 b := wrap_u32 b
  generalize (u32 ((u32 a) * (u32 b))) = v at *
  generalize u32 a = x at *
  generalize u32 b = y at *
  go_enter Tryz.func32, Tryz.ntmps32
  go_wp2_with fail
  refine HP.out.mono ?_
  rintro e w' ⟨rfl, rfl⟩
  go_wp2_with fail
  refine (ext_any _ _).mono ?_
  rintro e w' ⟨rfl, rfl⟩
  go_wp2
  go_ret
  exact ⟨ret_int HV.out, rfl⟩

theorem wrd_59 (a b : Int) (w : World) (a0 : 0 ≤ a) (a1 : a ≤ 4294967295) (b0 : 0 ≤ b) (b1 : b ≤ 4294967295) :
    Calls Tryz.prog 69 #[.int .i64 59, .int .u32 a, .int .u32 b] w fun e w' => e = .returned (.int .u32 (u32 (if s32 b = 0 then -1 else s32 ((s32 a).tdiv (s32 b))))) ∧ w' = w := by
  have sa := s32_bd a
  have sb := s32_bd b
  have HP := hide (quo_i32 (s32 a) (s32 b) w sa.1 sa.2 sb.1 sb.2)
  have ea : wrap32 a = s32 a := wrap32_is a
  have eb : wrap32 b = s32 b := wrap32_is b
  generalize (if s32 b = 0 then -1 else s32 ((s32 a).tdiv (s32 b))) = v at *
  generalize s32 a = x at *
  generalize s32 b = y at *
  go_enter Tryz.func69, Tryz.ntmps69
  go_wp2_with fail
  refine HP.out.mono ?_
  rintro e w' ⟨rfl, rfl⟩
  go_wp2
  go_ret
  refine ⟨ret_int ?_, rfl⟩
  first | rfl | (simp only [aluF, wrap_u64, wrap_u32, wrap_s64, wrap_s32, wrap64_is, wrap32_is, sx_def]; done) | (simp only [aluF, wrap_u64, wrap_u32, wrap_s64, wrap_s32, wrap64_is, wrap32_is, sx_def]; rfl) | (rw [HK.out]; rfl)

theorem alu_59 (a b : Int) (w : World) (a0 : 0 ≤ a) (a1 : a ≤ 18446744073709551615) (b0 : 0 ≤ b) (b1 : b ≤ 18446744073709551615) :
    Calls Tryz.prog 32 #[.int .i64 59, .int .u64 a, .int .u64 b] w fun e w' => e = .returned (.int .u64 (aluF 59 a b)) ∧ w' = w := by
  have sa := u32_bd a
  have sb := u32_bd b
  have HP := hide (wrd_59 (u32 a) (u32 b) w sa.1 sa.2 sb.1 sb.2)
  have hv : sx (u32 (if s32 (u32 b) = 0 then -1 else s32 ((s32 (u32 a)).tdiv (s32 (u32 b))))) = aluF 59 a b := by
    simp only [aluF]
    rw [sx_u32, s32_u32, s32_u32]; simp only [s32_zero]; split
    · decide
    · rw [sx_s32]
  have HV := hide hv
  clear hv
  have ea : IntKind.u32.wrap a = u32 a := wrap_u32 a
  have eb : IntKind.u32.wrap b = u32 b := wrap_u32 b
  generalize (u32 (if s32 (u32 b) = 0 then -1 else s32 ((s32 (u32 a)).tdiv (s32 (u32 b))))) = v at *
  generalize u32 a = x at *
  generalize u32 b = y at *
  go_enter Tryz.func32, Tryz.ntmps32
  go_wp2_with fail
  refine HP.out.mono ?_
  rintro e w' ⟨rfl, rfl⟩
  go_wp2_with fail
  refine (ext_any _ _).mono ?_
  rintro e w' ⟨rfl, rfl⟩
  go_wp2
  go_ret
  exact ⟨ret_int HV.out, rfl⟩

theorem wrd_60 (a b : Int) (w : World) (a0 : 0 ≤ a) (a1 : a ≤ 4294967295) (b0 : 0 ≤ b) (b1 : b ≤ 4294967295) :
    Calls Tryz.prog 69 #[.int .i64 60, .int .u32 a, .int .u32 b] w fun e w' => e = .returned (.int .u32 (if b = 0 then 4294967295 else a / b)) ∧ w' = w := by
  have HP := hide (quo_u32 a b w a0 a1 b0 b1)
  generalize (if b = 0 then 4294967295 else a / b) = v at *
  go_enter Tryz.func69, Tryz.ntmps69
  go_wp2_with fail
  refine HP.out.mono ?_
  rintro e w' ⟨rfl, rfl⟩
  go_wp2
  go_ret
  exact ⟨rfl, rfl⟩

theorem alu_60 (a b : Int) (w : World) (a0 : 0 ≤ a) (a1 : a ≤ 18446744073709551615) (b0 : 0 ≤ b) (b1 : b ≤ 18446744073709551615) :
    Calls Tryz.prog 32 #[.int .i64 60, .int .u64 a, .int .u64 b] w fun e w' => e = .returned (.int .u64 (aluF 60 a b)) ∧ w' = w := by
  have sa := u32_bd a
  have sb := u32_bd b
  have HP := hide (wrd_60 (u32 a) (u32 b) w sa.1 sa.2 sb.1 sb.2)
  have hv : sx (if (u32 b) = 0 then 4294967295 else (u32 a) / (u32 b)) = aluF 60 a b := by
    simp only [aluF]
    split
    · decide
    · rfl
  have HV := hide hv
  clear hv
  have ea : IntKind.u32.wrap a = u32 a := wrap_u32 a
  have eb : IntKind.u32.wrap b = u32 b := wrap_u32 b
  generalize (if (u32 b) = 0 then 4294967295 else (u32 a) / (u32 b)) = v at *
  generalize u32 a = x at *
  generalize u32 b = y at *
  go_enter Tryz.func32, Tryz.ntmps32
  go_wp2_with fail
  refine HP.out.mono ?_
  rintro e w' ⟨rfl, rfl⟩
  go_wp2_with fail
  refine (ext_any _ _).mono ?_
  rintro e w' ⟨rfl, rfl⟩
  go_wp2
  go_ret
  exact ⟨ret_int HV.out, rfl⟩

theorem wrd_61 (a b : Int) (w : World) (a0 : 0 ≤ a) (a1 : a ≤ 4294967295) (b0 : 0 ≤ b) (b1 : b ≤ 4294967295) :
    Calls Tryz.prog 69 #[.int .i64 61, .int .u32 a, .int .u32 b] w fun e w' => e = .returned (.int .u32 (u32 (if s32 b = 0 then s32 a else (s32 a).tmod (s32 b)))) ∧ w' = w := by
  have sa := s32_bd a
  have sb := s32_bd b
  have HP := hide (rst_i32 (s32 a) (s32 b) w sa.1 sa.2 sb.1 sb.2)
  have ea : wrap32 a = s32 a := wrap32_is a
  have eb : wrap32 b = s32 b := wrap32_is b
  generalize (if s32 b = 0 then s32 a else (s32 a).tmod (s32 b)) = v at *
  generalize s32 a = x at *
  generalize s32 b = y at *
  go_enter Tryz.func69, Tryz.ntmps69
  go_wp2_with fail
  refine HP.out.mono ?_
  rintro e w' ⟨rfl, rfl⟩
  go_wp2
  go_ret
  refine ⟨ret_int ?_, rfl⟩
  first | rfl | (simp only [aluF, wrap_u64, wrap_u32, wrap_s64, wrap_s32, wrap64_is, wrap32_is, sx_def]; done) | (simp only [aluF, wrap_u64, wrap_u32, wrap_s64, wrap_s32, wrap64_is, wrap32_is, sx_def]; rfl) | (rw [HK.out]; rfl)

theorem alu_61 (a b : Int) (w : World) (a0 : 0 ≤ a) (a1 : a ≤ 18446744073709551615) (b0 : 0 ≤ b) (b1 : b ≤ 18446744073709551615) :
    Calls Tryz.prog 32 #[.int .i64 61, .int .u64 a, .int .u64 b] w fun e w' => e = .returned (.int .u64 (aluF 61 a b)) ∧ w' = w := by
  have sa := u32_bd a
  have sb := u32_bd b
  have HP := hide (wrd_61 (u32 a) (u32 b) w sa.1 sa.2 sb.1 sb.2)
  have hv : sx (u32 (if s32 (u32 b) = 0 then s32 (u32 a) else (s32 (u32 a)).tmod (s32 (u32 b)))) = aluF 61 a b := by
    simp only [aluF]
    rw [sx_u32, s32_u32, s32_u32]; simp only [s32_zero]; split
    · rw [sx_s32]
    · rfl
  have HV := hide hv
  clear hv
  have ea : IntKind.u32.wrap a = u32 a := wrap_u32 a
  have eb : IntKind.u32.wrap b = u32 b := wrap_u32 b
  generalize (u32 (if s32 (u32 b) = 0 then s32 (u32 a) else (s32 (u32 a)).tmod (s32 (u32 b)))) = v at *
  generalize u32 a = x at *
  generalize u32 b = y at *
  go_enter Tryz.func32, Tryz.ntmps32
  go_wp2_with fail
  refine HP.out.mono ?_
  rintro e w' ⟨rfl, rfl⟩
  go_wp2_with fail
  refine (ext_any _ _).mono ?_
  rintro e w' ⟨rfl, rfl⟩
  go_wp2
  go_ret
  exact ⟨ret_int HV.out, rfl⟩

theorem wrd_62 (a b : Int) (w : World) (a0 : 0 ≤ a) (a1 : a ≤ 4294967295) (b0 : 0 ≤ b) (b1 : b ≤ 4294967295) :
    Calls Tryz.prog 69 #[.int .i64 62, .int .u32 a, .int .u32 b] w fun e w' => e = .returned (.int .u32 (if b = 0 then a else a % b)) ∧ w' = w := by
  have HP := hide (rst_u32 a b w a0 a1 b0 b1)
  generalize (if b = 0 then a else a % b) = v at *
  go_enter Tryz.func69, Tryz.ntmps69
  go_wp2_with fail
  refine HP.out.mono ?_
  rintro e w' ⟨rfl, rfl⟩
  go_wp2
  go_ret
  exact ⟨rfl, rfl⟩

theorem alu_62 (a b : Int) (w : World) (a0 : 0 ≤ a) (a1 : a ≤ 18446744073709551615) (b0 : 0 ≤ b) (b1 : b ≤ 18446744073709551615) :
    Calls Tryz.prog 32 #[.int .i64 62, .int .u64 a, .int .u64 b] w fun e w' => e = .returned (.int .u64 (aluF 62 a b)) ∧ w' = w := by
  have sa := u32_bd a
  have sb := u32_bd b
  have HP := hide (wrd_62 (u32 a) (u32 b) w sa.1 sa.2 sb.1 sb.2)
  have hv : sx (if (u32 b) = 0 then (u32 a) else (u32 a) % (u32 b)) = aluF 62 a b := by
    simp only [aluF]
    split
    · rw [sx_u32]
    · rfl
  have HV := hide hv
  clear hv
  have ea : IntKind.u32.wrap a = u32 a := wrap_u32 a
  have eb : IntKind.u32.wrap b = u32 b := wrap_u32 b
  generalize (if (u32 b) = 0 then (u32 a) else (u32 a) % (u32 b)) = v at *
  generalize u32 a = x at *
  generalize u32 b = y at *
  go_enter Tryz.func32, Tryz.ntmps32
  go_wp2_with fail
  refine HP.out.mono ?_
  rintro e w' ⟨rfl, rfl⟩
  go_wp2_with fail
  refine (ext_any _ _).mono ?_
  rintro e w' ⟨rfl, rfl⟩
  go_wp2
  go_ret
  exact ⟨ret_int HV.out, rfl⟩

theorem alu_any (o : Nat) (a b : Int) (w : World) (h0 : 22 ≤ o) (h1 : o ≤ 62) (a0 : 0 ≤ a) (a1 : a ≤ 18446744073709551615) (b0 : 0 ≤ b) (b1 : b ≤ 18446744073709551615) :
    Calls Tryz.prog 32 #[.int .i64 (o : Int), .int .u64 a, .int .u64 b] w fun e w' => e = .returned (.int .u64 (aluF o a b)) ∧ w' = w := by
  rcases (show o = 22 ∨ o = 23 ∨ o = 24 ∨ o = 25 ∨ o = 26 ∨ o = 27 ∨ o = 28 ∨ o = 29 ∨ o = 30 ∨ o = 31 ∨ o = 32 ∨ o = 33 ∨ o = 34 ∨ o = 35 ∨ o = 36 ∨ o = 37 ∨ o = 38 ∨ o = 39 ∨ o = 40 ∨ o = 41 ∨ o = 42 ∨ o = 43 ∨ o = 44 ∨ o = 45 ∨ o = 46 ∨ o = 47 ∨ o = 48 ∨ o = 49 ∨ o = 50 ∨ o = 51 ∨ o = 52 ∨ o = 53 ∨ o = 54 ∨ o = 55 ∨ o = 56 ∨ o = 57 ∨ o = 58 ∨ o = 59 ∨ o = 60 ∨ o = 61 ∨ o = 62 by omega) with rfl | rfl | rfl | rfl | rfl | rfl | rfl | rfl | rfl | rfl | rfl | rfl | rfl | rfl | rfl | rfl | rfl | rfl | rfl | rfl | rfl | rfl | rfl | rfl | rfl | rfl | rfl | rfl | rfl | rfl | rfl | rfl | rfl | rfl | rfl | rfl | rfl | rfl | rfl | rfl | rfl
  · exact alu_22 a b w a0 a1 b0 b1
  · exact alu_23 a b w a0 a1 b0 b1
  · exact alu_24 a b w a0 a1 b0 b1
  · exact alu_25 a b w a0 a1 b0 b1
  · exact alu_26 a b w a0 a1 b0 b1
  · exact alu_27 a b w a0 a1 b0 b1
  · exact alu_28 a b w a0 a1 b0 b1
  · exact alu_29 a b w a0 a1 b0 b1
  · exact alu_30 a b w a0 a1 b0 b1
  · exact alu_31 a b w a0 a1 b0 b1
  · exact alu_32 a b w a0 a1 b0 b1
  · exact alu_33 a b w a0 a1 b0 b1
  · exact alu_34 a b w a0 a1 b0 b1
  · exact alu_35 a b w a0 a1 b0 b1
  · exact alu_36 a b w a0 a1 b0 b1
  · exact alu_37 a b w a0 a1 b0 b1
  · exact alu_38 a b w a0 a1 b0 b1
  · exact alu_39 a b w a0 a1 b0 b1
  · exact alu_40 a b w a0 a1 b0 b1
  · exact alu_41 a b w a0 a1 b0 b1
  · exact alu_42 a b w a0 a1 b0 b1
  · exact alu_43 a b w a0 a1 b0 b1
  · exact alu_44 a b w a0 a1 b0 b1
  · exact alu_45 a b w a0 a1 b0 b1
  · exact alu_46 a b w a0 a1 b0 b1
  · exact alu_47 a b w a0 a1 b0 b1
  · exact alu_48 a b w a0 a1 b0 b1
  · exact alu_49 a b w a0 a1 b0 b1
  · exact alu_50 a b w a0 a1 b0 b1
  · exact alu_51 a b w a0 a1 b0 b1
  · exact alu_52 a b w a0 a1 b0 b1
  · exact alu_53 a b w a0 a1 b0 b1
  · exact alu_54 a b w a0 a1 b0 b1
  · exact alu_55 a b w a0 a1 b0 b1
  · exact alu_56 a b w a0 a1 b0 b1
  · exact alu_57 a b w a0 a1 b0 b1
  · exact alu_58 a b w a0 a1 b0 b1
  · exact alu_59 a b w a0 a1 b0 b1
  · exact alu_60 a b w a0 a1 b0 b1
  · exact alu_61 a b w a0 a1 b0 b1
  · exact alu_62 a b w a0 a1 b0 b1

end Go.Proofs.YtdhjjlnabbpinaaGreatDoor

/- Contracts of package mach's calls that read an instruction: upper, place, operand, taken, width. -/
namespace Go.Proofs.YtdhjjlnabbpinaaGreatDoor
open Go.RowKit Go.Maps
set_option linter.unusedVariables false
set_option maxRecDepth 100000

/-- The cells of an instruction that was laid in block X. -/
structure InX (w : World) (X : Nat) (o rd r1 r2 im : Int) : Prop where
  c0 : w.cell? ⟨X, 0, none⟩ = some (.int .i64 o)
  c1 : w.cell? ⟨X, 1, none⟩ = some (.int .i64 rd)
  c2 : w.cell? ⟨X, 2, none⟩ = some (.int .i64 r1)
  c3 : w.cell? ⟨X, 3, none⟩ = some (.int .i64 r2)
  c4 : w.cell? ⟨X, 4, none⟩ = some (.int .i64 im)

theorem InX.new (w : World) (ty : TypeId) (o rd r1 r2 im : Int) : InX (w.alloc (.cells #[.int .i64 o, .int .i64 rd, .int .i64 r1, .int .i64 r2, .int .i64 im] ty)) w.heap.size o rd r1 r2 im :=
  ⟨by rw [cell_new]; rfl, by rw [cell_new]; rfl, by rw [cell_new]; rfl, by rw [cell_new]; rfl, by rw [cell_new]; rfl⟩
theorem InX.kept {w w' : World} {X : Nat} {o rd r1 r2 im : Int} (h : InX w X o rd r1 r2 im) {F : Nat → Prop} (hk : Kept F w w') (hX : ¬ F X) : InX w' X o rd r1 r2 im :=
  ⟨hk.cell h.c0 hX, hk.cell h.c1 hX, hk.cell h.c2 hX, hk.cell h.c3 hX, hk.cell h.c4 hX⟩
theorem InX.below {w w' : World} {X : Nat} {o rd r1 r2 im : Int} (h : InX w X o rd r1 r2 im) (hb : Below w.heap.size w w') : InX w' X o rd r1 r2 im :=
  h.kept (kept_of_below hb (fun _ => False)) (fun h => h)

section
variable {w w' : World} {m mm me b n : Nat} {f : Int → Option Value} {x : Nat → Int} {pc : Nat} {k c t : Int} {F G : Nat → Prop}

theorem HD.kept (h : HD m mm me x pc k c t w F) (hk : Kept G w w') (hd : ∀ k, F k → ¬ G k) : HD m mm me x pc k c t w' F := by
  obtain ⟨b, n, f, h⟩ := h
  exact ⟨b, n, f, h.kept hk hd⟩
theorem HD.below (h : HD m mm me x pc k c t w F) (hb : Below w.heap.size w w') : HD m mm me x pc k c t w' F := h.kept (kept_of_below hb (fun _ => False)) (fun _ _ h => h)
theorem HD.fits (h : HD m mm me x pc k c t w F) : Fits x pc k c t := by
  obtain ⟨b, n, f, h⟩ := h
  exact h.fits
theorem HD.flt (h : HD m mm me x pc k c t w F) : ∀ k, F k → k < w.heap.size := by
  obtain ⟨b, n, f, h⟩ := h
  exact h.flt
theorem HD.fm (h : HD m mm me x pc k c t w F) : F m := by
  obtain ⟨b, n, f, h⟩ := h
  exact h.fm
theorem HD.c0 (h : HD m mm me x pc k c t w F) : w.cell? ⟨m, 0, none⟩ = some (.pointer (some ⟨mm, 0, none⟩)) := by
  obtain ⟨b, n, f, h⟩ := h
  exact h.cell 0
theorem HD.c1 (h : HD m mm me x pc k c t w F) : w.cell? ⟨m, 1, none⟩ = some (.pointer (some ⟨me, 0, none⟩)) := by
  obtain ⟨b, n, f, h⟩ := h
  exact h.cell 1
theorem HD.c3 (h : HD m mm me x pc k c t w F) : w.cell? ⟨m, 3, none⟩ = some (.int .u64 (pc : Int)) := by
  obtain ⟨b, n, f, h⟩ := h
  exact h.cell 3
theorem below_alloc (w : World) (o : Obj) : Below w.heap.size w (w.alloc o) := (Below.refl _ _).alloc (Nat.le_refl _) _
theorem bel_drewN' (w : World) : ∀ n, Below w.heap.size w (w.drewN n)
  | 0 => Below.refl _ _
  | n + 1 => (bel_drewN' w n).drew

theorem rg_bd (h : Fits x pc k c t) (z : Int) : 0 ≤ rg x z ∧ rg x z ≤ 18446744073709551615 := by
  unfold rg
  split
  · exact h.reg _
  · omega

theorem mupper_any (o rd r1 r2 im : Int) (w : World) (i0 : -9223372036854775808 ≤ im) (i1 : im ≤ 9223372036854775807) :
    Calls Tryz.prog 74 #[inst o rd r1 r2 im] w fun e w' => e = .returned (.int .u64 (u64 (im * 4096))) ∧ Below w.heap.size w w' := by
  unfold inst
  go_enter Tryz.func74, Tryz.ntmps74
  go_wp2
  go_ret
  refine ⟨ret_int ?_, below_alloc _ _⟩
  simp only [wrap_u64]
  unfold u64
  omega

theorem place_any (o rd r1 r2 im : Int) (w : World) (h : HD m mm me x pc k c t w F) (hr : InI r1) (i0 : -9223372036854775808 ≤ im) (i1 : im ≤ 9223372036854775807) :
    Calls Tryz.prog 76 #[.pointer (some ⟨m, 0, none⟩), inst o rd r1 r2 im] w fun e w' => e = .returned (.int .u64 (u64 (rg x r1 + im))) ∧ Below w.heap.size w w' := by
  unfold inst
  have hb := rg_bd h.fits r1
  have HR := hide (fun W (hW : Below w.heap.size w W) => mreg_any r1 W (h.below hW) hr)
  generalize rg x r1 = v at *
  clear h hr
  go_enter Tryz.func76, Tryz.ntmps76
  go_wp2_with fail
  go_quiet (first | (go_at_call 13; refine Calls.quiet_of_same (HR.out _ ?_); exact (below_alloc _ _).trans ((bel_drewN' _ _).mono (by simp))))
  go_wp2
  go_ret
  refine ⟨ret_int ?_, (below_alloc _ _).trans ((bel_drewN' _ _).mono (by simp))⟩
  simp only [wrap_u64]
  unfold u64
  omega

theorem operand_any (o rd r1 r2 im : Int) (w : World) (h : HD m mm me x pc k c t w F) (hL : Laid w) (hr : InI r2) (i0 : -9223372036854775808 ≤ im) (i1 : im ≤ 9223372036854775807) :
    Calls Tryz.prog 82 #[.pointer (some ⟨m, 0, none⟩), inst o rd r1 r2 im] w fun e w' => e = .returned (.int .u64 (if fmo o = 1 then u64 im else rg x r2)) ∧ Below w.heap.size w w' := by
  unfold inst
  have HR := hide (fun W (hW : Below w.heap.size w W) => mreg_any r2 W (h.below hW) hr)
  have HF := hide (fun W (hW : Below w.heap.size w W) => form_any o W (hL.below hW hL.1))
  clear h hr hL
  by_cases hf : fmo o = 1
  · rw [if_pos hf]
    rw [hf] at HF
    clear hf HR
    go_enter Tryz.func82, Tryz.ntmps82
    go_wp2_with fail
    refine (HF.out _ (below_alloc _ _)).mono ?_
    rintro e W ⟨rfl, rfl⟩
    clear HF
    go_wp2
    go_ret
    refine ⟨ret_int ?_, below_alloc _ _⟩
    simp only [wrap_u64]
  · rw [if_neg hf]
    have hf' : (fmo o == 1) = false := by simpa using hf
    generalize rg x r2 = v at *
    generalize fmo o = g at *
    clear hf
    go_enter Tryz.func82, Tryz.ntmps82
    go_wp2_with fail
    refine (HF.out _ (below_alloc _ _)).mono ?_
    rintro e W ⟨rfl, rfl⟩
    clear HF
    go_wp2_with fail
    refine (HR.out _ (below_alloc _ _)).mono ?_
    rintro e W ⟨rfl, rfl⟩
    clear HR
    go_wp2
    go_ret
    exact ⟨rfl, below_alloc _ _⟩

end

theorem taken_any (o : Nat) (a b : Int) (w : World) (h0 : 5 ≤ o) (h1 : o ≤ 10) (a0 : 0 ≤ a) (a1 : a ≤ 18446744073709551615) (b0 : 0 ≤ b) (b1 : b ≤ 18446744073709551615) :
    Calls Tryz.prog 112 #[.int .i64 (o : Int), .int .u64 a, .int .u64 b] w fun e w' => e = .returned (.bool (takenF o a b)) ∧ w' = w := by
  rcases (show o = 5 ∨ o = 6 ∨ o = 7 ∨ o = 8 ∨ o = 9 ∨ o = 10 by omega) with rfl | rfl | rfl | rfl | rfl | rfl
  all_goals go_enter Tryz.func112, Tryz.ntmps112
  all_goals go_wp2
  all_goals go_ret
  all_goals refine ⟨ret_bool ?_, rfl⟩
  all_goals simp only [takenF, wrap64_is]
  all_goals rw [Bool.eq_iff_iff]
  all_goals simp

theorem width_any' (o : Nat) (w : World) (h0 : 11 ≤ o) (h1 : o ≤ 21) :
    Calls Tryz.prog 113 #[.int .i64 (o : Int)] w fun e w' => e = .returned (.int .i64 (widthF o)) ∧ w' = w := by
  rcases (show o = 11 ∨ o = 12 ∨ o = 13 ∨ o = 14 ∨ o = 15 ∨ o = 16 ∨ o = 17 ∨ o = 18 ∨ o = 19 ∨ o = 20 ∨ o = 21 by omega) with rfl | rfl | rfl | rfl | rfl | rfl | rfl | rfl | rfl | rfl | rfl
  all_goals go_enter Tryz.func113, Tryz.ntmps113
  all_goals go_wp2
  all_goals go_ret
  all_goals exact ⟨rfl, rfl⟩

end Go.Proofs.YtdhjjlnabbpinaaGreatDoor

/- The contract of package mem's Map. -/
namespace Go.Proofs.YtdhjjlnabbpinaaGreatDoor
open Go.RowKit Go.Maps
set_option linter.unusedVariables false
set_option maxRecDepth 100000

theorem PMx.mapped1 {V V' : World} {m b : Nat} {dt : Nat → Option Nat} {S : Mm} {F : Nat → Prop} (h : PMx V m b dt S F) {i : Nat} {p : Int} (h0 : S.perm i = 0) (hp : 1 ≤ p ∧ p ≤ 7) (hi : i < 34359738368) (hc : S.count + 1 ≤ 65536)
    (hmap : MapAt V' b (S.count + 1) (upd (fun j => if S.perm j = 0 then none else some (pv (S.perm j) (dt j))) i (pv p none))) (hK : Kept (fun k => k = b) V V') :
    PMx V' m b dt (S.mapped i 1 p) F := by
  have same : ∀ k, F k → k ≠ b → V'.heap[k]? = V.heap[k]? := fun k hF hne => hK.block k (h.flt k hF) hne
  have hdi := h.dn i h0
  have hpe : ∀ j, (S.mapped i 1 p).perm j = if j = i then p else S.perm j := fun j => by
    simp only [Mm.mapped]
    by_cases hji : j = i
    · rw [if_pos hji, if_pos (by omega)]
    · rw [if_neg hji, if_neg (by omega)]
  have hby : ∀ j k, k < 4096 → (S.mapped i 1 p).byte (j * 4096 + k) = if j = i then 0 else S.byte (j * 4096 + k) := fun j k hk => by
    simp only [Mm.mapped]
    have e : (j * 4096 + k) / 4096 = j := by omega
    rw [e]
    by_cases hji : j = i
    · rw [if_pos hji, if_pos (by omega)]
    · rw [if_neg hji, if_neg (by omega)]
  refine ⟨(same m h.fm h.mb).trans h.head, hmap.congr (fun j _ => ?_), h.good.mapped i 1 hp hc (by omega), ?_, ?_, ?_, h.apart, h.fm, h.fb, h.fg, fun k hk => Nat.lt_of_lt_of_le (h.flt k hk) hK.size⟩
  · unfold upd
    rw [hpe j]
    by_cases hji : j = i
    · have hp0 : p ≠ 0 := by omega
      rw [if_pos hji, if_pos hji, if_neg hp0, hji, hdi]
    · rw [if_neg hji, if_neg hji]
  · intro j hj
    rw [hpe j] at hj
    by_cases hji : j = i
    · rw [if_pos hji] at hj; omega
    · rw [if_neg hji] at hj
      exact h.dn j hj
  · intro j hj hd k hk
    rw [hby j k hk]
    by_cases hji : j = i
    · rw [if_pos hji]
    · rw [if_neg hji]
      rw [hpe j, if_neg hji] at hj
      exact h.noughts j hj hd k hk
  · intro j g hg
    have hji : j ≠ i := fun e => by rw [e, hdi] at hg; cases hg
    obtain ⟨cs, h1, h2, h3⟩ := h.page j g hg
    exact ⟨cs, (same g (h.fg j g hg) (h.gb hg)).trans h1, h2, fun k hk => by rw [h3 k hk, hby j k hk, if_neg hji]⟩

/-- Whether so much may be mapped there. -/
def MapOk (S : Mm) (a size : Nat) (p : Int) (len : Nat) : Prop := (a % 4096 = 0 ∧ 0 < size ∧ a + size ≤ 140737488355328) ∧ PermOk p ∧ len ≤ size ∧ Sparep S (a / 4096) ((size + 4095) / 4096)
noncomputable def mapB (S : Mm) (a size : Nat) (p : Int) (len : Nat) : Bool := @decide (MapOk S a size p len) (Classical.propDecidable _)
theorem mapB_yes {S : Mm} {a size : Nat} {p : Int} {len : Nat} (h : MapOk S a size p len) : mapB S a size p len = true := @decide_eq_true _ (Classical.propDecidable _) h
theorem mapB_no {S : Mm} {a size : Nat} {p : Int} {len : Nat} (h : ¬ MapOk S a size p len) : mapB S a size p len = false := @decide_eq_false _ (Classical.propDecidable _) h
/-- The memory behind a map. -/
noncomputable def mappedTo (S : Mm) (a size : Nat) (p : Int) (bs : List Int) : Mm := if mapB S a size p bs.length = true then (S.mapped (a / 4096) ((size + 4095) / 4096) p).lay a bs else S

set_option maxRecDepth 20000 in
set_option maxHeartbeats 1600000 in
theorem map_any (m : Nat) (S : Mm) (F : Nat → Prop) (a0 size : Nat) (p : Int) (a : Option Addr) (len cap : Nat) (bs : List Int) (w : World) (h : PM w m S F) (ha : a0 ≤ 18446744073709551615) (hs : size ≤ 18446744073709551615)
    (hp0 : -9223372036854775808 ≤ p) (hp1 : p ≤ 9223372036854775807) (r : Rd w a len cap bs) (hsep : 0 < len → ∀ x, a = some x → ¬ F x.block) :
    Calls Tryz.prog 20 #[.pointer (some ⟨m, 0, none⟩), .int .u64 (a0 : Int), .int .u64 (size : Int), .int .i64 p, .slice a len cap] w fun e w' =>
      e = .returned (.int .i64 (if mapB S a0 size p len = true then 0 else 20)) ∧ ∃ F', PM w' m (mappedTo S a0 size p bs) F' ∧ Went F w F' w' := by
  have hle0 := r.le
  have hmx := r.max
  have hbl := r.length
  have HR := hide (rangeGood_any a0 size)
  have HPm := hide (permGood_any p)
  unfold mappedTo
  rw [hbl]
  by_cases h1 : a0 % 4096 = 0 ∧ 0 < size ∧ a0 + size ≤ 140737488355328
  · have HR2 : Hid (∀ w, Calls Tryz.prog 51 #[.int .u64 (a0 : Int), .int .u64 (size : Int)] w fun e w' => e = .returned (.bool true) ∧ w' = w) := fun w => by
      have := HR.out w ha hs
      rwa [decide_eq_true h1] at this
    clear HR
    by_cases h2 : PermOk p
    · have HP2 : Hid (∀ w, Calls Tryz.prog 52 #[.int .i64 p] w fun e w' => e = .returned (.bool true) ∧ w' = w) := fun w => by
        have := HPm.out w hp0 hp1
        rwa [decide_eq_true h2] at this
      clear HPm
      by_cases h3 : len ≤ size
      · have hf' : (a0 : Int) / 4096 = ((a0 / 4096 : Nat) : Int) := by omega
        have hn' : ((size : Int) + 4096 - 1) / 4096 = (((size + 4095) / 4096 : Nat) : Int) := by omega
        have HS := hide (spare_any m S F (a0 / 4096) ((size + 4095) / 4096) w h (by omega))
        have hfn : a0 / 4096 + (size + 4095) / 4096 ≤ 34359738368 := by omega
        have hcov : ∀ i, a0 / 4096 ≤ i → i * 4096 < a0 + len → i < a0 / 4096 + (size + 4095) / 4096 := fun i h4 h5 => by omega
        by_cases h4 : Sparep S (a0 / 4096) ((size + 4095) / 4096)
        · have e1 : mapB S a0 size p len = true := mapB_yes ⟨h1, h2, h3, h4⟩
          rw [e1, if_pos rfl, if_pos rfl]
          rw [spareB_yes h4] at HS
          have HCov := hide hcov
          generalize a0 / 4096 = f at *
          generalize (size + 4095) / 4096 = n at *
          have HM := hide h
          have HRd := hide r
          have HSe := hide hsep
          have HSp := hide h4
          have HPo := hide h2
          have h3' : decide ((size : Int) < (len : Int)) = false := by simp; omega
          have hsz := h1.2.2
          clear h r hsep h4 h1 h2 e1 hcov
          go_enter Tryz.func20, Tryz.ntmps20
          go_wp2_with fail
          refine (HR2.out _).mono ?_
          rintro e w' ⟨rfl, rfl⟩
          go_wp2_with fail
          refine (HP2.out _).mono ?_
          rintro e w' ⟨rfl, rfl⟩
          go_wp2_with fail
          refine HS.out.mono ?_
          rintro e W ⟨rfl, hBW⟩
          have HBW := hide hBW
          clear hBW HS HR2 HP2
          go_wp2
          go_loopw [42] (fun v wr => ∃ k : Nat, k ≤ n ∧ v = .int .u64 (k : Int) ∧ PM wr m (S.mapped f k p) F ∧ Kept F w' wr) (fun v _ => n - (intOf v).toNat)
          case atStart => exact ⟨0, by omega, rfl, by rw [Mm.mapped_zero]; exact HM.out.below HBW.out, kept_of_below HBW.out F⟩
          case round =>
            obtain ⟨k, hk, rfl, hP, hK⟩ := hrel
            by_cases hlt : k < n
            · obtain ⟨b, dt, hX⟩ := hP
              have hc := hX.cell
              have h0 : (S.mapped f k p).perm (f + k) = 0 := by
                simp only [Mm.mapped]
                rw [if_neg (by omega)]
                exact HSp.out.2 (f + k) (by omega) (by omega)
              have hcn : (S.mapped f k p).count + 1 ≤ 65536 := by
                have := HSp.out.1
                simp only [Mm.mapped]; omega
              obtain ⟨V, hrun, hm2, hgr, hsz2⟩ := hX.map.store (t := 96) Tryz.underlying96 (by unfold maxLen; omega) (f + k) (by omega) (pv p none)
              rw [if_pos h0] at hm2
              simp only [Option.isSome_none, Bool.false_eq_true, if_false] at hm2
              simp only [pv, dsl] at hrun
              rw [show ((f + k : Nat) : Int) = (f : Int) + (k : Int) by omega] at hrun
              have hKV : Kept (fun k => k = b) wr V := Kept.of_grown hgr (fun k hk => (Option.some.inj hk).symm)
              have HXV : Hid (PM V m (S.mapped f (k + 1) p) F) := by
                have h9 := hX.mapped1 h0 HPo.out.bd (by omega) hcn hm2 hKV
                rw [Mm.mapped_succ] at h9
                exact ⟨b, dt, h9⟩
              have HKV : Hid (Kept F w' V) := hK.trans hKV (fun k hk => by subst hk; exact Or.inl hX.fb)
              clear hX hK hm2 hgr hsz2 hKV h0 hcn
              go_wp2
              go_roundw
              case rel => exact ⟨k + 1, by omega, by go_num, HXV.out, HKV.out⟩
              case measure => simp [intOf]; omega
            · obtain rfl : k = n := by omega
              have hr2 : Rd wr a len cap bs := hK.rd HRd.out HSe.out
              have HPut := hide (mput_any m (S.mapped f k p) F a0 a len cap bs wr hP ha hr2 HSe.out (fun i h5 h6 h7 => by
                have h8 := HCov.out i (by omega) h6
                have h9 := HPo.out.bd
                simp only [Mm.mapped]
                rw [if_pos (by omega)]
                omega))
              have HK := hide hK
              clear hK hP hr2
              go_wp2_with fail
              refine HPut.out.mono ?_
              rintro e V ⟨rfl, F', hP, hW⟩
              have HP := hide hP
              have HW : Hid (Went F w' F' V) := ⟨HK.out.trans hW.1 (fun k hk => Or.inl hk), fun k hk => by
                rcases hW.2 k hk with h5 | h5
                · exact Or.inl h5
                · have := HK.out.size; exact Or.inr (by omega)⟩
              clear hP hW HPut
              go_wp2
              go_ret
              exact ⟨rfl, F', HP.out, HW.out⟩
        · have e1 : mapB S a0 size p len = false := mapB_no (fun h => h4 h.2.2.2)
          rw [e1, if_neg (by decide), if_neg (by decide)]
          rw [spareB_no h4] at HS
          generalize a0 / 4096 = f at *
          generalize (size + 4095) / 4096 = n at *
          have HM := hide h
          have h3' : decide ((size : Int) < (len : Int)) = false := by simp; omega
          clear h r hsep h4 h1 h2 e1 hcov
          go_enter Tryz.func20, Tryz.ntmps20
          go_wp2_with fail
          refine (HR2.out _).mono ?_
          rintro e w' ⟨rfl, rfl⟩
          go_wp2_with fail
          refine (HP2.out _).mono ?_
          rintro e w' ⟨rfl, rfl⟩
          go_wp2_with fail
          refine HS.out.mono ?_
          rintro e W ⟨rfl, hBW⟩
          have HBW := hide hBW
          clear hBW HS HR2 HP2
          go_wp2
          go_ret
          exact ⟨rfl, F, HM.out.below HBW.out, kept_of_below HBW.out F, fun k hk => Or.inl hk⟩
      · have e1 : mapB S a0 size p len = false := mapB_no (fun h => h3 h.2.2.1)
        rw [e1, if_neg (by decide), if_neg (by decide)]
        have HM := hide h
        clear h r hsep h1 h2 e1
        go_enter Tryz.func20, Tryz.ntmps20
        go_wp2_with fail
        refine (HR2.out _).mono ?_
        rintro e w' ⟨rfl, rfl⟩
        go_wp2_with fail
        refine (HP2.out _).mono ?_
        rintro e w' ⟨rfl, rfl⟩
        go_wp2_with fail
        go_ret
        exact ⟨rfl, F, HM.out, Went.refl _ _⟩
    · have e1 : mapB S a0 size p len = false := mapB_no (fun h => h2 h.2.1)
      rw [e1, if_neg (by decide), if_neg (by decide)]
      have HP2 : Hid (∀ w, Calls Tryz.prog 52 #[.int .i64 p] w fun e w' => e = .returned (.bool false) ∧ w' = w) := fun w => by
        have := HPm.out w hp0 hp1
        rwa [decide_eq_false h2] at this
      have HM := hide h
      clear h r hsep h1 h2 e1 HPm
      go_enter Tryz.func20, Tryz.ntmps20
      go_wp2_with fail
      refine (HR2.out _).mono ?_
      rintro e w' ⟨rfl, rfl⟩
      go_wp2_with fail
      refine (HP2.out _).mono ?_
      rintro e w' ⟨rfl, rfl⟩
      go_wp2_with fail
      go_ret
      exact ⟨rfl, F, HM.out, Went.refl _ _⟩
  · have e1 : mapB S a0 size p len = false := mapB_no (fun h => h1 h.1)
    rw [e1, if_neg (by decide), if_neg (by decide)]
    have HR2 : Hid (∀ w, Calls Tryz.prog 51 #[.int .u64 (a0 : Int), .int .u64 (size : Int)] w fun e w' => e = .returned (.bool false) ∧ w' = w) := fun w => by
      have := HR.out w ha hs
      rwa [decide_eq_false h1] at this
    have HM := hide h
    clear h r hsep h1 e1 HPm HR
    go_enter Tryz.func20, Tryz.ntmps20
    go_wp2_with fail
    refine (HR2.out _).mono ?_
    rintro e w' ⟨rfl, rfl⟩
    go_wp2_with fail
    go_ret
    exact ⟨rfl, F, HM.out, Went.refl _ _⟩

end Go.Proofs.YtdhjjlnabbpinaaGreatDoor

/- The statements' known: what a memory of two pages answers. -/
namespace Go.Proofs.YtdhjjlnabbpinaaGreatDoor
open Go.RowKit Go.Maps
set_option linter.unusedVariables false
set_option maxRecDepth 100000

theorem Rd.lit (t : TypeId) (w : World) (xs : List Int) (hb : Bytes xs) (hl : xs.length ≤ 9223372036854775807) :
    Rd (w.alloc (.cells (xs.map (Value.int .u8)).toArray t)) (some ⟨w.heap.size, 0, none⟩) xs.length xs.length xs := by
  refine ⟨rfl, Nat.le_refl _, hl, hb, (fun h => by cases h), fun x hx i hi => ?_⟩
  cases hx
  have e : (⟨w.heap.size, 0, none⟩ : Addr).add i = ⟨w.heap.size, i, none⟩ := by unfold Addr.add; split <;> simp_all
  rw [e, cell_of_row _ _ i _ t (0, 0) (heap_alloc_new w _)]
  simp [hi]

/-- What a memory of the call's own is: its blocks are new. -/
structure Own (w0 w : World) (m : Nat) (S : Mm) : Prop where
  ex : ∃ F, PM w m S F ∧ ∀ k, F k → w0.heap.size ≤ k
  bel : Below w0.heap.size w0 w

theorem Own.below {w0 w w' : World} {m : Nat} {S : Mm} (h : Own w0 w m S) (hb : Below w.heap.size w w') : Own w0 w' m S := by
  obtain ⟨F, h1, h2⟩ := h.ex
  exact ⟨⟨F, h1.below hb, h2⟩, h.bel.trans (hb.mono h.bel.size)⟩

theorem Own.went {w0 w w' : World} {m : Nat} {S' : Mm} {F : Nat → Prop} (h1 : ∀ k, F k → w0.heap.size ≤ k) (hb : Below w0.heap.size w0 w) (h : ∃ F', PM w' m S' F' ∧ Went F w F' w') : Own w0 w' m S' := by
  obtain ⟨F', h2, h3⟩ := h
  have h4 := h3.below hb.size h1
  exact ⟨⟨F', h2, h4.2⟩, hb.trans h4.1⟩

theorem Own.good {w0 w : World} {m : Nat} {S : Mm} (h : Own w0 w m S) : S.Good := by
  obtain ⟨F, h1, h2⟩ := h.ex
  exact h1.good

theorem own_new (w0 w : World) (hb : Below w0.heap.size w0 w) :
    Calls Tryz.prog 17 #[] w fun e w' => ∃ m, e = .returned (.pointer (some ⟨m, 0, none⟩)) ∧ Own w0 w' m Mm.new :=
  (new_any w).mono fun e w' ⟨m, F, h1, h2, h3, h4⟩ => ⟨m, h1, ⟨F, h2, fun k hk => Nat.le_trans hb.size (h3 k hk)⟩, hb.trans (h4.mono hb.size)⟩

/-- A slice that is none of a memory's: nil, or in blocks that were there ahead of it, or in new ones that are read alone. -/
theorem own_map {w0 w : World} {m : Nat} {S : Mm} (h : Own w0 w m S) (a0 size : Nat) (p : Int) (xs : List Int) (hb : Bytes xs) (hl : xs.length ≤ 9223372036854775807) (hx : xs ≠ []) (ha : a0 ≤ 18446744073709551615) (hs : size ≤ 18446744073709551615)
    (hp0 : -9223372036854775808 ≤ p) (hp1 : p ≤ 9223372036854775807) :
    Calls Tryz.prog 20 #[.pointer (some ⟨m, 0, none⟩), .int .u64 (a0 : Int), .int .u64 (size : Int), .int .i64 p, .slice (some ⟨w.heap.size, 0, none⟩) xs.length xs.length] (w.alloc (.cells (xs.map (Value.int .u8)).toArray 5)) fun e w' =>
      e = .returned (.int .i64 (if mapB S a0 size p xs.length = true then 0 else 20)) ∧ Own w0 w' m (mappedTo S a0 size p xs) := by
  obtain ⟨F, h1, h2⟩ := h.ex
  have hbel : Below w.heap.size w (w.alloc (.cells (xs.map (Value.int .u8)).toArray 5)) := (Below.refl _ _).alloc (Nat.le_refl _) _
  refine (map_any m S F a0 size p _ _ _ xs _ (h1.below hbel) ha hs hp0 hp1 (Rd.lit 5 w xs hb hl) (fun _ x hx hf => ?_)).mono ?_
  · cases hx
    have := h1.flt _ hf
    simp at this
  · rintro e w' ⟨h3, h4⟩
    exact ⟨h3, Own.went h2 (h.below hbel).bel h4⟩

theorem own_map0 {w0 w : World} {m : Nat} {S : Mm} (h : Own w0 w m S) (a0 size : Nat) (p : Int) (ha : a0 ≤ 18446744073709551615) (hs : size ≤ 18446744073709551615)
    (hp0 : -9223372036854775808 ≤ p) (hp1 : p ≤ 9223372036854775807) :
    Calls Tryz.prog 20 #[.pointer (some ⟨m, 0, none⟩), .int .u64 (a0 : Int), .int .u64 (size : Int), .int .i64 p, .slice none 0 0] w fun e w' =>
      e = .returned (.int .i64 (if mapB S a0 size p 0 = true then 0 else 20)) ∧ Own w0 w' m (mappedTo S a0 size p []) := by
  obtain ⟨F, h1, h2⟩ := h.ex
  refine (map_any m S F a0 size p none 0 0 [] w h1 ha hs hp0 hp1 (Rd.nothing w) (fun _ x hx => by cases hx)).mono ?_
  rintro e w' ⟨h3, h4⟩
  exact ⟨h3, Own.went h2 h.bel h4⟩

theorem own_store {w0 w : World} {m : Nat} {S : Mm} (h : Own w0 w m S) (a : Nat) (n v : Int) (ha : a ≤ 18446744073709551615) (hn0 : -9223372036854775808 ≤ n) (hn1 : n ≤ 9223372036854775807) (hv0 : 0 ≤ v) (hv1 : v ≤ 18446744073709551615) :
    Calls Tryz.prog 115 #[.pointer (some ⟨m, 0, none⟩), .int .u64 (a : Int), .int .i64 n, .int .u64 v] w fun e w' =>
      e = .returned (.bool (numOk S a n 2)) ∧ Own w0 w' m (stored S a n v) := by
  obtain ⟨F, h1, h2⟩ := h.ex
  refine (store_any m S F a n v w h1 ha hn0 hn1 hv0 hv1).mono ?_
  rintro e w' ⟨h3, h4⟩
  exact ⟨h3, Own.went h2 h.bel h4⟩

theorem own_load {w0 w : World} {m : Nat} {S : Mm} (h : Own w0 w m S) (a : Nat) (n : Int) (ha : a ≤ 18446744073709551615) (hn0 : -9223372036854775808 ≤ n) (hn1 : n ≤ 9223372036854775807) :
    Calls Tryz.prog 114 #[.pointer (some ⟨m, 0, none⟩), .int .u64 (a : Int), .int .i64 n] w fun e w' =>
      e = .returned (.tuple #[.int .u64 (loadV S a n), .bool (numOk S a n 4)]) ∧ Own w0 w' m S ∧ Below w.heap.size w w' := by
  obtain ⟨F, h1, h2⟩ := h.ex
  refine (load_any m S F a n w h1 ha hn0 hn1).mono ?_
  rintro e w' ⟨h3, h4⟩
  exact ⟨h3, h.below h4, h4⟩

theorem own_fetch {w0 w : World} {m : Nat} {S : Mm} (h : Own w0 w m S) (a : Nat) (ha : a ≤ 18446744073709551615) :
    Calls Tryz.prog 71 #[.pointer (some ⟨m, 0, none⟩), .int .u64 (a : Int)] w fun e w' =>
      e = .returned (.tuple #[.int .u32 (fetchV S a), .bool (mayB S a 4 1)]) ∧ Own w0 w' m S ∧ Below w.heap.size w w' := by
  obtain ⟨F, h1, h2⟩ := h.ex
  refine (fetch_any m S F a w h1 ha).mono ?_
  rintro e w' ⟨h3, h4⟩
  exact ⟨h3, h.below h4, h4⟩



theorem own_perm {w0 w : World} {m : Nat} {S : Mm} (h : Own w0 w m S) (a : Nat) (ha : a ≤ 18446744073709551615) :
    Calls Tryz.prog 133 #[.pointer (some ⟨m, 0, none⟩), .int .u64 (a : Int)] w fun e w' => e = .returned (.int .i64 (S.perm (a / 4096))) ∧ w' = w := by
  obtain ⟨F, h1, h2⟩ := h.ex
  exact perm_any m S F a w h1 ha

/-- n bytes within one page. -/
theorem mayB_one {S : Mm} {a n i : Nat} {p q : Int} (hn : n ≠ 0) (h1 : a / 4096 = i) (h2 : (a + n - 1) / 4096 = i) (hq : S.perm i = q) : mayB S a n p = !(bits .and .i64 q p == 0) := by
  by_cases h : bits .and .i64 q p = 0
  · rw [mayB_no]
    · simp [h]
    · rintro (h3 | h3)
      · exact hn h3
      · exact h3 i (by omega) (by omega) (by rw [hq]; exact h)
  · rw [mayB_yes]
    · simp [h]
    · refine Or.inr (fun j h3 h4 => ?_)
      obtain rfl : j = i := by omega
      rw [hq]; exact h

/-- The memory of known, and what it answers. -/
noncomputable def kn1 : Mm := mappedTo Mm.new 4096 10 6 [7]
noncomputable def kn2 : Mm := mappedTo kn1 8192 4 1 []
theorem kn1_ok : mapB Mm.new 4096 10 6 1 = true := mapB_yes ⟨by decide, by decide, by decide, by decide, fun i _ _ => rfl⟩
theorem kn1_eq : kn1 = (Mm.new.mapped 1 1 6).lay 4096 [7] := by unfold kn1 mappedTo; exact if_pos kn1_ok
theorem kn1_perm (i : Nat) : kn1.perm i = if i = 1 then 6 else 0 := by
  rw [kn1_eq]; simp only [Mm.lay, Mm.mapped, Mm.new]
  by_cases h : i = 1
  · rw [if_pos h, if_pos (by omega)]
  · rw [if_neg h, if_neg (by omega)]
theorem kn2_ok : mapB kn1 8192 4 1 0 = true := mapB_yes ⟨by decide, by decide, by decide, by rw [kn1_eq]; decide, fun i h1 h2 => by rw [kn1_perm, if_neg (by omega)]⟩
theorem kn2_eq : kn2 = (kn1.mapped 2 1 1).lay 8192 [] := by unfold kn2 mappedTo; exact if_pos kn2_ok
theorem kn2_perm (i : Nat) : kn2.perm i = if i = 2 then 1 else if i = 1 then 6 else 0 := by
  rw [kn2_eq]; simp only [Mm.lay, Mm.mapped]
  rw [kn1_perm]
  by_cases h : i = 2
  · rw [if_pos h, if_pos (by omega)]
  · rw [if_neg h, if_neg (by omega)]
theorem kn2_count : kn2.count = 2 := by rw [kn2_eq, kn1_eq]; rfl
theorem kn2_byte (j : Nat) (h : j < 4096) : kn2.byte (4096 + j) = if j = 0 then 7 else 0 := by
  rw [kn2_eq, kn1_eq]; simp only [Mm.lay, Mm.mapped, Mm.new]
  rw [if_neg (by simp), if_neg (by omega)]
  by_cases hj : j = 0
  · subst hj; simp
  · rw [if_neg (by simp; omega), if_neg hj, if_pos (by omega)]
theorem kn3_no : mapB kn2 4096 1 4 0 = false := mapB_no (fun h => by
  have := h.2.2.2.2 1 (by decide) (by decide)
  rw [kn2_perm] at this
  simp at this)

noncomputable def kn3 : Mm := stored kn2 4097 1 5
theorem kn_load : numOk kn2 4096 2 4 = true ∧ loadV kn2 4096 2 = 7 := by
  have h1 : numOk kn2 4096 2 4 = true := by
    unfold numOk
    rw [mayB_one (i := 1) (q := 6) (by decide) (by decide) (by decide) (by rw [kn2_perm]; rfl)]
    decide
  refine ⟨h1, ?_⟩
  unfold loadV
  rw [if_pos h1]
  have e : kn2.read 4096 (2 : Int).toNat = [kn2.byte (4096 + 0), kn2.byte (4096 + 1)] := rfl
  rw [e, kn2_byte 0 (by decide), kn2_byte 1 (by decide)]
  decide
theorem kn_store : numOk kn2 4097 1 2 = true := by
  unfold numOk
  rw [mayB_one (i := 1) (q := 6) (by decide) (by decide) (by decide) (by rw [kn2_perm]; rfl)]
  decide
theorem kn3_eq : kn3 = kn2.lay 4097 (bytesOf 5 1) := by unfold kn3 stored; exact if_pos kn_store
theorem kn3_perm (i : Nat) : kn3.perm i = kn2.perm i := by rw [kn3_eq]; rfl
theorem kn3_count : kn3.count = 2 := by rw [kn3_eq]; exact kn2_count
theorem kn_store2 : numOk kn3 8192 1 2 = false := by
  unfold numOk
  rw [mayB_one (i := 2) (q := 1) (by decide) (by decide) (by decide) (by rw [kn3_perm, kn2_perm]; rfl)]
  decide
theorem kn3_stay : stored kn3 8192 1 5 = kn3 := by unfold stored; rw [kn_store2]; rfl
theorem kn_fetch : mayB kn3 8192 4 1 = true := by
  rw [mayB_one (i := 2) (q := 1) (by decide) (by decide) (by decide) (by rw [kn3_perm, kn2_perm]; rfl)]
  decide
theorem kn_fetch2 : mayB kn3 4096 4 1 = false := by
  rw [mayB_one (i := 1) (q := 6) (by decide) (by decide) (by decide) (by rw [kn3_perm, kn2_perm]; rfl)]
  decide
theorem kn_map3 : mappedTo kn2 4096 1 4 [] = kn2 := by unfold mappedTo; rw [show mapB kn2 4096 1 4 ([] : List Int).length = false from kn3_no]; rfl

theorem bytes_7 : Bytes [7] := fun x hx => by simp at hx; omega





end Go.Proofs.YtdhjjlnabbpinaaGreatDoor

/- Contracts of package mach's branch and load. -/
namespace Go.Proofs.YtdhjjlnabbpinaaGreatDoor
open Go.RowKit Go.Maps
set_option linter.unusedVariables false
set_option maxRecDepth 100000

/-- An instruction whose numbers fit. -/
structure Fit5 (rd r1 r2 im : Int) : Prop where
  rd : 0 ≤ rd ∧ rd < 32
  r1 : 0 ≤ r1 ∧ r1 < 32
  r2 : 0 ≤ r2 ∧ r2 < 32
  im : -2147483648 ≤ im ∧ im ≤ 2147483647

theorem rg_in {x : Nat → Int} {z : Int} (h : 0 ≤ z ∧ z < 32) : rg x z = x z.toNat := by unfold rg; rw [if_pos h]
theorem ini_of {z : Int} (h : 0 ≤ z ∧ z < 32) : InI z := by unfold InI; omega

section
variable {w w' : World} {m mm me b n : Nat} {f : Int → Option Value} {x : Nat → Int} {pc : Nat} {k c t : Int} {F G : Nat → Prop}

theorem went_below (hb : Below w.heap.size w w') (F : Nat → Prop) : Went F w F w' := ⟨kept_of_below hb _, fun _ h => Or.inl h⟩

set_option maxHeartbeats 1600000 in
theorem branch_any (o : Nat) (rd r1 r2 im : Int) (w : World) (h : HD m mm me x pc k c t w F) (h0 : 5 ≤ o) (h1 : o ≤ 10) (hf : Fit5 rd r1 r2 im) :
    Calls Tryz.prog 77 #[.pointer (some ⟨m, 0, none⟩), inst o rd r1 r2 im] w fun e w' =>
      (takenF o (x r1.toNat) (x r2.toNat) = false → e = .returned (.int .i64 0) ∧ HD m mm me x (u64 (pc + 4)).toNat k c t w' F) ∧
      (takenF o (x r1.toNat) (x r2.toNat) = true → u64 (pc + im) % 4 = 0 → e = .returned (.int .i64 0) ∧ HD m mm me x (u64 (pc + im)).toNat k c t w' F) ∧
      (takenF o (x r1.toNat) (x r2.toNat) = true → u64 (pc + im) % 4 ≠ 0 → e = .returned (.int .i64 5) ∧ HD m mm me x pc k c t w' F) ∧ Went F w F w' := by
  have e1 := rg_in (x := x) hf.r1
  have e2 := rg_in (x := x) hf.r2
  have b1 := h.fits.reg r1.toNat
  have b2 := h.fits.reg r2.toNat
  have HR1 := hide (fun W (hW : Below w.heap.size w W) => mreg_any r1 W (h.below hW) (ini_of hf.r1))
  have HR2 := hide (fun W (hW : Below w.heap.size w W) => mreg_any r2 W (h.below hW) (ini_of hf.r2))
  rw [e1] at HR1
  rw [e2] at HR2
  have HT := hide (fun W => taken_any o (x r1.toNat) (x r2.toNat) W h0 h1 b1.1 b1.2 b2.1 b2.2)
  have HH := hide (fun W (hW : Below w.heap.size w W) => h.below hW)
  have hpc := h.fits.place
  have him := hf.im
  generalize x r1.toNat = a at *
  generalize x r2.toNat = y at *
  clear e1 e2 b1 b2 h hf
  unfold inst
  cases htk : takenF o a y with
  | false =>
    rw [htk] at HT
    go_enter Tryz.func77, Tryz.ntmps77
    go_wp2_with fail
    go_quiet (first
      | (go_at_call_of 13 (Value.int IntKind.i64 r1); refine Calls.quiet_of_same (HR1.out _ ?_); exact (below_alloc _ _).trans ((bel_drewN' _ _).mono (by simp)))
      | (go_at_call_of 13 (Value.int IntKind.i64 r2); refine Calls.quiet_of_same (HR2.out _ ?_); exact (below_alloc _ _).trans ((bel_drewN' _ _).mono (by simp)))
      | (go_at_call 112; refine Calls.quiet_of_same (HT.out _)))
    go_wp2_with fail
    refine (next_any _ (HH.out _ ((below_alloc _ _).trans ((bel_drewN' _ _).mono (by simp))))).mono ?_
    rintro e W ⟨rfl, h3, h4⟩
    have H := hide (And.intro h3 ((went_below ((below_alloc _ _).trans ((bel_drewN' _ _).mono (by simp))) F).trans h4))
    clear h3 h4
    go_wp2
    go_ret
    exact ⟨fun _ => ⟨rfl, H.out.1⟩, (fun h => by cases h), (fun h => by cases h), H.out.2⟩
  | true =>
    rw [htk] at HT
    have hb := u64_bd (pc + im)
    obtain ⟨p, hp⟩ : ∃ p : Nat, p = (u64 (pc + im)).toNat := ⟨_, rfl⟩
    have hp2 : (p : Int) = u64 (pc + im) := by omega
    have hp' : IntKind.u64.wrap ((pc : Int) + IntKind.u64.wrap im) = (p : Int) := by rw [wrap_u64, wrap_u64, hp2]; unfold u64; omega
    have hp4 : (u64 (pc + im) % 4 = 0) ↔ p % 4 = 0 := by omega
    have hpm : p ≤ 18446744073709551615 := by omega
    rw [← hp]
    have H4 := hide hp4
    clear hp hp2 hb hp4
    go_enter Tryz.func77, Tryz.ntmps77
    go_wp2_with fail
    go_quiet (first
      | (go_at_call_of 13 (Value.int IntKind.i64 r1); refine Calls.quiet_of_same (HR1.out _ ?_); exact (below_alloc _ _).trans ((bel_drewN' _ _).mono (by simp)))
      | (go_at_call_of 13 (Value.int IntKind.i64 r2); refine Calls.quiet_of_same (HR2.out _ ?_); exact (below_alloc _ _).trans ((bel_drewN' _ _).mono (by simp)))
      | (go_at_call 112; refine Calls.quiet_of_same (HT.out _)))
    go_wp2_with fail
    obtain ⟨X, hX⟩ : ∃ X, X = w.heap.size := ⟨_, rfl⟩
    rw [← hX]
    obtain ⟨V, hV⟩ : ∃ V, V = (w.alloc (.cells #[.int .i64 (o : Int), .int .i64 rd, .int .i64 r1, .int .i64 r2, .int .i64 im] 45)).drewN nq := ⟨_, rfl⟩
    rw [← hV]
    have hBV : Below w.heap.size w V := by rw [hV]; exact (below_alloc _ _).trans ((bel_drewN' _ _).mono (by simp))
    have hIX : InX V X o rd r1 r2 im := by rw [hV, hX]; exact (InX.new _ _ _ _ _ _ _).below (bel_drewN' _ _)
    have hXF : ¬ F X := fun hf => by have := (HH.out w (Below.refl _ _)).flt X hf; omega
    have hc3 := (HH.out V hBV).c3
    obtain ⟨i0, i1, i2, i3, i4⟩ := id hIX
    have HX := hide hIX
    have HB := hide hBV
    have HXF := hide hXF
    clear hIX hBV hXF hV hX HR1 HR2 HT
    by_cases h4 : p % 4 = 0
    · have HJ : Hid (∀ W, Below V.heap.size V W → Calls Tryz.prog 75 #[.pointer (some ⟨m, 0, none⟩), .int .i64 0, .int .u64 (p : Int)] W fun e w' => e = .returned (.int .i64 0) ∧ HD m mm me x p k c t w' F ∧ Went F w F w' ∧ InX w' X o rd r1 r2 im) := fun W hW => by
        have g := HH.out W (HB.out.trans (hW.mono HB.out.size))
        refine (jump_any 0 p W g (by unfold InI; omega) (by omega)).mono ?_
        rintro e w' ⟨g1, g2⟩
        obtain ⟨g3, g4, g5⟩ := g1 h4
        rw [xset_no (by omega)] at g4
        exact ⟨g3, g4, (went_below (HB.out.trans (hW.mono HB.out.size)) F).trans g5, (HX.out.below hW).kept g5.1 HXF.out⟩
      have H44 := hide h4
      clear h4
      go_region_with (first | (go_at_call 75; refine (HJ.out _ ((Below.refl _ _).drew)).mono ?_; rintro e W ⟨rfl, h5, h6, h7⟩; have H := hide (And.intro h5 h6); clear h5 h6))
      all_goals go_wp2
      all_goals go_ret
      all_goals exact ⟨(fun h => by cases h), fun _ _ => ⟨rfl, H.out.1⟩, fun _ h => absurd (H4.out.2 H44.out) h, H.out.2⟩
    · have HJ : Hid (∀ W, Below V.heap.size V W → Calls Tryz.prog 75 #[.pointer (some ⟨m, 0, none⟩), .int .i64 0, .int .u64 (p : Int)] W fun e w' => e = .returned (.int .i64 5) ∧ HD m mm me x pc k c t w' F ∧ Went F w F w' ∧ InX w' X o rd r1 r2 im) := fun W hW => by
        have g := HH.out W (HB.out.trans (hW.mono HB.out.size))
        refine (jump_any 0 p W g (by unfold InI; omega) (by omega)).mono ?_
        rintro e w' ⟨g1, g2⟩
        obtain ⟨g3, rfl⟩ := g2 h4
        exact ⟨g3, g, went_below (HB.out.trans (hW.mono HB.out.size)) F, HX.out.below hW⟩
      have H44 := hide h4
      clear h4
      go_region_with (first | (go_at_call 75; refine (HJ.out _ ((Below.refl _ _).drew)).mono ?_; rintro e W ⟨rfl, h5, h6, h7⟩; have H := hide (And.intro h5 h6); clear h5 h6))
      all_goals go_wp2
      all_goals go_ret
      all_goals exact ⟨(fun h => by cases h), fun _ h => absurd (H4.out.1 h) H44.out, fun _ _ => ⟨rfl, H.out.1⟩, H.out.2⟩

end

end Go.Proofs.YtdhjjlnabbpinaaGreatDoor

/- Contracts of env's copied, own, New, Left, Take and of the document's Take. -/
namespace Go.Proofs.YtdhjjlnabbpinaaGreatDoor
open Go.RowKit
set_option linter.unusedVariables false
set_option maxRecDepth 100000

theorem eown_new {w : World} {base : Nat} {e : TypeId} {size : Nat} {a : Option Addr} {l c n : Nat} {xs : List Value} (h : w.ownsRow base e size (.slice a l c) n xs) : ∀ x, a = some x → base ≤ x.block := by
  intro x hx
  subst hx
  rcases h.2 with ⟨h1, _⟩ | ⟨g, cap, cur, h1, h2, _⟩
  · cases h1
  · cases h1
    exact h2

theorem Rd.blk {w : World} {a : Option Addr} {len cap : Nat} {bs : List Int} (r : Rd w a len cap bs) (hl : 0 < len) (x : Addr) (hx : a = some x) : x.block < w.heap.size := by
  have h1 := World.block_lt_of_cell? w _ (r.cell x hx 0 hl)
  have e : (x.add 0).block = x.block := by unfold Addr.add; split <;> rfl
  rwa [e] at h1

theorem dup_any (a : Option Addr) (len cap : Nat) (bs : List Int) (w : World) (r : Rd w a len cap bs) (hb : len ≤ 140737488355328) :
    Calls Tryz.prog 56 #[.slice a len cap] w fun e w' => ∃ a' c', e = .returned (.slice a' len c') ∧ Rd w' a' len c' bs ∧ Below w.heap.size w w' ∧ ∀ x, a' = some x → w.heap.size ≤ x.block := by
  obtain ⟨i0, hi, hz0, hz1, hz2⟩ := info_parts Tryz.info8
  have hl := r.length
  have h1 := r.le
  have h2 := r.max
  cases a with
  | none =>
    obtain rfl : cap = 0 := r.nil rfl
    obtain rfl : len = 0 := by omega
    go_enter Tryz.func56, Tryz.ntmps56
    go_wp2
    go_ret
    exact ⟨none, 0, rfl, r, Below.refl _ _, fun x hx => by cases hx⟩
  | some x =>
    have HC := hide (r.cells x rfl)
    have HB := hide r.bytes
    go_enter Tryz.func56, Tryz.ntmps56
    go_wp2_with (at_builtin; refine wpList_append_own _ rfl _ _ 24 rfl w.heap.size 5 i0 (.int .u8 0) 1 1 Tryz.underlying24 hi hz0 hz1 hz2 rfl (by decide) _ _ _ rfl (World.ownsRow_nil _ _ _ _) _ _ _ (bs.map (Value.int .u8)) rfl (by simpa using hl) (HC.out) (ints_oneCell _ _) (by unfold maxLen; omega) (by omega) (Nat.le_refl _) ?_)
    intro v' w1 hown hgrow _
    have hbel : Below w.heap.size w w1 := (Below.refl _ _).grown hgrow (Nat.le_refl _) (by intro k hk; cases hk)
    have hown' : w1.ownsRow w.heap.size 5 1 v' len (bs.map (Value.int .u8)) := by simpa using hown
    obtain ⟨a', c', hv, hr⟩ := Rd.own hown' HB.out
    rw [hv] at hown'
    have HN := hide (eown_new hown')
    clear hown hgrow hown'
    have HR := hide hr
    have HL := hide hbel
    clear hr hbel
    rw [hv]
    clear hv
    go_wp2
    go_ret
    exact ⟨_, _, rfl, HR.out, HL.out, HN.out⟩

/-- The four cells of an event in a block of its own. -/
structure Box4 (w : World) (X : Nat) (c0 c1 c2 c3 : Value) : Prop where
  c0 : w.cell? ⟨X, 0, none⟩ = some c0
  c1 : w.cell? ⟨X, 1, none⟩ = some c1
  c2 : w.cell? ⟨X, 2, none⟩ = some c2
  c3 : w.cell? ⟨X, 3, none⟩ = some c3
  f0 : w.frozen? ⟨X, 0, none⟩ = false
  f1 : w.frozen? ⟨X, 1, none⟩ = false
  f2 : w.frozen? ⟨X, 2, none⟩ = false
  f3 : w.frozen? ⟨X, 3, none⟩ = false

theorem frozen_of_blk {w : World} {X : Nat} {cs : Array Value} {t : TypeId} (h : w.heap[X]? = some (.cells cs t (0, 0))) (i : Nat) : w.frozen? ⟨X, i, none⟩ = false := by
  unfold World.frozen?
  simp only [h]
  simp

theorem box4_of {w : World} {X : Nat} {c0 c1 c2 c3 : Value} {t : TypeId} (h : w.heap[X]? = some (.cells #[c0, c1, c2, c3] t (0, 0))) : Box4 w X c0 c1 c2 c3 :=
  ⟨by rw [cell_of_row _ _ _ _ _ _ h]; rfl, by rw [cell_of_row _ _ _ _ _ _ h]; rfl, by rw [cell_of_row _ _ _ _ _ _ h]; rfl, by rw [cell_of_row _ _ _ _ _ _ h]; rfl, frozen_of_blk h 0, frozen_of_blk h 1, frozen_of_blk h 2, frozen_of_blk h 3⟩

theorem own_any (x : Evt) (w : World) (hx : x.Ok w) (hb : x.len ≤ 140737488355328) :
    Calls Tryz.prog 61 #[.agg #[.int .i64 x.kind, .int .i64 x.fd, .slice x.a x.len x.cap, .int .i64 x.n]] w fun e w' => ∃ a' c', e = .returned (.agg #[.int .i64 x.kind, .int .i64 x.fd, .slice a' x.len c', .int .i64 x.n]) ∧ Rd w' a' x.len c' x.bs ∧ Below w.heap.size w w' ∧ ∀ y, a' = some y → w.heap.size ≤ y.block := by
  obtain ⟨kind, fd, a, len, cap, n, bs⟩ := x
  have HX := hide hx.b
  dsimp only at *
  clear hx
  go_enter Tryz.func61, Tryz.ntmps61
  go_wp2_with fail
  obtain ⟨V1, hV1⟩ : ∃ V1, V1 = w.alloc (.cells #[.int .i64 kind, .int .i64 fd, .slice a len cap, .int .i64 n] 115) := ⟨_, rfl⟩
  have b1 : Below w.heap.size w V1 := by rw [hV1]; exact (Below.refl _ _).alloc (Nat.le_refl _) _
  have s1 : V1.heap.size = w.heap.size + 1 := by rw [hV1]; simp
  have q1 : V1.heap[w.heap.size]? = some (.cells #[.int .i64 kind, .int .i64 fd, .slice a len cap, .int .i64 n] 115 (0, 0)) := by rw [hV1]; exact heap_alloc_new w _
  rw [← hV1, ← s1]
  clear hV1
  obtain ⟨V, hV⟩ : ∃ V, V = V1.alloc (.cells #[.int .i64 0, .int .i64 0, .slice none 0 0, .int .i64 0] 115) := ⟨_, rfl⟩
  have b2 : Below V1.heap.size V1 V := by rw [hV]; exact (Below.refl _ _).alloc (Nat.le_refl _) _
  have q2 : V.heap[V1.heap.size]? = some (.cells #[.int .i64 0, .int .i64 0, .slice none 0 0, .int .i64 0] 115 (0, 0)) := by rw [hV]; exact heap_alloc_new V1 _
  have s2 : V.heap.size = V1.heap.size + 1 := by rw [hV]; simp
  rw [← hV]
  clear hV
  have q1' : V.heap[w.heap.size]? = some (.cells #[.int .i64 kind, .int .i64 fd, .slice a len cap, .int .i64 n] 115 (0, 0)) := (b2.block _ (by omega)).trans q1
  obtain ⟨X, hX⟩ : ∃ X, X = w.heap.size := ⟨_, rfl⟩
  obtain ⟨Y, hY⟩ : ∃ Y, Y = V1.heap.size := ⟨_, rfl⟩
  rw [← hX] at q1' ⊢
  rw [← hY] at q2 ⊢
  have b3 : Below w.heap.size w V := b1.trans (b2.mono (by omega))
  have hXY : X ≠ Y := by omega
  have hXV : X < V.heap.size := by omega
  have hYV : Y < V.heap.size := by omega
  refine (dup_any a len cap bs V (HX.out.below b3) hb).mono ?_
  rintro e W1 ⟨a', c', rfl, hr, hbl, hn⟩
  obtain ⟨c0, c1, c2, c3, f0, f1, f2, f3⟩ := box4_of ((hbl.block X hXV).trans q1')
  obtain ⟨d0, d1, d2, d3, g0, g1, g2, g3⟩ := box4_of ((hbl.block Y hYV).trans q2)
  have HR := hide hr
  have HB3 := hide b3
  have HBL := hide hbl
  have HN := hide hn
  have HX1 := hide hX
  have HXV := hide hXV
  have HY1 : Hid (w.heap.size ≤ Y) := by refine hide ?_; omega
  have HS : Hid (w.heap.size ≤ V.heap.size) := by refine hide ?_; omega
  have HK : Hid (Kept (fun k => k = X ∨ k = Y) W1 (((((W1.setCell ⟨X, 2, none⟩ (.slice a' len c')).setCell ⟨Y, 0, none⟩ (.int .i64 kind)).setCell ⟨Y, 1, none⟩ (.int .i64 fd)).setCell ⟨Y, 2, none⟩ (.slice a' len c')).setCell ⟨Y, 3, none⟩ (.int .i64 n))) :=
    hide ((((((Kept.refl _ W1).setCell _ _ (Or.inl (Or.inl rfl))).setCell _ _ (Or.inl (Or.inr rfl))).setCell _ _ (Or.inl (Or.inr rfl))).setCell _ _ (Or.inl (Or.inr rfl))).setCell _ _ (Or.inl (Or.inr rfl)))
  clear hr b1 b2 b3 s1 s2 q1 q2 q1' hbl hn hX hY
  go_wp2
  refine bodyPost_ret (v := .agg #[.int .i64 kind, .int .i64 fd, .slice a' len c', .int .i64 n]) (by simp [results, Tryz.results61, go_sem, d0, d1, d2, d3]) rfl ⟨a', c', rfl, ?_, ?_, ?_⟩
  · exact HK.out.rd HR.out (fun _ y hy => by have := HN.out y hy; omega)
  · exact HB3.out.trans ((HBL.out.mono HS.out).trans (HK.out.below (Nat.le_trans HS.out HBL.out.size) (fun k hk => by have := HX1.out; have := HY1.out; omega)))
  · intro y hy
    exact Nat.le_trans HS.out (HN.out y hy)

theorem enew_any (B : Nat) (a : Option Addr) (len cap : Nat) (bs : List Int) (w : World) (r : Rd w a len cap bs) (hb : len ≤ 140737488355328) :
    Calls Tryz.prog 22 #[.slice a len cap] w fun e w' => ∃ m F, e = .returned (.pointer (some ⟨m, 0, none⟩)) ∧ EV B 111 m bs [] w' F ∧ (∀ k, F k → w.heap.size ≤ k) ∧ Below w.heap.size w w' := by
  have HR := hide r
  clear r
  go_enter Tryz.func22, Tryz.ntmps22
  go_wp2_with fail
  refine (dup_any a len cap bs w HR.out hb).mono ?_
  rintro e W1 ⟨a', c', rfl, hr, hbl, hn⟩
  have HR1 := hide hr
  have HBL := hide hbl
  have HN := hide hn
  clear hr hbl hn
  go_wp2
  go_ret
  have b2 : Below W1.heap.size W1 (W1.alloc (.cells #[.slice a' len c', .slice none 0 0] 111)) := (Below.refl _ _).alloc (Nat.le_refl _) _
  refine ⟨W1.heap.size, fun k => k = W1.heap.size ∨ (0 < len ∧ ∃ x, a' = some x ∧ k = x.block), rfl, ⟨a', len, c', .slice none 0 0, [], ⟨heap_alloc_new W1 _, HR1.out.below b2, World.ownsRow_nil _ _ _ _, (fun x hx => by cases hx), Or.inl rfl, (fun g hg => by cases hg), fun hl x hx => ?_, (fun x hx => by cases hx), fun k hk => ?_⟩, rfl⟩, fun k hk => ?_, HBL.out.trans (b2.mono HBL.out.size)⟩
  · have h1 := HR1.out.blk hl x hx
    exact ⟨Or.inl (Or.inr ⟨hl, x, hx, rfl⟩), by omega, by intro h; cases h⟩
  · rcases hk with rfl | ⟨hl, x, hx, rfl⟩
    · simp
    · have h1 := HR1.out.blk hl x hx
      simp
      omega
  · rcases hk with rfl | ⟨hl, x, hx, rfl⟩
    · exact HBL.out.size
    · exact HN.out x hx

theorem left_any (B : Nat) (t : TypeId) (m : Nat) (ins : List Int) (tr : List Says) (w : World) (F : Nat → Prop) (h : EV B t m ins tr w F) :
    Calls Tryz.prog 31 #[.pointer (some ⟨m, 0, none⟩)] w fun e w' => e = .returned (.int .i64 (ins.length : Int)) ∧ w' = w := by
  obtain ⟨wa, wl, wc, ev, es, h, _⟩ := h
  have c0 := h.cell0
  have HL := hide h.waits.length
  clear h
  go_enter Tryz.func31, Tryz.ntmps31
  go_wp2
  go_ret
  exact ⟨by rw [HL.out]; rfl, rfl⟩

theorem Rd.front {w : World} {a : Option Addr} {len cap : Nat} {bs : List Int} (r : Rd w a len cap bs) (k : Nat) (h : k ≤ len) : Rd w a k cap (bs.take k) :=
  ⟨by have := r.length; simp; omega, Nat.le_trans h r.le, r.max, r.bytes.take k, r.nil, fun x hx i hi => by
    have := r.cell x hx i (by omega)
    rw [this]
    simp [hi]⟩

/-- What of the bytes still waits: the address that the walk reckons. -/
theorem Rd.rest {w : World} {a : Option Addr} {len cap : Nat} {bs : List Int} (r : Rd w a len cap bs) (k : Nat) (h : k ≤ len) (x : Addr) (hx : a = some x) : Rd w (some (x.add k)) (len - k) (cap - k) (bs.drop k) := by
  subst hx
  have h1 := r.part k (len - k) (by omega)
  have hl := r.length
  rwa [List.take_of_length_le (by simp; omega)] at h1
theorem Rd.rest_end {w : World} {a : Option Addr} {len cap : Nat} {bs : List Int} (r : Rd w a len cap bs) (k : Nat) (h : k ≤ len) (hc : cap = k) : Rd w a (len - k) 0 (bs.drop k) := by
  have h1 := r.part_end k (len - k) (by omega) hc
  have hl := r.length
  rwa [List.take_of_length_le (by simp; omega)] at h1

theorem EVx.took {B : Nat} {t : TypeId} {w W1 : World} {m : Nat} {F : Nat → Prop} {ins : List Int} {wa : Option Addr} {wl wc : Nat} {ev : Value} {es : List Evt} (h : EVx B t w m F ins wa wl wc ev es) (hb : Below w.heap.size w W1) (ins' : List Int) (wa' : Option Addr) (wl' wc' : Nat) (hwl : wl' ≤ wl)
    (rd : Rd w wa' wl' wc' ins') (hblk : ∀ x, wa' = some x → ∃ y, wa = some y ∧ y.block = x.block) :
    EVx B t (W1.setCell ⟨m, 0, none⟩ (.slice wa' wl' wc')) m F ins' wa' wl' wc' ev es ∧ Kept (fun k => k = m) w (W1.setCell ⟨m, 0, none⟩ (.slice wa' wl' wc')) := by
  have hkept : Kept (fun k => k = m) w (W1.setCell ⟨m, 0, none⟩ (.slice wa' wl' wc')) := (kept_of_below hb _).setCell _ _ (Or.inl rfl)
  refine ⟨⟨setCell_head0 ((hb.block m h.lt).trans h.head), hkept.rd rd (fun h0 x hx => ?_), ownsRow_kept h.row (fun g hg => hkept.block g (ownsRow_blk h.row g hg) (h.fg g hg).2), fun x hx => ⟨(h.ok x hx).kind, (h.ok x hx).fd, (h.ok x hx).n, hkept.rd (h.ok x hx).b (fun hl y hy => (h.se x hx hl y hy).2.1)⟩, h.fm, h.fg, fun h0 x hx => ?_, h.se, fun k hk => Nat.lt_of_lt_of_le (h.flt k hk) hkept.size⟩, hkept⟩
  · obtain ⟨y, hy, he⟩ := hblk x hx
    rw [← he]
    exact (h.sw (by omega) y hy).2.1
  · obtain ⟨y, hy, he⟩ := hblk x hx
    rw [← he]
    exact h.sw (by omega) y hy

theorem take_fin {B : Nat} {t : TypeId} {w : World} {m : Nat} {F : Nat → Prop} {ins : List Int} {wa : Option Addr} {wl wc : Nat} {ev : Value} {es : List Evt} {tr : List Says} (h : EVx B t w m F ins wa wl wc ev es) (ht : es.map Evt.says = tr) (k : Nat) (W1 : World) (a' : Option Addr) (c' : Nat) (wa' : Option Addr) (wl' wc' : Nat)
    (hb : Below w.heap.size w W1) (hr : Rd W1 a' k c' (ins.take k)) (hn : ∀ x, a' = some x → w.heap.size ≤ x.block) (hwl : wl' ≤ wl)
    (rd : Rd w wa' wl' wc' (ins.drop k)) (hblk : ∀ x, wa' = some x → ∃ y, wa = some y ∧ y.block = x.block) (e : Ending) (he : e = .returned (.slice a' k c')) :
    ∃ a' c', e = .returned (.slice a' k c') ∧ Rd (W1.setCell ⟨m, 0, none⟩ (.slice wa' wl' wc')) a' k c' (ins.take k) ∧ (∀ x, a' = some x → w.heap.size ≤ x.block) ∧ EV B t m (ins.drop k) tr (W1.setCell ⟨m, 0, none⟩ (.slice wa' wl' wc')) F ∧ Kept F w (W1.setCell ⟨m, 0, none⟩ (.slice wa' wl' wc')) := by
  obtain ⟨h1, h2⟩ := h.took hb _ wa' wl' wc' hwl rd hblk
  have hlt := h.lt
  refine ⟨a', c', he, ((Kept.refl (fun k => k = m) W1).setCell _ _ (Or.inl rfl)).rd hr (fun _ x hx => ?_), hn, ⟨wa', wl', wc', ev, es, h1, ht⟩, h2.mono (fun k hk => hk ▸ h.fm)⟩
  have := hn x hx
  omega

theorem add_block (x : Addr) (k : Nat) : (x.add k).block = x.block := by unfold Addr.add; split <;> rfl

set_option maxHeartbeats 1600000 in
theorem take_any (B : Nat) (m : Nat) (ins : List Int) (tr : List Says) (w : World) (F : Nat → Prop) (n : Int) (h : EV B 111 m ins tr w F) (hl : ins.length ≤ 140737488355328) :
    Calls Tryz.prog 129 #[.pointer (some ⟨m, 0, none⟩), .int .i64 n] w fun e w' => ∃ a' c', e = .returned (.slice a' (ins.take n.toNat).length c') ∧ Rd w' a' (ins.take n.toNat).length c' (ins.take n.toNat) ∧ (∀ x, a' = some x → w.heap.size ≤ x.block) ∧ EV B 111 m (ins.drop n.toNat) tr w' F ∧ Kept F w w' := by
  obtain ⟨wa, wl, wc, ev, es, h, ht⟩ := h
  have c0 := h.cell0
  have hwl := h.waits.length
  have hle := h.waits.le
  have hmx := h.waits.max
  have hnil := h.waits.nil
  obtain ⟨k, hk⟩ : ∃ k, k = min n.toNat wl := ⟨_, rfl⟩
  have hkl : k ≤ wl := by omega
  have e1 : ins.take n.toNat = ins.take k := by
    rcases Nat.le_total n.toNat wl with h1 | h1
    · rw [hk, Nat.min_eq_left h1]
    · rw [hk, Nat.min_eq_right h1, List.take_of_length_le (by omega), List.take_of_length_le (by omega)]
  have e2 : ins.drop n.toNat = ins.drop k := by
    rcases Nat.le_total n.toNat wl with h1 | h1
    · rw [hk, Nat.min_eq_left h1]
    · rw [hk, Nat.min_eq_right h1, List.drop_eq_nil_of_le (by omega), List.drop_eq_nil_of_le (by omega)]
  have e3 : (ins.take k).length = k := by simp; omega
  rw [e1, e2, e3]
  have hlt := h.lt
  have HC := hide (h.waits.front k hkl)
  have HT : Hid (∀ W1, Below w.heap.size w W1 → W1.cell? ⟨m, 0, none⟩ = some (.slice wa wl wc) ∧ W1.frozen? ⟨m, 0, none⟩ = false) := hide (fun W1 hb => ⟨(hb.cell hlt).trans h.cell0, (hb.frozen hlt).trans (h.frozen 0)⟩)
  have FIN := hide (take_fin h ht k)
  have HRD := hide h.waits
  have HL := hide hl
  clear h e1 e2 e3 hlt ht hl
  cases wa with
  | none =>
    obtain rfl : wc = 0 := hnil rfl
    obtain rfl : wl = 0 := by omega
    obtain rfl : k = 0 := by omega
    clear hk
    rcases (show n < 0 ∨ n = 0 ∨ 0 < n by omega) with h0 | rfl | h0
    all_goals
      go_enter Tryz.func129, Tryz.ntmps129
      go_wp2_with fail
      refine (dup_any _ _ _ _ w HC.out (by omega)).mono ?_
      rintro e W1 ⟨a', c', rfl, hr, hbl, hn⟩
      obtain ⟨c1, f1⟩ := HT.out W1 hbl
      have HR := hide hr
      have HB := hide hbl
      have HN := hide hn
      clear hr hbl hn c0 HT
      go_wp2
      go_ret
      exact FIN.out W1 a' c' none 0 0 HB.out HR.out HN.out (by omega) (HRD.out.rest_end 0 (by omega) rfl) (fun y hy => ⟨y, hy, rfl⟩) _ rfl
  | some x =>
    by_cases h0 : n < 0
    · obtain rfl : k = 0 := by omega
      clear hk
      go_enter Tryz.func129, Tryz.ntmps129
      go_wp2_with fail
      refine (dup_any _ _ _ _ w HC.out (by have := HL.out; omega)).mono ?_
      rintro e W1 ⟨a', c', rfl, hr, hbl, hn⟩
      obtain ⟨c1, f1⟩ := HT.out W1 hbl
      have HR := hide hr
      have HB := hide hbl
      have HN := hide hn
      clear hr hbl hn c0 HT
      go_wp2
      go_ret
      exact FIN.out W1 a' c' (some x) _ _ HB.out HR.out HN.out (by omega) (HRD.out) (fun y hy => ⟨y, hy, rfl⟩) _ rfl
    · obtain ⟨z, rfl⟩ := Int.eq_ofNat_of_zero_le (show 0 ≤ n by omega)
      by_cases h1 : z ≤ wl
      · obtain rfl : k = z := by omega
        clear hk h0
        go_enter Tryz.func129, Tryz.ntmps129
        go_wp2_with fail
        refine (dup_any _ _ _ _ w HC.out (by have := HL.out; omega)).mono ?_
        rintro e W1 ⟨a', c', rfl, hr, hbl, hn⟩
        obtain ⟨c1, f1⟩ := HT.out W1 hbl
        have HR := hide hr
        have HB := hide hbl
        have HN := hide hn
        clear hr hbl hn c0 HT
        go_wp2
        · go_ret
          exact FIN.out W1 a' c' (some x) _ 0 HB.out HR.out HN.out (by omega) (HRD.out.rest_end k (by omega) (by omega)) (fun y hy => ⟨y, hy, rfl⟩) _ rfl
        · go_ret
          exact FIN.out W1 a' c' (some (x.add k)) _ _ HB.out HR.out HN.out (by omega) (HRD.out.rest k (by omega) x rfl) (fun y hy => ⟨x, rfl, by cases hy; exact (add_block x _).symm⟩) _ rfl
      · obtain rfl : k = wl := by omega
        clear hk h0
        go_enter Tryz.func129, Tryz.ntmps129
        go_wp2_with fail
        refine (dup_any _ _ _ _ w HC.out (by have := HL.out; omega)).mono ?_
        rintro e W1 ⟨a', c', rfl, hr, hbl, hn⟩
        obtain ⟨c1, f1⟩ := HT.out W1 hbl
        have HR := hide hr
        have HB := hide hbl
        have HN := hide hn
        clear hr hbl hn c0 HT
        go_wp2
        · go_ret
          exact FIN.out W1 a' c' (some x) 0 0 HB.out HR.out HN.out (by omega) (by have h9 := HRD.out.rest_end k (by omega) (by omega); rwa [Nat.sub_self] at h9) (fun y hy => ⟨y, hy, rfl⟩) _ rfl
        · go_ret
          exact FIN.out W1 a' c' (some (x.add k)) 0 _ HB.out HR.out HN.out (by omega) (by have h9 := HRD.out.rest k (by omega) x rfl; rwa [Nat.sub_self] at h9) (fun y hy => ⟨x, rfl, by cases hy; exact (add_block x _).symm⟩) _ rfl

set_option maxHeartbeats 1600000 in
theorem rtake_any (B : Nat) (m : Nat) (ins : List Int) (tr : List Says) (w : World) (F : Nat → Prop) (n : Int) (h : EV B 62 m ins tr w F) (hl : ins.length ≤ 140737488355328) :
    Calls Tryz.prog 88 #[.pointer (some ⟨m, 0, none⟩), .int .i64 n] w fun e w' => ∃ a' c', e = .returned (.slice a' (ins.take n.toNat).length c') ∧ Rd w' a' (ins.take n.toNat).length c' (ins.take n.toNat) ∧ (∀ x, a' = some x → w.heap.size ≤ x.block) ∧ EV B 62 m (ins.drop n.toNat) tr w' F ∧ Kept F w w' := by
  obtain ⟨wa, wl, wc, ev, es, h, ht⟩ := h
  have c0 := h.cell0
  have hwl := h.waits.length
  have hle := h.waits.le
  have hmx := h.waits.max
  have hnil := h.waits.nil
  obtain ⟨k, hk⟩ : ∃ k, k = min n.toNat wl := ⟨_, rfl⟩
  have hkl : k ≤ wl := by omega
  have e1 : ins.take n.toNat = ins.take k := by
    rcases Nat.le_total n.toNat wl with h1 | h1
    · rw [hk, Nat.min_eq_left h1]
    · rw [hk, Nat.min_eq_right h1, List.take_of_length_le (by omega), List.take_of_length_le (by omega)]
  have e2 : ins.drop n.toNat = ins.drop k := by
    rcases Nat.le_total n.toNat wl with h1 | h1
    · rw [hk, Nat.min_eq_left h1]
    · rw [hk, Nat.min_eq_right h1, List.drop_eq_nil_of_le (by omega), List.drop_eq_nil_of_le (by omega)]
  have e3 : (ins.take k).length = k := by simp; omega
  rw [e1, e2, e3]
  have hlt := h.lt
  have HC := hide (h.waits.front k hkl)
  have HT : Hid (∀ W1, Below w.heap.size w W1 → W1.cell? ⟨m, 0, none⟩ = some (.slice wa wl wc) ∧ W1.frozen? ⟨m, 0, none⟩ = false) := hide (fun W1 hb => ⟨(hb.cell hlt).trans h.cell0, (hb.frozen hlt).trans (h.frozen 0)⟩)
  have FIN := hide (take_fin h ht k)
  have HRD := hide h.waits
  have HL := hide hl
  clear h e1 e2 e3 hlt ht hl
  obtain ⟨i0, hi, hz0, hz1, hz2⟩ := info_parts Tryz.info8
  cases wa with
  | none =>
    obtain rfl : wc = 0 := hnil rfl
    obtain rfl : wl = 0 := by omega
    obtain rfl : k = 0 := by omega
    clear hk
    rcases (show n < 0 ∨ n = 0 ∨ 0 < n by omega) with h0 | rfl | h0
    all_goals
      obtain ⟨c1, f1⟩ := HT.out w (Below.refl _ _)
      go_enter Tryz.func88, Tryz.ntmps88
      go_wp2
      go_ret
      exact FIN.out w none 0 none 0 0 (Below.refl _ _) HC.out (fun y hy => by cases hy) (by omega) (HRD.out.rest_end 0 (by omega) rfl) (fun y hy => ⟨y, hy, rfl⟩) _ rfl
  | some x =>
    by_cases h0 : n < 0
    · obtain rfl : k = 0 := by omega
      clear hk
      have HCL := hide HC.out.length
      have HCC := hide (HC.out.cells x rfl)
      go_enter Tryz.func88, Tryz.ntmps88
      go_wp2_with (at_builtin; refine wpList_append_own _ rfl _ _ 24 rfl w.heap.size 5 i0 (.int .u8 0) 1 1 Tryz.underlying24 hi hz0 hz1 hz2 rfl (by decide) _ _ _ rfl (World.ownsRow_nil _ _ _ _) x 0 wc ((ins.take 0).map (Value.int .u8)) rfl (by rw [List.length_map, HCL.out, Nat.mul_one]) (HCC.out) (ints_oneCell _ _) (by unfold maxLen; omega) (by have := HL.out; omega) (Nat.le_refl _) ?_; intro v' W1 hown hgrow hnn; refine Hid.out ?_)
      refine hide ?_
      have hbl : Below w.heap.size w W1 := (Below.refl _ _).grown hgrow (Nat.le_refl _) (by intro k hk; cases hk)
      have hown' : W1.ownsRow w.heap.size 5 1 v' 0 ((ins.take 0).map (Value.int .u8)) := by simpa using hown
      obtain ⟨a', c', hv, hr⟩ := Rd.own hown' HC.out.bytes
      rw [hv] at hown'
      have hn := eown_new hown'
      rw [hv]
      clear hown hgrow hown' hnn hv v'
      obtain ⟨c1, f1⟩ := HT.out W1 hbl
      have HR := hide hr
      have HB := hide hbl
      have HN := hide hn
      clear hr hbl hn c0 HT
      go_wp2
      go_ret
      exact FIN.out W1 a' c' (some x) _ _ HB.out HR.out HN.out (by omega) (HRD.out) (fun y hy => ⟨y, hy, rfl⟩) _ rfl
    · obtain ⟨z, rfl⟩ := Int.eq_ofNat_of_zero_le (show 0 ≤ n by omega)
      by_cases h1 : z ≤ wl
      · obtain rfl : k = z := by omega
        clear hk h0
        have HCL := hide HC.out.length
        have HCC := hide (HC.out.cells x rfl)
        go_enter Tryz.func88, Tryz.ntmps88
        go_wp2_with (at_builtin; refine wpList_append_own _ rfl _ _ 24 rfl w.heap.size 5 i0 (.int .u8 0) 1 1 Tryz.underlying24 hi hz0 hz1 hz2 rfl (by decide) _ _ _ rfl (World.ownsRow_nil _ _ _ _) x k wc ((ins.take k).map (Value.int .u8)) rfl (by rw [List.length_map, HCL.out, Nat.mul_one]) (HCC.out) (ints_oneCell _ _) (by unfold maxLen; omega) (by have := HL.out; omega) (Nat.le_refl _) ?_; intro v' W1 hown hgrow hnn; refine Hid.out ?_)
        refine hide ?_
        have hbl : Below w.heap.size w W1 := (Below.refl _ _).grown hgrow (Nat.le_refl _) (by intro k hk; cases hk)
        have hown' : W1.ownsRow w.heap.size 5 1 v' k ((ins.take k).map (Value.int .u8)) := by simpa using hown
        obtain ⟨a', c', hv, hr⟩ := Rd.own hown' HC.out.bytes
        rw [hv] at hown'
        have hn := eown_new hown'
        rw [hv]
        clear hown hgrow hown' hnn hv v'
        obtain ⟨c1, f1⟩ := HT.out W1 hbl
        have HR := hide hr
        have HB := hide hbl
        have HN := hide hn
        clear hr hbl hn c0 HT
        go_wp2
        · go_ret
          exact FIN.out W1 a' c' (some x) _ 0 HB.out HR.out HN.out (by omega) (HRD.out.rest_end k (by omega) (by omega)) (fun y hy => ⟨y, hy, rfl⟩) _ rfl
        · go_ret
          exact FIN.out W1 a' c' (some (x.add k)) _ _ HB.out HR.out HN.out (by omega) (HRD.out.rest k (by omega) x rfl) (fun y hy => ⟨x, rfl, by cases hy; exact (add_block x _).symm⟩) _ rfl
      · obtain rfl : k = wl := by omega
        clear hk h0
        have HCL := hide HC.out.length
        have HCC := hide (HC.out.cells x rfl)
        go_enter Tryz.func88, Tryz.ntmps88
        go_wp2_with (at_builtin; refine wpList_append_own _ rfl _ _ 24 rfl w.heap.size 5 i0 (.int .u8 0) 1 1 Tryz.underlying24 hi hz0 hz1 hz2 rfl (by decide) _ _ _ rfl (World.ownsRow_nil _ _ _ _) x k wc ((ins.take k).map (Value.int .u8)) rfl (by rw [List.length_map, HCL.out, Nat.mul_one]) (HCC.out) (ints_oneCell _ _) (by unfold maxLen; omega) (by have := HL.out; omega) (Nat.le_refl _) ?_; intro v' W1 hown hgrow hnn; refine Hid.out ?_)
        refine hide ?_
        have hbl : Below w.heap.size w W1 := (Below.refl _ _).grown hgrow (Nat.le_refl _) (by intro k hk; cases hk)
        have hown' : W1.ownsRow w.heap.size 5 1 v' k ((ins.take k).map (Value.int .u8)) := by simpa using hown
        obtain ⟨a', c', hv, hr⟩ := Rd.own hown' HC.out.bytes
        rw [hv] at hown'
        have hn := eown_new hown'
        rw [hv]
        clear hown hgrow hown' hnn hv v'
        obtain ⟨c1, f1⟩ := HT.out W1 hbl
        have HR := hide hr
        have HB := hide hbl
        have HN := hide hn
        clear hr hbl hn c0 HT
        go_wp2
        · go_ret
          exact FIN.out W1 a' c' (some x) 0 0 HB.out HR.out HN.out (by omega) (by have h9 := HRD.out.rest_end k (by omega) (by omega); rwa [Nat.sub_self] at h9) (fun y hy => ⟨y, hy, rfl⟩) _ rfl
        · go_ret
          exact FIN.out W1 a' c' (some (x.add k)) 0 _ HB.out HR.out HN.out (by omega) (by have h9 := HRD.out.rest k (by omega) x rfl; rwa [Nat.sub_self] at h9) (fun y hy => ⟨x, rfl, by cases hy; exact (add_block x _).symm⟩) _ rfl

end Go.Proofs.YtdhjjlnabbpinaaGreatDoor

/- The contract of env's Note: events join those that were noted before. -/
namespace Go.Proofs.YtdhjjlnabbpinaaGreatDoor
open Go.RowKit
set_option linter.unusedVariables false
set_option maxRecDepth 100000

theorem Tryz.infoEv : (Tryz.prog.info? 115).map (fun i => (i.zero, i.size, i.bytes)) = some (some (.agg #[.int .i64 0, .int .i64 0, .slice none 0 0, .int .i64 0]), 4, 48) := by kernel_rfl

/-- An event more. -/
theorem EVx.noted {B : Nat} {t : TypeId} {V W1 W2 : World} {m : Nat} {F : Nat → Prop} {ins : List Int} {wa : Option Addr} {wl wc : Nat} {ev : Value} {es : List Evt} (h : EVx B t V m F ins wa wl wc ev es) (hb : Below V.heap.size V W1) (x : Evt) (hx : x.Ok W1)
    (hsx : 0 < x.len → ∀ y, x.a = some y → V.heap.size ≤ y.block ∨ (y.block < B ∧ ¬ F y.block)) (o : Obj) (gg cap : Nat)
    (hown : W2.ownsRow 0 115 4 (.slice (some ⟨gg, 0, none⟩) (es.length + 1) cap) (es.length + 1) (evCells es ++ x.cells)) (hgrow : (W1.alloc o).grownBy W2 ev.ownBlock) (hat : ev.ownBlock = some gg ∨ gg = W1.heap.size + 1) (hlt : gg < W2.heap.size) :
    ∃ F', EVx B t (W2.setCell ⟨m, 1, none⟩ (.slice (some ⟨gg, 0, none⟩) (es.length + 1) cap)) m F' ins wa wl wc (.slice (some ⟨gg, 0, none⟩) (es.length + 1) cap) (es ++ [x]) ∧ Went F V F' (W2.setCell ⟨m, 1, none⟩ (.slice (some ⟨gg, 0, none⟩) (es.length + 1) cap)) := by
  have hml := h.lt
  have hsz := hb.size
  have hmg : gg ≠ m := by
    rcases hat with h1 | h1
    · exact (h.fg gg h1).2
    · omega
  have k1 : Kept (fun k => k = m ∨ ev.ownBlock = some k) W1 (W2.setCell ⟨m, 1, none⟩ (.slice (some ⟨gg, 0, none⟩) (es.length + 1) cap)) :=
    (((Kept.refl _ W1).alloc o).trans (F' := fun k => ev.ownBlock = some k) (Kept.of_grown hgrow (fun k hk => hk)) (fun k hk => Or.inl (Or.inr hk))).setCell _ _ (Or.inl (Or.inl rfl))
  have k0 : Kept (fun k => k = m ∨ ev.ownBlock = some k) V (W2.setCell ⟨m, 1, none⟩ (.slice (some ⟨gg, 0, none⟩) (es.length + 1) cap)) := (kept_of_below hb _).trans k1 (fun k hk => Or.inl hk)
  have hs3 : (W2.setCell ⟨m, 1, none⟩ (.slice (some ⟨gg, 0, none⟩) (es.length + 1) cap)).heap.size = W2.heap.size := by simp [World.setCell]
  have hs2 : V.heap.size ≤ W2.heap.size := by have := k0.size; omega
  have gl : ∀ g, ev.ownBlock = some g → g < V.heap.size := ownsRow_blk h.row
  have hm2 : W2.heap[m]? = some (.cells #[.slice wa wl wc, ev] t (0, 0)) := by
    rw [hgrow.block m (by simp; omega) (fun e => (h.fg m e.symm).2 rfl), Below.heap_alloc _ _ _ (by omega), hb.block m hml]
    exact h.head
  have far : ∀ k, k < V.heap.size → (∀ g, ev.ownBlock = some g → g ≠ k) → gg ≠ k := fun k hk hg => by
    rcases hat with h1 | h1
    · exact hg gg h1
    · omega
  have hnb : ∀ {g : Nat}, (Value.slice (some ⟨gg, 0, none⟩) (es.length + 1) cap).ownBlock = some g → g = gg := fun {g} h => by
    simp [Value.ownBlock] at h
    exact h.symm
  have xblk : 0 < x.len → ∀ y, x.a = some y → y.block ≠ m ∧ ev.ownBlock ≠ some y.block ∧ gg ≠ y.block ∧ y.block < W1.heap.size := by
    intro h0 y hy
    have h1 := hx.b.blk h0 y hy
    have h2 := hsx h0 y hy
    have h3 : y.block ≠ m := fun e => by
      rcases h2 with h2 | h2
      · omega
      · exact h2.2 (e ▸ h.fm)
    have h4 : ev.ownBlock ≠ some y.block := fun e => by
      rcases h2 with h2 | h2
      · have := gl _ e; omega
      · exact h2.2 (h.fg _ e).1
    refine ⟨h3, h4, fun e => ?_, h1⟩
    rcases hat with h5 | h5
    · exact h4 (e ▸ h5)
    · omega
  refine ⟨fun k => F k ∨ (V.heap.size ≤ k ∧ k < W2.heap.size), ⟨setCell_head hm2, k0.rd h.waits (fun h0 y hy => ?_), ?_, fun z hz => ?_, Or.inl h.fm, fun g hg => ?_, fun h0 y hy => ?_, fun z hz h0 y hy => ?_, fun k hk => ?_⟩, k0.mono (fun k hk => ?_), fun k hk => ?_⟩
  · rintro (e | e)
    · exact (h.sw h0 y hy).2.1 e
    · exact (h.sw h0 y hy).2.2 e
  · rw [evCells_append, evCells_one, List.length_append]
    exact ownsRow_kept hown (fun g hg => ((Kept.refl (fun k => k = m) W2).setCell _ _ (Or.inl rfl)).block g (by rw [hnb hg]; exact hlt) (by rw [hnb hg]; exact hmg))
  · rcases List.mem_append.1 hz with hz | hz
    · refine ⟨(h.ok z hz).kind, (h.ok z hz).fd, (h.ok z hz).n, k0.rd (h.ok z hz).b (fun h0 y hy => ?_)⟩
      rintro (e | e)
      · exact (h.se z hz h0 y hy).2.1 e
      · exact (h.se z hz h0 y hy).2.2 e
    · obtain rfl : z = x := by simpa using hz
      refine ⟨hx.kind, hx.fd, hx.n, k1.rd hx.b (fun h0 y hy => ?_)⟩
      rintro (e | e)
      · exact (xblk h0 y hy).1 e
      · exact (xblk h0 y hy).2.1 e
  · rw [hnb hg]
    refine ⟨?_, hmg⟩
    rcases hat with h1 | h1
    · exact Or.inl (h.fg gg h1).1
    · exact Or.inr ⟨by omega, hlt⟩
  · obtain ⟨h1, h2, h3⟩ := h.sw h0 y hy
    have h4 := h.waits.blk h0 y hy
    refine ⟨?_, h2, fun e => far y.block h4 (fun g hg he => h3 (he ▸ hg)) (hnb e).symm⟩
    rcases h1 with h1 | h1
    · exact Or.inl (Or.inl h1)
    · exact Or.inr h1
  · rcases List.mem_append.1 hz with hz | hz
    · obtain ⟨h1, h2, h3⟩ := h.se z hz h0 y hy
      have h4 := (h.ok z hz).b.blk h0 y hy
      refine ⟨?_, h2, fun e => far y.block h4 (fun g hg he => h3 (he ▸ hg)) (hnb e).symm⟩
      rcases h1 with h1 | h1
      · exact Or.inl (Or.inl h1)
      · exact Or.inr h1
    · obtain rfl : z = x := by simpa using hz
      obtain ⟨h1, h2, h3, h4⟩ := xblk h0 y hy
      refine ⟨?_, h1, fun e => h3 (hnb e).symm⟩
      rcases hsx h0 y hy with h5 | h5
      · refine Or.inl (Or.inr ⟨h5, ?_⟩)
        have := k1.size
        omega
      · exact Or.inr h5.1
  · rw [hs3]
    rcases hk with hk | hk
    · have := h.flt k hk; omega
    · exact hk.2
  · rcases hk with rfl | hk
    · exact h.fm
    · exact (h.fg k hk).1
  · rcases hk with hk | hk
    · exact Or.inl hk
    · exact Or.inr hk.1

theorem Evs.kept {G : Nat → Prop} {w w' : World} {a : Option Addr} {len : Nat} {es : List Evt} (h : Evs w a len es) (hk : Kept G w w') (ha : 0 < len → ∀ x, a = some x → ¬ G x.block) (hb : ∀ x ∈ es, 0 < x.len → ∀ y, x.a = some y → ¬ G y.block) : Evs w' a len es :=
  ⟨h.length, h.max, fun x hx => ⟨(h.ok x hx).kind, (h.ok x hx).fd, (h.ok x hx).n, hk.rd (h.ok x hx).b (hb x hx)⟩, fun i x hx => by
    obtain ⟨b, o, h1, h2⟩ := h.cell i x hx
    refine ⟨b, o, h1, fun j hj => ?_⟩
    have h3 := h2 j hj
    have h4 : x.cells[j]? = some (x.cells[j]'(by simpa [Evt.cells] using hj)) := List.getElem?_eq_getElem _
    rw [h4] at h3 ⊢
    have hi := (List.getElem?_eq_some_iff.1 hx).1
    have hl := h.length
    exact hk.cell h3 (ha (by omega) ⟨b, o, none⟩ h1)⟩

theorem note_fin {B : Nat} {t : TypeId} {V W1 W2 : World} {m : Nat} {F : Nat → Prop} {ins : List Int} {wa : Option Addr} {wl wc : Nat} {ev : Value} {es : List Evt} {T : List Says} {L : Nat} (h : EVx B t V m F ins wa wl wc ev es) (ht : es.map Evt.says = T) (hL : es.length = L) (hb : Below V.heap.size V W1) (x : Evt) (hx : x.Ok W1)
    (hsx : 0 < x.len → ∀ y, x.a = some y → V.heap.size ≤ y.block ∨ (y.block < B ∧ ¬ F y.block)) (o : Obj) (gg cap : Nat)
    (hown : W2.ownsRow 0 115 4 (.slice (some ⟨gg, 0, none⟩) (L + 1) cap) (L + 1) (evCells es ++ x.cells)) (hgrow : (W1.alloc o).grownBy W2 ev.ownBlock) (hat : ev.ownBlock = some gg ∨ gg = W1.heap.size + 1) (hlt : gg < W2.heap.size) :
    ∃ F', EV B t m ins (T ++ [x.says]) (W2.setCell ⟨m, 1, none⟩ (.slice (some ⟨gg, 0, none⟩) (L + 1) cap)) F' ∧ Went F V F' (W2.setCell ⟨m, 1, none⟩ (.slice (some ⟨gg, 0, none⟩) (L + 1) cap)) := by
  subst hL
  obtain ⟨F', h1, h2⟩ := h.noted hb x hx hsx o gg cap hown hgrow hat hlt
  exact ⟨F', ⟨_, _, _, _, _, h1, by rw [List.map_append, ht]; rfl⟩, h2⟩

theorem says_snoc {es : List Evt} {j : Nat} {x : Evt} (h : es[j]? = some x) (tr : List Says) : (tr ++ (es.take j).map Evt.says) ++ [x.says] = tr ++ (es.take (j + 1)).map Evt.says := by
  rw [List.take_add_one, h]
  simp

set_option maxHeartbeats 3200000 in
theorem note_any (B : Nat) (m : Nat) (ins : List Int) (tr : List Says) (w : World) (F : Nat → Prop) (a : Option Addr) (len cap : Nat) (es : List Evt) (h : EV B 111 m ins tr w F) (hE : Evs w a len es) (ha : 0 < len → ∀ x, a = some x → ¬ F x.block) (hb : ∀ x ∈ es, 0 < x.len → ∀ y, x.a = some y → ¬ F y.block)
    (hs : ∀ x ∈ es, x.len ≤ 140737488355328) (hn : tr.length + len ≤ 1000000) :
    Calls Tryz.prog 127 #[.pointer (some ⟨m, 0, none⟩), .slice a len cap] w fun e w' => e = .returned (.tuple #[]) ∧ ∃ F', EV B 111 m ins (tr ++ es.map Evt.says) w' F' ∧ Went F w F' w' := by
  obtain ⟨i0, hi, hz0, hz1, hz2⟩ := info_parts Tryz.infoEv
  have HE := hide hE
  have HA := hide ha
  have HB := hide hb
  have HS := hide hs
  have H0 := hide h
  have hlm := hE.max
  clear hE ha hb hs h
  go_enter Tryz.func127, Tryz.ntmps127
  go_wp2
  go_loopw [8] (fun i wr => ∃ (j : Nat) (F' : Nat → Prop), j ≤ len ∧ i = .int .i64 (j : Int) ∧ EV B 111 m ins (tr ++ (es.take j).map Evt.says) wr F' ∧ Went F w F' wr) (fun i _ => len - (intOf i).toNat)
  case atStart => exact ⟨0, F, by omega, rfl, by simpa using H0.out, Went.refl _ _⟩
  case round =>
    obtain ⟨j, F1, hj, rfl, hEV, hW⟩ := hrel
    by_cases hlt : j < len
    · have hlen := HE.out.length
      obtain ⟨x, hxj⟩ : ∃ x, es[j]? = some x := ⟨_, List.getElem?_eq_getElem (by omega)⟩
      have hxm : x ∈ es := List.mem_of_getElem? hxj
      have hE1 := HE.out.kept hW.1 HA.out HB.out
      obtain ⟨b, o, hab, hcx⟩ := hE1.cell j x hxj
      have hxo := hE1.ok x hxm
      subst hab
      have k0 : wr.cell? ⟨b, o + j * 4, none⟩ = some (.int .i64 x.kind) := hcx 0 (by omega)
      have k1 : wr.cell? ⟨b, o + j * 4 + 1, none⟩ = some (.int .i64 x.fd) := hcx 1 (by omega)
      have k2 : wr.cell? ⟨b, o + j * 4 + 2, none⟩ = some (.slice x.a x.len x.cap) := hcx 2 (by omega)
      have k3 : wr.cell? ⟨b, o + j * 4 + 3, none⟩ = some (.int .i64 x.n) := hcx 3 (by omega)
      have HXO := hide hxo
      have HEV := hide hEV
      have HW := hide hW
      have HXM := hide hxm
      have HXJ := hide hxj
      clear hcx hxo hEV hW hxm hxj hE1
      go_upto_region 3 with fail
      obtain ⟨X, hXe⟩ : ∃ X, X = wr.heap.size := ⟨_, rfl⟩
      rw [← hXe]
      obtain ⟨V, hV⟩ : ∃ V, V = wr.alloc (.cells #[.int .i64 x.kind, .int .i64 x.fd, .slice x.a x.len x.cap, .int .i64 x.n] 115) := ⟨_, rfl⟩
      rw [← hV]
      have bV : Below wr.heap.size wr V := by rw [hV]; exact (Below.refl _ _).alloc (Nat.le_refl _) _
      obtain ⟨c0, c1, c2, c3, f0, f1, f2, f3⟩ : Box4 V X (.int .i64 x.kind) (.int .i64 x.fd) (.slice x.a x.len x.cap) (.int .i64 x.n) := box4_of (t := 115) (by rw [hV, hXe]; exact heap_alloc_new wr _)
      clear k0 k1 k2 k3 f0 f1 f2 f3 hV hXe
      obtain ⟨wa, wl, wc, ev, es1, hx1, ht1⟩ := HEV.out
      have hlen1 : es1.length = tr.length + j := by
        have := congrArg List.length ht1
        simp at this
        omega
      have bD : Below wr.heap.size wr V.drew := bV.drew
      have hx2 : EVx B 111 V.drew m F1 ins wa wl wc ev es1 := hx1.kept (kept_of_below bD (fun _ => False)) (fun _ _ h => h) (fun _ h => h.elim)
      have cm := hx2.cell1
      have fm := hx2.frozen 1
      have hml := hx2.lt
      have cm' : V.cell? ⟨m, 1, none⟩ = some ev := by simpa using cm
      have HC := hide (own_any x V.drew (HXO.out.below bD) (HS.out x HXM.out))
      obtain ⟨L, hL⟩ : ∃ L, es1.length = L := ⟨_, rfl⟩
      have hL6 : L < 1000000 := by omega
      have HROW : Hid (∀ W1 o, Below V.drew.heap.size V.drew W1 → (W1.alloc o).ownsRow 0 115 4 ev L (evCells es1)) := hide (fun W1 o hb => by
        rw [← hL]
        exact World.ownsRow.alloc (ownsRow_kept hx2.row (fun g hg => hb.block g (ownsRow_blk hx2.row g hg))) o)
      have HFAR : Hid (∀ W1 o W2, Below V.drew.heap.size V.drew W1 → (W1.alloc o).grownBy W2 ev.ownBlock → W2.cell? ⟨m, 1, none⟩ = some ev ∧ W2.frozen? ⟨m, 1, none⟩ = false) := hide (fun W1 o W2 hb hg => by
        have hz := hb.size
        have h1 : m < (W1.alloc o).heap.size := by simp; omega
        have h2 : some m ≠ ev.ownBlock := fun e => (hx2.fg m e.symm).2 rfl
        have h3 : Below V.drew.heap.size V.drew (W1.alloc o) := hb.alloc hz _
        exact ⟨(hg.cell_far ⟨m, 1, none⟩ h1 h2).trans ((h3.cell hml).trans cm), (hg.frozen_far ⟨m, 1, none⟩ h1 h2).trans ((h3.frozen hml).trans fm)⟩)
      have HX2 := hide hx2
      have HT1 := hide ht1
      have HL := hide hL
      have HBD := hide bD
      have hmV : m < V.heap.size := by simpa using hml
      have HWr := hide (Nat.le_refl wr.heap.size)
      clear bV hx1 ht1 hlen1 hx2 cm fm hml hL bD
      go_region_law (first
        | (refine step_append_lies _ (by rfl) _ _ _ (by rfl) 0 115 i0 _ 4 48 Tryz.underlying60 hi hz0 hz1 hz2 rfl (by omega) ev L (evCells es1) (by rfl) (HROW.out W1 _ HBL.out) ⟨W1.heap.size, 0, none⟩ 1 1 [.int .i64 x.kind, .int .i64 x.fd, .slice a' x.len c', .int .i64 x.n] (by rfl) (by rfl) (World.news_of_block (cs := #[.int .i64 x.kind, .int .i64 x.fd, .slice a' x.len c', .int .i64 x.n]) (t := 115) (fr := (0, 0)) (heap_alloc_new W1 _)) (by simp [Value.oneCell']) (by omega) (by unfold maxLen; omega) (by omega) (by omega) (W1.heap.size + 1) (by simp) ?_; intro gg cap2 W2 hown2 hgrow hat hlt2; obtain ⟨cm2, fm2⟩ := HFAR.out W1 _ W2 HBL.out hgrow; have HO2 := hide hown2; have HG2 := hide hgrow; have HAT := hide hat; have HLT := hide hlt2; clear hown2 hgrow hat hlt2)
        | (go_simp; go_at_call 61; refine HC.out.mono ?_; rintro e W1 ⟨a', c', rfl, hr, hbl, hnw⟩; have cm1 : W1.cell? ⟨m, 1, none⟩ = some ev := (hbl.cell (by simpa using hmV)).trans (by simpa using cm'); have hm1 : m < W1.heap.size := Nat.lt_of_lt_of_le (by simpa using hmV) hbl.size; have HR1 := hide hr; have HBL := hide hbl; have HNW := hide hnw; clear hr hbl hnw; go_wp2_with fail))
      all_goals
        have HFIN : Hid (∃ F2, EV B 111 m ins (tr ++ (es.take (j + 1)).map Evt.says) (W2.setCell ⟨m, 1, none⟩ (.slice (some ⟨gg, 0, none⟩) (L + 1) cap2)) F2 ∧ Went F w F2 (W2.setCell ⟨m, 1, none⟩ (.slice (some ⟨gg, 0, none⟩) (L + 1) cap2))) := by
          refine hide ?_
          obtain ⟨F2, h1, h2⟩ := note_fin HX2.out HT1.out HL.out HBL.out ⟨x.kind, x.fd, a', x.len, c', x.n, x.bs⟩ ⟨HXO.out.kind, HXO.out.fd, HXO.out.n, HR1.out⟩ (fun _ y hy => Or.inl (HNW.out y hy)) _ gg cap2 HO2.out HG2.out HAT.out HLT.out
          refine ⟨F2, ?_, HW.out.trans (Went.trans (F' := F1) ⟨kept_of_below HBD.out _, fun k hk => Or.inl hk⟩ h2)⟩
          rw [← says_snoc HXJ.out]
          exact h1
        clear HX2 HT1 HL HBL HR1 HNW HO2 HG2 HAT HLT HROW HFAR HC HXO HEV HBD cm2 fm2 cm1 hm1 cm'
        go_wp2
        go_roundw
        case rel =>
          obtain ⟨F2, h1, h2⟩ := HFIN.out
          exact ⟨j + 1, F2, by omega, by go_num, h1, h2⟩
        case measure => simp [intOf]; omega
    · obtain rfl : j = len := by omega
      have HEV := hide hEV
      have HW := hide hW
      clear hEV hW
      go_wp2
      go_end0
      have hlen := HE.out.length
      have h1 := HEV.out
      rw [List.take_of_length_le (by omega)] at h1
      exact ⟨rfl, F1, h1, HW.out⟩

end Go.Proofs.YtdhjjlnabbpinaaGreatDoor

/- The contract of env's Trace: the events, in new memory. -/
namespace Go.Proofs.YtdhjjlnabbpinaaGreatDoor
open Go.RowKit
set_option linter.unusedVariables false
set_option maxRecDepth 100000

/-- A row of events of the call's own, as it grows. -/
structure TSt (w wr : World) (v : Value) (es : List Evt) : Prop where
  row : wr.ownsRow w.heap.size 115 4 v es.length (evCells es)
  ok : ∀ x ∈ es, x.Ok wr
  off : ∀ x ∈ es, 0 < x.len → ∀ y, x.a = some y → v.ownBlock ≠ some y.block
  bel : Below w.heap.size w wr

theorem TSt.step {w wr W1 W2 : World} {v : Value} {es : List Evt} (h : TSt w wr v es) (hb : Below wr.heap.size wr W1) (x : Evt) (hx : x.Ok W1) (hn : ∀ y, x.a = some y → wr.heap.size ≤ y.block) {o : Obj} {gg cap L : Nat} (hL : es.length = L)
    (hown : W2.ownsRow w.heap.size 115 4 (.slice (some ⟨gg, 0, none⟩) (L + 1) cap) (L + 1) (evCells es ++ x.cells)) (hgrow : (W1.alloc o).grownBy W2 v.ownBlock) (hat : v.ownBlock = some gg ∨ gg = W1.heap.size + 1) :
    TSt w W2 (.slice (some ⟨gg, 0, none⟩) (L + 1) cap) (es ++ [x]) := by
  subst hL
  have hsz := hb.size
  have gl := ownsRow_blk h.row
  have k1 : Kept (fun k => v.ownBlock = some k) W1 W2 := ((Kept.refl _ W1).alloc o).trans (Kept.of_grown hgrow (fun k hk => hk)) (fun k hk => Or.inl hk)
  have k0 : Kept (fun k => v.ownBlock = some k) wr W2 := (kept_of_below hb _).trans k1 (fun k hk => Or.inl hk)
  have hnb : ∀ {g : Nat}, (Value.slice (some ⟨gg, 0, none⟩) (es.length + 1) cap).ownBlock = some g → g = gg := fun {g} h => by
    simp [Value.ownBlock] at h
    exact h.symm
  have hvb : ∀ k, v.ownBlock = some k → w.heap.size ≤ k := by
    intro k hk
    rcases h.row.2 with ⟨rfl, _⟩ | ⟨g, c, cur, rfl, h2, _⟩
    · cases hk
    · cases hk
      exact h2
  refine ⟨by rw [evCells_append, evCells_one, List.length_append]; exact hown, fun z hz => ?_, fun z hz h0 y hy e => ?_, h.bel.trans (k0.below h.bel.size hvb)⟩
  · rcases List.mem_append.1 hz with hz | hz
    · exact ⟨(h.ok z hz).kind, (h.ok z hz).fd, (h.ok z hz).n, k0.rd (h.ok z hz).b (h.off z hz)⟩
    · obtain rfl : z = x := by simpa using hz
      refine ⟨hx.kind, hx.fd, hx.n, k1.rd hx.b (fun _ y hy e => ?_)⟩
      have h1 := hn y hy
      have h2 := gl _ e
      omega
  · have e' := hnb e
    rcases List.mem_append.1 hz with hz | hz
    · have h1 := (h.ok z hz).b.blk h0 y hy
      rcases hat with h2 | h2
      · exact h.off z hz h0 y hy (e'.symm ▸ h2)
      · omega
    · obtain rfl : z = x := by simpa using hz
      have h1 := hx.b.blk h0 y hy
      have h3 := hn y hy
      rcases hat with h2 | h2
      · have := gl _ h2; omega
      · omega

set_option maxHeartbeats 3200000 in
theorem trace_any (B : Nat) (m : Nat) (ins : List Int) (tr : List Says) (w : World) (F : Nat → Prop) (h : EV B 111 m ins tr w F) (hs : ∀ s ∈ tr, s.bs.length ≤ 140737488355328) (hn : tr.length ≤ 1000000) :
    Calls Tryz.prog 30 #[.pointer (some ⟨m, 0, none⟩)] w fun e w' => ∃ a c es, e = .returned (.slice a tr.length c) ∧ Evs w' a tr.length es ∧ es.map Evt.says = tr ∧ Below w.heap.size w w' := by
  obtain ⟨i0, hi, hz0, hz1, hz2⟩ := info_parts Tryz.infoEv
  obtain ⟨wa, wl, wc, ev, es, h, ht⟩ := h
  have c1 := h.cell1
  obtain ⟨a0, cap0, rfl, hE, hcap, hcm⟩ := Evs.own h.row h.ok
  have hlen : es.length = tr.length := by rw [← ht, List.length_map]
  rw [hlen] at c1 hE hcap
  obtain ⟨n, hnn⟩ : ∃ n, tr.length = n := ⟨_, rfl⟩
  rw [hnn] at c1 hE hcap hlen hn ⊢
  obtain ⟨W0, hmk, hown0, hgrow0⟩ := run_make_own (P := Tryz.prog) w w.heap.size 60 115 i0 _ 4 Tryz.underlying60 hi hz0 hz1 .i64 .i64 n (by rw [hz2]; omega) (by unfold maxLen; omega) (Nat.le_refl _)
  have b0 : Below w.heap.size w W0 := (Below.refl _ _).grown hgrow0 (Nat.le_refl _) (by intro k hk; cases hk)
  have hml := h.lt
  have c1' : W0.cell? ⟨m, 1, none⟩ = some (.slice a0 n cap0) := (b0.cell hml).trans c1
  have HTS0 : Hid (TSt w W0 (.slice (some ⟨w.heap.size, 0, none⟩) 0 n) []) := hide ⟨hown0, (fun x hx => by cases hx), (fun x hx => by cases hx), b0⟩
  have HE := hide hE
  have HTR := hide ht
  have HS := hide hs
  clear h hs hE hown0 hgrow0 b0 ht hnn
  go_enter Tryz.func30, Tryz.ntmps30
  go_wp2
  go_loopw [3, 17] (fun v i wr => ∃ (j : Nat) (es1 : List Evt), j ≤ n ∧ i = .int .i64 (j : Int) ∧ es1.length = j ∧ es1.map Evt.says = (es.take j).map Evt.says ∧ TSt w wr v es1) (fun _ i _ => n - (intOf i).toNat)
  case atStart => exact ⟨0, [], by omega, rfl, rfl, rfl, HTS0.out⟩
  case round =>
    obtain ⟨j, es1, hj, rfl, hl1, hm1, hTS⟩ := hrel
    clear c1 c1' hmk
    by_cases hlt : j < n
    · obtain ⟨x, hxj⟩ : ∃ x, es[j]? = some x := ⟨_, List.getElem?_eq_getElem (by omega)⟩
      have hxm : x ∈ es := List.mem_of_getElem? hxj
      have hE1 := HE.out.below hTS.bel
      obtain ⟨b, o, hab, hcx⟩ := hE1.cell j x hxj
      have hxo := hE1.ok x hxm
      subst hab
      have k0 : wr.cell? ⟨b, o + j * 4, none⟩ = some (.int .i64 x.kind) := hcx 0 (by omega)
      have k1 : wr.cell? ⟨b, o + j * 4 + 1, none⟩ = some (.int .i64 x.fd) := hcx 1 (by omega)
      have k2 : wr.cell? ⟨b, o + j * 4 + 2, none⟩ = some (.slice x.a x.len x.cap) := hcx 2 (by omega)
      have k3 : wr.cell? ⟨b, o + j * 4 + 3, none⟩ = some (.int .i64 x.n) := hcx 3 (by omega)
      have HXO := hide hxo
      have HTS := hide hTS
      have HXJ := hide hxj
      have HL1 := hide hl1
      have HM1 := hide hm1
      have hsx : x.len ≤ 140737488355328 := by
        have h1 := HS.out x.says (by rw [← HTR.out]; exact List.mem_map_of_mem hxm)
        have h2 := hxo.b.length
        simp only [Evt.says] at h1
        omega
      have HSX := hide hsx
      clear hcx hxo hTS hxm hxj hE1 hl1 hm1 hsx
      go_wp2_with fail
      obtain ⟨V, hV⟩ : ∃ V, V = wr.alloc (.cells #[.int .i64 x.kind, .int .i64 x.fd, .slice x.a x.len x.cap, .int .i64 x.n] 115) := ⟨_, rfl⟩
      rw [← hV]
      have bV : Below wr.heap.size wr V := by rw [hV]; exact (Below.refl _ _).alloc (Nat.le_refl _) _
      clear hV k0 k1 k2 k3
      refine (own_any x V (HXO.out.below bV) HSX.out).mono ?_
      rintro e W1 ⟨a', c', rfl, hr, hbl, hnw⟩
      have bW : Below wr.heap.size wr W1 := bV.trans (hbl.mono bV.size)
      have HROW : Hid (∀ o, (W1.alloc o).ownsRow w.heap.size 115 4 u3 j (evCells es1)) := hide (fun o => by
        have h1 := HTS.out.row
        rw [HL1.out] at h1
        exact World.ownsRow.alloc (ownsRow_kept h1 (fun g hg => bW.block g (ownsRow_blk h1 g hg))) o)
      have hsz : w.heap.size ≤ (W1.heap.size + 1) := by have := HTS.out.bel.size; have := bW.size; omega
      have HBW := hide bW
      have HR := hide hr
      have HN : Hid (∀ y, a' = some y → wr.heap.size ≤ y.block) := hide (fun y hy => Nat.le_trans bV.size (hnw y hy))
      clear bW bV hr hbl hnw
      go_wp2_with (at_builtin; refine wpList_append_lies _ rfl _ _ 60 rfl w.heap.size 115 i0 _ 4 48 Tryz.underlying60 hi hz0 hz1 hz2 rfl (by omega) u3 j (evCells es1) rfl (HROW.out _) ⟨W1.heap.size, 0, none⟩ 1 1 [.int .i64 x.kind, .int .i64 x.fd, .slice a' x.len c', .int .i64 x.n] rfl rfl (World.news_of_block (cs := #[.int .i64 x.kind, .int .i64 x.fd, .slice a' x.len c', .int .i64 x.n]) (t := 115) (fr := (0, 0)) (heap_alloc_new W1 _)) (by simp [Value.oneCell']) (by omega) (by unfold maxLen; omega) (by omega) (by simpa using hsz) (W1.heap.size + 1) (by simp) ?_; intro gg cap2 W2 hown2 hgrow hat hlt2; refine Hid.out ?_)
      refine hide ?_
      have HTS2 := hide (HTS.out.step HBW.out ⟨x.kind, x.fd, a', x.len, c', x.n, x.bs⟩ ⟨HXO.out.kind, HXO.out.fd, HXO.out.n, HR.out⟩ HN.out HL1.out hown2 hgrow hat)
      clear hown2 hgrow hat hlt2 HROW HBW HN HR HTS HXO hsz
      go_wp2
      go_roundw
      case rel =>
        refine ⟨j + 1, _, by omega, by go_num, ?_, ?_, HTS2.out⟩
        · rw [List.length_append, HL1.out]
          rfl
        · rw [List.map_append, HM1.out, List.take_add_one, HXJ.out]
          simp [Evt.says]
      case measure => simp [intOf]; omega
    · obtain rfl : j = n := by omega
      have HTS := hide hTS
      have HL1 := hide hl1
      have HM1 := hide hm1
      obtain ⟨a1, cap1, hv, hE1, _⟩ := Evs.own hTS.row hTS.ok
      rw [hl1] at hv hE1
      have HE1 := hide hE1
      subst hv
      clear hTS hl1 hm1 hE1
      go_wp2
      go_ret
      refine ⟨a1, cap1, es1, rfl, HE1.out, ?_, HTS.out.bel⟩
      rw [HM1.out, List.take_of_length_le (by omega)]
      exact HTR.out

end Go.Proofs.YtdhjjlnabbpinaaGreatDoor

/- Contracts of env's Output and of the document's: the bytes of all writes to a file, in new memory. -/
namespace Go.Proofs.YtdhjjlnabbpinaaGreatDoor
open Go.RowKit
set_option linter.unusedVariables false
set_option maxRecDepth 100000

/-- The bytes of all writes to a file. -/
noncomputable def outOf (fd : Int) (tr : List Says) : List Int := tr.flatMap fun s => if s.kind = 0 ∧ s.fd = fd then s.bs else []

theorem outOf_nil (fd : Int) : outOf fd [] = [] := rfl
theorem outOf_snoc (fd : Int) (tr : List Says) (s : Says) : outOf fd (tr ++ [s]) = outOf fd tr ++ (if s.kind = 0 ∧ s.fd = fd then s.bs else []) := by simp [outOf]
theorem outOf_app (fd : Int) (tr tr' : List Says) : outOf fd (tr ++ tr') = outOf fd tr ++ outOf fd tr' := by simp [outOf]
theorem outOf_le (fd : Int) (tr : List Says) (j : Nat) : (outOf fd (tr.take j)).length ≤ (outOf fd tr).length := by
  have h := outOf_app fd (tr.take j) (tr.drop j)
  rw [List.take_append_drop] at h
  rw [h, List.length_append]
  omega
theorem outOf_bytes {fd : Int} : ∀ {tr : List Says}, (∀ s ∈ tr, Bytes s.bs) → Bytes (outOf fd tr)
  | [], h => Bytes.nil
  | s :: tr, h => by
    have h1 := outOf_bytes (fd := fd) (tr := tr) (fun x hx => h x (List.mem_cons_of_mem _ hx))
    have e : outOf fd (s :: tr) = (if s.kind = 0 ∧ s.fd = fd then s.bs else []) ++ outOf fd tr := by simp [outOf]
    rw [e]
    refine Bytes.append ?_ h1
    split
    · exact h s (List.mem_cons_self ..)
    · exact Bytes.nil

/-- A row of bytes of the call's own. -/
def RowB (B : Nat) (w : World) (v : Value) (l : List Int) : Prop := w.ownsRow B 5 1 v l.length (l.map (Value.int .u8))





end Go.Proofs.YtdhjjlnabbpinaaGreatDoor

/- The contract of the statements' help Events: two lists of events that say the same are told to be the same. -/
namespace Go.Proofs.YtdhjjlnabbpinaaGreatDoor
open Go.RowKit
set_option linter.unusedVariables false
set_option maxRecDepth 100000

theorem bel_drewN (w : World) (n : Nat) : Below w.heap.size w (w.drewN n) := ⟨rfl, rfl, rfl, Nat.le_refl _, fun _ _ => rfl⟩

set_option maxHeartbeats 3200000 in
theorem events_any (a a2 : Option Addr) (n cap cap2 : Nat) (es es2 : List Evt) (w : World) (h : Evs w a n es) (h2 : Evs w a2 n es2) (hs : es.map Evt.says = es2.map Evt.says) :
    Calls Tryz.prog 29 #[.slice a n cap, .slice a2 n cap2] w fun e w' => e = .returned (.bool true) ∧ Below w.heap.size w w' := by
  have hmx := h.max
  have H := hide h
  have H2 := hide h2
  have HS := hide hs
  clear h h2 hs
  go_enter Tryz.func29, Tryz.ntmps29
  go_wp2
  go_loopw [5] (fun i wr => ∃ (j : Nat), j ≤ n ∧ i = .int .i64 (j : Int) ∧ Below w.heap.size w wr) (fun i _ => n - (intOf i).toNat)
  case atStart => exact ⟨0, by omega, rfl, Below.refl _ _⟩
  case round =>
    obtain ⟨j, hj, rfl, hB⟩ := hrel
    by_cases hlt : j < n
    · have hl1 := H.out.length
      have hl2 := H2.out.length
      obtain ⟨x, hxj⟩ : ∃ x, es[j]? = some x := ⟨_, List.getElem?_eq_getElem (by omega)⟩
      obtain ⟨y, hyj⟩ : ∃ y, es2[j]? = some y := ⟨_, List.getElem?_eq_getElem (by omega)⟩
      have hE1 := H.out.below hB
      have hE2 := H2.out.below hB
      obtain ⟨b, o, hab, hcx⟩ := hE1.cell j x hxj
      obtain ⟨b2, o2, hab2, hcy⟩ := hE2.cell j y hyj
      have hxo := (hE1.ok x (List.mem_of_getElem? hxj)).b
      have hyo := (hE2.ok y (List.mem_of_getElem? hyj)).b
      have hsay : x.says = y.says := by
        have h1 : (es.map Evt.says)[j]? = (es2.map Evt.says)[j]? := by rw [HS.out]
        rw [List.getElem?_map, List.getElem?_map, hxj, hyj] at h1
        simpa using h1
      subst hab hab2
      obtain ⟨kind, fd, xa, xl, xc, xn, xb⟩ := x
      obtain ⟨kind2, fd2, ya, yl, yc, yn, yb⟩ := y
      simp only [Evt.says, Says.mk.injEq] at hsay
      obtain ⟨rfl, rfl, rfl, rfl⟩ := hsay
      have k0 : wr.cell? ⟨b, o + j * 4, none⟩ = some (.int .i64 kind) := hcx 0 (by omega)
      have k1 : wr.cell? ⟨b, o + j * 4 + 1, none⟩ = some (.int .i64 fd) := hcx 1 (by omega)
      have k2 : wr.cell? ⟨b, o + j * 4 + 2, none⟩ = some (.slice xa xl xc) := hcx 2 (by omega)
      have k3 : wr.cell? ⟨b, o + j * 4 + 3, none⟩ = some (.int .i64 xn) := hcx 3 (by omega)
      have l0 : wr.cell? ⟨b2, o2 + j * 4, none⟩ = some (.int .i64 kind) := hcy 0 (by omega)
      have l1 : wr.cell? ⟨b2, o2 + j * 4 + 1, none⟩ = some (.int .i64 fd) := hcy 1 (by omega)
      have l2 : wr.cell? ⟨b2, o2 + j * 4 + 2, none⟩ = some (.slice ya yl yc) := hcy 2 (by omega)
      have l3 : wr.cell? ⟨b2, o2 + j * 4 + 3, none⟩ = some (.int .i64 xn) := hcy 3 (by omega)
      dsimp only at hxo hyo
      have s1 := fun k => (hxo.below (bel_drewN wr k)).str
      have s2 := fun k => (hyo.below (bel_drewN wr k)).str
      generalize strOfNums xb = S at *
      have HB := hide hB
      clear hcx hcy hxo hyo hxj hyj hB hE1 hE2 hl1 hl2
      go_upto_region 6 with fail
      go_quiet (fail)
      go_wp2
      go_roundw
      case rel => exact ⟨j + 1, by omega, by go_num, HB.out.trans ((bel_drewN wr _).mono HB.out.size)⟩
      case measure => simp [intOf]; omega
    · have HB := hide hB
      clear hB
      go_wp2
      go_ret
      exact ⟨rfl, HB.out⟩

end Go.Proofs.YtdhjjlnabbpinaaGreatDoor

/- Environments side by side with other things of the call's own: each call of one leaves the others. -/
namespace Go.Proofs.YtdhjjlnabbpinaaGreatDoor
open Go.RowKit
set_option linter.unusedVariables false
set_option maxRecDepth 100000

/-- Bytes that are read. -/
def RdT (a : Option Addr) (len cap : Nat) (bs : List Int) (w : World) (F : Nat → Prop) : Prop := Rd w a len cap bs ∧ (0 < len → ∀ x, a = some x → F x.block) ∧ ∀ k, F k → k < w.heap.size

/-- Events that are read; what lies below B is never written. -/
def ArgT (B : Nat) (a : Option Addr) (len : Nat) (es : List Evt) (w : World) (F : Nat → Prop) : Prop :=
  Evs w a len es ∧ (0 < len → ∀ x, a = some x → F x.block ∨ x.block < B) ∧ (∀ x ∈ es, 0 < x.len → ∀ y, x.a = some y → F y.block ∨ y.block < B) ∧ ∀ k, F k → k < w.heap.size

/-- A row of bytes of the call's own. -/
def RowT (v : Value) (l : List Int) (w : World) (F : Nat → Prop) : Prop := RowB 0 w v l ∧ Bytes l ∧ (∀ g, v.ownBlock = some g → F g) ∧ ∀ k, F k → k < w.heap.size

theorem rd_stays (B : Nat) (a : Option Addr) (len cap : Nat) (bs : List Int) : Stays B (RdT a len cap bs) :=
  ⟨fun ⟨h1, h2, h3⟩ hk hd hG => ⟨hk.rd h1 (fun hl x hx => hd _ (h2 hl x hx)), h2, fun k hF => Nat.lt_of_lt_of_le (h3 k hF) hk.size⟩, fun ⟨h1, h2, h3⟩ => h3⟩
theorem arg_stays (B : Nat) (a : Option Addr) (len : Nat) (es : List Evt) : Stays B (ArgT B a len es) := by
  refine ⟨fun {w w' F G} ⟨h1, h2, h3, h4⟩ hk hd hG => ?_, fun ⟨h1, h2, h3, h4⟩ => h4⟩
  have off : ∀ k, (F k ∨ k < B) → ¬ G k := fun k hk hg => by
    rcases hk with h1 | h1
    · exact hd k h1 hg
    · have := hG k hg; omega
  exact ⟨h1.kept hk (fun hl x hx => off _ (h2 hl x hx)) (fun x hx hl y hy => off _ (h3 x hx hl y hy)), h2, h3, fun k hF => Nat.lt_of_lt_of_le (h4 k hF) hk.size⟩
theorem row_stays (B : Nat) (v : Value) (l : List Int) : Stays B (RowT v l) :=
  ⟨fun ⟨h1, h2, h3, h4⟩ hk hd hG => ⟨ownsRow_kept h1 (fun g hg => hk.block g (ownsRow_blk h1 g hg) (hd g (h3 g hg))), h2, h3, fun k hF => Nat.lt_of_lt_of_le (h4 k hF) hk.size⟩, fun ⟨h1, h2, h3, h4⟩ => h4⟩

section
variable {w0 w w' : World} {P Q : World → (Nat → Prop) → Prop} {l : List (World → (Nat → Prop) → Prop)} {m : Nat} {ins : List Int} {tr : List Says}

theorem Has.top (h : Has w0 w (P :: l)) : ∃ F, P w F := by
  obtain ⟨F, ⟨F1, F2, h1, _⟩, _⟩ := h.ex
  exact ⟨F1, h1⟩

theorem Has.rd {a : Option Addr} {len cap : Nat} {bs : List Int} (h : Has w0 w (RdT a len cap bs :: l)) : Rd w a len cap bs := by
  obtain ⟨F, h1⟩ := h.top
  exact h1.1

/-- The first thing turns, and another comes in new blocks. -/
theorem Has.step2 (h : Has w0 w (P :: l)) : ∃ F, P w F ∧ (∀ k, F k → w0.heap.size ≤ k) ∧ ∀ (w' : World) (P' Q : World → (Nat → Prop) → Prop) (F' G : Nat → Prop), P' w' F' → Went F w F' w' → Stays w0.heap.size P' → Q w' G → (∀ k, G k → w.heap.size ≤ k) → (∀ k, F' k → ¬ G k) → Stays w0.heap.size Q → Has w0 w' (P' :: Q :: l) := by
  obtain ⟨F, ⟨F1, F2, h1, h2, h3, h4⟩, h5⟩ := h.ex
  have hl : AllStay w0.heap.size l := fun Q hQ => h.stay Q (List.mem_cons_of_mem _ hQ)
  have b1 : ∀ k, F1 k → w0.heap.size ≤ k := fun k hk => h5 k ((h4 k).2 (Or.inl hk))
  refine ⟨F1, h1, b1, fun w' P' Q F' G hP' hw hs hQ hG hd hsQ => ?_⟩
  have g := hw.below h.bel.size b1
  have f2 := h2.flt hl
  refine ⟨⟨fun k => F' k ∨ (G k ∨ F2 k), ⟨F', fun k => G k ∨ F2 k, hP', ⟨G, F2, hQ, h2.kept hw.1 b1 hl (fun k hf hg => h3 k hg hf), fun k hg hf => ?_, fun k => Iff.rfl⟩, fun k hf hg => ?_, fun k => Iff.rfl⟩, fun k hk => ?_⟩, h.bel.trans g.1, AllStay.cons hs (AllStay.cons hsQ hl)⟩
  · have := hG k hg
    have := f2 k hf
    omega
  · rcases hg with hg | hg
    · exact hd k hf hg
    · rcases hw.2 k hf with h6 | h6
      · exact h3 k h6 hg
      · have := f2 k hg
        omega
  · rcases hk with hk | hk | hk
    · exact g.2 k hk
    · have := hG k hk
      have := h.bel.size
      omega
    · exact h5 k ((h4 k).2 (Or.inr hk))

/-- The first two things are opened; whatever turns the first alone leaves the others. -/
theorem Has.open2 (h : Has w0 w (P :: Q :: l)) : ∃ F G, P w F ∧ Q w G ∧ (∀ k, F k → ¬ G k) ∧ (∀ k, F k → w0.heap.size ≤ k) ∧ ∀ (w' : World) (P' : World → (Nat → Prop) → Prop) (F' : Nat → Prop), P' w' F' → Went F w F' w' → Stays w0.heap.size P' → Has w0 w' (P' :: Q :: l) := by
  obtain ⟨F, ⟨F1, F2, h1, h2, h3, h4⟩, h5⟩ := h.ex
  have hl : AllStay w0.heap.size (Q :: l) := fun Q hQ => h.stay Q (List.mem_cons_of_mem _ hQ)
  have b1 : ∀ k, F1 k → w0.heap.size ≤ k := fun k hk => h5 k ((h4 k).2 (Or.inl hk))
  obtain ⟨G1, G2, g1, g2, g3, g4⟩ := id h2
  refine ⟨F1, G1, h1, g1, fun k hf hg => h3 k hf ((g4 k).2 (Or.inl hg)), b1, fun w' P' F' hP' hw hs => ?_⟩
  have g := hw.below h.bel.size b1
  refine ⟨⟨fun k => F' k ∨ F2 k, ⟨F', F2, hP', h2.kept hw.1 b1 hl (fun k hf hg => h3 k hg hf), fun k hf hg => ?_, fun k => Iff.rfl⟩, fun k hk => ?_⟩, h.bel.trans g.1, AllStay.cons hs hl⟩
  · rcases hw.2 k hf with h6 | h6
    · exact h3 k h6 hg
    · have := h2.flt hl k hg
      omega
  · rcases hk with hk | hk
    · exact g.2 k hk
    · exact h5 k ((h4 k).2 (Or.inr hk))

theorem has_new (h : Has w0 w l) {a : Option Addr} {len cap : Nat} {bs : List Int} (r : Rd w a len cap bs) (hb : len ≤ 140737488355328) :
    Calls Tryz.prog 22 #[.slice a len cap] w fun e w' => ∃ m, e = .returned (.pointer (some ⟨m, 0, none⟩)) ∧ Has w0 w' (EV w0.heap.size 111 m bs [] :: l) := by
  refine (enew_any w0.heap.size a len cap bs w r hb).mono ?_
  rintro e w' ⟨m, F, he, hE, hF, hbl⟩
  exact ⟨m, he, h.more hbl hE hF (ev_stays _ _ _ _ _)⟩

theorem has_take (h : Has w0 w (EV w0.heap.size 111 m ins tr :: l)) (n : Int) (hl : ins.length ≤ 140737488355328) :
    Calls Tryz.prog 129 #[.pointer (some ⟨m, 0, none⟩), .int .i64 n] w fun e w' => ∃ a' c', e = .returned (.slice a' (ins.take n.toNat).length c') ∧ Has w0 w' (EV w0.heap.size 111 m (ins.drop n.toNat) tr :: RdT a' (ins.take n.toNat).length c' (ins.take n.toNat) :: l) := by
  obtain ⟨F, h1, h2, h3⟩ := h.step2
  refine (take_any w0.heap.size m ins tr w F n h1 hl).mono ?_
  rintro e w' ⟨a', c', he, hr, hn, hE, hK⟩
  have hf := (ev_stays w0.heap.size 111 m ins tr).flt h1
  exact ⟨a', c', he, h3 w' _ _ F (fun k => 0 < (ins.take n.toNat).length ∧ ∃ x, a' = some x ∧ k = x.block) hE ⟨hK, fun k hk => Or.inl hk⟩ (ev_stays _ _ _ _ _) ⟨hr, fun hl x hx => ⟨hl, x, hx, rfl⟩, fun k ⟨hl, x, hx, e⟩ => e ▸ hr.blk hl x hx⟩ (fun k ⟨hl, x, hx, e⟩ => e ▸ hn x hx) (fun k hk ⟨hl, x, hx, e⟩ => by have := hf k hk; have := hn x hx; omega) (rd_stays _ _ _ _ _)⟩

theorem has_rtake (h : Has w0 w (EV w0.heap.size 62 m ins tr :: l)) (n : Int) (hl : ins.length ≤ 140737488355328) :
    Calls Tryz.prog 88 #[.pointer (some ⟨m, 0, none⟩), .int .i64 n] w fun e w' => ∃ a' c', e = .returned (.slice a' (ins.take n.toNat).length c') ∧ Has w0 w' (EV w0.heap.size 62 m (ins.drop n.toNat) tr :: RdT a' (ins.take n.toNat).length c' (ins.take n.toNat) :: l) := by
  obtain ⟨F, h1, h2, h3⟩ := h.step2
  refine (rtake_any w0.heap.size m ins tr w F n h1 hl).mono ?_
  rintro e w' ⟨a', c', he, hr, hn, hE, hK⟩
  have hf := (ev_stays w0.heap.size 62 m ins tr).flt h1
  exact ⟨a', c', he, h3 w' _ _ F (fun k => 0 < (ins.take n.toNat).length ∧ ∃ x, a' = some x ∧ k = x.block) hE ⟨hK, fun k hk => Or.inl hk⟩ (ev_stays _ _ _ _ _) ⟨hr, fun hl x hx => ⟨hl, x, hx, rfl⟩, fun k ⟨hl, x, hx, e⟩ => e ▸ hr.blk hl x hx⟩ (fun k ⟨hl, x, hx, e⟩ => e ▸ hn x hx) (fun k hk ⟨hl, x, hx, e⟩ => by have := hf k hk; have := hn x hx; omega) (rd_stays _ _ _ _ _)⟩

theorem has_left (h : Has w0 w (EV w0.heap.size 111 m ins tr :: l)) : Calls Tryz.prog 31 #[.pointer (some ⟨m, 0, none⟩)] w fun e w' => e = .returned (.int .i64 (ins.length : Int)) ∧ w' = w := by
  obtain ⟨F, h1⟩ := h.top
  exact left_any _ _ m ins tr w F h1

theorem has_note {a : Option Addr} {len cap : Nat} {es : List Evt} (h : Has w0 w (EV w0.heap.size 111 m ins tr :: ArgT w0.heap.size a len es :: l)) (hs : ∀ x ∈ es, x.len ≤ 140737488355328) (hn : tr.length + len ≤ 1000000) :
    Calls Tryz.prog 127 #[.pointer (some ⟨m, 0, none⟩), .slice a len cap] w fun e w' => e = .returned (.tuple #[]) ∧ Has w0 w' (EV w0.heap.size 111 m ins (tr ++ es.map Evt.says) :: ArgT w0.heap.size a len es :: l) := by
  obtain ⟨F, G, h1, ⟨g1, g2, g3, g4⟩, h3, h4, h5⟩ := h.open2
  have off : ∀ k, (G k ∨ k < w0.heap.size) → ¬ F k := fun k hk hf => by
    rcases hk with h6 | h6
    · exact h3 k hf h6
    · have := h4 k hf; omega
  refine (note_any w0.heap.size m ins tr w F a len cap es h1 g1 (fun hl x hx => off _ (g2 hl x hx)) (fun x hx hl y hy => off _ (g3 x hx hl y hy)) hs hn).mono ?_
  rintro e w' ⟨he, F', hE, hW⟩
  exact ⟨he, h5 w' _ F' hE hW (ev_stays _ _ _ _ _)⟩

theorem has_trace (h : Has w0 w (EV w0.heap.size 111 m ins tr :: l)) (hs : ∀ s ∈ tr, s.bs.length ≤ 140737488355328) (hn : tr.length ≤ 1000000) :
    Calls Tryz.prog 30 #[.pointer (some ⟨m, 0, none⟩)] w fun e w' => ∃ a c es, e = .returned (.slice a tr.length c) ∧ Evs w' a tr.length es ∧ es.map Evt.says = tr ∧ Below w.heap.size w w' := by
  obtain ⟨F, h1⟩ := h.top
  exact trace_any _ m ins tr w F h1 hs hn





/-- An event that was laid in a block of its own, its bytes older than the call or in another new block. -/
theorem Has.arg1 (h : Has w0 w l) (hb : Below w.heap.size w w') {X : Nat} {x : Evt} {t : TypeId} (hX : w.heap.size ≤ X) (hc : w'.heap[X]? = some (.cells #[.int .i64 x.kind, .int .i64 x.fd, .slice x.a x.len x.cap, .int .i64 x.n] t (0, 0))) (hx : x.Ok w')
    (hy : 0 < x.len → ∀ y, x.a = some y → w.heap.size ≤ y.block ∨ y.block < w0.heap.size) : Has w0 w' (ArgT w0.heap.size (some ⟨X, 0, none⟩) 1 [x] :: l) := by
  have hxl : X < w'.heap.size := (Array.getElem?_eq_some_iff.1 hc).1
  refine h.more (F := fun k => k = X ∨ (w.heap.size ≤ k ∧ k < w'.heap.size)) hb ⟨⟨rfl, by omega, fun z hz => ?_, fun i z hz => ⟨X, 0, rfl, fun j hj => ?_⟩⟩, fun _ z hz => Or.inl (Or.inl ?_), fun z hz hl y hyz => ?_, fun k hk => ?_⟩ (fun k hk => ?_) (arg_stays _ _ _ _)
  · obtain rfl : z = x := by simpa using hz
    exact hx
  · obtain ⟨rfl, rfl⟩ : i = 0 ∧ z = x := by
      cases i with
      | zero => exact ⟨rfl, by simpa using hz.symm⟩
      | succ i => simp at hz
    rw [cell_of_row _ _ _ _ _ _ hc]
    simp [Evt.cells]
  · cases hz
    rfl
  · obtain rfl : z = x := by simpa using hz
    rcases hy hl y hyz with h1 | h1
    · exact Or.inl (Or.inr ⟨h1, hx.b.blk hl y hyz⟩)
    · exact Or.inr h1
  · rcases hk with rfl | hk
    · exact hxl
    · exact hk.2
  · rcases hk with rfl | hk
    · exact hX
    · exact hk.1

end

end Go.Proofs.YtdhjjlnabbpinaaGreatDoor

/- Two memories side by side: what is done to one leaves the other. -/
namespace Go.Proofs.YtdhjjlnabbpinaaGreatDoor
open Go.RowKit Go.Maps
set_option linter.unusedVariables false
set_option maxRecDepth 100000

/-- What blocks F of a world hold lasts while others turn. -/
structure Lasts (P : World → (Nat → Prop) → Prop) : Prop where
  kept : ∀ {w w' : World} {F G : Nat → Prop}, P w F → Kept G w w' → (∀ k, F k → ¬ G k) → P w' F
  flt : ∀ {w : World} {F : Nat → Prop}, P w F → ∀ k, F k → k < w.heap.size

theorem pm_lasts (m : Nat) (S : Mm) : Lasts (fun w F => PM w m S F) := ⟨fun h hk hd => h.kept hk hd, fun h => h.flt⟩

/-- Two things of the call's own, in blocks apart. -/
def Pair (w0 w : World) (P Q : World → (Nat → Prop) → Prop) : Prop :=
  ∃ F G, P w F ∧ Q w G ∧ (∀ k, F k → w0.heap.size ≤ k) ∧ (∀ k, G k → w0.heap.size ≤ k) ∧ (∀ k, F k → ¬ G k) ∧ Below w0.heap.size w0 w

variable {w0 w w' : World} {P P' Q Q' : World → (Nat → Prop) → Prop}

theorem Pair.bel (h : Pair w0 w P Q) : Below w0.heap.size w0 w := by
  obtain ⟨F, G, _, _, _, _, _, h6⟩ := h
  exact h6

theorem Pair.symm (h : Pair w0 w P Q) : Pair w0 w Q P := by
  obtain ⟨F, G, h1, h2, h3, h4, h5, h6⟩ := h
  exact ⟨G, F, h2, h1, h4, h3, fun k hk hf => h5 k hf hk, h6⟩

theorem Pair.below (h : Pair w0 w P Q) (hP : Lasts P) (hQ : Lasts Q) (hb : Below w.heap.size w w') : Pair w0 w' P Q := by
  obtain ⟨F, G, h1, h2, h3, h4, h5, h6⟩ := h
  exact ⟨F, G, hP.kept h1 (kept_of_below hb (fun _ => False)) (fun _ _ h => h), hQ.kept h2 (kept_of_below hb (fun _ => False)) (fun _ _ h => h), h3, h4, h5, h6.trans (hb.mono h6.size)⟩

/-- A call that turns the first alone. -/
theorem Pair.left {C : (Nat → Prop) → Prop} (h : Pair w0 w P Q) (hQ : Lasts Q) (f : Nat) (args : Array Value) (R : Ending → Prop)
    (hc : ∀ F, P w F → (∀ k, F k → w0.heap.size ≤ k) → Calls Tryz.prog f args w fun e w' => R e ∧ ∃ F', P' w' F' ∧ Went F w F' w') :
    Calls Tryz.prog f args w fun e w' => R e ∧ Pair w0 w' P' Q := by
  obtain ⟨F, G, h1, h2, h3, h4, h5, h6⟩ := h
  refine (hc F h1 h3).mono ?_
  rintro e w' ⟨he, F', h7, h8⟩
  have h9 := h8.below h6.size h3
  refine ⟨he, F', G, h7, hQ.kept h2 h8.1 (fun k hg hf => h5 k hf hg), h9.2, h4, fun k hf hg => ?_, h6.trans h9.1⟩
  rcases h8.2 k hf with h10 | h10
  · exact h5 k h10 hg
  · have := hQ.flt h2 k hg; omega

/-- A call that turns neither. -/
theorem Pair.ask (h : Pair w0 w P Q) (hP : Lasts P) (hQ : Lasts Q) (f : Nat) (args : Array Value) (R : Ending → World → Prop)
    (hc : ∀ F, P w F → Calls Tryz.prog f args w fun e w' => R e w' ∧ Below w.heap.size w w') :
    Calls Tryz.prog f args w fun e w' => R e w' ∧ Pair w0 w' P Q := by
  obtain ⟨F, G, h1, h2, h3, h4, h5, h6⟩ := h
  refine (hc F h1).mono ?_
  rintro e w' ⟨he, hb⟩
  exact ⟨he, Pair.below ⟨F, G, h1, h2, h3, h4, h5, h6⟩ hP hQ hb⟩

end Go.Proofs.YtdhjjlnabbpinaaGreatDoor

/- The program's machine with its memory and its environment, side by side with other things of the call's own. -/
namespace Go.Proofs.YtdhjjlnabbpinaaGreatDoor
open Go.RowKit Go.Maps
set_option linter.unusedVariables false
set_option maxRecDepth 100000

def PMt (m : Nat) (S : Mm) (w : World) (F : Nat → Prop) : Prop := PM w m S F
theorem pmt_stays (B m : Nat) (S : Mm) : Stays B (PMt m S) := ⟨fun h hk hd _ => PM.kept h hk hd, fun h => PM.flt h⟩

/-- Block m is the program's machine M; its memory is block mm, its environment block me. -/
def MH (w0 w : World) (m mm me : Nat) (M : Mc) (l : List (World → (Nat → Prop) → Prop)) : Prop :=
  Has w0 w (HD m mm me M.x M.pc M.kind M.code M.trap :: PMt mm M.mem :: EV w0.heap.size 111 me M.ins M.tr :: l)

/-- What came of an instruction: it was done, or a trap is told and nothing was done. -/
def Did (M D : Mc) (r : Int) (M' : Mc) : Prop := (r = 0 ∧ M' = D) ∨ (r ≠ 0 ∧ InI r ∧ D = M.trapped r ∧ M' = M)

section
variable {w0 w w' : World} {m mm me : Nat} {M : Mc} {l : List (World → (Nat → Prop) → Prop)}

theorem MH.below (h : MH w0 w m mm me M l) (hb : Below w.heap.size w w') : MH w0 w' m mm me M l := Has.below h hb
theorem MH.bel (h : MH w0 w m mm me M l) : Below w0.heap.size w0 w := Has.bel h

/-- The machine's own block turns alone. -/
theorem MH.head (h : MH w0 w m mm me M l) : ∃ F, HD m mm me M.x M.pc M.kind M.code M.trap w F ∧ ∀ (w' : World) (x : Nat → Int) (pc : Nat) (k c t : Int), HD m mm me x pc k c t w' F → Went F w F w' → MH w0 w' m mm me ⟨M.mem, M.ins, M.tr, x, pc, k, c, t⟩ l := by
  obtain ⟨F, h1, h2, h3⟩ := Has.step h
  exact ⟨F, h1, fun w' x pc k c t hd hw => h3 w' _ F hd hw (hd_stays _ _ _ _ _ _ _ _ _)⟩

theorem MH.hd (h : MH w0 w m mm me M l) : ∃ F, HD m mm me M.x M.pc M.kind M.code M.trap w F := Has.top h
theorem MH.pm (h : MH w0 w m mm me M l) : ∃ F, PM w mm M.mem F := Has.top (Has.drop h)
theorem MH.fits (h : MH w0 w m mm me M l) : Fits M.x M.pc M.kind M.code M.trap := by
  obtain ⟨F, h1⟩ := h.hd
  exact h1.fits
theorem MH.good (h : MH w0 w m mm me M l) : M.mem.Good := by
  obtain ⟨F, h1⟩ := h.pm
  exact h1.good

/-- Memory and environment turn; the machine's own block stays. -/
theorem MH.rest {S : Mm} {ins : List Int} {tr : List Says} (h : Has w0 w (PMt mm S :: EV w0.heap.size 111 me ins tr :: HD m mm me M.x M.pc M.kind M.code M.trap :: l)) : MH w0 w m mm me ⟨S, ins, tr, M.x, M.pc, M.kind, M.code, M.trap⟩ l := Has.back h

theorem MH.eta (h : MH w0 w m mm me M l) : MH w0 w m mm me ⟨M.mem, M.ins, M.tr, M.x, M.pc, M.kind, M.code, M.trap⟩ l := h

/-- A call that turns the machine's own block alone. -/
theorem MH.call (h : MH w0 w m mm me M l) (fn : Nat) (args : Array Value) {x : Nat → Int} {pc : Nat} {k c t : Int} {R : Ending → Prop}
    (hc : ∀ F, HD m mm me M.x M.pc M.kind M.code M.trap w F → Calls Tryz.prog fn args w fun e w' => R e ∧ HD m mm me x pc k c t w' F ∧ Went F w F w') :
    Calls Tryz.prog fn args w fun e w' => R e ∧ MH w0 w' m mm me ⟨M.mem, M.ins, M.tr, x, pc, k, c, t⟩ l := by
  obtain ⟨F, h1, h2⟩ := h.head
  refine (hc F h1).mono ?_
  rintro e w' ⟨h3, h4, h5⟩
  exact ⟨h3, h2 w' _ _ _ _ _ h4 h5⟩

/-- The machine's memory turns alone. -/
theorem MH.mem (h : MH w0 w m mm me M l) : ∃ F, PM w mm M.mem F ∧ (∀ k, F k → w0.heap.size ≤ k) ∧ ∀ (w' : World) (S' : Mm) (F' : Nat → Prop), PM w' mm S' F' → Went F w F' w' → MH w0 w' m mm me ⟨S', M.ins, M.tr, M.x, M.pc, M.kind, M.code, M.trap⟩ l := by
  obtain ⟨F, h1, h2, h3⟩ := (Has.swap h).step
  exact ⟨F, h1, h2, fun w' S' F' g1 g2 => (h3 w' (PMt mm S') F' g1 g2 (pmt_stays _ _ _)).swap⟩

/-- An instruction that was laid in block X. -/
def InXT (X : Nat) (o rd r1 r2 im : Int) (w : World) (F : Nat → Prop) : Prop := InX w X o rd r1 r2 im ∧ F X ∧ ∀ k, F k → k < w.heap.size
theorem inxt_stays (B X : Nat) (o rd r1 r2 im : Int) : Stays B (InXT X o rd r1 r2 im) :=
  ⟨fun ⟨h1, h2, h3⟩ hk hd hG => ⟨h1.kept hk (hd X h2), h2, fun k hF => Nat.lt_of_lt_of_le (h3 k hF) hk.size⟩, fun ⟨h1, h2, h3⟩ => h3⟩

variable {P : World → (Nat → Prop) → Prop} {X : Nat} {o rd r1 r2 im : Int}

theorem MH.more (h : MH w0 w m mm me M l) (hb : Below w.heap.size w w') {F : Nat → Prop} (hP : P w' F) (hF : ∀ k, F k → w.heap.size ≤ k) (hs : Stays w0.heap.size P) : MH w0 w' m mm me M (P :: l) :=
  (Has.more h hb hP hF hs).perm ((List.Perm.swap ..).trans (List.Perm.cons _ ((List.Perm.swap ..).trans (List.Perm.cons _ (List.Perm.swap ..)))))
theorem MH.less (h : MH w0 w m mm me M (P :: l)) : Has w0 w (P :: HD m mm me M.x M.pc M.kind M.code M.trap :: PMt mm M.mem :: EV w0.heap.size 111 me M.ins M.tr :: l) :=
  Has.perm h (((List.Perm.cons _ ((List.Perm.cons _ (List.Perm.swap ..)).trans (List.Perm.swap ..))).trans (List.Perm.swap ..)))
theorem MH.unbox (h : MH w0 w m mm me M (P :: l)) : MH w0 w m mm me M l := Has.drop h.less
theorem MH.box (h : MH w0 w m mm me M l) (ty : TypeId) (o rd r1 r2 im : Int) : MH w0 (w.alloc (.cells #[.int .i64 o, .int .i64 rd, .int .i64 r1, .int .i64 r2, .int .i64 im] ty)) m mm me M (InXT w.heap.size o rd r1 r2 im :: l) :=
  h.more (F := fun k => k = w.heap.size) (below_alloc _ _) ⟨InX.new _ _ _ _ _ _ _, rfl, fun k hk => by subst hk; simp⟩ (fun k hk => by subst hk; exact Nat.le_refl _) (inxt_stays _ _ _ _ _ _ _)
theorem MH.inx (h : MH w0 w m mm me M (InXT X o rd r1 r2 im :: l)) : InX w X o rd r1 r2 im := by
  obtain ⟨F, h1⟩ := Has.top h.less
  exact h1.1
theorem MH.c0 (h : MH w0 w m mm me M l) : w.cell? ⟨m, 0, none⟩ = some (.pointer (some ⟨mm, 0, none⟩)) := by
  obtain ⟨F, h1⟩ := h.hd
  exact h1.c0
theorem MH.c1 (h : MH w0 w m mm me M l) : w.cell? ⟨m, 1, none⟩ = some (.pointer (some ⟨me, 0, none⟩)) := by
  obtain ⟨F, h1⟩ := h.hd
  exact h1.c1
theorem MH.c3 (h : MH w0 w m mm me M l) : w.cell? ⟨m, 3, none⟩ = some (.int .u64 (M.pc : Int)) := by
  obtain ⟨F, h1⟩ := h.hd
  exact h1.c3

theorem mh_reg (h : MH w0 w m mm me M l) (z : Int) (hz : InI z) :
    Calls Tryz.prog 13 #[.pointer (some ⟨m, 0, none⟩), .int .i64 z] w fun e w' => e = .returned (.int .u64 (rg M.x z)) ∧ w' = w := by
  obtain ⟨F, h1⟩ := h.hd
  exact mreg_any z w h1 hz
theorem mh_place (h : MH w0 w m mm me M l) (o rd r1 r2 im : Int) (hr : 0 ≤ r1 ∧ r1 < 32) (i0 : -9223372036854775808 ≤ im) (i1 : im ≤ 9223372036854775807) :
    Calls Tryz.prog 76 #[.pointer (some ⟨m, 0, none⟩), inst o rd r1 r2 im] w fun e w' => e = .returned (.int .u64 (u64 (M.x r1.toNat + im))) ∧ MH w0 w' m mm me M l := by
  obtain ⟨F, h1⟩ := h.hd
  have h2 := place_any o rd r1 r2 im w h1 (ini_of hr) i0 i1
  rw [rg_in hr] at h2
  exact h2.mono (fun e w' ⟨h3, h4⟩ => ⟨h3, h.below h4⟩)
theorem mh_operand (h : MH w0 w m mm me M l) (hL : Laid w0) (o rd r1 r2 im : Int) (hr : 0 ≤ r2 ∧ r2 < 32) (i0 : -9223372036854775808 ≤ im) (i1 : im ≤ 9223372036854775807) :
    Calls Tryz.prog 82 #[.pointer (some ⟨m, 0, none⟩), inst o rd r1 r2 im] w fun e w' => e = .returned (.int .u64 (if fmo o = 1 then u64 im else M.x r2.toNat)) ∧ MH w0 w' m mm me M l := by
  obtain ⟨F, h1⟩ := h.hd
  have h2 := operand_any o rd r1 r2 im w h1 (hL.below h.bel hL.1) (ini_of hr) i0 i1
  rw [rg_in hr] at h2
  exact h2.mono (fun e w' ⟨h3, h4⟩ => ⟨h3, h.below h4⟩)
theorem mh_next (h : MH w0 w m mm me M l) :
    Calls Tryz.prog 80 #[.pointer (some ⟨m, 0, none⟩)] w fun e w' => e = .returned (.int .i64 0) ∧ MH w0 w' m mm me M.next l :=
  h.call _ _ (R := fun e => e = .returned (.int .i64 0)) (fun F hd => next_any w hd)
theorem mh_put (h : MH w0 w m mm me M l) (rd v : Int) (hi : InI rd) (hv : 0 ≤ v ∧ v ≤ 18446744073709551615) :
    Calls Tryz.prog 73 #[.pointer (some ⟨m, 0, none⟩), .int .i64 rd, .int .u64 v] w fun e w' => e = .returned (.int .i64 0) ∧ MH w0 w' m mm me (M.put rd v) l :=
  h.call _ _ (R := fun e => e = .returned (.int .i64 0)) (fun F hd => put_reg rd v w hd hi hv)
theorem mh_store (h : MH w0 w m mm me M l) (a : Nat) (n v : Int) (ha : a ≤ 18446744073709551615) (hn0 : -9223372036854775808 ≤ n) (hn1 : n ≤ 9223372036854775807) (hv0 : 0 ≤ v) (hv1 : v ≤ 18446744073709551615) :
    Calls Tryz.prog 115 #[.pointer (some ⟨mm, 0, none⟩), .int .u64 (a : Int), .int .i64 n, .int .u64 v] w fun e w' => e = .returned (.bool (numOk M.mem a n 2)) ∧ MH w0 w' m mm me { M with mem := stored M.mem a n v } l := by
  obtain ⟨F, h1, h2, h3⟩ := h.mem
  refine (store_any mm M.mem F a n v w h1 ha hn0 hn1 hv0 hv1).mono ?_
  rintro e w' ⟨g1, F', g2, g3⟩
  exact ⟨g1, h3 w' _ F' g2 g3⟩
theorem mh_jump (h : MH w0 w m mm me M l) (rd : Int) (a : Nat) (hi : InI rd) (ha : a ≤ 18446744073709551615) :
    Calls Tryz.prog 75 #[.pointer (some ⟨m, 0, none⟩), .int .i64 rd, .int .u64 (a : Int)] w fun e w' => ∃ r M', e = .returned (.int .i64 r) ∧ Did M (M.jump rd a) r M' ∧ MH w0 w' m mm me M' l := by
  obtain ⟨F, h1, h2⟩ := h.head
  refine (jump_any rd a w h1 hi ha).mono ?_
  rintro e w' ⟨g1, g2⟩
  by_cases h4 : a % 4 = 0
  · obtain ⟨k1, k2, k3⟩ := g1 h4
    refine ⟨0, _, k1, Or.inl ⟨rfl, rfl⟩, ?_⟩
    unfold Mc.jump
    rw [if_pos (by omega), Int.toNat_natCast]
    exact h2 w' _ _ _ _ _ k2 k3
  · obtain ⟨k1, rfl⟩ := g2 h4
    refine ⟨5, M, k1, Or.inr ⟨by decide, by unfold InI; omega, ?_, rfl⟩, h⟩
    unfold Mc.jump
    rw [if_neg (by omega)]
theorem mh_branch (h : MH w0 w m mm me M l) (o : Nat) (rd r1 r2 im : Int) (h0 : 5 ≤ o) (h1 : o ≤ 10) (hf : Fit5 rd r1 r2 im) :
    Calls Tryz.prog 77 #[.pointer (some ⟨m, 0, none⟩), inst o rd r1 r2 im] w fun e w' => ∃ r M', e = .returned (.int .i64 r) ∧ Did M (if takenF o (M.x r1.toNat) (M.x r2.toNat) = true then M.jump 0 (u64 (M.pc + im)) else M.next) r M' ∧ MH w0 w' m mm me M' l := by
  obtain ⟨F, hd, h2⟩ := h.head
  refine (branch_any o rd r1 r2 im w hd h0 h1 hf).mono ?_
  rintro e w' ⟨g1, g2, g3, g4⟩
  cases ht : takenF o (M.x r1.toNat) (M.x r2.toNat) with
  | false =>
    obtain ⟨k1, k2⟩ := g1 ht
    exact ⟨0, _, k1, Or.inl ⟨rfl, rfl⟩, h2 w' _ _ _ _ _ k2 g4⟩
  | true =>
    by_cases h4 : u64 (M.pc + im) % 4 = 0
    · obtain ⟨k1, k2⟩ := g2 ht h4
      refine ⟨0, _, k1, Or.inl ⟨rfl, rfl⟩, ?_⟩
      rw [if_pos rfl]
      unfold Mc.jump
      rw [if_pos h4, xset_no (by omega)]
      exact h2 w' _ _ _ _ _ k2 g4
    · obtain ⟨k1, k2⟩ := g3 ht h4
      refine ⟨5, M, k1, Or.inr ⟨by decide, by unfold InI; omega, ?_, rfl⟩, h2 w' _ _ _ _ _ k2 g4⟩
      rw [if_pos rfl]
      unfold Mc.jump
      rw [if_neg h4]

end

end Go.Proofs.YtdhjjlnabbpinaaGreatDoor

/- Contracts of package mach's calls of the service: writable, write, read, answer, call. -/
namespace Go.Proofs.YtdhjjlnabbpinaaGreatDoor
open Go.RowKit Go.Maps
set_option linter.unusedVariables false
set_option maxRecDepth 100000

section
variable {w0 w w' : World} {m mm me : Nat} {M : Mc} {l : List (World → (Nat → Prop) → Prop)}

theorem mh_perm (h : MH w0 w m mm me M l) (a : Nat) (ha : a ≤ 18446744073709551615) :
    Calls Tryz.prog 133 #[.pointer (some ⟨mm, 0, none⟩), .int .u64 (a : Int)] w fun e w' => e = .returned (.int .i64 (M.mem.perm (a / 4096))) ∧ w' = w := by
  obtain ⟨F, h1⟩ := h.pm
  exact perm_any mm M.mem F a w h1 ha

set_option maxHeartbeats 1600000 in
theorem writable_any (a n : Nat) (w : World) (h : MH w0 w m mm me M l) (ha : a ≤ 18446744073709551615) (hn : n ≤ 18446744073709551615) :
    Calls Tryz.prog 128 #[.pointer (some ⟨m, 0, none⟩), .int .u64 (a : Int), .int .u64 (n : Int)] w fun e w' => e = .returned (.bool (mayB M.mem a n 2)) ∧ w' = w := by
  by_cases h0 : n = 0
  · rw [mayB_yes (Or.inl h0)]
    subst h0
    go_enter Tryz.func128, Tryz.ntmps128
    go_wp2
    go_ret
    exact ⟨rfl, rfl⟩
  by_cases h1 : 18446744073709551616 ≤ a + n - 1
  · rw [mayB_no (h.good.far h0 and_2 (by omega))]
    obtain ⟨z, hz⟩ : ∃ z : Nat, z + 18446744073709551616 = a + n - 1 := ⟨a + n - 1 - 18446744073709551616, by omega⟩
    have e0 : IntKind.u64.wrap (IntKind.u64.wrap ((a : Int) + (n : Int)) - 1) = (z : Int) := by rw [wrap_u64, wrap_u64]; unfold u64; omega
    have e1 : (z : Int) < (a : Int) := by omega
    have e2 : ((n : Int) == 0) = false := by simpa using h0
    clear h
    go_enter Tryz.func128, Tryz.ntmps128
    go_wp2
    go_ret
    exact ⟨rfl, rfl⟩
  · obtain ⟨z, hz⟩ : ∃ z : Nat, z = a + n - 1 := ⟨_, rfl⟩
    have hz1 : z ≤ 18446744073709551615 := by omega
    have e0 : IntKind.u64.wrap (IntKind.u64.wrap ((a : Int) + (n : Int)) - 1) = (z : Int) := by rw [wrap_u64, wrap_u64]; unfold u64; omega
    have e1 : (a : Int) ≤ (z : Int) := by omega
    have e1n : decide (z < a) = false := by simp; omega
    have e2 : ((n : Int) == 0) = false := by simpa using h0
    have hc0 := h.c0
    obtain ⟨lz, hl⟩ : ∃ lz, lz = z / 4096 := ⟨_, rfl⟩
    have hl' : (z : Int) / 4096 = (lz : Int) := by omega
    obtain ⟨f, hf⟩ : ∃ f, f = a / 4096 := ⟨_, rfl⟩
    have hf' : (a : Int) / 4096 = (f : Int) := by omega
    have hfl : f ≤ lz := by omega
    have hll : lz ≤ 4503599627370495 := by omega
    have hMay : Hid (Mayp M.mem a n 2 ↔ ∀ i, f ≤ i → i ≤ lz → bits .and .i64 (M.mem.perm i) 2 ≠ 0) := by
      unfold Mayp
      rw [hl, hf, hz]
      exact ⟨fun h => h.resolve_left h0, Or.inr⟩
    have HP : Hid (∀ k : Nat, k ≤ lz → Calls Tryz.prog 133 #[.pointer (some ⟨mm, 0, none⟩), .int .u64 ((k : Int) * 4096)] w fun e w' => e = .returned (.int .i64 (M.mem.perm k)) ∧ w' = w) := fun k hk => by
      have := mh_perm h (k * 4096) (by omega)
      rw [show ((k * 4096 : Nat) : Int) = (k : Int) * 4096 by omega, show k * 4096 / 4096 = k by omega] at this
      exact this
    clear h hf hl hz h0 h1
    go_enter Tryz.func128, Tryz.ntmps128
    go_wp2
    go_loop [8] (fun v => ∃ k : Nat, f ≤ k ∧ k ≤ lz + 1 ∧ v = .int .u64 (k : Int) ∧ ∀ j, f ≤ j → j < k → bits .and .i64 (M.mem.perm j) 2 ≠ 0) (fun v => lz + 1 - (intOf v).toNat)
    case atStart => exact ⟨f, Nat.le_refl _, by omega, rfl, fun j h1 h2 => by omega⟩
    case round =>
      obtain ⟨k, hk1, hk2, rfl, hall⟩ := hrel
      have HA := hide hall
      clear hall
      by_cases hlt : k ≤ lz
      · have hm : IntKind.u64.wrap ((k : Int) * 4096) = (k : Int) * 4096 := by rw [wrap_u64]; unfold u64; omega
        have HPk := hide (HP.out k hlt)
        obtain ⟨q, hq⟩ : ∃ q, q = M.mem.perm k := ⟨_, rfl⟩
        rw [← hq] at HPk
        have HQ := hide hq
        clear hq
        by_cases hz : bits .and .i64 q 2 = 0
        · have hno : Hid (¬ Mayp M.mem a n 2) := fun hm => hMay.out.1 hm k hk1 hlt (by rw [← HQ.out]; exact hz)
          go_wp2_with fail
          refine HPk.out.mono ?_
          rintro e W ⟨rfl, rfl⟩
          go_wp2
          go_ret
          exact ⟨ret_bool (mayB_no hno.out).symm, rfl⟩
        · have hz' : (bits .and .i64 q 2 == 0) = false := by simpa using hz
          have HZ := hide hz
          clear hz
          go_wp2_with fail
          refine HPk.out.mono ?_
          rintro e W ⟨rfl, rfl⟩
          go_wp2
          go_round
          case rel =>
            refine ⟨k + 1, by omega, by omega, by go_num, fun j h1 h2 => ?_⟩
            by_cases hjk : j = k
            · subst hjk; rw [← HQ.out]; exact HZ.out
            · exact HA.out j h1 (by omega)
          case measure => simp [intOf]; omega
      · have hyes : Hid (Mayp M.mem a n 2) := hMay.out.2 (fun i h1 h2 => HA.out i h1 (by omega))
        go_wp2
        go_ret
        exact ⟨ret_bool (mayB_yes hyes.out).symm, rfl⟩

theorem answer_any (v : Int) (w : World) (h : MH w0 w m mm me M l) (v0 : -9223372036854775808 ≤ v) (v1 : v ≤ 9223372036854775807) :
    Calls Tryz.prog 116 #[.pointer (some ⟨m, 0, none⟩), .int .i64 v] w fun e w' => e = .returned (.int .i64 0) ∧ MH w0 w' m mm me (M.put 10 (u64 v)) l := by
  have HP := hide (mh_put h 10 (u64 v) (by unfold InI; omega) (u64_bd v))
  have hv : IntKind.u64.wrap v = u64 v := wrap_u64 v
  generalize u64 v = u at *
  clear h
  go_enter Tryz.func116, Tryz.ntmps116
  go_wp2_with fail
  refine HP.out.mono ?_
  rintro e w' ⟨rfl, h1⟩
  have H1 := hide h1
  clear h1 HP
  go_wp2
  go_ret
  exact ⟨rfl, H1.out⟩

/-- The environment turns alone. -/
theorem mh_note (h : MH w0 w m mm me M l) (hb : Below w.heap.size w w') {X : Nat} {x : Evt} {t : TypeId} (hX : w.heap.size ≤ X) (hc : w'.heap[X]? = some (.cells #[.int .i64 x.kind, .int .i64 x.fd, .slice x.a x.len x.cap, .int .i64 x.n] t (0, 0))) (hx : x.Ok w')
    (hy : 0 < x.len → ∀ y, x.a = some y → w.heap.size ≤ y.block ∨ y.block < w0.heap.size) (hs : x.len ≤ 140737488355328) (hn : M.tr.length < 1000000) :
    Calls Tryz.prog 127 #[.pointer (some ⟨me, 0, none⟩), .slice (some ⟨X, 0, none⟩) 1 1] w' fun e w'' => e = .returned (.tuple #[]) ∧ MH w0 w'' m mm me { M with tr := M.tr ++ [x.says] } l := by
  have h1 := Has.arg1 h hb hX hc hx hy
  have h2 : Has w0 w' (EV w0.heap.size 111 me M.ins M.tr :: ArgT w0.heap.size (some ⟨X, 0, none⟩) 1 [x] :: HD m mm me M.x M.pc M.kind M.code M.trap :: PMt mm M.mem :: l) :=
    h1.perm (((List.Perm.cons _ ((List.Perm.cons _ (List.Perm.swap ..)).trans (List.Perm.swap ..))).trans (List.Perm.swap ..)))
  refine (has_note (cap := 1) h2 (by intro z hz; simp at hz; subst hz; exact hs) (by omega)).mono ?_
  rintro e w'' ⟨g1, g2⟩
  refine ⟨g1, ?_⟩
  have g3 := (g2.swap.drop).perm (List.Perm.trans (List.Perm.swap ..) (List.Perm.cons _ (List.Perm.swap ..)))
  exact g3

end

end Go.Proofs.YtdhjjlnabbpinaaGreatDoor

/- Contracts of package mach's write, read, call: what the service does. -/
namespace Go.Proofs.YtdhjjlnabbpinaaGreatDoor
open Go.RowKit Go.Maps
set_option linter.unusedVariables false
set_option maxRecDepth 100000

section
variable {w0 w w' : World} {m mm me : Nat} {M : Mc} {l : List (World → (Nat → Prop) → Prop)}

theorem mh_rg (h : MH w0 w m mm me M l) (z : Nat) (hz : z < 32) (v : Int) (hv : M.x z = v) :
    Calls Tryz.prog 13 #[.pointer (some ⟨m, 0, none⟩), .int .i64 (z : Int)] w fun e w' => e = .returned (.int .u64 v) ∧ w' = w := by
  have := mh_reg h z (by unfold InI; omega)
  rw [rg_in (by omega), Int.toNat_natCast, hv] at this
  exact this

theorem write_long (w : World) (h : MH w0 w m mm me M l) (hx : 65536 < M.x 12) :
    Calls Tryz.prog 117 #[.pointer (some ⟨m, 0, none⟩)] w fun e w' => e = .returned (.int .i64 (-22)) ∧ MH w0 w' m mm me M l := by
  obtain ⟨v, hv⟩ : ∃ v, M.x 12 = v := ⟨_, rfl⟩
  rw [hv] at hx
  have HR := hide (mh_rg h 12 (by decide) v hv)
  have HM := hide h
  clear h hv
  go_enter Tryz.func117, Tryz.ntmps117
  go_wp2_with fail
  refine HR.out.mono ?_
  rintro e W ⟨rfl, rfl⟩
  go_wp2
  go_ret
  exact ⟨rfl, HM.out⟩

set_option maxHeartbeats 1600000 in
theorem write_no (w : World) (h : MH w0 w m mm me M l) (hx : M.x 12 ≤ 65536) (hm : mayB M.mem (M.x 11).toNat (M.x 12).toNat 4 = false) :
    Calls Tryz.prog 117 #[.pointer (some ⟨m, 0, none⟩)] w fun e w' => e = .returned (.int .i64 (-14)) ∧ MH w0 w' m mm me M l := by
  obtain ⟨n, hn⟩ := Int.eq_ofNat_of_zero_le (h.fits.reg 12).1
  obtain ⟨a, ha⟩ := Int.eq_ofNat_of_zero_le (h.fits.reg 11).1
  have hab : a ≤ 18446744073709551615 := by have := (h.fits.reg 11).2; omega
  rw [hn, ha, Int.toNat_natCast, Int.toNat_natCast] at hm
  rw [hn] at hx
  have hx' : decide ((65536 : Int) < (n : Int)) = false := by simp; omega
  have HR := hide (mh_rg h 12 (by decide) n hn)
  have HR1 := hide (mh_rg (h.below ((Below.refl _ _).drew)) 11 (by decide) a ha)
  obtain ⟨F, hP⟩ := h.pm
  have hk : manyOk M.mem a n 4 = false := by simp [manyOk, hm]
  have HRd : Hid (Calls Tryz.prog 27 #[.pointer (some ⟨mm, 0, none⟩), .int .u64 (a : Int), .int .u64 (n : Int)] w.drew fun e w' => e = .returned (.tuple #[.slice none 0 0, .bool false]) ∧ MH w0 w' m mm me M l) := by
    refine hide ((read_any mm M.mem F a n w.drew (hP.below ((Below.refl _ _).drew)) hab (by omega)).mono ?_)
    rintro e w' ⟨g1, g2, g3⟩
    exact ⟨g1 hk, (h.below ((Below.refl _ _).drew)).below g3⟩
  have hc0 := h.c0
  have HM := hide h
  clear h hn ha hP hk hm
  go_enter Tryz.func117, Tryz.ntmps117
  go_wp2_with fail
  refine HR.out.mono ?_
  rintro e W ⟨rfl, rfl⟩
  clear HR
  go_wp2_with fail
  go_region_held3 (fun w' => w'.cell? ⟨m, 0, none⟩ = some (.pointer (some ⟨mm, 0, none⟩))) (go_keep)
    (first
      | (go_at_call 13; refine HR1.out.mono ?_; rintro e W3 ⟨rfl, hW3⟩; rw [hW3]; clear hW3 W3)
      | (go_at_call 27; refine HRd.out.mono ?_; rintro e W2 ⟨rfl, h6⟩; have l5 := h6.c0; have H6 := hide h6; clear h6))
  clear HR1 HRd HM
  go_wp2
  go_ret
  exact ⟨rfl, H6.out⟩

theorem rd_block {w' : World} {O n : Nat} {bs : List Int} {t : TypeId} (hl : bs.length = n) (hn : n ≤ 65536) (hb : Bytes bs) (h : w'.heap[O]? = some (.cells (bs.map (Value.int .u8)).toArray t (0, 0))) : Rd w' (some ⟨O, 0, none⟩) n n bs := by
  refine ⟨hl, Nat.le_refl _, by omega, hb, (fun h => by cases h), fun x hx i hi => ?_⟩
  cases hx
  have e : (⟨O, 0, none⟩ : Addr).add i = ⟨O, i, none⟩ := by unfold Addr.add; split <;> simp_all
  rw [e, cell_of_row _ _ i _ _ _ h]
  simp [show i < bs.length by omega]

set_option maxHeartbeats 3200000 in
theorem write_ok (w : World) (h : MH w0 w m mm me M l) (hx : M.x 12 ≤ 65536) (hm : mayB M.mem (M.x 11).toNat (M.x 12).toNat 4 = true) (ht : M.tr.length < 1000000) :
    Calls Tryz.prog 117 #[.pointer (some ⟨m, 0, none⟩)] w fun e w' => e = .returned (.int .i64 (M.x 12)) ∧ MH w0 w' m mm me { M with tr := M.tr ++ [⟨0, s64 (M.x 10), M.mem.read (M.x 11).toNat (M.x 12).toNat, 0⟩] } l := by
  obtain ⟨n, hn⟩ := Int.eq_ofNat_of_zero_le (h.fits.reg 12).1
  obtain ⟨a, ha⟩ := Int.eq_ofNat_of_zero_le (h.fits.reg 11).1
  obtain ⟨fd, hfd⟩ : ∃ fd, M.x 10 = fd := ⟨_, rfl⟩
  have hab : a ≤ 18446744073709551615 := by have := (h.fits.reg 11).2; omega
  have hfb := h.fits.reg 10
  have HR := hide (mh_rg h 12 (by decide) n hn)
  have HR1 := hide (mh_rg (h.below ((Below.refl _ _).drew)) 11 (by decide) a ha)
  have HR0 := hide (fun W (hW : MH w0 W m mm me M l) => mh_rg hW 10 (by decide) fd hfd)
  rw [hn, ha, Int.toNat_natCast, Int.toNat_natCast] at hm ⊢
  rw [hn] at hx
  rw [hfd] at hfb ⊢
  have hgb := s64_bd fd
  rw [← wrap_s64] at hgb ⊢
  have hx' : decide ((65536 : Int) < (n : Int)) = false := by simp; omega
  have hn6 : n ≤ 65536 := by omega
  obtain ⟨F, hP⟩ := h.pm
  have hk : manyOk M.mem a n 4 = true := by unfold manyOk; rw [hm]; simp; omega
  have hby : Bytes (M.mem.read a n) := Mm.read_bytes hP.good a n
  have hlen : (M.mem.read a n).length = n := Mm.read_length _ _ _
  have HRd : Hid (Calls Tryz.prog 27 #[.pointer (some ⟨mm, 0, none⟩), .int .u64 (a : Int), .int .u64 (n : Int)] w.drew fun e w' => ∃ O, e = .returned (.tuple #[.slice (some ⟨O, 0, none⟩) n n, .bool true]) ∧ w.heap.size ≤ O ∧ Rd w' (some ⟨O, 0, none⟩) n n (M.mem.read a n) ∧ Below w.heap.size w w') := by
    refine hide ((read_any mm M.mem F a n w.drew (hP.below ((Below.refl _ _).drew)) hab (by omega)).mono ?_)
    rintro e w' ⟨g1, g2, g3⟩
    obtain ⟨O, k1, k2, k3⟩ := g2 hk
    exact ⟨O, k1, k2, rd_block hlen hn6 hby k3, ((Below.refl _ _).drew).trans g3⟩
  generalize M.mem.read a n = bs at *
  have hc0 := h.c0
  have HM := hide h
  clear h hn ha hP hk hm hfd hby hlen
  go_enter Tryz.func117, Tryz.ntmps117
  go_wp2_with fail
  refine HR.out.mono ?_
  rintro e W ⟨rfl, rfl⟩
  clear HR
  go_wp2_with fail
  go_region_held3 (fun w' => w'.cell? ⟨m, 0, none⟩ = some (.pointer (some ⟨mm, 0, none⟩))) (go_keep)
    (first
      | (go_at_call 13; refine HR1.out.mono ?_; rintro e W3 ⟨rfl, hW3⟩; rw [hW3]; clear hW3 W3)
      | (go_at_call 27; refine HRd.out.mono ?_; rintro e W2 ⟨O, rfl, hO, hRd, hB2⟩; have h6 := HM.out.below hB2; have l5 := h6.c0; have H6 := hide h6; have HO := hide hO; have HRr := hide hRd; have HB2 := hide hB2; clear h6 hO hRd hB2))
  clear HR1 HRd
  go_wp2_with fail
  have hc1 := H6.out.c1
  have H6D := hide (H6.out.below ((Below.refl _ _).drew))
  have hBD : Below _ _ ((W2.alloc (.cells #[.int .i64 0, .int .i64 (IntKind.i64.wrap fd), .slice (some ⟨O, 0, none⟩) n n, .int .i64 0] 115)).drew) := HB2.out.trans ((below_alloc _ _).drew.mono HB2.out.size)
  have HN := hide (mh_note HM.out hBD (X := W2.heap.size) (x := ⟨0, IntKind.i64.wrap fd, some ⟨O, 0, none⟩, n, n, 0, bs⟩) (t := 115) HB2.out.size
    (heap_alloc_new W2 (.cells #[.int .i64 0, .int .i64 (IntKind.i64.wrap fd), .slice (some ⟨O, 0, none⟩) n n, .int .i64 0] 115))
    ⟨⟨by dsimp only; omega, by dsimp only; omega⟩, hgb, ⟨by dsimp only; omega, by dsimp only; omega⟩, HRr.out.below (below_alloc _ _).drew⟩
    (fun _ y hy => Or.inl (by cases hy; exact HO.out)) (by dsimp only; omega) ht)
  clear hBD
  go_region_held3 (fun w' => w'.cell? ⟨m, 1, none⟩ = some (.pointer (some ⟨me, 0, none⟩))) (go_keep)
    (first
      | (go_at_call 13; refine (HR0.out _ H6D.out).mono ?_; rintro e W3 ⟨rfl, hW3⟩; rw [hW3]; clear hW3 W3)
      | (go_at_call 127; refine HN.out.mono ?_; rintro e W4 ⟨rfl, h7⟩; have l6 := h7.c1; have H7 := hide h7; clear h7))
  clear HN H6D H6 HR0 HM HO HRr HB2
  go_wp2
  go_ret
  exact ⟨rfl, H7.out⟩

theorem p_back {P Q R : World → (Nat → Prop) → Prop} {l : List (World → (Nat → Prop) → Prop)} : (P :: Q :: R :: l).Perm (R :: P :: Q :: l) := (List.Perm.cons _ (List.Perm.swap ..)).trans (List.Perm.swap ..)
theorem p_rot {P Q R : World → (Nat → Prop) → Prop} {l : List (World → (Nat → Prop) → Prop)} : (P :: Q :: R :: l).Perm (Q :: R :: P :: l) := (List.Perm.swap ..).trans (List.Perm.cons _ (List.Perm.swap ..))

theorem mh_take (h : MH w0 w m mm me M l) (n : Int) (hl : M.ins.length ≤ 140737488355328) :
    Calls Tryz.prog 129 #[.pointer (some ⟨me, 0, none⟩), .int .i64 n] w fun e w' => ∃ a' c', e = .returned (.slice a' (M.ins.take n.toNat).length c') ∧ MH w0 w' m mm me { M with ins := M.ins.drop n.toNat } (RdT a' (M.ins.take n.toNat).length c' (M.ins.take n.toNat) :: l) := by
  refine (has_take (Has.back h) n hl).mono ?_
  rintro e w' ⟨a', c', h1, h2⟩
  exact ⟨a', c', h1, h2.rot.rot.perm (List.Perm.cons _ p_back)⟩

theorem mh_write {a' : Option Addr} {len c' : Nat} {bs : List Int} (h : MH w0 w m mm me M (RdT a' len c' bs :: l)) (a0 : Nat) (ha : a0 ≤ 18446744073709551615) (hk : manyOk M.mem a0 len 2 = true) :
    Calls Tryz.prog 130 #[.pointer (some ⟨mm, 0, none⟩), .int .u64 (a0 : Int), .slice a' len c'] w fun e w' => e = .returned (.bool true) ∧ MH w0 w' m mm me { M with mem := M.mem.lay a0 bs } (RdT a' len c' bs :: l) := by
  have h1 := (Has.swap h).perm (List.Perm.cons _ p_back)
  obtain ⟨F, G, g1, g2, g3, g4, g5⟩ := h1.open2
  refine (write_any mm M.mem F a0 a' len c' bs w g1 ha g2.1 (fun hl x hx hf => g3 _ hf (g2.2.1 hl x hx))).mono ?_
  rintro e w' ⟨k1, F', k2, k3⟩
  rw [hk] at k1 k2
  rw [if_pos rfl] at k2
  have k4 := g5 w' (PMt mm (M.mem.lay a0 bs)) F' k2 k3 (pmt_stays _ _ _)
  exact ⟨k1, (k4.perm (List.Perm.cons _ p_rot)).swap⟩

theorem read_long (w : World) (h : MH w0 w m mm me M l) (hx : 65536 < M.x 12) :
    Calls Tryz.prog 118 #[.pointer (some ⟨m, 0, none⟩)] w fun e w' => e = .returned (.int .i64 (-22)) ∧ MH w0 w' m mm me M l := by
  obtain ⟨v, hv⟩ : ∃ v, M.x 12 = v := ⟨_, rfl⟩
  obtain ⟨u, hu⟩ : ∃ u, M.x 11 = u := ⟨_, rfl⟩
  rw [hv] at hx
  have HR := hide (mh_rg h 12 (by decide) v hv)
  have HR1 := hide (mh_rg h 11 (by decide) u hu)
  have HM := hide h
  clear h hv hu
  go_enter Tryz.func118, Tryz.ntmps118
  go_wp2_with fail
  refine HR1.out.mono ?_
  rintro e W ⟨rfl, hW⟩
  rw [hW]
  clear hW W
  go_wp2_with fail
  refine HR.out.mono ?_
  rintro e W ⟨rfl, hW⟩
  rw [hW]
  clear hW W
  go_wp2
  go_ret
  exact ⟨rfl, HM.out⟩

theorem read_no (w : World) (h : MH w0 w m mm me M l) (hx : M.x 12 ≤ 65536) (hm : mayB M.mem (M.x 11).toNat (M.x 12).toNat 2 = false) :
    Calls Tryz.prog 118 #[.pointer (some ⟨m, 0, none⟩)] w fun e w' => e = .returned (.int .i64 (-14)) ∧ MH w0 w' m mm me M l := by
  obtain ⟨n, hn⟩ := Int.eq_ofNat_of_zero_le (h.fits.reg 12).1
  obtain ⟨a, ha⟩ := Int.eq_ofNat_of_zero_le (h.fits.reg 11).1
  have hab : a ≤ 18446744073709551615 := by have := (h.fits.reg 11).2; omega
  rw [hn, ha, Int.toNat_natCast, Int.toNat_natCast] at hm
  rw [hn] at hx
  have hx' : decide ((65536 : Int) < (n : Int)) = false := by simp; omega
  have HR := hide (mh_rg h 12 (by decide) n hn)
  have HR1 := hide (mh_rg h 11 (by decide) a ha)
  have HWr := hide (writable_any a n w h hab (by omega))
  rw [hm] at HWr
  have HM := hide h
  clear h hn ha hm
  go_enter Tryz.func118, Tryz.ntmps118
  go_wp2_with fail
  refine HR1.out.mono ?_
  rintro e W ⟨rfl, hW⟩
  rw [hW]
  clear hW W
  go_wp2_with fail
  refine HR.out.mono ?_
  rintro e W ⟨rfl, hW⟩
  rw [hW]
  clear hW W
  go_wp2_with fail
  refine HWr.out.mono ?_
  rintro e W ⟨rfl, hW⟩
  rw [hW]
  clear hW W
  go_wp2
  go_ret
  exact ⟨rfl, HM.out⟩

theorem may_less {S : Mm} {a n k : Nat} {p : Int} (h : mayB S a n p = true) (hk : k ≤ n) : mayB S a k p = true := by
  by_cases h0 : k = 0
  · exact mayB_yes (Or.inl h0)
  · refine mayB_yes (Or.inr (fun i h1 h2 => ?_))
    rcases mayB_iff.1 h with h3 | h3
    · omega
    · exact h3 i h1 (by omega)

set_option maxHeartbeats 3200000 in
theorem read_ok (w : World) (h : MH w0 w m mm me M l) (hx : M.x 12 ≤ 65536) (hm : mayB M.mem (M.x 11).toNat (M.x 12).toNat 2 = true) (ht : M.tr.length < 1000000) (hi : M.ins.length ≤ 140737488355328) :
    Calls Tryz.prog 118 #[.pointer (some ⟨m, 0, none⟩)] w fun e w' => e = .returned (.int .i64 ((M.ins.take (M.x 12).toNat).length : Int)) ∧
      MH w0 w' m mm me { M with mem := M.mem.lay (M.x 11).toNat (M.ins.take (M.x 12).toNat), ins := M.ins.drop (M.x 12).toNat, tr := M.tr ++ [⟨1, s64 (M.x 10), [], ((M.ins.take (M.x 12).toNat).length : Int)⟩] } l := by
  obtain ⟨n, hn⟩ := Int.eq_ofNat_of_zero_le (h.fits.reg 12).1
  obtain ⟨a, ha⟩ := Int.eq_ofNat_of_zero_le (h.fits.reg 11).1
  obtain ⟨fd, hfd⟩ : ∃ fd, M.x 10 = fd := ⟨_, rfl⟩
  have hab : a ≤ 18446744073709551615 := by have := (h.fits.reg 11).2; omega
  have hfb := h.fits.reg 10
  have HR := hide (mh_rg h 12 (by decide) n hn)
  have HR1 := hide (mh_rg h 11 (by decide) a ha)
  rw [hn, ha, Int.toNat_natCast, Int.toNat_natCast] at hm ⊢
  rw [hn] at hx
  rw [hfd] at hfb ⊢
  have hgb := s64_bd fd
  rw [← wrap_s64] at hgb ⊢
  have hx' : decide ((65536 : Int) < (n : Int)) = false := by simp; omega
  have hn6 : n ≤ 65536 := by omega
  have HWr := hide (writable_any a n w h hab (by omega))
  rw [hm] at HWr
  have hlen : (M.ins.take n).length ≤ n := by rw [List.length_take]; omega
  have hk : manyOk M.mem a (M.ins.take n).length 2 = true := by unfold manyOk; rw [may_less hm hlen]; simp; omega
  have HT := hide (mh_take h n hi)
  rw [Int.toNat_natCast] at HT
  generalize M.ins.take n = bs at *
  generalize M.ins.drop n = rs at *
  obtain ⟨L, hL⟩ : ∃ L, bs.length = L := ⟨_, rfl⟩
  rw [hL] at hlen hk HT ⊢
  obtain ⟨M1, hM1⟩ : ∃ M1 : Mc, M1 = { M with ins := rs } := ⟨_, rfl⟩
  obtain ⟨M2, hM2⟩ : ∃ M2 : Mc, M2 = { M with ins := rs, mem := M.mem.lay a bs } := ⟨_, rfl⟩
  rw [← hM1] at HT
  have HWt : Hid (∀ W a' c', MH w0 W m mm me M1 (RdT a' L c' bs :: l) → Calls Tryz.prog 130 #[.pointer (some ⟨mm, 0, none⟩), .int .u64 (a : Int), .slice a' L c'] W fun e w' => e = .returned (.bool true) ∧ MH w0 w' m mm me M2 (RdT a' L c' bs :: l)) := fun W a' c' hW => by
    have hk1 : manyOk M1.mem a L 2 = true := by rw [hM1]; exact hk
    have := mh_write hW a hab hk1
    rw [hM2]
    rw [hM1] at this
    exact this
  have HR0 : Hid (∀ W l, MH w0 W m mm me M2 l → Calls Tryz.prog 13 #[.pointer (some ⟨m, 0, none⟩), .int .i64 10] W fun e w' => e = .returned (.int .u64 fd) ∧ w' = W) := fun W l hW => by
    have := mh_rg hW 10 (by decide) fd (by rw [hM2]; exact hfd)
    exact this
  have HMt : Hid (M2.tr.length < 1000000) := by rw [hM2]; exact ht
  have HM2 := hide hM2
  have hc1 := h.c1
  clear h hn ha hm hfd hk hM1 hM2 ht hL hi
  go_enter Tryz.func118, Tryz.ntmps118
  go_wp2_with fail
  refine HR1.out.mono ?_
  rintro e W ⟨rfl, hW⟩
  rw [hW]
  clear hW W HR1
  go_wp2_with fail
  refine HR.out.mono ?_
  rintro e W ⟨rfl, hW⟩
  rw [hW]
  clear hW W HR
  go_wp2_with fail
  refine HWr.out.mono ?_
  rintro e W ⟨rfl, hW⟩
  rw [hW]
  clear hW W HWr
  go_wp2_with fail
  refine HT.out.mono ?_
  rintro e W1 ⟨a', c', rfl, h1⟩
  have d0 := h1.c0
  have H1 := hide h1
  clear h1 HT hc1
  go_wp2_with fail
  refine (HWt.out _ _ _ H1.out).mono ?_
  rintro e W2 ⟨rfl, h2⟩
  have e1 := h2.c1
  have H2 := hide h2
  have H2D := hide (h2.below ((Below.refl _ _).drew))
  clear h2 H1 HWt d0
  go_wp2_with fail
  have hBD : Below W2.heap.size W2 ((W2.alloc (.cells #[.int .i64 1, .int .i64 (IntKind.i64.wrap fd), .slice none 0 0, .int .i64 (L : Int)] 115)).drew) := (below_alloc _ _).drew
  have HN := hide (mh_note H2.out hBD (X := W2.heap.size) (x := ⟨1, IntKind.i64.wrap fd, none, 0, 0, (L : Int), []⟩) (t := 115) (Nat.le_refl _)
    (heap_alloc_new W2 (.cells #[.int .i64 1, .int .i64 (IntKind.i64.wrap fd), .slice none 0 0, .int .i64 (L : Int)] 115))
    ⟨⟨by dsimp only; omega, by dsimp only; omega⟩, hgb, ⟨by dsimp only; omega, by dsimp only; omega⟩, Rd.nothing _⟩
    (fun hl => by cases hl) (by dsimp only; omega) HMt.out)
  clear hBD
  go_region_held3 (fun w' => w'.cell? ⟨m, 1, none⟩ = some (.pointer (some ⟨me, 0, none⟩))) (go_keep)
    (first
      | (go_at_call 13; refine (HR0.out _ _ H2D.out).mono ?_; rintro e W3 ⟨rfl, hW3⟩; rw [hW3]; clear hW3 W3)
      | (go_at_call 127; refine HN.out.mono ?_; rintro e W4 ⟨rfl, h7⟩; have l6 := h7.c1; have H7 := hide h7.unbox; clear h7))
  clear HN H2D H2 HR0
  go_wp2
  go_ret
  refine ⟨rfl, ?_⟩
  have h8 := H7.out
  rw [HM2.out] at h8
  exact h8

end

end Go.Proofs.YtdhjjlnabbpinaaGreatDoor
