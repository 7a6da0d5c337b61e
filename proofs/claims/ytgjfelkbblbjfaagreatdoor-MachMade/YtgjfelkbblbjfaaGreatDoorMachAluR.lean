/- Contracts of the document's Alu and of what it calls: each operation makes of two numbers what aluF says. -/
import Derived.Test.YtgjfelkbblbjfaaGreatDoorJ07
import Derived.Test.YtgjfelkbblbjfaaGreatDoorShelf
namespace Go.Proofs.YtgjfelkbblbjfaaGreatDoor
open Go.RowKit
set_option linter.unusedVariables false
set_option maxRecDepth 100000
set_option linter.unusedSimpArgs false

theorem one_any (b : Bool) (w : World) : Calls Tryz.prog 95 #[.bool b] w fun e w' => e = .returned (.int .u64 (if b = true then 1 else 0)) ∧ w' = w := by
  cases b
  · go_enter Tryz.func95, Tryz.ntmps95
    go_wp2
    go_ret
    exact ⟨rfl, rfl⟩
  · go_enter Tryz.func95, Tryz.ntmps95
    go_wp2
    go_ret
    exact ⟨rfl, rfl⟩

theorem word_any' (a : Int) (w : World) : Calls Tryz.prog 96 #[.int .u64 a] w fun e w' => e = .returned (.int .u64 (sx a)) ∧ w' = w := by
  go_enter Tryz.func96, Tryz.ntmps96
  go_wp2
  go_ret
  refine ⟨ret_int ?_, rfl⟩
  first | rfl | (simp only [aluF, wrap_u64, wrap_u32, wrap_s64, wrap_s32, wrap64_is, wrap32_is, sx_def]; done) | (simp only [aluF, wrap_u64, wrap_u32, wrap_s64, wrap_s32, wrap64_is, wrap32_is, sx_def]; rfl) | (rw [HK.out]; rfl)

theorem rdiv_any' (a b : Int) (w : World) (a0 : -9223372036854775808 ≤ a) (a1 : a ≤ 9223372036854775807) (b0 : -9223372036854775808 ≤ b) (b1 : b ≤ 9223372036854775807) :
    Calls Tryz.prog 98 #[.int .i64 a, .int .i64 b] w fun e w' => e = .returned (.int .i64 (if b = 0 then -1 else s64 (a.tdiv b))) ∧ w' = w := by
  by_cases hb : b = 0
  · rw [if_pos hb]
    subst hb
    go_enter Tryz.func98, Tryz.ntmps98
    go_wp2
    go_ret
    exact ⟨rfl, rfl⟩
  · rw [if_neg hb]
    have hb' : (b == 0) = false := by simpa using hb
    by_cases h1 : b = -1
    · subst h1
      have e : s64 (a.tdiv (-1)) = s64 (-a) := by rw [Int.tdiv_neg, Int.tdiv_one]
      rw [e]
      go_enter Tryz.func98, Tryz.ntmps98
      go_wp2
      go_ret
      exact ⟨ret_int (by simp only [wrap64_is]), rfl⟩
    · have h1' : (b == -1) = false := by simpa using h1
      go_enter Tryz.func98, Tryz.ntmps98
      go_wp2
      go_ret
      exact ⟨ret_int (by simp only [wrap64_is]), rfl⟩

theorem rrem_any' (a b : Int) (w : World) (a0 : -9223372036854775808 ≤ a) (a1 : a ≤ 9223372036854775807) (b0 : -9223372036854775808 ≤ b) (b1 : b ≤ 9223372036854775807) :
    Calls Tryz.prog 100 #[.int .i64 a, .int .i64 b] w fun e w' => e = .returned (.int .i64 (if b = 0 then a else a.tmod b)) ∧ w' = w := by
  by_cases hb : b = 0
  · rw [if_pos hb]
    subst hb
    go_enter Tryz.func100, Tryz.ntmps100
    go_wp2
    go_ret
    exact ⟨rfl, rfl⟩
  · rw [if_neg hb]
    have hb' : (b == 0) = false := by simpa using hb
    by_cases h1 : b = -1
    · subst h1
      have e : a.tmod (-1) = 0 := by rw [Int.tmod_neg, Int.tmod_one]
      rw [e]
      go_enter Tryz.func100, Tryz.ntmps100
      go_wp2
      go_ret
      exact ⟨rfl, rfl⟩
    · have h1' : (b == -1) = false := by simpa using h1
      go_enter Tryz.func100, Tryz.ntmps100
      go_wp2
      go_ret
      exact ⟨rfl, rfl⟩

theorem rdivu_any' (a b : Int) (w : World) (a0 : 0 ≤ a) (a1 : a ≤ 18446744073709551615) (b0 : 0 ≤ b) (b1 : b ≤ 18446744073709551615) :
    Calls Tryz.prog 99 #[.int .u64 a, .int .u64 b] w fun e w' => e = .returned (.int .u64 (if b = 0 then 18446744073709551615 else a / b)) ∧ w' = w := by
  by_cases hb : b = 0
  · rw [if_pos hb]
    subst hb
    go_enter Tryz.func99, Tryz.ntmps99
    go_wp2
    go_ret
    exact ⟨rfl, rfl⟩
  · rw [if_neg hb]
    have hb' : (b == 0) = false := by simpa using hb
    go_enter Tryz.func99, Tryz.ntmps99
    go_wp2
    go_ret
    exact ⟨rfl, rfl⟩

theorem rremu_any' (a b : Int) (w : World) (a0 : 0 ≤ a) (a1 : a ≤ 18446744073709551615) (b0 : 0 ≤ b) (b1 : b ≤ 18446744073709551615) :
    Calls Tryz.prog 101 #[.int .u64 a, .int .u64 b] w fun e w' => e = .returned (.int .u64 (if b = 0 then a else a % b)) ∧ w' = w := by
  by_cases hb : b = 0
  · rw [if_pos hb]
    subst hb
    go_enter Tryz.func101, Tryz.ntmps101
    go_wp2
    go_ret
    exact ⟨rfl, rfl⟩
  · rw [if_neg hb]
    have hb' : (b == 0) = false := by simpa using hb
    go_enter Tryz.func101, Tryz.ntmps101
    go_wp2
    go_ret
    exact ⟨rfl, rfl⟩

theorem rmulh_51 (a b : Int) (w : World) (a0 : 0 ≤ a) (a1 : a ≤ 18446744073709551615) (b0 : 0 ≤ b) (b1 : b ≤ 18446744073709551615) :
    Calls Tryz.prog 97 #[.int .u64 a, .int .u64 b, .bool true, .bool true] w fun e w' => e = .returned (.int .u64 (aluF 51 a b)) ∧ w' = w := by
  obtain ⟨x, rfl⟩ := Int.eq_ofNat_of_zero_le a0
  obtain ⟨y, rfl⟩ := Int.eq_ofNat_of_zero_le b0
  have HM := hide (Tryz.bits_Mul64 x y (by omega) (by omega) w)
  obtain ⟨h, hh⟩ : ∃ h : Nat, x * y / 18446744073709551616 = h := ⟨_, rfl⟩
  obtain ⟨l, hl⟩ : ∃ l : Nat, x * y % 18446744073709551616 = l := ⟨_, rfl⟩
  have eh : (x : Int) * (y : Int) / 18446744073709551616 = (h : Int) := by rw [← hh, ← Int.natCast_mul]; simp
  have hb : h ≤ 18446744073709551615 := by rw [← hh]; exact hi_bd (by omega) (by omega)
  have hlb : l ≤ 18446744073709551615 := by rw [← hl]; omega
  rw [hh, hl] at HM
  have EH := hide eh
  clear eh hh hl
  have hsa : (decide (wrap64 (x : Int) < 0) = true ∧ s64 x < 0) ∨ (decide (wrap64 (x : Int) < 0) = false ∧ ¬ s64 x < 0) := by
    rw [wrap64_is]; by_cases h : s64 x < 0 <;> simp [h]
  have hsb : (decide (wrap64 (y : Int) < 0) = true ∧ s64 y < 0) ∨ (decide (wrap64 (y : Int) < 0) = false ∧ ¬ s64 y < 0) := by
    rw [wrap64_is]; by_cases h : s64 y < 0 <;> simp [h]
  rcases hsa with ⟨ta, na⟩ | ⟨ta, na⟩ <;> rcases hsb with ⟨tb, nb⟩ | ⟨tb, nb⟩
  all_goals have NA := hide na
  all_goals clear na
  all_goals have NB := hide nb
  all_goals clear nb
  all_goals go_enter Tryz.func97, Tryz.ntmps97
  all_goals go_wp2_with fail
  all_goals refine HM.out.mono ?_
  all_goals rintro e w' ⟨rfl, rfl⟩
  all_goals go_wp2
  all_goals go_ret
  all_goals refine ⟨ret_int ?_, rfl⟩
  all_goals simp only [aluF, wrap_u64, wrap_u32, wrap_s64, wrap_s32, wrap64_is, wrap32_is, sx_def, EH.out]
  all_goals have na := NA.out
  all_goals have nb := NB.out
  all_goals repeat' split
  all_goals unfold u64
  all_goals omega

theorem rmulh_52 (a b : Int) (w : World) (a0 : 0 ≤ a) (a1 : a ≤ 18446744073709551615) (b0 : 0 ≤ b) (b1 : b ≤ 18446744073709551615) :
    Calls Tryz.prog 97 #[.int .u64 a, .int .u64 b, .bool true, .bool false] w fun e w' => e = .returned (.int .u64 (aluF 52 a b)) ∧ w' = w := by
  obtain ⟨x, rfl⟩ := Int.eq_ofNat_of_zero_le a0
  obtain ⟨y, rfl⟩ := Int.eq_ofNat_of_zero_le b0
  have HM := hide (Tryz.bits_Mul64 x y (by omega) (by omega) w)
  obtain ⟨h, hh⟩ : ∃ h : Nat, x * y / 18446744073709551616 = h := ⟨_, rfl⟩
  obtain ⟨l, hl⟩ : ∃ l : Nat, x * y % 18446744073709551616 = l := ⟨_, rfl⟩
  have eh : (x : Int) * (y : Int) / 18446744073709551616 = (h : Int) := by rw [← hh, ← Int.natCast_mul]; simp
  have hb : h ≤ 18446744073709551615 := by rw [← hh]; exact hi_bd (by omega) (by omega)
  have hlb : l ≤ 18446744073709551615 := by rw [← hl]; omega
  rw [hh, hl] at HM
  have EH := hide eh
  clear eh hh hl
  have hsa : (decide (wrap64 (x : Int) < 0) = true ∧ s64 x < 0) ∨ (decide (wrap64 (x : Int) < 0) = false ∧ ¬ s64 x < 0) := by
    rw [wrap64_is]; by_cases h : s64 x < 0 <;> simp [h]
  rcases hsa with ⟨ta, na⟩ | ⟨ta, na⟩
  all_goals have NA := hide na
  all_goals clear na
  all_goals go_enter Tryz.func97, Tryz.ntmps97
  all_goals go_wp2_with fail
  all_goals refine HM.out.mono ?_
  all_goals rintro e w' ⟨rfl, rfl⟩
  all_goals go_wp2
  all_goals go_ret
  all_goals refine ⟨ret_int ?_, rfl⟩
  all_goals simp only [aluF, wrap_u64, wrap_u32, wrap_s64, wrap_s32, wrap64_is, wrap32_is, sx_def, EH.out]
  all_goals have na := NA.out
  all_goals repeat' split
  all_goals unfold u64
  all_goals omega

theorem rmulh_53 (a b : Int) (w : World) (a0 : 0 ≤ a) (a1 : a ≤ 18446744073709551615) (b0 : 0 ≤ b) (b1 : b ≤ 18446744073709551615) :
    Calls Tryz.prog 97 #[.int .u64 a, .int .u64 b, .bool false, .bool false] w fun e w' => e = .returned (.int .u64 (aluF 53 a b)) ∧ w' = w := by
  obtain ⟨x, rfl⟩ := Int.eq_ofNat_of_zero_le a0
  obtain ⟨y, rfl⟩ := Int.eq_ofNat_of_zero_le b0
  have HM := hide (Tryz.bits_Mul64 x y (by omega) (by omega) w)
  obtain ⟨h, hh⟩ : ∃ h : Nat, x * y / 18446744073709551616 = h := ⟨_, rfl⟩
  obtain ⟨l, hl⟩ : ∃ l : Nat, x * y % 18446744073709551616 = l := ⟨_, rfl⟩
  have eh : (x : Int) * (y : Int) / 18446744073709551616 = (h : Int) := by rw [← hh, ← Int.natCast_mul]; simp
  have hb : h ≤ 18446744073709551615 := by rw [← hh]; exact hi_bd (by omega) (by omega)
  have hlb : l ≤ 18446744073709551615 := by rw [← hl]; omega
  rw [hh, hl] at HM
  have EH := hide eh
  clear eh hh hl
  all_goals go_enter Tryz.func97, Tryz.ntmps97
  all_goals go_wp2_with fail
  all_goals refine HM.out.mono ?_
  all_goals rintro e w' ⟨rfl, rfl⟩
  all_goals go_wp2
  all_goals go_ret
  all_goals refine ⟨ret_int ?_, rfl⟩
  all_goals simp only [aluF, wrap_u64, wrap_u32, wrap_s64, wrap_s32, wrap64_is, wrap32_is, sx_def, EH.out]

theorem ralu_22 (a b : Int) (w : World) (a0 : 0 ≤ a) (a1 : a ≤ 18446744073709551615) (b0 : 0 ≤ b) (b1 : b ≤ 18446744073709551615) :
    Calls Tryz.prog 68 #[.int .i64 22, .int .u64 a, .int .u64 b] w fun e w' => e = .returned (.int .u64 (aluF 22 a b)) ∧ w' = w := by
  go_enter Tryz.func68, Tryz.ntmps68
  go_wp2
  go_ret
  refine ⟨ret_int ?_, rfl⟩
  first | rfl | (simp only [aluF, wrap_u64, wrap_u32, wrap_s64, wrap_s32, wrap64_is, wrap32_is, sx_def]; done) | (simp only [aluF, wrap_u64, wrap_u32, wrap_s64, wrap_s32, wrap64_is, wrap32_is, sx_def]; rfl) | (rw [HK.out]; rfl)

theorem ralu_31 (a b : Int) (w : World) (a0 : 0 ≤ a) (a1 : a ≤ 18446744073709551615) (b0 : 0 ≤ b) (b1 : b ≤ 18446744073709551615) :
    Calls Tryz.prog 68 #[.int .i64 31, .int .u64 a, .int .u64 b] w fun e w' => e = .returned (.int .u64 (aluF 31 a b)) ∧ w' = w := by
  go_enter Tryz.func68, Tryz.ntmps68
  go_wp2
  go_ret
  refine ⟨ret_int ?_, rfl⟩
  first | rfl | (simp only [aluF, wrap_u64, wrap_u32, wrap_s64, wrap_s32, wrap64_is, wrap32_is, sx_def]; done) | (simp only [aluF, wrap_u64, wrap_u32, wrap_s64, wrap_s32, wrap64_is, wrap32_is, sx_def]; rfl) | (rw [HK.out]; rfl)

theorem ralu_32 (a b : Int) (w : World) (a0 : 0 ≤ a) (a1 : a ≤ 18446744073709551615) (b0 : 0 ≤ b) (b1 : b ≤ 18446744073709551615) :
    Calls Tryz.prog 68 #[.int .i64 32, .int .u64 a, .int .u64 b] w fun e w' => e = .returned (.int .u64 (aluF 32 a b)) ∧ w' = w := by
  go_enter Tryz.func68, Tryz.ntmps68
  go_wp2
  go_ret
  refine ⟨ret_int ?_, rfl⟩
  first | rfl | (simp only [aluF, wrap_u64, wrap_u32, wrap_s64, wrap_s32, wrap64_is, wrap32_is, sx_def]; done) | (simp only [aluF, wrap_u64, wrap_u32, wrap_s64, wrap_s32, wrap64_is, wrap32_is, sx_def]; rfl) | (rw [HK.out]; rfl)

theorem ralu_25 (a b : Int) (w : World) (a0 : 0 ≤ a) (a1 : a ≤ 18446744073709551615) (b0 : 0 ≤ b) (b1 : b ≤ 18446744073709551615) :
    Calls Tryz.prog 68 #[.int .i64 25, .int .u64 a, .int .u64 b] w fun e w' => e = .returned (.int .u64 (aluF 25 a b)) ∧ w' = w := by
  go_enter Tryz.func68, Tryz.ntmps68
  go_wp2
  go_ret
  exact ⟨rfl, rfl⟩

theorem ralu_36 (a b : Int) (w : World) (a0 : 0 ≤ a) (a1 : a ≤ 18446744073709551615) (b0 : 0 ≤ b) (b1 : b ≤ 18446744073709551615) :
    Calls Tryz.prog 68 #[.int .i64 36, .int .u64 a, .int .u64 b] w fun e w' => e = .returned (.int .u64 (aluF 36 a b)) ∧ w' = w := by
  go_enter Tryz.func68, Tryz.ntmps68
  go_wp2
  go_ret
  exact ⟨rfl, rfl⟩

theorem ralu_26 (a b : Int) (w : World) (a0 : 0 ≤ a) (a1 : a ≤ 18446744073709551615) (b0 : 0 ≤ b) (b1 : b ≤ 18446744073709551615) :
    Calls Tryz.prog 68 #[.int .i64 26, .int .u64 a, .int .u64 b] w fun e w' => e = .returned (.int .u64 (aluF 26 a b)) ∧ w' = w := by
  go_enter Tryz.func68, Tryz.ntmps68
  go_wp2
  go_ret
  exact ⟨rfl, rfl⟩

theorem ralu_39 (a b : Int) (w : World) (a0 : 0 ≤ a) (a1 : a ≤ 18446744073709551615) (b0 : 0 ≤ b) (b1 : b ≤ 18446744073709551615) :
    Calls Tryz.prog 68 #[.int .i64 39, .int .u64 a, .int .u64 b] w fun e w' => e = .returned (.int .u64 (aluF 39 a b)) ∧ w' = w := by
  go_enter Tryz.func68, Tryz.ntmps68
  go_wp2
  go_ret
  exact ⟨rfl, rfl⟩

theorem ralu_27 (a b : Int) (w : World) (a0 : 0 ≤ a) (a1 : a ≤ 18446744073709551615) (b0 : 0 ≤ b) (b1 : b ≤ 18446744073709551615) :
    Calls Tryz.prog 68 #[.int .i64 27, .int .u64 a, .int .u64 b] w fun e w' => e = .returned (.int .u64 (aluF 27 a b)) ∧ w' = w := by
  go_enter Tryz.func68, Tryz.ntmps68
  go_wp2
  go_ret
  exact ⟨rfl, rfl⟩

theorem ralu_40 (a b : Int) (w : World) (a0 : 0 ≤ a) (a1 : a ≤ 18446744073709551615) (b0 : 0 ≤ b) (b1 : b ≤ 18446744073709551615) :
    Calls Tryz.prog 68 #[.int .i64 40, .int .u64 a, .int .u64 b] w fun e w' => e = .returned (.int .u64 (aluF 40 a b)) ∧ w' = w := by
  go_enter Tryz.func68, Tryz.ntmps68
  go_wp2
  go_ret
  exact ⟨rfl, rfl⟩

theorem ralu_50 (a b : Int) (w : World) (a0 : 0 ≤ a) (a1 : a ≤ 18446744073709551615) (b0 : 0 ≤ b) (b1 : b ≤ 18446744073709551615) :
    Calls Tryz.prog 68 #[.int .i64 50, .int .u64 a, .int .u64 b] w fun e w' => e = .returned (.int .u64 (aluF 50 a b)) ∧ w' = w := by
  go_enter Tryz.func68, Tryz.ntmps68
  go_wp2
  go_ret
  refine ⟨ret_int ?_, rfl⟩
  first | rfl | (simp only [aluF, wrap_u64, wrap_u32, wrap_s64, wrap_s32, wrap64_is, wrap32_is, sx_def]; done) | (simp only [aluF, wrap_u64, wrap_u32, wrap_s64, wrap_s32, wrap64_is, wrap32_is, sx_def]; rfl) | (rw [HK.out]; rfl)

theorem ralu_23 (a b : Int) (w : World) (a0 : 0 ≤ a) (a1 : a ≤ 18446744073709551615) (b0 : 0 ≤ b) (b1 : b ≤ 18446744073709551615) :
    Calls Tryz.prog 68 #[.int .i64 23, .int .u64 a, .int .u64 b] w fun e w' => e = .returned (.int .u64 (aluF 23 a b)) ∧ w' = w := by
  obtain ⟨t, ht⟩ : ∃ t : Bool, decide (wrap64 a < wrap64 b) = t := ⟨_, rfl⟩
  have HT := hide (one_any t w)
  have hv : (if t = true then (1 : Int) else 0) = aluF 23 a b := by
    simp only [aluF, ← ht, decide_eq_true_eq, wrap64_is]
  have HV := hide hv
  clear hv
  generalize (if t = true then (1 : Int) else 0) = v at *
  go_enter Tryz.func68, Tryz.ntmps68
  go_wp2_with fail
  refine HT.out.mono ?_
  rintro e w' ⟨rfl, rfl⟩
  go_wp2
  go_ret
  exact ⟨ret_int HV.out, rfl⟩

theorem ralu_34 (a b : Int) (w : World) (a0 : 0 ≤ a) (a1 : a ≤ 18446744073709551615) (b0 : 0 ≤ b) (b1 : b ≤ 18446744073709551615) :
    Calls Tryz.prog 68 #[.int .i64 34, .int .u64 a, .int .u64 b] w fun e w' => e = .returned (.int .u64 (aluF 34 a b)) ∧ w' = w := by
  obtain ⟨t, ht⟩ : ∃ t : Bool, decide (wrap64 a < wrap64 b) = t := ⟨_, rfl⟩
  have HT := hide (one_any t w)
  have hv : (if t = true then (1 : Int) else 0) = aluF 34 a b := by
    simp only [aluF, ← ht, decide_eq_true_eq, wrap64_is]
  have HV := hide hv
  clear hv
  generalize (if t = true then (1 : Int) else 0) = v at *
  go_enter Tryz.func68, Tryz.ntmps68
  go_wp2_with fail
  refine HT.out.mono ?_
  rintro e w' ⟨rfl, rfl⟩
  go_wp2
  go_ret
  exact ⟨ret_int HV.out, rfl⟩

theorem ralu_24 (a b : Int) (w : World) (a0 : 0 ≤ a) (a1 : a ≤ 18446744073709551615) (b0 : 0 ≤ b) (b1 : b ≤ 18446744073709551615) :
    Calls Tryz.prog 68 #[.int .i64 24, .int .u64 a, .int .u64 b] w fun e w' => e = .returned (.int .u64 (aluF 24 a b)) ∧ w' = w := by
  obtain ⟨t, ht⟩ : ∃ t : Bool, decide (a < b) = t := ⟨_, rfl⟩
  have HT := hide (one_any t w)
  have hv : (if t = true then (1 : Int) else 0) = aluF 24 a b := by
    simp only [aluF, ← ht, decide_eq_true_eq, wrap64_is]
  have HV := hide hv
  clear hv
  generalize (if t = true then (1 : Int) else 0) = v at *
  go_enter Tryz.func68, Tryz.ntmps68
  go_wp2_with fail
  refine HT.out.mono ?_
  rintro e w' ⟨rfl, rfl⟩
  go_wp2
  go_ret
  exact ⟨ret_int HV.out, rfl⟩

theorem ralu_35 (a b : Int) (w : World) (a0 : 0 ≤ a) (a1 : a ≤ 18446744073709551615) (b0 : 0 ≤ b) (b1 : b ≤ 18446744073709551615) :
    Calls Tryz.prog 68 #[.int .i64 35, .int .u64 a, .int .u64 b] w fun e w' => e = .returned (.int .u64 (aluF 35 a b)) ∧ w' = w := by
  obtain ⟨t, ht⟩ : ∃ t : Bool, decide (a < b) = t := ⟨_, rfl⟩
  have HT := hide (one_any t w)
  have hv : (if t = true then (1 : Int) else 0) = aluF 35 a b := by
    simp only [aluF, ← ht, decide_eq_true_eq, wrap64_is]
  have HV := hide hv
  clear hv
  generalize (if t = true then (1 : Int) else 0) = v at *
  go_enter Tryz.func68, Tryz.ntmps68
  go_wp2_with fail
  refine HT.out.mono ?_
  rintro e w' ⟨rfl, rfl⟩
  go_wp2
  go_ret
  exact ⟨ret_int HV.out, rfl⟩

theorem ralu_28 (a b : Int) (w : World) (a0 : 0 ≤ a) (a1 : a ≤ 18446744073709551615) (b0 : 0 ≤ b) (b1 : b ≤ 18446744073709551615) :
    Calls Tryz.prog 68 #[.int .i64 28, .int .u64 a, .int .u64 b] w fun e w' => e = .returned (.int .u64 (aluF 28 a b)) ∧ w' = w := by
  obtain ⟨k, hk, hk1, hk2⟩ := and63 b0 b1
  have HK := hide hk2
  clear hk2
  go_enter Tryz.func68, Tryz.ntmps68
  go_wp2
  go_ret
  refine ⟨ret_int ?_, rfl⟩
  first | rfl | (simp only [aluF, wrap_u64, wrap_u32, wrap_s64, wrap_s32, wrap64_is, wrap32_is, sx_def, HK.out]; done) | (simp only [aluF, wrap_u64, wrap_u32, wrap_s64, wrap_s32, wrap64_is, wrap32_is, sx_def, HK.out]; rfl) | (rw [HK.out]; rfl)

theorem ralu_33 (a b : Int) (w : World) (a0 : 0 ≤ a) (a1 : a ≤ 18446744073709551615) (b0 : 0 ≤ b) (b1 : b ≤ 18446744073709551615) :
    Calls Tryz.prog 68 #[.int .i64 33, .int .u64 a, .int .u64 b] w fun e w' => e = .returned (.int .u64 (aluF 33 a b)) ∧ w' = w := by
  obtain ⟨k, hk, hk1, hk2⟩ := and63 b0 b1
  have HK := hide hk2
  clear hk2
  go_enter Tryz.func68, Tryz.ntmps68
  go_wp2
  go_ret
  refine ⟨ret_int ?_, rfl⟩
  first | rfl | (simp only [aluF, wrap_u64, wrap_u32, wrap_s64, wrap_s32, wrap64_is, wrap32_is, sx_def, HK.out]; done) | (simp only [aluF, wrap_u64, wrap_u32, wrap_s64, wrap_s32, wrap64_is, wrap32_is, sx_def, HK.out]; rfl) | (rw [HK.out]; rfl)

theorem ralu_29 (a b : Int) (w : World) (a0 : 0 ≤ a) (a1 : a ≤ 18446744073709551615) (b0 : 0 ≤ b) (b1 : b ≤ 18446744073709551615) :
    Calls Tryz.prog 68 #[.int .i64 29, .int .u64 a, .int .u64 b] w fun e w' => e = .returned (.int .u64 (aluF 29 a b)) ∧ w' = w := by
  obtain ⟨k, hk, hk1, hk2⟩ := and63 b0 b1
  have HK := hide hk2
  clear hk2
  go_enter Tryz.func68, Tryz.ntmps68
  go_wp2
  go_ret
  refine ⟨ret_int ?_, rfl⟩
  first | rfl | (simp only [aluF, wrap_u64, wrap_u32, wrap_s64, wrap_s32, wrap64_is, wrap32_is, sx_def, HK.out]; done) | (simp only [aluF, wrap_u64, wrap_u32, wrap_s64, wrap_s32, wrap64_is, wrap32_is, sx_def, HK.out]; rfl) | (rw [HK.out]; rfl)

theorem ralu_37 (a b : Int) (w : World) (a0 : 0 ≤ a) (a1 : a ≤ 18446744073709551615) (b0 : 0 ≤ b) (b1 : b ≤ 18446744073709551615) :
    Calls Tryz.prog 68 #[.int .i64 37, .int .u64 a, .int .u64 b] w fun e w' => e = .returned (.int .u64 (aluF 37 a b)) ∧ w' = w := by
  obtain ⟨k, hk, hk1, hk2⟩ := and63 b0 b1
  have HK := hide hk2
  clear hk2
  go_enter Tryz.func68, Tryz.ntmps68
  go_wp2
  go_ret
  refine ⟨ret_int ?_, rfl⟩
  first | rfl | (simp only [aluF, wrap_u64, wrap_u32, wrap_s64, wrap_s32, wrap64_is, wrap32_is, sx_def, HK.out]; done) | (simp only [aluF, wrap_u64, wrap_u32, wrap_s64, wrap_s32, wrap64_is, wrap32_is, sx_def, HK.out]; rfl) | (rw [HK.out]; rfl)

theorem ralu_30 (a b : Int) (w : World) (a0 : 0 ≤ a) (a1 : a ≤ 18446744073709551615) (b0 : 0 ≤ b) (b1 : b ≤ 18446744073709551615) :
    Calls Tryz.prog 68 #[.int .i64 30, .int .u64 a, .int .u64 b] w fun e w' => e = .returned (.int .u64 (aluF 30 a b)) ∧ w' = w := by
  obtain ⟨k, hk, hk1, hk2⟩ := and63 b0 b1
  have HK := hide hk2
  clear hk2
  go_enter Tryz.func68, Tryz.ntmps68
  go_wp2
  go_ret
  refine ⟨ret_int ?_, rfl⟩
  first | rfl | (simp only [aluF, wrap_u64, wrap_u32, wrap_s64, wrap_s32, wrap64_is, wrap32_is, sx_def, HK.out]; done) | (simp only [aluF, wrap_u64, wrap_u32, wrap_s64, wrap_s32, wrap64_is, wrap32_is, sx_def, HK.out]; rfl) | (rw [HK.out]; rfl)

theorem ralu_38 (a b : Int) (w : World) (a0 : 0 ≤ a) (a1 : a ≤ 18446744073709551615) (b0 : 0 ≤ b) (b1 : b ≤ 18446744073709551615) :
    Calls Tryz.prog 68 #[.int .i64 38, .int .u64 a, .int .u64 b] w fun e w' => e = .returned (.int .u64 (aluF 38 a b)) ∧ w' = w := by
  obtain ⟨k, hk, hk1, hk2⟩ := and63 b0 b1
  have HK := hide hk2
  clear hk2
  go_enter Tryz.func68, Tryz.ntmps68
  go_wp2
  go_ret
  refine ⟨ret_int ?_, rfl⟩
  first | rfl | (simp only [aluF, wrap_u64, wrap_u32, wrap_s64, wrap_s32, wrap64_is, wrap32_is, sx_def, HK.out]; done) | (simp only [aluF, wrap_u64, wrap_u32, wrap_s64, wrap_s32, wrap64_is, wrap32_is, sx_def, HK.out]; rfl) | (rw [HK.out]; rfl)

theorem ralu_41 (a b : Int) (w : World) (a0 : 0 ≤ a) (a1 : a ≤ 18446744073709551615) (b0 : 0 ≤ b) (b1 : b ≤ 18446744073709551615) :
    Calls Tryz.prog 68 #[.int .i64 41, .int .u64 a, .int .u64 b] w fun e w' => e = .returned (.int .u64 (aluF 41 a b)) ∧ w' = w := by
  go_enter Tryz.func68, Tryz.ntmps68
  go_wp2_with fail
  refine (word_any' _ _).mono ?_
  rintro e w' ⟨rfl, rfl⟩
  go_wp2
  go_ret
  refine ⟨ret_int ?_, rfl⟩
  simp only [aluF, wrap_u64, wrap_u32, wrap_s64, wrap_s32, wrap64_is, wrap32_is, sx_def, sx_u64]

theorem ralu_45 (a b : Int) (w : World) (a0 : 0 ≤ a) (a1 : a ≤ 18446744073709551615) (b0 : 0 ≤ b) (b1 : b ≤ 18446744073709551615) :
    Calls Tryz.prog 68 #[.int .i64 45, .int .u64 a, .int .u64 b] w fun e w' => e = .returned (.int .u64 (aluF 45 a b)) ∧ w' = w := by
  go_enter Tryz.func68, Tryz.ntmps68
  go_wp2_with fail
  refine (word_any' _ _).mono ?_
  rintro e w' ⟨rfl, rfl⟩
  go_wp2
  go_ret
  refine ⟨ret_int ?_, rfl⟩
  simp only [aluF, wrap_u64, wrap_u32, wrap_s64, wrap_s32, wrap64_is, wrap32_is, sx_def, sx_u64]

theorem ralu_46 (a b : Int) (w : World) (a0 : 0 ≤ a) (a1 : a ≤ 18446744073709551615) (b0 : 0 ≤ b) (b1 : b ≤ 18446744073709551615) :
    Calls Tryz.prog 68 #[.int .i64 46, .int .u64 a, .int .u64 b] w fun e w' => e = .returned (.int .u64 (aluF 46 a b)) ∧ w' = w := by
  go_enter Tryz.func68, Tryz.ntmps68
  go_wp2_with fail
  refine (word_any' _ _).mono ?_
  rintro e w' ⟨rfl, rfl⟩
  go_wp2
  go_ret
  refine ⟨ret_int ?_, rfl⟩
  simp only [aluF, wrap_u64, wrap_u32, wrap_s64, wrap_s32, wrap64_is, wrap32_is, sx_def, sx_u64]

theorem ralu_58 (a b : Int) (w : World) (a0 : 0 ≤ a) (a1 : a ≤ 18446744073709551615) (b0 : 0 ≤ b) (b1 : b ≤ 18446744073709551615) :
    Calls Tryz.prog 68 #[.int .i64 58, .int .u64 a, .int .u64 b] w fun e w' => e = .returned (.int .u64 (aluF 58 a b)) ∧ w' = w := by
  go_enter Tryz.func68, Tryz.ntmps68
  go_wp2_with fail
  refine (word_any' _ _).mono ?_
  rintro e w' ⟨rfl, rfl⟩
  go_wp2
  go_ret
  refine ⟨ret_int ?_, rfl⟩
  simp only [aluF, wrap_u64, wrap_u32, wrap_s64, wrap_s32, wrap64_is, wrap32_is, sx_def, sx_u64]

theorem ralu_42 (a b : Int) (w : World) (a0 : 0 ≤ a) (a1 : a ≤ 18446744073709551615) (b0 : 0 ≤ b) (b1 : b ≤ 18446744073709551615) :
    Calls Tryz.prog 68 #[.int .i64 42, .int .u64 a, .int .u64 b] w fun e w' => e = .returned (.int .u64 (aluF 42 a b)) ∧ w' = w := by
  obtain ⟨k, hk, hk1, hk2⟩ := and31 b0 b1
  have HK := hide hk2
  clear hk2
  go_enter Tryz.func68, Tryz.ntmps68
  go_wp2_with fail
  refine (word_any' _ _).mono ?_
  rintro e w' ⟨rfl, rfl⟩
  go_wp2
  go_ret
  refine ⟨ret_int ?_, rfl⟩
  simp only [aluF, wrap_u64, wrap_u32, wrap_s64, wrap_s32, wrap64_is, wrap32_is, sx_def, sx_u64, HK.out]

theorem ralu_47 (a b : Int) (w : World) (a0 : 0 ≤ a) (a1 : a ≤ 18446744073709551615) (b0 : 0 ≤ b) (b1 : b ≤ 18446744073709551615) :
    Calls Tryz.prog 68 #[.int .i64 47, .int .u64 a, .int .u64 b] w fun e w' => e = .returned (.int .u64 (aluF 47 a b)) ∧ w' = w := by
  obtain ⟨k, hk, hk1, hk2⟩ := and31 b0 b1
  have HK := hide hk2
  clear hk2
  go_enter Tryz.func68, Tryz.ntmps68
  go_wp2_with fail
  refine (word_any' _ _).mono ?_
  rintro e w' ⟨rfl, rfl⟩
  go_wp2
  go_ret
  refine ⟨ret_int ?_, rfl⟩
  simp only [aluF, wrap_u64, wrap_u32, wrap_s64, wrap_s32, wrap64_is, wrap32_is, sx_def, sx_u64, HK.out]

theorem ralu_43 (a b : Int) (w : World) (a0 : 0 ≤ a) (a1 : a ≤ 18446744073709551615) (b0 : 0 ≤ b) (b1 : b ≤ 18446744073709551615) :
    Calls Tryz.prog 68 #[.int .i64 43, .int .u64 a, .int .u64 b] w fun e w' => e = .returned (.int .u64 (aluF 43 a b)) ∧ w' = w := by
  obtain ⟨k, hk, hk1, hk2⟩ := and31 b0 b1
  have HK := hide hk2
  clear hk2
  go_enter Tryz.func68, Tryz.ntmps68
  go_wp2_with fail
  refine (word_any' _ _).mono ?_
  rintro e w' ⟨rfl, rfl⟩
  go_wp2
  go_ret
  refine ⟨ret_int ?_, rfl⟩
  simp only [aluF, wrap_u64, wrap_u32, wrap_s64, wrap_s32, wrap64_is, wrap32_is, sx_def, HK.out, sx_u64]
  rfl

theorem ralu_48 (a b : Int) (w : World) (a0 : 0 ≤ a) (a1 : a ≤ 18446744073709551615) (b0 : 0 ≤ b) (b1 : b ≤ 18446744073709551615) :
    Calls Tryz.prog 68 #[.int .i64 48, .int .u64 a, .int .u64 b] w fun e w' => e = .returned (.int .u64 (aluF 48 a b)) ∧ w' = w := by
  obtain ⟨k, hk, hk1, hk2⟩ := and31 b0 b1
  have HK := hide hk2
  clear hk2
  go_enter Tryz.func68, Tryz.ntmps68
  go_wp2_with fail
  refine (word_any' _ _).mono ?_
  rintro e w' ⟨rfl, rfl⟩
  go_wp2
  go_ret
  refine ⟨ret_int ?_, rfl⟩
  simp only [aluF, wrap_u64, wrap_u32, wrap_s64, wrap_s32, wrap64_is, wrap32_is, sx_def, HK.out, sx_u64]
  rfl

theorem ralu_44 (a b : Int) (w : World) (a0 : 0 ≤ a) (a1 : a ≤ 18446744073709551615) (b0 : 0 ≤ b) (b1 : b ≤ 18446744073709551615) :
    Calls Tryz.prog 68 #[.int .i64 44, .int .u64 a, .int .u64 b] w fun e w' => e = .returned (.int .u64 (aluF 44 a b)) ∧ w' = w := by
  obtain ⟨k, hk, hk1, hk2⟩ := and31 b0 b1
  have HK := hide hk2
  clear hk2
  have sb := s32_bd a
  have dv := ediv_pow_bd (s32 a) k (-2147483648) 2147483647 sb.1 sb.2 (by decide) (by decide)
  have HS : Hid (s64 (s32 a / 2 ^ k) = s32 a / 2 ^ k) := s64_id (by omega) (by omega)
  clear sb dv
  go_enter Tryz.func68, Tryz.ntmps68
  go_wp2
  go_ret
  refine ⟨ret_int ?_, rfl⟩
  first | rfl | (simp only [aluF, wrap_u64, wrap_u32, wrap_s64, wrap_s32, wrap64_is, wrap32_is, sx_def, HK.out, HS.out]; done) | (simp only [aluF, wrap_u64, wrap_u32, wrap_s64, wrap_s32, wrap64_is, wrap32_is, sx_def, HK.out, HS.out]; rfl) | (rw [HK.out]; rfl)

theorem ralu_49 (a b : Int) (w : World) (a0 : 0 ≤ a) (a1 : a ≤ 18446744073709551615) (b0 : 0 ≤ b) (b1 : b ≤ 18446744073709551615) :
    Calls Tryz.prog 68 #[.int .i64 49, .int .u64 a, .int .u64 b] w fun e w' => e = .returned (.int .u64 (aluF 49 a b)) ∧ w' = w := by
  obtain ⟨k, hk, hk1, hk2⟩ := and31 b0 b1
  have HK := hide hk2
  clear hk2
  have sb := s32_bd a
  have dv := ediv_pow_bd (s32 a) k (-2147483648) 2147483647 sb.1 sb.2 (by decide) (by decide)
  have HS : Hid (s64 (s32 a / 2 ^ k) = s32 a / 2 ^ k) := s64_id (by omega) (by omega)
  clear sb dv
  go_enter Tryz.func68, Tryz.ntmps68
  go_wp2
  go_ret
  refine ⟨ret_int ?_, rfl⟩
  first | rfl | (simp only [aluF, wrap_u64, wrap_u32, wrap_s64, wrap_s32, wrap64_is, wrap32_is, sx_def, HK.out, HS.out]; done) | (simp only [aluF, wrap_u64, wrap_u32, wrap_s64, wrap_s32, wrap64_is, wrap32_is, sx_def, HK.out, HS.out]; rfl) | (rw [HK.out]; rfl)

theorem ralu_51 (a b : Int) (w : World) (a0 : 0 ≤ a) (a1 : a ≤ 18446744073709551615) (b0 : 0 ≤ b) (b1 : b ≤ 18446744073709551615) :
    Calls Tryz.prog 68 #[.int .i64 51, .int .u64 a, .int .u64 b] w fun e w' => e = .returned (.int .u64 (aluF 51 a b)) ∧ w' = w := by
  have HP := hide (rmulh_51 a b w a0 a1 b0 b1)
  generalize aluF 51 a b = v at *
  go_enter Tryz.func68, Tryz.ntmps68
  go_wp2_with fail
  refine HP.out.mono ?_
  rintro e w' ⟨rfl, rfl⟩
  go_wp2
  go_ret
  exact ⟨rfl, rfl⟩

theorem ralu_52 (a b : Int) (w : World) (a0 : 0 ≤ a) (a1 : a ≤ 18446744073709551615) (b0 : 0 ≤ b) (b1 : b ≤ 18446744073709551615) :
    Calls Tryz.prog 68 #[.int .i64 52, .int .u64 a, .int .u64 b] w fun e w' => e = .returned (.int .u64 (aluF 52 a b)) ∧ w' = w := by
  have HP := hide (rmulh_52 a b w a0 a1 b0 b1)
  generalize aluF 52 a b = v at *
  go_enter Tryz.func68, Tryz.ntmps68
  go_wp2_with fail
  refine HP.out.mono ?_
  rintro e w' ⟨rfl, rfl⟩
  go_wp2
  go_ret
  exact ⟨rfl, rfl⟩

theorem ralu_53 (a b : Int) (w : World) (a0 : 0 ≤ a) (a1 : a ≤ 18446744073709551615) (b0 : 0 ≤ b) (b1 : b ≤ 18446744073709551615) :
    Calls Tryz.prog 68 #[.int .i64 53, .int .u64 a, .int .u64 b] w fun e w' => e = .returned (.int .u64 (aluF 53 a b)) ∧ w' = w := by
  have HP := hide (rmulh_53 a b w a0 a1 b0 b1)
  generalize aluF 53 a b = v at *
  go_enter Tryz.func68, Tryz.ntmps68
  go_wp2_with fail
  refine HP.out.mono ?_
  rintro e w' ⟨rfl, rfl⟩
  go_wp2
  go_ret
  exact ⟨rfl, rfl⟩

theorem ralu_54 (a b : Int) (w : World) (a0 : 0 ≤ a) (a1 : a ≤ 18446744073709551615) (b0 : 0 ≤ b) (b1 : b ≤ 18446744073709551615) :
    Calls Tryz.prog 68 #[.int .i64 54, .int .u64 a, .int .u64 b] w fun e w' => e = .returned (.int .u64 (aluF 54 a b)) ∧ w' = w := by
  have sa := s64_bd a
  have sb := s64_bd b
  have HP := hide (rdiv_any' (s64 a) (s64 b) w sa.1 sa.2 sb.1 sb.2)
  have hv : IntKind.u64.wrap (if s64 b = 0 then -1 else s64 ((s64 a).tdiv (s64 b))) = aluF 54 a b := by
    simp only [wrap_u64, aluF, s64_zero b0 b1]
    split
    · decide
    · rw [u64_s64]
  have ea : wrap64 a = s64 a := wrap64_is a
  have eb : wrap64 b = s64 b := wrap64_is b
  have HV := hide hv
  clear hv
  generalize (if s64 b = 0 then -1 else s64 ((s64 a).tdiv (s64 b))) = v at *
  generalize s64 a = x at *
  generalize s64 b = y at *
  generalize aluF 54 a b = z at *
  go_enter Tryz.func68, Tryz.ntmps68
  go_wp2_with fail
  refine HP.out.mono ?_
  rintro e w' ⟨rfl, rfl⟩
  go_wp2
  go_ret
  exact ⟨ret_int HV.out, rfl⟩

theorem ralu_56 (a b : Int) (w : World) (a0 : 0 ≤ a) (a1 : a ≤ 18446744073709551615) (b0 : 0 ≤ b) (b1 : b ≤ 18446744073709551615) :
    Calls Tryz.prog 68 #[.int .i64 56, .int .u64 a, .int .u64 b] w fun e w' => e = .returned (.int .u64 (aluF 56 a b)) ∧ w' = w := by
  have sa := s64_bd a
  have sb := s64_bd b
  have HP := hide (rrem_any' (s64 a) (s64 b) w sa.1 sa.2 sb.1 sb.2)
  have hv : IntKind.u64.wrap (if s64 b = 0 then s64 a else (s64 a).tmod (s64 b)) = aluF 56 a b := by
    simp only [wrap_u64, aluF, s64_zero b0 b1]
    split
    · rw [u64_s64, u64_id a0 a1]
    · rfl
  have ea : wrap64 a = s64 a := wrap64_is a
  have eb : wrap64 b = s64 b := wrap64_is b
  have HV := hide hv
  clear hv
  generalize (if s64 b = 0 then s64 a else (s64 a).tmod (s64 b)) = v at *
  generalize s64 a = x at *
  generalize s64 b = y at *
  generalize aluF 56 a b = z at *
  go_enter Tryz.func68, Tryz.ntmps68
  go_wp2_with fail
  refine HP.out.mono ?_
  rintro e w' ⟨rfl, rfl⟩
  go_wp2
  go_ret
  exact ⟨ret_int HV.out, rfl⟩

theorem ralu_55 (a b : Int) (w : World) (a0 : 0 ≤ a) (a1 : a ≤ 18446744073709551615) (b0 : 0 ≤ b) (b1 : b ≤ 18446744073709551615) :
    Calls Tryz.prog 68 #[.int .i64 55, .int .u64 a, .int .u64 b] w fun e w' => e = .returned (.int .u64 (aluF 55 a b)) ∧ w' = w := by
  have HP := hide (rdivu_any' a b w a0 a1 b0 b1)
  have e : aluF 55 a b = (if b = 0 then 18446744073709551615 else a / b) := rfl
  rw [e]
  clear e
  generalize (if b = 0 then 18446744073709551615 else a / b) = v at *
  go_enter Tryz.func68, Tryz.ntmps68
  go_wp2_with fail
  refine HP.out.mono ?_
  rintro e w' ⟨rfl, rfl⟩
  go_wp2
  go_ret
  exact ⟨rfl, rfl⟩

theorem ralu_57 (a b : Int) (w : World) (a0 : 0 ≤ a) (a1 : a ≤ 18446744073709551615) (b0 : 0 ≤ b) (b1 : b ≤ 18446744073709551615) :
    Calls Tryz.prog 68 #[.int .i64 57, .int .u64 a, .int .u64 b] w fun e w' => e = .returned (.int .u64 (aluF 57 a b)) ∧ w' = w := by
  have HP := hide (rremu_any' a b w a0 a1 b0 b1)
  have e : aluF 57 a b = (if b = 0 then a else a % b) := rfl
  rw [e]
  clear e
  generalize (if b = 0 then a else a % b) = v at *
  go_enter Tryz.func68, Tryz.ntmps68
  go_wp2_with fail
  refine HP.out.mono ?_
  rintro e w' ⟨rfl, rfl⟩
  go_wp2
  go_ret
  exact ⟨rfl, rfl⟩

theorem ralu_59 (a b : Int) (w : World) (a0 : 0 ≤ a) (a1 : a ≤ 18446744073709551615) (b0 : 0 ≤ b) (b1 : b ≤ 18446744073709551615) :
    Calls Tryz.prog 68 #[.int .i64 59, .int .u64 a, .int .u64 b] w fun e w' => e = .returned (.int .u64 (aluF 59 a b)) ∧ w' = w := by
  have sa := s32_bd a
  have sb := s32_bd b
  have HP := hide (rdiv_any' (s32 a) (s32 b) w (by omega) (by omega) (by omega) (by omega))
  have hv : sx (IntKind.u64.wrap (if s32 b = 0 then -1 else s64 ((s32 a).tdiv (s32 b)))) = aluF 59 a b := by
    simp only [wrap_u64, aluF, s32_zero, sx_u64]
    split
    · decide
    · rw [sx_s64]
  have ea : wrap64 (wrap32 a) = s32 a := by rw [wrap64_is, wrap32_is, s64_s32]
  have eb : wrap64 (wrap32 b) = s32 b := by rw [wrap64_is, wrap32_is, s64_s32]
  have HV := hide hv
  clear hv
  generalize (if s32 b = 0 then -1 else s64 ((s32 a).tdiv (s32 b))) = v at *
  generalize s32 a = x at *
  generalize s32 b = y at *
  generalize aluF 59 a b = z at *
  go_enter Tryz.func68, Tryz.ntmps68
  go_wp2_with fail
  refine HP.out.mono ?_
  rintro e w' ⟨rfl, rfl⟩
  go_wp2_with fail
  refine (word_any' _ _).mono ?_
  rintro e w' ⟨rfl, rfl⟩
  go_wp2
  go_ret
  exact ⟨ret_int HV.out, rfl⟩

theorem ralu_61 (a b : Int) (w : World) (a0 : 0 ≤ a) (a1 : a ≤ 18446744073709551615) (b0 : 0 ≤ b) (b1 : b ≤ 18446744073709551615) :
    Calls Tryz.prog 68 #[.int .i64 61, .int .u64 a, .int .u64 b] w fun e w' => e = .returned (.int .u64 (aluF 61 a b)) ∧ w' = w := by
  have sa := s32_bd a
  have sb := s32_bd b
  have HP := hide (rrem_any' (s32 a) (s32 b) w (by omega) (by omega) (by omega) (by omega))
  have hv : sx (IntKind.u64.wrap (if s32 b = 0 then s32 a else (s32 a).tmod (s32 b))) = aluF 61 a b := by
    simp only [wrap_u64, aluF, s32_zero, sx_u64]
    split
    · rw [sx_s32]
    · rfl
  have ea : wrap64 (wrap32 a) = s32 a := by rw [wrap64_is, wrap32_is, s64_s32]
  have eb : wrap64 (wrap32 b) = s32 b := by rw [wrap64_is, wrap32_is, s64_s32]
  have HV := hide hv
  clear hv
  generalize (if s32 b = 0 then s32 a else (s32 a).tmod (s32 b)) = v at *
  generalize s32 a = x at *
  generalize s32 b = y at *
  generalize aluF 61 a b = z at *
  go_enter Tryz.func68, Tryz.ntmps68
  go_wp2_with fail
  refine HP.out.mono ?_
  rintro e w' ⟨rfl, rfl⟩
  go_wp2_with fail
  refine (word_any' _ _).mono ?_
  rintro e w' ⟨rfl, rfl⟩
  go_wp2
  go_ret
  exact ⟨ret_int HV.out, rfl⟩

theorem ralu_60 (a b : Int) (w : World) (a0 : 0 ≤ a) (a1 : a ≤ 18446744073709551615) (b0 : 0 ≤ b) (b1 : b ≤ 18446744073709551615) :
    Calls Tryz.prog 68 #[.int .i64 60, .int .u64 a, .int .u64 b] w fun e w' => e = .returned (.int .u64 (aluF 60 a b)) ∧ w' = w := by
  have sa := u32_bd a
  have sb := u32_bd b
  have HP := hide (rdivu_any' (u32 a) (u32 b) w (by omega) (by omega) (by omega) (by omega))
  have hv : sx (if u32 b = 0 then 18446744073709551615 else u32 a / u32 b) = aluF 60 a b := by
    simp only [aluF]
    split
    · decide
    · rfl
  have ea : IntKind.u32.wrap a = u32 a := wrap_u32 a
  have eb : IntKind.u32.wrap b = u32 b := wrap_u32 b
  have HV := hide hv
  clear hv
  generalize (if u32 b = 0 then 18446744073709551615 else u32 a / u32 b) = v at *
  generalize u32 a = x at *
  generalize u32 b = y at *
  generalize aluF 60 a b = z at *
  go_enter Tryz.func68, Tryz.ntmps68
  go_wp2_with fail
  refine HP.out.mono ?_
  rintro e w' ⟨rfl, rfl⟩
  go_wp2_with fail
  refine (word_any' _ _).mono ?_
  rintro e w' ⟨rfl, rfl⟩
  go_wp2
  go_ret
  exact ⟨ret_int HV.out, rfl⟩

theorem ralu_62 (a b : Int) (w : World) (a0 : 0 ≤ a) (a1 : a ≤ 18446744073709551615) (b0 : 0 ≤ b) (b1 : b ≤ 18446744073709551615) :
    Calls Tryz.prog 68 #[.int .i64 62, .int .u64 a, .int .u64 b] w fun e w' => e = .returned (.int .u64 (aluF 62 a b)) ∧ w' = w := by
  have sa := u32_bd a
  have sb := u32_bd b
  have HP := hide (rremu_any' (u32 a) (u32 b) w (by omega) (by omega) (by omega) (by omega))
  have hv : sx (if u32 b = 0 then u32 a else u32 a % u32 b) = aluF 62 a b := by
    simp only [aluF]
    split
    · rw [sx_u32]
    · rfl
  have ea : IntKind.u32.wrap a = u32 a := wrap_u32 a
  have eb : IntKind.u32.wrap b = u32 b := wrap_u32 b
  have HV := hide hv
  clear hv
  generalize (if u32 b = 0 then u32 a else u32 a % u32 b) = v at *
  generalize u32 a = x at *
  generalize u32 b = y at *
  generalize aluF 62 a b = z at *
  go_enter Tryz.func68, Tryz.ntmps68
  go_wp2_with fail
  refine HP.out.mono ?_
  rintro e w' ⟨rfl, rfl⟩
  go_wp2_with fail
  refine (word_any' _ _).mono ?_
  rintro e w' ⟨rfl, rfl⟩
  go_wp2
  go_ret
  exact ⟨ret_int HV.out, rfl⟩

theorem ralu_any (o : Nat) (a b : Int) (w : World) (h0 : 22 ≤ o) (h1 : o ≤ 62) (a0 : 0 ≤ a) (a1 : a ≤ 18446744073709551615) (b0 : 0 ≤ b) (b1 : b ≤ 18446744073709551615) :
    Calls Tryz.prog 68 #[.int .i64 (o : Int), .int .u64 a, .int .u64 b] w fun e w' => e = .returned (.int .u64 (aluF o a b)) ∧ w' = w := by
  rcases (show o = 22 ∨ o = 23 ∨ o = 24 ∨ o = 25 ∨ o = 26 ∨ o = 27 ∨ o = 28 ∨ o = 29 ∨ o = 30 ∨ o = 31 ∨ o = 32 ∨ o = 33 ∨ o = 34 ∨ o = 35 ∨ o = 36 ∨ o = 37 ∨ o = 38 ∨ o = 39 ∨ o = 40 ∨ o = 41 ∨ o = 42 ∨ o = 43 ∨ o = 44 ∨ o = 45 ∨ o = 46 ∨ o = 47 ∨ o = 48 ∨ o = 49 ∨ o = 50 ∨ o = 51 ∨ o = 52 ∨ o = 53 ∨ o = 54 ∨ o = 55 ∨ o = 56 ∨ o = 57 ∨ o = 58 ∨ o = 59 ∨ o = 60 ∨ o = 61 ∨ o = 62 by omega) with rfl | rfl | rfl | rfl | rfl | rfl | rfl | rfl | rfl | rfl | rfl | rfl | rfl | rfl | rfl | rfl | rfl | rfl | rfl | rfl | rfl | rfl | rfl | rfl | rfl | rfl | rfl | rfl | rfl | rfl | rfl | rfl | rfl | rfl | rfl | rfl | rfl | rfl | rfl | rfl | rfl
  · exact ralu_22 a b w a0 a1 b0 b1
  · exact ralu_23 a b w a0 a1 b0 b1
  · exact ralu_24 a b w a0 a1 b0 b1
  · exact ralu_25 a b w a0 a1 b0 b1
  · exact ralu_26 a b w a0 a1 b0 b1
  · exact ralu_27 a b w a0 a1 b0 b1
  · exact ralu_28 a b w a0 a1 b0 b1
  · exact ralu_29 a b w a0 a1 b0 b1
  · exact ralu_30 a b w a0 a1 b0 b1
  · exact ralu_31 a b w a0 a1 b0 b1
  · exact ralu_32 a b w a0 a1 b0 b1
  · exact ralu_33 a b w a0 a1 b0 b1
  · exact ralu_34 a b w a0 a1 b0 b1
  · exact ralu_35 a b w a0 a1 b0 b1
  · exact ralu_36 a b w a0 a1 b0 b1
  · exact ralu_37 a b w a0 a1 b0 b1
  · exact ralu_38 a b w a0 a1 b0 b1
  · exact ralu_39 a b w a0 a1 b0 b1
  · exact ralu_40 a b w a0 a1 b0 b1
  · exact ralu_41 a b w a0 a1 b0 b1
  · exact ralu_42 a b w a0 a1 b0 b1
  · exact ralu_43 a b w a0 a1 b0 b1
  · exact ralu_44 a b w a0 a1 b0 b1
  · exact ralu_45 a b w a0 a1 b0 b1
  · exact ralu_46 a b w a0 a1 b0 b1
  · exact ralu_47 a b w a0 a1 b0 b1
  · exact ralu_48 a b w a0 a1 b0 b1
  · exact ralu_49 a b w a0 a1 b0 b1
  · exact ralu_50 a b w a0 a1 b0 b1
  · exact ralu_51 a b w a0 a1 b0 b1
  · exact ralu_52 a b w a0 a1 b0 b1
  · exact ralu_53 a b w a0 a1 b0 b1
  · exact ralu_54 a b w a0 a1 b0 b1
  · exact ralu_55 a b w a0 a1 b0 b1
  · exact ralu_56 a b w a0 a1 b0 b1
  · exact ralu_57 a b w a0 a1 b0 b1
  · exact ralu_58 a b w a0 a1 b0 b1
  · exact ralu_59 a b w a0 a1 b0 b1
  · exact ralu_60 a b w a0 a1 b0 b1
  · exact ralu_61 a b w a0 a1 b0 b1
  · exact ralu_62 a b w a0 a1 b0 b1

end Go.Proofs.YtgjfelkbblbjfaaGreatDoor
