/- Walks of the statements on products, on words, on every operation. -/
import Derived.Test.YtejmifokceoofaaDoorJ05
import Derived.Test.YtejmifokceoofaaDoorMachAluR
namespace Go.Proofs.YtejmifokceoofaaDoor
open Go.RowKit Go.Maps
set_option linter.unusedVariables false
set_option maxRecDepth 100000
set_option maxRecDepth 20000

theorem and32 {a : Int} (h0 : 0 ≤ a) (h1 : a ≤ 18446744073709551615) : bits .and .u64 a 4294967295 = a % 4294967296 := by
  have := bits_mask .u64 64 (by decide) wraps_u64 32 (by omega) a h0 (by omega)
  rw [show (2 : Int) ^ 32 - 1 = 4294967295 by decide, show (2 : Int) ^ 32 = 4294967296 by decide] at this
  exact this

/-- A product of two halves fits. -/
theorem half_mul {a b : Int} (a0 : 0 ≤ a) (a1 : a ≤ 4294967295) (b0 : 0 ≤ b) (b1 : b ≤ 4294967295) : 0 ≤ a * b ∧ a * b ≤ 18446744065119617025 := by
  obtain ⟨x, rfl⟩ := Int.eq_ofNat_of_zero_le a0
  obtain ⟨y, rfl⟩ := Int.eq_ofNat_of_zero_le b0
  have h : x * y ≤ 4294967295 * 4294967295 := Nat.mul_le_mul (by omega) (by omega)
  rw [← Int.natCast_mul]
  omega

theorem mul_halves {a b : Int} (a0 : 0 ≤ a) (a1 : a ≤ 18446744073709551615) (b0 : 0 ≤ b) (b1 : b ≤ 18446744073709551615) :
    a * b = a / 4294967296 * (b / 4294967296) * 18446744073709551616 + (a % 4294967296 * (b / 4294967296) + a / 4294967296 * (b % 4294967296)) * 4294967296 + a % 4294967296 * (b % 4294967296) := by
  have ea : a = a / 4294967296 * 4294967296 + a % 4294967296 := by omega
  have eb : b = b / 4294967296 * 4294967296 + b % 4294967296 := by omega
  generalize a / 4294967296 = p at *
  generalize a % 4294967296 = q at *
  generalize b / 4294967296 = r at *
  generalize b % 4294967296 = s at *
  subst ea eb
  rw [Int.add_mul, Int.mul_add, Int.mul_add]
  have e1 : p * 4294967296 * (r * 4294967296) = p * r * 18446744073709551616 := by
    rw [Int.mul_assoc, ← Int.mul_assoc 4294967296, Int.mul_comm 4294967296 r, Int.mul_assoc r, ← Int.mul_assoc]
    rfl
  have e2 : p * 4294967296 * s = p * s * 4294967296 := by rw [Int.mul_assoc, Int.mul_comm 4294967296 s, ← Int.mul_assoc]
  have e3 : q * (r * 4294967296) = q * r * 4294967296 := by rw [← Int.mul_assoc]
  rw [e1, e2, e3]
  omega

set_option maxHeartbeats 3200000 in
theorem muls_walk (a b : Int) (w : World) (hL : Laid w) (a0 : 0 ≤ a) (a1 : a ≤ 18446744073709551615) (b0 : 0 ≤ b) (b1 : b ≤ 18446744073709551615) :
    Calls Tryd.prog 7 #[.int .u64 a, .int .u64 b] w fun e w' => e = .returned (.bool true) ∧ Below w.heap.size w w' := by
  have HK := hide (known_8 w hL)
  have H50 := hide (fun W => alu_any 50 a b W (by decide) (by decide) a0 a1 b0 b1)
  have H51 := hide (fun W => alu_any 51 a b W (by decide) (by decide) a0 a1 b0 b1)
  have H52 := hide (fun W => alu_any 52 a b W (by decide) (by decide) a0 a1 b0 b1)
  have H53 := hide (fun W => alu_any 53 a b W (by decide) (by decide) a0 a1 b0 b1)
  have hbd := aluF_bd 53 a b a0 a1 b0 b1
  have hh := mul_halves a0 a1 b0 b1
  have e53 : aluF 53 a b = a * b / 18446744073709551616 := rfl
  have e50 : IntKind.u64.wrap (a * b) = aluF 50 a b := wrap_u64 _
  have e52 : aluF 52 a b = u64 (aluF 53 a b - (if s64 a < 0 then b else 0)) := rfl
  have e51 : aluF 51 a b = u64 (aluF 53 a b - (if s64 a < 0 then b else 0) - (if s64 b < 0 then a else 0)) := rfl
  have ma := and32 a0 a1
  have mb := and32 b0 b1
  have p0 : 0 ≤ a % 4294967296 ∧ a % 4294967296 ≤ 4294967295 := by omega
  have p1 : 0 ≤ a / 4294967296 ∧ a / 4294967296 ≤ 4294967295 := by omega
  have q0 : 0 ≤ b % 4294967296 ∧ b % 4294967296 ≤ 4294967295 := by omega
  have q1 : 0 ≤ b / 4294967296 ∧ b / 4294967296 ≤ 4294967295 := by omega
  have x0 := half_mul p0.1 p0.2 q1.1 q1.2
  have y0 := half_mul p1.1 p1.2 q0.1 q0.2
  have z0 := half_mul p0.1 p0.2 q0.1 q0.2
  have u0 := half_mul p1.1 p1.2 q1.1 q1.2
  obtain ⟨X, hX⟩ : ∃ X, a % 4294967296 * (b / 4294967296) = X := ⟨_, rfl⟩
  obtain ⟨Y, hY⟩ : ∃ Y, a / 4294967296 * (b % 4294967296) = Y := ⟨_, rfl⟩
  obtain ⟨Z, hZ⟩ : ∃ Z, a % 4294967296 * (b % 4294967296) = Z := ⟨_, rfl⟩
  obtain ⟨U, hU⟩ : ∃ U, a / 4294967296 * (b / 4294967296) = U := ⟨_, rfl⟩
  rw [hX] at x0 hh
  rw [hY] at y0 hh
  rw [hZ] at z0 hh
  rw [hU] at u0 hh
  have mX := and32 x0.1 (by omega)
  have mY := and32 y0.1 (by omega)
  have wX : IntKind.u64.wrap (a % 4294967296 * (b / 4294967296)) = X := by rw [hX, wrap_u64, u64_id x0.1 (by omega)]
  have wY : IntKind.u64.wrap (a / 4294967296 * (b % 4294967296)) = Y := by rw [hY, wrap_u64, u64_id y0.1 (by omega)]
  have wZ : IntKind.u64.wrap (a % 4294967296 * (b % 4294967296)) = Z := by rw [hZ, wrap_u64, u64_id z0.1 (by omega)]
  have wU : IntKind.u64.wrap (a / 4294967296 * (b / 4294967296)) = U := by rw [hU, wrap_u64, u64_id u0.1 (by omega)]
  have hhi : aluF 53 a b = U + X / 4294967296 + Y / 4294967296 + (X % 4294967296 + Y % 4294967296 + Z / 4294967296) / 4294967296 := by
    rw [e53, hh]
    clear hh ma mb mX mY wX wY wZ wU hX hY hZ hU e53 hbd e50 e52 e51 H50 H51 H52 H53 HK
    omega
  obtain ⟨H, hH⟩ : ∃ H, aluF 53 a b = H := ⟨_, rfl⟩
  rw [hH] at hhi hbd e52 e51 H53
  have bX : X ≤ 18446744073709551615 := by omega
  have bY : Y ≤ 18446744073709551615 := by omega
  have bZ : Z ≤ 18446744073709551615 := by omega
  have bU : U ≤ 18446744073709551615 := by omega
  obtain ⟨v52, h52⟩ : ∃ v, aluF 52 a b = v := ⟨_, rfl⟩
  obtain ⟨v51, h51⟩ : ∃ v, aluF 51 a b = v := ⟨_, rfl⟩
  obtain ⟨v50, h50⟩ : ∃ v, aluF 50 a b = v := ⟨_, rfl⟩
  rw [h52] at H52 e52
  rw [h51] at H51 e51
  rw [h50] at H50 e50
  obtain ⟨xh, hxh⟩ : ∃ x, X / 4294967296 = x := ⟨_, rfl⟩
  obtain ⟨xl, hxl⟩ : ∃ x, X % 4294967296 = x := ⟨_, rfl⟩
  obtain ⟨yh, hyh⟩ : ∃ x, Y / 4294967296 = x := ⟨_, rfl⟩
  obtain ⟨yl, hyl⟩ : ∃ x, Y % 4294967296 = x := ⟨_, rfl⟩
  obtain ⟨zh, hzh⟩ : ∃ x, Z / 4294967296 = x := ⟨_, rfl⟩
  obtain ⟨md, hmd⟩ : ∃ x, (xl + yl + zh) / 4294967296 = x := ⟨_, rfl⟩
  rw [hxh, hxl, hyh, hyl, hzh, hmd] at hhi
  rw [hxl] at mX
  rw [hyl] at mY
  have bxh : 0 ≤ xh ∧ xh ≤ 4294967295 := by omega
  have bxl : 0 ≤ xl ∧ xl ≤ 4294967295 := by omega
  have byh : 0 ≤ yh ∧ yh ≤ 4294967295 := by omega
  have byl : 0 ≤ yl ∧ yl ≤ 4294967295 := by omega
  have bzh : 0 ≤ zh ∧ zh ≤ 4294967295 := by omega
  have bmd : 0 ≤ md ∧ md ≤ 4294967295 := by omega
  have k1 : IntKind.u64.wrap (xl + yl) = xl + yl := by rw [wrap_u64, u64_id (by omega) (by omega)]
  have k2 : IntKind.u64.wrap (xl + yl + zh) = xl + yl + zh := by rw [wrap_u64, u64_id (by omega) (by omega)]
  have k3 : IntKind.u64.wrap (U + xh) = U + xh := by rw [wrap_u64, u64_id (by omega) (by omega)]
  have k4 : IntKind.u64.wrap (U + xh + yh) = U + xh + yh := by rw [wrap_u64, u64_id (by omega) (by omega)]
  have k5 : IntKind.u64.wrap (U + xh + yh + md) = H := by rw [wrap_u64, hhi, u64_id (by omega) (by omega)]
  have hsa : (decide (wrap64 a < 0) = true ∧ s64 a < 0) ∨ (decide (wrap64 a < 0) = false ∧ ¬ s64 a < 0) := by
    rw [wrap64_is]; by_cases h : s64 a < 0 <;> simp [h]
  have hsb : (decide (wrap64 b < 0) = true ∧ s64 b < 0) ∨ (decide (wrap64 b < 0) = false ∧ ¬ s64 b < 0) := by
    rw [wrap64_is]; by_cases h : s64 b < 0 <;> simp [h]
  have fin : (IntKind.u64.wrap (H - b) = v52 ∧ IntKind.u64.wrap (v52 - a) = v51 ∧ decide (wrap64 a < 0) = true ∧ decide (wrap64 b < 0) = true) ∨
      (IntKind.u64.wrap (H - b) = v52 ∧ v51 = v52 ∧ decide (wrap64 a < 0) = true ∧ decide (wrap64 b < 0) = false) ∨
      (v52 = H ∧ IntKind.u64.wrap (H - a) = v51 ∧ decide (wrap64 a < 0) = false ∧ decide (wrap64 b < 0) = true) ∨
      (v52 = H ∧ v51 = H ∧ decide (wrap64 a < 0) = false ∧ decide (wrap64 b < 0) = false) := by
    rcases hsa with ⟨ta, na⟩ | ⟨ta, na⟩ <;> rcases hsb with ⟨tb, nb⟩ | ⟨tb, nb⟩
    · rw [if_pos na] at e52 e51
      rw [if_pos nb] at e51
      refine Or.inl ⟨by rw [wrap_u64]; exact e52.symm, ?_, ta, tb⟩
      rw [wrap_u64, e52, e51]
      unfold u64
      omega
    · rw [if_pos na] at e52 e51
      rw [if_neg nb] at e51
      refine Or.inr (Or.inl ⟨by rw [wrap_u64]; exact e52.symm, ?_, ta, tb⟩)
      rw [e52, e51, Int.sub_zero]
    · rw [if_neg na] at e52 e51
      rw [if_pos nb] at e51
      refine Or.inr (Or.inr (Or.inl ⟨?_, ?_, ta, tb⟩))
      · rw [e52, Int.sub_zero, u64_id hbd.1 hbd.2]
      · rw [wrap_u64, e51, Int.sub_zero]
    · rw [if_neg na] at e52 e51
      rw [if_neg nb] at e51
      refine Or.inr (Or.inr (Or.inr ⟨?_, ?_, ta, tb⟩))
      · rw [e52, Int.sub_zero, u64_id hbd.1 hbd.2]
      · rw [e51, Int.sub_zero, Int.sub_zero, u64_id hbd.1 hbd.2]
  have ca0 := p0.1
  have ca1 := p0.2
  have ca2 := p1.1
  have ca3 := p1.2
  have cb0 := q0.1
  have cb1 := q0.2
  have cb2 := q1.1
  have cb3 := q1.2
  obtain ⟨al, hal⟩ : ∃ x, a % 4294967296 = x := ⟨_, rfl⟩
  obtain ⟨ah, hah⟩ : ∃ x, a / 4294967296 = x := ⟨_, rfl⟩
  obtain ⟨bl, hbl⟩ : ∃ x, b % 4294967296 = x := ⟨_, rfl⟩
  obtain ⟨bh, hbh⟩ : ∃ x, b / 4294967296 = x := ⟨_, rfl⟩
  rw [hal] at ma wX wZ
  rw [hah] at wY wU
  rw [hbl] at mb wY wZ
  rw [hbh] at wX wU
  clear hh e53 hH h52 h51 h50 e52 e51 hsa hsb hX hY hZ hU x0 y0 z0 u0 p0 p1 q0 q1 hhi hL hxl hyl hal hbl ca0 ca1 ca2 ca3 cb0 cb1 cb2 cb3
  rcases fin with ⟨f1, f2, f3, f4⟩ | ⟨f1, rfl, f3, f4⟩ | ⟨rfl, f2, f3, f4⟩ | ⟨rfl, rfl, f3, f4⟩
  all_goals
    go_enter Tryd.func7, Tryd.ntmps7
    go_wp2_with fail
    refine HK.out.mono ?_
    rintro e W ⟨rfl, hb⟩
    have HB := hide hb
    clear hb HK
    go_wp2_with fail
    refine (H50.out _).mono ?_
    rintro e W1 ⟨rfl, hW⟩
    rw [hW]
    clear hW W1
    go_wp2_with fail
    refine (H53.out _).mono ?_
    rintro e W1 ⟨rfl, hW⟩
    rw [hW]
    clear hW W1
    go_wp2_with fail
    refine (H51.out _).mono ?_
    rintro e W1 ⟨rfl, hW⟩
    rw [hW]
    clear hW W1
    go_wp2_with fail
    refine (H52.out _).mono ?_
    rintro e W1 ⟨rfl, hW⟩
    rw [hW]
    clear hW W1
    go_wp2
    go_ret
    exact ⟨rfl, HB.out⟩

end Go.Proofs.YtejmifokceoofaaDoor
