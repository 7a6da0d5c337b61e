/- Walks of the statements on words and on every operation. -/
import Derived.Test.YtejmifokceoofaaDoorMachMulW
namespace Go.Proofs.YtejmifokceoofaaDoor
open Go.RowKit Go.Maps
set_option linter.unusedVariables false
set_option maxRecDepth 100000
set_option maxRecDepth 20000

theorem sx_sx (z : Int) : sx (sx z) = sx z := by
  unfold sx
  rw [show s32 (u64 (s32 z)) = s32 z by unfold s32 u64; omega]
theorem u32_same {a a' : Int} (h : a % 4294967296 = a' % 4294967296) : u32 a = u32 a' := h
theorem s32_same {a a' : Int} (h : a % 4294967296 = a' % 4294967296) : s32 a = s32 a' := by unfold s32; omega

theorem words_same {o : Nat} {a a' b b' : Int} (ho : o ∈ [41, 42, 43, 44, 45, 46, 47, 48, 49, 58, 59, 60, 61, 62]) (ha : a % 4294967296 = a' % 4294967296) (hb : b % 4294967296 = b' % 4294967296) : aluF o a b = aluF o a' b' := by
  have u1 := u32_same ha
  have u2 := u32_same hb
  have s1 := s32_same ha
  have s2 := s32_same hb
  have m : b % 32 = b' % 32 := by omega
  simp only [List.mem_cons, List.not_mem_nil, or_false] at ho
  rcases ho with rfl | rfl | rfl | rfl | rfl | rfl | rfl | rfl | rfl | rfl | rfl | rfl | rfl | rfl
  · simp only [aluF]; rw [← sx_add, ← sx_add a' b', u1, u2]
  · simp only [aluF]; rw [m, ← sx_mul1 a, ← sx_mul1 a', u1]
  · simp only [aluF]; rw [m, u1]
  · simp only [aluF]; rw [m, s1]
  · simp only [aluF]; rw [← sx_add, ← sx_add a' b', u1, u2]
  · simp only [aluF]; rw [← sx_sub, ← sx_sub a' b', u1, u2]
  · simp only [aluF]; rw [m, ← sx_mul1 a, ← sx_mul1 a', u1]
  · simp only [aluF]; rw [m, u1]
  · simp only [aluF]; rw [m, s1]
  · simp only [aluF]; rw [← sx_mul, ← sx_mul a' b', u1, u2]
  · simp only [aluF]; rw [u2, s1, s2]
  · simp only [aluF]; rw [u2, u1]
  · simp only [aluF]; rw [u2, s1, s2, ← sx_u32 a, ← sx_u32 a', u1]
  · simp only [aluF]; rw [u2, u1, ← sx_u32 a, ← sx_u32 a', u1]

theorem words_sign {o : Nat} (a b : Int) (ho : o ∈ [41, 42, 43, 44, 45, 46, 47, 48, 49, 58, 59, 60, 61, 62]) : sx (aluF o a b) = aluF o a b := by
  simp only [List.mem_cons, List.not_mem_nil, or_false] at ho
  have m1 : sx 18446744073709551615 = 18446744073709551615 := by decide
  rcases ho with rfl | rfl | rfl | rfl | rfl | rfl | rfl | rfl | rfl | rfl | rfl | rfl | rfl | rfl
  · simp only [aluF]; rw [sx_sx]
  · simp only [aluF]; rw [sx_sx]
  · simp only [aluF]; rw [sx_sx]
  · simp only [aluF]; rw [← sx_sra, sx_sx]
  · simp only [aluF]; rw [sx_sx]
  · simp only [aluF]; rw [sx_sx]
  · simp only [aluF]; rw [sx_sx]
  · simp only [aluF]; rw [sx_sx]
  · simp only [aluF]; rw [← sx_sra, sx_sx]
  · simp only [aluF]; rw [sx_sx]
  · simp only [aluF]; split
    · exact m1
    · rw [sx_sx]
  · simp only [aluF]; split
    · exact m1
    · rw [sx_sx]
  · simp only [aluF]; split <;> rw [sx_sx]
  · simp only [aluF]; split <;> rw [sx_sx]

theorem join_32 {a h : Int} (a0 : 0 ≤ a) (a1 : a ≤ 18446744073709551615) (h0 : 0 ≤ h) (h1 : h ≤ 18446744073709551615) :
    ∃ x, bits .or .u64 (bits .and .u64 a 4294967295) (IntKind.u64.wrap (h * 4294967296)) = x ∧ x % 4294967296 = a % 4294967296 ∧ 0 ≤ x ∧ x ≤ 18446744073709551615 := by
  have e1 := and32 a0 a1
  have e2 : IntKind.u64.wrap (h * 4294967296) = h % 4294967296 * 4294967296 := by rw [wrap_u64]; unfold u64; omega
  have q := bits_join_low .u64 64 (by decide) wraps_u64 32 (a % 4294967296) (h % 4294967296 * 4294967296) (by omega) (by omega) (by omega) (by omega) (by omega) (by omega)
  refine ⟨a % 4294967296 + h % 4294967296 * 4294967296, ?_, by omega, by omega, by omega⟩
  rw [e1, e2]
  exact q

set_option maxHeartbeats 12800000 in
theorem words_walk (k a b h : Int) (w : World) (hL : Laid w) (k0 : 0 ≤ k) (k1 : k ≤ 255) (a0 : 0 ≤ a) (a1 : a ≤ 18446744073709551615) (b0 : 0 ≤ b) (b1 : b ≤ 18446744073709551615) (h0 : 0 ≤ h) (h1 : h ≤ 18446744073709551615) :
    Calls Tryd.prog 5 #[.int .u8 k, .int .u64 a, .int .u64 b, .int .u64 h] w fun e w' => e = .returned (.bool true) ∧ Below w.heap.size w w' := by
  have HK := hide (known_8 w hL)
  obtain ⟨x, hx, hx2, hx0, hx1⟩ := join_32 a0 a1 h0 h1
  obtain ⟨y, hy, hy2, hy0, hy1⟩ := join_32 b0 b1 h0 h1
  have main : ∀ (o p : Nat), o ∈ [41, 42, 43, 44, 45, 46, 47, 48, 49, 58, 59, 60, 61, 62] → p < 14 → k % 14 = (p : Int) → [41, 42, 43, 44, 45, 46, 47, 48, 49, 58, 59, 60, 61, 62][p]? = some o →
      Calls Tryd.prog 5 #[.int .u8 k, .int .u64 a, .int .u64 b, .int .u64 h] w fun e w' => e = .returned (.bool true) ∧ Below w.heap.size w w' := by
    intro o p ho hp hkp htab
    have hr : 22 ≤ o ∧ o ≤ 62 := by simp at ho; omega
    have H1 := hide (fun W => alu_any o a b W hr.1 hr.2 a0 a1 b0 b1)
    have H2 := hide (fun W => alu_any o x y W hr.1 hr.2 hx0 hx1 hy0 hy1)
    rw [words_same ho hx2 hy2] at H2
    have hs := words_sign a b ho
    have hv : IntKind.u64.wrap (wrap64 (wrap32 (aluF o a b))) = aluF o a b := by rw [wrap_u64, wrap64_is, wrap32_is, sx_def, hs]
    have HT : Hid (∀ W : World, (W.alloc (.cells #[.int .i64 41, .int .i64 42, .int .i64 43, .int .i64 44, .int .i64 45, .int .i64 46, .int .i64 47, .int .i64 48, .int .i64 49, .int .i64 58, .int .i64 59, .int .i64 60, .int .i64 61, .int .i64 62] 3)).cell? ⟨W.heap.size, p, none⟩ = some (.int .i64 (o : Int))) := fun W => by
      rw [cell_new]
      have e : (#[.int .i64 41, .int .i64 42, .int .i64 43, .int .i64 44, .int .i64 45, .int .i64 46, .int .i64 47, .int .i64 48, .int .i64 49, .int .i64 58, .int .i64 59, .int .i64 60, .int .i64 61, .int .i64 62] : Array Value)[p]? = ([41, 42, 43, 44, 45, 46, 47, 48, 49, 58, 59, 60, 61, 62][p]?).map (fun n : Nat => Value.int .i64 (n : Int)) := by
        match p, hp with
        | 0, _ => rfl
        | 1, _ => rfl
        | 2, _ => rfl
        | 3, _ => rfl
        | 4, _ => rfl
        | 5, _ => rfl
        | 6, _ => rfl
        | 7, _ => rfl
        | 8, _ => rfl
        | 9, _ => rfl
        | 10, _ => rfl
        | 11, _ => rfl
        | 12, _ => rfl
        | 13, _ => rfl
      rw [e, htab]
      rfl
    generalize aluF o a b = v at *
    clear ho hs htab hx2 hy2 hr
    have hp' : (p : Int) < 14 := by omega
    go_enter Tryd.func5, Tryd.ntmps5
    go_wp2_with fail
    refine HK.out.mono ?_
    rintro e W ⟨rfl, hb⟩
    have HB := hide hb
    have ht := HT.out W
    clear hb HK HT
    go_wp2_with fail
    refine (H1.out _).mono ?_
    rintro e W1 ⟨rfl, hW⟩
    rw [hW]
    clear hW W1
    go_wp2_with fail
    refine (H2.out _).mono ?_
    rintro e W1 ⟨rfl, hW⟩
    rw [hW]
    clear hW W1
    go_wp2
    go_ret
    exact ⟨rfl, HB.out.trans ((below_alloc _ _).mono HB.out.size)⟩
  have hm : k % 14 = 0 ∨ k % 14 = 1 ∨ k % 14 = 2 ∨ k % 14 = 3 ∨ k % 14 = 4 ∨ k % 14 = 5 ∨ k % 14 = 6 ∨ k % 14 = 7 ∨ k % 14 = 8 ∨ k % 14 = 9 ∨ k % 14 = 10 ∨ k % 14 = 11 ∨ k % 14 = 12 ∨ k % 14 = 13 := by omega
  rcases hm with e | e | e | e | e | e | e | e | e | e | e | e | e | e
  · exact main 41 0 (by decide) (by decide) e rfl
  · exact main 42 1 (by decide) (by decide) e rfl
  · exact main 43 2 (by decide) (by decide) e rfl
  · exact main 44 3 (by decide) (by decide) e rfl
  · exact main 45 4 (by decide) (by decide) e rfl
  · exact main 46 5 (by decide) (by decide) e rfl
  · exact main 47 6 (by decide) (by decide) e rfl
  · exact main 48 7 (by decide) (by decide) e rfl
  · exact main 49 8 (by decide) (by decide) e rfl
  · exact main 58 9 (by decide) (by decide) e rfl
  · exact main 59 10 (by decide) (by decide) e rfl
  · exact main 60 11 (by decide) (by decide) e rfl
  · exact main 61 12 (by decide) (by decide) e rfl
  · exact main 62 13 (by decide) (by decide) e rfl

theorem hplace_any (k : Int) (n : Nat) (w : World) (hn : 1 ≤ n) (hn' : n ≤ 1000000) (k0 : -9223372036854775808 ≤ k) (k1 : k ≤ 9223372036854775807) :
    Calls Tryd.prog 10 #[.int .i64 k, .int .i64 (n : Int)] w fun e w' => ∃ p : Nat, p < n ∧ e = .returned (.int .i64 (p : Int)) ∧ w' = w := by
  obtain ⟨r, hr⟩ : ∃ r, k.tmod n = r := ⟨_, rfl⟩
  have hb : -(n : Int) < r ∧ r < n := by
    rw [← hr]
    exact ⟨Int.lt_tmod_of_pos k (by omega), Int.tmod_lt_of_pos k (by omega)⟩
  have hn0 : ((n : Int) == 0) = false := by simp; omega
  by_cases h : r < 0
  · have hw : IntKind.i64.wrap (r + n) = r + n := by rw [wrap_s64, s64_id (by omega) (by omega)]
    go_enter Tryd.func10, Tryd.ntmps10
    go_wp2
    go_ret
    exact ⟨(r + n).toNat, by omega, ret_int (by omega), rfl⟩
  · go_enter Tryd.func10, Tryd.ntmps10
    go_wp2
    go_ret
    exact ⟨r.toNat, by omega, ret_int (by omega), rfl⟩

theorem alu_walk (op a b : Int) (w : World) (hL : Laid w) (o0 : -9223372036854775808 ≤ op) (o1 : op ≤ 9223372036854775807) (a0 : 0 ≤ a) (a1 : a ≤ 18446744073709551615) (b0 : 0 ≤ b) (b1 : b ≤ 18446744073709551615) :
    Calls Tryd.prog 3 #[.int .i64 op, .int .u64 a, .int .u64 b] w fun e w' => e = .returned (.bool true) ∧ Below w.heap.size w w' := by
  have HK := hide (known_8 w hL)
  have H1 := hide (fun o (h0 : 22 ≤ o) (h1 : o ≤ 62) W => alu_any o a b W h0 h1 a0 a1 b0 b1)
  have H2 := hide (fun o (h0 : 22 ≤ o) (h1 : o ≤ 62) W => ralu_any o a b W h0 h1 a0 a1 b0 b1)
  clear hL
  by_cases hin : 22 ≤ op ∧ op ≤ 62
  · obtain ⟨o, rfl⟩ := Int.eq_ofNat_of_zero_le (show 0 ≤ op by omega)
    have G1 := hide (H1.out o (by omega) (by omega))
    have G2 := hide (H2.out o (by omega) (by omega))
    have t1 : decide ((o : Int) < 22) = false := by simp; omega
    have t2 : decide ((62 : Int) < (o : Int)) = false := by simp; omega
    generalize aluF o a b = v at *
    clear H1 H2 hin
    go_enter Tryd.func3, Tryd.ntmps3
    go_wp2_with fail
    refine HK.out.mono ?_
    rintro e W ⟨rfl, hb⟩
    have HB := hide hb
    clear hb HK
    go_wp2_with fail
    refine (G1.out _).mono ?_
    rintro e W1 ⟨rfl, hW⟩
    rw [hW]
    clear hW W1
    go_wp2_with fail
    refine (G2.out _).mono ?_
    rintro e W1 ⟨rfl, hW⟩
    rw [hW]
    clear hW W1
    go_wp2
    go_ret
    exact ⟨rfl, HB.out⟩
  · have HP := hide (fun W => hplace_any op 41 W (by decide) (by decide) o0 o1)
    have tt : (decide (op < 22) = true) ∨ (decide (op < 22) = false ∧ decide (62 < op) = true) := by
      by_cases h : op < 22
      · exact Or.inl (by simpa using h)
      · exact Or.inr ⟨by simpa using h, by simp; omega⟩
    clear hin
    rcases tt with t1 | ⟨t1, t2⟩
    all_goals
      go_enter Tryd.func3, Tryd.ntmps3
      go_wp2_with fail
      refine HK.out.mono ?_
      rintro e W ⟨rfl, hb⟩
      have HB := hide hb
      clear hb HK
      go_wp2_with fail
      refine (HP.out _).mono ?_
      rintro e W1 ⟨p, hp, rfl, hW⟩
      rw [hW]
      clear hW W1 HP
      obtain ⟨o, ho⟩ : ∃ o : Nat, o = 22 + p := ⟨_, rfl⟩
      have ho' : (22 : Int) + (p : Int) = (o : Int) := by omega
      have G1 := hide (H1.out o (by omega) (by omega))
      have G2 := hide (H2.out o (by omega) (by omega))
      have ho2 : o ≤ 62 := by omega
      generalize aluF o a b = v at *
      clear H1 H2 ho
      go_wp2_with fail
      refine (G1.out _).mono ?_
      rintro e W1 ⟨rfl, hW⟩
      rw [hW]
      clear hW W1
      go_wp2_with fail
      refine (G2.out _).mono ?_
      rintro e W1 ⟨rfl, hW⟩
      rw [hW]
      clear hW W1
      go_wp2
      go_ret
      exact ⟨rfl, HB.out⟩

end Go.Proofs.YtejmifokceoofaaDoor
