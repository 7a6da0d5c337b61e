/- The document's Dec, x, Text: an instruction's text. -/
import Derived.Test.YtcghekkhbiomgaaGreatDoorAsmTxt
import Derived.Test.YtcghekkhbiomgaaGreatDoorInstRefCode
import Derived.Deep.QuietTactic
import Derived.BigQuiet
namespace Go.Proofs.YtcghekkhbiomgaaGreatDoor
open Go.RowKit
set_option linter.unusedVariables false
set_option maxRecDepth 100000

theorem str_app (a b : List UInt8) : str a ++ str b = str (a ++ b) := by
  apply ByteArray.ext
  simp [str]
theorem itoa_one {u : Nat} (h : u < 10) : Lib.itoa (u : Int) = [UInt8.ofNat (48 + u)] := by
  rw [Lib.itoa_nonneg, Lib.decDigits, dif_pos h]
theorem itoa_two {u : Nat} (h : ¬ u < 10) : Lib.itoa (u : Int) = Lib.itoa ((u / 10 : Nat) : Int) ++ Lib.itoa ((u % 10 : Nat) : Int) := by
  rw [itoa_one (Nat.mod_lt _ (by decide)), Lib.itoa_nonneg, Lib.itoa_nonneg]
  conv => lhs; rw [Lib.decDigits, dif_neg h]
theorem itoa_minus {u : Nat} (h : 1 ≤ u) : Lib.itoa (-(u : Int)) = 45 :: Lib.itoa (u : Int) := by rw [Lib.itoa_neg u h, Lib.itoa_nonneg]
theorem itoa_mtwo {u : Nat} (h : ¬ u < 10) : Lib.itoa (-(u : Int)) = Lib.itoa (-((u / 10 : Nat) : Int)) ++ Lib.itoa ((u % 10 : Nat) : Int) := by
  rw [itoa_minus (by omega), itoa_minus (by omega), itoa_two h]
  rfl

theorem itoa_sz {n : Int} (h0 : -9223372036854775808 ≤ n) (h1 : n ≤ 9223372036854775807) : (str (Lib.itoa n)).size ≤ 21 := by rw [str_size]; exact Lib.itoa_length_le n h0 h1

theorem dec_low (u : Nat) (w : World) (h : u < 10) :
    Calls Tryz.prog 23 #[.int .i64 u] w fun e w' => e = .returned (.string (str (Lib.itoa u))) ∧ w' = w := by
  rw [itoa_one h]
  rcases (show u = 0 ∨ u = 1 ∨ u = 2 ∨ u = 3 ∨ u = 4 ∨ u = 5 ∨ u = 6 ∨ u = 7 ∨ u = 8 ∨ u = 9 by omega) with rfl | rfl | rfl | rfl | rfl | rfl | rfl | rfl | rfl | rfl
  all_goals
    go_enter Tryz.func23, Tryz.ntmps23
    go_wp2
    go_ret
    exact ⟨rfl, rfl⟩

theorem dec_pos (u : Nat) (w : World) (h : u ≤ 9223372036854775807) :
    Calls Tryz.prog 23 #[.int .i64 u] w fun e w' => e = .returned (.string (str (Lib.itoa u))) ∧ w' = w := by
  induction u using Nat.strongRecOn with
  | _ u ih =>
    by_cases h10 : u < 10
    · exact dec_low u w h10
    · obtain ⟨q, hq⟩ : ∃ q, q = u / 10 := ⟨_, rfl⟩
      obtain ⟨r, hr⟩ : ∃ r, r = u % 10 := ⟨_, rfl⟩
      have H1 := hide (ih q (by omega) (by omega))
      have H2 := hide (dec_low r w (by omega))
      rw [itoa_two h10, ← hq, ← hr]
      have e1 : ((u : Int) / 10) = (q : Int) := by omega
      have e2 : ((u : Int) % 10) = (r : Int) := by omega
      have h0 : (10 : Int) ≤ u := by omega
      have h1 : (u : Int) ≤ 9223372036854775807 := by omega
      have l1 := itoa_sz (n := (q : Int)) (by omega) (by omega)
      have l2 := itoa_sz (n := (r : Int)) (by omega) (by omega)
      generalize Lib.itoa (q : Int) = a at *
      generalize Lib.itoa (r : Int) = b at *
      rw [← str_app a b]
      generalize str a = sa at *
      generalize str b = sb at *
      clear ih hq hr
      go_enter Tryz.func23, Tryz.ntmps23
      go_wp2_with fail
      refine H1.out.mono ?_
      rintro e W ⟨rfl, hW⟩
      rw [hW]
      clear hW W H1
      go_wp2_with fail
      refine H2.out.mono ?_
      rintro e W ⟨rfl, hW⟩
      rw [hW]
      clear hW W H2
      go_wp2
      go_ret
      exact ⟨rfl, rfl⟩

theorem dec_neg (u : Nat) (w : World) (h1 : 1 ≤ u) (h : u ≤ 9223372036854775808) :
    Calls Tryz.prog 23 #[.int .i64 (-(u : Int))] w fun e w' => e = .returned (.string (str (Lib.itoa (-(u : Int))))) ∧ w' = w := by
  induction u using Nat.strongRecOn with
  | _ u ih =>
    by_cases h10 : u < 10
    · have H2 := hide (dec_low u w h10)
      rw [itoa_minus h1, show (45 :: Lib.itoa (u : Int)) = [45] ++ Lib.itoa (u : Int) from rfl, ← str_app]
      have l2 := itoa_sz (n := (u : Int)) (by omega) (by omega)
      generalize str (Lib.itoa (u : Int)) = sb at *
      obtain ⟨n, hn⟩ : ∃ n : Int, n = -(u : Int) := ⟨_, rfl⟩
      rw [← hn]
      have e1 : -n = (u : Int) := by omega
      have b0 : n < 0 := by omega
      have b1 : -9 ≤ n := by omega
      clear ih hn h1 h h10
      go_enter Tryz.func23, Tryz.ntmps23
      go_wp2_with fail
      refine H2.out.mono ?_
      rintro e W ⟨rfl, hW⟩
      rw [hW]
      clear hW W H2
      go_wp2
      go_ret
      exact ⟨rfl, rfl⟩
    · obtain ⟨q, hq⟩ : ∃ q, q = u / 10 := ⟨_, rfl⟩
      obtain ⟨r, hr⟩ : ∃ r, r = u % 10 := ⟨_, rfl⟩
      have H1 := hide (ih q (by omega) (by omega) (by omega))
      have H2 := hide (dec_low r w (by omega))
      rw [itoa_mtwo h10, ← hq, ← hr]
      obtain ⟨n, hn⟩ : ∃ n : Int, n = -(u : Int) := ⟨_, rfl⟩
      obtain ⟨nq, hnq⟩ : ∃ nq : Int, nq = -(q : Int) := ⟨_, rfl⟩
      rw [← hnq] at H1
      rw [← hn, ← hnq]
      have e1 : n.tdiv 10 = nq := by
        rw [hn, hnq, hq, Int.neg_tdiv, Int.tdiv_eq_ediv_of_nonneg (by omega)]; omega
      have e2 : n.tmod 10 = -(r : Int) := by
        rw [hn, hr, Int.neg_tmod, Int.tmod_eq_emod_of_nonneg (by omega)]; omega
      have e3 : -(n.tmod 10) = (r : Int) := by rw [e2]; omega
      have b0 : n < -9 := by omega
      have b1 : -9223372036854775808 ≤ n := by omega
      have b2 : (r : Int) ≤ 9 := by omega
      have b3 : -9223372036854775808 ≤ nq := by omega
      have b4 : nq ≤ 9223372036854775807 := by omega
      have l1 := itoa_sz (n := nq) (by omega) (by omega)
      have l2 := itoa_sz (n := (r : Int)) (by omega) (by omega)
      generalize Lib.itoa nq = a at *
      generalize Lib.itoa (r : Int) = b at *
      rw [← str_app a b]
      generalize str a = sa at *
      generalize str b = sb at *
      clear ih hq hr hn hnq e2
      go_enter Tryz.func23, Tryz.ntmps23
      go_wp2_with fail
      refine H1.out.mono ?_
      rintro e W ⟨rfl, hW⟩
      rw [hW]
      clear hW W H1
      go_wp2_with fail
      refine H2.out.mono ?_
      rintro e W ⟨rfl, hW⟩
      rw [hW]
      clear hW W H2
      go_wp2
      go_ret
      exact ⟨rfl, rfl⟩

theorem dec_any (n : Int) (w : World) (h0 : -9223372036854775808 ≤ n) (h1 : n ≤ 9223372036854775807) :
    Calls Tryz.prog 23 #[.int .i64 n] w fun e w' => e = .returned (.string (str (Lib.itoa n))) ∧ w' = w := by
  by_cases h : 0 ≤ n
  · obtain ⟨u, rfl⟩ := Int.eq_ofNat_of_zero_le h
    exact dec_pos u w (by omega)
  · obtain ⟨u, hu⟩ : ∃ u : Nat, n = -(u : Int) := ⟨n.natAbs, by omega⟩
    subst hu
    exact dec_neg u w (by omega) (by omega)

theorem x_any (n : Int) (w : World) (h0 : -9223372036854775808 ≤ n) (h1 : n ≤ 9223372036854775807) :
    Calls Tryz.prog 22 #[.int .i64 n] w fun e w' => e = .returned (.string (str (120 :: Lib.itoa n))) ∧ w' = w := by
  have H := hide (dec_any n w h0 h1)
  rw [show (120 :: Lib.itoa n) = [120] ++ Lib.itoa n from rfl, ← str_app]
  have l2 := itoa_sz h0 h1
  generalize str (Lib.itoa n) = sb at *
  go_enter Tryz.func22, Tryz.ntmps22
  go_wp2_with fail
  refine H.out.mono ?_
  rintro e W ⟨rfl, hW⟩
  rw [hW]
  clear hW W H
  go_wp2
  go_ret
  exact ⟨rfl, rfl⟩

end Go.Proofs.YtcghekkhbiomgaaGreatDoor
