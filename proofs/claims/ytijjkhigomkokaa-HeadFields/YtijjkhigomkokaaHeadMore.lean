/- Plain facts: which heads, of numbers that are given, are heads. -/
import Derived.Test.YtijjkhigomkokaaHeadParse2
namespace Go.Proofs.Ytijjkhigomkokaa
open Go.RowKit
set_option linter.unusedVariables false
set_option linter.unusedSimpArgs false

section
variable (t m v e p o f s a b c n x : Nat) (R : List Int)

theorem hbg_app_len : (hbg t m v e p o f s a b c n x ++ R).length = 64 + R.length := by rw [List.length_append, hbg_len]

theorem got_at (k l : Nat) (y : Nat) (h : k + l ≤ 64) (hs : seg (hbg t m v e p o f s a b c n x ++ R) k l = bytesOf (y : Int) l) :
    got (hbg t m v e p o f s a b c n x ++ R) (k : Int) l = ((y % 256 ^ l : Nat) : Int) := by
  rw [got_seg _ k l (by rw [hbg_app_len]; omega), hs, num_bytesN]

theorem got_hbg : got (hbg t m v e p o f s a b c n x ++ R) 16 2 = ((t % 65536 : Nat) : Int) ∧ got (hbg t m v e p o f s a b c n x ++ R) 18 2 = ((m % 65536 : Nat) : Int) ∧
    got (hbg t m v e p o f s a b c n x ++ R) 20 4 = ((v % 4294967296 : Nat) : Int) ∧ got (hbg t m v e p o f s a b c n x ++ R) 24 8 = ((e % 18446744073709551616 : Nat) : Int) ∧
    got (hbg t m v e p o f s a b c n x ++ R) 32 8 = ((p % 18446744073709551616 : Nat) : Int) ∧ got (hbg t m v e p o f s a b c n x ++ R) 40 8 = ((o % 18446744073709551616 : Nat) : Int) ∧
    got (hbg t m v e p o f s a b c n x ++ R) 48 4 = ((f % 4294967296 : Nat) : Int) ∧ got (hbg t m v e p o f s a b c n x ++ R) 52 2 = ((s % 65536 : Nat) : Int) ∧
    got (hbg t m v e p o f s a b c n x ++ R) 54 2 = ((a % 65536 : Nat) : Int) ∧ got (hbg t m v e p o f s a b c n x ++ R) 56 2 = ((b % 65536 : Nat) : Int) ∧
    got (hbg t m v e p o f s a b c n x ++ R) 58 2 = ((c % 65536 : Nat) : Int) ∧ got (hbg t m v e p o f s a b c n x ++ R) 60 2 = ((n % 65536 : Nat) : Int) ∧
    got (hbg t m v e p o f s a b c n x ++ R) 62 2 = ((x % 65536 : Nat) : Int) :=
  ⟨got_at t m v e p o f s a b c n x R 16 2 t (by decide) rfl, got_at t m v e p o f s a b c n x R 18 2 m (by decide) rfl, got_at t m v e p o f s a b c n x R 20 4 v (by decide) rfl,
    got_at t m v e p o f s a b c n x R 24 8 e (by decide) rfl, got_at t m v e p o f s a b c n x R 32 8 p (by decide) rfl, got_at t m v e p o f s a b c n x R 40 8 o (by decide) rfl,
    got_at t m v e p o f s a b c n x R 48 4 f (by decide) rfl, got_at t m v e p o f s a b c n x R 52 2 s (by decide) rfl, got_at t m v e p o f s a b c n x R 54 2 a (by decide) rfl,
    got_at t m v e p o f s a b c n x R 56 2 b (by decide) rfl, got_at t m v e p o f s a b c n x R 58 2 c (by decide) rfl, got_at t m v e p o f s a b c n x R 60 2 n (by decide) rfl,
    got_at t m v e p o f s a b c n x R 62 2 x (by decide) rfl⟩

theorem hdOk_hbg : hdOk (hbg t m v e p o f s a b c n x ++ R) ↔ (64 + R.length ≤ 1048576 ∧ (t % 65536 = 1 ∧ m % 65536 = 243 ∧ v % 4294967296 = 1 ∧ e % 18446744073709551616 = 0 ∧ p % 18446744073709551616 = 0 ∧ f % 4294967296 ≤ 7 ∧ s % 65536 = 64 ∧ a % 65536 = 0 ∧ b % 65536 = 0 ∧ c % 65536 = 64) ∧
    (1 ≤ n % 65536 ∧ n % 65536 ≤ 400 ∧ x % 65536 < n % 65536 ∧ o % 18446744073709551616 % 8 = 0 ∧ o % 18446744073709551616 + n % 65536 * 64 ≤ 64 + R.length)) := by
  obtain ⟨h1, h2, h3, h4, h5, h6, h7, h8, h9, h10, h11, h12, h13⟩ := got_hbg t m v e p o f s a b c n x R
  have ht : (hbg t m v e p o f s a b c n x ++ R).take 16 = identL := rfl
  unfold hdOk hdNums hdFits
  rw [h1, h2, h3, h4, h5, h6, h7, h8, h9, h10, h11, h12, h13, hbg_app_len, ht]
  constructor
  · rintro ⟨_, k2, _, k3, k4⟩
    refine ⟨k2, ?_, ?_⟩
    · omega
    · omega
  · rintro ⟨k2, k3, k4⟩
    refine ⟨by omega, k2, rfl, ?_, ?_⟩
    · omega
    · omega

end

end Go.Proofs.Ytijjkhigomkokaa
