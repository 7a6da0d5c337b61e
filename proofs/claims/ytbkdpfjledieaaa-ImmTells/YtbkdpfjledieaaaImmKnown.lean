/- The statements' example, known, is true. -/
import Derived.Test.YtbkdpfjledieaaaImmPut
namespace Go.Proofs.Ytbkdpfjledieaaa
open Go.RowKit
set_option linter.unusedVariables false

theorem tmod_two (x : Int) : (x.tmod 2 == 0) = decide (x % 2 = 0) := by
  have h1 := Int.dvd_iff_tmod_eq_zero (a := 2) (b := x)
  have h2 := Int.dvd_iff_emod_eq_zero (a := 2) (b := x)
  rw [Bool.eq_iff_iff]
  simp only [beq_iff_eq, decide_eq_true_eq]
  exact h1.symm.trans h2

theorem known_any (w : World) : Calls Try.prog 8 #[] w fun e w' => e = .returned (.bool true) ∧ w' = w := by
  have h1 := put_any 1 19 (-1) w (by decide) (by decide) (by decide) (by decide)
  have h2 := put_any 3 99 3 w (by decide) (by decide) (by decide) (by decide)
  have h3 := get_any 1 4293918739 w (by decide) (by decide)
  have h4 := hi_any 4095 w (by decide) (by decide)
  have h5 := lo_any 4095 w (by decide) (by decide)
  have h6 := sign_any 255 8 w (by decide) (by decide) (by decide) (by decide)
  rw [show putOf 1 19 (-1) = 4293918739 by decide, show fitsOf 1 (-1) = true by decide] at h1
  rw [show putOf 3 99 3 = 0 by decide, show fitsOf 3 3 = false by decide] at h2
  rw [show getOf 1 4293918739 = -1 by decide] at h3
  rw [show hiOf 4095 = 1 by simp [hiOf, wrap64]] at h4
  rw [show loOf 4095 = -1 by decide] at h5
  rw [show signOf 255 8 = -1 by decide] at h6
  have H1 := hide h1
  have H2 := hide h2
  have H3 := hide h3
  have H4 := hide h4
  have H5 := hide h5
  have H6 := hide h6
  clear h1 h2 h3 h4 h5 h6
  go_enter Try.func8, Try.ntmps8
  go_wp2_with fail
  refine H1.out.mono ?_
  rintro e W ⟨rfl, hW⟩
  rw [hW]
  clear hW W
  go_wp2_with fail
  refine H2.out.mono ?_
  rintro e W ⟨rfl, hW⟩
  rw [hW]
  clear hW W
  go_wp2_with fail
  refine H3.out.mono ?_
  rintro e W ⟨rfl, hW⟩
  rw [hW]
  clear hW W
  go_wp2_with fail
  refine H4.out.mono ?_
  rintro e W ⟨rfl, hW⟩
  rw [hW]
  clear hW W
  go_wp2_with fail
  refine H5.out.mono ?_
  rintro e W ⟨rfl, hW⟩
  rw [hW]
  clear hW W
  go_wp2_with fail
  refine H6.out.mono ?_
  rintro e W ⟨rfl, hW⟩
  rw [hW]
  clear hW W
  go_wp2
  go_ret
  exact ⟨rfl, rfl⟩

end Go.Proofs.Ytbkdpfjledieaaa
