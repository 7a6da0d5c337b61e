/- The statement ImmRanges holds: for any kind of form, any small number and either end the law returns true. No condition. -/
import Derived.Test.YtbkdpfjledieaaaRows
import Derived.WalkKit
import Derived.ProofKit
import Derived.OpenShut
import Derived.ShutString
import Derived.ChangeOld
import Derived.Below
import Derived.Test.YtbkdpfjledieaaaImmKnown
namespace Go.Proofs.Ytbkdpfjledieaaa.immRanges
open Go.ChangeShapes Go.WideShapes Go.ChangeAt Go.RowKit
open Go.ChangeMaps (open_string shut_string)
set_option linter.unusedVariables false

theorem own : ownKnob Try.prog.godebug = none := by kernel_rfl
theorem laidOut : laidOutB Try.prog = true := by kernel_rfl

/-! ### STEP 1: THE WALK: the Go text returns true, AND WRITES NOTHING THAT WAS THERE: 'Below w.heap.size w w'' (Derived/Below.lean: '.refl', '.alloc', '.drew', '.setCell' at a new block, '.trans'). Open each 'IsRow' by 'rcases' AHEAD of 'go_enter'; part every test ahead of the walk. -/
set_option maxHeartbeats 1600000 in
theorem walk (a0 : Int) (a1 : Int) (a2 : Bool) (w : World) (w0 : (Lit.int .u8 a0).wf = true) (w1 : (Lit.int .i8 a1).wf = true) :
    Calls Try.prog 6 #[.int .u8 a0, .int .i8 a1, .bool a2] w fun e w' => e = .returned (.bool true) ∧ Below w.heap.size w w' := by
  obtain ⟨p0, p1⟩ := bounds_u8 w0
  obtain ⟨q0, q1⟩ := bounds_i8 w1
  clear w0 w1
  have five : a0 % 5 = 0 ∨ a0 % 5 = 1 ∨ a0 % 5 = 2 ∨ a0 % 5 = 3 ∨ a0 % 5 = 4 := by omega
  rcases five with hj | hj | hj | hj | hj
  · cases a2
    · by_cases hin : 0 ≤ a1
      · have hr : -2048 ≤ ((-2048) + a1) ∧ ((-2048) + a1) ≤ 2047 := by omega
        have hz : (((-2048) + a1) == 0) = false := by simp; omega
        have cf := fun W : World => fits_any 1 ((-2048) + a1) W (by omega) (by omega)
        have cp := fun W : World => put_any 1 0 ((-2048) + a1) W (by decide) (by decide) (by omega) (by omega)
        have cr := fun W : World => fits_any 0 ((-2048) + a1) W (by omega) (by omega)
        have pb := put_bd 1 0 ((-2048) + a1) (by decide) (by decide)
        have E1 : fitsOf 1 ((-2048) + a1) = true := by simp [fitsOf]; omega
        have E2 : fitsOf 0 ((-2048) + a1) = false := by simp [fitsOf]; omega
        rw [E1] at cf cp
        rw [E2] at cr
        generalize putOf 1 0 ((-2048) + a1) = x at *
        have CF := hide cf
        have CP := hide cp
        have CR := hide cr
        clear cf cp cr E1 E2
        go_enter Try.func6, Try.ntmps6
        go_wp2_with fail
        refine (known_any _).mono ?_
        rintro e W ⟨rfl, hW⟩
        rw [hW]
        clear hW W
        go_wp2_with fail
        refine (CP.out _).mono ?_
        rintro e W ⟨rfl, hW⟩
        rw [hW]
        clear hW W
        go_wp2_with fail
        refine (CF.out _).mono ?_
        rintro e W ⟨rfl, hW⟩
        rw [hW]
        clear hW W
        go_wp2_with fail
        refine (CR.out _).mono ?_
        rintro e W ⟨rfl, hW⟩
        rw [hW]
        clear hW W
        go_wp2
        go_ret
        exact ⟨rfl, ((Below.refl _ _).alloc (Nat.le_refl _) _).alloc (by simp) _⟩
      · have hr : ((-2048) + a1) < -2048 := by omega
        have hz : (((-2048) + a1) == 0) = false := by simp; omega
        have cf := fun W : World => fits_any 1 ((-2048) + a1) W (by omega) (by omega)
        have cp := fun W : World => put_any 1 0 ((-2048) + a1) W (by decide) (by decide) (by omega) (by omega)
        have cr := fun W : World => fits_any 0 ((-2048) + a1) W (by omega) (by omega)
        have pb := put_bd 1 0 ((-2048) + a1) (by decide) (by decide)
        have E1 : fitsOf 1 ((-2048) + a1) = false := by simp [fitsOf]; omega
        have E2 : fitsOf 0 ((-2048) + a1) = false := by simp [fitsOf]; omega
        rw [E1] at cf cp
        rw [E2] at cr
        generalize putOf 1 0 ((-2048) + a1) = x at *
        have CF := hide cf
        have CP := hide cp
        have CR := hide cr
        clear cf cp cr E1 E2
        go_enter Try.func6, Try.ntmps6
        go_wp2_with fail
        refine (known_any _).mono ?_
        rintro e W ⟨rfl, hW⟩
        rw [hW]
        clear hW W
        go_wp2_with fail
        refine (CP.out _).mono ?_
        rintro e W ⟨rfl, hW⟩
        rw [hW]
        clear hW W
        go_wp2_with fail
        refine (CF.out _).mono ?_
        rintro e W ⟨rfl, hW⟩
        rw [hW]
        clear hW W
        go_wp2_with fail
        refine (CR.out _).mono ?_
        rintro e W ⟨rfl, hW⟩
        rw [hW]
        clear hW W
        go_wp2
        go_ret
        exact ⟨rfl, ((Below.refl _ _).alloc (Nat.le_refl _) _).alloc (by simp) _⟩
    · by_cases hin : a1 ≤ 0
      · have hr : -2048 ≤ (2047 + a1) ∧ (2047 + a1) ≤ 2047 := by omega
        have hz : ((2047 + a1) == 0) = false := by simp; omega
        have cf := fun W : World => fits_any 1 (2047 + a1) W (by omega) (by omega)
        have cp := fun W : World => put_any 1 0 (2047 + a1) W (by decide) (by decide) (by omega) (by omega)
        have cr := fun W : World => fits_any 0 (2047 + a1) W (by omega) (by omega)
        have pb := put_bd 1 0 (2047 + a1) (by decide) (by decide)
        have E1 : fitsOf 1 (2047 + a1) = true := by simp [fitsOf]; omega
        have E2 : fitsOf 0 (2047 + a1) = false := by simp [fitsOf]; omega
        rw [E1] at cf cp
        rw [E2] at cr
        generalize putOf 1 0 (2047 + a1) = x at *
        have CF := hide cf
        have CP := hide cp
        have CR := hide cr
        clear cf cp cr E1 E2
        go_enter Try.func6, Try.ntmps6
        go_wp2_with fail
        refine (known_any _).mono ?_
        rintro e W ⟨rfl, hW⟩
        rw [hW]
        clear hW W
        go_wp2_with fail
        refine (CP.out _).mono ?_
        rintro e W ⟨rfl, hW⟩
        rw [hW]
        clear hW W
        go_wp2_with fail
        refine (CF.out _).mono ?_
        rintro e W ⟨rfl, hW⟩
        rw [hW]
        clear hW W
        go_wp2_with fail
        refine (CR.out _).mono ?_
        rintro e W ⟨rfl, hW⟩
        rw [hW]
        clear hW W
        go_wp2
        go_ret
        exact ⟨rfl, ((Below.refl _ _).alloc (Nat.le_refl _) _).alloc (by simp) _⟩
      · have hr : 2047 < (2047 + a1) := by omega
        have hz : ((2047 + a1) == 0) = false := by simp; omega
        have cf := fun W : World => fits_any 1 (2047 + a1) W (by omega) (by omega)
        have cp := fun W : World => put_any 1 0 (2047 + a1) W (by decide) (by decide) (by omega) (by omega)
        have cr := fun W : World => fits_any 0 (2047 + a1) W (by omega) (by omega)
        have pb := put_bd 1 0 (2047 + a1) (by decide) (by decide)
        have E1 : fitsOf 1 (2047 + a1) = false := by simp [fitsOf]; omega
        have E2 : fitsOf 0 (2047 + a1) = false := by simp [fitsOf]; omega
        rw [E1] at cf cp
        rw [E2] at cr
        generalize putOf 1 0 (2047 + a1) = x at *
        have CF := hide cf
        have CP := hide cp
        have CR := hide cr
        clear cf cp cr E1 E2
        go_enter Try.func6, Try.ntmps6
        go_wp2_with fail
        refine (known_any _).mono ?_
        rintro e W ⟨rfl, hW⟩
        rw [hW]
        clear hW W
        go_wp2_with fail
        refine (CP.out _).mono ?_
        rintro e W ⟨rfl, hW⟩
        rw [hW]
        clear hW W
        go_wp2_with fail
        refine (CF.out _).mono ?_
        rintro e W ⟨rfl, hW⟩
        rw [hW]
        clear hW W
        go_wp2_with fail
        refine (CR.out _).mono ?_
        rintro e W ⟨rfl, hW⟩
        rw [hW]
        clear hW W
        go_wp2
        go_ret
        exact ⟨rfl, ((Below.refl _ _).alloc (Nat.le_refl _) _).alloc (by simp) _⟩
  · cases a2
    · by_cases hin : 0 ≤ a1
      · have hr : -2048 ≤ ((-2048) + a1) ∧ ((-2048) + a1) ≤ 2047 := by omega
        have hz : (((-2048) + a1) == 0) = false := by simp; omega
        have cf := fun W : World => fits_any 2 ((-2048) + a1) W (by omega) (by omega)
        have cp := fun W : World => put_any 2 0 ((-2048) + a1) W (by decide) (by decide) (by omega) (by omega)
        have cr := fun W : World => fits_any 0 ((-2048) + a1) W (by omega) (by omega)
        have pb := put_bd 2 0 ((-2048) + a1) (by decide) (by decide)
        have E1 : fitsOf 2 ((-2048) + a1) = true := by simp [fitsOf]; omega
        have E2 : fitsOf 0 ((-2048) + a1) = false := by simp [fitsOf]; omega
        rw [E1] at cf cp
        rw [E2] at cr
        generalize putOf 2 0 ((-2048) + a1) = x at *
        have CF := hide cf
        have CP := hide cp
        have CR := hide cr
        clear cf cp cr E1 E2
        go_enter Try.func6, Try.ntmps6
        go_wp2_with fail
        refine (known_any _).mono ?_
        rintro e W ⟨rfl, hW⟩
        rw [hW]
        clear hW W
        go_wp2_with fail
        refine (CP.out _).mono ?_
        rintro e W ⟨rfl, hW⟩
        rw [hW]
        clear hW W
        go_wp2_with fail
        refine (CF.out _).mono ?_
        rintro e W ⟨rfl, hW⟩
        rw [hW]
        clear hW W
        go_wp2_with fail
        refine (CR.out _).mono ?_
        rintro e W ⟨rfl, hW⟩
        rw [hW]
        clear hW W
        go_wp2
        go_ret
        exact ⟨rfl, ((Below.refl _ _).alloc (Nat.le_refl _) _).alloc (by simp) _⟩
      · have hr : ((-2048) + a1) < -2048 := by omega
        have hz : (((-2048) + a1) == 0) = false := by simp; omega
        have cf := fun W : World => fits_any 2 ((-2048) + a1) W (by omega) (by omega)
        have cp := fun W : World => put_any 2 0 ((-2048) + a1) W (by decide) (by decide) (by omega) (by omega)
        have cr := fun W : World => fits_any 0 ((-2048) + a1) W (by omega) (by omega)
        have pb := put_bd 2 0 ((-2048) + a1) (by decide) (by decide)
        have E1 : fitsOf 2 ((-2048) + a1) = false := by simp [fitsOf]; omega
        have E2 : fitsOf 0 ((-2048) + a1) = false := by simp [fitsOf]; omega
        rw [E1] at cf cp
        rw [E2] at cr
        generalize putOf 2 0 ((-2048) + a1) = x at *
        have CF := hide cf
        have CP := hide cp
        have CR := hide cr
        clear cf cp cr E1 E2
        go_enter Try.func6, Try.ntmps6
        go_wp2_with fail
        refine (known_any _).mono ?_
        rintro e W ⟨rfl, hW⟩
        rw [hW]
        clear hW W
        go_wp2_with fail
        refine (CP.out _).mono ?_
        rintro e W ⟨rfl, hW⟩
        rw [hW]
        clear hW W
        go_wp2_with fail
        refine (CF.out _).mono ?_
        rintro e W ⟨rfl, hW⟩
        rw [hW]
        clear hW W
        go_wp2_with fail
        refine (CR.out _).mono ?_
        rintro e W ⟨rfl, hW⟩
        rw [hW]
        clear hW W
        go_wp2
        go_ret
        exact ⟨rfl, ((Below.refl _ _).alloc (Nat.le_refl _) _).alloc (by simp) _⟩
    · by_cases hin : a1 ≤ 0
      · have hr : -2048 ≤ (2047 + a1) ∧ (2047 + a1) ≤ 2047 := by omega
        have hz : ((2047 + a1) == 0) = false := by simp; omega
        have cf := fun W : World => fits_any 2 (2047 + a1) W (by omega) (by omega)
        have cp := fun W : World => put_any 2 0 (2047 + a1) W (by decide) (by decide) (by omega) (by omega)
        have cr := fun W : World => fits_any 0 (2047 + a1) W (by omega) (by omega)
        have pb := put_bd 2 0 (2047 + a1) (by decide) (by decide)
        have E1 : fitsOf 2 (2047 + a1) = true := by simp [fitsOf]; omega
        have E2 : fitsOf 0 (2047 + a1) = false := by simp [fitsOf]; omega
        rw [E1] at cf cp
        rw [E2] at cr
        generalize putOf 2 0 (2047 + a1) = x at *
        have CF := hide cf
        have CP := hide cp
        have CR := hide cr
        clear cf cp cr E1 E2
        go_enter Try.func6, Try.ntmps6
        go_wp2_with fail
        refine (known_any _).mono ?_
        rintro e W ⟨rfl, hW⟩
        rw [hW]
        clear hW W
        go_wp2_with fail
        refine (CP.out _).mono ?_
        rintro e W ⟨rfl, hW⟩
        rw [hW]
        clear hW W
        go_wp2_with fail
        refine (CF.out _).mono ?_
        rintro e W ⟨rfl, hW⟩
        rw [hW]
        clear hW W
        go_wp2_with fail
        refine (CR.out _).mono ?_
        rintro e W ⟨rfl, hW⟩
        rw [hW]
        clear hW W
        go_wp2
        go_ret
        exact ⟨rfl, ((Below.refl _ _).alloc (Nat.le_refl _) _).alloc (by simp) _⟩
      · have hr : 2047 < (2047 + a1) := by omega
        have hz : ((2047 + a1) == 0) = false := by simp; omega
        have cf := fun W : World => fits_any 2 (2047 + a1) W (by omega) (by omega)
        have cp := fun W : World => put_any 2 0 (2047 + a1) W (by decide) (by decide) (by omega) (by omega)
        have cr := fun W : World => fits_any 0 (2047 + a1) W (by omega) (by omega)
        have pb := put_bd 2 0 (2047 + a1) (by decide) (by decide)
        have E1 : fitsOf 2 (2047 + a1) = false := by simp [fitsOf]; omega
        have E2 : fitsOf 0 (2047 + a1) = false := by simp [fitsOf]; omega
        rw [E1] at cf cp
        rw [E2] at cr
        generalize putOf 2 0 (2047 + a1) = x at *
        have CF := hide cf
        have CP := hide cp
        have CR := hide cr
        clear cf cp cr E1 E2
        go_enter Try.func6, Try.ntmps6
        go_wp2_with fail
        refine (known_any _).mono ?_
        rintro e W ⟨rfl, hW⟩
        rw [hW]
        clear hW W
        go_wp2_with fail
        refine (CP.out _).mono ?_
        rintro e W ⟨rfl, hW⟩
        rw [hW]
        clear hW W
        go_wp2_with fail
        refine (CF.out _).mono ?_
        rintro e W ⟨rfl, hW⟩
        rw [hW]
        clear hW W
        go_wp2_with fail
        refine (CR.out _).mono ?_
        rintro e W ⟨rfl, hW⟩
        rw [hW]
        clear hW W
        go_wp2
        go_ret
        exact ⟨rfl, ((Below.refl _ _).alloc (Nat.le_refl _) _).alloc (by simp) _⟩
  · cases a2
    · by_cases hin : 0 ≤ a1
      · by_cases he : ((-4096) + a1) % 2 = 0
        · have ht : (((-4096) + a1).tmod 2 == 0) = true := by rw [tmod_two]; simp; omega
          have hr : -4096 ≤ ((-4096) + a1) ∧ ((-4096) + a1) ≤ 4095 := by omega
          have hz : (((-4096) + a1) == 0) = false := by simp; omega
          have cf := fun W : World => fits_any 3 ((-4096) + a1) W (by omega) (by omega)
          have cp := fun W : World => put_any 3 0 ((-4096) + a1) W (by decide) (by decide) (by omega) (by omega)
          have cr := fun W : World => fits_any 0 ((-4096) + a1) W (by omega) (by omega)
          have pb := put_bd 3 0 ((-4096) + a1) (by decide) (by decide)
          have E1 : fitsOf 3 ((-4096) + a1) = true := by simp [fitsOf]; omega
          have E2 : fitsOf 0 ((-4096) + a1) = false := by simp [fitsOf]; omega
          rw [E1] at cf cp
          rw [E2] at cr
          generalize putOf 3 0 ((-4096) + a1) = x at *
          have CF := hide cf
          have CP := hide cp
          have CR := hide cr
          clear cf cp cr E1 E2
          clear he
          go_enter Try.func6, Try.ntmps6
          go_wp2_with fail
          refine (known_any _).mono ?_
          rintro e W ⟨rfl, hW⟩
          rw [hW]
          clear hW W
          go_wp2_with fail
          refine (CP.out _).mono ?_
          rintro e W ⟨rfl, hW⟩
          rw [hW]
          clear hW W
          go_wp2_with fail
          refine (CF.out _).mono ?_
          rintro e W ⟨rfl, hW⟩
          rw [hW]
          clear hW W
          go_wp2_with fail
          refine (CR.out _).mono ?_
          rintro e W ⟨rfl, hW⟩
          rw [hW]
          clear hW W
          go_wp2
          go_ret
          exact ⟨rfl, ((Below.refl _ _).alloc (Nat.le_refl _) _).alloc (by simp) _⟩
        · have ht : (((-4096) + a1).tmod 2 == 0) = false := by rw [tmod_two]; simp; omega
          have hr : -4096 ≤ ((-4096) + a1) ∧ ((-4096) + a1) ≤ 4095 := by omega
          have hz : (((-4096) + a1) == 0) = false := by simp; omega
          have cf := fun W : World => fits_any 3 ((-4096) + a1) W (by omega) (by omega)
          have cp := fun W : World => put_any 3 0 ((-4096) + a1) W (by decide) (by decide) (by omega) (by omega)
          have cr := fun W : World => fits_any 0 ((-4096) + a1) W (by omega) (by omega)
          have pb := put_bd 3 0 ((-4096) + a1) (by decide) (by decide)
          have E1 : fitsOf 3 ((-4096) + a1) = false := by simp [fitsOf]; omega
          have E2 : fitsOf 0 ((-4096) + a1) = false := by simp [fitsOf]; omega
          rw [E1] at cf cp
          rw [E2] at cr
          generalize putOf 3 0 ((-4096) + a1) = x at *
          have CF := hide cf
          have CP := hide cp
          have CR := hide cr
          clear cf cp cr E1 E2
          clear he
          go_enter Try.func6, Try.ntmps6
          go_wp2_with fail
          refine (known_any _).mono ?_
          rintro e W ⟨rfl, hW⟩
          rw [hW]
          clear hW W
          go_wp2_with fail
          refine (CP.out _).mono ?_
          rintro e W ⟨rfl, hW⟩
          rw [hW]
          clear hW W
          go_wp2_with fail
          refine (CF.out _).mono ?_
          rintro e W ⟨rfl, hW⟩
          rw [hW]
          clear hW W
          go_wp2_with fail
          refine (CR.out _).mono ?_
          rintro e W ⟨rfl, hW⟩
          rw [hW]
          clear hW W
          go_wp2
          go_ret
          exact ⟨rfl, ((Below.refl _ _).alloc (Nat.le_refl _) _).alloc (by simp) _⟩
      · by_cases he : ((-4096) + a1) % 2 = 0
        · have ht : (((-4096) + a1).tmod 2 == 0) = true := by rw [tmod_two]; simp; omega
          have hr : ((-4096) + a1) < -4096 := by omega
          have hz : (((-4096) + a1) == 0) = false := by simp; omega
          have cf := fun W : World => fits_any 3 ((-4096) + a1) W (by omega) (by omega)
          have cp := fun W : World => put_any 3 0 ((-4096) + a1) W (by decide) (by decide) (by omega) (by omega)
          have cr := fun W : World => fits_any 0 ((-4096) + a1) W (by omega) (by omega)
          have pb := put_bd 3 0 ((-4096) + a1) (by decide) (by decide)
          have E1 : fitsOf 3 ((-4096) + a1) = false := by simp [fitsOf]; omega
          have E2 : fitsOf 0 ((-4096) + a1) = false := by simp [fitsOf]; omega
          rw [E1] at cf cp
          rw [E2] at cr
          generalize putOf 3 0 ((-4096) + a1) = x at *
          have CF := hide cf
          have CP := hide cp
          have CR := hide cr
          clear cf cp cr E1 E2
          clear he
          go_enter Try.func6, Try.ntmps6
          go_wp2_with fail
          refine (known_any _).mono ?_
          rintro e W ⟨rfl, hW⟩
          rw [hW]
          clear hW W
          go_wp2_with fail
          refine (CP.out _).mono ?_
          rintro e W ⟨rfl, hW⟩
          rw [hW]
          clear hW W
          go_wp2_with fail
          refine (CF.out _).mono ?_
          rintro e W ⟨rfl, hW⟩
          rw [hW]
          clear hW W
          go_wp2_with fail
          refine (CR.out _).mono ?_
          rintro e W ⟨rfl, hW⟩
          rw [hW]
          clear hW W
          go_wp2
          go_ret
          exact ⟨rfl, ((Below.refl _ _).alloc (Nat.le_refl _) _).alloc (by simp) _⟩
        · have ht : (((-4096) + a1).tmod 2 == 0) = false := by rw [tmod_two]; simp; omega
          have hr : ((-4096) + a1) < -4096 := by omega
          have hz : (((-4096) + a1) == 0) = false := by simp; omega
          have cf := fun W : World => fits_any 3 ((-4096) + a1) W (by omega) (by omega)
          have cp := fun W : World => put_any 3 0 ((-4096) + a1) W (by decide) (by decide) (by omega) (by omega)
          have cr := fun W : World => fits_any 0 ((-4096) + a1) W (by omega) (by omega)
          have pb := put_bd 3 0 ((-4096) + a1) (by decide) (by decide)
          have E1 : fitsOf 3 ((-4096) + a1) = false := by simp [fitsOf]; omega
          have E2 : fitsOf 0 ((-4096) + a1) = false := by simp [fitsOf]; omega
          rw [E1] at cf cp
          rw [E2] at cr
          generalize putOf 3 0 ((-4096) + a1) = x at *
          have CF := hide cf
          have CP := hide cp
          have CR := hide cr
          clear cf cp cr E1 E2
          clear he
          go_enter Try.func6, Try.ntmps6
          go_wp2_with fail
          refine (known_any _).mono ?_
          rintro e W ⟨rfl, hW⟩
          rw [hW]
          clear hW W
          go_wp2_with fail
          refine (CP.out _).mono ?_
          rintro e W ⟨rfl, hW⟩
          rw [hW]
          clear hW W
          go_wp2_with fail
          refine (CF.out _).mono ?_
          rintro e W ⟨rfl, hW⟩
          rw [hW]
          clear hW W
          go_wp2_with fail
          refine (CR.out _).mono ?_
          rintro e W ⟨rfl, hW⟩
          rw [hW]
          clear hW W
          go_wp2
          go_ret
          exact ⟨rfl, ((Below.refl _ _).alloc (Nat.le_refl _) _).alloc (by simp) _⟩
    · by_cases hin : a1 ≤ 0
      · by_cases he : (4095 + a1) % 2 = 0
        · have ht : ((4095 + a1) % 2 == 0) = true := by simp; omega
          have hr : -4096 ≤ (4095 + a1) ∧ (4095 + a1) ≤ 4095 := by omega
          have hz : ((4095 + a1) == 0) = false := by simp; omega
          have cf := fun W : World => fits_any 3 (4095 + a1) W (by omega) (by omega)
          have cp := fun W : World => put_any 3 0 (4095 + a1) W (by decide) (by decide) (by omega) (by omega)
          have cr := fun W : World => fits_any 0 (4095 + a1) W (by omega) (by omega)
          have pb := put_bd 3 0 (4095 + a1) (by decide) (by decide)
          have E1 : fitsOf 3 (4095 + a1) = true := by simp [fitsOf]; omega
          have E2 : fitsOf 0 (4095 + a1) = false := by simp [fitsOf]; omega
          rw [E1] at cf cp
          rw [E2] at cr
          generalize putOf 3 0 (4095 + a1) = x at *
          have CF := hide cf
          have CP := hide cp
          have CR := hide cr
          clear cf cp cr E1 E2
          clear he
          go_enter Try.func6, Try.ntmps6
          go_wp2_with fail
          refine (known_any _).mono ?_
          rintro e W ⟨rfl, hW⟩
          rw [hW]
          clear hW W
          go_wp2_with fail
          refine (CP.out _).mono ?_
          rintro e W ⟨rfl, hW⟩
          rw [hW]
          clear hW W
          go_wp2_with fail
          refine (CF.out _).mono ?_
          rintro e W ⟨rfl, hW⟩
          rw [hW]
          clear hW W
          go_wp2_with fail
          refine (CR.out _).mono ?_
          rintro e W ⟨rfl, hW⟩
          rw [hW]
          clear hW W
          go_wp2
          go_ret
          exact ⟨rfl, ((Below.refl _ _).alloc (Nat.le_refl _) _).alloc (by simp) _⟩
        · have ht : ((4095 + a1) % 2 == 0) = false := by simp; omega
          have hr : -4096 ≤ (4095 + a1) ∧ (4095 + a1) ≤ 4095 := by omega
          have hz : ((4095 + a1) == 0) = false := by simp; omega
          have cf := fun W : World => fits_any 3 (4095 + a1) W (by omega) (by omega)
          have cp := fun W : World => put_any 3 0 (4095 + a1) W (by decide) (by decide) (by omega) (by omega)
          have cr := fun W : World => fits_any 0 (4095 + a1) W (by omega) (by omega)
          have pb := put_bd 3 0 (4095 + a1) (by decide) (by decide)
          have E1 : fitsOf 3 (4095 + a1) = false := by simp [fitsOf]; omega
          have E2 : fitsOf 0 (4095 + a1) = false := by simp [fitsOf]; omega
          rw [E1] at cf cp
          rw [E2] at cr
          generalize putOf 3 0 (4095 + a1) = x at *
          have CF := hide cf
          have CP := hide cp
          have CR := hide cr
          clear cf cp cr E1 E2
          clear he
          go_enter Try.func6, Try.ntmps6
          go_wp2_with fail
          refine (known_any _).mono ?_
          rintro e W ⟨rfl, hW⟩
          rw [hW]
          clear hW W
          go_wp2_with fail
          refine (CP.out _).mono ?_
          rintro e W ⟨rfl, hW⟩
          rw [hW]
          clear hW W
          go_wp2_with fail
          refine (CF.out _).mono ?_
          rintro e W ⟨rfl, hW⟩
          rw [hW]
          clear hW W
          go_wp2_with fail
          refine (CR.out _).mono ?_
          rintro e W ⟨rfl, hW⟩
          rw [hW]
          clear hW W
          go_wp2
          go_ret
          exact ⟨rfl, ((Below.refl _ _).alloc (Nat.le_refl _) _).alloc (by simp) _⟩
      · by_cases he : (4095 + a1) % 2 = 0
        · have ht : ((4095 + a1) % 2 == 0) = true := by simp; omega
          have hr : 4095 < (4095 + a1) := by omega
          have hz : ((4095 + a1) == 0) = false := by simp; omega
          have cf := fun W : World => fits_any 3 (4095 + a1) W (by omega) (by omega)
          have cp := fun W : World => put_any 3 0 (4095 + a1) W (by decide) (by decide) (by omega) (by omega)
          have cr := fun W : World => fits_any 0 (4095 + a1) W (by omega) (by omega)
          have pb := put_bd 3 0 (4095 + a1) (by decide) (by decide)
          have E1 : fitsOf 3 (4095 + a1) = false := by simp [fitsOf]; omega
          have E2 : fitsOf 0 (4095 + a1) = false := by simp [fitsOf]; omega
          rw [E1] at cf cp
          rw [E2] at cr
          generalize putOf 3 0 (4095 + a1) = x at *
          have CF := hide cf
          have CP := hide cp
          have CR := hide cr
          clear cf cp cr E1 E2
          clear he
          go_enter Try.func6, Try.ntmps6
          go_wp2_with fail
          refine (known_any _).mono ?_
          rintro e W ⟨rfl, hW⟩
          rw [hW]
          clear hW W
          go_wp2_with fail
          refine (CP.out _).mono ?_
          rintro e W ⟨rfl, hW⟩
          rw [hW]
          clear hW W
          go_wp2_with fail
          refine (CF.out _).mono ?_
          rintro e W ⟨rfl, hW⟩
          rw [hW]
          clear hW W
          go_wp2_with fail
          refine (CR.out _).mono ?_
          rintro e W ⟨rfl, hW⟩
          rw [hW]
          clear hW W
          go_wp2
          go_ret
          exact ⟨rfl, ((Below.refl _ _).alloc (Nat.le_refl _) _).alloc (by simp) _⟩
        · have ht : ((4095 + a1) % 2 == 0) = false := by simp; omega
          have hr : 4095 < (4095 + a1) := by omega
          have hz : ((4095 + a1) == 0) = false := by simp; omega
          have cf := fun W : World => fits_any 3 (4095 + a1) W (by omega) (by omega)
          have cp := fun W : World => put_any 3 0 (4095 + a1) W (by decide) (by decide) (by omega) (by omega)
          have cr := fun W : World => fits_any 0 (4095 + a1) W (by omega) (by omega)
          have pb := put_bd 3 0 (4095 + a1) (by decide) (by decide)
          have E1 : fitsOf 3 (4095 + a1) = false := by simp [fitsOf]; omega
          have E2 : fitsOf 0 (4095 + a1) = false := by simp [fitsOf]; omega
          rw [E1] at cf cp
          rw [E2] at cr
          generalize putOf 3 0 (4095 + a1) = x at *
          have CF := hide cf
          have CP := hide cp
          have CR := hide cr
          clear cf cp cr E1 E2
          clear he
          go_enter Try.func6, Try.ntmps6
          go_wp2_with fail
          refine (known_any _).mono ?_
          rintro e W ⟨rfl, hW⟩
          rw [hW]
          clear hW W
          go_wp2_with fail
          refine (CP.out _).mono ?_
          rintro e W ⟨rfl, hW⟩
          rw [hW]
          clear hW W
          go_wp2_with fail
          refine (CF.out _).mono ?_
          rintro e W ⟨rfl, hW⟩
          rw [hW]
          clear hW W
          go_wp2_with fail
          refine (CR.out _).mono ?_
          rintro e W ⟨rfl, hW⟩
          rw [hW]
          clear hW W
          go_wp2
          go_ret
          exact ⟨rfl, ((Below.refl _ _).alloc (Nat.le_refl _) _).alloc (by simp) _⟩
  · cases a2
    · by_cases hin : 0 ≤ a1
      · have hr : -524288 ≤ ((-524288) + a1) ∧ ((-524288) + a1) ≤ 524287 := by omega
        have hz : (((-524288) + a1) == 0) = false := by simp; omega
        have cf := fun W : World => fits_any 4 ((-524288) + a1) W (by omega) (by omega)
        have cp := fun W : World => put_any 4 0 ((-524288) + a1) W (by decide) (by decide) (by omega) (by omega)
        have cr := fun W : World => fits_any 0 ((-524288) + a1) W (by omega) (by omega)
        have pb := put_bd 4 0 ((-524288) + a1) (by decide) (by decide)
        have E1 : fitsOf 4 ((-524288) + a1) = true := by simp [fitsOf]; omega
        have E2 : fitsOf 0 ((-524288) + a1) = false := by simp [fitsOf]; omega
        rw [E1] at cf cp
        rw [E2] at cr
        generalize putOf 4 0 ((-524288) + a1) = x at *
        have CF := hide cf
        have CP := hide cp
        have CR := hide cr
        clear cf cp cr E1 E2
        go_enter Try.func6, Try.ntmps6
        go_wp2_with fail
        refine (known_any _).mono ?_
        rintro e W ⟨rfl, hW⟩
        rw [hW]
        clear hW W
        go_wp2_with fail
        refine (CP.out _).mono ?_
        rintro e W ⟨rfl, hW⟩
        rw [hW]
        clear hW W
        go_wp2_with fail
        refine (CF.out _).mono ?_
        rintro e W ⟨rfl, hW⟩
        rw [hW]
        clear hW W
        go_wp2_with fail
        refine (CR.out _).mono ?_
        rintro e W ⟨rfl, hW⟩
        rw [hW]
        clear hW W
        go_wp2
        go_ret
        exact ⟨rfl, ((Below.refl _ _).alloc (Nat.le_refl _) _).alloc (by simp) _⟩
      · have hr : ((-524288) + a1) < -524288 := by omega
        have hz : (((-524288) + a1) == 0) = false := by simp; omega
        have cf := fun W : World => fits_any 4 ((-524288) + a1) W (by omega) (by omega)
        have cp := fun W : World => put_any 4 0 ((-524288) + a1) W (by decide) (by decide) (by omega) (by omega)
        have cr := fun W : World => fits_any 0 ((-524288) + a1) W (by omega) (by omega)
        have pb := put_bd 4 0 ((-524288) + a1) (by decide) (by decide)
        have E1 : fitsOf 4 ((-524288) + a1) = false := by simp [fitsOf]; omega
        have E2 : fitsOf 0 ((-524288) + a1) = false := by simp [fitsOf]; omega
        rw [E1] at cf cp
        rw [E2] at cr
        generalize putOf 4 0 ((-524288) + a1) = x at *
        have CF := hide cf
        have CP := hide cp
        have CR := hide cr
        clear cf cp cr E1 E2
        go_enter Try.func6, Try.ntmps6
        go_wp2_with fail
        refine (known_any _).mono ?_
        rintro e W ⟨rfl, hW⟩
        rw [hW]
        clear hW W
        go_wp2_with fail
        refine (CP.out _).mono ?_
        rintro e W ⟨rfl, hW⟩
        rw [hW]
        clear hW W
        go_wp2_with fail
        refine (CF.out _).mono ?_
        rintro e W ⟨rfl, hW⟩
        rw [hW]
        clear hW W
        go_wp2_with fail
        refine (CR.out _).mono ?_
        rintro e W ⟨rfl, hW⟩
        rw [hW]
        clear hW W
        go_wp2
        go_ret
        exact ⟨rfl, ((Below.refl _ _).alloc (Nat.le_refl _) _).alloc (by simp) _⟩
    · by_cases hin : a1 ≤ 0
      · have hr : -524288 ≤ (524287 + a1) ∧ (524287 + a1) ≤ 524287 := by omega
        have hz : ((524287 + a1) == 0) = false := by simp; omega
        have cf := fun W : World => fits_any 4 (524287 + a1) W (by omega) (by omega)
        have cp := fun W : World => put_any 4 0 (524287 + a1) W (by decide) (by decide) (by omega) (by omega)
        have cr := fun W : World => fits_any 0 (524287 + a1) W (by omega) (by omega)
        have pb := put_bd 4 0 (524287 + a1) (by decide) (by decide)
        have E1 : fitsOf 4 (524287 + a1) = true := by simp [fitsOf]; omega
        have E2 : fitsOf 0 (524287 + a1) = false := by simp [fitsOf]; omega
        rw [E1] at cf cp
        rw [E2] at cr
        generalize putOf 4 0 (524287 + a1) = x at *
        have CF := hide cf
        have CP := hide cp
        have CR := hide cr
        clear cf cp cr E1 E2
        go_enter Try.func6, Try.ntmps6
        go_wp2_with fail
        refine (known_any _).mono ?_
        rintro e W ⟨rfl, hW⟩
        rw [hW]
        clear hW W
        go_wp2_with fail
        refine (CP.out _).mono ?_
        rintro e W ⟨rfl, hW⟩
        rw [hW]
        clear hW W
        go_wp2_with fail
        refine (CF.out _).mono ?_
        rintro e W ⟨rfl, hW⟩
        rw [hW]
        clear hW W
        go_wp2_with fail
        refine (CR.out _).mono ?_
        rintro e W ⟨rfl, hW⟩
        rw [hW]
        clear hW W
        go_wp2
        go_ret
        exact ⟨rfl, ((Below.refl _ _).alloc (Nat.le_refl _) _).alloc (by simp) _⟩
      · have hr : 524287 < (524287 + a1) := by omega
        have hz : ((524287 + a1) == 0) = false := by simp; omega
        have cf := fun W : World => fits_any 4 (524287 + a1) W (by omega) (by omega)
        have cp := fun W : World => put_any 4 0 (524287 + a1) W (by decide) (by decide) (by omega) (by omega)
        have cr := fun W : World => fits_any 0 (524287 + a1) W (by omega) (by omega)
        have pb := put_bd 4 0 (524287 + a1) (by decide) (by decide)
        have E1 : fitsOf 4 (524287 + a1) = false := by simp [fitsOf]; omega
        have E2 : fitsOf 0 (524287 + a1) = false := by simp [fitsOf]; omega
        rw [E1] at cf cp
        rw [E2] at cr
        generalize putOf 4 0 (524287 + a1) = x at *
        have CF := hide cf
        have CP := hide cp
        have CR := hide cr
        clear cf cp cr E1 E2
        go_enter Try.func6, Try.ntmps6
        go_wp2_with fail
        refine (known_any _).mono ?_
        rintro e W ⟨rfl, hW⟩
        rw [hW]
        clear hW W
        go_wp2_with fail
        refine (CP.out _).mono ?_
        rintro e W ⟨rfl, hW⟩
        rw [hW]
        clear hW W
        go_wp2_with fail
        refine (CF.out _).mono ?_
        rintro e W ⟨rfl, hW⟩
        rw [hW]
        clear hW W
        go_wp2_with fail
        refine (CR.out _).mono ?_
        rintro e W ⟨rfl, hW⟩
        rw [hW]
        clear hW W
        go_wp2
        go_ret
        exact ⟨rfl, ((Below.refl _ _).alloc (Nat.le_refl _) _).alloc (by simp) _⟩
  · cases a2
    · by_cases hin : 0 ≤ a1
      · by_cases he : ((-1048576) + a1) % 2 = 0
        · have ht : (((-1048576) + a1).tmod 2 == 0) = true := by rw [tmod_two]; simp; omega
          have hr : -1048576 ≤ ((-1048576) + a1) ∧ ((-1048576) + a1) ≤ 1048575 := by omega
          have hz : (((-1048576) + a1) == 0) = false := by simp; omega
          have cf := fun W : World => fits_any 5 ((-1048576) + a1) W (by omega) (by omega)
          have cp := fun W : World => put_any 5 0 ((-1048576) + a1) W (by decide) (by decide) (by omega) (by omega)
          have cr := fun W : World => fits_any 0 ((-1048576) + a1) W (by omega) (by omega)
          have pb := put_bd 5 0 ((-1048576) + a1) (by decide) (by decide)
          have E1 : fitsOf 5 ((-1048576) + a1) = true := by simp [fitsOf]; omega
          have E2 : fitsOf 0 ((-1048576) + a1) = false := by simp [fitsOf]; omega
          rw [E1] at cf cp
          rw [E2] at cr
          generalize putOf 5 0 ((-1048576) + a1) = x at *
          have CF := hide cf
          have CP := hide cp
          have CR := hide cr
          clear cf cp cr E1 E2
          clear he
          go_enter Try.func6, Try.ntmps6
          go_wp2_with fail
          refine (known_any _).mono ?_
          rintro e W ⟨rfl, hW⟩
          rw [hW]
          clear hW W
          go_wp2_with fail
          refine (CP.out _).mono ?_
          rintro e W ⟨rfl, hW⟩
          rw [hW]
          clear hW W
          go_wp2_with fail
          refine (CF.out _).mono ?_
          rintro e W ⟨rfl, hW⟩
          rw [hW]
          clear hW W
          go_wp2_with fail
          refine (CR.out _).mono ?_
          rintro e W ⟨rfl, hW⟩
          rw [hW]
          clear hW W
          go_wp2
          go_ret
          exact ⟨rfl, ((Below.refl _ _).alloc (Nat.le_refl _) _).alloc (by simp) _⟩
        · have ht : (((-1048576) + a1).tmod 2 == 0) = false := by rw [tmod_two]; simp; omega
          have hr : -1048576 ≤ ((-1048576) + a1) ∧ ((-1048576) + a1) ≤ 1048575 := by omega
          have hz : (((-1048576) + a1) == 0) = false := by simp; omega
          have cf := fun W : World => fits_any 5 ((-1048576) + a1) W (by omega) (by omega)
          have cp := fun W : World => put_any 5 0 ((-1048576) + a1) W (by decide) (by decide) (by omega) (by omega)
          have cr := fun W : World => fits_any 0 ((-1048576) + a1) W (by omega) (by omega)
          have pb := put_bd 5 0 ((-1048576) + a1) (by decide) (by decide)
          have E1 : fitsOf 5 ((-1048576) + a1) = false := by simp [fitsOf]; omega
          have E2 : fitsOf 0 ((-1048576) + a1) = false := by simp [fitsOf]; omega
          rw [E1] at cf cp
          rw [E2] at cr
          generalize putOf 5 0 ((-1048576) + a1) = x at *
          have CF := hide cf
          have CP := hide cp
          have CR := hide cr
          clear cf cp cr E1 E2
          clear he
          go_enter Try.func6, Try.ntmps6
          go_wp2_with fail
          refine (known_any _).mono ?_
          rintro e W ⟨rfl, hW⟩
          rw [hW]
          clear hW W
          go_wp2_with fail
          refine (CP.out _).mono ?_
          rintro e W ⟨rfl, hW⟩
          rw [hW]
          clear hW W
          go_wp2_with fail
          refine (CF.out _).mono ?_
          rintro e W ⟨rfl, hW⟩
          rw [hW]
          clear hW W
          go_wp2_with fail
          refine (CR.out _).mono ?_
          rintro e W ⟨rfl, hW⟩
          rw [hW]
          clear hW W
          go_wp2
          go_ret
          exact ⟨rfl, ((Below.refl _ _).alloc (Nat.le_refl _) _).alloc (by simp) _⟩
      · by_cases he : ((-1048576) + a1) % 2 = 0
        · have ht : (((-1048576) + a1).tmod 2 == 0) = true := by rw [tmod_two]; simp; omega
          have hr : ((-1048576) + a1) < -1048576 := by omega
          have hz : (((-1048576) + a1) == 0) = false := by simp; omega
          have cf := fun W : World => fits_any 5 ((-1048576) + a1) W (by omega) (by omega)
          have cp := fun W : World => put_any 5 0 ((-1048576) + a1) W (by decide) (by decide) (by omega) (by omega)
          have cr := fun W : World => fits_any 0 ((-1048576) + a1) W (by omega) (by omega)
          have pb := put_bd 5 0 ((-1048576) + a1) (by decide) (by decide)
          have E1 : fitsOf 5 ((-1048576) + a1) = false := by simp [fitsOf]; omega
          have E2 : fitsOf 0 ((-1048576) + a1) = false := by simp [fitsOf]; omega
          rw [E1] at cf cp
          rw [E2] at cr
          generalize putOf 5 0 ((-1048576) + a1) = x at *
          have CF := hide cf
          have CP := hide cp
          have CR := hide cr
          clear cf cp cr E1 E2
          clear he
          go_enter Try.func6, Try.ntmps6
          go_wp2_with fail
          refine (known_any _).mono ?_
          rintro e W ⟨rfl, hW⟩
          rw [hW]
          clear hW W
          go_wp2_with fail
          refine (CP.out _).mono ?_
          rintro e W ⟨rfl, hW⟩
          rw [hW]
          clear hW W
          go_wp2_with fail
          refine (CF.out _).mono ?_
          rintro e W ⟨rfl, hW⟩
          rw [hW]
          clear hW W
          go_wp2_with fail
          refine (CR.out _).mono ?_
          rintro e W ⟨rfl, hW⟩
          rw [hW]
          clear hW W
          go_wp2
          go_ret
          exact ⟨rfl, ((Below.refl _ _).alloc (Nat.le_refl _) _).alloc (by simp) _⟩
        · have ht : (((-1048576) + a1).tmod 2 == 0) = false := by rw [tmod_two]; simp; omega
          have hr : ((-1048576) + a1) < -1048576 := by omega
          have hz : (((-1048576) + a1) == 0) = false := by simp; omega
          have cf := fun W : World => fits_any 5 ((-1048576) + a1) W (by omega) (by omega)
          have cp := fun W : World => put_any 5 0 ((-1048576) + a1) W (by decide) (by decide) (by omega) (by omega)
          have cr := fun W : World => fits_any 0 ((-1048576) + a1) W (by omega) (by omega)
          have pb := put_bd 5 0 ((-1048576) + a1) (by decide) (by decide)
          have E1 : fitsOf 5 ((-1048576) + a1) = false := by simp [fitsOf]; omega
          have E2 : fitsOf 0 ((-1048576) + a1) = false := by simp [fitsOf]; omega
          rw [E1] at cf cp
          rw [E2] at cr
          generalize putOf 5 0 ((-1048576) + a1) = x at *
          have CF := hide cf
          have CP := hide cp
          have CR := hide cr
          clear cf cp cr E1 E2
          clear he
          go_enter Try.func6, Try.ntmps6
          go_wp2_with fail
          refine (known_any _).mono ?_
          rintro e W ⟨rfl, hW⟩
          rw [hW]
          clear hW W
          go_wp2_with fail
          refine (CP.out _).mono ?_
          rintro e W ⟨rfl, hW⟩
          rw [hW]
          clear hW W
          go_wp2_with fail
          refine (CF.out _).mono ?_
          rintro e W ⟨rfl, hW⟩
          rw [hW]
          clear hW W
          go_wp2_with fail
          refine (CR.out _).mono ?_
          rintro e W ⟨rfl, hW⟩
          rw [hW]
          clear hW W
          go_wp2
          go_ret
          exact ⟨rfl, ((Below.refl _ _).alloc (Nat.le_refl _) _).alloc (by simp) _⟩
    · by_cases hin : a1 ≤ 0
      · by_cases he : (1048575 + a1) % 2 = 0
        · have ht : ((1048575 + a1) % 2 == 0) = true := by simp; omega
          have hr : -1048576 ≤ (1048575 + a1) ∧ (1048575 + a1) ≤ 1048575 := by omega
          have hz : ((1048575 + a1) == 0) = false := by simp; omega
          have cf := fun W : World => fits_any 5 (1048575 + a1) W (by omega) (by omega)
          have cp := fun W : World => put_any 5 0 (1048575 + a1) W (by decide) (by decide) (by omega) (by omega)
          have cr := fun W : World => fits_any 0 (1048575 + a1) W (by omega) (by omega)
          have pb := put_bd 5 0 (1048575 + a1) (by decide) (by decide)
          have E1 : fitsOf 5 (1048575 + a1) = true := by simp [fitsOf]; omega
          have E2 : fitsOf 0 (1048575 + a1) = false := by simp [fitsOf]; omega
          rw [E1] at cf cp
          rw [E2] at cr
          generalize putOf 5 0 (1048575 + a1) = x at *
          have CF := hide cf
          have CP := hide cp
          have CR := hide cr
          clear cf cp cr E1 E2
          clear he
          go_enter Try.func6, Try.ntmps6
          go_wp2_with fail
          refine (known_any _).mono ?_
          rintro e W ⟨rfl, hW⟩
          rw [hW]
          clear hW W
          go_wp2_with fail
          refine (CP.out _).mono ?_
          rintro e W ⟨rfl, hW⟩
          rw [hW]
          clear hW W
          go_wp2_with fail
          refine (CF.out _).mono ?_
          rintro e W ⟨rfl, hW⟩
          rw [hW]
          clear hW W
          go_wp2_with fail
          refine (CR.out _).mono ?_
          rintro e W ⟨rfl, hW⟩
          rw [hW]
          clear hW W
          go_wp2
          go_ret
          exact ⟨rfl, ((Below.refl _ _).alloc (Nat.le_refl _) _).alloc (by simp) _⟩
        · have ht : ((1048575 + a1) % 2 == 0) = false := by simp; omega
          have hr : -1048576 ≤ (1048575 + a1) ∧ (1048575 + a1) ≤ 1048575 := by omega
          have hz : ((1048575 + a1) == 0) = false := by simp; omega
          have cf := fun W : World => fits_any 5 (1048575 + a1) W (by omega) (by omega)
          have cp := fun W : World => put_any 5 0 (1048575 + a1) W (by decide) (by decide) (by omega) (by omega)
          have cr := fun W : World => fits_any 0 (1048575 + a1) W (by omega) (by omega)
          have pb := put_bd 5 0 (1048575 + a1) (by decide) (by decide)
          have E1 : fitsOf 5 (1048575 + a1) = false := by simp [fitsOf]; omega
          have E2 : fitsOf 0 (1048575 + a1) = false := by simp [fitsOf]; omega
          rw [E1] at cf cp
          rw [E2] at cr
          generalize putOf 5 0 (1048575 + a1) = x at *
          have CF := hide cf
          have CP := hide cp
          have CR := hide cr
          clear cf cp cr E1 E2
          clear he
          go_enter Try.func6, Try.ntmps6
          go_wp2_with fail
          refine (known_any _).mono ?_
          rintro e W ⟨rfl, hW⟩
          rw [hW]
          clear hW W
          go_wp2_with fail
          refine (CP.out _).mono ?_
          rintro e W ⟨rfl, hW⟩
          rw [hW]
          clear hW W
          go_wp2_with fail
          refine (CF.out _).mono ?_
          rintro e W ⟨rfl, hW⟩
          rw [hW]
          clear hW W
          go_wp2_with fail
          refine (CR.out _).mono ?_
          rintro e W ⟨rfl, hW⟩
          rw [hW]
          clear hW W
          go_wp2
          go_ret
          exact ⟨rfl, ((Below.refl _ _).alloc (Nat.le_refl _) _).alloc (by simp) _⟩
      · by_cases he : (1048575 + a1) % 2 = 0
        · have ht : ((1048575 + a1) % 2 == 0) = true := by simp; omega
          have hr : 1048575 < (1048575 + a1) := by omega
          have hz : ((1048575 + a1) == 0) = false := by simp; omega
          have cf := fun W : World => fits_any 5 (1048575 + a1) W (by omega) (by omega)
          have cp := fun W : World => put_any 5 0 (1048575 + a1) W (by decide) (by decide) (by omega) (by omega)
          have cr := fun W : World => fits_any 0 (1048575 + a1) W (by omega) (by omega)
          have pb := put_bd 5 0 (1048575 + a1) (by decide) (by decide)
          have E1 : fitsOf 5 (1048575 + a1) = false := by simp [fitsOf]; omega
          have E2 : fitsOf 0 (1048575 + a1) = false := by simp [fitsOf]; omega
          rw [E1] at cf cp
          rw [E2] at cr
          generalize putOf 5 0 (1048575 + a1) = x at *
          have CF := hide cf
          have CP := hide cp
          have CR := hide cr
          clear cf cp cr E1 E2
          clear he
          go_enter Try.func6, Try.ntmps6
          go_wp2_with fail
          refine (known_any _).mono ?_
          rintro e W ⟨rfl, hW⟩
          rw [hW]
          clear hW W
          go_wp2_with fail
          refine (CP.out _).mono ?_
          rintro e W ⟨rfl, hW⟩
          rw [hW]
          clear hW W
          go_wp2_with fail
          refine (CF.out _).mono ?_
          rintro e W ⟨rfl, hW⟩
          rw [hW]
          clear hW W
          go_wp2_with fail
          refine (CR.out _).mono ?_
          rintro e W ⟨rfl, hW⟩
          rw [hW]
          clear hW W
          go_wp2
          go_ret
          exact ⟨rfl, ((Below.refl _ _).alloc (Nat.le_refl _) _).alloc (by simp) _⟩
        · have ht : ((1048575 + a1) % 2 == 0) = false := by simp; omega
          have hr : 1048575 < (1048575 + a1) := by omega
          have hz : ((1048575 + a1) == 0) = false := by simp; omega
          have cf := fun W : World => fits_any 5 (1048575 + a1) W (by omega) (by omega)
          have cp := fun W : World => put_any 5 0 (1048575 + a1) W (by decide) (by decide) (by omega) (by omega)
          have cr := fun W : World => fits_any 0 (1048575 + a1) W (by omega) (by omega)
          have pb := put_bd 5 0 (1048575 + a1) (by decide) (by decide)
          have E1 : fitsOf 5 (1048575 + a1) = false := by simp [fitsOf]; omega
          have E2 : fitsOf 0 (1048575 + a1) = false := by simp [fitsOf]; omega
          rw [E1] at cf cp
          rw [E2] at cr
          generalize putOf 5 0 (1048575 + a1) = x at *
          have CF := hide cf
          have CP := hide cp
          have CR := hide cr
          clear cf cp cr E1 E2
          clear he
          go_enter Try.func6, Try.ntmps6
          go_wp2_with fail
          refine (known_any _).mono ?_
          rintro e W ⟨rfl, hW⟩
          rw [hW]
          clear hW W
          go_wp2_with fail
          refine (CP.out _).mono ?_
          rintro e W ⟨rfl, hW⟩
          rw [hW]
          clear hW W
          go_wp2_with fail
          refine (CF.out _).mono ?_
          rintro e W ⟨rfl, hW⟩
          rw [hW]
          clear hW W
          go_wp2_with fail
          refine (CR.out _).mono ?_
          rintro e W ⟨rfl, hW⟩
          rw [hW]
          clear hW W
          go_wp2
          go_ret
          exact ⟨rfl, ((Below.refl _ _).alloc (Nat.le_refl _) _).alloc (by simp) _⟩

/-! ### THE ROW's STEP: WRITTEN OUT: LEAVE IT -/
set_option maxRecDepth 100000 in
theorem lifted (os : Os) (started : os.Started) (H : Type) (enc : TypeId × Value → H) :
    ReturnsInHanded {} Try.checked os 6 .any (Rows.immRangesSpec.pre6 enc Try.prog Try.f6 Rows.immRangesRow.domain false) (Rows.immRangesSpec.post enc Try.prog Try.f6 false true false false) := by
  refine returnsInHanded_of_change (C := Try.checked) own started (by kernel_rfl) Try.func6
    (ChangeSpec.witness6 (enc := enc) (C := Try.checked) false ⟨#[], #[.int .u8 0, .int .i8 0, .bool false], []⟩ 8 (by kernel_rfl) (by kernel_rfl) (by kernel_rfl) (by kernel_rfl)) ?_
  intro W base args ds gs before hval0 hW hcnd _
  have hval : ∀ (j : Nat) t v, Try.f6.params[j]? = some t → args[j]? = some v → Value.okWide Try.prog W .any base t v := hval0
  have hW' := hW
  obtain ⟨p, q, hA0, hV, rfl, hfz, hnd⟩ := hW
  have hA : DataW.TrodAll enc Try.prog W 0 (fun _ => true) true Try.f6.params.toList args.toList ds p := hA0
  rw [Try.params6] at hA hval
  obtain ⟨v0, vs0, d0, ds0, p0, q0, hargs, rfl, rfl, h0, r0⟩ := trodAll_cons hA
  obtain ⟨v1, vs1, d1, ds1, p1, q1, rfl, rfl, rfl, h1, r1⟩ := trodAll_cons r0
  obtain ⟨v2, vs2, d2, ds2, p2, q2, rfl, rfl, rfl, h2, r2⟩ := trodAll_cons r1
  obtain ⟨rfl, rfl, rfl⟩ := trodAll_nil r2
  obtain rfl : args = #[v0, v1, v2] := by cases args; simp_all
  obtain ⟨rfl, rfl⟩ := trodVars_none hV
  obtain ⟨a0, rfl, rfl, rfl, w0⟩ := open_int Try.underlying5 (hval 0 5 v0 rfl rfl) h0
  obtain ⟨a1, rfl, rfl, rfl, w1⟩ := open_int Try.underlying36 (hval 1 36 v1 rfl rfl) h1
  obtain ⟨a2, rfl, rfl, rfl⟩ := open_bool Try.underlying4 (hval 2 4 v2 rfl rfl) h2
  clear hA0 hval0
  refine (walk a0 a1 a2 W w0 w1).mono fun e W' ⟨he, bel⟩ => ?_
  subst he
  exact ⟨_, rfl, _, _, _, [], _, [], hW', trodAll_mk1 (shut_bool Try.underlying4 _), (trodAll_cons_mk (shut_int Try.underlying5 w0) (trodAll_cons_mk (shut_int Try.underlying36 w1) (trodAll_cons_mk (shut_bool Try.underlying4 _) trodAll_mk0))), rfl, bel.frame _, fun h => by cases h⟩

theorem over : Rows.immRangesRow.holds Try.pinned (OpenSpec.ofChange Rows.immRangesSpec) :=
  OpenClaim.holds_of_wide 6 Try.f6 rfl rfl rfl rfl rfl rfl rfl ⟨rfl, rfl, rfl, rfl, rfl⟩ rfl rfl rfl rfl rfl (by kernel_rfl) Try.func6 (by kernel_rfl)
    (of_decide_eq_true (by kernel_rfl)) (by unfold Func.isWrapper; first | (rw [if_pos (by decide +kernel)]; kernel_rfl) | (rw [if_neg (by decide +kernel)]; exact ⟨rfl, rfl⟩))
    (fun os started H enc _ => lifted os started H enc)

/-- ████ THE STATEMENT ████ -/
theorem proved : Rows.ImmRangesSaid := over
#print axioms proved
end Go.Proofs.Ytbkdpfjledieaaa.immRanges
namespace Go.Proofs.Ytbkdpfjledieaaa
theorem immRanges_holds : Rows.ImmRangesSaid := immRanges.proved
end Go.Proofs.Ytbkdpfjledieaaa
