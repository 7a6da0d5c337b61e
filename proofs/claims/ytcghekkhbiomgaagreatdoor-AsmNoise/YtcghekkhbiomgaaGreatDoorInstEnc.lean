/- The contract of package inst's Encode. -/
import Derived.Test.YtcghekkhbiomgaaGreatDoorInstDecs
import Derived.Deep.RegionWith
namespace Go.Proofs.YtcghekkhbiomgaaGreatDoor
open Go.RowKit Go.Maps
set_option linter.unusedVariables false
set_option maxRecDepth 100000
set_option linter.unusedSimpArgs false

/-- Whether an immediate fits an operation's word, and the word with it. -/
def imOk (f x v : Int) : Bool := if shb x = 6 then decide (0 ≤ v) && decide (v < 64) else if shb x = 5 then decide (0 ≤ v) && decide (v < 32) else fitsOf f v
def imPut (f x v : Int) : Int := if shb x = 0 then putOf f x v else if imOk f x v = true then bits .or .u32 x (v * 1048576) else 0

theorem imput_any (f x v : Int) (w : World) (h0 : 0 ≤ x) (h1 : x ≤ 4294967295) (v0 : -9223372036854775808 ≤ v) (v1 : v ≤ 9223372036854775807) :
    Calls Tryz.prog 49 #[.int .i64 f, .int .u32 x, .int .i64 v] w fun e w' => e = .returned (.tuple #[.int .u32 (imPut f x v), .bool (imOk f x v)]) ∧ w' = w := by
  have HS := hide (fun w => shift_any x w h0 h1)
  have HP := hide (fun w => put_any f x v w h0 h1 v0 v1)
  unfold imPut imOk
  rcases shb_cases x with hs | hs | hs
  · rw [hs] at HS ⊢
    rw [if_pos rfl, if_neg (by decide), if_neg (by decide)]
    generalize putOf f x v = y at *
    generalize fitsOf f v = b at *
    clear hs
    go_enter Tryz.func49, Tryz.ntmps49
    go_wp2_with fail
    refine (HS.out _).mono ?_
    rintro e W ⟨rfl, hW⟩
    rw [hW]
    clear hW W HS
    go_wp2_with fail
    refine (HP.out _).mono ?_
    rintro e W ⟨rfl, hW⟩
    rw [hW]
    clear hW W HP
    go_wp2
    go_ret2
    exact ⟨rfl, rfl⟩
  all_goals
    rw [hs] at HS ⊢
    simp only [show ¬ ((6 : Int) = 0) by decide, show ¬ ((5 : Int) = 0) by decide, show ¬ ((5 : Int) = 6) by decide, if_true, if_false, ↓reduceIte]
    clear hs HP
  · by_cases hv : 0 ≤ v ∧ v < 32
    · have e1 : (decide (0 ≤ v) && decide (v < 32)) = true := by simp; omega
      rw [e1, if_pos rfl]
      clear e1
      obtain ⟨v2, v3⟩ := hv
      go_enter Tryz.func49, Tryz.ntmps49
      go_wp2_with fail
      refine (HS.out _).mono ?_
      rintro e W ⟨rfl, hW⟩
      rw [hW]
      clear hW W HS
      go_wp2
      go_ret2
      exact ⟨rfl, rfl⟩
    · have e1 : (decide (0 ≤ v) && decide (v < 32)) = false := by
        rw [Bool.eq_false_iff]
        intro h
        simp at h
        exact hv h
      rw [e1, if_neg (by decide)]
      clear e1
      by_cases hn : v < 0
      · clear hv
        go_enter Tryz.func49, Tryz.ntmps49
        go_wp2_with fail
        refine (HS.out _).mono ?_
        rintro e W ⟨rfl, hW⟩
        rw [hW]
        clear hW W HS
        go_wp2
        go_ret2
        exact ⟨rfl, rfl⟩
      · have v2 : 0 ≤ v := by omega
        have v3 : 32 ≤ v := by omega
        clear hv hn
        go_enter Tryz.func49, Tryz.ntmps49
        go_wp2_with fail
        refine (HS.out _).mono ?_
        rintro e W ⟨rfl, hW⟩
        rw [hW]
        clear hW W HS
        go_wp2
        go_ret2
        exact ⟨rfl, rfl⟩
  · by_cases hv : 0 ≤ v ∧ v < 64
    · have e1 : (decide (0 ≤ v) && decide (v < 64)) = true := by simp; omega
      rw [e1, if_pos rfl]
      clear e1
      obtain ⟨v2, v3⟩ := hv
      go_enter Tryz.func49, Tryz.ntmps49
      go_wp2_with fail
      refine (HS.out _).mono ?_
      rintro e W ⟨rfl, hW⟩
      rw [hW]
      clear hW W HS
      go_wp2
      go_ret2
      exact ⟨rfl, rfl⟩
    · have e1 : (decide (0 ≤ v) && decide (v < 64)) = false := by
        rw [Bool.eq_false_iff]
        intro h
        simp at h
        exact hv h
      rw [e1, if_neg (by decide)]
      clear e1
      by_cases hn : v < 0
      · clear hv
        go_enter Tryz.func49, Tryz.ntmps49
        go_wp2_with fail
        refine (HS.out _).mono ?_
        rintro e W ⟨rfl, hW⟩
        rw [hW]
        clear hW W HS
        go_wp2
        go_ret2
        exact ⟨rfl, rfl⟩
      · have v2 : 0 ≤ v := by omega
        have v3 : 64 ≤ v := by omega
        clear hv hn
        go_enter Tryz.func49, Tryz.ntmps49
        go_wp2_with fail
        refine (HS.out _).mono ?_
        rintro e W ⟨rfl, hW⟩
        rw [hW]
        clear hW W HS
        go_wp2
        go_ret2
        exact ⟨rfl, rfl⟩

/-- Whether the registers that a form has are such, and the word with them. -/
def rgOk (d a b : Bool) (r0 r1 r2 : Int) : Bool := (!d || isr r0) && (!a || isr r1) && (!b || isr r2)
def rgPut (d a b : Bool) (x r0 r1 r2 : Int) : Int :=
  let x1 := if d = true then bits .or .u32 x (r0 * 128) else x
  let x2 := if a = true then bits .or .u32 x1 (r1 * 32768) else x1
  if b = true then bits .or .u32 x2 (r2 * 1048576) else x2

end Go.Proofs.YtcghekkhbiomgaaGreatDoor
