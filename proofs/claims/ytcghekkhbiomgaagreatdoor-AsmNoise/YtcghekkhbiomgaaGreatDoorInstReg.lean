/- The contract of package inst's putRegisters. -/
import Derived.Test.YtcghekkhbiomgaaGreatDoorInstEnc
namespace Go.Proofs.YtcghekkhbiomgaaGreatDoor
open Go.RowKit Go.Maps
set_option linter.unusedVariables false
set_option maxRecDepth 100000
set_option linter.unusedSimpArgs false

theorem isr_yes {r : Int} (h : isr r = true) : 0 ≤ r ∧ r < 32 := by simpa [isr] using h
theorem rg_ret {a b : Int} {w w' : World} (h : a = b) (hb : Below w.heap.size w w') : Ending.returned (Value.tuple #[.int .u32 a, .bool true]) = .returned (.tuple #[.int .u32 b, .bool true]) ∧ Below w.heap.size w w' := by
  subst h; exact ⟨rfl, hb⟩

set_option maxHeartbeats 800000 in
theorem rg_0_ok (x op r0 r1 r2 im : Int) (w : World) (h0 : 0 ≤ x) (h1 : x ≤ 4294967295) (g0 : isr r0 = true) (g1 : isr r1 = true) (g2 : isr r2 = true) :
    Calls Tryz.prog 50 #[.agg #[.bool true, .bool true, .bool true], .int .u32 x, inst op r0 r1 r2 im] w fun e w' => e = .returned (.tuple #[.int .u32 (rgPut true true true x r0 r1 r2), .bool true]) ∧ Below w.heap.size w w' := by
  have HR0 := hide (fun w => isr_any r0 w)
  rw [g0] at HR0
  have b0 := isr_yes g0
  clear g0
  have HR1 := hide (fun w => isr_any r1 w)
  rw [g1] at HR1
  have b1 := isr_yes g1
  clear g1
  have HR2 := hide (fun w => isr_any r2 w)
  rw [g2] at HR2
  have b2 := isr_yes g2
  clear g2
  have HY := hide (show rgPut true true true x r0 r1 r2 = _ from rfl)
  unfold inst
  clear HY
  obtain ⟨y, hy⟩ : ∃ y, y = rgPut true true true x r0 r1 r2 := ⟨_, rfl⟩
  rw [← hy]
  have HY := hide hy
  clear hy
  go_enter Tryz.func50, Tryz.ntmps50
  go_wp2_with fail
  refine (HR0.out _).mono ?_
  rintro e W ⟨rfl, hW⟩
  rw [hW]
  clear hW W HR0
  go_wp2_with fail
  refine (HR1.out _).mono ?_
  rintro e W ⟨rfl, hW⟩
  rw [hW]
  clear hW W HR1
  go_wp2_with fail
  refine (HR2.out _).mono ?_
  rintro e W ⟨rfl, hW⟩
  rw [hW]
  clear hW W HR2
  go_wp2
  go_ret2
  exact rg_ret (by rw [HY.out]; simp only [rgPut, if_true, Bool.false_eq_true, if_false]) (by go_grown)

set_option maxHeartbeats 800000 in
theorem rg_0_0 (x op r0 r1 r2 im : Int) (w : World) (h0 : 0 ≤ x) (h1 : x ≤ 4294967295) (g0 : isr r0 = false) :
    Calls Tryz.prog 50 #[.agg #[.bool true, .bool true, .bool true], .int .u32 x, inst op r0 r1 r2 im] w fun e w' => e = .returned (.tuple #[.int .u32 0, .bool false]) ∧ Below w.heap.size w w' := by
  have HR0 := hide (fun w => isr_any r0 w)
  rw [g0] at HR0
  clear g0
  unfold inst
  go_enter Tryz.func50, Tryz.ntmps50
  go_wp2_with fail
  refine (HR0.out _).mono ?_
  rintro e W ⟨rfl, hW⟩
  rw [hW]
  clear hW W HR0
  go_wp2
  go_ret2
  exact ⟨rfl, by go_grown⟩

set_option maxHeartbeats 800000 in
theorem rg_0_1 (x op r0 r1 r2 im : Int) (w : World) (h0 : 0 ≤ x) (h1 : x ≤ 4294967295) (g0 : isr r0 = true) (g1 : isr r1 = false) :
    Calls Tryz.prog 50 #[.agg #[.bool true, .bool true, .bool true], .int .u32 x, inst op r0 r1 r2 im] w fun e w' => e = .returned (.tuple #[.int .u32 0, .bool false]) ∧ Below w.heap.size w w' := by
  have HR0 := hide (fun w => isr_any r0 w)
  rw [g0] at HR0
  clear g0
  have HR1 := hide (fun w => isr_any r1 w)
  rw [g1] at HR1
  clear g1
  unfold inst
  go_enter Tryz.func50, Tryz.ntmps50
  go_wp2_with fail
  refine (HR0.out _).mono ?_
  rintro e W ⟨rfl, hW⟩
  rw [hW]
  clear hW W HR0
  go_wp2_with fail
  refine (HR1.out _).mono ?_
  rintro e W ⟨rfl, hW⟩
  rw [hW]
  clear hW W HR1
  go_wp2
  go_ret2
  exact ⟨rfl, by go_grown⟩

set_option maxHeartbeats 800000 in
theorem rg_0_2 (x op r0 r1 r2 im : Int) (w : World) (h0 : 0 ≤ x) (h1 : x ≤ 4294967295) (g0 : isr r0 = true) (g1 : isr r1 = true) (g2 : isr r2 = false) :
    Calls Tryz.prog 50 #[.agg #[.bool true, .bool true, .bool true], .int .u32 x, inst op r0 r1 r2 im] w fun e w' => e = .returned (.tuple #[.int .u32 0, .bool false]) ∧ Below w.heap.size w w' := by
  have HR0 := hide (fun w => isr_any r0 w)
  rw [g0] at HR0
  clear g0
  have HR1 := hide (fun w => isr_any r1 w)
  rw [g1] at HR1
  clear g1
  have HR2 := hide (fun w => isr_any r2 w)
  rw [g2] at HR2
  clear g2
  unfold inst
  go_enter Tryz.func50, Tryz.ntmps50
  go_wp2_with fail
  refine (HR0.out _).mono ?_
  rintro e W ⟨rfl, hW⟩
  rw [hW]
  clear hW W HR0
  go_wp2_with fail
  refine (HR1.out _).mono ?_
  rintro e W ⟨rfl, hW⟩
  rw [hW]
  clear hW W HR1
  go_wp2_with fail
  refine (HR2.out _).mono ?_
  rintro e W ⟨rfl, hW⟩
  rw [hW]
  clear hW W HR2
  go_wp2
  go_ret2
  exact ⟨rfl, by go_grown⟩

set_option maxHeartbeats 800000 in
theorem rg_1_ok (x op r0 r1 r2 im : Int) (w : World) (h0 : 0 ≤ x) (h1 : x ≤ 4294967295) (g0 : isr r0 = true) (g1 : isr r1 = true) :
    Calls Tryz.prog 50 #[.agg #[.bool true, .bool true, .bool false], .int .u32 x, inst op r0 r1 r2 im] w fun e w' => e = .returned (.tuple #[.int .u32 (rgPut true true false x r0 r1 r2), .bool true]) ∧ Below w.heap.size w w' := by
  have HR0 := hide (fun w => isr_any r0 w)
  rw [g0] at HR0
  have b0 := isr_yes g0
  clear g0
  have HR1 := hide (fun w => isr_any r1 w)
  rw [g1] at HR1
  have b1 := isr_yes g1
  clear g1
  have HY := hide (show rgPut true true false x r0 r1 r2 = _ from rfl)
  unfold inst
  clear HY
  obtain ⟨y, hy⟩ : ∃ y, y = rgPut true true false x r0 r1 r2 := ⟨_, rfl⟩
  rw [← hy]
  have HY := hide hy
  clear hy
  go_enter Tryz.func50, Tryz.ntmps50
  go_wp2_with fail
  refine (HR0.out _).mono ?_
  rintro e W ⟨rfl, hW⟩
  rw [hW]
  clear hW W HR0
  go_wp2_with fail
  refine (HR1.out _).mono ?_
  rintro e W ⟨rfl, hW⟩
  rw [hW]
  clear hW W HR1
  go_wp2
  go_ret2
  exact rg_ret (by rw [HY.out]; simp only [rgPut, if_true, Bool.false_eq_true, if_false]) (by go_grown)

set_option maxHeartbeats 800000 in
theorem rg_1_0 (x op r0 r1 r2 im : Int) (w : World) (h0 : 0 ≤ x) (h1 : x ≤ 4294967295) (g0 : isr r0 = false) :
    Calls Tryz.prog 50 #[.agg #[.bool true, .bool true, .bool false], .int .u32 x, inst op r0 r1 r2 im] w fun e w' => e = .returned (.tuple #[.int .u32 0, .bool false]) ∧ Below w.heap.size w w' := by
  have HR0 := hide (fun w => isr_any r0 w)
  rw [g0] at HR0
  clear g0
  unfold inst
  go_enter Tryz.func50, Tryz.ntmps50
  go_wp2_with fail
  refine (HR0.out _).mono ?_
  rintro e W ⟨rfl, hW⟩
  rw [hW]
  clear hW W HR0
  go_wp2
  go_ret2
  exact ⟨rfl, by go_grown⟩

set_option maxHeartbeats 800000 in
theorem rg_1_1 (x op r0 r1 r2 im : Int) (w : World) (h0 : 0 ≤ x) (h1 : x ≤ 4294967295) (g0 : isr r0 = true) (g1 : isr r1 = false) :
    Calls Tryz.prog 50 #[.agg #[.bool true, .bool true, .bool false], .int .u32 x, inst op r0 r1 r2 im] w fun e w' => e = .returned (.tuple #[.int .u32 0, .bool false]) ∧ Below w.heap.size w w' := by
  have HR0 := hide (fun w => isr_any r0 w)
  rw [g0] at HR0
  clear g0
  have HR1 := hide (fun w => isr_any r1 w)
  rw [g1] at HR1
  clear g1
  unfold inst
  go_enter Tryz.func50, Tryz.ntmps50
  go_wp2_with fail
  refine (HR0.out _).mono ?_
  rintro e W ⟨rfl, hW⟩
  rw [hW]
  clear hW W HR0
  go_wp2_with fail
  refine (HR1.out _).mono ?_
  rintro e W ⟨rfl, hW⟩
  rw [hW]
  clear hW W HR1
  go_wp2
  go_ret2
  exact ⟨rfl, by go_grown⟩

set_option maxHeartbeats 800000 in
theorem rg_2_ok (x op r0 r1 r2 im : Int) (w : World) (h0 : 0 ≤ x) (h1 : x ≤ 4294967295) (g1 : isr r1 = true) (g2 : isr r2 = true) :
    Calls Tryz.prog 50 #[.agg #[.bool false, .bool true, .bool true], .int .u32 x, inst op r0 r1 r2 im] w fun e w' => e = .returned (.tuple #[.int .u32 (rgPut false true true x r0 r1 r2), .bool true]) ∧ Below w.heap.size w w' := by
  have HR1 := hide (fun w => isr_any r1 w)
  rw [g1] at HR1
  have b1 := isr_yes g1
  clear g1
  have HR2 := hide (fun w => isr_any r2 w)
  rw [g2] at HR2
  have b2 := isr_yes g2
  clear g2
  have HY := hide (show rgPut false true true x r0 r1 r2 = _ from rfl)
  unfold inst
  clear HY
  obtain ⟨y, hy⟩ : ∃ y, y = rgPut false true true x r0 r1 r2 := ⟨_, rfl⟩
  rw [← hy]
  have HY := hide hy
  clear hy
  go_enter Tryz.func50, Tryz.ntmps50
  go_wp2_with fail
  refine (HR1.out _).mono ?_
  rintro e W ⟨rfl, hW⟩
  rw [hW]
  clear hW W HR1
  go_wp2_with fail
  refine (HR2.out _).mono ?_
  rintro e W ⟨rfl, hW⟩
  rw [hW]
  clear hW W HR2
  go_wp2
  go_ret2
  exact rg_ret (by rw [HY.out]; simp only [rgPut, if_true, Bool.false_eq_true, if_false]) (by go_grown)

set_option maxHeartbeats 800000 in
theorem rg_2_1 (x op r0 r1 r2 im : Int) (w : World) (h0 : 0 ≤ x) (h1 : x ≤ 4294967295) (g1 : isr r1 = false) :
    Calls Tryz.prog 50 #[.agg #[.bool false, .bool true, .bool true], .int .u32 x, inst op r0 r1 r2 im] w fun e w' => e = .returned (.tuple #[.int .u32 0, .bool false]) ∧ Below w.heap.size w w' := by
  have HR1 := hide (fun w => isr_any r1 w)
  rw [g1] at HR1
  clear g1
  unfold inst
  go_enter Tryz.func50, Tryz.ntmps50
  go_wp2_with fail
  refine (HR1.out _).mono ?_
  rintro e W ⟨rfl, hW⟩
  rw [hW]
  clear hW W HR1
  go_wp2
  go_ret2
  exact ⟨rfl, by go_grown⟩

set_option maxHeartbeats 800000 in
theorem rg_2_2 (x op r0 r1 r2 im : Int) (w : World) (h0 : 0 ≤ x) (h1 : x ≤ 4294967295) (g1 : isr r1 = true) (g2 : isr r2 = false) :
    Calls Tryz.prog 50 #[.agg #[.bool false, .bool true, .bool true], .int .u32 x, inst op r0 r1 r2 im] w fun e w' => e = .returned (.tuple #[.int .u32 0, .bool false]) ∧ Below w.heap.size w w' := by
  have HR1 := hide (fun w => isr_any r1 w)
  rw [g1] at HR1
  clear g1
  have HR2 := hide (fun w => isr_any r2 w)
  rw [g2] at HR2
  clear g2
  unfold inst
  go_enter Tryz.func50, Tryz.ntmps50
  go_wp2_with fail
  refine (HR1.out _).mono ?_
  rintro e W ⟨rfl, hW⟩
  rw [hW]
  clear hW W HR1
  go_wp2_with fail
  refine (HR2.out _).mono ?_
  rintro e W ⟨rfl, hW⟩
  rw [hW]
  clear hW W HR2
  go_wp2
  go_ret2
  exact ⟨rfl, by go_grown⟩

set_option maxHeartbeats 800000 in
theorem rg_3_ok (x op r0 r1 r2 im : Int) (w : World) (h0 : 0 ≤ x) (h1 : x ≤ 4294967295) (g0 : isr r0 = true) :
    Calls Tryz.prog 50 #[.agg #[.bool true, .bool false, .bool false], .int .u32 x, inst op r0 r1 r2 im] w fun e w' => e = .returned (.tuple #[.int .u32 (rgPut true false false x r0 r1 r2), .bool true]) ∧ Below w.heap.size w w' := by
  have HR0 := hide (fun w => isr_any r0 w)
  rw [g0] at HR0
  have b0 := isr_yes g0
  clear g0
  have HY := hide (show rgPut true false false x r0 r1 r2 = _ from rfl)
  unfold inst
  clear HY
  obtain ⟨y, hy⟩ : ∃ y, y = rgPut true false false x r0 r1 r2 := ⟨_, rfl⟩
  rw [← hy]
  have HY := hide hy
  clear hy
  go_enter Tryz.func50, Tryz.ntmps50
  go_wp2_with fail
  refine (HR0.out _).mono ?_
  rintro e W ⟨rfl, hW⟩
  rw [hW]
  clear hW W HR0
  go_wp2
  go_ret2
  exact rg_ret (by rw [HY.out]; simp only [rgPut, if_true, Bool.false_eq_true, if_false]) (by go_grown)

set_option maxHeartbeats 800000 in
theorem rg_3_0 (x op r0 r1 r2 im : Int) (w : World) (h0 : 0 ≤ x) (h1 : x ≤ 4294967295) (g0 : isr r0 = false) :
    Calls Tryz.prog 50 #[.agg #[.bool true, .bool false, .bool false], .int .u32 x, inst op r0 r1 r2 im] w fun e w' => e = .returned (.tuple #[.int .u32 0, .bool false]) ∧ Below w.heap.size w w' := by
  have HR0 := hide (fun w => isr_any r0 w)
  rw [g0] at HR0
  clear g0
  unfold inst
  go_enter Tryz.func50, Tryz.ntmps50
  go_wp2_with fail
  refine (HR0.out _).mono ?_
  rintro e W ⟨rfl, hW⟩
  rw [hW]
  clear hW W HR0
  go_wp2
  go_ret2
  exact ⟨rfl, by go_grown⟩

set_option maxHeartbeats 800000 in
theorem rg_4_ok (x op r0 r1 r2 im : Int) (w : World) (h0 : 0 ≤ x) (h1 : x ≤ 4294967295) :
    Calls Tryz.prog 50 #[.agg #[.bool false, .bool false, .bool false], .int .u32 x, inst op r0 r1 r2 im] w fun e w' => e = .returned (.tuple #[.int .u32 (rgPut false false false x r0 r1 r2), .bool true]) ∧ Below w.heap.size w w' := by
  have HY := hide (show rgPut false false false x r0 r1 r2 = _ from rfl)
  unfold inst
  clear HY
  obtain ⟨y, hy⟩ : ∃ y, y = rgPut false false false x r0 r1 r2 := ⟨_, rfl⟩
  rw [← hy]
  have HY := hide hy
  clear hy
  go_enter Tryz.func50, Tryz.ntmps50
  go_wp2
  go_ret2
  exact rg_ret (by rw [HY.out]; simp only [rgPut, if_true, Bool.false_eq_true, if_false]) (by go_grown)

end Go.Proofs.YtcghekkhbiomgaaGreatDoor
