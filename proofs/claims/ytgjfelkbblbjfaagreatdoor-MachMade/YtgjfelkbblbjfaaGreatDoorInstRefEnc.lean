/- The document's Encode, a case at a time. -/
import Derived.Test.YtgjfelkbblbjfaaGreatDoorJ24
import Derived.Test.YtgjfelkbblbjfaaGreatDoorJ32
import Derived.Test.YtgjfelkbblbjfaaGreatDoorImmRef
namespace Go.Proofs.YtgjfelkbblbjfaaGreatDoor
open Go.RowKit
set_option linter.unusedVariables false
set_option maxRecDepth 100000
set_option linter.unusedSimpArgs false

/-- A word as the document's Encode makes it, ahead of its immediate. -/
def rw3 (d a b : Bool) (c0 f0 r0 r1 r2 : Int) : Int :=
  let x1 := if a = true then bits .or .u32 c0 (bits .or .u32 (f0 * 4096) (r1 * 32768)) else c0
  let x2 := if d = true then bits .or .u32 x1 (r0 * 128) else x1
  if b = true then bits .or .u32 x2 (r2 * 1048576) else x2

theorem ren_ret {a b : Int} {w w' : World} (h : a = b) (hb : Below w.heap.size w w') : Ending.returned (Value.tuple #[.int .u32 a, .bool true]) = .returned (.tuple #[.int .u32 b, .bool true]) ∧ Below w.heap.size w w' := by
  subst h; exact ⟨rfl, hb⟩

theorem rw3_bd (d a b : Bool) (c0 f0 r0 r1 r2 : Int) (h : 0 ≤ c0 ∧ c0 ≤ 4294967295) : 0 ≤ rw3 d a b c0 f0 r0 r1 r2 ∧ rw3 d a b c0 f0 r0 r1 r2 ≤ 4294967295 := by
  unfold rw3
  cases d <;> cases a <;> cases b <;> simp only [if_true, Bool.false_eq_true, if_false] <;> first | exact h | exact bits_bd ..

set_option maxRecDepth 100000 in
set_option maxHeartbeats 800000 in
theorem renc_0_b0 (k : Nat) (r0 r1 r2 im c0 f0 u0 : Int) (w : World) (k0 : 1 ≤ (k : Int)) (k1 : (k : Int) < 63) (v0 : -9223372036854775808 ≤ im) (v1 : im ≤ 9223372036854775807) (bc : 0 ≤ c0 ∧ c0 ≤ 127) (bf : 0 ≤ f0 ∧ f0 ≤ 7) (bu : 0 ≤ u0 ∧ u0 ≤ 127) (g0 : isr r0 = false)
    (HC : Hid (∀ w, Calls Tryz.prog 28 #[.int .i64 k] w fun e w' => e = .returned (.agg #[.int .u32 c0, .int .u32 f0, .int .u32 u0]) ∧ Below w.heap.size w w'))
    (HF : Hid (∀ w, Calls Tryz.prog 6 #[.int .i64 k] w fun e w' => e = .returned (.int .i64 0) ∧ w' = w)) :
    Calls Tryz.prog 7 #[inst k r0 r1 r2 im] w fun e w' => e = .returned (.tuple #[.int .u32 0, .bool false]) ∧ Below w.heap.size w w' := by
  have t3 : ((k : Int) == 63) = false := by simp; omega
  have t4 : ((k : Int) == 64) = false := by simp; omega
  have t5 : ((k : Int) == 65) = false := by simp; omega
  have HR0 := hide (fun w => isr2_any r0 w)
  rw [g0] at HR0
  clear g0
  unfold inst
  go_enter Tryz.func7, Tryz.ntmps7
  go_wp2_with fail
  refine (HC.out _).mono ?_
  rintro e W1 ⟨rfl, hB⟩
  have c0' : W1.cell? ⟨w.heap.size, 0, none⟩ = some (.int .i64 k) := cell_below hB (by go_simp)
  have c1' : W1.cell? ⟨w.heap.size, 1, none⟩ = some (.int .i64 r0) := cell_below hB (by go_simp)
  have c2' : W1.cell? ⟨w.heap.size, 2, none⟩ = some (.int .i64 r1) := cell_below hB (by go_simp)
  have c3' : W1.cell? ⟨w.heap.size, 3, none⟩ = some (.int .i64 r2) := cell_below hB (by go_simp)
  have c4' : W1.cell? ⟨w.heap.size, 4, none⟩ = some (.int .i64 im) := cell_below hB (by go_simp)
  have hlt : w.heap.size < W1.heap.size := World.block_lt_of_cell? _ _ c0'
  have B1 : Hid (Below w.heap.size w W1) := hide (((Below.refl _ w).alloc (Nat.le_refl _) _).trans (hB.mono (by simp)))
  clear hB HC
  go_wp2_with fail
  refine (HF.out _).mono ?_
  rintro e W ⟨rfl, hW⟩
  rw [hW]
  clear hW W HF
  go_wp2_with fail
  refine (HR0.out _).mono ?_
  rintro e W ⟨rfl, hW⟩
  rw [hW]
  clear hW W HR0
  go_wp2
  go_ret2
  exact ⟨rfl, B1.out.alloc B1.out.size _⟩

set_option maxRecDepth 100000 in
set_option maxHeartbeats 800000 in
theorem renc_0_b1 (k : Nat) (r0 r1 r2 im c0 f0 u0 : Int) (w : World) (k0 : 1 ≤ (k : Int)) (k1 : (k : Int) < 63) (v0 : -9223372036854775808 ≤ im) (v1 : im ≤ 9223372036854775807) (bc : 0 ≤ c0 ∧ c0 ≤ 127) (bf : 0 ≤ f0 ∧ f0 ≤ 7) (bu : 0 ≤ u0 ∧ u0 ≤ 127) (g0 : isr r0 = true) (g1 : isr r1 = false)
    (HC : Hid (∀ w, Calls Tryz.prog 28 #[.int .i64 k] w fun e w' => e = .returned (.agg #[.int .u32 c0, .int .u32 f0, .int .u32 u0]) ∧ Below w.heap.size w w'))
    (HF : Hid (∀ w, Calls Tryz.prog 6 #[.int .i64 k] w fun e w' => e = .returned (.int .i64 0) ∧ w' = w)) :
    Calls Tryz.prog 7 #[inst k r0 r1 r2 im] w fun e w' => e = .returned (.tuple #[.int .u32 0, .bool false]) ∧ Below w.heap.size w w' := by
  have t3 : ((k : Int) == 63) = false := by simp; omega
  have t4 : ((k : Int) == 64) = false := by simp; omega
  have t5 : ((k : Int) == 65) = false := by simp; omega
  have HR0 := hide (fun w => isr2_any r0 w)
  rw [g0] at HR0
  clear g0
  have HR1 := hide (fun w => isr2_any r1 w)
  rw [g1] at HR1
  clear g1
  unfold inst
  go_enter Tryz.func7, Tryz.ntmps7
  go_wp2_with fail
  refine (HC.out _).mono ?_
  rintro e W1 ⟨rfl, hB⟩
  have c0' : W1.cell? ⟨w.heap.size, 0, none⟩ = some (.int .i64 k) := cell_below hB (by go_simp)
  have c1' : W1.cell? ⟨w.heap.size, 1, none⟩ = some (.int .i64 r0) := cell_below hB (by go_simp)
  have c2' : W1.cell? ⟨w.heap.size, 2, none⟩ = some (.int .i64 r1) := cell_below hB (by go_simp)
  have c3' : W1.cell? ⟨w.heap.size, 3, none⟩ = some (.int .i64 r2) := cell_below hB (by go_simp)
  have c4' : W1.cell? ⟨w.heap.size, 4, none⟩ = some (.int .i64 im) := cell_below hB (by go_simp)
  have hlt : w.heap.size < W1.heap.size := World.block_lt_of_cell? _ _ c0'
  have B1 : Hid (Below w.heap.size w W1) := hide (((Below.refl _ w).alloc (Nat.le_refl _) _).trans (hB.mono (by simp)))
  clear hB HC
  go_wp2_with fail
  refine (HF.out _).mono ?_
  rintro e W ⟨rfl, hW⟩
  rw [hW]
  clear hW W HF
  go_wp2_with fail
  refine (HR0.out _).mono ?_
  rintro e W ⟨rfl, hW⟩
  rw [hW]
  clear hW W HR0
  go_wp2_with fail
  refine (HR1.out _).mono ?_
  rintro e W ⟨rfl, hW⟩
  rw [hW]
  clear hW W HR1
  go_wp2
  go_ret2
  exact ⟨rfl, B1.out.alloc B1.out.size _⟩

set_option maxRecDepth 100000 in
set_option maxHeartbeats 800000 in
theorem renc_0_b2 (k : Nat) (r0 r1 r2 im c0 f0 u0 : Int) (w : World) (k0 : 1 ≤ (k : Int)) (k1 : (k : Int) < 63) (v0 : -9223372036854775808 ≤ im) (v1 : im ≤ 9223372036854775807) (bc : 0 ≤ c0 ∧ c0 ≤ 127) (bf : 0 ≤ f0 ∧ f0 ≤ 7) (bu : 0 ≤ u0 ∧ u0 ≤ 127) (g0 : isr r0 = true) (g1 : isr r1 = true) (g2 : isr r2 = false)
    (HC : Hid (∀ w, Calls Tryz.prog 28 #[.int .i64 k] w fun e w' => e = .returned (.agg #[.int .u32 c0, .int .u32 f0, .int .u32 u0]) ∧ Below w.heap.size w w'))
    (HF : Hid (∀ w, Calls Tryz.prog 6 #[.int .i64 k] w fun e w' => e = .returned (.int .i64 0) ∧ w' = w)) :
    Calls Tryz.prog 7 #[inst k r0 r1 r2 im] w fun e w' => e = .returned (.tuple #[.int .u32 0, .bool false]) ∧ Below w.heap.size w w' := by
  have t3 : ((k : Int) == 63) = false := by simp; omega
  have t4 : ((k : Int) == 64) = false := by simp; omega
  have t5 : ((k : Int) == 65) = false := by simp; omega
  have HR0 := hide (fun w => isr2_any r0 w)
  rw [g0] at HR0
  clear g0
  have HR1 := hide (fun w => isr2_any r1 w)
  rw [g1] at HR1
  clear g1
  have HR2 := hide (fun w => isr2_any r2 w)
  rw [g2] at HR2
  clear g2
  unfold inst
  go_enter Tryz.func7, Tryz.ntmps7
  go_wp2_with fail
  refine (HC.out _).mono ?_
  rintro e W1 ⟨rfl, hB⟩
  have c0' : W1.cell? ⟨w.heap.size, 0, none⟩ = some (.int .i64 k) := cell_below hB (by go_simp)
  have c1' : W1.cell? ⟨w.heap.size, 1, none⟩ = some (.int .i64 r0) := cell_below hB (by go_simp)
  have c2' : W1.cell? ⟨w.heap.size, 2, none⟩ = some (.int .i64 r1) := cell_below hB (by go_simp)
  have c3' : W1.cell? ⟨w.heap.size, 3, none⟩ = some (.int .i64 r2) := cell_below hB (by go_simp)
  have c4' : W1.cell? ⟨w.heap.size, 4, none⟩ = some (.int .i64 im) := cell_below hB (by go_simp)
  have hlt : w.heap.size < W1.heap.size := World.block_lt_of_cell? _ _ c0'
  have B1 : Hid (Below w.heap.size w W1) := hide (((Below.refl _ w).alloc (Nat.le_refl _) _).trans (hB.mono (by simp)))
  clear hB HC
  go_wp2_with fail
  refine (HF.out _).mono ?_
  rintro e W ⟨rfl, hW⟩
  rw [hW]
  clear hW W HF
  go_wp2_with fail
  refine (HR0.out _).mono ?_
  rintro e W ⟨rfl, hW⟩
  rw [hW]
  clear hW W HR0
  go_wp2_with fail
  refine (HR1.out _).mono ?_
  rintro e W ⟨rfl, hW⟩
  rw [hW]
  clear hW W HR1
  go_wp2_with fail
  refine (HR2.out _).mono ?_
  rintro e W ⟨rfl, hW⟩
  rw [hW]
  clear hW W HR2
  go_wp2
  go_ret2
  exact ⟨rfl, B1.out.alloc B1.out.size _⟩

set_option maxRecDepth 100000 in
set_option maxHeartbeats 800000 in
theorem renc_0_ne (k : Nat) (r0 r1 r2 im c0 f0 u0 : Int) (w : World) (k0 : 1 ≤ (k : Int)) (k1 : (k : Int) < 63) (v0 : -9223372036854775808 ≤ im) (v1 : im ≤ 9223372036854775807) (bc : 0 ≤ c0 ∧ c0 ≤ 127) (bf : 0 ≤ f0 ∧ f0 ≤ 7) (bu : 0 ≤ u0 ∧ u0 ≤ 127) (g0 : isr r0 = true) (g1 : isr r1 = true) (g2 : isr r2 = true) (hi : (im == 0) = false)
    (HC : Hid (∀ w, Calls Tryz.prog 28 #[.int .i64 k] w fun e w' => e = .returned (.agg #[.int .u32 c0, .int .u32 f0, .int .u32 u0]) ∧ Below w.heap.size w w'))
    (HF : Hid (∀ w, Calls Tryz.prog 6 #[.int .i64 k] w fun e w' => e = .returned (.int .i64 0) ∧ w' = w)) :
    Calls Tryz.prog 7 #[inst k r0 r1 r2 im] w fun e w' => e = .returned (.tuple #[.int .u32 0, .bool false]) ∧ Below w.heap.size w w' := by
  have t3 : ((k : Int) == 63) = false := by simp; omega
  have t4 : ((k : Int) == 64) = false := by simp; omega
  have t5 : ((k : Int) == 65) = false := by simp; omega
  have HR0 := hide (fun w => isr2_any r0 w)
  rw [g0] at HR0
  have b0 := isr_yes g0
  clear g0
  have HR1 := hide (fun w => isr2_any r1 w)
  rw [g1] at HR1
  have b1 := isr_yes g1
  clear g1
  have HR2 := hide (fun w => isr2_any r2 w)
  rw [g2] at HR2
  have b2 := isr_yes g2
  clear g2
  unfold inst
  go_enter Tryz.func7, Tryz.ntmps7
  go_wp2_with fail
  refine (HC.out _).mono ?_
  rintro e W1 ⟨rfl, hB⟩
  have c0' : W1.cell? ⟨w.heap.size, 0, none⟩ = some (.int .i64 k) := cell_below hB (by go_simp)
  have c1' : W1.cell? ⟨w.heap.size, 1, none⟩ = some (.int .i64 r0) := cell_below hB (by go_simp)
  have c2' : W1.cell? ⟨w.heap.size, 2, none⟩ = some (.int .i64 r1) := cell_below hB (by go_simp)
  have c3' : W1.cell? ⟨w.heap.size, 3, none⟩ = some (.int .i64 r2) := cell_below hB (by go_simp)
  have c4' : W1.cell? ⟨w.heap.size, 4, none⟩ = some (.int .i64 im) := cell_below hB (by go_simp)
  have hlt : w.heap.size < W1.heap.size := World.block_lt_of_cell? _ _ c0'
  have B1 : Hid (Below w.heap.size w W1) := hide (((Below.refl _ w).alloc (Nat.le_refl _) _).trans (hB.mono (by simp)))
  clear hB HC
  go_wp2_with fail
  refine (HF.out _).mono ?_
  rintro e W ⟨rfl, hW⟩
  rw [hW]
  clear hW W HF
  go_wp2_with fail
  refine (HR0.out _).mono ?_
  rintro e W ⟨rfl, hW⟩
  rw [hW]
  clear hW W HR0
  go_wp2_with fail
  refine (HR1.out _).mono ?_
  rintro e W ⟨rfl, hW⟩
  rw [hW]
  clear hW W HR1
  go_wp2_with fail
  refine (HR2.out _).mono ?_
  rintro e W ⟨rfl, hW⟩
  rw [hW]
  clear hW W HR2
  go_wp2
  go_ret2
  exact ⟨rfl, B1.out.alloc B1.out.size _⟩

set_option maxRecDepth 100000 in
set_option maxHeartbeats 800000 in
theorem renc_0_ok (k : Nat) (r0 r1 r2 im c0 f0 u0 : Int) (w : World) (k0 : 1 ≤ (k : Int)) (k1 : (k : Int) < 63) (v0 : -9223372036854775808 ≤ im) (v1 : im ≤ 9223372036854775807) (bc : 0 ≤ c0 ∧ c0 ≤ 127) (bf : 0 ≤ f0 ∧ f0 ≤ 7) (bu : 0 ≤ u0 ∧ u0 ≤ 127) (g0 : isr r0 = true) (g1 : isr r1 = true) (g2 : isr r2 = true) (hi : (im == 0) = true)
    (HC : Hid (∀ w, Calls Tryz.prog 28 #[.int .i64 k] w fun e w' => e = .returned (.agg #[.int .u32 c0, .int .u32 f0, .int .u32 u0]) ∧ Below w.heap.size w w'))
    (HF : Hid (∀ w, Calls Tryz.prog 6 #[.int .i64 k] w fun e w' => e = .returned (.int .i64 0) ∧ w' = w)) :
    Calls Tryz.prog 7 #[inst k r0 r1 r2 im] w fun e w' => e = .returned (.tuple #[.int .u32 (bits .or .u32 (rw3 true true true c0 f0 r0 r1 r2) (u0 * 33554432)), .bool true]) ∧ Below w.heap.size w w' := by
  have t3 : ((k : Int) == 63) = false := by simp; omega
  have t4 : ((k : Int) == 64) = false := by simp; omega
  have t5 : ((k : Int) == 65) = false := by simp; omega
  have HR0 := hide (fun w => isr2_any r0 w)
  rw [g0] at HR0
  have b0 := isr_yes g0
  clear g0
  have HR1 := hide (fun w => isr2_any r1 w)
  rw [g1] at HR1
  have b1 := isr_yes g1
  clear g1
  have HR2 := hide (fun w => isr2_any r2 w)
  rw [g2] at HR2
  have b2 := isr_yes g2
  clear g2
  obtain ⟨y, hy⟩ : ∃ y, y = (rw3 true true true c0 f0 r0 r1 r2) := ⟨_, rfl⟩
  rw [← hy]
  have HY := hide hy
  clear hy
  obtain ⟨z, hz⟩ : ∃ z, z = (bits .or .u32 y (u0 * 33554432)) := ⟨_, rfl⟩
  rw [← hz]
  have HZ := hide hz
  clear hz
  unfold inst
  go_enter Tryz.func7, Tryz.ntmps7
  go_wp2_with fail
  refine (HC.out _).mono ?_
  rintro e W1 ⟨rfl, hB⟩
  have c0' : W1.cell? ⟨w.heap.size, 0, none⟩ = some (.int .i64 k) := cell_below hB (by go_simp)
  have c1' : W1.cell? ⟨w.heap.size, 1, none⟩ = some (.int .i64 r0) := cell_below hB (by go_simp)
  have c2' : W1.cell? ⟨w.heap.size, 2, none⟩ = some (.int .i64 r1) := cell_below hB (by go_simp)
  have c3' : W1.cell? ⟨w.heap.size, 3, none⟩ = some (.int .i64 r2) := cell_below hB (by go_simp)
  have c4' : W1.cell? ⟨w.heap.size, 4, none⟩ = some (.int .i64 im) := cell_below hB (by go_simp)
  have hlt : w.heap.size < W1.heap.size := World.block_lt_of_cell? _ _ c0'
  have B1 : Hid (Below w.heap.size w W1) := hide (((Below.refl _ w).alloc (Nat.le_refl _) _).trans (hB.mono (by simp)))
  clear hB HC
  go_wp2_with fail
  refine (HF.out _).mono ?_
  rintro e W ⟨rfl, hW⟩
  rw [hW]
  clear hW W HF
  go_wp2_with fail
  refine (HR0.out _).mono ?_
  rintro e W ⟨rfl, hW⟩
  rw [hW]
  clear hW W HR0
  go_wp2_with fail
  refine (HR1.out _).mono ?_
  rintro e W ⟨rfl, hW⟩
  rw [hW]
  clear hW W HR1
  go_wp2_with fail
  refine (HR2.out _).mono ?_
  rintro e W ⟨rfl, hW⟩
  rw [hW]
  clear hW W HR2
  go_wp2
  go_ret2
  refine ren_ret ?_ (B1.out.alloc B1.out.size _)
  rw [HZ.out, HY.out]
  simp only [rw3, if_true, Bool.false_eq_true, if_false]

set_option maxRecDepth 100000 in
set_option maxHeartbeats 800000 in
theorem renc_1_b0 (k : Nat) (r0 r1 r2 im c0 f0 u0 : Int) (w : World) (k0 : 1 ≤ (k : Int)) (k1 : (k : Int) < 63) (v0 : -9223372036854775808 ≤ im) (v1 : im ≤ 9223372036854775807) (bc : 0 ≤ c0 ∧ c0 ≤ 127) (bf : 0 ≤ f0 ∧ f0 ≤ 7) (bu : 0 ≤ u0 ∧ u0 ≤ 127) (g0 : isr r0 = false)
    (HC : Hid (∀ w, Calls Tryz.prog 28 #[.int .i64 k] w fun e w' => e = .returned (.agg #[.int .u32 c0, .int .u32 f0, .int .u32 u0]) ∧ Below w.heap.size w w'))
    (HF : Hid (∀ w, Calls Tryz.prog 6 #[.int .i64 k] w fun e w' => e = .returned (.int .i64 1) ∧ w' = w)) :
    Calls Tryz.prog 7 #[inst k r0 r1 r2 im] w fun e w' => e = .returned (.tuple #[.int .u32 0, .bool false]) ∧ Below w.heap.size w w' := by
  have t3 : ((k : Int) == 63) = false := by simp; omega
  have t4 : ((k : Int) == 64) = false := by simp; omega
  have t5 : ((k : Int) == 65) = false := by simp; omega
  have HR0 := hide (fun w => isr2_any r0 w)
  rw [g0] at HR0
  clear g0
  unfold inst
  go_enter Tryz.func7, Tryz.ntmps7
  go_wp2_with fail
  refine (HC.out _).mono ?_
  rintro e W1 ⟨rfl, hB⟩
  have c0' : W1.cell? ⟨w.heap.size, 0, none⟩ = some (.int .i64 k) := cell_below hB (by go_simp)
  have c1' : W1.cell? ⟨w.heap.size, 1, none⟩ = some (.int .i64 r0) := cell_below hB (by go_simp)
  have c2' : W1.cell? ⟨w.heap.size, 2, none⟩ = some (.int .i64 r1) := cell_below hB (by go_simp)
  have c3' : W1.cell? ⟨w.heap.size, 3, none⟩ = some (.int .i64 r2) := cell_below hB (by go_simp)
  have c4' : W1.cell? ⟨w.heap.size, 4, none⟩ = some (.int .i64 im) := cell_below hB (by go_simp)
  have hlt : w.heap.size < W1.heap.size := World.block_lt_of_cell? _ _ c0'
  have B1 : Hid (Below w.heap.size w W1) := hide (((Below.refl _ w).alloc (Nat.le_refl _) _).trans (hB.mono (by simp)))
  clear hB HC
  go_wp2_with fail
  refine (HF.out _).mono ?_
  rintro e W ⟨rfl, hW⟩
  rw [hW]
  clear hW W HF
  go_wp2_with fail
  refine (HR0.out _).mono ?_
  rintro e W ⟨rfl, hW⟩
  rw [hW]
  clear hW W HR0
  go_wp2
  go_ret2
  exact ⟨rfl, B1.out.alloc B1.out.size _⟩

set_option maxRecDepth 100000 in
set_option maxHeartbeats 800000 in
theorem renc_1_b1 (k : Nat) (r0 r1 r2 im c0 f0 u0 : Int) (w : World) (k0 : 1 ≤ (k : Int)) (k1 : (k : Int) < 63) (v0 : -9223372036854775808 ≤ im) (v1 : im ≤ 9223372036854775807) (bc : 0 ≤ c0 ∧ c0 ≤ 127) (bf : 0 ≤ f0 ∧ f0 ≤ 7) (bu : 0 ≤ u0 ∧ u0 ≤ 127) (g0 : isr r0 = true) (g1 : isr r1 = false)
    (HC : Hid (∀ w, Calls Tryz.prog 28 #[.int .i64 k] w fun e w' => e = .returned (.agg #[.int .u32 c0, .int .u32 f0, .int .u32 u0]) ∧ Below w.heap.size w w'))
    (HF : Hid (∀ w, Calls Tryz.prog 6 #[.int .i64 k] w fun e w' => e = .returned (.int .i64 1) ∧ w' = w)) :
    Calls Tryz.prog 7 #[inst k r0 r1 r2 im] w fun e w' => e = .returned (.tuple #[.int .u32 0, .bool false]) ∧ Below w.heap.size w w' := by
  have t3 : ((k : Int) == 63) = false := by simp; omega
  have t4 : ((k : Int) == 64) = false := by simp; omega
  have t5 : ((k : Int) == 65) = false := by simp; omega
  have HR0 := hide (fun w => isr2_any r0 w)
  rw [g0] at HR0
  clear g0
  have HR1 := hide (fun w => isr2_any r1 w)
  rw [g1] at HR1
  clear g1
  unfold inst
  go_enter Tryz.func7, Tryz.ntmps7
  go_wp2_with fail
  refine (HC.out _).mono ?_
  rintro e W1 ⟨rfl, hB⟩
  have c0' : W1.cell? ⟨w.heap.size, 0, none⟩ = some (.int .i64 k) := cell_below hB (by go_simp)
  have c1' : W1.cell? ⟨w.heap.size, 1, none⟩ = some (.int .i64 r0) := cell_below hB (by go_simp)
  have c2' : W1.cell? ⟨w.heap.size, 2, none⟩ = some (.int .i64 r1) := cell_below hB (by go_simp)
  have c3' : W1.cell? ⟨w.heap.size, 3, none⟩ = some (.int .i64 r2) := cell_below hB (by go_simp)
  have c4' : W1.cell? ⟨w.heap.size, 4, none⟩ = some (.int .i64 im) := cell_below hB (by go_simp)
  have hlt : w.heap.size < W1.heap.size := World.block_lt_of_cell? _ _ c0'
  have B1 : Hid (Below w.heap.size w W1) := hide (((Below.refl _ w).alloc (Nat.le_refl _) _).trans (hB.mono (by simp)))
  clear hB HC
  go_wp2_with fail
  refine (HF.out _).mono ?_
  rintro e W ⟨rfl, hW⟩
  rw [hW]
  clear hW W HF
  go_wp2_with fail
  refine (HR0.out _).mono ?_
  rintro e W ⟨rfl, hW⟩
  rw [hW]
  clear hW W HR0
  go_wp2_with fail
  refine (HR1.out _).mono ?_
  rintro e W ⟨rfl, hW⟩
  rw [hW]
  clear hW W HR1
  go_wp2
  go_ret2
  exact ⟨rfl, B1.out.alloc B1.out.size _⟩

set_option maxRecDepth 100000 in
set_option maxHeartbeats 800000 in
theorem renc_1_ok (k : Nat) (r0 r1 r2 im c0 f0 u0 : Int) (w : World) (k0 : 1 ≤ (k : Int)) (k1 : (k : Int) < 63) (v0 : -9223372036854775808 ≤ im) (v1 : im ≤ 9223372036854775807) (bc : 0 ≤ c0 ∧ c0 ≤ 127) (bf : 0 ≤ f0 ∧ f0 ≤ 7) (bu : 0 ≤ u0 ∧ u0 ≤ 127) (g0 : isr r0 = true) (g1 : isr r1 = true) (s6 : (decide (28 ≤ (k : Int)) && decide ((k : Int) ≤ 30)) = false) (s5 : (decide (42 ≤ (k : Int)) && decide ((k : Int) ≤ 44)) = false)
    (HC : Hid (∀ w, Calls Tryz.prog 28 #[.int .i64 k] w fun e w' => e = .returned (.agg #[.int .u32 c0, .int .u32 f0, .int .u32 u0]) ∧ Below w.heap.size w w'))
    (HF : Hid (∀ w, Calls Tryz.prog 6 #[.int .i64 k] w fun e w' => e = .returned (.int .i64 1) ∧ w' = w)) :
    Calls Tryz.prog 7 #[inst k r0 r1 r2 im] w fun e w' => e = .returned (.tuple #[.int .u32 (putOf 1 (rw3 true true false c0 f0 r0 r1 r2) im), .bool (fitsOf 1 im)]) ∧ Below w.heap.size w w' := by
  have t3 : ((k : Int) == 63) = false := by simp; omega
  have t4 : ((k : Int) == 64) = false := by simp; omega
  have t5 : ((k : Int) == 65) = false := by simp; omega
  have HR0 := hide (fun w => isr2_any r0 w)
  rw [g0] at HR0
  have b0 := isr_yes g0
  clear g0
  have HR1 := hide (fun w => isr2_any r1 w)
  rw [g1] at HR1
  have b1 := isr_yes g1
  clear g1
  have H6 := hide (fun w => shift6_any k w)
  rw [s6] at H6
  clear s6
  have H5 := hide (fun w => shift5_any k w)
  rw [s5] at H5
  clear s5
  have hb3 : 0 ≤ (rw3 true true false c0 f0 r0 r1 r2) ∧ (rw3 true true false c0 f0 r0 r1 r2) ≤ 4294967295 := rw3_bd _ _ _ _ _ _ _ _ (by omega)
  have HP := hide (fun w => rput2_any 1 (rw3 true true false c0 f0 r0 r1 r2) im w hb3.1 hb3.2 v0 v1)
  obtain ⟨y, hy⟩ : ∃ y, y = (rw3 true true false c0 f0 r0 r1 r2) := ⟨_, rfl⟩
  rw [← hy] at HP hb3 ⊢
  have HY := hide hy
  clear hy
  generalize putOf 1 y im = z at *
  generalize fitsOf 1 im = zb at *
  unfold inst
  go_enter Tryz.func7, Tryz.ntmps7
  go_wp2_with fail
  refine (HC.out _).mono ?_
  rintro e W1 ⟨rfl, hB⟩
  have c0' : W1.cell? ⟨w.heap.size, 0, none⟩ = some (.int .i64 k) := cell_below hB (by go_simp)
  have c1' : W1.cell? ⟨w.heap.size, 1, none⟩ = some (.int .i64 r0) := cell_below hB (by go_simp)
  have c2' : W1.cell? ⟨w.heap.size, 2, none⟩ = some (.int .i64 r1) := cell_below hB (by go_simp)
  have c3' : W1.cell? ⟨w.heap.size, 3, none⟩ = some (.int .i64 r2) := cell_below hB (by go_simp)
  have c4' : W1.cell? ⟨w.heap.size, 4, none⟩ = some (.int .i64 im) := cell_below hB (by go_simp)
  have hlt : w.heap.size < W1.heap.size := World.block_lt_of_cell? _ _ c0'
  have B1 : Hid (Below w.heap.size w W1) := hide (((Below.refl _ w).alloc (Nat.le_refl _) _).trans (hB.mono (by simp)))
  clear hB HC
  go_wp2_with fail
  refine (HF.out _).mono ?_
  rintro e W ⟨rfl, hW⟩
  rw [hW]
  clear hW W HF
  go_wp2_with fail
  refine (HR0.out _).mono ?_
  rintro e W ⟨rfl, hW⟩
  rw [hW]
  clear hW W HR0
  go_wp2_with fail
  refine (HR1.out _).mono ?_
  rintro e W ⟨rfl, hW⟩
  rw [hW]
  clear hW W HR1
  go_wp2_with fail
  refine (H6.out _).mono ?_
  rintro e W ⟨rfl, hW⟩
  rw [hW]
  clear hW W H6
  go_wp2_with fail
  refine (H5.out _).mono ?_
  rintro e W ⟨rfl, hW⟩
  rw [hW]
  clear hW W H5
  go_wp2_with fail
  have hy := HY.out
  simp only [rw3, if_true, Bool.false_eq_true, if_false] at hy
  rw [← hy]
  clear hy
  refine (HP.out _).mono ?_
  rintro e W ⟨rfl, hW⟩
  rw [hW]
  clear hW W HP
  go_wp2
  go_ret2
  exact ⟨rfl, B1.out.alloc B1.out.size _⟩

set_option maxRecDepth 100000 in
set_option maxHeartbeats 800000 in
theorem renc_1_6ok (k : Nat) (r0 r1 r2 im c0 f0 u0 : Int) (w : World) (k0 : 1 ≤ (k : Int)) (k1 : (k : Int) < 63) (v0 : -9223372036854775808 ≤ im) (v1 : im ≤ 9223372036854775807) (bc : 0 ≤ c0 ∧ c0 ≤ 127) (bf : 0 ≤ f0 ∧ f0 ≤ 7) (bu : 0 ≤ u0 ∧ u0 ≤ 63) (g0 : isr r0 = true) (g1 : isr r1 = true) (i1 : 0 ≤ im) (i2 : im ≤ 63) (s6 : (decide (28 ≤ (k : Int)) && decide ((k : Int) ≤ 30)) = true)
    (HC : Hid (∀ w, Calls Tryz.prog 28 #[.int .i64 k] w fun e w' => e = .returned (.agg #[.int .u32 c0, .int .u32 f0, .int .u32 u0]) ∧ Below w.heap.size w w'))
    (HF : Hid (∀ w, Calls Tryz.prog 6 #[.int .i64 k] w fun e w' => e = .returned (.int .i64 1) ∧ w' = w)) :
    Calls Tryz.prog 7 #[inst k r0 r1 r2 im] w fun e w' => e = .returned (.tuple #[.int .u32 (bits .or .u32 (bits .or .u32 (rw3 true true false c0 f0 r0 r1 r2) (im * 1048576)) (u0 * 67108864)), .bool true]) ∧ Below w.heap.size w w' := by
  have t3 : ((k : Int) == 63) = false := by simp; omega
  have t4 : ((k : Int) == 64) = false := by simp; omega
  have t5 : ((k : Int) == 65) = false := by simp; omega
  have HR0 := hide (fun w => isr2_any r0 w)
  rw [g0] at HR0
  have b0 := isr_yes g0
  clear g0
  have HR1 := hide (fun w => isr2_any r1 w)
  rw [g1] at HR1
  have b1 := isr_yes g1
  clear g1
  have H6 := hide (fun w => shift6_any k w)
  rw [s6] at H6
  clear s6
  obtain ⟨y, hy⟩ : ∃ y, y = (rw3 true true false c0 f0 r0 r1 r2) := ⟨_, rfl⟩
  rw [← hy]
  have HY := hide hy
  clear hy
  obtain ⟨z, hz⟩ : ∃ z, z = (bits .or .u32 (bits .or .u32 y (im * 1048576)) (u0 * 67108864)) := ⟨_, rfl⟩
  rw [← hz]
  have HZ := hide hz
  clear hz
  unfold inst
  go_enter Tryz.func7, Tryz.ntmps7
  go_wp2_with fail
  refine (HC.out _).mono ?_
  rintro e W1 ⟨rfl, hB⟩
  have c0' : W1.cell? ⟨w.heap.size, 0, none⟩ = some (.int .i64 k) := cell_below hB (by go_simp)
  have c1' : W1.cell? ⟨w.heap.size, 1, none⟩ = some (.int .i64 r0) := cell_below hB (by go_simp)
  have c2' : W1.cell? ⟨w.heap.size, 2, none⟩ = some (.int .i64 r1) := cell_below hB (by go_simp)
  have c3' : W1.cell? ⟨w.heap.size, 3, none⟩ = some (.int .i64 r2) := cell_below hB (by go_simp)
  have c4' : W1.cell? ⟨w.heap.size, 4, none⟩ = some (.int .i64 im) := cell_below hB (by go_simp)
  have hlt : w.heap.size < W1.heap.size := World.block_lt_of_cell? _ _ c0'
  have B1 : Hid (Below w.heap.size w W1) := hide (((Below.refl _ w).alloc (Nat.le_refl _) _).trans (hB.mono (by simp)))
  clear hB HC
  go_wp2_with fail
  refine (HF.out _).mono ?_
  rintro e W ⟨rfl, hW⟩
  rw [hW]
  clear hW W HF
  go_wp2_with fail
  refine (HR0.out _).mono ?_
  rintro e W ⟨rfl, hW⟩
  rw [hW]
  clear hW W HR0
  go_wp2_with fail
  refine (HR1.out _).mono ?_
  rintro e W ⟨rfl, hW⟩
  rw [hW]
  clear hW W HR1
  go_wp2_with fail
  refine (H6.out _).mono ?_
  rintro e W ⟨rfl, hW⟩
  rw [hW]
  clear hW W H6
  go_wp2
  go_ret2
  refine ren_ret ?_ (B1.out.alloc B1.out.size _)
  rw [HZ.out, HY.out]
  simp only [rw3, if_true, Bool.false_eq_true, if_false]

set_option maxRecDepth 100000 in
set_option maxHeartbeats 800000 in
theorem renc_1_6lo (k : Nat) (r0 r1 r2 im c0 f0 u0 : Int) (w : World) (k0 : 1 ≤ (k : Int)) (k1 : (k : Int) < 63) (v0 : -9223372036854775808 ≤ im) (v1 : im ≤ 9223372036854775807) (bc : 0 ≤ c0 ∧ c0 ≤ 127) (bf : 0 ≤ f0 ∧ f0 ≤ 7) (bu : 0 ≤ u0 ∧ u0 ≤ 63) (g0 : isr r0 = true) (g1 : isr r1 = true) (i1 : im < 0) (s6 : (decide (28 ≤ (k : Int)) && decide ((k : Int) ≤ 30)) = true)
    (HC : Hid (∀ w, Calls Tryz.prog 28 #[.int .i64 k] w fun e w' => e = .returned (.agg #[.int .u32 c0, .int .u32 f0, .int .u32 u0]) ∧ Below w.heap.size w w'))
    (HF : Hid (∀ w, Calls Tryz.prog 6 #[.int .i64 k] w fun e w' => e = .returned (.int .i64 1) ∧ w' = w)) :
    Calls Tryz.prog 7 #[inst k r0 r1 r2 im] w fun e w' => e = .returned (.tuple #[.int .u32 0, .bool false]) ∧ Below w.heap.size w w' := by
  have t3 : ((k : Int) == 63) = false := by simp; omega
  have t4 : ((k : Int) == 64) = false := by simp; omega
  have t5 : ((k : Int) == 65) = false := by simp; omega
  have HR0 := hide (fun w => isr2_any r0 w)
  rw [g0] at HR0
  have b0 := isr_yes g0
  clear g0
  have HR1 := hide (fun w => isr2_any r1 w)
  rw [g1] at HR1
  have b1 := isr_yes g1
  clear g1
  have H6 := hide (fun w => shift6_any k w)
  rw [s6] at H6
  clear s6
  unfold inst
  go_enter Tryz.func7, Tryz.ntmps7
  go_wp2_with fail
  refine (HC.out _).mono ?_
  rintro e W1 ⟨rfl, hB⟩
  have c0' : W1.cell? ⟨w.heap.size, 0, none⟩ = some (.int .i64 k) := cell_below hB (by go_simp)
  have c1' : W1.cell? ⟨w.heap.size, 1, none⟩ = some (.int .i64 r0) := cell_below hB (by go_simp)
  have c2' : W1.cell? ⟨w.heap.size, 2, none⟩ = some (.int .i64 r1) := cell_below hB (by go_simp)
  have c3' : W1.cell? ⟨w.heap.size, 3, none⟩ = some (.int .i64 r2) := cell_below hB (by go_simp)
  have c4' : W1.cell? ⟨w.heap.size, 4, none⟩ = some (.int .i64 im) := cell_below hB (by go_simp)
  have hlt : w.heap.size < W1.heap.size := World.block_lt_of_cell? _ _ c0'
  have B1 : Hid (Below w.heap.size w W1) := hide (((Below.refl _ w).alloc (Nat.le_refl _) _).trans (hB.mono (by simp)))
  clear hB HC
  go_wp2_with fail
  refine (HF.out _).mono ?_
  rintro e W ⟨rfl, hW⟩
  rw [hW]
  clear hW W HF
  go_wp2_with fail
  refine (HR0.out _).mono ?_
  rintro e W ⟨rfl, hW⟩
  rw [hW]
  clear hW W HR0
  go_wp2_with fail
  refine (HR1.out _).mono ?_
  rintro e W ⟨rfl, hW⟩
  rw [hW]
  clear hW W HR1
  go_wp2_with fail
  refine (H6.out _).mono ?_
  rintro e W ⟨rfl, hW⟩
  rw [hW]
  clear hW W H6
  go_wp2
  go_ret2
  exact ⟨rfl, B1.out.alloc B1.out.size _⟩

set_option maxRecDepth 100000 in
set_option maxHeartbeats 800000 in
theorem renc_1_6hi (k : Nat) (r0 r1 r2 im c0 f0 u0 : Int) (w : World) (k0 : 1 ≤ (k : Int)) (k1 : (k : Int) < 63) (v0 : -9223372036854775808 ≤ im) (v1 : im ≤ 9223372036854775807) (bc : 0 ≤ c0 ∧ c0 ≤ 127) (bf : 0 ≤ f0 ∧ f0 ≤ 7) (bu : 0 ≤ u0 ∧ u0 ≤ 63) (g0 : isr r0 = true) (g1 : isr r1 = true) (i1 : 0 ≤ im) (i2 : 63 < im) (s6 : (decide (28 ≤ (k : Int)) && decide ((k : Int) ≤ 30)) = true)
    (HC : Hid (∀ w, Calls Tryz.prog 28 #[.int .i64 k] w fun e w' => e = .returned (.agg #[.int .u32 c0, .int .u32 f0, .int .u32 u0]) ∧ Below w.heap.size w w'))
    (HF : Hid (∀ w, Calls Tryz.prog 6 #[.int .i64 k] w fun e w' => e = .returned (.int .i64 1) ∧ w' = w)) :
    Calls Tryz.prog 7 #[inst k r0 r1 r2 im] w fun e w' => e = .returned (.tuple #[.int .u32 0, .bool false]) ∧ Below w.heap.size w w' := by
  have t3 : ((k : Int) == 63) = false := by simp; omega
  have t4 : ((k : Int) == 64) = false := by simp; omega
  have t5 : ((k : Int) == 65) = false := by simp; omega
  have HR0 := hide (fun w => isr2_any r0 w)
  rw [g0] at HR0
  have b0 := isr_yes g0
  clear g0
  have HR1 := hide (fun w => isr2_any r1 w)
  rw [g1] at HR1
  have b1 := isr_yes g1
  clear g1
  have H6 := hide (fun w => shift6_any k w)
  rw [s6] at H6
  clear s6
  unfold inst
  go_enter Tryz.func7, Tryz.ntmps7
  go_wp2_with fail
  refine (HC.out _).mono ?_
  rintro e W1 ⟨rfl, hB⟩
  have c0' : W1.cell? ⟨w.heap.size, 0, none⟩ = some (.int .i64 k) := cell_below hB (by go_simp)
  have c1' : W1.cell? ⟨w.heap.size, 1, none⟩ = some (.int .i64 r0) := cell_below hB (by go_simp)
  have c2' : W1.cell? ⟨w.heap.size, 2, none⟩ = some (.int .i64 r1) := cell_below hB (by go_simp)
  have c3' : W1.cell? ⟨w.heap.size, 3, none⟩ = some (.int .i64 r2) := cell_below hB (by go_simp)
  have c4' : W1.cell? ⟨w.heap.size, 4, none⟩ = some (.int .i64 im) := cell_below hB (by go_simp)
  have hlt : w.heap.size < W1.heap.size := World.block_lt_of_cell? _ _ c0'
  have B1 : Hid (Below w.heap.size w W1) := hide (((Below.refl _ w).alloc (Nat.le_refl _) _).trans (hB.mono (by simp)))
  clear hB HC
  go_wp2_with fail
  refine (HF.out _).mono ?_
  rintro e W ⟨rfl, hW⟩
  rw [hW]
  clear hW W HF
  go_wp2_with fail
  refine (HR0.out _).mono ?_
  rintro e W ⟨rfl, hW⟩
  rw [hW]
  clear hW W HR0
  go_wp2_with fail
  refine (HR1.out _).mono ?_
  rintro e W ⟨rfl, hW⟩
  rw [hW]
  clear hW W HR1
  go_wp2_with fail
  refine (H6.out _).mono ?_
  rintro e W ⟨rfl, hW⟩
  rw [hW]
  clear hW W H6
  go_wp2
  go_ret2
  exact ⟨rfl, B1.out.alloc B1.out.size _⟩

set_option maxRecDepth 100000 in
set_option maxHeartbeats 800000 in
theorem renc_1_5ok (k : Nat) (r0 r1 r2 im c0 f0 u0 : Int) (w : World) (k0 : 1 ≤ (k : Int)) (k1 : (k : Int) < 63) (v0 : -9223372036854775808 ≤ im) (v1 : im ≤ 9223372036854775807) (bc : 0 ≤ c0 ∧ c0 ≤ 127) (bf : 0 ≤ f0 ∧ f0 ≤ 7) (bu : 0 ≤ u0 ∧ u0 ≤ 127) (g0 : isr r0 = true) (g1 : isr r1 = true) (i1 : 0 ≤ im) (i2 : im ≤ 31) (s6 : (decide (28 ≤ (k : Int)) && decide ((k : Int) ≤ 30)) = false) (s5 : (decide (42 ≤ (k : Int)) && decide ((k : Int) ≤ 44)) = true)
    (HC : Hid (∀ w, Calls Tryz.prog 28 #[.int .i64 k] w fun e w' => e = .returned (.agg #[.int .u32 c0, .int .u32 f0, .int .u32 u0]) ∧ Below w.heap.size w w'))
    (HF : Hid (∀ w, Calls Tryz.prog 6 #[.int .i64 k] w fun e w' => e = .returned (.int .i64 1) ∧ w' = w)) :
    Calls Tryz.prog 7 #[inst k r0 r1 r2 im] w fun e w' => e = .returned (.tuple #[.int .u32 (bits .or .u32 (bits .or .u32 (rw3 true true false c0 f0 r0 r1 r2) (im * 1048576)) (u0 * 33554432)), .bool true]) ∧ Below w.heap.size w w' := by
  have t3 : ((k : Int) == 63) = false := by simp; omega
  have t4 : ((k : Int) == 64) = false := by simp; omega
  have t5 : ((k : Int) == 65) = false := by simp; omega
  have HR0 := hide (fun w => isr2_any r0 w)
  rw [g0] at HR0
  have b0 := isr_yes g0
  clear g0
  have HR1 := hide (fun w => isr2_any r1 w)
  rw [g1] at HR1
  have b1 := isr_yes g1
  clear g1
  have H6 := hide (fun w => shift6_any k w)
  rw [s6] at H6
  clear s6
  have H5 := hide (fun w => shift5_any k w)
  rw [s5] at H5
  clear s5
  obtain ⟨y, hy⟩ : ∃ y, y = (rw3 true true false c0 f0 r0 r1 r2) := ⟨_, rfl⟩
  rw [← hy]
  have HY := hide hy
  clear hy
  obtain ⟨z, hz⟩ : ∃ z, z = (bits .or .u32 (bits .or .u32 y (im * 1048576)) (u0 * 33554432)) := ⟨_, rfl⟩
  rw [← hz]
  have HZ := hide hz
  clear hz
  unfold inst
  go_enter Tryz.func7, Tryz.ntmps7
  go_wp2_with fail
  refine (HC.out _).mono ?_
  rintro e W1 ⟨rfl, hB⟩
  have c0' : W1.cell? ⟨w.heap.size, 0, none⟩ = some (.int .i64 k) := cell_below hB (by go_simp)
  have c1' : W1.cell? ⟨w.heap.size, 1, none⟩ = some (.int .i64 r0) := cell_below hB (by go_simp)
  have c2' : W1.cell? ⟨w.heap.size, 2, none⟩ = some (.int .i64 r1) := cell_below hB (by go_simp)
  have c3' : W1.cell? ⟨w.heap.size, 3, none⟩ = some (.int .i64 r2) := cell_below hB (by go_simp)
  have c4' : W1.cell? ⟨w.heap.size, 4, none⟩ = some (.int .i64 im) := cell_below hB (by go_simp)
  have hlt : w.heap.size < W1.heap.size := World.block_lt_of_cell? _ _ c0'
  have B1 : Hid (Below w.heap.size w W1) := hide (((Below.refl _ w).alloc (Nat.le_refl _) _).trans (hB.mono (by simp)))
  clear hB HC
  go_wp2_with fail
  refine (HF.out _).mono ?_
  rintro e W ⟨rfl, hW⟩
  rw [hW]
  clear hW W HF
  go_wp2_with fail
  refine (HR0.out _).mono ?_
  rintro e W ⟨rfl, hW⟩
  rw [hW]
  clear hW W HR0
  go_wp2_with fail
  refine (HR1.out _).mono ?_
  rintro e W ⟨rfl, hW⟩
  rw [hW]
  clear hW W HR1
  go_wp2_with fail
  refine (H6.out _).mono ?_
  rintro e W ⟨rfl, hW⟩
  rw [hW]
  clear hW W H6
  go_wp2_with fail
  refine (H5.out _).mono ?_
  rintro e W ⟨rfl, hW⟩
  rw [hW]
  clear hW W H5
  go_wp2
  go_ret2
  refine ren_ret ?_ (B1.out.alloc B1.out.size _)
  rw [HZ.out, HY.out]
  simp only [rw3, if_true, Bool.false_eq_true, if_false]

set_option maxRecDepth 100000 in
set_option maxHeartbeats 800000 in
theorem renc_1_5lo (k : Nat) (r0 r1 r2 im c0 f0 u0 : Int) (w : World) (k0 : 1 ≤ (k : Int)) (k1 : (k : Int) < 63) (v0 : -9223372036854775808 ≤ im) (v1 : im ≤ 9223372036854775807) (bc : 0 ≤ c0 ∧ c0 ≤ 127) (bf : 0 ≤ f0 ∧ f0 ≤ 7) (bu : 0 ≤ u0 ∧ u0 ≤ 127) (g0 : isr r0 = true) (g1 : isr r1 = true) (i1 : im < 0) (s6 : (decide (28 ≤ (k : Int)) && decide ((k : Int) ≤ 30)) = false) (s5 : (decide (42 ≤ (k : Int)) && decide ((k : Int) ≤ 44)) = true)
    (HC : Hid (∀ w, Calls Tryz.prog 28 #[.int .i64 k] w fun e w' => e = .returned (.agg #[.int .u32 c0, .int .u32 f0, .int .u32 u0]) ∧ Below w.heap.size w w'))
    (HF : Hid (∀ w, Calls Tryz.prog 6 #[.int .i64 k] w fun e w' => e = .returned (.int .i64 1) ∧ w' = w)) :
    Calls Tryz.prog 7 #[inst k r0 r1 r2 im] w fun e w' => e = .returned (.tuple #[.int .u32 0, .bool false]) ∧ Below w.heap.size w w' := by
  have t3 : ((k : Int) == 63) = false := by simp; omega
  have t4 : ((k : Int) == 64) = false := by simp; omega
  have t5 : ((k : Int) == 65) = false := by simp; omega
  have HR0 := hide (fun w => isr2_any r0 w)
  rw [g0] at HR0
  have b0 := isr_yes g0
  clear g0
  have HR1 := hide (fun w => isr2_any r1 w)
  rw [g1] at HR1
  have b1 := isr_yes g1
  clear g1
  have H6 := hide (fun w => shift6_any k w)
  rw [s6] at H6
  clear s6
  have H5 := hide (fun w => shift5_any k w)
  rw [s5] at H5
  clear s5
  unfold inst
  go_enter Tryz.func7, Tryz.ntmps7
  go_wp2_with fail
  refine (HC.out _).mono ?_
  rintro e W1 ⟨rfl, hB⟩
  have c0' : W1.cell? ⟨w.heap.size, 0, none⟩ = some (.int .i64 k) := cell_below hB (by go_simp)
  have c1' : W1.cell? ⟨w.heap.size, 1, none⟩ = some (.int .i64 r0) := cell_below hB (by go_simp)
  have c2' : W1.cell? ⟨w.heap.size, 2, none⟩ = some (.int .i64 r1) := cell_below hB (by go_simp)
  have c3' : W1.cell? ⟨w.heap.size, 3, none⟩ = some (.int .i64 r2) := cell_below hB (by go_simp)
  have c4' : W1.cell? ⟨w.heap.size, 4, none⟩ = some (.int .i64 im) := cell_below hB (by go_simp)
  have hlt : w.heap.size < W1.heap.size := World.block_lt_of_cell? _ _ c0'
  have B1 : Hid (Below w.heap.size w W1) := hide (((Below.refl _ w).alloc (Nat.le_refl _) _).trans (hB.mono (by simp)))
  clear hB HC
  go_wp2_with fail
  refine (HF.out _).mono ?_
  rintro e W ⟨rfl, hW⟩
  rw [hW]
  clear hW W HF
  go_wp2_with fail
  refine (HR0.out _).mono ?_
  rintro e W ⟨rfl, hW⟩
  rw [hW]
  clear hW W HR0
  go_wp2_with fail
  refine (HR1.out _).mono ?_
  rintro e W ⟨rfl, hW⟩
  rw [hW]
  clear hW W HR1
  go_wp2_with fail
  refine (H6.out _).mono ?_
  rintro e W ⟨rfl, hW⟩
  rw [hW]
  clear hW W H6
  go_wp2_with fail
  refine (H5.out _).mono ?_
  rintro e W ⟨rfl, hW⟩
  rw [hW]
  clear hW W H5
  go_wp2
  go_ret2
  exact ⟨rfl, B1.out.alloc B1.out.size _⟩

set_option maxRecDepth 100000 in
set_option maxHeartbeats 800000 in
theorem renc_1_5hi (k : Nat) (r0 r1 r2 im c0 f0 u0 : Int) (w : World) (k0 : 1 ≤ (k : Int)) (k1 : (k : Int) < 63) (v0 : -9223372036854775808 ≤ im) (v1 : im ≤ 9223372036854775807) (bc : 0 ≤ c0 ∧ c0 ≤ 127) (bf : 0 ≤ f0 ∧ f0 ≤ 7) (bu : 0 ≤ u0 ∧ u0 ≤ 127) (g0 : isr r0 = true) (g1 : isr r1 = true) (i1 : 0 ≤ im) (i2 : 31 < im) (s6 : (decide (28 ≤ (k : Int)) && decide ((k : Int) ≤ 30)) = false) (s5 : (decide (42 ≤ (k : Int)) && decide ((k : Int) ≤ 44)) = true)
    (HC : Hid (∀ w, Calls Tryz.prog 28 #[.int .i64 k] w fun e w' => e = .returned (.agg #[.int .u32 c0, .int .u32 f0, .int .u32 u0]) ∧ Below w.heap.size w w'))
    (HF : Hid (∀ w, Calls Tryz.prog 6 #[.int .i64 k] w fun e w' => e = .returned (.int .i64 1) ∧ w' = w)) :
    Calls Tryz.prog 7 #[inst k r0 r1 r2 im] w fun e w' => e = .returned (.tuple #[.int .u32 0, .bool false]) ∧ Below w.heap.size w w' := by
  have t3 : ((k : Int) == 63) = false := by simp; omega
  have t4 : ((k : Int) == 64) = false := by simp; omega
  have t5 : ((k : Int) == 65) = false := by simp; omega
  have HR0 := hide (fun w => isr2_any r0 w)
  rw [g0] at HR0
  have b0 := isr_yes g0
  clear g0
  have HR1 := hide (fun w => isr2_any r1 w)
  rw [g1] at HR1
  have b1 := isr_yes g1
  clear g1
  have H6 := hide (fun w => shift6_any k w)
  rw [s6] at H6
  clear s6
  have H5 := hide (fun w => shift5_any k w)
  rw [s5] at H5
  clear s5
  unfold inst
  go_enter Tryz.func7, Tryz.ntmps7
  go_wp2_with fail
  refine (HC.out _).mono ?_
  rintro e W1 ⟨rfl, hB⟩
  have c0' : W1.cell? ⟨w.heap.size, 0, none⟩ = some (.int .i64 k) := cell_below hB (by go_simp)
  have c1' : W1.cell? ⟨w.heap.size, 1, none⟩ = some (.int .i64 r0) := cell_below hB (by go_simp)
  have c2' : W1.cell? ⟨w.heap.size, 2, none⟩ = some (.int .i64 r1) := cell_below hB (by go_simp)
  have c3' : W1.cell? ⟨w.heap.size, 3, none⟩ = some (.int .i64 r2) := cell_below hB (by go_simp)
  have c4' : W1.cell? ⟨w.heap.size, 4, none⟩ = some (.int .i64 im) := cell_below hB (by go_simp)
  have hlt : w.heap.size < W1.heap.size := World.block_lt_of_cell? _ _ c0'
  have B1 : Hid (Below w.heap.size w W1) := hide (((Below.refl _ w).alloc (Nat.le_refl _) _).trans (hB.mono (by simp)))
  clear hB HC
  go_wp2_with fail
  refine (HF.out _).mono ?_
  rintro e W ⟨rfl, hW⟩
  rw [hW]
  clear hW W HF
  go_wp2_with fail
  refine (HR0.out _).mono ?_
  rintro e W ⟨rfl, hW⟩
  rw [hW]
  clear hW W HR0
  go_wp2_with fail
  refine (HR1.out _).mono ?_
  rintro e W ⟨rfl, hW⟩
  rw [hW]
  clear hW W HR1
  go_wp2_with fail
  refine (H6.out _).mono ?_
  rintro e W ⟨rfl, hW⟩
  rw [hW]
  clear hW W H6
  go_wp2_with fail
  refine (H5.out _).mono ?_
  rintro e W ⟨rfl, hW⟩
  rw [hW]
  clear hW W H5
  go_wp2
  go_ret2
  exact ⟨rfl, B1.out.alloc B1.out.size _⟩

set_option maxRecDepth 100000 in
set_option maxHeartbeats 800000 in
theorem renc_2_b1 (k : Nat) (r0 r1 r2 im c0 f0 u0 : Int) (w : World) (k0 : 1 ≤ (k : Int)) (k1 : (k : Int) < 63) (v0 : -9223372036854775808 ≤ im) (v1 : im ≤ 9223372036854775807) (bc : 0 ≤ c0 ∧ c0 ≤ 127) (bf : 0 ≤ f0 ∧ f0 ≤ 7) (bu : 0 ≤ u0 ∧ u0 ≤ 127) (g1 : isr r1 = false)
    (HC : Hid (∀ w, Calls Tryz.prog 28 #[.int .i64 k] w fun e w' => e = .returned (.agg #[.int .u32 c0, .int .u32 f0, .int .u32 u0]) ∧ Below w.heap.size w w'))
    (HF : Hid (∀ w, Calls Tryz.prog 6 #[.int .i64 k] w fun e w' => e = .returned (.int .i64 2) ∧ w' = w)) :
    Calls Tryz.prog 7 #[inst k r0 r1 r2 im] w fun e w' => e = .returned (.tuple #[.int .u32 0, .bool false]) ∧ Below w.heap.size w w' := by
  have t3 : ((k : Int) == 63) = false := by simp; omega
  have t4 : ((k : Int) == 64) = false := by simp; omega
  have t5 : ((k : Int) == 65) = false := by simp; omega
  have HR1 := hide (fun w => isr2_any r1 w)
  rw [g1] at HR1
  clear g1
  unfold inst
  go_enter Tryz.func7, Tryz.ntmps7
  go_wp2_with fail
  refine (HC.out _).mono ?_
  rintro e W1 ⟨rfl, hB⟩
  have c0' : W1.cell? ⟨w.heap.size, 0, none⟩ = some (.int .i64 k) := cell_below hB (by go_simp)
  have c1' : W1.cell? ⟨w.heap.size, 1, none⟩ = some (.int .i64 r0) := cell_below hB (by go_simp)
  have c2' : W1.cell? ⟨w.heap.size, 2, none⟩ = some (.int .i64 r1) := cell_below hB (by go_simp)
  have c3' : W1.cell? ⟨w.heap.size, 3, none⟩ = some (.int .i64 r2) := cell_below hB (by go_simp)
  have c4' : W1.cell? ⟨w.heap.size, 4, none⟩ = some (.int .i64 im) := cell_below hB (by go_simp)
  have hlt : w.heap.size < W1.heap.size := World.block_lt_of_cell? _ _ c0'
  have B1 : Hid (Below w.heap.size w W1) := hide (((Below.refl _ w).alloc (Nat.le_refl _) _).trans (hB.mono (by simp)))
  clear hB HC
  go_wp2_with fail
  refine (HF.out _).mono ?_
  rintro e W ⟨rfl, hW⟩
  rw [hW]
  clear hW W HF
  go_wp2_with fail
  refine (HR1.out _).mono ?_
  rintro e W ⟨rfl, hW⟩
  rw [hW]
  clear hW W HR1
  go_wp2
  go_ret2
  exact ⟨rfl, B1.out.alloc B1.out.size _⟩

set_option maxRecDepth 100000 in
set_option maxHeartbeats 800000 in
theorem renc_2_b2 (k : Nat) (r0 r1 r2 im c0 f0 u0 : Int) (w : World) (k0 : 1 ≤ (k : Int)) (k1 : (k : Int) < 63) (v0 : -9223372036854775808 ≤ im) (v1 : im ≤ 9223372036854775807) (bc : 0 ≤ c0 ∧ c0 ≤ 127) (bf : 0 ≤ f0 ∧ f0 ≤ 7) (bu : 0 ≤ u0 ∧ u0 ≤ 127) (g1 : isr r1 = true) (g2 : isr r2 = false)
    (HC : Hid (∀ w, Calls Tryz.prog 28 #[.int .i64 k] w fun e w' => e = .returned (.agg #[.int .u32 c0, .int .u32 f0, .int .u32 u0]) ∧ Below w.heap.size w w'))
    (HF : Hid (∀ w, Calls Tryz.prog 6 #[.int .i64 k] w fun e w' => e = .returned (.int .i64 2) ∧ w' = w)) :
    Calls Tryz.prog 7 #[inst k r0 r1 r2 im] w fun e w' => e = .returned (.tuple #[.int .u32 0, .bool false]) ∧ Below w.heap.size w w' := by
  have t3 : ((k : Int) == 63) = false := by simp; omega
  have t4 : ((k : Int) == 64) = false := by simp; omega
  have t5 : ((k : Int) == 65) = false := by simp; omega
  have HR1 := hide (fun w => isr2_any r1 w)
  rw [g1] at HR1
  clear g1
  have HR2 := hide (fun w => isr2_any r2 w)
  rw [g2] at HR2
  clear g2
  unfold inst
  go_enter Tryz.func7, Tryz.ntmps7
  go_wp2_with fail
  refine (HC.out _).mono ?_
  rintro e W1 ⟨rfl, hB⟩
  have c0' : W1.cell? ⟨w.heap.size, 0, none⟩ = some (.int .i64 k) := cell_below hB (by go_simp)
  have c1' : W1.cell? ⟨w.heap.size, 1, none⟩ = some (.int .i64 r0) := cell_below hB (by go_simp)
  have c2' : W1.cell? ⟨w.heap.size, 2, none⟩ = some (.int .i64 r1) := cell_below hB (by go_simp)
  have c3' : W1.cell? ⟨w.heap.size, 3, none⟩ = some (.int .i64 r2) := cell_below hB (by go_simp)
  have c4' : W1.cell? ⟨w.heap.size, 4, none⟩ = some (.int .i64 im) := cell_below hB (by go_simp)
  have hlt : w.heap.size < W1.heap.size := World.block_lt_of_cell? _ _ c0'
  have B1 : Hid (Below w.heap.size w W1) := hide (((Below.refl _ w).alloc (Nat.le_refl _) _).trans (hB.mono (by simp)))
  clear hB HC
  go_wp2_with fail
  refine (HF.out _).mono ?_
  rintro e W ⟨rfl, hW⟩
  rw [hW]
  clear hW W HF
  go_wp2_with fail
  refine (HR1.out _).mono ?_
  rintro e W ⟨rfl, hW⟩
  rw [hW]
  clear hW W HR1
  go_wp2_with fail
  refine (HR2.out _).mono ?_
  rintro e W ⟨rfl, hW⟩
  rw [hW]
  clear hW W HR2
  go_wp2
  go_ret2
  exact ⟨rfl, B1.out.alloc B1.out.size _⟩

set_option maxRecDepth 100000 in
set_option maxHeartbeats 800000 in
theorem renc_2_ok (k : Nat) (r0 r1 r2 im c0 f0 u0 : Int) (w : World) (k0 : 1 ≤ (k : Int)) (k1 : (k : Int) < 63) (v0 : -9223372036854775808 ≤ im) (v1 : im ≤ 9223372036854775807) (bc : 0 ≤ c0 ∧ c0 ≤ 127) (bf : 0 ≤ f0 ∧ f0 ≤ 7) (bu : 0 ≤ u0 ∧ u0 ≤ 127) (g1 : isr r1 = true) (g2 : isr r2 = true) (s6 : (decide (28 ≤ (k : Int)) && decide ((k : Int) ≤ 30)) = false) (s5 : (decide (42 ≤ (k : Int)) && decide ((k : Int) ≤ 44)) = false)
    (HC : Hid (∀ w, Calls Tryz.prog 28 #[.int .i64 k] w fun e w' => e = .returned (.agg #[.int .u32 c0, .int .u32 f0, .int .u32 u0]) ∧ Below w.heap.size w w'))
    (HF : Hid (∀ w, Calls Tryz.prog 6 #[.int .i64 k] w fun e w' => e = .returned (.int .i64 2) ∧ w' = w)) :
    Calls Tryz.prog 7 #[inst k r0 r1 r2 im] w fun e w' => e = .returned (.tuple #[.int .u32 (putOf 2 (rw3 false true true c0 f0 r0 r1 r2) im), .bool (fitsOf 2 im)]) ∧ Below w.heap.size w w' := by
  have t3 : ((k : Int) == 63) = false := by simp; omega
  have t4 : ((k : Int) == 64) = false := by simp; omega
  have t5 : ((k : Int) == 65) = false := by simp; omega
  have HR1 := hide (fun w => isr2_any r1 w)
  rw [g1] at HR1
  have b1 := isr_yes g1
  clear g1
  have HR2 := hide (fun w => isr2_any r2 w)
  rw [g2] at HR2
  have b2 := isr_yes g2
  clear g2
  have H6 := hide (fun w => shift6_any k w)
  rw [s6] at H6
  clear s6
  have H5 := hide (fun w => shift5_any k w)
  rw [s5] at H5
  clear s5
  have hb3 : 0 ≤ (rw3 false true true c0 f0 r0 r1 r2) ∧ (rw3 false true true c0 f0 r0 r1 r2) ≤ 4294967295 := rw3_bd _ _ _ _ _ _ _ _ (by omega)
  have HP := hide (fun w => rput2_any 2 (rw3 false true true c0 f0 r0 r1 r2) im w hb3.1 hb3.2 v0 v1)
  obtain ⟨y, hy⟩ : ∃ y, y = (rw3 false true true c0 f0 r0 r1 r2) := ⟨_, rfl⟩
  rw [← hy] at HP hb3 ⊢
  have HY := hide hy
  clear hy
  generalize putOf 2 y im = z at *
  generalize fitsOf 2 im = zb at *
  unfold inst
  go_enter Tryz.func7, Tryz.ntmps7
  go_wp2_with fail
  refine (HC.out _).mono ?_
  rintro e W1 ⟨rfl, hB⟩
  have c0' : W1.cell? ⟨w.heap.size, 0, none⟩ = some (.int .i64 k) := cell_below hB (by go_simp)
  have c1' : W1.cell? ⟨w.heap.size, 1, none⟩ = some (.int .i64 r0) := cell_below hB (by go_simp)
  have c2' : W1.cell? ⟨w.heap.size, 2, none⟩ = some (.int .i64 r1) := cell_below hB (by go_simp)
  have c3' : W1.cell? ⟨w.heap.size, 3, none⟩ = some (.int .i64 r2) := cell_below hB (by go_simp)
  have c4' : W1.cell? ⟨w.heap.size, 4, none⟩ = some (.int .i64 im) := cell_below hB (by go_simp)
  have hlt : w.heap.size < W1.heap.size := World.block_lt_of_cell? _ _ c0'
  have B1 : Hid (Below w.heap.size w W1) := hide (((Below.refl _ w).alloc (Nat.le_refl _) _).trans (hB.mono (by simp)))
  clear hB HC
  go_wp2_with fail
  refine (HF.out _).mono ?_
  rintro e W ⟨rfl, hW⟩
  rw [hW]
  clear hW W HF
  go_wp2_with fail
  refine (HR1.out _).mono ?_
  rintro e W ⟨rfl, hW⟩
  rw [hW]
  clear hW W HR1
  go_wp2_with fail
  refine (HR2.out _).mono ?_
  rintro e W ⟨rfl, hW⟩
  rw [hW]
  clear hW W HR2
  go_wp2_with fail
  refine (H6.out _).mono ?_
  rintro e W ⟨rfl, hW⟩
  rw [hW]
  clear hW W H6
  go_wp2_with fail
  refine (H5.out _).mono ?_
  rintro e W ⟨rfl, hW⟩
  rw [hW]
  clear hW W H5
  go_wp2_with fail
  have hy := HY.out
  simp only [rw3, if_true, Bool.false_eq_true, if_false] at hy
  rw [← hy]
  clear hy
  refine (HP.out _).mono ?_
  rintro e W ⟨rfl, hW⟩
  rw [hW]
  clear hW W HP
  go_wp2
  go_ret2
  exact ⟨rfl, B1.out.alloc B1.out.size _⟩

set_option maxRecDepth 100000 in
set_option maxHeartbeats 800000 in
theorem renc_3_b1 (k : Nat) (r0 r1 r2 im c0 f0 u0 : Int) (w : World) (k0 : 1 ≤ (k : Int)) (k1 : (k : Int) < 63) (v0 : -9223372036854775808 ≤ im) (v1 : im ≤ 9223372036854775807) (bc : 0 ≤ c0 ∧ c0 ≤ 127) (bf : 0 ≤ f0 ∧ f0 ≤ 7) (bu : 0 ≤ u0 ∧ u0 ≤ 127) (g1 : isr r1 = false)
    (HC : Hid (∀ w, Calls Tryz.prog 28 #[.int .i64 k] w fun e w' => e = .returned (.agg #[.int .u32 c0, .int .u32 f0, .int .u32 u0]) ∧ Below w.heap.size w w'))
    (HF : Hid (∀ w, Calls Tryz.prog 6 #[.int .i64 k] w fun e w' => e = .returned (.int .i64 3) ∧ w' = w)) :
    Calls Tryz.prog 7 #[inst k r0 r1 r2 im] w fun e w' => e = .returned (.tuple #[.int .u32 0, .bool false]) ∧ Below w.heap.size w w' := by
  have t3 : ((k : Int) == 63) = false := by simp; omega
  have t4 : ((k : Int) == 64) = false := by simp; omega
  have t5 : ((k : Int) == 65) = false := by simp; omega
  have HR1 := hide (fun w => isr2_any r1 w)
  rw [g1] at HR1
  clear g1
  unfold inst
  go_enter Tryz.func7, Tryz.ntmps7
  go_wp2_with fail
  refine (HC.out _).mono ?_
  rintro e W1 ⟨rfl, hB⟩
  have c0' : W1.cell? ⟨w.heap.size, 0, none⟩ = some (.int .i64 k) := cell_below hB (by go_simp)
  have c1' : W1.cell? ⟨w.heap.size, 1, none⟩ = some (.int .i64 r0) := cell_below hB (by go_simp)
  have c2' : W1.cell? ⟨w.heap.size, 2, none⟩ = some (.int .i64 r1) := cell_below hB (by go_simp)
  have c3' : W1.cell? ⟨w.heap.size, 3, none⟩ = some (.int .i64 r2) := cell_below hB (by go_simp)
  have c4' : W1.cell? ⟨w.heap.size, 4, none⟩ = some (.int .i64 im) := cell_below hB (by go_simp)
  have hlt : w.heap.size < W1.heap.size := World.block_lt_of_cell? _ _ c0'
  have B1 : Hid (Below w.heap.size w W1) := hide (((Below.refl _ w).alloc (Nat.le_refl _) _).trans (hB.mono (by simp)))
  clear hB HC
  go_wp2_with fail
  refine (HF.out _).mono ?_
  rintro e W ⟨rfl, hW⟩
  rw [hW]
  clear hW W HF
  go_wp2_with fail
  refine (HR1.out _).mono ?_
  rintro e W ⟨rfl, hW⟩
  rw [hW]
  clear hW W HR1
  go_wp2
  go_ret2
  exact ⟨rfl, B1.out.alloc B1.out.size _⟩

set_option maxRecDepth 100000 in
set_option maxHeartbeats 800000 in
theorem renc_3_b2 (k : Nat) (r0 r1 r2 im c0 f0 u0 : Int) (w : World) (k0 : 1 ≤ (k : Int)) (k1 : (k : Int) < 63) (v0 : -9223372036854775808 ≤ im) (v1 : im ≤ 9223372036854775807) (bc : 0 ≤ c0 ∧ c0 ≤ 127) (bf : 0 ≤ f0 ∧ f0 ≤ 7) (bu : 0 ≤ u0 ∧ u0 ≤ 127) (g1 : isr r1 = true) (g2 : isr r2 = false)
    (HC : Hid (∀ w, Calls Tryz.prog 28 #[.int .i64 k] w fun e w' => e = .returned (.agg #[.int .u32 c0, .int .u32 f0, .int .u32 u0]) ∧ Below w.heap.size w w'))
    (HF : Hid (∀ w, Calls Tryz.prog 6 #[.int .i64 k] w fun e w' => e = .returned (.int .i64 3) ∧ w' = w)) :
    Calls Tryz.prog 7 #[inst k r0 r1 r2 im] w fun e w' => e = .returned (.tuple #[.int .u32 0, .bool false]) ∧ Below w.heap.size w w' := by
  have t3 : ((k : Int) == 63) = false := by simp; omega
  have t4 : ((k : Int) == 64) = false := by simp; omega
  have t5 : ((k : Int) == 65) = false := by simp; omega
  have HR1 := hide (fun w => isr2_any r1 w)
  rw [g1] at HR1
  clear g1
  have HR2 := hide (fun w => isr2_any r2 w)
  rw [g2] at HR2
  clear g2
  unfold inst
  go_enter Tryz.func7, Tryz.ntmps7
  go_wp2_with fail
  refine (HC.out _).mono ?_
  rintro e W1 ⟨rfl, hB⟩
  have c0' : W1.cell? ⟨w.heap.size, 0, none⟩ = some (.int .i64 k) := cell_below hB (by go_simp)
  have c1' : W1.cell? ⟨w.heap.size, 1, none⟩ = some (.int .i64 r0) := cell_below hB (by go_simp)
  have c2' : W1.cell? ⟨w.heap.size, 2, none⟩ = some (.int .i64 r1) := cell_below hB (by go_simp)
  have c3' : W1.cell? ⟨w.heap.size, 3, none⟩ = some (.int .i64 r2) := cell_below hB (by go_simp)
  have c4' : W1.cell? ⟨w.heap.size, 4, none⟩ = some (.int .i64 im) := cell_below hB (by go_simp)
  have hlt : w.heap.size < W1.heap.size := World.block_lt_of_cell? _ _ c0'
  have B1 : Hid (Below w.heap.size w W1) := hide (((Below.refl _ w).alloc (Nat.le_refl _) _).trans (hB.mono (by simp)))
  clear hB HC
  go_wp2_with fail
  refine (HF.out _).mono ?_
  rintro e W ⟨rfl, hW⟩
  rw [hW]
  clear hW W HF
  go_wp2_with fail
  refine (HR1.out _).mono ?_
  rintro e W ⟨rfl, hW⟩
  rw [hW]
  clear hW W HR1
  go_wp2_with fail
  refine (HR2.out _).mono ?_
  rintro e W ⟨rfl, hW⟩
  rw [hW]
  clear hW W HR2
  go_wp2
  go_ret2
  exact ⟨rfl, B1.out.alloc B1.out.size _⟩

set_option maxRecDepth 100000 in
set_option maxHeartbeats 800000 in
theorem renc_3_ok (k : Nat) (r0 r1 r2 im c0 f0 u0 : Int) (w : World) (k0 : 1 ≤ (k : Int)) (k1 : (k : Int) < 63) (v0 : -9223372036854775808 ≤ im) (v1 : im ≤ 9223372036854775807) (bc : 0 ≤ c0 ∧ c0 ≤ 127) (bf : 0 ≤ f0 ∧ f0 ≤ 7) (bu : 0 ≤ u0 ∧ u0 ≤ 127) (g1 : isr r1 = true) (g2 : isr r2 = true) (s6 : (decide (28 ≤ (k : Int)) && decide ((k : Int) ≤ 30)) = false) (s5 : (decide (42 ≤ (k : Int)) && decide ((k : Int) ≤ 44)) = false)
    (HC : Hid (∀ w, Calls Tryz.prog 28 #[.int .i64 k] w fun e w' => e = .returned (.agg #[.int .u32 c0, .int .u32 f0, .int .u32 u0]) ∧ Below w.heap.size w w'))
    (HF : Hid (∀ w, Calls Tryz.prog 6 #[.int .i64 k] w fun e w' => e = .returned (.int .i64 3) ∧ w' = w)) :
    Calls Tryz.prog 7 #[inst k r0 r1 r2 im] w fun e w' => e = .returned (.tuple #[.int .u32 (putOf 3 (rw3 false true true c0 f0 r0 r1 r2) im), .bool (fitsOf 3 im)]) ∧ Below w.heap.size w w' := by
  have t3 : ((k : Int) == 63) = false := by simp; omega
  have t4 : ((k : Int) == 64) = false := by simp; omega
  have t5 : ((k : Int) == 65) = false := by simp; omega
  have HR1 := hide (fun w => isr2_any r1 w)
  rw [g1] at HR1
  have b1 := isr_yes g1
  clear g1
  have HR2 := hide (fun w => isr2_any r2 w)
  rw [g2] at HR2
  have b2 := isr_yes g2
  clear g2
  have H6 := hide (fun w => shift6_any k w)
  rw [s6] at H6
  clear s6
  have H5 := hide (fun w => shift5_any k w)
  rw [s5] at H5
  clear s5
  have hb3 : 0 ≤ (rw3 false true true c0 f0 r0 r1 r2) ∧ (rw3 false true true c0 f0 r0 r1 r2) ≤ 4294967295 := rw3_bd _ _ _ _ _ _ _ _ (by omega)
  have HP := hide (fun w => rput2_any 3 (rw3 false true true c0 f0 r0 r1 r2) im w hb3.1 hb3.2 v0 v1)
  obtain ⟨y, hy⟩ : ∃ y, y = (rw3 false true true c0 f0 r0 r1 r2) := ⟨_, rfl⟩
  rw [← hy] at HP hb3 ⊢
  have HY := hide hy
  clear hy
  generalize putOf 3 y im = z at *
  generalize fitsOf 3 im = zb at *
  unfold inst
  go_enter Tryz.func7, Tryz.ntmps7
  go_wp2_with fail
  refine (HC.out _).mono ?_
  rintro e W1 ⟨rfl, hB⟩
  have c0' : W1.cell? ⟨w.heap.size, 0, none⟩ = some (.int .i64 k) := cell_below hB (by go_simp)
  have c1' : W1.cell? ⟨w.heap.size, 1, none⟩ = some (.int .i64 r0) := cell_below hB (by go_simp)
  have c2' : W1.cell? ⟨w.heap.size, 2, none⟩ = some (.int .i64 r1) := cell_below hB (by go_simp)
  have c3' : W1.cell? ⟨w.heap.size, 3, none⟩ = some (.int .i64 r2) := cell_below hB (by go_simp)
  have c4' : W1.cell? ⟨w.heap.size, 4, none⟩ = some (.int .i64 im) := cell_below hB (by go_simp)
  have hlt : w.heap.size < W1.heap.size := World.block_lt_of_cell? _ _ c0'
  have B1 : Hid (Below w.heap.size w W1) := hide (((Below.refl _ w).alloc (Nat.le_refl _) _).trans (hB.mono (by simp)))
  clear hB HC
  go_wp2_with fail
  refine (HF.out _).mono ?_
  rintro e W ⟨rfl, hW⟩
  rw [hW]
  clear hW W HF
  go_wp2_with fail
  refine (HR1.out _).mono ?_
  rintro e W ⟨rfl, hW⟩
  rw [hW]
  clear hW W HR1
  go_wp2_with fail
  refine (HR2.out _).mono ?_
  rintro e W ⟨rfl, hW⟩
  rw [hW]
  clear hW W HR2
  go_wp2_with fail
  refine (H6.out _).mono ?_
  rintro e W ⟨rfl, hW⟩
  rw [hW]
  clear hW W H6
  go_wp2_with fail
  refine (H5.out _).mono ?_
  rintro e W ⟨rfl, hW⟩
  rw [hW]
  clear hW W H5
  go_wp2_with fail
  have hy := HY.out
  simp only [rw3, if_true, Bool.false_eq_true, if_false] at hy
  rw [← hy]
  clear hy
  refine (HP.out _).mono ?_
  rintro e W ⟨rfl, hW⟩
  rw [hW]
  clear hW W HP
  go_wp2
  go_ret2
  exact ⟨rfl, B1.out.alloc B1.out.size _⟩

set_option maxRecDepth 100000 in
set_option maxHeartbeats 800000 in
theorem renc_4_b0 (k : Nat) (r0 r1 r2 im c0 f0 u0 : Int) (w : World) (k0 : 1 ≤ (k : Int)) (k1 : (k : Int) < 63) (v0 : -9223372036854775808 ≤ im) (v1 : im ≤ 9223372036854775807) (bc : 0 ≤ c0 ∧ c0 ≤ 127) (bf : 0 ≤ f0 ∧ f0 ≤ 7) (bu : 0 ≤ u0 ∧ u0 ≤ 127) (g0 : isr r0 = false)
    (HC : Hid (∀ w, Calls Tryz.prog 28 #[.int .i64 k] w fun e w' => e = .returned (.agg #[.int .u32 c0, .int .u32 f0, .int .u32 u0]) ∧ Below w.heap.size w w'))
    (HF : Hid (∀ w, Calls Tryz.prog 6 #[.int .i64 k] w fun e w' => e = .returned (.int .i64 4) ∧ w' = w)) :
    Calls Tryz.prog 7 #[inst k r0 r1 r2 im] w fun e w' => e = .returned (.tuple #[.int .u32 0, .bool false]) ∧ Below w.heap.size w w' := by
  have t3 : ((k : Int) == 63) = false := by simp; omega
  have t4 : ((k : Int) == 64) = false := by simp; omega
  have t5 : ((k : Int) == 65) = false := by simp; omega
  have HR0 := hide (fun w => isr2_any r0 w)
  rw [g0] at HR0
  clear g0
  unfold inst
  go_enter Tryz.func7, Tryz.ntmps7
  go_wp2_with fail
  refine (HC.out _).mono ?_
  rintro e W1 ⟨rfl, hB⟩
  have c0' : W1.cell? ⟨w.heap.size, 0, none⟩ = some (.int .i64 k) := cell_below hB (by go_simp)
  have c1' : W1.cell? ⟨w.heap.size, 1, none⟩ = some (.int .i64 r0) := cell_below hB (by go_simp)
  have c2' : W1.cell? ⟨w.heap.size, 2, none⟩ = some (.int .i64 r1) := cell_below hB (by go_simp)
  have c3' : W1.cell? ⟨w.heap.size, 3, none⟩ = some (.int .i64 r2) := cell_below hB (by go_simp)
  have c4' : W1.cell? ⟨w.heap.size, 4, none⟩ = some (.int .i64 im) := cell_below hB (by go_simp)
  have hlt : w.heap.size < W1.heap.size := World.block_lt_of_cell? _ _ c0'
  have B1 : Hid (Below w.heap.size w W1) := hide (((Below.refl _ w).alloc (Nat.le_refl _) _).trans (hB.mono (by simp)))
  clear hB HC
  go_wp2_with fail
  refine (HF.out _).mono ?_
  rintro e W ⟨rfl, hW⟩
  rw [hW]
  clear hW W HF
  go_wp2_with fail
  refine (HR0.out _).mono ?_
  rintro e W ⟨rfl, hW⟩
  rw [hW]
  clear hW W HR0
  go_wp2
  go_ret2
  exact ⟨rfl, B1.out.alloc B1.out.size _⟩

set_option maxRecDepth 100000 in
set_option maxHeartbeats 800000 in
theorem renc_4_ok (k : Nat) (r0 r1 r2 im c0 f0 u0 : Int) (w : World) (k0 : 1 ≤ (k : Int)) (k1 : (k : Int) < 63) (v0 : -9223372036854775808 ≤ im) (v1 : im ≤ 9223372036854775807) (bc : 0 ≤ c0 ∧ c0 ≤ 127) (bf : 0 ≤ f0 ∧ f0 ≤ 7) (bu : 0 ≤ u0 ∧ u0 ≤ 127) (g0 : isr r0 = true) (s6 : (decide (28 ≤ (k : Int)) && decide ((k : Int) ≤ 30)) = false) (s5 : (decide (42 ≤ (k : Int)) && decide ((k : Int) ≤ 44)) = false)
    (HC : Hid (∀ w, Calls Tryz.prog 28 #[.int .i64 k] w fun e w' => e = .returned (.agg #[.int .u32 c0, .int .u32 f0, .int .u32 u0]) ∧ Below w.heap.size w w'))
    (HF : Hid (∀ w, Calls Tryz.prog 6 #[.int .i64 k] w fun e w' => e = .returned (.int .i64 4) ∧ w' = w)) :
    Calls Tryz.prog 7 #[inst k r0 r1 r2 im] w fun e w' => e = .returned (.tuple #[.int .u32 (putOf 4 (rw3 true false false c0 f0 r0 r1 r2) im), .bool (fitsOf 4 im)]) ∧ Below w.heap.size w w' := by
  have t3 : ((k : Int) == 63) = false := by simp; omega
  have t4 : ((k : Int) == 64) = false := by simp; omega
  have t5 : ((k : Int) == 65) = false := by simp; omega
  have HR0 := hide (fun w => isr2_any r0 w)
  rw [g0] at HR0
  have b0 := isr_yes g0
  clear g0
  have H6 := hide (fun w => shift6_any k w)
  rw [s6] at H6
  clear s6
  have H5 := hide (fun w => shift5_any k w)
  rw [s5] at H5
  clear s5
  have hb3 : 0 ≤ (rw3 true false false c0 f0 r0 r1 r2) ∧ (rw3 true false false c0 f0 r0 r1 r2) ≤ 4294967295 := rw3_bd _ _ _ _ _ _ _ _ (by omega)
  have HP := hide (fun w => rput2_any 4 (rw3 true false false c0 f0 r0 r1 r2) im w hb3.1 hb3.2 v0 v1)
  obtain ⟨y, hy⟩ : ∃ y, y = (rw3 true false false c0 f0 r0 r1 r2) := ⟨_, rfl⟩
  rw [← hy] at HP hb3 ⊢
  have HY := hide hy
  clear hy
  generalize putOf 4 y im = z at *
  generalize fitsOf 4 im = zb at *
  unfold inst
  go_enter Tryz.func7, Tryz.ntmps7
  go_wp2_with fail
  refine (HC.out _).mono ?_
  rintro e W1 ⟨rfl, hB⟩
  have c0' : W1.cell? ⟨w.heap.size, 0, none⟩ = some (.int .i64 k) := cell_below hB (by go_simp)
  have c1' : W1.cell? ⟨w.heap.size, 1, none⟩ = some (.int .i64 r0) := cell_below hB (by go_simp)
  have c2' : W1.cell? ⟨w.heap.size, 2, none⟩ = some (.int .i64 r1) := cell_below hB (by go_simp)
  have c3' : W1.cell? ⟨w.heap.size, 3, none⟩ = some (.int .i64 r2) := cell_below hB (by go_simp)
  have c4' : W1.cell? ⟨w.heap.size, 4, none⟩ = some (.int .i64 im) := cell_below hB (by go_simp)
  have hlt : w.heap.size < W1.heap.size := World.block_lt_of_cell? _ _ c0'
  have B1 : Hid (Below w.heap.size w W1) := hide (((Below.refl _ w).alloc (Nat.le_refl _) _).trans (hB.mono (by simp)))
  clear hB HC
  go_wp2_with fail
  refine (HF.out _).mono ?_
  rintro e W ⟨rfl, hW⟩
  rw [hW]
  clear hW W HF
  go_wp2_with fail
  refine (HR0.out _).mono ?_
  rintro e W ⟨rfl, hW⟩
  rw [hW]
  clear hW W HR0
  go_wp2_with fail
  refine (H6.out _).mono ?_
  rintro e W ⟨rfl, hW⟩
  rw [hW]
  clear hW W H6
  go_wp2_with fail
  refine (H5.out _).mono ?_
  rintro e W ⟨rfl, hW⟩
  rw [hW]
  clear hW W H5
  go_wp2_with fail
  have hy := HY.out
  simp only [rw3, if_true, Bool.false_eq_true, if_false] at hy
  rw [← hy]
  clear hy
  refine (HP.out _).mono ?_
  rintro e W ⟨rfl, hW⟩
  rw [hW]
  clear hW W HP
  go_wp2
  go_ret2
  exact ⟨rfl, B1.out.alloc B1.out.size _⟩

set_option maxRecDepth 100000 in
set_option maxHeartbeats 800000 in
theorem renc_5_b0 (k : Nat) (r0 r1 r2 im c0 f0 u0 : Int) (w : World) (k0 : 1 ≤ (k : Int)) (k1 : (k : Int) < 63) (v0 : -9223372036854775808 ≤ im) (v1 : im ≤ 9223372036854775807) (bc : 0 ≤ c0 ∧ c0 ≤ 127) (bf : 0 ≤ f0 ∧ f0 ≤ 7) (bu : 0 ≤ u0 ∧ u0 ≤ 127) (g0 : isr r0 = false)
    (HC : Hid (∀ w, Calls Tryz.prog 28 #[.int .i64 k] w fun e w' => e = .returned (.agg #[.int .u32 c0, .int .u32 f0, .int .u32 u0]) ∧ Below w.heap.size w w'))
    (HF : Hid (∀ w, Calls Tryz.prog 6 #[.int .i64 k] w fun e w' => e = .returned (.int .i64 5) ∧ w' = w)) :
    Calls Tryz.prog 7 #[inst k r0 r1 r2 im] w fun e w' => e = .returned (.tuple #[.int .u32 0, .bool false]) ∧ Below w.heap.size w w' := by
  have t3 : ((k : Int) == 63) = false := by simp; omega
  have t4 : ((k : Int) == 64) = false := by simp; omega
  have t5 : ((k : Int) == 65) = false := by simp; omega
  have HR0 := hide (fun w => isr2_any r0 w)
  rw [g0] at HR0
  clear g0
  unfold inst
  go_enter Tryz.func7, Tryz.ntmps7
  go_wp2_with fail
  refine (HC.out _).mono ?_
  rintro e W1 ⟨rfl, hB⟩
  have c0' : W1.cell? ⟨w.heap.size, 0, none⟩ = some (.int .i64 k) := cell_below hB (by go_simp)
  have c1' : W1.cell? ⟨w.heap.size, 1, none⟩ = some (.int .i64 r0) := cell_below hB (by go_simp)
  have c2' : W1.cell? ⟨w.heap.size, 2, none⟩ = some (.int .i64 r1) := cell_below hB (by go_simp)
  have c3' : W1.cell? ⟨w.heap.size, 3, none⟩ = some (.int .i64 r2) := cell_below hB (by go_simp)
  have c4' : W1.cell? ⟨w.heap.size, 4, none⟩ = some (.int .i64 im) := cell_below hB (by go_simp)
  have hlt : w.heap.size < W1.heap.size := World.block_lt_of_cell? _ _ c0'
  have B1 : Hid (Below w.heap.size w W1) := hide (((Below.refl _ w).alloc (Nat.le_refl _) _).trans (hB.mono (by simp)))
  clear hB HC
  go_wp2_with fail
  refine (HF.out _).mono ?_
  rintro e W ⟨rfl, hW⟩
  rw [hW]
  clear hW W HF
  go_wp2_with fail
  refine (HR0.out _).mono ?_
  rintro e W ⟨rfl, hW⟩
  rw [hW]
  clear hW W HR0
  go_wp2
  go_ret2
  exact ⟨rfl, B1.out.alloc B1.out.size _⟩

set_option maxRecDepth 100000 in
set_option maxHeartbeats 800000 in
theorem renc_5_ok (k : Nat) (r0 r1 r2 im c0 f0 u0 : Int) (w : World) (k0 : 1 ≤ (k : Int)) (k1 : (k : Int) < 63) (v0 : -9223372036854775808 ≤ im) (v1 : im ≤ 9223372036854775807) (bc : 0 ≤ c0 ∧ c0 ≤ 127) (bf : 0 ≤ f0 ∧ f0 ≤ 7) (bu : 0 ≤ u0 ∧ u0 ≤ 127) (g0 : isr r0 = true) (s6 : (decide (28 ≤ (k : Int)) && decide ((k : Int) ≤ 30)) = false) (s5 : (decide (42 ≤ (k : Int)) && decide ((k : Int) ≤ 44)) = false)
    (HC : Hid (∀ w, Calls Tryz.prog 28 #[.int .i64 k] w fun e w' => e = .returned (.agg #[.int .u32 c0, .int .u32 f0, .int .u32 u0]) ∧ Below w.heap.size w w'))
    (HF : Hid (∀ w, Calls Tryz.prog 6 #[.int .i64 k] w fun e w' => e = .returned (.int .i64 5) ∧ w' = w)) :
    Calls Tryz.prog 7 #[inst k r0 r1 r2 im] w fun e w' => e = .returned (.tuple #[.int .u32 (putOf 5 (rw3 true false false c0 f0 r0 r1 r2) im), .bool (fitsOf 5 im)]) ∧ Below w.heap.size w w' := by
  have t3 : ((k : Int) == 63) = false := by simp; omega
  have t4 : ((k : Int) == 64) = false := by simp; omega
  have t5 : ((k : Int) == 65) = false := by simp; omega
  have HR0 := hide (fun w => isr2_any r0 w)
  rw [g0] at HR0
  have b0 := isr_yes g0
  clear g0
  have H6 := hide (fun w => shift6_any k w)
  rw [s6] at H6
  clear s6
  have H5 := hide (fun w => shift5_any k w)
  rw [s5] at H5
  clear s5
  have hb3 : 0 ≤ (rw3 true false false c0 f0 r0 r1 r2) ∧ (rw3 true false false c0 f0 r0 r1 r2) ≤ 4294967295 := rw3_bd _ _ _ _ _ _ _ _ (by omega)
  have HP := hide (fun w => rput2_any 5 (rw3 true false false c0 f0 r0 r1 r2) im w hb3.1 hb3.2 v0 v1)
  obtain ⟨y, hy⟩ : ∃ y, y = (rw3 true false false c0 f0 r0 r1 r2) := ⟨_, rfl⟩
  rw [← hy] at HP hb3 ⊢
  have HY := hide hy
  clear hy
  generalize putOf 5 y im = z at *
  generalize fitsOf 5 im = zb at *
  unfold inst
  go_enter Tryz.func7, Tryz.ntmps7
  go_wp2_with fail
  refine (HC.out _).mono ?_
  rintro e W1 ⟨rfl, hB⟩
  have c0' : W1.cell? ⟨w.heap.size, 0, none⟩ = some (.int .i64 k) := cell_below hB (by go_simp)
  have c1' : W1.cell? ⟨w.heap.size, 1, none⟩ = some (.int .i64 r0) := cell_below hB (by go_simp)
  have c2' : W1.cell? ⟨w.heap.size, 2, none⟩ = some (.int .i64 r1) := cell_below hB (by go_simp)
  have c3' : W1.cell? ⟨w.heap.size, 3, none⟩ = some (.int .i64 r2) := cell_below hB (by go_simp)
  have c4' : W1.cell? ⟨w.heap.size, 4, none⟩ = some (.int .i64 im) := cell_below hB (by go_simp)
  have hlt : w.heap.size < W1.heap.size := World.block_lt_of_cell? _ _ c0'
  have B1 : Hid (Below w.heap.size w W1) := hide (((Below.refl _ w).alloc (Nat.le_refl _) _).trans (hB.mono (by simp)))
  clear hB HC
  go_wp2_with fail
  refine (HF.out _).mono ?_
  rintro e W ⟨rfl, hW⟩
  rw [hW]
  clear hW W HF
  go_wp2_with fail
  refine (HR0.out _).mono ?_
  rintro e W ⟨rfl, hW⟩
  rw [hW]
  clear hW W HR0
  go_wp2_with fail
  refine (H6.out _).mono ?_
  rintro e W ⟨rfl, hW⟩
  rw [hW]
  clear hW W H6
  go_wp2_with fail
  refine (H5.out _).mono ?_
  rintro e W ⟨rfl, hW⟩
  rw [hW]
  clear hW W H5
  go_wp2_with fail
  have hy := HY.out
  simp only [rw3, if_true, Bool.false_eq_true, if_false] at hy
  rw [← hy]
  clear hy
  refine (HP.out _).mono ?_
  rintro e W ⟨rfl, hW⟩
  rw [hW]
  clear hW W HP
  go_wp2
  go_ret2
  exact ⟨rfl, B1.out.alloc B1.out.size _⟩

end Go.Proofs.YtgjfelkbblbjfaaGreatDoor
