/- The walk of the law on an instruction's fields, a form at a time. -/
import Derived.Test.YtnlngagcpcpbkaaDoorInstTrip
import Derived.Test.YtnlngagcpcpbkaaDoorImmRef
namespace Go.Proofs.YtnlngagcpcpbkaaDoor
open Go.RowKit
set_option linter.unusedVariables false
set_option linter.unusedSimpArgs false

theorem and_31 {y : Int} (h0 : 0 ≤ y) (h1 : y ≤ 4294967295) : bits .and .u32 y 31 = y % 32 := by
  have := bits_mask .u32 32 (by decide) wraps_u32 5 (by omega) y h0 (by omega)
  simpa using this

set_option maxRecDepth 100000 in
set_option maxHeartbeats 800000 in
theorem fieldw_0 (a0 a1 a2 a3 q0 q1 q2 x : Int) (k : Nat) (w : World) (hL : Laid w) (b0 : 0 ≤ a0 ∧ a0 ≤ 255) (b1 : 0 ≤ a1 ∧ a1 ≤ 255) (b2 : 0 ≤ a2 ∧ a2 ≤ 255) (b3 : 0 ≤ a3 ∧ a3 ≤ 255)
    (hk : 1 + a0 % 65 = k) (k0 : 1 ≤ (k : Int)) (k1 : (k : Int) ≤ 65) (h0 : a1 % 32 = q0) (h1 : a2 % 32 = q1) (h2 : a3 % 32 = q2) (c0 : 0 ≤ q0 ∧ q0 < 32) (c1 : 0 ≤ q1 ∧ q1 < 32) (c2 : 0 ≤ q2 ∧ q2 < 32) (x0 : 0 ≤ x ∧ x ≤ 4294967295) (y0 : bits .and .u32 (x / 128) 31 = q0) (y1 : bits .and .u32 (x / 32768) 31 = q1) (y2 : bits .and .u32 (x / 1048576) 31 = q2) (g : Int)
    (HK : Hid (∀ w, Laid w → Calls Tryd.prog 9 #[] w fun e w' => e = .returned (.bool true) ∧ Below w.heap.size w w'))
    (HF : Hid (∀ w, Laid w → Calls Tryd.prog 14 #[.int .i64 k] w fun e w' => e = .returned (.int .i64 0) ∧ w' = w))
    (HE : Hid (∀ w, Laid w → Calls Tryd.prog 12 #[.agg #[.int .i64 k, .int .i64 q0, .int .i64 q1, .int .i64 q2, .int .i64 0]] w fun e w' => e = .returned (.tuple #[.int .u32 x, .bool true]) ∧ Below w.heap.size w w'))
    (HD : Hid (∀ w, Laid w → Calls Tryd.prog 10 #[.int .u32 x] w fun e w' => e = .returned (.tuple #[.agg #[.int .i64 k, .int .i64 q0, .int .i64 q1, .int .i64 q2, .int .i64 0], .bool true]) ∧ Below w.heap.size w w'))
    (HR : Hid (∀ w, Calls Tryd.prog 20 #[.int .i64 0, .int .u32 x] w fun e w' => e = .returned (.int .i64 g) ∧ ∃ m, w' = w.drewN m))
    (HG : Hid (∀ w, Calls Tryd.prog 21 #[.int .i64 0, .int .u32 x] w fun e w' => e = .returned (.int .i64 g) ∧ w' = w)) :
    Calls Tryd.prog 7 #[.int .u8 a0, .int .u8 a1, .int .u8 a2, .int .u8 a3] w fun e w' => e = .returned (.bool true) ∧ Below w.heap.size w w' := by
  have HL := hide hL
  clear hL
  go_enter Tryd.func7, Tryd.ntmps7
  go_wp2_with fail
  refine (HK.out _ HL.out).mono ?_
  rintro e W1 ⟨rfl, hB⟩
  have B1 := hide hB
  have L1 := hide (HL.out.then hB)
  clear hB HK HL
  go_wp2_with fail
  refine (HF.out _ (L1.out.alloc _)).mono ?_
  rintro e W ⟨rfl, hW⟩
  rw [hW]
  clear hW W HF
  go_wp2_with fail
  refine (HE.out _ (L1.out.alloc _)).mono ?_
  rintro e W2 ⟨rfl, hB⟩
  have L2 := hide ((L1.out.alloc _).then hB)
  have B2 : Hid (Below w.heap.size w W2) := hide ((B1.out.alloc B1.out.size _).trans (hB.mono (by have := B1.out.size; simp; omega)))
  have f0 : W2.cell? ⟨W1.heap.size, 0, none⟩ = some (.int .i64 k) := cell_below hB (by go_simp)
  clear hB HE
  go_wp2_with fail
  refine (HD.out _ L2.out).mono ?_
  rintro e W3 ⟨rfl, hB⟩
  have g0 := cell_below hB f0
  have B3 : Hid (Below w.heap.size w W3) := hide (B2.out.trans (hB.mono B2.out.size))
  have hlt : W1.heap.size < W3.heap.size := World.block_lt_of_cell? _ _ g0
  clear hB HD f0
  go_wp2
  go_ret
  exact ⟨rfl, B3.out.alloc B3.out.size _⟩

set_option maxRecDepth 100000 in
set_option maxHeartbeats 800000 in
theorem fieldw_1 (a0 a1 a2 a3 q0 q1 q2 x : Int) (k : Nat) (w : World) (hL : Laid w) (b0 : 0 ≤ a0 ∧ a0 ≤ 255) (b1 : 0 ≤ a1 ∧ a1 ≤ 255) (b2 : 0 ≤ a2 ∧ a2 ≤ 255) (b3 : 0 ≤ a3 ∧ a3 ≤ 255)
    (hk : 1 + a0 % 65 = k) (k0 : 1 ≤ (k : Int)) (k1 : (k : Int) ≤ 65) (h0 : a1 % 32 = q0) (h1 : a2 % 32 = q1) (h2 : a3 % 32 = q2) (c0 : 0 ≤ q0 ∧ q0 < 32) (c1 : 0 ≤ q1 ∧ q1 < 32) (c2 : 0 ≤ q2 ∧ q2 < 32) (x0 : 0 ≤ x ∧ x ≤ 4294967295) (y0 : bits .and .u32 (x / 128) 31 = q0) (y1 : bits .and .u32 (x / 32768) 31 = q1) (g : Int)
    (HK : Hid (∀ w, Laid w → Calls Tryd.prog 9 #[] w fun e w' => e = .returned (.bool true) ∧ Below w.heap.size w w'))
    (HF : Hid (∀ w, Laid w → Calls Tryd.prog 14 #[.int .i64 k] w fun e w' => e = .returned (.int .i64 1) ∧ w' = w))
    (HE : Hid (∀ w, Laid w → Calls Tryd.prog 12 #[.agg #[.int .i64 k, .int .i64 q0, .int .i64 q1, .int .i64 q2, .int .i64 0]] w fun e w' => e = .returned (.tuple #[.int .u32 x, .bool true]) ∧ Below w.heap.size w w'))
    (HD : Hid (∀ w, Laid w → Calls Tryd.prog 10 #[.int .u32 x] w fun e w' => e = .returned (.tuple #[.agg #[.int .i64 k, .int .i64 q0, .int .i64 q1, .int .i64 0, .int .i64 0], .bool true]) ∧ Below w.heap.size w w'))
    (HR : Hid (∀ w, Calls Tryd.prog 20 #[.int .i64 1, .int .u32 x] w fun e w' => e = .returned (.int .i64 g) ∧ ∃ m, w' = w.drewN m))
    (HG : Hid (∀ w, Calls Tryd.prog 21 #[.int .i64 1, .int .u32 x] w fun e w' => e = .returned (.int .i64 g) ∧ w' = w)) :
    Calls Tryd.prog 7 #[.int .u8 a0, .int .u8 a1, .int .u8 a2, .int .u8 a3] w fun e w' => e = .returned (.bool true) ∧ Below w.heap.size w w' := by
  have HL := hide hL
  clear hL
  go_enter Tryd.func7, Tryd.ntmps7
  go_wp2_with fail
  refine (HK.out _ HL.out).mono ?_
  rintro e W1 ⟨rfl, hB⟩
  have B1 := hide hB
  have L1 := hide (HL.out.then hB)
  clear hB HK HL
  go_wp2_with fail
  refine (HF.out _ (L1.out.alloc _)).mono ?_
  rintro e W ⟨rfl, hW⟩
  rw [hW]
  clear hW W HF
  go_wp2_with fail
  refine (HE.out _ (L1.out.alloc _)).mono ?_
  rintro e W2 ⟨rfl, hB⟩
  have L2 := hide ((L1.out.alloc _).then hB)
  have B2 : Hid (Below w.heap.size w W2) := hide ((B1.out.alloc B1.out.size _).trans (hB.mono (by have := B1.out.size; simp; omega)))
  have f0 : W2.cell? ⟨W1.heap.size, 0, none⟩ = some (.int .i64 k) := cell_below hB (by go_simp)
  clear hB HE
  go_wp2_with fail
  refine (HD.out _ L2.out).mono ?_
  rintro e W3 ⟨rfl, hB⟩
  have g0 := cell_below hB f0
  have B3 : Hid (Below w.heap.size w W3) := hide (B2.out.trans (hB.mono B2.out.size))
  have hlt : W1.heap.size < W3.heap.size := World.block_lt_of_cell? _ _ g0
  clear hB HD f0
  go_wp2_with fail
  refine (HR.out _).mono ?_
  rintro e W ⟨rfl, m, hW⟩
  rw [hW]
  clear hW W HR
  go_wp2_with fail
  refine (HG.out _).mono ?_
  rintro e W ⟨rfl, hW⟩
  rw [hW]
  clear hW W HG
  go_wp2
  go_ret
  exact ⟨rfl, (B3.out.alloc B3.out.size _).trans ⟨rfl, rfl, rfl, Nat.le_refl _, fun _ _ => rfl⟩⟩

set_option maxRecDepth 100000 in
set_option maxHeartbeats 800000 in
theorem fieldw_2 (a0 a1 a2 a3 q0 q1 q2 x : Int) (k : Nat) (w : World) (hL : Laid w) (b0 : 0 ≤ a0 ∧ a0 ≤ 255) (b1 : 0 ≤ a1 ∧ a1 ≤ 255) (b2 : 0 ≤ a2 ∧ a2 ≤ 255) (b3 : 0 ≤ a3 ∧ a3 ≤ 255)
    (hk : 1 + a0 % 65 = k) (k0 : 1 ≤ (k : Int)) (k1 : (k : Int) ≤ 65) (h0 : a1 % 32 = q0) (h1 : a2 % 32 = q1) (h2 : a3 % 32 = q2) (c0 : 0 ≤ q0 ∧ q0 < 32) (c1 : 0 ≤ q1 ∧ q1 < 32) (c2 : 0 ≤ q2 ∧ q2 < 32) (x0 : 0 ≤ x ∧ x ≤ 4294967295) (y1 : bits .and .u32 (x / 32768) 31 = q1) (y2 : bits .and .u32 (x / 1048576) 31 = q2) (g : Int)
    (HK : Hid (∀ w, Laid w → Calls Tryd.prog 9 #[] w fun e w' => e = .returned (.bool true) ∧ Below w.heap.size w w'))
    (HF : Hid (∀ w, Laid w → Calls Tryd.prog 14 #[.int .i64 k] w fun e w' => e = .returned (.int .i64 2) ∧ w' = w))
    (HE : Hid (∀ w, Laid w → Calls Tryd.prog 12 #[.agg #[.int .i64 k, .int .i64 q0, .int .i64 q1, .int .i64 q2, .int .i64 0]] w fun e w' => e = .returned (.tuple #[.int .u32 x, .bool true]) ∧ Below w.heap.size w w'))
    (HD : Hid (∀ w, Laid w → Calls Tryd.prog 10 #[.int .u32 x] w fun e w' => e = .returned (.tuple #[.agg #[.int .i64 k, .int .i64 0, .int .i64 q1, .int .i64 q2, .int .i64 0], .bool true]) ∧ Below w.heap.size w w'))
    (HR : Hid (∀ w, Calls Tryd.prog 20 #[.int .i64 2, .int .u32 x] w fun e w' => e = .returned (.int .i64 g) ∧ ∃ m, w' = w.drewN m))
    (HG : Hid (∀ w, Calls Tryd.prog 21 #[.int .i64 2, .int .u32 x] w fun e w' => e = .returned (.int .i64 g) ∧ w' = w)) :
    Calls Tryd.prog 7 #[.int .u8 a0, .int .u8 a1, .int .u8 a2, .int .u8 a3] w fun e w' => e = .returned (.bool true) ∧ Below w.heap.size w w' := by
  have HL := hide hL
  clear hL
  go_enter Tryd.func7, Tryd.ntmps7
  go_wp2_with fail
  refine (HK.out _ HL.out).mono ?_
  rintro e W1 ⟨rfl, hB⟩
  have B1 := hide hB
  have L1 := hide (HL.out.then hB)
  clear hB HK HL
  go_wp2_with fail
  refine (HF.out _ (L1.out.alloc _)).mono ?_
  rintro e W ⟨rfl, hW⟩
  rw [hW]
  clear hW W HF
  go_wp2_with fail
  refine (HE.out _ (L1.out.alloc _)).mono ?_
  rintro e W2 ⟨rfl, hB⟩
  have L2 := hide ((L1.out.alloc _).then hB)
  have B2 : Hid (Below w.heap.size w W2) := hide ((B1.out.alloc B1.out.size _).trans (hB.mono (by have := B1.out.size; simp; omega)))
  have f0 : W2.cell? ⟨W1.heap.size, 0, none⟩ = some (.int .i64 k) := cell_below hB (by go_simp)
  clear hB HE
  go_wp2_with fail
  refine (HD.out _ L2.out).mono ?_
  rintro e W3 ⟨rfl, hB⟩
  have g0 := cell_below hB f0
  have B3 : Hid (Below w.heap.size w W3) := hide (B2.out.trans (hB.mono B2.out.size))
  have hlt : W1.heap.size < W3.heap.size := World.block_lt_of_cell? _ _ g0
  clear hB HD f0
  go_wp2_with fail
  refine (HR.out _).mono ?_
  rintro e W ⟨rfl, m, hW⟩
  rw [hW]
  clear hW W HR
  go_wp2_with fail
  refine (HG.out _).mono ?_
  rintro e W ⟨rfl, hW⟩
  rw [hW]
  clear hW W HG
  go_wp2
  go_ret
  exact ⟨rfl, (B3.out.alloc B3.out.size _).trans ⟨rfl, rfl, rfl, Nat.le_refl _, fun _ _ => rfl⟩⟩

set_option maxRecDepth 100000 in
set_option maxHeartbeats 800000 in
theorem fieldw_3 (a0 a1 a2 a3 q0 q1 q2 x : Int) (k : Nat) (w : World) (hL : Laid w) (b0 : 0 ≤ a0 ∧ a0 ≤ 255) (b1 : 0 ≤ a1 ∧ a1 ≤ 255) (b2 : 0 ≤ a2 ∧ a2 ≤ 255) (b3 : 0 ≤ a3 ∧ a3 ≤ 255)
    (hk : 1 + a0 % 65 = k) (k0 : 1 ≤ (k : Int)) (k1 : (k : Int) ≤ 65) (h0 : a1 % 32 = q0) (h1 : a2 % 32 = q1) (h2 : a3 % 32 = q2) (c0 : 0 ≤ q0 ∧ q0 < 32) (c1 : 0 ≤ q1 ∧ q1 < 32) (c2 : 0 ≤ q2 ∧ q2 < 32) (x0 : 0 ≤ x ∧ x ≤ 4294967295) (y1 : bits .and .u32 (x / 32768) 31 = q1) (y2 : bits .and .u32 (x / 1048576) 31 = q2) (g : Int)
    (HK : Hid (∀ w, Laid w → Calls Tryd.prog 9 #[] w fun e w' => e = .returned (.bool true) ∧ Below w.heap.size w w'))
    (HF : Hid (∀ w, Laid w → Calls Tryd.prog 14 #[.int .i64 k] w fun e w' => e = .returned (.int .i64 3) ∧ w' = w))
    (HE : Hid (∀ w, Laid w → Calls Tryd.prog 12 #[.agg #[.int .i64 k, .int .i64 q0, .int .i64 q1, .int .i64 q2, .int .i64 0]] w fun e w' => e = .returned (.tuple #[.int .u32 x, .bool true]) ∧ Below w.heap.size w w'))
    (HD : Hid (∀ w, Laid w → Calls Tryd.prog 10 #[.int .u32 x] w fun e w' => e = .returned (.tuple #[.agg #[.int .i64 k, .int .i64 0, .int .i64 q1, .int .i64 q2, .int .i64 0], .bool true]) ∧ Below w.heap.size w w'))
    (HR : Hid (∀ w, Calls Tryd.prog 20 #[.int .i64 3, .int .u32 x] w fun e w' => e = .returned (.int .i64 g) ∧ ∃ m, w' = w.drewN m))
    (HG : Hid (∀ w, Calls Tryd.prog 21 #[.int .i64 3, .int .u32 x] w fun e w' => e = .returned (.int .i64 g) ∧ w' = w)) :
    Calls Tryd.prog 7 #[.int .u8 a0, .int .u8 a1, .int .u8 a2, .int .u8 a3] w fun e w' => e = .returned (.bool true) ∧ Below w.heap.size w w' := by
  have HL := hide hL
  clear hL
  go_enter Tryd.func7, Tryd.ntmps7
  go_wp2_with fail
  refine (HK.out _ HL.out).mono ?_
  rintro e W1 ⟨rfl, hB⟩
  have B1 := hide hB
  have L1 := hide (HL.out.then hB)
  clear hB HK HL
  go_wp2_with fail
  refine (HF.out _ (L1.out.alloc _)).mono ?_
  rintro e W ⟨rfl, hW⟩
  rw [hW]
  clear hW W HF
  go_wp2_with fail
  refine (HE.out _ (L1.out.alloc _)).mono ?_
  rintro e W2 ⟨rfl, hB⟩
  have L2 := hide ((L1.out.alloc _).then hB)
  have B2 : Hid (Below w.heap.size w W2) := hide ((B1.out.alloc B1.out.size _).trans (hB.mono (by have := B1.out.size; simp; omega)))
  have f0 : W2.cell? ⟨W1.heap.size, 0, none⟩ = some (.int .i64 k) := cell_below hB (by go_simp)
  clear hB HE
  go_wp2_with fail
  refine (HD.out _ L2.out).mono ?_
  rintro e W3 ⟨rfl, hB⟩
  have g0 := cell_below hB f0
  have B3 : Hid (Below w.heap.size w W3) := hide (B2.out.trans (hB.mono B2.out.size))
  have hlt : W1.heap.size < W3.heap.size := World.block_lt_of_cell? _ _ g0
  clear hB HD f0
  go_wp2_with fail
  refine (HR.out _).mono ?_
  rintro e W ⟨rfl, m, hW⟩
  rw [hW]
  clear hW W HR
  go_wp2_with fail
  refine (HG.out _).mono ?_
  rintro e W ⟨rfl, hW⟩
  rw [hW]
  clear hW W HG
  go_wp2
  go_ret
  exact ⟨rfl, (B3.out.alloc B3.out.size _).trans ⟨rfl, rfl, rfl, Nat.le_refl _, fun _ _ => rfl⟩⟩

set_option maxRecDepth 100000 in
set_option maxHeartbeats 800000 in
theorem fieldw_4 (a0 a1 a2 a3 q0 q1 q2 x : Int) (k : Nat) (w : World) (hL : Laid w) (b0 : 0 ≤ a0 ∧ a0 ≤ 255) (b1 : 0 ≤ a1 ∧ a1 ≤ 255) (b2 : 0 ≤ a2 ∧ a2 ≤ 255) (b3 : 0 ≤ a3 ∧ a3 ≤ 255)
    (hk : 1 + a0 % 65 = k) (k0 : 1 ≤ (k : Int)) (k1 : (k : Int) ≤ 65) (h0 : a1 % 32 = q0) (h1 : a2 % 32 = q1) (h2 : a3 % 32 = q2) (c0 : 0 ≤ q0 ∧ q0 < 32) (c1 : 0 ≤ q1 ∧ q1 < 32) (c2 : 0 ≤ q2 ∧ q2 < 32) (x0 : 0 ≤ x ∧ x ≤ 4294967295) (y0 : bits .and .u32 (x / 128) 31 = q0) (g : Int)
    (HK : Hid (∀ w, Laid w → Calls Tryd.prog 9 #[] w fun e w' => e = .returned (.bool true) ∧ Below w.heap.size w w'))
    (HF : Hid (∀ w, Laid w → Calls Tryd.prog 14 #[.int .i64 k] w fun e w' => e = .returned (.int .i64 4) ∧ w' = w))
    (HE : Hid (∀ w, Laid w → Calls Tryd.prog 12 #[.agg #[.int .i64 k, .int .i64 q0, .int .i64 q1, .int .i64 q2, .int .i64 0]] w fun e w' => e = .returned (.tuple #[.int .u32 x, .bool true]) ∧ Below w.heap.size w w'))
    (HD : Hid (∀ w, Laid w → Calls Tryd.prog 10 #[.int .u32 x] w fun e w' => e = .returned (.tuple #[.agg #[.int .i64 k, .int .i64 q0, .int .i64 0, .int .i64 0, .int .i64 0], .bool true]) ∧ Below w.heap.size w w'))
    (HR : Hid (∀ w, Calls Tryd.prog 20 #[.int .i64 4, .int .u32 x] w fun e w' => e = .returned (.int .i64 g) ∧ ∃ m, w' = w.drewN m))
    (HG : Hid (∀ w, Calls Tryd.prog 21 #[.int .i64 4, .int .u32 x] w fun e w' => e = .returned (.int .i64 g) ∧ w' = w)) :
    Calls Tryd.prog 7 #[.int .u8 a0, .int .u8 a1, .int .u8 a2, .int .u8 a3] w fun e w' => e = .returned (.bool true) ∧ Below w.heap.size w w' := by
  have HL := hide hL
  clear hL
  go_enter Tryd.func7, Tryd.ntmps7
  go_wp2_with fail
  refine (HK.out _ HL.out).mono ?_
  rintro e W1 ⟨rfl, hB⟩
  have B1 := hide hB
  have L1 := hide (HL.out.then hB)
  clear hB HK HL
  go_wp2_with fail
  refine (HF.out _ (L1.out.alloc _)).mono ?_
  rintro e W ⟨rfl, hW⟩
  rw [hW]
  clear hW W HF
  go_wp2_with fail
  refine (HE.out _ (L1.out.alloc _)).mono ?_
  rintro e W2 ⟨rfl, hB⟩
  have L2 := hide ((L1.out.alloc _).then hB)
  have B2 : Hid (Below w.heap.size w W2) := hide ((B1.out.alloc B1.out.size _).trans (hB.mono (by have := B1.out.size; simp; omega)))
  have f0 : W2.cell? ⟨W1.heap.size, 0, none⟩ = some (.int .i64 k) := cell_below hB (by go_simp)
  clear hB HE
  go_wp2_with fail
  refine (HD.out _ L2.out).mono ?_
  rintro e W3 ⟨rfl, hB⟩
  have g0 := cell_below hB f0
  have B3 : Hid (Below w.heap.size w W3) := hide (B2.out.trans (hB.mono B2.out.size))
  have hlt : W1.heap.size < W3.heap.size := World.block_lt_of_cell? _ _ g0
  clear hB HD f0
  go_wp2_with fail
  refine (HR.out _).mono ?_
  rintro e W ⟨rfl, m, hW⟩
  rw [hW]
  clear hW W HR
  go_wp2_with fail
  refine (HG.out _).mono ?_
  rintro e W ⟨rfl, hW⟩
  rw [hW]
  clear hW W HG
  go_wp2
  go_ret
  exact ⟨rfl, (B3.out.alloc B3.out.size _).trans ⟨rfl, rfl, rfl, Nat.le_refl _, fun _ _ => rfl⟩⟩

set_option maxRecDepth 100000 in
set_option maxHeartbeats 800000 in
theorem fieldw_5 (a0 a1 a2 a3 q0 q1 q2 x : Int) (k : Nat) (w : World) (hL : Laid w) (b0 : 0 ≤ a0 ∧ a0 ≤ 255) (b1 : 0 ≤ a1 ∧ a1 ≤ 255) (b2 : 0 ≤ a2 ∧ a2 ≤ 255) (b3 : 0 ≤ a3 ∧ a3 ≤ 255)
    (hk : 1 + a0 % 65 = k) (k0 : 1 ≤ (k : Int)) (k1 : (k : Int) ≤ 65) (h0 : a1 % 32 = q0) (h1 : a2 % 32 = q1) (h2 : a3 % 32 = q2) (c0 : 0 ≤ q0 ∧ q0 < 32) (c1 : 0 ≤ q1 ∧ q1 < 32) (c2 : 0 ≤ q2 ∧ q2 < 32) (x0 : 0 ≤ x ∧ x ≤ 4294967295) (y0 : bits .and .u32 (x / 128) 31 = q0) (g : Int)
    (HK : Hid (∀ w, Laid w → Calls Tryd.prog 9 #[] w fun e w' => e = .returned (.bool true) ∧ Below w.heap.size w w'))
    (HF : Hid (∀ w, Laid w → Calls Tryd.prog 14 #[.int .i64 k] w fun e w' => e = .returned (.int .i64 5) ∧ w' = w))
    (HE : Hid (∀ w, Laid w → Calls Tryd.prog 12 #[.agg #[.int .i64 k, .int .i64 q0, .int .i64 q1, .int .i64 q2, .int .i64 0]] w fun e w' => e = .returned (.tuple #[.int .u32 x, .bool true]) ∧ Below w.heap.size w w'))
    (HD : Hid (∀ w, Laid w → Calls Tryd.prog 10 #[.int .u32 x] w fun e w' => e = .returned (.tuple #[.agg #[.int .i64 k, .int .i64 q0, .int .i64 0, .int .i64 0, .int .i64 0], .bool true]) ∧ Below w.heap.size w w'))
    (HR : Hid (∀ w, Calls Tryd.prog 20 #[.int .i64 5, .int .u32 x] w fun e w' => e = .returned (.int .i64 g) ∧ ∃ m, w' = w.drewN m))
    (HG : Hid (∀ w, Calls Tryd.prog 21 #[.int .i64 5, .int .u32 x] w fun e w' => e = .returned (.int .i64 g) ∧ w' = w)) :
    Calls Tryd.prog 7 #[.int .u8 a0, .int .u8 a1, .int .u8 a2, .int .u8 a3] w fun e w' => e = .returned (.bool true) ∧ Below w.heap.size w w' := by
  have HL := hide hL
  clear hL
  go_enter Tryd.func7, Tryd.ntmps7
  go_wp2_with fail
  refine (HK.out _ HL.out).mono ?_
  rintro e W1 ⟨rfl, hB⟩
  have B1 := hide hB
  have L1 := hide (HL.out.then hB)
  clear hB HK HL
  go_wp2_with fail
  refine (HF.out _ (L1.out.alloc _)).mono ?_
  rintro e W ⟨rfl, hW⟩
  rw [hW]
  clear hW W HF
  go_wp2_with fail
  refine (HE.out _ (L1.out.alloc _)).mono ?_
  rintro e W2 ⟨rfl, hB⟩
  have L2 := hide ((L1.out.alloc _).then hB)
  have B2 : Hid (Below w.heap.size w W2) := hide ((B1.out.alloc B1.out.size _).trans (hB.mono (by have := B1.out.size; simp; omega)))
  have f0 : W2.cell? ⟨W1.heap.size, 0, none⟩ = some (.int .i64 k) := cell_below hB (by go_simp)
  clear hB HE
  go_wp2_with fail
  refine (HD.out _ L2.out).mono ?_
  rintro e W3 ⟨rfl, hB⟩
  have g0 := cell_below hB f0
  have B3 : Hid (Below w.heap.size w W3) := hide (B2.out.trans (hB.mono B2.out.size))
  have hlt : W1.heap.size < W3.heap.size := World.block_lt_of_cell? _ _ g0
  clear hB HD f0
  go_wp2_with fail
  refine (HR.out _).mono ?_
  rintro e W ⟨rfl, m, hW⟩
  rw [hW]
  clear hW W HR
  go_wp2_with fail
  refine (HG.out _).mono ?_
  rintro e W ⟨rfl, hW⟩
  rw [hW]
  clear hW W HG
  go_wp2
  go_ret
  exact ⟨rfl, (B3.out.alloc B3.out.size _).trans ⟨rfl, rfl, rfl, Nat.le_refl _, fun _ _ => rfl⟩⟩

set_option maxRecDepth 100000 in
set_option maxHeartbeats 800000 in
theorem fieldw_6 (a0 a1 a2 a3 q0 q1 q2 x : Int) (k : Nat) (w : World) (hL : Laid w) (b0 : 0 ≤ a0 ∧ a0 ≤ 255) (b1 : 0 ≤ a1 ∧ a1 ≤ 255) (b2 : 0 ≤ a2 ∧ a2 ≤ 255) (b3 : 0 ≤ a3 ∧ a3 ≤ 255)
    (hk : 1 + a0 % 65 = k) (k0 : 1 ≤ (k : Int)) (k1 : (k : Int) ≤ 65) (h0 : a1 % 32 = q0) (h1 : a2 % 32 = q1) (h2 : a3 % 32 = q2) (c0 : 0 ≤ q0 ∧ q0 < 32) (c1 : 0 ≤ q1 ∧ q1 < 32) (c2 : 0 ≤ q2 ∧ q2 < 32) (x0 : 0 ≤ x ∧ x ≤ 4294967295)
    (HK : Hid (∀ w, Laid w → Calls Tryd.prog 9 #[] w fun e w' => e = .returned (.bool true) ∧ Below w.heap.size w w'))
    (HF : Hid (∀ w, Laid w → Calls Tryd.prog 14 #[.int .i64 k] w fun e w' => e = .returned (.int .i64 6) ∧ w' = w))
    (HE : Hid (∀ w, Laid w → Calls Tryd.prog 12 #[.agg #[.int .i64 k, .int .i64 77, .int .i64 0, .int .i64 0, .int .i64 5]] w fun e w' => e = .returned (.tuple #[.int .u32 x, .bool true]) ∧ Below w.heap.size w w'))
    (HD : Hid (∀ w, Laid w → Calls Tryd.prog 12 #[.agg #[.int .i64 k, .int .i64 0, .int .i64 0, .int .i64 0, .int .i64 0]] w fun e w' => e = .returned (.tuple #[.int .u32 x, .bool true]) ∧ Below w.heap.size w w')) :
    Calls Tryd.prog 7 #[.int .u8 a0, .int .u8 a1, .int .u8 a2, .int .u8 a3] w fun e w' => e = .returned (.bool true) ∧ Below w.heap.size w w' := by
  have HL := hide hL
  clear hL
  go_enter Tryd.func7, Tryd.ntmps7
  go_wp2_with fail
  refine (HK.out _ HL.out).mono ?_
  rintro e W1 ⟨rfl, hB⟩
  have B1 := hide hB
  have L1 := hide (HL.out.then hB)
  clear hB HK HL
  go_wp2_with fail
  refine (HF.out _ (L1.out.alloc _)).mono ?_
  rintro e W ⟨rfl, hW⟩
  rw [hW]
  clear hW W HF
  go_wp2_with fail
  refine (HE.out _ (L1.out.alloc _)).mono ?_
  rintro e W2 ⟨rfl, hB⟩
  have L2 := hide ((L1.out.alloc _).then hB)
  have B2 : Hid (Below w.heap.size w W2) := hide ((B1.out.alloc B1.out.size _).trans (hB.mono (by have := B1.out.size; simp; omega)))
  have f0 : W2.cell? ⟨W1.heap.size, 0, none⟩ = some (.int .i64 k) := cell_below hB (by go_simp)
  have f1 : W2.cell? ⟨W1.heap.size, 1, none⟩ = some (.int .i64 0) := cell_below hB (by go_simp)
  have f2 : W2.cell? ⟨W1.heap.size, 2, none⟩ = some (.int .i64 0) := cell_below hB (by go_simp)
  have f3 : W2.cell? ⟨W1.heap.size, 3, none⟩ = some (.int .i64 0) := cell_below hB (by go_simp)
  have f4 : W2.cell? ⟨W1.heap.size, 4, none⟩ = some (.int .i64 0) := cell_below hB (by go_simp)
  clear hB HE
  go_wp2_with fail
  refine (HD.out _ L2.out).mono ?_
  rintro e W3 ⟨rfl, hB⟩
  have B3 : Hid (Below w.heap.size w W3) := hide (B2.out.trans (hB.mono B2.out.size))
  clear hB HD f0 f1 f2 f3 f4
  go_wp2
  go_ret
  exact ⟨rfl, B3.out⟩

theorem imOk_0 {k : Nat} : imOk (fmo k) (wd k) 0 = true := by
  unfold imOk
  split
  · decide
  · split
    · decide
    · exact forms (fun f => fitsOf f 0 = true) (by decide) (by decide) (by decide) (by decide) (by decide) (fun f h1 h2 h3 h4 h5 => by simp [fitsOf, h1, h2, h3, h4, h5]) _

theorem field_walk (a0 a1 a2 a3 : Int) (w : World) (hL : Laid w) (b0 : 0 ≤ a0 ∧ a0 ≤ 255) (b1 : 0 ≤ a1 ∧ a1 ≤ 255) (b2 : 0 ≤ a2 ∧ a2 ≤ 255) (b3 : 0 ≤ a3 ∧ a3 ≤ 255) :
    Calls Tryd.prog 7 #[.int .u8 a0, .int .u8 a1, .int .u8 a2, .int .u8 a3] w fun e w' => e = .returned (.bool true) ∧ Below w.heap.size w w' := by
  obtain ⟨k, hk⟩ := Int.eq_ofNat_of_zero_le (show 0 ≤ 1 + a0 % 65 by omega)
  have k0 : 1 ≤ k := by omega
  have k1 : k < 66 := by omega
  have c0 : 0 ≤ a1 % 32 ∧ a1 % 32 < 32 := by omega
  have c1 : 0 ≤ a2 % 32 ∧ a2 % 32 < 32 := by omega
  have c2 : 0 ≤ a3 % 32 ∧ a3 % 32 < 32 := by omega
  have HK := hide (fun w hL => known_any w hL)
  have HF := hide (fun w hL => form_any k w hL)
  have hf := fmo_k k0 k1
  have hb := fmc_bd (cd (wd k))
  rw [← hf] at hb
  by_cases hn : fmo k = 6
  · rw [hn] at HF
    have HE := fun w hL => enc_any k 77 0 0 5 w (by decide) (by decide) hL
    have HD := fun w hL => enc_any k 0 0 0 0 w (by decide) (by decide) hL
    have e1 : encOk k 77 0 0 5 = true := by unfold encOk; rw [knw_k k0 k1, hn]; rfl
    have e2 : encOk k 0 0 0 0 = true := by unfold encOk; rw [knw_k k0 k1, hn]; rfl
    unfold encW inst at HE HD
    rw [e1, if_pos rfl, if_pos hn] at HE
    rw [e2, if_pos rfl, if_pos hn] at HD
    exact fieldw_6 a0 a1 a2 a3 _ _ _ (wd k) k w hL b0 b1 b2 b3 hk (by omega) (by omega) rfl rfl rfl c0 c1 c2 (wd_bd k) HK HF HE HD
  · have h63 : k < 63 := by
      have := (tab_n k k1 k0)
      rw [← hf] at this
      exact Nat.lt_of_not_le (fun h => hn (this.2 h))
    have hi : imOk (fmc (cd (wd k))) (wd k) 0 = true := by rw [← hf]; exact imOk_0
    have hr : rgOk (hasD (fmc (cd (wd k)))) (has1 (fmc (cd (wd k)))) (has2 (fmc (cd (wd k)))) (a1 % 32) (a2 % 32) (a3 % 32) = true := by
      have y0 : isr (a1 % 32) = true := by unfold isr; simp; omega
      have y1 : isr (a2 % 32) = true := by unfold isr; simp; omega
      have y2 : isr (a3 % 32) = true := by unfold isr; simp; omega
      unfold rgOk
      rw [y0, y1, y2]
      simp
    have es := enc_sum k0 h63 hi hr
    have bk := back k0 h63 hi hr
    generalize wd k + imP (fmc (cd (wd k))) (wd k) 0 + rgP (fmc (cd (wd k))) (a1 % 32) (a2 % 32) (a3 % 32) = x at *
    have HE := fun w hL => enc_any k (a1 % 32) (a2 % 32) (a3 % 32) 0 w (by decide) (by decide) hL
    rw [es.1, es.2] at HE
    have HD := fun w hL => dec_some x k w bk.lo bk.hi k0 k1 bk.mt hL
    have xb := And.intro bk.lo bk.hi
    have d0 := bk.d
    have d1 := bk.a
    have d2 := bk.b
    have d3 := bk.i
    rw [← hf] at d0 d1 d2 d3
    unfold rdO r1O r2O at HD
    rw [d3, e7, e15, e20] at HD
    have HG := fun w => get_any (fmo k) x w bk.lo bk.hi
    have HR := fun w => rget_any (fmo k) x w bk.lo bk.hi
    unfold inst at HE HD
    have A0 : bits .and .u32 (x / 128) 31 = x / 128 % 32 := and_31 (by omega) (by omega)
    have A1 : bits .and .u32 (x / 32768) 31 = x / 32768 % 32 := and_31 (by omega) (by omega)
    have A2 : bits .and .u32 (x / 1048576) 31 = x / 1048576 % 32 := and_31 (by omega) (by omega)
    rcases (show fmo k = 0 ∨ fmo k = 1 ∨ fmo k = 2 ∨ fmo k = 3 ∨ fmo k = 4 ∨ fmo k = 5 by omega) with h | h | h | h | h | h
    · rw [h] at HF HD HG HR d0 d1 d2
      have t0 := d0 (by decide)
      have t1 := d1 (by decide)
      have t2 := d2 (by decide)
      rw [if_pos (by decide), t0, if_pos (by decide), t1, if_pos (by decide), t2] at HD
      exact fieldw_0 a0 a1 a2 a3 _ _ _ x k w hL b0 b1 b2 b3 hk (by omega) (by omega) rfl rfl rfl c0 c1 c2 xb (A0.trans t0) (A1.trans t1) (A2.trans t2) _ HK HF HE HD HR HG
    · rw [h] at HF HD HG HR d0 d1 d2
      have t0 := d0 (by decide)
      have t1 := d1 (by decide)
      rw [if_pos (by decide), t0, if_pos (by decide), t1, if_neg (by decide)] at HD
      exact fieldw_1 a0 a1 a2 a3 _ _ _ x k w hL b0 b1 b2 b3 hk (by omega) (by omega) rfl rfl rfl c0 c1 c2 xb (A0.trans t0) (A1.trans t1) _ HK HF HE HD HR HG
    · rw [h] at HF HD HG HR d0 d1 d2
      have t1 := d1 (by decide)
      have t2 := d2 (by decide)
      rw [if_neg (by decide), if_pos (by decide), t1, if_pos (by decide), t2] at HD
      exact fieldw_2 a0 a1 a2 a3 _ _ _ x k w hL b0 b1 b2 b3 hk (by omega) (by omega) rfl rfl rfl c0 c1 c2 xb (A1.trans t1) (A2.trans t2) _ HK HF HE HD HR HG
    · rw [h] at HF HD HG HR d0 d1 d2
      have t1 := d1 (by decide)
      have t2 := d2 (by decide)
      rw [if_neg (by decide), if_pos (by decide), t1, if_pos (by decide), t2] at HD
      exact fieldw_3 a0 a1 a2 a3 _ _ _ x k w hL b0 b1 b2 b3 hk (by omega) (by omega) rfl rfl rfl c0 c1 c2 xb (A1.trans t1) (A2.trans t2) _ HK HF HE HD HR HG
    · rw [h] at HF HD HG HR d0 d1 d2
      have t0 := d0 (by decide)
      rw [if_pos (by decide), t0, if_neg (by decide), if_neg (by decide)] at HD
      exact fieldw_4 a0 a1 a2 a3 _ _ _ x k w hL b0 b1 b2 b3 hk (by omega) (by omega) rfl rfl rfl c0 c1 c2 xb (A0.trans t0) _ HK HF HE HD HR HG
    · rw [h] at HF HD HG HR d0 d1 d2
      have t0 := d0 (by decide)
      rw [if_pos (by decide), t0, if_neg (by decide), if_neg (by decide)] at HD
      exact fieldw_5 a0 a1 a2 a3 _ _ _ x k w hL b0 b1 b2 b3 hk (by omega) (by omega) rfl rfl rfl c0 c1 c2 xb (A0.trans t0) _ HK HF HE HD HR HG

end Go.Proofs.YtnlngagcpcpbkaaDoor
