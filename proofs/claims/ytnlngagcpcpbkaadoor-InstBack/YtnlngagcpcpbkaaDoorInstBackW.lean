/- The walk of the law that what is encoded is decoded again, a class of operations at a time. -/
import Derived.Test.YtnlngagcpcpbkaaDoorInstTrip
namespace Go.Proofs.YtnlngagcpcpbkaaDoor
open Go.RowKit
set_option linter.unusedVariables false
set_option linter.unusedSimpArgs false

set_option maxHeartbeats 400000 in
theorem backw_r (a0 a1 a2 a3 a4 q0 q1 q2 x : Int) (k : Nat) (w : World) (hL : Laid w) (b0 : 0 ≤ a0 ∧ a0 ≤ 255) (b1 : 0 ≤ a1 ∧ a1 ≤ 255) (b2 : 0 ≤ a2 ∧ a2 ≤ 255) (b3 : 0 ≤ a3 ∧ a3 ≤ 255)
    (hk : 1 + a0 % 65 = k) (k0 : 1 ≤ (k : Int)) (k1 : (k : Int) ≤ 65) (h0 : a1 % 32 = q0) (h1 : a2 % 32 = q1) (h2 : a3 % 32 = q2) (c0 : 0 ≤ q0 ∧ q0 < 32) (c1 : 0 ≤ q1 ∧ q1 < 32) (c2 : 0 ≤ q2 ∧ q2 < 32)
    (HK : Hid (∀ w, Laid w → Calls Tryd.prog 9 #[] w fun e w' => e = .returned (.bool true) ∧ Below w.heap.size w w'))
    (HF : Hid (∀ w, Laid w → Calls Tryd.prog 14 #[.int .i64 k] w fun e w' => e = .returned (.int .i64 0) ∧ w' = w))
    (HE : Hid (∀ w, Laid w → Calls Tryd.prog 12 #[.agg #[.int .i64 k, .int .i64 q0, .int .i64 q1, .int .i64 q2, .int .i64 (0)]] w fun e w' => e = .returned (.tuple #[.int .u32 x, .bool true]) ∧ Below w.heap.size w w'))
    (HD : Hid (∀ w, Laid w → Calls Tryd.prog 10 #[.int .u32 x] w fun e w' => e = .returned (.tuple #[.agg #[.int .i64 k, .int .i64 q0, .int .i64 q1, .int .i64 q2, .int .i64 (0)], .bool true]) ∧ Below w.heap.size w w')) :
    Calls Tryd.prog 5 #[.int .u8 a0, .int .u8 a1, .int .u8 a2, .int .u8 a3, .int .i64 a4] w fun e w' => e = .returned (.bool true) ∧ Below w.heap.size w w' := by
  have HL := hide hL
  clear hL
  go_enter Tryd.func5, Tryd.ntmps5
  go_wp2_with fail
  refine (HK.out _ HL.out).mono ?_
  rintro e W1 ⟨rfl, hB⟩
  have B1 := hide hB
  have L1 := hide (HL.out.then hB)
  clear hB HK HL
  go_wp2_with fail
  refine (HF.out _ (L1.out.alloc _)).mono ?_
  rintro e W ⟨rfl, hW⟩
  rw [hW]
  clear hW W HF
  go_wp2_with fail
  refine (HE.out _ (L1.out.alloc _)).mono ?_
  rintro e W2 ⟨rfl, hB⟩
  have L2 := hide ((L1.out.alloc _).then hB)
  have B2 : Hid (Below w.heap.size w W2) := hide ((B1.out.alloc B1.out.size _).trans (hB.mono (by have := B1.out.size; simp; omega)))
  have f0 : W2.cell? ⟨W1.heap.size, 0, none⟩ = some (.int .i64 (k)) := cell_below hB (by go_simp)
  have f1 : W2.cell? ⟨W1.heap.size, 1, none⟩ = some (.int .i64 (q0)) := cell_below hB (by go_simp)
  have f2 : W2.cell? ⟨W1.heap.size, 2, none⟩ = some (.int .i64 (q1)) := cell_below hB (by go_simp)
  have f3 : W2.cell? ⟨W1.heap.size, 3, none⟩ = some (.int .i64 (q2)) := cell_below hB (by go_simp)
  have f4 : W2.cell? ⟨W1.heap.size, 4, none⟩ = some (.int .i64 (0)) := cell_below hB (by go_simp)
  clear hB HE
  go_wp2_with fail
  refine (HD.out _ L2.out).mono ?_
  rintro e W3 ⟨rfl, hB⟩
  have g0 := cell_below hB f0
  have g1 := cell_below hB f1
  have g2 := cell_below hB f2
  have g3 := cell_below hB f3
  have g4 := cell_below hB f4
  have B3 : Hid (Below w.heap.size w W3) := hide (B2.out.trans (hB.mono B2.out.size))
  have hlt : W1.heap.size < W3.heap.size := World.block_lt_of_cell? _ _ g0
  clear hB HD f0 f1 f2 f3 f4
  go_wp2
  all_goals go_ret
  all_goals exact ⟨rfl, B3.out.alloc B3.out.size _⟩

set_option maxHeartbeats 400000 in
theorem backw_i (a0 a1 a2 a3 a4 q0 q1 q2 x : Int) (k : Nat) (w : World) (hL : Laid w) (b0 : 0 ≤ a0 ∧ a0 ≤ 255) (b1 : 0 ≤ a1 ∧ a1 ≤ 255) (b2 : 0 ≤ a2 ∧ a2 ≤ 255) (b3 : 0 ≤ a3 ∧ a3 ≤ 255)
    (hk : 1 + a0 % 65 = k) (k0 : 1 ≤ (k : Int)) (k1 : (k : Int) ≤ 65) (h0 : a1 % 32 = q0) (h1 : a2 % 32 = q1) (h2 : a3 % 32 = q2) (c0 : 0 ≤ q0 ∧ q0 < 32) (c1 : 0 ≤ q1 ∧ q1 < 32) (c2 : 0 ≤ q2 ∧ q2 < 32) (p : Nat) (hp : bits .and .i64 a4 2047 = p) (bp : p ≤ 2047) (t1 : (k : Int) < 28) (t2 : (k : Int) < 42)
    (HK : Hid (∀ w, Laid w → Calls Tryd.prog 9 #[] w fun e w' => e = .returned (.bool true) ∧ Below w.heap.size w w'))
    (HF : Hid (∀ w, Laid w → Calls Tryd.prog 14 #[.int .i64 k] w fun e w' => e = .returned (.int .i64 1) ∧ w' = w))
    (HE : Hid (∀ w, Laid w → Calls Tryd.prog 12 #[.agg #[.int .i64 k, .int .i64 q0, .int .i64 q1, .int .i64 0, .int .i64 ((p : Int) - 1024)]] w fun e w' => e = .returned (.tuple #[.int .u32 x, .bool true]) ∧ Below w.heap.size w w'))
    (HD : Hid (∀ w, Laid w → Calls Tryd.prog 10 #[.int .u32 x] w fun e w' => e = .returned (.tuple #[.agg #[.int .i64 k, .int .i64 q0, .int .i64 q1, .int .i64 0, .int .i64 ((p : Int) - 1024)], .bool true]) ∧ Below w.heap.size w w')) :
    Calls Tryd.prog 5 #[.int .u8 a0, .int .u8 a1, .int .u8 a2, .int .u8 a3, .int .i64 a4] w fun e w' => e = .returned (.bool true) ∧ Below w.heap.size w w' := by
  have HL := hide hL
  clear hL
  go_enter Tryd.func5, Tryd.ntmps5
  go_wp2_with fail
  refine (HK.out _ HL.out).mono ?_
  rintro e W1 ⟨rfl, hB⟩
  have B1 := hide hB
  have L1 := hide (HL.out.then hB)
  clear hB HK HL
  go_wp2_with fail
  refine (HF.out _ (L1.out.alloc _)).mono ?_
  rintro e W ⟨rfl, hW⟩
  rw [hW]
  clear hW W HF
  go_wp2_with fail
  refine (HE.out _ (L1.out.alloc _)).mono ?_
  rintro e W2 ⟨rfl, hB⟩
  have L2 := hide ((L1.out.alloc _).then hB)
  have B2 : Hid (Below w.heap.size w W2) := hide ((B1.out.alloc B1.out.size _).trans (hB.mono (by have := B1.out.size; simp; omega)))
  have f0 : W2.cell? ⟨W1.heap.size, 0, none⟩ = some (.int .i64 (k)) := cell_below hB (by go_simp)
  have f1 : W2.cell? ⟨W1.heap.size, 1, none⟩ = some (.int .i64 (q0)) := cell_below hB (by go_simp)
  have f2 : W2.cell? ⟨W1.heap.size, 2, none⟩ = some (.int .i64 (q1)) := cell_below hB (by go_simp)
  have f3 : W2.cell? ⟨W1.heap.size, 3, none⟩ = some (.int .i64 (0)) := cell_below hB (by go_simp)
  have f4 : W2.cell? ⟨W1.heap.size, 4, none⟩ = some (.int .i64 ((p : Int) - 1024)) := cell_below hB (by go_simp)
  clear hB HE
  go_wp2_with fail
  refine (HD.out _ L2.out).mono ?_
  rintro e W3 ⟨rfl, hB⟩
  have g0 := cell_below hB f0
  have g1 := cell_below hB f1
  have g2 := cell_below hB f2
  have g3 := cell_below hB f3
  have g4 := cell_below hB f4
  have B3 : Hid (Below w.heap.size w W3) := hide (B2.out.trans (hB.mono B2.out.size))
  have hlt : W1.heap.size < W3.heap.size := World.block_lt_of_cell? _ _ g0
  clear hB HD f0 f1 f2 f3 f4
  go_wp2
  all_goals go_ret
  all_goals exact ⟨rfl, B3.out.alloc B3.out.size _⟩

set_option maxHeartbeats 400000 in
theorem backw_ia (a0 a1 a2 a3 a4 q0 q1 q2 x : Int) (k : Nat) (w : World) (hL : Laid w) (b0 : 0 ≤ a0 ∧ a0 ≤ 255) (b1 : 0 ≤ a1 ∧ a1 ≤ 255) (b2 : 0 ≤ a2 ∧ a2 ≤ 255) (b3 : 0 ≤ a3 ∧ a3 ≤ 255)
    (hk : 1 + a0 % 65 = k) (k0 : 1 ≤ (k : Int)) (k1 : (k : Int) ≤ 65) (h0 : a1 % 32 = q0) (h1 : a2 % 32 = q1) (h2 : a3 % 32 = q2) (c0 : 0 ≤ q0 ∧ q0 < 32) (c1 : 0 ≤ q1 ∧ q1 < 32) (c2 : 0 ≤ q2 ∧ q2 < 32) (p : Nat) (hp : bits .and .i64 a4 2047 = p) (bp : p ≤ 2047) (t1 : 30 < (k : Int)) (t2 : (k : Int) < 42)
    (HK : Hid (∀ w, Laid w → Calls Tryd.prog 9 #[] w fun e w' => e = .returned (.bool true) ∧ Below w.heap.size w w'))
    (HF : Hid (∀ w, Laid w → Calls Tryd.prog 14 #[.int .i64 k] w fun e w' => e = .returned (.int .i64 1) ∧ w' = w))
    (HE : Hid (∀ w, Laid w → Calls Tryd.prog 12 #[.agg #[.int .i64 k, .int .i64 q0, .int .i64 q1, .int .i64 0, .int .i64 ((p : Int) - 1024)]] w fun e w' => e = .returned (.tuple #[.int .u32 x, .bool true]) ∧ Below w.heap.size w w'))
    (HD : Hid (∀ w, Laid w → Calls Tryd.prog 10 #[.int .u32 x] w fun e w' => e = .returned (.tuple #[.agg #[.int .i64 k, .int .i64 q0, .int .i64 q1, .int .i64 0, .int .i64 ((p : Int) - 1024)], .bool true]) ∧ Below w.heap.size w w')) :
    Calls Tryd.prog 5 #[.int .u8 a0, .int .u8 a1, .int .u8 a2, .int .u8 a3, .int .i64 a4] w fun e w' => e = .returned (.bool true) ∧ Below w.heap.size w w' := by
  have HL := hide hL
  clear hL
  go_enter Tryd.func5, Tryd.ntmps5
  go_wp2_with fail
  refine (HK.out _ HL.out).mono ?_
  rintro e W1 ⟨rfl, hB⟩
  have B1 := hide hB
  have L1 := hide (HL.out.then hB)
  clear hB HK HL
  go_wp2_with fail
  refine (HF.out _ (L1.out.alloc _)).mono ?_
  rintro e W ⟨rfl, hW⟩
  rw [hW]
  clear hW W HF
  go_wp2_with fail
  refine (HE.out _ (L1.out.alloc _)).mono ?_
  rintro e W2 ⟨rfl, hB⟩
  have L2 := hide ((L1.out.alloc _).then hB)
  have B2 : Hid (Below w.heap.size w W2) := hide ((B1.out.alloc B1.out.size _).trans (hB.mono (by have := B1.out.size; simp; omega)))
  have f0 : W2.cell? ⟨W1.heap.size, 0, none⟩ = some (.int .i64 (k)) := cell_below hB (by go_simp)
  have f1 : W2.cell? ⟨W1.heap.size, 1, none⟩ = some (.int .i64 (q0)) := cell_below hB (by go_simp)
  have f2 : W2.cell? ⟨W1.heap.size, 2, none⟩ = some (.int .i64 (q1)) := cell_below hB (by go_simp)
  have f3 : W2.cell? ⟨W1.heap.size, 3, none⟩ = some (.int .i64 (0)) := cell_below hB (by go_simp)
  have f4 : W2.cell? ⟨W1.heap.size, 4, none⟩ = some (.int .i64 ((p : Int) - 1024)) := cell_below hB (by go_simp)
  clear hB HE
  go_wp2_with fail
  refine (HD.out _ L2.out).mono ?_
  rintro e W3 ⟨rfl, hB⟩
  have g0 := cell_below hB f0
  have g1 := cell_below hB f1
  have g2 := cell_below hB f2
  have g3 := cell_below hB f3
  have g4 := cell_below hB f4
  have B3 : Hid (Below w.heap.size w W3) := hide (B2.out.trans (hB.mono B2.out.size))
  have hlt : W1.heap.size < W3.heap.size := World.block_lt_of_cell? _ _ g0
  clear hB HD f0 f1 f2 f3 f4
  go_wp2
  all_goals go_ret
  all_goals exact ⟨rfl, B3.out.alloc B3.out.size _⟩

set_option maxHeartbeats 400000 in
theorem backw_ib (a0 a1 a2 a3 a4 q0 q1 q2 x : Int) (k : Nat) (w : World) (hL : Laid w) (b0 : 0 ≤ a0 ∧ a0 ≤ 255) (b1 : 0 ≤ a1 ∧ a1 ≤ 255) (b2 : 0 ≤ a2 ∧ a2 ≤ 255) (b3 : 0 ≤ a3 ∧ a3 ≤ 255)
    (hk : 1 + a0 % 65 = k) (k0 : 1 ≤ (k : Int)) (k1 : (k : Int) ≤ 65) (h0 : a1 % 32 = q0) (h1 : a2 % 32 = q1) (h2 : a3 % 32 = q2) (c0 : 0 ≤ q0 ∧ q0 < 32) (c1 : 0 ≤ q1 ∧ q1 < 32) (c2 : 0 ≤ q2 ∧ q2 < 32) (p : Nat) (hp : bits .and .i64 a4 2047 = p) (bp : p ≤ 2047) (t1 : 30 < (k : Int)) (t2 : 44 < (k : Int))
    (HK : Hid (∀ w, Laid w → Calls Tryd.prog 9 #[] w fun e w' => e = .returned (.bool true) ∧ Below w.heap.size w w'))
    (HF : Hid (∀ w, Laid w → Calls Tryd.prog 14 #[.int .i64 k] w fun e w' => e = .returned (.int .i64 1) ∧ w' = w))
    (HE : Hid (∀ w, Laid w → Calls Tryd.prog 12 #[.agg #[.int .i64 k, .int .i64 q0, .int .i64 q1, .int .i64 0, .int .i64 ((p : Int) - 1024)]] w fun e w' => e = .returned (.tuple #[.int .u32 x, .bool true]) ∧ Below w.heap.size w w'))
    (HD : Hid (∀ w, Laid w → Calls Tryd.prog 10 #[.int .u32 x] w fun e w' => e = .returned (.tuple #[.agg #[.int .i64 k, .int .i64 q0, .int .i64 q1, .int .i64 0, .int .i64 ((p : Int) - 1024)], .bool true]) ∧ Below w.heap.size w w')) :
    Calls Tryd.prog 5 #[.int .u8 a0, .int .u8 a1, .int .u8 a2, .int .u8 a3, .int .i64 a4] w fun e w' => e = .returned (.bool true) ∧ Below w.heap.size w w' := by
  have HL := hide hL
  clear hL
  go_enter Tryd.func5, Tryd.ntmps5
  go_wp2_with fail
  refine (HK.out _ HL.out).mono ?_
  rintro e W1 ⟨rfl, hB⟩
  have B1 := hide hB
  have L1 := hide (HL.out.then hB)
  clear hB HK HL
  go_wp2_with fail
  refine (HF.out _ (L1.out.alloc _)).mono ?_
  rintro e W ⟨rfl, hW⟩
  rw [hW]
  clear hW W HF
  go_wp2_with fail
  refine (HE.out _ (L1.out.alloc _)).mono ?_
  rintro e W2 ⟨rfl, hB⟩
  have L2 := hide ((L1.out.alloc _).then hB)
  have B2 : Hid (Below w.heap.size w W2) := hide ((B1.out.alloc B1.out.size _).trans (hB.mono (by have := B1.out.size; simp; omega)))
  have f0 : W2.cell? ⟨W1.heap.size, 0, none⟩ = some (.int .i64 (k)) := cell_below hB (by go_simp)
  have f1 : W2.cell? ⟨W1.heap.size, 1, none⟩ = some (.int .i64 (q0)) := cell_below hB (by go_simp)
  have f2 : W2.cell? ⟨W1.heap.size, 2, none⟩ = some (.int .i64 (q1)) := cell_below hB (by go_simp)
  have f3 : W2.cell? ⟨W1.heap.size, 3, none⟩ = some (.int .i64 (0)) := cell_below hB (by go_simp)
  have f4 : W2.cell? ⟨W1.heap.size, 4, none⟩ = some (.int .i64 ((p : Int) - 1024)) := cell_below hB (by go_simp)
  clear hB HE
  go_wp2_with fail
  refine (HD.out _ L2.out).mono ?_
  rintro e W3 ⟨rfl, hB⟩
  have g0 := cell_below hB f0
  have g1 := cell_below hB f1
  have g2 := cell_below hB f2
  have g3 := cell_below hB f3
  have g4 := cell_below hB f4
  have B3 : Hid (Below w.heap.size w W3) := hide (B2.out.trans (hB.mono B2.out.size))
  have hlt : W1.heap.size < W3.heap.size := World.block_lt_of_cell? _ _ g0
  clear hB HD f0 f1 f2 f3 f4
  go_wp2
  all_goals go_ret
  all_goals exact ⟨rfl, B3.out.alloc B3.out.size _⟩

set_option maxHeartbeats 400000 in
theorem backw_i6 (a0 a1 a2 a3 a4 q0 q1 q2 x : Int) (k : Nat) (w : World) (hL : Laid w) (b0 : 0 ≤ a0 ∧ a0 ≤ 255) (b1 : 0 ≤ a1 ∧ a1 ≤ 255) (b2 : 0 ≤ a2 ∧ a2 ≤ 255) (b3 : 0 ≤ a3 ∧ a3 ≤ 255)
    (hk : 1 + a0 % 65 = k) (k0 : 1 ≤ (k : Int)) (k1 : (k : Int) ≤ 65) (h0 : a1 % 32 = q0) (h1 : a2 % 32 = q1) (h2 : a3 % 32 = q2) (c0 : 0 ≤ q0 ∧ q0 < 32) (c1 : 0 ≤ q1 ∧ q1 < 32) (c2 : 0 ≤ q2 ∧ q2 < 32) (p : Nat) (hp : bits .and .i64 a4 2047 = p) (bp : p ≤ 2047) (p6 : Nat) (hp6 : bits .and .i64 a4 63 = p6) (bp6 : p6 ≤ 63) (t1 : 28 ≤ (k : Int)) (t2 : (k : Int) ≤ 30)
    (HK : Hid (∀ w, Laid w → Calls Tryd.prog 9 #[] w fun e w' => e = .returned (.bool true) ∧ Below w.heap.size w w'))
    (HF : Hid (∀ w, Laid w → Calls Tryd.prog 14 #[.int .i64 k] w fun e w' => e = .returned (.int .i64 1) ∧ w' = w))
    (HE : Hid (∀ w, Laid w → Calls Tryd.prog 12 #[.agg #[.int .i64 k, .int .i64 q0, .int .i64 q1, .int .i64 0, .int .i64 ((p6 : Int))]] w fun e w' => e = .returned (.tuple #[.int .u32 x, .bool true]) ∧ Below w.heap.size w w'))
    (HD : Hid (∀ w, Laid w → Calls Tryd.prog 10 #[.int .u32 x] w fun e w' => e = .returned (.tuple #[.agg #[.int .i64 k, .int .i64 q0, .int .i64 q1, .int .i64 0, .int .i64 ((p6 : Int))], .bool true]) ∧ Below w.heap.size w w')) :
    Calls Tryd.prog 5 #[.int .u8 a0, .int .u8 a1, .int .u8 a2, .int .u8 a3, .int .i64 a4] w fun e w' => e = .returned (.bool true) ∧ Below w.heap.size w w' := by
  have HL := hide hL
  clear hL
  go_enter Tryd.func5, Tryd.ntmps5
  go_wp2_with fail
  refine (HK.out _ HL.out).mono ?_
  rintro e W1 ⟨rfl, hB⟩
  have B1 := hide hB
  have L1 := hide (HL.out.then hB)
  clear hB HK HL
  go_wp2_with fail
  refine (HF.out _ (L1.out.alloc _)).mono ?_
  rintro e W ⟨rfl, hW⟩
  rw [hW]
  clear hW W HF
  go_wp2_with fail
  refine (HE.out _ (L1.out.alloc _)).mono ?_
  rintro e W2 ⟨rfl, hB⟩
  have L2 := hide ((L1.out.alloc _).then hB)
  have B2 : Hid (Below w.heap.size w W2) := hide ((B1.out.alloc B1.out.size _).trans (hB.mono (by have := B1.out.size; simp; omega)))
  have f0 : W2.cell? ⟨W1.heap.size, 0, none⟩ = some (.int .i64 (k)) := cell_below hB (by go_simp)
  have f1 : W2.cell? ⟨W1.heap.size, 1, none⟩ = some (.int .i64 (q0)) := cell_below hB (by go_simp)
  have f2 : W2.cell? ⟨W1.heap.size, 2, none⟩ = some (.int .i64 (q1)) := cell_below hB (by go_simp)
  have f3 : W2.cell? ⟨W1.heap.size, 3, none⟩ = some (.int .i64 (0)) := cell_below hB (by go_simp)
  have f4 : W2.cell? ⟨W1.heap.size, 4, none⟩ = some (.int .i64 ((p6 : Int))) := cell_below hB (by go_simp)
  clear hB HE
  go_wp2_with fail
  refine (HD.out _ L2.out).mono ?_
  rintro e W3 ⟨rfl, hB⟩
  have g0 := cell_below hB f0
  have g1 := cell_below hB f1
  have g2 := cell_below hB f2
  have g3 := cell_below hB f3
  have g4 := cell_below hB f4
  have B3 : Hid (Below w.heap.size w W3) := hide (B2.out.trans (hB.mono B2.out.size))
  have hlt : W1.heap.size < W3.heap.size := World.block_lt_of_cell? _ _ g0
  clear hB HD f0 f1 f2 f3 f4
  go_wp2
  all_goals go_ret
  all_goals exact ⟨rfl, B3.out.alloc B3.out.size _⟩

set_option maxHeartbeats 400000 in
theorem backw_i5 (a0 a1 a2 a3 a4 q0 q1 q2 x : Int) (k : Nat) (w : World) (hL : Laid w) (b0 : 0 ≤ a0 ∧ a0 ≤ 255) (b1 : 0 ≤ a1 ∧ a1 ≤ 255) (b2 : 0 ≤ a2 ∧ a2 ≤ 255) (b3 : 0 ≤ a3 ∧ a3 ≤ 255)
    (hk : 1 + a0 % 65 = k) (k0 : 1 ≤ (k : Int)) (k1 : (k : Int) ≤ 65) (h0 : a1 % 32 = q0) (h1 : a2 % 32 = q1) (h2 : a3 % 32 = q2) (c0 : 0 ≤ q0 ∧ q0 < 32) (c1 : 0 ≤ q1 ∧ q1 < 32) (c2 : 0 ≤ q2 ∧ q2 < 32) (p : Nat) (hp : bits .and .i64 a4 2047 = p) (bp : p ≤ 2047) (p5 : Nat) (hp5 : bits .and .i64 a4 31 = p5) (bp5 : p5 ≤ 31) (t1 : 42 ≤ (k : Int)) (t2 : (k : Int) ≤ 44)
    (HK : Hid (∀ w, Laid w → Calls Tryd.prog 9 #[] w fun e w' => e = .returned (.bool true) ∧ Below w.heap.size w w'))
    (HF : Hid (∀ w, Laid w → Calls Tryd.prog 14 #[.int .i64 k] w fun e w' => e = .returned (.int .i64 1) ∧ w' = w))
    (HE : Hid (∀ w, Laid w → Calls Tryd.prog 12 #[.agg #[.int .i64 k, .int .i64 q0, .int .i64 q1, .int .i64 0, .int .i64 ((p5 : Int))]] w fun e w' => e = .returned (.tuple #[.int .u32 x, .bool true]) ∧ Below w.heap.size w w'))
    (HD : Hid (∀ w, Laid w → Calls Tryd.prog 10 #[.int .u32 x] w fun e w' => e = .returned (.tuple #[.agg #[.int .i64 k, .int .i64 q0, .int .i64 q1, .int .i64 0, .int .i64 ((p5 : Int))], .bool true]) ∧ Below w.heap.size w w')) :
    Calls Tryd.prog 5 #[.int .u8 a0, .int .u8 a1, .int .u8 a2, .int .u8 a3, .int .i64 a4] w fun e w' => e = .returned (.bool true) ∧ Below w.heap.size w w' := by
  have HL := hide hL
  clear hL
  go_enter Tryd.func5, Tryd.ntmps5
  go_wp2_with fail
  refine (HK.out _ HL.out).mono ?_
  rintro e W1 ⟨rfl, hB⟩
  have B1 := hide hB
  have L1 := hide (HL.out.then hB)
  clear hB HK HL
  go_wp2_with fail
  refine (HF.out _ (L1.out.alloc _)).mono ?_
  rintro e W ⟨rfl, hW⟩
  rw [hW]
  clear hW W HF
  go_wp2_with fail
  refine (HE.out _ (L1.out.alloc _)).mono ?_
  rintro e W2 ⟨rfl, hB⟩
  have L2 := hide ((L1.out.alloc _).then hB)
  have B2 : Hid (Below w.heap.size w W2) := hide ((B1.out.alloc B1.out.size _).trans (hB.mono (by have := B1.out.size; simp; omega)))
  have f0 : W2.cell? ⟨W1.heap.size, 0, none⟩ = some (.int .i64 (k)) := cell_below hB (by go_simp)
  have f1 : W2.cell? ⟨W1.heap.size, 1, none⟩ = some (.int .i64 (q0)) := cell_below hB (by go_simp)
  have f2 : W2.cell? ⟨W1.heap.size, 2, none⟩ = some (.int .i64 (q1)) := cell_below hB (by go_simp)
  have f3 : W2.cell? ⟨W1.heap.size, 3, none⟩ = some (.int .i64 (0)) := cell_below hB (by go_simp)
  have f4 : W2.cell? ⟨W1.heap.size, 4, none⟩ = some (.int .i64 ((p5 : Int))) := cell_below hB (by go_simp)
  clear hB HE
  go_wp2_with fail
  refine (HD.out _ L2.out).mono ?_
  rintro e W3 ⟨rfl, hB⟩
  have g0 := cell_below hB f0
  have g1 := cell_below hB f1
  have g2 := cell_below hB f2
  have g3 := cell_below hB f3
  have g4 := cell_below hB f4
  have B3 : Hid (Below w.heap.size w W3) := hide (B2.out.trans (hB.mono B2.out.size))
  have hlt : W1.heap.size < W3.heap.size := World.block_lt_of_cell? _ _ g0
  clear hB HD f0 f1 f2 f3 f4
  go_wp2
  all_goals go_ret
  all_goals exact ⟨rfl, B3.out.alloc B3.out.size _⟩

set_option maxHeartbeats 400000 in
theorem backw_s (a0 a1 a2 a3 a4 q0 q1 q2 x : Int) (k : Nat) (w : World) (hL : Laid w) (b0 : 0 ≤ a0 ∧ a0 ≤ 255) (b1 : 0 ≤ a1 ∧ a1 ≤ 255) (b2 : 0 ≤ a2 ∧ a2 ≤ 255) (b3 : 0 ≤ a3 ∧ a3 ≤ 255)
    (hk : 1 + a0 % 65 = k) (k0 : 1 ≤ (k : Int)) (k1 : (k : Int) ≤ 65) (h0 : a1 % 32 = q0) (h1 : a2 % 32 = q1) (h2 : a3 % 32 = q2) (c0 : 0 ≤ q0 ∧ q0 < 32) (c1 : 0 ≤ q1 ∧ q1 < 32) (c2 : 0 ≤ q2 ∧ q2 < 32) (p : Nat) (hp : bits .and .i64 a4 2046 = p) (bp : p ≤ 2046)
    (HK : Hid (∀ w, Laid w → Calls Tryd.prog 9 #[] w fun e w' => e = .returned (.bool true) ∧ Below w.heap.size w w'))
    (HF : Hid (∀ w, Laid w → Calls Tryd.prog 14 #[.int .i64 k] w fun e w' => e = .returned (.int .i64 2) ∧ w' = w))
    (HE : Hid (∀ w, Laid w → Calls Tryd.prog 12 #[.agg #[.int .i64 k, .int .i64 0, .int .i64 q1, .int .i64 q2, .int .i64 ((p : Int) - 1024)]] w fun e w' => e = .returned (.tuple #[.int .u32 x, .bool true]) ∧ Below w.heap.size w w'))
    (HD : Hid (∀ w, Laid w → Calls Tryd.prog 10 #[.int .u32 x] w fun e w' => e = .returned (.tuple #[.agg #[.int .i64 k, .int .i64 0, .int .i64 q1, .int .i64 q2, .int .i64 ((p : Int) - 1024)], .bool true]) ∧ Below w.heap.size w w')) :
    Calls Tryd.prog 5 #[.int .u8 a0, .int .u8 a1, .int .u8 a2, .int .u8 a3, .int .i64 a4] w fun e w' => e = .returned (.bool true) ∧ Below w.heap.size w w' := by
  have HL := hide hL
  clear hL
  go_enter Tryd.func5, Tryd.ntmps5
  go_wp2_with fail
  refine (HK.out _ HL.out).mono ?_
  rintro e W1 ⟨rfl, hB⟩
  have B1 := hide hB
  have L1 := hide (HL.out.then hB)
  clear hB HK HL
  go_wp2_with fail
  refine (HF.out _ (L1.out.alloc _)).mono ?_
  rintro e W ⟨rfl, hW⟩
  rw [hW]
  clear hW W HF
  go_wp2_with fail
  refine (HE.out _ (L1.out.alloc _)).mono ?_
  rintro e W2 ⟨rfl, hB⟩
  have L2 := hide ((L1.out.alloc _).then hB)
  have B2 : Hid (Below w.heap.size w W2) := hide ((B1.out.alloc B1.out.size _).trans (hB.mono (by have := B1.out.size; simp; omega)))
  have f0 : W2.cell? ⟨W1.heap.size, 0, none⟩ = some (.int .i64 (k)) := cell_below hB (by go_simp)
  have f1 : W2.cell? ⟨W1.heap.size, 1, none⟩ = some (.int .i64 (0)) := cell_below hB (by go_simp)
  have f2 : W2.cell? ⟨W1.heap.size, 2, none⟩ = some (.int .i64 (q1)) := cell_below hB (by go_simp)
  have f3 : W2.cell? ⟨W1.heap.size, 3, none⟩ = some (.int .i64 (q2)) := cell_below hB (by go_simp)
  have f4 : W2.cell? ⟨W1.heap.size, 4, none⟩ = some (.int .i64 ((p : Int) - 1024)) := cell_below hB (by go_simp)
  clear hB HE
  go_wp2_with fail
  refine (HD.out _ L2.out).mono ?_
  rintro e W3 ⟨rfl, hB⟩
  have g0 := cell_below hB f0
  have g1 := cell_below hB f1
  have g2 := cell_below hB f2
  have g3 := cell_below hB f3
  have g4 := cell_below hB f4
  have B3 : Hid (Below w.heap.size w W3) := hide (B2.out.trans (hB.mono B2.out.size))
  have hlt : W1.heap.size < W3.heap.size := World.block_lt_of_cell? _ _ g0
  clear hB HD f0 f1 f2 f3 f4
  go_wp2
  all_goals go_ret
  all_goals exact ⟨rfl, B3.out.alloc B3.out.size _⟩

set_option maxHeartbeats 400000 in
theorem backw_b (a0 a1 a2 a3 a4 q0 q1 q2 x : Int) (k : Nat) (w : World) (hL : Laid w) (b0 : 0 ≤ a0 ∧ a0 ≤ 255) (b1 : 0 ≤ a1 ∧ a1 ≤ 255) (b2 : 0 ≤ a2 ∧ a2 ≤ 255) (b3 : 0 ≤ a3 ∧ a3 ≤ 255)
    (hk : 1 + a0 % 65 = k) (k0 : 1 ≤ (k : Int)) (k1 : (k : Int) ≤ 65) (h0 : a1 % 32 = q0) (h1 : a2 % 32 = q1) (h2 : a3 % 32 = q2) (c0 : 0 ≤ q0 ∧ q0 < 32) (c1 : 0 ≤ q1 ∧ q1 < 32) (c2 : 0 ≤ q2 ∧ q2 < 32) (p : Nat) (hp : bits .and .i64 a4 2046 = p) (bp : p ≤ 2046)
    (HK : Hid (∀ w, Laid w → Calls Tryd.prog 9 #[] w fun e w' => e = .returned (.bool true) ∧ Below w.heap.size w w'))
    (HF : Hid (∀ w, Laid w → Calls Tryd.prog 14 #[.int .i64 k] w fun e w' => e = .returned (.int .i64 3) ∧ w' = w))
    (HE : Hid (∀ w, Laid w → Calls Tryd.prog 12 #[.agg #[.int .i64 k, .int .i64 0, .int .i64 q1, .int .i64 q2, .int .i64 ((p : Int) - 1024)]] w fun e w' => e = .returned (.tuple #[.int .u32 x, .bool true]) ∧ Below w.heap.size w w'))
    (HD : Hid (∀ w, Laid w → Calls Tryd.prog 10 #[.int .u32 x] w fun e w' => e = .returned (.tuple #[.agg #[.int .i64 k, .int .i64 0, .int .i64 q1, .int .i64 q2, .int .i64 ((p : Int) - 1024)], .bool true]) ∧ Below w.heap.size w w')) :
    Calls Tryd.prog 5 #[.int .u8 a0, .int .u8 a1, .int .u8 a2, .int .u8 a3, .int .i64 a4] w fun e w' => e = .returned (.bool true) ∧ Below w.heap.size w w' := by
  have HL := hide hL
  clear hL
  go_enter Tryd.func5, Tryd.ntmps5
  go_wp2_with fail
  refine (HK.out _ HL.out).mono ?_
  rintro e W1 ⟨rfl, hB⟩
  have B1 := hide hB
  have L1 := hide (HL.out.then hB)
  clear hB HK HL
  go_wp2_with fail
  refine (HF.out _ (L1.out.alloc _)).mono ?_
  rintro e W ⟨rfl, hW⟩
  rw [hW]
  clear hW W HF
  go_wp2_with fail
  refine (HE.out _ (L1.out.alloc _)).mono ?_
  rintro e W2 ⟨rfl, hB⟩
  have L2 := hide ((L1.out.alloc _).then hB)
  have B2 : Hid (Below w.heap.size w W2) := hide ((B1.out.alloc B1.out.size _).trans (hB.mono (by have := B1.out.size; simp; omega)))
  have f0 : W2.cell? ⟨W1.heap.size, 0, none⟩ = some (.int .i64 (k)) := cell_below hB (by go_simp)
  have f1 : W2.cell? ⟨W1.heap.size, 1, none⟩ = some (.int .i64 (0)) := cell_below hB (by go_simp)
  have f2 : W2.cell? ⟨W1.heap.size, 2, none⟩ = some (.int .i64 (q1)) := cell_below hB (by go_simp)
  have f3 : W2.cell? ⟨W1.heap.size, 3, none⟩ = some (.int .i64 (q2)) := cell_below hB (by go_simp)
  have f4 : W2.cell? ⟨W1.heap.size, 4, none⟩ = some (.int .i64 ((p : Int) - 1024)) := cell_below hB (by go_simp)
  clear hB HE
  go_wp2_with fail
  refine (HD.out _ L2.out).mono ?_
  rintro e W3 ⟨rfl, hB⟩
  have g0 := cell_below hB f0
  have g1 := cell_below hB f1
  have g2 := cell_below hB f2
  have g3 := cell_below hB f3
  have g4 := cell_below hB f4
  have B3 : Hid (Below w.heap.size w W3) := hide (B2.out.trans (hB.mono B2.out.size))
  have hlt : W1.heap.size < W3.heap.size := World.block_lt_of_cell? _ _ g0
  clear hB HD f0 f1 f2 f3 f4
  go_wp2
  all_goals go_ret
  all_goals exact ⟨rfl, B3.out.alloc B3.out.size _⟩

set_option maxHeartbeats 400000 in
theorem backw_u (a0 a1 a2 a3 a4 q0 q1 q2 x : Int) (k : Nat) (w : World) (hL : Laid w) (b0 : 0 ≤ a0 ∧ a0 ≤ 255) (b1 : 0 ≤ a1 ∧ a1 ≤ 255) (b2 : 0 ≤ a2 ∧ a2 ≤ 255) (b3 : 0 ≤ a3 ∧ a3 ≤ 255)
    (hk : 1 + a0 % 65 = k) (k0 : 1 ≤ (k : Int)) (k1 : (k : Int) ≤ 65) (h0 : a1 % 32 = q0) (h1 : a2 % 32 = q1) (h2 : a3 % 32 = q2) (c0 : 0 ≤ q0 ∧ q0 < 32) (c1 : 0 ≤ q1 ∧ q1 < 32) (c2 : 0 ≤ q2 ∧ q2 < 32) (p : Nat) (hp : bits .and .i64 a4 524286 = p) (bp : p ≤ 524286)
    (HK : Hid (∀ w, Laid w → Calls Tryd.prog 9 #[] w fun e w' => e = .returned (.bool true) ∧ Below w.heap.size w w'))
    (HF : Hid (∀ w, Laid w → Calls Tryd.prog 14 #[.int .i64 k] w fun e w' => e = .returned (.int .i64 4) ∧ w' = w))
    (HE : Hid (∀ w, Laid w → Calls Tryd.prog 12 #[.agg #[.int .i64 k, .int .i64 q0, .int .i64 0, .int .i64 0, .int .i64 ((p : Int) - 262144)]] w fun e w' => e = .returned (.tuple #[.int .u32 x, .bool true]) ∧ Below w.heap.size w w'))
    (HD : Hid (∀ w, Laid w → Calls Tryd.prog 10 #[.int .u32 x] w fun e w' => e = .returned (.tuple #[.agg #[.int .i64 k, .int .i64 q0, .int .i64 0, .int .i64 0, .int .i64 ((p : Int) - 262144)], .bool true]) ∧ Below w.heap.size w w')) :
    Calls Tryd.prog 5 #[.int .u8 a0, .int .u8 a1, .int .u8 a2, .int .u8 a3, .int .i64 a4] w fun e w' => e = .returned (.bool true) ∧ Below w.heap.size w w' := by
  have HL := hide hL
  clear hL
  go_enter Tryd.func5, Tryd.ntmps5
  go_wp2_with fail
  refine (HK.out _ HL.out).mono ?_
  rintro e W1 ⟨rfl, hB⟩
  have B1 := hide hB
  have L1 := hide (HL.out.then hB)
  clear hB HK HL
  go_wp2_with fail
  refine (HF.out _ (L1.out.alloc _)).mono ?_
  rintro e W ⟨rfl, hW⟩
  rw [hW]
  clear hW W HF
  go_wp2_with fail
  refine (HE.out _ (L1.out.alloc _)).mono ?_
  rintro e W2 ⟨rfl, hB⟩
  have L2 := hide ((L1.out.alloc _).then hB)
  have B2 : Hid (Below w.heap.size w W2) := hide ((B1.out.alloc B1.out.size _).trans (hB.mono (by have := B1.out.size; simp; omega)))
  have f0 : W2.cell? ⟨W1.heap.size, 0, none⟩ = some (.int .i64 (k)) := cell_below hB (by go_simp)
  have f1 : W2.cell? ⟨W1.heap.size, 1, none⟩ = some (.int .i64 (q0)) := cell_below hB (by go_simp)
  have f2 : W2.cell? ⟨W1.heap.size, 2, none⟩ = some (.int .i64 (0)) := cell_below hB (by go_simp)
  have f3 : W2.cell? ⟨W1.heap.size, 3, none⟩ = some (.int .i64 (0)) := cell_below hB (by go_simp)
  have f4 : W2.cell? ⟨W1.heap.size, 4, none⟩ = some (.int .i64 ((p : Int) - 262144)) := cell_below hB (by go_simp)
  clear hB HE
  go_wp2_with fail
  refine (HD.out _ L2.out).mono ?_
  rintro e W3 ⟨rfl, hB⟩
  have g0 := cell_below hB f0
  have g1 := cell_below hB f1
  have g2 := cell_below hB f2
  have g3 := cell_below hB f3
  have g4 := cell_below hB f4
  have B3 : Hid (Below w.heap.size w W3) := hide (B2.out.trans (hB.mono B2.out.size))
  have hlt : W1.heap.size < W3.heap.size := World.block_lt_of_cell? _ _ g0
  clear hB HD f0 f1 f2 f3 f4
  go_wp2
  all_goals go_ret
  all_goals exact ⟨rfl, B3.out.alloc B3.out.size _⟩

set_option maxHeartbeats 400000 in
theorem backw_j (a0 a1 a2 a3 a4 q0 q1 q2 x : Int) (k : Nat) (w : World) (hL : Laid w) (b0 : 0 ≤ a0 ∧ a0 ≤ 255) (b1 : 0 ≤ a1 ∧ a1 ≤ 255) (b2 : 0 ≤ a2 ∧ a2 ≤ 255) (b3 : 0 ≤ a3 ∧ a3 ≤ 255)
    (hk : 1 + a0 % 65 = k) (k0 : 1 ≤ (k : Int)) (k1 : (k : Int) ≤ 65) (h0 : a1 % 32 = q0) (h1 : a2 % 32 = q1) (h2 : a3 % 32 = q2) (c0 : 0 ≤ q0 ∧ q0 < 32) (c1 : 0 ≤ q1 ∧ q1 < 32) (c2 : 0 ≤ q2 ∧ q2 < 32) (p : Nat) (hp : bits .and .i64 a4 524286 = p) (bp : p ≤ 524286)
    (HK : Hid (∀ w, Laid w → Calls Tryd.prog 9 #[] w fun e w' => e = .returned (.bool true) ∧ Below w.heap.size w w'))
    (HF : Hid (∀ w, Laid w → Calls Tryd.prog 14 #[.int .i64 k] w fun e w' => e = .returned (.int .i64 5) ∧ w' = w))
    (HE : Hid (∀ w, Laid w → Calls Tryd.prog 12 #[.agg #[.int .i64 k, .int .i64 q0, .int .i64 0, .int .i64 0, .int .i64 ((p : Int) - 262144)]] w fun e w' => e = .returned (.tuple #[.int .u32 x, .bool true]) ∧ Below w.heap.size w w'))
    (HD : Hid (∀ w, Laid w → Calls Tryd.prog 10 #[.int .u32 x] w fun e w' => e = .returned (.tuple #[.agg #[.int .i64 k, .int .i64 q0, .int .i64 0, .int .i64 0, .int .i64 ((p : Int) - 262144)], .bool true]) ∧ Below w.heap.size w w')) :
    Calls Tryd.prog 5 #[.int .u8 a0, .int .u8 a1, .int .u8 a2, .int .u8 a3, .int .i64 a4] w fun e w' => e = .returned (.bool true) ∧ Below w.heap.size w w' := by
  have HL := hide hL
  clear hL
  go_enter Tryd.func5, Tryd.ntmps5
  go_wp2_with fail
  refine (HK.out _ HL.out).mono ?_
  rintro e W1 ⟨rfl, hB⟩
  have B1 := hide hB
  have L1 := hide (HL.out.then hB)
  clear hB HK HL
  go_wp2_with fail
  refine (HF.out _ (L1.out.alloc _)).mono ?_
  rintro e W ⟨rfl, hW⟩
  rw [hW]
  clear hW W HF
  go_wp2_with fail
  refine (HE.out _ (L1.out.alloc _)).mono ?_
  rintro e W2 ⟨rfl, hB⟩
  have L2 := hide ((L1.out.alloc _).then hB)
  have B2 : Hid (Below w.heap.size w W2) := hide ((B1.out.alloc B1.out.size _).trans (hB.mono (by have := B1.out.size; simp; omega)))
  have f0 : W2.cell? ⟨W1.heap.size, 0, none⟩ = some (.int .i64 (k)) := cell_below hB (by go_simp)
  have f1 : W2.cell? ⟨W1.heap.size, 1, none⟩ = some (.int .i64 (q0)) := cell_below hB (by go_simp)
  have f2 : W2.cell? ⟨W1.heap.size, 2, none⟩ = some (.int .i64 (0)) := cell_below hB (by go_simp)
  have f3 : W2.cell? ⟨W1.heap.size, 3, none⟩ = some (.int .i64 (0)) := cell_below hB (by go_simp)
  have f4 : W2.cell? ⟨W1.heap.size, 4, none⟩ = some (.int .i64 ((p : Int) - 262144)) := cell_below hB (by go_simp)
  clear hB HE
  go_wp2_with fail
  refine (HD.out _ L2.out).mono ?_
  rintro e W3 ⟨rfl, hB⟩
  have g0 := cell_below hB f0
  have g1 := cell_below hB f1
  have g2 := cell_below hB f2
  have g3 := cell_below hB f3
  have g4 := cell_below hB f4
  have B3 : Hid (Below w.heap.size w W3) := hide (B2.out.trans (hB.mono B2.out.size))
  have hlt : W1.heap.size < W3.heap.size := World.block_lt_of_cell? _ _ g0
  clear hB HD f0 f1 f2 f3 f4
  go_wp2
  all_goals go_ret
  all_goals exact ⟨rfl, B3.out.alloc B3.out.size _⟩

set_option maxHeartbeats 400000 in
theorem backw_n (a0 a1 a2 a3 a4 q0 q1 q2 x : Int) (k : Nat) (w : World) (hL : Laid w) (b0 : 0 ≤ a0 ∧ a0 ≤ 255) (b1 : 0 ≤ a1 ∧ a1 ≤ 255) (b2 : 0 ≤ a2 ∧ a2 ≤ 255) (b3 : 0 ≤ a3 ∧ a3 ≤ 255)
    (hk : 1 + a0 % 65 = k) (k0 : 1 ≤ (k : Int)) (k1 : (k : Int) ≤ 65) (h0 : a1 % 32 = q0) (h1 : a2 % 32 = q1) (h2 : a3 % 32 = q2) (c0 : 0 ≤ q0 ∧ q0 < 32) (c1 : 0 ≤ q1 ∧ q1 < 32) (c2 : 0 ≤ q2 ∧ q2 < 32)
    (HK : Hid (∀ w, Laid w → Calls Tryd.prog 9 #[] w fun e w' => e = .returned (.bool true) ∧ Below w.heap.size w w'))
    (HF : Hid (∀ w, Laid w → Calls Tryd.prog 14 #[.int .i64 k] w fun e w' => e = .returned (.int .i64 6) ∧ w' = w))
    (HE : Hid (∀ w, Laid w → Calls Tryd.prog 12 #[.agg #[.int .i64 k, .int .i64 0, .int .i64 0, .int .i64 0, .int .i64 (0)]] w fun e w' => e = .returned (.tuple #[.int .u32 x, .bool true]) ∧ Below w.heap.size w w'))
    (HD : Hid (∀ w, Laid w → Calls Tryd.prog 10 #[.int .u32 x] w fun e w' => e = .returned (.tuple #[.agg #[.int .i64 k, .int .i64 0, .int .i64 0, .int .i64 0, .int .i64 (0)], .bool true]) ∧ Below w.heap.size w w')) :
    Calls Tryd.prog 5 #[.int .u8 a0, .int .u8 a1, .int .u8 a2, .int .u8 a3, .int .i64 a4] w fun e w' => e = .returned (.bool true) ∧ Below w.heap.size w w' := by
  have HL := hide hL
  clear hL
  go_enter Tryd.func5, Tryd.ntmps5
  go_wp2_with fail
  refine (HK.out _ HL.out).mono ?_
  rintro e W1 ⟨rfl, hB⟩
  have B1 := hide hB
  have L1 := hide (HL.out.then hB)
  clear hB HK HL
  go_wp2_with fail
  refine (HF.out _ (L1.out.alloc _)).mono ?_
  rintro e W ⟨rfl, hW⟩
  rw [hW]
  clear hW W HF
  go_wp2_with fail
  refine (HE.out _ (L1.out.alloc _)).mono ?_
  rintro e W2 ⟨rfl, hB⟩
  have L2 := hide ((L1.out.alloc _).then hB)
  have B2 : Hid (Below w.heap.size w W2) := hide ((B1.out.alloc B1.out.size _).trans (hB.mono (by have := B1.out.size; simp; omega)))
  have f0 : W2.cell? ⟨W1.heap.size, 0, none⟩ = some (.int .i64 (k)) := cell_below hB (by go_simp)
  have f1 : W2.cell? ⟨W1.heap.size, 1, none⟩ = some (.int .i64 (0)) := cell_below hB (by go_simp)
  have f2 : W2.cell? ⟨W1.heap.size, 2, none⟩ = some (.int .i64 (0)) := cell_below hB (by go_simp)
  have f3 : W2.cell? ⟨W1.heap.size, 3, none⟩ = some (.int .i64 (0)) := cell_below hB (by go_simp)
  have f4 : W2.cell? ⟨W1.heap.size, 4, none⟩ = some (.int .i64 (0)) := cell_below hB (by go_simp)
  clear hB HE
  go_wp2_with fail
  refine (HD.out _ L2.out).mono ?_
  rintro e W3 ⟨rfl, hB⟩
  have g0 := cell_below hB f0
  have g1 := cell_below hB f1
  have g2 := cell_below hB f2
  have g3 := cell_below hB f3
  have g4 := cell_below hB f4
  have B3 : Hid (Below w.heap.size w W3) := hide (B2.out.trans (hB.mono B2.out.size))
  have hlt : W1.heap.size < W3.heap.size := World.block_lt_of_cell? _ _ g0
  clear hB HD f0 f1 f2 f3 f4
  go_wp2
  all_goals go_ret
  all_goals exact ⟨rfl, B3.out.alloc B3.out.size _⟩

theorem i6_k : ∀ k, k < 66 → (28 ≤ k ∧ k ≤ 30 ↔ shb (wd k) = 6) := by decide +kernel
theorem i5_k : ∀ k, k < 66 → (42 ≤ k ∧ k ≤ 44 ↔ shb (wd k) = 5) := by decide +kernel

theorem back_walk (a0 a1 a2 a3 a4 : Int) (w : World) (hL : Laid w) (b0 : 0 ≤ a0 ∧ a0 ≤ 255) (b1 : 0 ≤ a1 ∧ a1 ≤ 255) (b2 : 0 ≤ a2 ∧ a2 ≤ 255) (b3 : 0 ≤ a3 ∧ a3 ≤ 255) :
    Calls Tryd.prog 5 #[.int .u8 a0, .int .u8 a1, .int .u8 a2, .int .u8 a3, .int .i64 a4] w fun e w' => e = .returned (.bool true) ∧ Below w.heap.size w w' := by
  obtain ⟨k, hk⟩ := Int.eq_ofNat_of_zero_le (show 0 ≤ 1 + a0 % 65 by omega)
  have k0 : 1 ≤ k := by omega
  have k1 : k < 66 := by omega
  have c0 : 0 ≤ a1 % 32 ∧ a1 % 32 < 32 := by omega
  have c1 : 0 ≤ a2 % 32 ∧ a2 % 32 < 32 := by omega
  have c2 : 0 ≤ a3 % 32 ∧ a3 % 32 < 32 := by omega
  have HK := hide (fun w hL => known_any w hL)
  have HF := hide (fun w hL => form_any k w hL)
  have hf := fmo_k k0 k1
  have hs1 := shb_form (x := wd k)
  have i6 := i6_k k k1
  have i5 := i5_k k k1
  obtain ⟨p, hp, bp, _⟩ := and_i64 a4 2047 (by decide)
  obtain ⟨p6, hp6, bp6, _⟩ := and_i64 a4 63 (by decide)
  obtain ⟨p5, hp5, bp5, _⟩ := and_i64 a4 31 (by decide)
  obtain ⟨ps, hps, bps, es⟩ := and_i64 a4 2046 (by decide)
  obtain ⟨pu, hpu, bpu, eu⟩ := and_i64 a4 524286 (by decide)
  have es := es (by decide)
  have eu := eu (by decide)
  have T := fun r0 r1 r2 im v0 v1 => @trip k k0 k1 r0 r1 r2 im v0 v1
  unfold inst at T
  have hb := fmc_bd (cd (wd k))
  rw [← hf] at hb
  have hsn : fmo k ≠ 1 → shb (wd k) = 0 := fun h => shb_no (by rw [← hf]; exact h)
  rcases (show fmo k = 0 ∨ fmo k = 1 ∨ fmo k = 2 ∨ fmo k = 3 ∨ fmo k = 4 ∨ fmo k = 5 ∨ fmo k = 6 by omega) with h | h | h | h | h | h | h
  · rw [h] at T HF hsn
    obtain ⟨x, _, HE, HD⟩ := T (a1 % 32) (a2 % 32) (a3 % 32) 0 (by decide) (by decide) (by rw [if_pos (by decide)]; exact c0) (by rw [if_pos (by decide)]; exact c1) (by rw [if_pos (by decide)]; exact c2) (by rw [if_neg (by decide)]; unfold imOk; rw [hsn (by decide)]; rfl)
    exact backw_r a0 a1 a2 a3 a4 _ _ _ x k w hL b0 b1 b2 b3 hk (by omega) (by omega) rfl rfl rfl c0 c1 c2 HK HF HE HD
  · rw [h] at T HF
    rcases shb_cases (wd k) with hs | hs | hs
    · obtain ⟨x, _, HE, HD⟩ := T (a1 % 32) (a2 % 32) 0 ((p : Int) - 1024) (by omega) (by omega) (by rw [if_pos (by decide)]; exact c0) (by rw [if_pos (by decide)]; exact c1) (by rw [if_neg (by decide)]) (by rw [if_neg (by decide)]; unfold imOk; rw [hs, if_neg (by decide), if_neg (by decide)]; simp [fitsOf]; omega)
      rcases (show (k : Int) < 28 ∨ (30 < (k : Int) ∧ (k : Int) < 42) ∨ 44 < (k : Int) by omega) with t | t | t
      · exact backw_i a0 a1 a2 a3 a4 _ _ _ x k w hL b0 b1 b2 b3 hk (by omega) (by omega) rfl rfl rfl c0 c1 c2 p hp bp (by omega) (by omega) HK HF HE HD
      · exact backw_ia a0 a1 a2 a3 a4 _ _ _ x k w hL b0 b1 b2 b3 hk (by omega) (by omega) rfl rfl rfl c0 c1 c2 p hp bp (by omega) (by omega) HK HF HE HD
      · exact backw_ib a0 a1 a2 a3 a4 _ _ _ x k w hL b0 b1 b2 b3 hk (by omega) (by omega) rfl rfl rfl c0 c1 c2 p hp bp (by omega) (by omega) HK HF HE HD
    · obtain ⟨x, _, HE, HD⟩ := T (a1 % 32) (a2 % 32) 0 (p5 : Int) (by omega) (by omega) (by rw [if_pos (by decide)]; exact c0) (by rw [if_pos (by decide)]; exact c1) (by rw [if_neg (by decide)]) (by rw [if_neg (by decide)]; unfold imOk; rw [hs, if_neg (by decide), if_pos rfl]; simp; omega)
      exact backw_i5 a0 a1 a2 a3 a4 _ _ _ x k w hL b0 b1 b2 b3 hk (by omega) (by omega) rfl rfl rfl c0 c1 c2 p hp bp p5 hp5 bp5 (by omega) (by omega) HK HF HE HD
    · obtain ⟨x, _, HE, HD⟩ := T (a1 % 32) (a2 % 32) 0 (p6 : Int) (by omega) (by omega) (by rw [if_pos (by decide)]; exact c0) (by rw [if_pos (by decide)]; exact c1) (by rw [if_neg (by decide)]) (by rw [if_neg (by decide)]; unfold imOk; rw [hs, if_pos rfl]; simp; omega)
      exact backw_i6 a0 a1 a2 a3 a4 _ _ _ x k w hL b0 b1 b2 b3 hk (by omega) (by omega) rfl rfl rfl c0 c1 c2 p hp bp p6 hp6 bp6 (by omega) (by omega) HK HF HE HD
  · rw [h] at T HF hsn
    obtain ⟨x, _, HE, HD⟩ := T 0 (a2 % 32) (a3 % 32) ((ps : Int) - 1024) (by omega) (by omega) (by rw [if_neg (by decide)]) (by rw [if_pos (by decide)]; exact c1) (by rw [if_pos (by decide)]; exact c2) (by rw [if_neg (by decide)]; unfold imOk; rw [hsn (by decide), if_neg (by decide), if_neg (by decide)]; simp [fitsOf]; omega)
    exact backw_s a0 a1 a2 a3 a4 _ _ _ x k w hL b0 b1 b2 b3 hk (by omega) (by omega) rfl rfl rfl c0 c1 c2 ps hps bps HK HF HE HD
  · rw [h] at T HF hsn
    obtain ⟨x, _, HE, HD⟩ := T 0 (a2 % 32) (a3 % 32) ((ps : Int) - 1024) (by omega) (by omega) (by rw [if_neg (by decide)]) (by rw [if_pos (by decide)]; exact c1) (by rw [if_pos (by decide)]; exact c2) (by rw [if_neg (by decide)]; unfold imOk; rw [hsn (by decide), if_neg (by decide), if_neg (by decide)]; simp [fitsOf]; omega)
    exact backw_b a0 a1 a2 a3 a4 _ _ _ x k w hL b0 b1 b2 b3 hk (by omega) (by omega) rfl rfl rfl c0 c1 c2 ps hps bps HK HF HE HD
  · rw [h] at T HF hsn
    obtain ⟨x, _, HE, HD⟩ := T (a1 % 32) 0 0 ((pu : Int) - 262144) (by omega) (by omega) (by rw [if_pos (by decide)]; exact c0) (by rw [if_neg (by decide)]) (by rw [if_neg (by decide)]) (by rw [if_neg (by decide)]; unfold imOk; rw [hsn (by decide), if_neg (by decide), if_neg (by decide)]; simp [fitsOf]; omega)
    exact backw_u a0 a1 a2 a3 a4 _ _ _ x k w hL b0 b1 b2 b3 hk (by omega) (by omega) rfl rfl rfl c0 c1 c2 pu hpu bpu HK HF HE HD
  · rw [h] at T HF hsn
    obtain ⟨x, _, HE, HD⟩ := T (a1 % 32) 0 0 ((pu : Int) - 262144) (by omega) (by omega) (by rw [if_pos (by decide)]; exact c0) (by rw [if_neg (by decide)]) (by rw [if_neg (by decide)]) (by rw [if_neg (by decide)]; unfold imOk; rw [hsn (by decide), if_neg (by decide), if_neg (by decide)]; simp [fitsOf]; omega)
    exact backw_j a0 a1 a2 a3 a4 _ _ _ x k w hL b0 b1 b2 b3 hk (by omega) (by omega) rfl rfl rfl c0 c1 c2 pu hpu bpu HK HF HE HD
  · rw [h] at T HF
    obtain ⟨x, _, HE, HD⟩ := T 0 0 0 0 (by decide) (by decide) (by rw [if_neg (by decide)]) (by rw [if_neg (by decide)]) (by rw [if_neg (by decide)]) (by rw [if_pos rfl])
    exact backw_n a0 a1 a2 a3 a4 _ _ _ x k w hL b0 b1 b2 b3 hk (by omega) (by omega) rfl rfl rfl c0 c1 c2 HK HF HE HD

end Go.Proofs.YtnlngagcpcpbkaaDoor
