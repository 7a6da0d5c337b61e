/- The walk of the law on registers and immediates beyond their bounds, a field at a time. -/
import Derived.Test.YtnlngagcpcpbkaaDoorInstTrip
import Derived.Test.YtnlngagcpcpbkaaDoorInstRefEncs
namespace Go.Proofs.YtnlngagcpcpbkaaDoor
open Go.RowKit
set_option linter.unusedVariables false
set_option linter.unusedSimpArgs false

/-- Whether an instruction of form f has a word, where the field j alone isn't 0, and lies within 0 .. 31 (i). -/
def Bnd (j : Nat) (f : Int) (i b : Bool) : Prop :=
  b = (decide (f = 6) || match j with | 0 => (i || decide (f = 2) || decide (f = 3)) | 1 => (i || decide (f = 4) || decide (f = 5)) | 2 => (i || !(decide (f = 0) || decide (f = 2) || decide (f = 3))) | _ => b)
def In (a : Int) (i : Bool) : Prop := i = decide (0 ≤ a ∧ a < 32)

set_option maxRecDepth 100000 in
set_option maxHeartbeats 1600000 in
theorem boundw_0 (a0 a1 a2 x f : Int) (b : Bool) (k : Nat) (w : World) (hL : Laid w) (b0 : 0 ≤ a0 ∧ a0 ≤ 255) (b1 : 0 ≤ a1 ∧ a1 ≤ 255) (b2 : -32768 ≤ a2 ∧ a2 ≤ 32767)
    (hk : 1 + a0 % 65 = k) (k0 : 1 ≤ (k : Int)) (k1 : (k : Int) ≤ 65) (hj : a1 % 4 = 0) (hf : f = 0 ∨ f = 1 ∨ f = 2 ∨ f = 3 ∨ f = 4 ∨ f = 5 ∨ f = 6) (i : Bool) (hi : In a2 i) (hb : Bnd 0 f i b)
    (HK : Hid (∀ w, Laid w → Calls Tryd.prog 9 #[] w fun e w' => e = .returned (.bool true) ∧ Below w.heap.size w w'))
    (HE : Hid (∀ w, Laid w → Calls Tryd.prog 12 #[.agg #[.int .i64 k, .int .i64 a2, .int .i64 0, .int .i64 0, .int .i64 0]] w fun e w' => e = .returned (.tuple #[.int .u32 x, .bool b]) ∧ Below w.heap.size w w'))
    (HR : Hid (∀ w, Calls Tryd.prog 13 #[.agg #[.int .i64 k, .int .i64 a2, .int .i64 0, .int .i64 0, .int .i64 0]] w fun e w' => e = .returned (.tuple #[.int .u32 x, .bool b]) ∧ Below w.heap.size w w'))
    (HF : Hid (∀ w, Laid w → Calls Tryd.prog 14 #[.int .i64 k] w fun e w' => e = .returned (.int .i64 f) ∧ w' = w)) :
    Calls Tryd.prog 8 #[.int .u8 a0, .int .u8 a1, .int .i16 a2] w fun e w' => e = .returned (.bool true) ∧ Below w.heap.size w w' := by
  have HL := hide hL
  have Hf := hide hf
  have HI := hide hi
  have HB := hide hb
  clear hL hf hi hb
  go_enter Tryd.func8, Tryd.ntmps8
  go_wp2_with fail
  refine (HK.out _ HL.out).mono ?_
  rintro e W1 ⟨rfl, hB⟩
  have B1 := hide hB
  have L1 := hide (HL.out.then hB)
  clear hB HK HL
  go_wp2_with fail
  refine (HE.out _ (L1.out.alloc _)).mono ?_
  rintro e W2 ⟨rfl, hB⟩
  have L2 := hide ((L1.out.alloc _).then hB)
  have B2 : Hid (Below w.heap.size w W2) := hide ((B1.out.alloc B1.out.size _).trans (hB.mono (by have := B1.out.size; simp; omega)))
  have f0 : W2.cell? ⟨W1.heap.size, 0, none⟩ = some (.int .i64 k) := cell_below hB (by go_simp)
  have f1 : W2.cell? ⟨W1.heap.size, 1, none⟩ = some (.int .i64 a2) := cell_below hB (by go_simp)
  have f2 : W2.cell? ⟨W1.heap.size, 2, none⟩ = some (.int .i64 0) := cell_below hB (by go_simp)
  have f3 : W2.cell? ⟨W1.heap.size, 3, none⟩ = some (.int .i64 0) := cell_below hB (by go_simp)
  have f4 : W2.cell? ⟨W1.heap.size, 4, none⟩ = some (.int .i64 0) := cell_below hB (by go_simp)
  clear hB HE
  go_wp2_with fail
  refine (HR.out _).mono ?_
  rintro e W3 ⟨rfl, hB⟩
  have g0 := cell_below hB f0
  have L3 := hide (L2.out.then hB)
  have B3 : Hid (Below w.heap.size w W3) := hide (B2.out.trans (hB.mono B2.out.size))
  have hlt : W1.heap.size < W3.heap.size := World.block_lt_of_cell? _ _ g0
  clear hB HR f0 f1 f2 f3 f4
  go_wp2_with fail
  refine (HF.out _ L3.out).mono ?_
  rintro e W ⟨rfl, hW⟩
  rw [hW]
  clear hW W HF g0
  rcases (show a2 < 0 ∨ (0 ≤ a2 ∧ a2 < 32) ∨ 32 ≤ a2 by omega) with hi | ⟨hi, hi'⟩ | hi
  · obtain rfl : i = false := by rw [HI.out]; exact decide_eq_false (by omega)
    rcases Hf.out with rfl | rfl | rfl | rfl | rfl | rfl | rfl
    all_goals (first
      | (have hb : b = true := HB.out; subst hb)
      | (have hb : b = false := HB.out; subst hb))
    all_goals clear Hf HB HI
    all_goals go_wp2
    all_goals go_ret
    all_goals exact ⟨rfl, B3.out⟩
  · obtain rfl : i = true := by rw [HI.out]; exact decide_eq_true (by omega)
    rcases Hf.out with rfl | rfl | rfl | rfl | rfl | rfl | rfl
    all_goals (first
      | (have hb : b = true := HB.out; subst hb)
      | (have hb : b = false := HB.out; subst hb))
    all_goals clear Hf HB HI
    all_goals go_wp2
    all_goals go_ret
    all_goals exact ⟨rfl, B3.out⟩
  · obtain rfl : i = false := by rw [HI.out]; exact decide_eq_false (by omega)
    have hd : decide (a2 < 32) = false := decide_eq_false (by omega)
    rcases Hf.out with rfl | rfl | rfl | rfl | rfl | rfl | rfl
    all_goals (first
      | (have hb : b = true := HB.out; subst hb)
      | (have hb : b = false := HB.out; subst hb))
    all_goals clear Hf HB HI
    all_goals go_wp2
    all_goals go_ret
    all_goals exact ⟨rfl, B3.out⟩

set_option maxRecDepth 100000 in
set_option maxHeartbeats 1600000 in
theorem boundw_1 (a0 a1 a2 x f : Int) (b : Bool) (k : Nat) (w : World) (hL : Laid w) (b0 : 0 ≤ a0 ∧ a0 ≤ 255) (b1 : 0 ≤ a1 ∧ a1 ≤ 255) (b2 : -32768 ≤ a2 ∧ a2 ≤ 32767)
    (hk : 1 + a0 % 65 = k) (k0 : 1 ≤ (k : Int)) (k1 : (k : Int) ≤ 65) (hj : a1 % 4 = 1) (hf : f = 0 ∨ f = 1 ∨ f = 2 ∨ f = 3 ∨ f = 4 ∨ f = 5 ∨ f = 6) (i : Bool) (hi : In a2 i) (hb : Bnd 1 f i b)
    (HK : Hid (∀ w, Laid w → Calls Tryd.prog 9 #[] w fun e w' => e = .returned (.bool true) ∧ Below w.heap.size w w'))
    (HE : Hid (∀ w, Laid w → Calls Tryd.prog 12 #[.agg #[.int .i64 k, .int .i64 0, .int .i64 a2, .int .i64 0, .int .i64 0]] w fun e w' => e = .returned (.tuple #[.int .u32 x, .bool b]) ∧ Below w.heap.size w w'))
    (HR : Hid (∀ w, Calls Tryd.prog 13 #[.agg #[.int .i64 k, .int .i64 0, .int .i64 a2, .int .i64 0, .int .i64 0]] w fun e w' => e = .returned (.tuple #[.int .u32 x, .bool b]) ∧ Below w.heap.size w w'))
    (HF : Hid (∀ w, Laid w → Calls Tryd.prog 14 #[.int .i64 k] w fun e w' => e = .returned (.int .i64 f) ∧ w' = w)) :
    Calls Tryd.prog 8 #[.int .u8 a0, .int .u8 a1, .int .i16 a2] w fun e w' => e = .returned (.bool true) ∧ Below w.heap.size w w' := by
  have HL := hide hL
  have Hf := hide hf
  have HI := hide hi
  have HB := hide hb
  clear hL hf hi hb
  go_enter Tryd.func8, Tryd.ntmps8
  go_wp2_with fail
  refine (HK.out _ HL.out).mono ?_
  rintro e W1 ⟨rfl, hB⟩
  have B1 := hide hB
  have L1 := hide (HL.out.then hB)
  clear hB HK HL
  go_wp2_with fail
  refine (HE.out _ (L1.out.alloc _)).mono ?_
  rintro e W2 ⟨rfl, hB⟩
  have L2 := hide ((L1.out.alloc _).then hB)
  have B2 : Hid (Below w.heap.size w W2) := hide ((B1.out.alloc B1.out.size _).trans (hB.mono (by have := B1.out.size; simp; omega)))
  have f0 : W2.cell? ⟨W1.heap.size, 0, none⟩ = some (.int .i64 k) := cell_below hB (by go_simp)
  have f1 : W2.cell? ⟨W1.heap.size, 1, none⟩ = some (.int .i64 0) := cell_below hB (by go_simp)
  have f2 : W2.cell? ⟨W1.heap.size, 2, none⟩ = some (.int .i64 a2) := cell_below hB (by go_simp)
  have f3 : W2.cell? ⟨W1.heap.size, 3, none⟩ = some (.int .i64 0) := cell_below hB (by go_simp)
  have f4 : W2.cell? ⟨W1.heap.size, 4, none⟩ = some (.int .i64 0) := cell_below hB (by go_simp)
  clear hB HE
  go_wp2_with fail
  refine (HR.out _).mono ?_
  rintro e W3 ⟨rfl, hB⟩
  have g0 := cell_below hB f0
  have L3 := hide (L2.out.then hB)
  have B3 : Hid (Below w.heap.size w W3) := hide (B2.out.trans (hB.mono B2.out.size))
  have hlt : W1.heap.size < W3.heap.size := World.block_lt_of_cell? _ _ g0
  clear hB HR f0 f1 f2 f3 f4
  go_wp2_with fail
  refine (HF.out _ L3.out).mono ?_
  rintro e W ⟨rfl, hW⟩
  rw [hW]
  clear hW W HF g0
  rcases (show a2 < 0 ∨ (0 ≤ a2 ∧ a2 < 32) ∨ 32 ≤ a2 by omega) with hi | ⟨hi, hi'⟩ | hi
  · obtain rfl : i = false := by rw [HI.out]; exact decide_eq_false (by omega)
    rcases Hf.out with rfl | rfl | rfl | rfl | rfl | rfl | rfl
    all_goals (first
      | (have hb : b = true := HB.out; subst hb)
      | (have hb : b = false := HB.out; subst hb))
    all_goals clear Hf HB HI
    all_goals go_wp2
    all_goals go_ret
    all_goals exact ⟨rfl, B3.out⟩
  · obtain rfl : i = true := by rw [HI.out]; exact decide_eq_true (by omega)
    rcases Hf.out with rfl | rfl | rfl | rfl | rfl | rfl | rfl
    all_goals (first
      | (have hb : b = true := HB.out; subst hb)
      | (have hb : b = false := HB.out; subst hb))
    all_goals clear Hf HB HI
    all_goals go_wp2
    all_goals go_ret
    all_goals exact ⟨rfl, B3.out⟩
  · obtain rfl : i = false := by rw [HI.out]; exact decide_eq_false (by omega)
    have hd : decide (a2 < 32) = false := decide_eq_false (by omega)
    rcases Hf.out with rfl | rfl | rfl | rfl | rfl | rfl | rfl
    all_goals (first
      | (have hb : b = true := HB.out; subst hb)
      | (have hb : b = false := HB.out; subst hb))
    all_goals clear Hf HB HI
    all_goals go_wp2
    all_goals go_ret
    all_goals exact ⟨rfl, B3.out⟩

set_option maxRecDepth 100000 in
set_option maxHeartbeats 1600000 in
theorem boundw_2 (a0 a1 a2 x f : Int) (b : Bool) (k : Nat) (w : World) (hL : Laid w) (b0 : 0 ≤ a0 ∧ a0 ≤ 255) (b1 : 0 ≤ a1 ∧ a1 ≤ 255) (b2 : -32768 ≤ a2 ∧ a2 ≤ 32767)
    (hk : 1 + a0 % 65 = k) (k0 : 1 ≤ (k : Int)) (k1 : (k : Int) ≤ 65) (hj : a1 % 4 = 2) (hf : f = 0 ∨ f = 1 ∨ f = 2 ∨ f = 3 ∨ f = 4 ∨ f = 5 ∨ f = 6) (i : Bool) (hi : In a2 i) (hb : Bnd 2 f i b)
    (HK : Hid (∀ w, Laid w → Calls Tryd.prog 9 #[] w fun e w' => e = .returned (.bool true) ∧ Below w.heap.size w w'))
    (HE : Hid (∀ w, Laid w → Calls Tryd.prog 12 #[.agg #[.int .i64 k, .int .i64 0, .int .i64 0, .int .i64 a2, .int .i64 0]] w fun e w' => e = .returned (.tuple #[.int .u32 x, .bool b]) ∧ Below w.heap.size w w'))
    (HR : Hid (∀ w, Calls Tryd.prog 13 #[.agg #[.int .i64 k, .int .i64 0, .int .i64 0, .int .i64 a2, .int .i64 0]] w fun e w' => e = .returned (.tuple #[.int .u32 x, .bool b]) ∧ Below w.heap.size w w'))
    (HF : Hid (∀ w, Laid w → Calls Tryd.prog 14 #[.int .i64 k] w fun e w' => e = .returned (.int .i64 f) ∧ w' = w)) :
    Calls Tryd.prog 8 #[.int .u8 a0, .int .u8 a1, .int .i16 a2] w fun e w' => e = .returned (.bool true) ∧ Below w.heap.size w w' := by
  have HL := hide hL
  have Hf := hide hf
  have HI := hide hi
  have HB := hide hb
  clear hL hf hi hb
  go_enter Tryd.func8, Tryd.ntmps8
  go_wp2_with fail
  refine (HK.out _ HL.out).mono ?_
  rintro e W1 ⟨rfl, hB⟩
  have B1 := hide hB
  have L1 := hide (HL.out.then hB)
  clear hB HK HL
  go_wp2_with fail
  refine (HE.out _ (L1.out.alloc _)).mono ?_
  rintro e W2 ⟨rfl, hB⟩
  have L2 := hide ((L1.out.alloc _).then hB)
  have B2 : Hid (Below w.heap.size w W2) := hide ((B1.out.alloc B1.out.size _).trans (hB.mono (by have := B1.out.size; simp; omega)))
  have f0 : W2.cell? ⟨W1.heap.size, 0, none⟩ = some (.int .i64 k) := cell_below hB (by go_simp)
  have f1 : W2.cell? ⟨W1.heap.size, 1, none⟩ = some (.int .i64 0) := cell_below hB (by go_simp)
  have f2 : W2.cell? ⟨W1.heap.size, 2, none⟩ = some (.int .i64 0) := cell_below hB (by go_simp)
  have f3 : W2.cell? ⟨W1.heap.size, 3, none⟩ = some (.int .i64 a2) := cell_below hB (by go_simp)
  have f4 : W2.cell? ⟨W1.heap.size, 4, none⟩ = some (.int .i64 0) := cell_below hB (by go_simp)
  clear hB HE
  go_wp2_with fail
  refine (HR.out _).mono ?_
  rintro e W3 ⟨rfl, hB⟩
  have g0 := cell_below hB f0
  have L3 := hide (L2.out.then hB)
  have B3 : Hid (Below w.heap.size w W3) := hide (B2.out.trans (hB.mono B2.out.size))
  have hlt : W1.heap.size < W3.heap.size := World.block_lt_of_cell? _ _ g0
  clear hB HR f0 f1 f2 f3 f4
  go_wp2_with fail
  refine (HF.out _ L3.out).mono ?_
  rintro e W ⟨rfl, hW⟩
  rw [hW]
  clear hW W HF g0
  rcases (show a2 < 0 ∨ (0 ≤ a2 ∧ a2 < 32) ∨ 32 ≤ a2 by omega) with hi | ⟨hi, hi'⟩ | hi
  · obtain rfl : i = false := by rw [HI.out]; exact decide_eq_false (by omega)
    rcases Hf.out with rfl | rfl | rfl | rfl | rfl | rfl | rfl
    all_goals (first
      | (have hb : b = true := HB.out; subst hb)
      | (have hb : b = false := HB.out; subst hb))
    all_goals clear Hf HB HI
    all_goals go_wp2
    all_goals go_ret
    all_goals exact ⟨rfl, B3.out⟩
  · obtain rfl : i = true := by rw [HI.out]; exact decide_eq_true (by omega)
    rcases Hf.out with rfl | rfl | rfl | rfl | rfl | rfl | rfl
    all_goals (first
      | (have hb : b = true := HB.out; subst hb)
      | (have hb : b = false := HB.out; subst hb))
    all_goals clear Hf HB HI
    all_goals go_wp2
    all_goals go_ret
    all_goals exact ⟨rfl, B3.out⟩
  · obtain rfl : i = false := by rw [HI.out]; exact decide_eq_false (by omega)
    have hd : decide (a2 < 32) = false := decide_eq_false (by omega)
    rcases Hf.out with rfl | rfl | rfl | rfl | rfl | rfl | rfl
    all_goals (first
      | (have hb : b = true := HB.out; subst hb)
      | (have hb : b = false := HB.out; subst hb))
    all_goals clear Hf HB HI
    all_goals go_wp2
    all_goals go_ret
    all_goals exact ⟨rfl, B3.out⟩

set_option maxRecDepth 100000 in
set_option maxHeartbeats 1600000 in
theorem boundw_3 (a0 a1 a2 x f : Int) (b : Bool) (k : Nat) (w : World) (hL : Laid w) (b0 : 0 ≤ a0 ∧ a0 ≤ 255) (b1 : 0 ≤ a1 ∧ a1 ≤ 255) (b2 : -32768 ≤ a2 ∧ a2 ≤ 32767)
    (hk : 1 + a0 % 65 = k) (k0 : 1 ≤ (k : Int)) (k1 : (k : Int) ≤ 65) (hj : a1 % 4 = 3) (hf : f = 0 ∨ f = 1 ∨ f = 2 ∨ f = 3 ∨ f = 4 ∨ f = 5 ∨ f = 6) (i : Bool) (hi : In a2 i) (hb : Bnd 3 f i b)
    (HK : Hid (∀ w, Laid w → Calls Tryd.prog 9 #[] w fun e w' => e = .returned (.bool true) ∧ Below w.heap.size w w'))
    (HE : Hid (∀ w, Laid w → Calls Tryd.prog 12 #[.agg #[.int .i64 k, .int .i64 0, .int .i64 0, .int .i64 0, .int .i64 (a2 * 64)]] w fun e w' => e = .returned (.tuple #[.int .u32 x, .bool b]) ∧ Below w.heap.size w w'))
    (HR : Hid (∀ w, Calls Tryd.prog 13 #[.agg #[.int .i64 k, .int .i64 0, .int .i64 0, .int .i64 0, .int .i64 (a2 * 64)]] w fun e w' => e = .returned (.tuple #[.int .u32 x, .bool b]) ∧ Below w.heap.size w w'))
    (HF : Hid (∀ w, Laid w → Calls Tryd.prog 14 #[.int .i64 k] w fun e w' => e = .returned (.int .i64 f) ∧ w' = w)) :
    Calls Tryd.prog 8 #[.int .u8 a0, .int .u8 a1, .int .i16 a2] w fun e w' => e = .returned (.bool true) ∧ Below w.heap.size w w' := by
  have HL := hide hL
  have Hf := hide hf
  have HI := hide hi
  have HB := hide hb
  clear hL hf hi hb
  go_enter Tryd.func8, Tryd.ntmps8
  go_wp2_with fail
  refine (HK.out _ HL.out).mono ?_
  rintro e W1 ⟨rfl, hB⟩
  have B1 := hide hB
  have L1 := hide (HL.out.then hB)
  clear hB HK HL
  go_wp2_with fail
  refine (HE.out _ (L1.out.alloc _)).mono ?_
  rintro e W2 ⟨rfl, hB⟩
  have L2 := hide ((L1.out.alloc _).then hB)
  have B2 : Hid (Below w.heap.size w W2) := hide ((B1.out.alloc B1.out.size _).trans (hB.mono (by have := B1.out.size; simp; omega)))
  have f0 : W2.cell? ⟨W1.heap.size, 0, none⟩ = some (.int .i64 k) := cell_below hB (by go_simp)
  have f1 : W2.cell? ⟨W1.heap.size, 1, none⟩ = some (.int .i64 0) := cell_below hB (by go_simp)
  have f2 : W2.cell? ⟨W1.heap.size, 2, none⟩ = some (.int .i64 0) := cell_below hB (by go_simp)
  have f3 : W2.cell? ⟨W1.heap.size, 3, none⟩ = some (.int .i64 0) := cell_below hB (by go_simp)
  have f4 : W2.cell? ⟨W1.heap.size, 4, none⟩ = some (.int .i64 (a2 * 64)) := cell_below hB (by go_simp)
  clear hB HE
  go_wp2_with fail
  refine (HR.out _).mono ?_
  rintro e W3 ⟨rfl, hB⟩
  have g0 := cell_below hB f0
  have L3 := hide (L2.out.then hB)
  have B3 : Hid (Below w.heap.size w W3) := hide (B2.out.trans (hB.mono B2.out.size))
  have hlt : W1.heap.size < W3.heap.size := World.block_lt_of_cell? _ _ g0
  clear hB HR f0 f1 f2 f3 f4
  go_wp2_with fail
  refine (HF.out _ L3.out).mono ?_
  rintro e W ⟨rfl, hW⟩
  rw [hW]
  clear hW W HF g0
  rcases Hf.out with rfl | rfl | rfl | rfl | rfl | rfl | rfl
  all_goals try (have hb : b = true := HB.out; subst hb)
  all_goals clear Hf HB HI
  all_goals go_wp2
  all_goals go_ret
  all_goals exact ⟨rfl, B3.out⟩

end Go.Proofs.YtnlngagcpcpbkaaDoor
