/- The contract of package inst's Decode. -/
import Derived.Test.YtgjfelkbblbjfaaGreatDoorJ05
namespace Go.Proofs.YtgjfelkbblbjfaaGreatDoor
open Go.RowKit Go.Maps
set_option linter.unusedVariables false
set_option maxRecDepth 100000
set_option linter.unusedSimpArgs false

/-- The fields of an instruction, by its form, of its word. -/
def rdO (f x : Int) : Int := if hasD f = true then x / 2 ^ 7 % 32 else 0
def r1O (f x : Int) : Int := if has1 f = true then x / 2 ^ 15 % 32 else 0
def r2O (f x : Int) : Int := if has2 f = true then x / 2 ^ 20 % 32 else 0
def imO (f x : Int) : Int := if shb x = 6 then x / 2 ^ 20 % 2 ^ 6 else if shb x = 5 then x / 2 ^ 20 % 2 ^ 5 else getOf f x
def inst (o r1 r2 r3 i : Int) : Value := .agg #[.int .i64 o, .int .i64 r1, .int .i64 r2, .int .i64 r3, .int .i64 i]

theorem has_cases (f : Int) : (hasD f = true ∧ has1 f = true ∧ has2 f = true) ∨ (hasD f = true ∧ has1 f = true ∧ has2 f = false) ∨ (hasD f = false ∧ has1 f = true ∧ has2 f = true) ∨ (hasD f = true ∧ has1 f = false ∧ has2 f = false) ∨ (hasD f = false ∧ has1 f = false ∧ has2 f = false) := by
  unfold hasD has1 has2
  simp only [decide_eq_true_eq, decide_eq_false_iff_not]
  omega

set_option maxHeartbeats 3200000 in
theorem dec_none (x : Int) (w : World) (h0 : 0 ≤ x) (h1 : x ≤ 4294967295) (ho : IsOp x 0) (hL : Laid w) :
    Calls Tryz.prog 77 #[.int .u32 x] w fun e w' => e = .returned (.tuple #[inst 0 0 0 0 0, .bool false]) ∧ Below w.heap.size w w' := by
  have HO := hide (fun w hL => op_any x 0 w h0 h1 ho hL)
  have HL := hide hL
  clear hL ho
  go_enter Tryz.func77, Tryz.ntmps77
  go_wp2_with fail
  refine (HO.out _ (HL.out.below ((Below.refl _ _).alloc (Nat.le_refl _) _) HL.out.1)).mono ?_
  rintro e W1 ⟨rfl, hB1⟩
  have hlt : w.heap.size < W1.heap.size := by have := hB1.size; simp at this; omega
  have q0 : W1.cell? ⟨w.heap.size, 0, none⟩ = some (.int .i64 0) := (hB1.cell (p := ⟨w.heap.size, 0, none⟩) (by simp)).trans (by simp)
  have q1 : W1.cell? ⟨w.heap.size, 1, none⟩ = some (.int .i64 0) := (hB1.cell (p := ⟨w.heap.size, 1, none⟩) (by simp)).trans (by simp)
  have q2 : W1.cell? ⟨w.heap.size, 2, none⟩ = some (.int .i64 0) := (hB1.cell (p := ⟨w.heap.size, 2, none⟩) (by simp)).trans (by simp)
  have q3 : W1.cell? ⟨w.heap.size, 3, none⟩ = some (.int .i64 0) := (hB1.cell (p := ⟨w.heap.size, 3, none⟩) (by simp)).trans (by simp)
  have q4 : W1.cell? ⟨w.heap.size, 4, none⟩ = some (.int .i64 0) := (hB1.cell (p := ⟨w.heap.size, 4, none⟩) (by simp)).trans (by simp)
  have z : ∀ j, W1.frozen? ⟨w.heap.size, j, none⟩ = false := fun j => (hB1.frozen (p := ⟨w.heap.size, j, none⟩) (by simp)).trans (by simp)
  have z0 := z 0
  have z1 := z 1
  have z2 := z 2
  have z3 := z 3
  have z4 := z 4
  have HB : Hid (Below w.heap.size w W1) := hide (((Below.refl _ w).alloc (Nat.le_refl _) _).trans (hB1.mono (by simp)))
  clear hB1 z HO HL
  go_wp2
  refine bodyPost_ret (v := .tuple #[inst 0 0 0 0 0, .bool false]) (by simp [results, Tryz.results77, go_sem, inst, q0, q1, q2, q3, q4, hlt]) rfl ⟨rfl, ?_⟩
  have hb := HB.out
  clear HB
  go_grown

set_option maxHeartbeats 400000 in
theorem dec_0_0 (x f g yi y0 y1 y2 : Int) (o : Nat) (w : World) (h0 : 0 ≤ x) (h1 : x ≤ 4294967295) (ho : 1 ≤ o) (ho' : o < 66) (bi : 0 ≤ yi ∧ yi ≤ 63)
    (HO : Hid (∀ w, Laid w → Calls Tryz.prog 103 #[.int .u32 x] w fun e w' => e = .returned (.tuple #[.int .i64 o, .bool true]) ∧ Below w.heap.size w w'))
    (HL : Hid (Laid w))
    (HF : Hid (∀ w, Laid w → Calls Tryz.prog 104 #[.int .i64 o] w fun e w' => e = .returned (.int .i64 f) ∧ w' = w))
    (HS : Hid (∀ w, Calls Tryz.prog 105 #[.int .i64 f] w fun e w' => e = .returned (.agg #[.bool true, .bool true, .bool true]) ∧ w' = w.alloc (.cells #[.bool true, .bool true, .bool true] 142)))
    (HG : Hid (∀ w, Calls Tryz.prog 106 #[.int .i64 f, .int .u32 x] w fun e w' => e = .returned (.int .i64 g) ∧ w' = w))
    (HT : Hid (∀ w, Calls Tryz.prog 107 #[.int .u32 x] w fun e w' => e = .returned (.int .u64 0) ∧ w' = w))
    (HR0 : Hid (∀ w, Calls Tryz.prog 109 #[.int .u32 x, .int .u64 7] w fun e w' => e = .returned (.int .i64 y0) ∧ w' = w))
    (HR1 : Hid (∀ w, Calls Tryz.prog 109 #[.int .u32 x, .int .u64 15] w fun e w' => e = .returned (.int .i64 y1) ∧ w' = w))
    (HR2 : Hid (∀ w, Calls Tryz.prog 109 #[.int .u32 x, .int .u64 20] w fun e w' => e = .returned (.int .i64 y2) ∧ w' = w)) :
    Calls Tryz.prog 77 #[.int .u32 x] w fun e w' => e = .returned (.tuple #[inst o y0 y1 y2 g, .bool true]) ∧ Below w.heap.size w w' := by
  go_enter Tryz.func77, Tryz.ntmps77
  go_wp2_with fail
  refine (HO.out _ (HL.out.below ((Below.refl _ _).alloc (Nat.le_refl _) _) HL.out.1)).mono ?_
  rintro e W1 ⟨rfl, hB1⟩
  have hlt : w.heap.size < W1.heap.size := by have := hB1.size; simp at this; omega
  have hlt1 : w.heap.size < W1.heap.size + 1 := by omega
  have hlt2 : w.heap.size < W1.heap.size + 1 + 1 := by omega
  have q0 : W1.cell? ⟨w.heap.size, 0, none⟩ = some (.int .i64 0) := (hB1.cell (p := ⟨w.heap.size, 0, none⟩) (by simp)).trans (by simp)
  have q1 : W1.cell? ⟨w.heap.size, 1, none⟩ = some (.int .i64 0) := (hB1.cell (p := ⟨w.heap.size, 1, none⟩) (by simp)).trans (by simp)
  have q2 : W1.cell? ⟨w.heap.size, 2, none⟩ = some (.int .i64 0) := (hB1.cell (p := ⟨w.heap.size, 2, none⟩) (by simp)).trans (by simp)
  have q3 : W1.cell? ⟨w.heap.size, 3, none⟩ = some (.int .i64 0) := (hB1.cell (p := ⟨w.heap.size, 3, none⟩) (by simp)).trans (by simp)
  have q4 : W1.cell? ⟨w.heap.size, 4, none⟩ = some (.int .i64 0) := (hB1.cell (p := ⟨w.heap.size, 4, none⟩) (by simp)).trans (by simp)
  have z : ∀ j, W1.frozen? ⟨w.heap.size, j, none⟩ = false := fun j => (hB1.frozen (p := ⟨w.heap.size, j, none⟩) (by simp)).trans (by simp)
  have z0 := z 0
  have z1 := z 1
  have z2 := z 2
  have z3 := z 3
  have z4 := z 4
  have HB : Hid (Below w.heap.size w W1) := hide (((Below.refl _ w).alloc (Nat.le_refl _) _).trans (hB1.mono (by simp)))
  have HL1 := hide (HL.out.below HB.out HL.out.1)
  clear hB1 z HO HL
  go_wp2_with fail
  refine (HF.out _ HL1.out).mono ?_
  rintro e W ⟨rfl, hW⟩
  rw [hW]
  clear hW W HF HL1
  go_wp2_with fail
  refine (HS.out _).mono ?_
  rintro e W ⟨rfl, hW⟩
  rw [hW]
  clear hW W HS
  go_wp2_with fail
  refine (HG.out _).mono ?_
  rintro e W ⟨rfl, hW⟩
  rw [hW]
  clear hW W HG
  go_wp2_with fail
  refine (HT.out _).mono ?_
  rintro e W3 ⟨rfl, hW⟩
  have c0 : W3.cell? ⟨W1.heap.size + 1 + 1, 0, none⟩ = some (.int .i64 o) := by rw [hW]; go_simp
  have y0' : W3.frozen? ⟨W1.heap.size + 1 + 1, 0, none⟩ = false := by rw [hW]; go_simp
  have p0 : W3.cell? ⟨w.heap.size, 0, none⟩ = some (.int .i64 0) := by rw [hW]; exact cell_alloc (cell_alloc (cell_alloc q0))
  have u0 : W3.frozen? ⟨w.heap.size, 0, none⟩ = false := by rw [hW]; go_simp
  have c1 : W3.cell? ⟨W1.heap.size + 1 + 1, 1, none⟩ = some (.int .i64 0) := by rw [hW]; go_simp
  have y1' : W3.frozen? ⟨W1.heap.size + 1 + 1, 1, none⟩ = false := by rw [hW]; go_simp
  have p1 : W3.cell? ⟨w.heap.size, 1, none⟩ = some (.int .i64 0) := by rw [hW]; exact cell_alloc (cell_alloc (cell_alloc q1))
  have u1 : W3.frozen? ⟨w.heap.size, 1, none⟩ = false := by rw [hW]; go_simp
  have c2 : W3.cell? ⟨W1.heap.size + 1 + 1, 2, none⟩ = some (.int .i64 0) := by rw [hW]; go_simp
  have y2' : W3.frozen? ⟨W1.heap.size + 1 + 1, 2, none⟩ = false := by rw [hW]; go_simp
  have p2 : W3.cell? ⟨w.heap.size, 2, none⟩ = some (.int .i64 0) := by rw [hW]; exact cell_alloc (cell_alloc (cell_alloc q2))
  have u2 : W3.frozen? ⟨w.heap.size, 2, none⟩ = false := by rw [hW]; go_simp
  have c3 : W3.cell? ⟨W1.heap.size + 1 + 1, 3, none⟩ = some (.int .i64 0) := by rw [hW]; go_simp
  have y3' : W3.frozen? ⟨W1.heap.size + 1 + 1, 3, none⟩ = false := by rw [hW]; go_simp
  have p3 : W3.cell? ⟨w.heap.size, 3, none⟩ = some (.int .i64 0) := by rw [hW]; exact cell_alloc (cell_alloc (cell_alloc q3))
  have u3 : W3.frozen? ⟨w.heap.size, 3, none⟩ = false := by rw [hW]; go_simp
  have c4 : W3.cell? ⟨W1.heap.size + 1 + 1, 4, none⟩ = some (.int .i64 g) := by rw [hW]; go_simp
  have y4' : W3.frozen? ⟨W1.heap.size + 1 + 1, 4, none⟩ = false := by rw [hW]; go_simp
  have p4 : W3.cell? ⟨w.heap.size, 4, none⟩ = some (.int .i64 0) := by rw [hW]; exact cell_alloc (cell_alloc (cell_alloc q4))
  have u4 : W3.frozen? ⟨w.heap.size, 4, none⟩ = false := by rw [hW]; go_simp
  have s0 : W3.cell? ⟨W1.heap.size + 1, 0, none⟩ = some (.bool true) := by rw [hW]; go_simp
  have s1 : W3.cell? ⟨W1.heap.size + 1, 1, none⟩ = some (.bool true) := by rw [hW]; go_simp
  have s2 : W3.cell? ⟨W1.heap.size + 1, 2, none⟩ = some (.bool true) := by rw [hW]; go_simp
  have HB3 : Hid (Below w.heap.size w W3) := hide (by rw [hW]; exact ((HB.out.alloc (by omega) _).alloc (by simp; omega) _).alloc (by simp; omega) _)
  have hs3 : W3.heap.size = W1.heap.size + 1 + 1 + 1 := by rw [hW]; simp
  clear hW HT HB q0 q1 q2 q3 q4 z0 z1 z2 z3 z4
  generalize hb2 : W1.heap.size + 1 + 1 = b2 at *
  generalize hb1 : W1.heap.size + 1 = b1 at *
  have n1 : w.heap.size < b2 := by omega
  have n2 : w.heap.size ≠ b2 := by omega
  have n3 : b2 ≠ w.heap.size := by omega
  have n4 : b2 < W3.heap.size := by omega
  have n5 : b1 ≠ b2 := by omega
  have n6 : b2 ≠ b1 := by omega
  clear hlt hlt1 hlt2 hs3 hb1 hb2
  go_wp2_with fail
  refine (HR0.out _).mono ?_
  rintro e W ⟨rfl, hW⟩
  rw [hW]
  clear hW W HR0
  go_wp2_with fail
  refine (HR1.out _).mono ?_
  rintro e V1 ⟨rfl, hW⟩
  have c0_1 : V1.cell? ⟨b2, 0, none⟩ = some (.int .i64 o) := by rw [hW]; go_simp
  have y0_1 : V1.frozen? ⟨b2, 0, none⟩ = false := by rw [hW]; go_simp
  have p0_1 : V1.cell? ⟨w.heap.size, 0, none⟩ = some (.int .i64 0) := by rw [hW]; go_simp
  have u0_1 : V1.frozen? ⟨w.heap.size, 0, none⟩ = false := by rw [hW]; go_simp
  have c1_1 : V1.cell? ⟨b2, 1, none⟩ = some (.int .i64 y0) := by rw [hW]; go_simp
  have y1_1 : V1.frozen? ⟨b2, 1, none⟩ = false := by rw [hW]; go_simp
  have p1_1 : V1.cell? ⟨w.heap.size, 1, none⟩ = some (.int .i64 0) := by rw [hW]; go_simp
  have u1_1 : V1.frozen? ⟨w.heap.size, 1, none⟩ = false := by rw [hW]; go_simp
  have c2_1 : V1.cell? ⟨b2, 2, none⟩ = some (.int .i64 0) := by rw [hW]; go_simp
  have y2_1 : V1.frozen? ⟨b2, 2, none⟩ = false := by rw [hW]; go_simp
  have p2_1 : V1.cell? ⟨w.heap.size, 2, none⟩ = some (.int .i64 0) := by rw [hW]; go_simp
  have u2_1 : V1.frozen? ⟨w.heap.size, 2, none⟩ = false := by rw [hW]; go_simp
  have c3_1 : V1.cell? ⟨b2, 3, none⟩ = some (.int .i64 0) := by rw [hW]; go_simp
  have y3_1 : V1.frozen? ⟨b2, 3, none⟩ = false := by rw [hW]; go_simp
  have p3_1 : V1.cell? ⟨w.heap.size, 3, none⟩ = some (.int .i64 0) := by rw [hW]; go_simp
  have u3_1 : V1.frozen? ⟨w.heap.size, 3, none⟩ = false := by rw [hW]; go_simp
  have c4_1 : V1.cell? ⟨b2, 4, none⟩ = some (.int .i64 g) := by rw [hW]; go_simp
  have y4_1 : V1.frozen? ⟨b2, 4, none⟩ = false := by rw [hW]; go_simp
  have p4_1 : V1.cell? ⟨w.heap.size, 4, none⟩ = some (.int .i64 0) := by rw [hW]; go_simp
  have u4_1 : V1.frozen? ⟨w.heap.size, 4, none⟩ = false := by rw [hW]; go_simp
  have s0_1 : V1.cell? ⟨b1, 0, none⟩ = some (.bool true) := by rw [hW]; go_simp
  have s1_1 : V1.cell? ⟨b1, 1, none⟩ = some (.bool true) := by rw [hW]; go_simp
  have s2_1 : V1.cell? ⟨b1, 2, none⟩ = some (.bool true) := by rw [hW]; go_simp
  have HV1 : Hid (Below w.heap.size w V1) := hide (by rw [hW]; exact HB3.out.setCell (by show w.heap.size ≤ b2; omega) _)
  have n4_1 : b2 < V1.heap.size := by rw [hW]; simpa using n4
  clear hW HR1 c0 c1 c2 c3 c4 y0' y1' y2' y3' y4' p0 p1 p2 p3 p4 u0 u1 u2 u3 u4 s0 s1 s2 HB3 n4
  go_wp2_with fail
  refine (HR2.out _).mono ?_
  rintro e V2 ⟨rfl, hW⟩
  have c0_2 : V2.cell? ⟨b2, 0, none⟩ = some (.int .i64 o) := by rw [hW]; go_simp
  have y0_2 : V2.frozen? ⟨b2, 0, none⟩ = false := by rw [hW]; go_simp
  have p0_2 : V2.cell? ⟨w.heap.size, 0, none⟩ = some (.int .i64 0) := by rw [hW]; go_simp
  have u0_2 : V2.frozen? ⟨w.heap.size, 0, none⟩ = false := by rw [hW]; go_simp
  have c1_2 : V2.cell? ⟨b2, 1, none⟩ = some (.int .i64 y0) := by rw [hW]; go_simp
  have y1_2 : V2.frozen? ⟨b2, 1, none⟩ = false := by rw [hW]; go_simp
  have p1_2 : V2.cell? ⟨w.heap.size, 1, none⟩ = some (.int .i64 0) := by rw [hW]; go_simp
  have u1_2 : V2.frozen? ⟨w.heap.size, 1, none⟩ = false := by rw [hW]; go_simp
  have c2_2 : V2.cell? ⟨b2, 2, none⟩ = some (.int .i64 y1) := by rw [hW]; go_simp
  have y2_2 : V2.frozen? ⟨b2, 2, none⟩ = false := by rw [hW]; go_simp
  have p2_2 : V2.cell? ⟨w.heap.size, 2, none⟩ = some (.int .i64 0) := by rw [hW]; go_simp
  have u2_2 : V2.frozen? ⟨w.heap.size, 2, none⟩ = false := by rw [hW]; go_simp
  have c3_2 : V2.cell? ⟨b2, 3, none⟩ = some (.int .i64 0) := by rw [hW]; go_simp
  have y3_2 : V2.frozen? ⟨b2, 3, none⟩ = false := by rw [hW]; go_simp
  have p3_2 : V2.cell? ⟨w.heap.size, 3, none⟩ = some (.int .i64 0) := by rw [hW]; go_simp
  have u3_2 : V2.frozen? ⟨w.heap.size, 3, none⟩ = false := by rw [hW]; go_simp
  have c4_2 : V2.cell? ⟨b2, 4, none⟩ = some (.int .i64 g) := by rw [hW]; go_simp
  have y4_2 : V2.frozen? ⟨b2, 4, none⟩ = false := by rw [hW]; go_simp
  have p4_2 : V2.cell? ⟨w.heap.size, 4, none⟩ = some (.int .i64 0) := by rw [hW]; go_simp
  have u4_2 : V2.frozen? ⟨w.heap.size, 4, none⟩ = false := by rw [hW]; go_simp
  have s0_2 : V2.cell? ⟨b1, 0, none⟩ = some (.bool true) := by rw [hW]; go_simp
  have s1_2 : V2.cell? ⟨b1, 1, none⟩ = some (.bool true) := by rw [hW]; go_simp
  have s2_2 : V2.cell? ⟨b1, 2, none⟩ = some (.bool true) := by rw [hW]; go_simp
  have HV2 : Hid (Below w.heap.size w V2) := hide (by rw [hW]; exact HV1.out.setCell (by show w.heap.size ≤ b2; omega) _)
  have n4_2 : b2 < V2.heap.size := by rw [hW]; simpa using n4_1
  clear hW HR2 c0_1 c1_1 c2_1 c3_1 c4_1 y0_1 y1_1 y2_1 y3_1 y4_1 p0_1 p1_1 p2_1 p3_1 p4_1 u0_1 u1_1 u2_1 u3_1 u4_1 s0_1 s1_1 s2_1 HV1 n4_1
  go_wp2
  refine bodyPost_ret (v := .tuple #[inst o y0 y1 y2 g, .bool true]) (by simp [results, Tryz.results77, go_sem, inst, p0_2, p1_2, p2_2, p3_2, p4_2]) rfl ⟨rfl, ?_⟩
  have hb := HV2.out
  clear HV2
  go_grown

set_option maxHeartbeats 400000 in
theorem dec_0_1 (x f g yi y0 y1 y2 : Int) (o : Nat) (w : World) (h0 : 0 ≤ x) (h1 : x ≤ 4294967295) (ho : 1 ≤ o) (ho' : o < 66) (bi : 0 ≤ yi ∧ yi ≤ 63)
    (HO : Hid (∀ w, Laid w → Calls Tryz.prog 103 #[.int .u32 x] w fun e w' => e = .returned (.tuple #[.int .i64 o, .bool true]) ∧ Below w.heap.size w w'))
    (HL : Hid (Laid w))
    (HF : Hid (∀ w, Laid w → Calls Tryz.prog 104 #[.int .i64 o] w fun e w' => e = .returned (.int .i64 f) ∧ w' = w))
    (HS : Hid (∀ w, Calls Tryz.prog 105 #[.int .i64 f] w fun e w' => e = .returned (.agg #[.bool true, .bool true, .bool false]) ∧ w' = w.alloc (.cells #[.bool true, .bool true, .bool false] 142)))
    (HG : Hid (∀ w, Calls Tryz.prog 106 #[.int .i64 f, .int .u32 x] w fun e w' => e = .returned (.int .i64 g) ∧ w' = w))
    (HT : Hid (∀ w, Calls Tryz.prog 107 #[.int .u32 x] w fun e w' => e = .returned (.int .u64 0) ∧ w' = w))
    (HR0 : Hid (∀ w, Calls Tryz.prog 109 #[.int .u32 x, .int .u64 7] w fun e w' => e = .returned (.int .i64 y0) ∧ w' = w))
    (HR1 : Hid (∀ w, Calls Tryz.prog 109 #[.int .u32 x, .int .u64 15] w fun e w' => e = .returned (.int .i64 y1) ∧ w' = w)) :
    Calls Tryz.prog 77 #[.int .u32 x] w fun e w' => e = .returned (.tuple #[inst o y0 y1 0 g, .bool true]) ∧ Below w.heap.size w w' := by
  go_enter Tryz.func77, Tryz.ntmps77
  go_wp2_with fail
  refine (HO.out _ (HL.out.below ((Below.refl _ _).alloc (Nat.le_refl _) _) HL.out.1)).mono ?_
  rintro e W1 ⟨rfl, hB1⟩
  have hlt : w.heap.size < W1.heap.size := by have := hB1.size; simp at this; omega
  have hlt1 : w.heap.size < W1.heap.size + 1 := by omega
  have hlt2 : w.heap.size < W1.heap.size + 1 + 1 := by omega
  have q0 : W1.cell? ⟨w.heap.size, 0, none⟩ = some (.int .i64 0) := (hB1.cell (p := ⟨w.heap.size, 0, none⟩) (by simp)).trans (by simp)
  have q1 : W1.cell? ⟨w.heap.size, 1, none⟩ = some (.int .i64 0) := (hB1.cell (p := ⟨w.heap.size, 1, none⟩) (by simp)).trans (by simp)
  have q2 : W1.cell? ⟨w.heap.size, 2, none⟩ = some (.int .i64 0) := (hB1.cell (p := ⟨w.heap.size, 2, none⟩) (by simp)).trans (by simp)
  have q3 : W1.cell? ⟨w.heap.size, 3, none⟩ = some (.int .i64 0) := (hB1.cell (p := ⟨w.heap.size, 3, none⟩) (by simp)).trans (by simp)
  have q4 : W1.cell? ⟨w.heap.size, 4, none⟩ = some (.int .i64 0) := (hB1.cell (p := ⟨w.heap.size, 4, none⟩) (by simp)).trans (by simp)
  have z : ∀ j, W1.frozen? ⟨w.heap.size, j, none⟩ = false := fun j => (hB1.frozen (p := ⟨w.heap.size, j, none⟩) (by simp)).trans (by simp)
  have z0 := z 0
  have z1 := z 1
  have z2 := z 2
  have z3 := z 3
  have z4 := z 4
  have HB : Hid (Below w.heap.size w W1) := hide (((Below.refl _ w).alloc (Nat.le_refl _) _).trans (hB1.mono (by simp)))
  have HL1 := hide (HL.out.below HB.out HL.out.1)
  clear hB1 z HO HL
  go_wp2_with fail
  refine (HF.out _ HL1.out).mono ?_
  rintro e W ⟨rfl, hW⟩
  rw [hW]
  clear hW W HF HL1
  go_wp2_with fail
  refine (HS.out _).mono ?_
  rintro e W ⟨rfl, hW⟩
  rw [hW]
  clear hW W HS
  go_wp2_with fail
  refine (HG.out _).mono ?_
  rintro e W ⟨rfl, hW⟩
  rw [hW]
  clear hW W HG
  go_wp2_with fail
  refine (HT.out _).mono ?_
  rintro e W3 ⟨rfl, hW⟩
  have c0 : W3.cell? ⟨W1.heap.size + 1 + 1, 0, none⟩ = some (.int .i64 o) := by rw [hW]; go_simp
  have y0' : W3.frozen? ⟨W1.heap.size + 1 + 1, 0, none⟩ = false := by rw [hW]; go_simp
  have p0 : W3.cell? ⟨w.heap.size, 0, none⟩ = some (.int .i64 0) := by rw [hW]; exact cell_alloc (cell_alloc (cell_alloc q0))
  have u0 : W3.frozen? ⟨w.heap.size, 0, none⟩ = false := by rw [hW]; go_simp
  have c1 : W3.cell? ⟨W1.heap.size + 1 + 1, 1, none⟩ = some (.int .i64 0) := by rw [hW]; go_simp
  have y1' : W3.frozen? ⟨W1.heap.size + 1 + 1, 1, none⟩ = false := by rw [hW]; go_simp
  have p1 : W3.cell? ⟨w.heap.size, 1, none⟩ = some (.int .i64 0) := by rw [hW]; exact cell_alloc (cell_alloc (cell_alloc q1))
  have u1 : W3.frozen? ⟨w.heap.size, 1, none⟩ = false := by rw [hW]; go_simp
  have c2 : W3.cell? ⟨W1.heap.size + 1 + 1, 2, none⟩ = some (.int .i64 0) := by rw [hW]; go_simp
  have y2' : W3.frozen? ⟨W1.heap.size + 1 + 1, 2, none⟩ = false := by rw [hW]; go_simp
  have p2 : W3.cell? ⟨w.heap.size, 2, none⟩ = some (.int .i64 0) := by rw [hW]; exact cell_alloc (cell_alloc (cell_alloc q2))
  have u2 : W3.frozen? ⟨w.heap.size, 2, none⟩ = false := by rw [hW]; go_simp
  have c3 : W3.cell? ⟨W1.heap.size + 1 + 1, 3, none⟩ = some (.int .i64 0) := by rw [hW]; go_simp
  have y3' : W3.frozen? ⟨W1.heap.size + 1 + 1, 3, none⟩ = false := by rw [hW]; go_simp
  have p3 : W3.cell? ⟨w.heap.size, 3, none⟩ = some (.int .i64 0) := by rw [hW]; exact cell_alloc (cell_alloc (cell_alloc q3))
  have u3 : W3.frozen? ⟨w.heap.size, 3, none⟩ = false := by rw [hW]; go_simp
  have c4 : W3.cell? ⟨W1.heap.size + 1 + 1, 4, none⟩ = some (.int .i64 g) := by rw [hW]; go_simp
  have y4' : W3.frozen? ⟨W1.heap.size + 1 + 1, 4, none⟩ = false := by rw [hW]; go_simp
  have p4 : W3.cell? ⟨w.heap.size, 4, none⟩ = some (.int .i64 0) := by rw [hW]; exact cell_alloc (cell_alloc (cell_alloc q4))
  have u4 : W3.frozen? ⟨w.heap.size, 4, none⟩ = false := by rw [hW]; go_simp
  have s0 : W3.cell? ⟨W1.heap.size + 1, 0, none⟩ = some (.bool true) := by rw [hW]; go_simp
  have s1 : W3.cell? ⟨W1.heap.size + 1, 1, none⟩ = some (.bool true) := by rw [hW]; go_simp
  have s2 : W3.cell? ⟨W1.heap.size + 1, 2, none⟩ = some (.bool false) := by rw [hW]; go_simp
  have HB3 : Hid (Below w.heap.size w W3) := hide (by rw [hW]; exact ((HB.out.alloc (by omega) _).alloc (by simp; omega) _).alloc (by simp; omega) _)
  have hs3 : W3.heap.size = W1.heap.size + 1 + 1 + 1 := by rw [hW]; simp
  clear hW HT HB q0 q1 q2 q3 q4 z0 z1 z2 z3 z4
  generalize hb2 : W1.heap.size + 1 + 1 = b2 at *
  generalize hb1 : W1.heap.size + 1 = b1 at *
  have n1 : w.heap.size < b2 := by omega
  have n2 : w.heap.size ≠ b2 := by omega
  have n3 : b2 ≠ w.heap.size := by omega
  have n4 : b2 < W3.heap.size := by omega
  have n5 : b1 ≠ b2 := by omega
  have n6 : b2 ≠ b1 := by omega
  clear hlt hlt1 hlt2 hs3 hb1 hb2
  go_wp2_with fail
  refine (HR0.out _).mono ?_
  rintro e W ⟨rfl, hW⟩
  rw [hW]
  clear hW W HR0
  go_wp2_with fail
  refine (HR1.out _).mono ?_
  rintro e V1 ⟨rfl, hW⟩
  have c0_1 : V1.cell? ⟨b2, 0, none⟩ = some (.int .i64 o) := by rw [hW]; go_simp
  have y0_1 : V1.frozen? ⟨b2, 0, none⟩ = false := by rw [hW]; go_simp
  have p0_1 : V1.cell? ⟨w.heap.size, 0, none⟩ = some (.int .i64 0) := by rw [hW]; go_simp
  have u0_1 : V1.frozen? ⟨w.heap.size, 0, none⟩ = false := by rw [hW]; go_simp
  have c1_1 : V1.cell? ⟨b2, 1, none⟩ = some (.int .i64 y0) := by rw [hW]; go_simp
  have y1_1 : V1.frozen? ⟨b2, 1, none⟩ = false := by rw [hW]; go_simp
  have p1_1 : V1.cell? ⟨w.heap.size, 1, none⟩ = some (.int .i64 0) := by rw [hW]; go_simp
  have u1_1 : V1.frozen? ⟨w.heap.size, 1, none⟩ = false := by rw [hW]; go_simp
  have c2_1 : V1.cell? ⟨b2, 2, none⟩ = some (.int .i64 0) := by rw [hW]; go_simp
  have y2_1 : V1.frozen? ⟨b2, 2, none⟩ = false := by rw [hW]; go_simp
  have p2_1 : V1.cell? ⟨w.heap.size, 2, none⟩ = some (.int .i64 0) := by rw [hW]; go_simp
  have u2_1 : V1.frozen? ⟨w.heap.size, 2, none⟩ = false := by rw [hW]; go_simp
  have c3_1 : V1.cell? ⟨b2, 3, none⟩ = some (.int .i64 0) := by rw [hW]; go_simp
  have y3_1 : V1.frozen? ⟨b2, 3, none⟩ = false := by rw [hW]; go_simp
  have p3_1 : V1.cell? ⟨w.heap.size, 3, none⟩ = some (.int .i64 0) := by rw [hW]; go_simp
  have u3_1 : V1.frozen? ⟨w.heap.size, 3, none⟩ = false := by rw [hW]; go_simp
  have c4_1 : V1.cell? ⟨b2, 4, none⟩ = some (.int .i64 g) := by rw [hW]; go_simp
  have y4_1 : V1.frozen? ⟨b2, 4, none⟩ = false := by rw [hW]; go_simp
  have p4_1 : V1.cell? ⟨w.heap.size, 4, none⟩ = some (.int .i64 0) := by rw [hW]; go_simp
  have u4_1 : V1.frozen? ⟨w.heap.size, 4, none⟩ = false := by rw [hW]; go_simp
  have s0_1 : V1.cell? ⟨b1, 0, none⟩ = some (.bool true) := by rw [hW]; go_simp
  have s1_1 : V1.cell? ⟨b1, 1, none⟩ = some (.bool true) := by rw [hW]; go_simp
  have s2_1 : V1.cell? ⟨b1, 2, none⟩ = some (.bool false) := by rw [hW]; go_simp
  have HV1 : Hid (Below w.heap.size w V1) := hide (by rw [hW]; exact HB3.out.setCell (by show w.heap.size ≤ b2; omega) _)
  have n4_1 : b2 < V1.heap.size := by rw [hW]; simpa using n4
  clear hW HR1 c0 c1 c2 c3 c4 y0' y1' y2' y3' y4' p0 p1 p2 p3 p4 u0 u1 u2 u3 u4 s0 s1 s2 HB3 n4
  go_wp2
  refine bodyPost_ret (v := .tuple #[inst o y0 y1 0 g, .bool true]) (by simp [results, Tryz.results77, go_sem, inst, p0_1, p1_1, p2_1, p3_1, p4_1]) rfl ⟨rfl, ?_⟩
  have hb := HV1.out
  clear HV1
  go_grown

set_option maxHeartbeats 400000 in
theorem dec_0_2 (x f g yi y0 y1 y2 : Int) (o : Nat) (w : World) (h0 : 0 ≤ x) (h1 : x ≤ 4294967295) (ho : 1 ≤ o) (ho' : o < 66) (bi : 0 ≤ yi ∧ yi ≤ 63)
    (HO : Hid (∀ w, Laid w → Calls Tryz.prog 103 #[.int .u32 x] w fun e w' => e = .returned (.tuple #[.int .i64 o, .bool true]) ∧ Below w.heap.size w w'))
    (HL : Hid (Laid w))
    (HF : Hid (∀ w, Laid w → Calls Tryz.prog 104 #[.int .i64 o] w fun e w' => e = .returned (.int .i64 f) ∧ w' = w))
    (HS : Hid (∀ w, Calls Tryz.prog 105 #[.int .i64 f] w fun e w' => e = .returned (.agg #[.bool false, .bool true, .bool true]) ∧ w' = w.alloc (.cells #[.bool false, .bool true, .bool true] 142)))
    (HG : Hid (∀ w, Calls Tryz.prog 106 #[.int .i64 f, .int .u32 x] w fun e w' => e = .returned (.int .i64 g) ∧ w' = w))
    (HT : Hid (∀ w, Calls Tryz.prog 107 #[.int .u32 x] w fun e w' => e = .returned (.int .u64 0) ∧ w' = w))
    (HR1 : Hid (∀ w, Calls Tryz.prog 109 #[.int .u32 x, .int .u64 15] w fun e w' => e = .returned (.int .i64 y1) ∧ w' = w))
    (HR2 : Hid (∀ w, Calls Tryz.prog 109 #[.int .u32 x, .int .u64 20] w fun e w' => e = .returned (.int .i64 y2) ∧ w' = w)) :
    Calls Tryz.prog 77 #[.int .u32 x] w fun e w' => e = .returned (.tuple #[inst o 0 y1 y2 g, .bool true]) ∧ Below w.heap.size w w' := by
  go_enter Tryz.func77, Tryz.ntmps77
  go_wp2_with fail
  refine (HO.out _ (HL.out.below ((Below.refl _ _).alloc (Nat.le_refl _) _) HL.out.1)).mono ?_
  rintro e W1 ⟨rfl, hB1⟩
  have hlt : w.heap.size < W1.heap.size := by have := hB1.size; simp at this; omega
  have hlt1 : w.heap.size < W1.heap.size + 1 := by omega
  have hlt2 : w.heap.size < W1.heap.size + 1 + 1 := by omega
  have q0 : W1.cell? ⟨w.heap.size, 0, none⟩ = some (.int .i64 0) := (hB1.cell (p := ⟨w.heap.size, 0, none⟩) (by simp)).trans (by simp)
  have q1 : W1.cell? ⟨w.heap.size, 1, none⟩ = some (.int .i64 0) := (hB1.cell (p := ⟨w.heap.size, 1, none⟩) (by simp)).trans (by simp)
  have q2 : W1.cell? ⟨w.heap.size, 2, none⟩ = some (.int .i64 0) := (hB1.cell (p := ⟨w.heap.size, 2, none⟩) (by simp)).trans (by simp)
  have q3 : W1.cell? ⟨w.heap.size, 3, none⟩ = some (.int .i64 0) := (hB1.cell (p := ⟨w.heap.size, 3, none⟩) (by simp)).trans (by simp)
  have q4 : W1.cell? ⟨w.heap.size, 4, none⟩ = some (.int .i64 0) := (hB1.cell (p := ⟨w.heap.size, 4, none⟩) (by simp)).trans (by simp)
  have z : ∀ j, W1.frozen? ⟨w.heap.size, j, none⟩ = false := fun j => (hB1.frozen (p := ⟨w.heap.size, j, none⟩) (by simp)).trans (by simp)
  have z0 := z 0
  have z1 := z 1
  have z2 := z 2
  have z3 := z 3
  have z4 := z 4
  have HB : Hid (Below w.heap.size w W1) := hide (((Below.refl _ w).alloc (Nat.le_refl _) _).trans (hB1.mono (by simp)))
  have HL1 := hide (HL.out.below HB.out HL.out.1)
  clear hB1 z HO HL
  go_wp2_with fail
  refine (HF.out _ HL1.out).mono ?_
  rintro e W ⟨rfl, hW⟩
  rw [hW]
  clear hW W HF HL1
  go_wp2_with fail
  refine (HS.out _).mono ?_
  rintro e W ⟨rfl, hW⟩
  rw [hW]
  clear hW W HS
  go_wp2_with fail
  refine (HG.out _).mono ?_
  rintro e W ⟨rfl, hW⟩
  rw [hW]
  clear hW W HG
  go_wp2_with fail
  refine (HT.out _).mono ?_
  rintro e W3 ⟨rfl, hW⟩
  have c0 : W3.cell? ⟨W1.heap.size + 1 + 1, 0, none⟩ = some (.int .i64 o) := by rw [hW]; go_simp
  have y0' : W3.frozen? ⟨W1.heap.size + 1 + 1, 0, none⟩ = false := by rw [hW]; go_simp
  have p0 : W3.cell? ⟨w.heap.size, 0, none⟩ = some (.int .i64 0) := by rw [hW]; exact cell_alloc (cell_alloc (cell_alloc q0))
  have u0 : W3.frozen? ⟨w.heap.size, 0, none⟩ = false := by rw [hW]; go_simp
  have c1 : W3.cell? ⟨W1.heap.size + 1 + 1, 1, none⟩ = some (.int .i64 0) := by rw [hW]; go_simp
  have y1' : W3.frozen? ⟨W1.heap.size + 1 + 1, 1, none⟩ = false := by rw [hW]; go_simp
  have p1 : W3.cell? ⟨w.heap.size, 1, none⟩ = some (.int .i64 0) := by rw [hW]; exact cell_alloc (cell_alloc (cell_alloc q1))
  have u1 : W3.frozen? ⟨w.heap.size, 1, none⟩ = false := by rw [hW]; go_simp
  have c2 : W3.cell? ⟨W1.heap.size + 1 + 1, 2, none⟩ = some (.int .i64 0) := by rw [hW]; go_simp
  have y2' : W3.frozen? ⟨W1.heap.size + 1 + 1, 2, none⟩ = false := by rw [hW]; go_simp
  have p2 : W3.cell? ⟨w.heap.size, 2, none⟩ = some (.int .i64 0) := by rw [hW]; exact cell_alloc (cell_alloc (cell_alloc q2))
  have u2 : W3.frozen? ⟨w.heap.size, 2, none⟩ = false := by rw [hW]; go_simp
  have c3 : W3.cell? ⟨W1.heap.size + 1 + 1, 3, none⟩ = some (.int .i64 0) := by rw [hW]; go_simp
  have y3' : W3.frozen? ⟨W1.heap.size + 1 + 1, 3, none⟩ = false := by rw [hW]; go_simp
  have p3 : W3.cell? ⟨w.heap.size, 3, none⟩ = some (.int .i64 0) := by rw [hW]; exact cell_alloc (cell_alloc (cell_alloc q3))
  have u3 : W3.frozen? ⟨w.heap.size, 3, none⟩ = false := by rw [hW]; go_simp
  have c4 : W3.cell? ⟨W1.heap.size + 1 + 1, 4, none⟩ = some (.int .i64 g) := by rw [hW]; go_simp
  have y4' : W3.frozen? ⟨W1.heap.size + 1 + 1, 4, none⟩ = false := by rw [hW]; go_simp
  have p4 : W3.cell? ⟨w.heap.size, 4, none⟩ = some (.int .i64 0) := by rw [hW]; exact cell_alloc (cell_alloc (cell_alloc q4))
  have u4 : W3.frozen? ⟨w.heap.size, 4, none⟩ = false := by rw [hW]; go_simp
  have s0 : W3.cell? ⟨W1.heap.size + 1, 0, none⟩ = some (.bool false) := by rw [hW]; go_simp
  have s1 : W3.cell? ⟨W1.heap.size + 1, 1, none⟩ = some (.bool true) := by rw [hW]; go_simp
  have s2 : W3.cell? ⟨W1.heap.size + 1, 2, none⟩ = some (.bool true) := by rw [hW]; go_simp
  have HB3 : Hid (Below w.heap.size w W3) := hide (by rw [hW]; exact ((HB.out.alloc (by omega) _).alloc (by simp; omega) _).alloc (by simp; omega) _)
  have hs3 : W3.heap.size = W1.heap.size + 1 + 1 + 1 := by rw [hW]; simp
  clear hW HT HB q0 q1 q2 q3 q4 z0 z1 z2 z3 z4
  generalize hb2 : W1.heap.size + 1 + 1 = b2 at *
  generalize hb1 : W1.heap.size + 1 = b1 at *
  have n1 : w.heap.size < b2 := by omega
  have n2 : w.heap.size ≠ b2 := by omega
  have n3 : b2 ≠ w.heap.size := by omega
  have n4 : b2 < W3.heap.size := by omega
  have n5 : b1 ≠ b2 := by omega
  have n6 : b2 ≠ b1 := by omega
  clear hlt hlt1 hlt2 hs3 hb1 hb2
  go_wp2_with fail
  refine (HR1.out _).mono ?_
  rintro e W ⟨rfl, hW⟩
  rw [hW]
  clear hW W HR1
  go_wp2_with fail
  refine (HR2.out _).mono ?_
  rintro e V1 ⟨rfl, hW⟩
  have c0_1 : V1.cell? ⟨b2, 0, none⟩ = some (.int .i64 o) := by rw [hW]; go_simp
  have y0_1 : V1.frozen? ⟨b2, 0, none⟩ = false := by rw [hW]; go_simp
  have p0_1 : V1.cell? ⟨w.heap.size, 0, none⟩ = some (.int .i64 0) := by rw [hW]; go_simp
  have u0_1 : V1.frozen? ⟨w.heap.size, 0, none⟩ = false := by rw [hW]; go_simp
  have c1_1 : V1.cell? ⟨b2, 1, none⟩ = some (.int .i64 0) := by rw [hW]; go_simp
  have y1_1 : V1.frozen? ⟨b2, 1, none⟩ = false := by rw [hW]; go_simp
  have p1_1 : V1.cell? ⟨w.heap.size, 1, none⟩ = some (.int .i64 0) := by rw [hW]; go_simp
  have u1_1 : V1.frozen? ⟨w.heap.size, 1, none⟩ = false := by rw [hW]; go_simp
  have c2_1 : V1.cell? ⟨b2, 2, none⟩ = some (.int .i64 y1) := by rw [hW]; go_simp
  have y2_1 : V1.frozen? ⟨b2, 2, none⟩ = false := by rw [hW]; go_simp
  have p2_1 : V1.cell? ⟨w.heap.size, 2, none⟩ = some (.int .i64 0) := by rw [hW]; go_simp
  have u2_1 : V1.frozen? ⟨w.heap.size, 2, none⟩ = false := by rw [hW]; go_simp
  have c3_1 : V1.cell? ⟨b2, 3, none⟩ = some (.int .i64 0) := by rw [hW]; go_simp
  have y3_1 : V1.frozen? ⟨b2, 3, none⟩ = false := by rw [hW]; go_simp
  have p3_1 : V1.cell? ⟨w.heap.size, 3, none⟩ = some (.int .i64 0) := by rw [hW]; go_simp
  have u3_1 : V1.frozen? ⟨w.heap.size, 3, none⟩ = false := by rw [hW]; go_simp
  have c4_1 : V1.cell? ⟨b2, 4, none⟩ = some (.int .i64 g) := by rw [hW]; go_simp
  have y4_1 : V1.frozen? ⟨b2, 4, none⟩ = false := by rw [hW]; go_simp
  have p4_1 : V1.cell? ⟨w.heap.size, 4, none⟩ = some (.int .i64 0) := by rw [hW]; go_simp
  have u4_1 : V1.frozen? ⟨w.heap.size, 4, none⟩ = false := by rw [hW]; go_simp
  have s0_1 : V1.cell? ⟨b1, 0, none⟩ = some (.bool false) := by rw [hW]; go_simp
  have s1_1 : V1.cell? ⟨b1, 1, none⟩ = some (.bool true) := by rw [hW]; go_simp
  have s2_1 : V1.cell? ⟨b1, 2, none⟩ = some (.bool true) := by rw [hW]; go_simp
  have HV1 : Hid (Below w.heap.size w V1) := hide (by rw [hW]; exact HB3.out.setCell (by show w.heap.size ≤ b2; omega) _)
  have n4_1 : b2 < V1.heap.size := by rw [hW]; simpa using n4
  clear hW HR2 c0 c1 c2 c3 c4 y0' y1' y2' y3' y4' p0 p1 p2 p3 p4 u0 u1 u2 u3 u4 s0 s1 s2 HB3 n4
  go_wp2
  refine bodyPost_ret (v := .tuple #[inst o 0 y1 y2 g, .bool true]) (by simp [results, Tryz.results77, go_sem, inst, p0_1, p1_1, p2_1, p3_1, p4_1]) rfl ⟨rfl, ?_⟩
  have hb := HV1.out
  clear HV1
  go_grown

set_option maxHeartbeats 400000 in
theorem dec_0_3 (x f g yi y0 y1 y2 : Int) (o : Nat) (w : World) (h0 : 0 ≤ x) (h1 : x ≤ 4294967295) (ho : 1 ≤ o) (ho' : o < 66) (bi : 0 ≤ yi ∧ yi ≤ 63)
    (HO : Hid (∀ w, Laid w → Calls Tryz.prog 103 #[.int .u32 x] w fun e w' => e = .returned (.tuple #[.int .i64 o, .bool true]) ∧ Below w.heap.size w w'))
    (HL : Hid (Laid w))
    (HF : Hid (∀ w, Laid w → Calls Tryz.prog 104 #[.int .i64 o] w fun e w' => e = .returned (.int .i64 f) ∧ w' = w))
    (HS : Hid (∀ w, Calls Tryz.prog 105 #[.int .i64 f] w fun e w' => e = .returned (.agg #[.bool true, .bool false, .bool false]) ∧ w' = w.alloc (.cells #[.bool true, .bool false, .bool false] 142)))
    (HG : Hid (∀ w, Calls Tryz.prog 106 #[.int .i64 f, .int .u32 x] w fun e w' => e = .returned (.int .i64 g) ∧ w' = w))
    (HT : Hid (∀ w, Calls Tryz.prog 107 #[.int .u32 x] w fun e w' => e = .returned (.int .u64 0) ∧ w' = w))
    (HR0 : Hid (∀ w, Calls Tryz.prog 109 #[.int .u32 x, .int .u64 7] w fun e w' => e = .returned (.int .i64 y0) ∧ w' = w)) :
    Calls Tryz.prog 77 #[.int .u32 x] w fun e w' => e = .returned (.tuple #[inst o y0 0 0 g, .bool true]) ∧ Below w.heap.size w w' := by
  go_enter Tryz.func77, Tryz.ntmps77
  go_wp2_with fail
  refine (HO.out _ (HL.out.below ((Below.refl _ _).alloc (Nat.le_refl _) _) HL.out.1)).mono ?_
  rintro e W1 ⟨rfl, hB1⟩
  have hlt : w.heap.size < W1.heap.size := by have := hB1.size; simp at this; omega
  have hlt1 : w.heap.size < W1.heap.size + 1 := by omega
  have hlt2 : w.heap.size < W1.heap.size + 1 + 1 := by omega
  have q0 : W1.cell? ⟨w.heap.size, 0, none⟩ = some (.int .i64 0) := (hB1.cell (p := ⟨w.heap.size, 0, none⟩) (by simp)).trans (by simp)
  have q1 : W1.cell? ⟨w.heap.size, 1, none⟩ = some (.int .i64 0) := (hB1.cell (p := ⟨w.heap.size, 1, none⟩) (by simp)).trans (by simp)
  have q2 : W1.cell? ⟨w.heap.size, 2, none⟩ = some (.int .i64 0) := (hB1.cell (p := ⟨w.heap.size, 2, none⟩) (by simp)).trans (by simp)
  have q3 : W1.cell? ⟨w.heap.size, 3, none⟩ = some (.int .i64 0) := (hB1.cell (p := ⟨w.heap.size, 3, none⟩) (by simp)).trans (by simp)
  have q4 : W1.cell? ⟨w.heap.size, 4, none⟩ = some (.int .i64 0) := (hB1.cell (p := ⟨w.heap.size, 4, none⟩) (by simp)).trans (by simp)
  have z : ∀ j, W1.frozen? ⟨w.heap.size, j, none⟩ = false := fun j => (hB1.frozen (p := ⟨w.heap.size, j, none⟩) (by simp)).trans (by simp)
  have z0 := z 0
  have z1 := z 1
  have z2 := z 2
  have z3 := z 3
  have z4 := z 4
  have HB : Hid (Below w.heap.size w W1) := hide (((Below.refl _ w).alloc (Nat.le_refl _) _).trans (hB1.mono (by simp)))
  have HL1 := hide (HL.out.below HB.out HL.out.1)
  clear hB1 z HO HL
  go_wp2_with fail
  refine (HF.out _ HL1.out).mono ?_
  rintro e W ⟨rfl, hW⟩
  rw [hW]
  clear hW W HF HL1
  go_wp2_with fail
  refine (HS.out _).mono ?_
  rintro e W ⟨rfl, hW⟩
  rw [hW]
  clear hW W HS
  go_wp2_with fail
  refine (HG.out _).mono ?_
  rintro e W ⟨rfl, hW⟩
  rw [hW]
  clear hW W HG
  go_wp2_with fail
  refine (HT.out _).mono ?_
  rintro e W3 ⟨rfl, hW⟩
  have c0 : W3.cell? ⟨W1.heap.size + 1 + 1, 0, none⟩ = some (.int .i64 o) := by rw [hW]; go_simp
  have y0' : W3.frozen? ⟨W1.heap.size + 1 + 1, 0, none⟩ = false := by rw [hW]; go_simp
  have p0 : W3.cell? ⟨w.heap.size, 0, none⟩ = some (.int .i64 0) := by rw [hW]; exact cell_alloc (cell_alloc (cell_alloc q0))
  have u0 : W3.frozen? ⟨w.heap.size, 0, none⟩ = false := by rw [hW]; go_simp
  have c1 : W3.cell? ⟨W1.heap.size + 1 + 1, 1, none⟩ = some (.int .i64 0) := by rw [hW]; go_simp
  have y1' : W3.frozen? ⟨W1.heap.size + 1 + 1, 1, none⟩ = false := by rw [hW]; go_simp
  have p1 : W3.cell? ⟨w.heap.size, 1, none⟩ = some (.int .i64 0) := by rw [hW]; exact cell_alloc (cell_alloc (cell_alloc q1))
  have u1 : W3.frozen? ⟨w.heap.size, 1, none⟩ = false := by rw [hW]; go_simp
  have c2 : W3.cell? ⟨W1.heap.size + 1 + 1, 2, none⟩ = some (.int .i64 0) := by rw [hW]; go_simp
  have y2' : W3.frozen? ⟨W1.heap.size + 1 + 1, 2, none⟩ = false := by rw [hW]; go_simp
  have p2 : W3.cell? ⟨w.heap.size, 2, none⟩ = some (.int .i64 0) := by rw [hW]; exact cell_alloc (cell_alloc (cell_alloc q2))
  have u2 : W3.frozen? ⟨w.heap.size, 2, none⟩ = false := by rw [hW]; go_simp
  have c3 : W3.cell? ⟨W1.heap.size + 1 + 1, 3, none⟩ = some (.int .i64 0) := by rw [hW]; go_simp
  have y3' : W3.frozen? ⟨W1.heap.size + 1 + 1, 3, none⟩ = false := by rw [hW]; go_simp
  have p3 : W3.cell? ⟨w.heap.size, 3, none⟩ = some (.int .i64 0) := by rw [hW]; exact cell_alloc (cell_alloc (cell_alloc q3))
  have u3 : W3.frozen? ⟨w.heap.size, 3, none⟩ = false := by rw [hW]; go_simp
  have c4 : W3.cell? ⟨W1.heap.size + 1 + 1, 4, none⟩ = some (.int .i64 g) := by rw [hW]; go_simp
  have y4' : W3.frozen? ⟨W1.heap.size + 1 + 1, 4, none⟩ = false := by rw [hW]; go_simp
  have p4 : W3.cell? ⟨w.heap.size, 4, none⟩ = some (.int .i64 0) := by rw [hW]; exact cell_alloc (cell_alloc (cell_alloc q4))
  have u4 : W3.frozen? ⟨w.heap.size, 4, none⟩ = false := by rw [hW]; go_simp
  have s0 : W3.cell? ⟨W1.heap.size + 1, 0, none⟩ = some (.bool true) := by rw [hW]; go_simp
  have s1 : W3.cell? ⟨W1.heap.size + 1, 1, none⟩ = some (.bool false) := by rw [hW]; go_simp
  have s2 : W3.cell? ⟨W1.heap.size + 1, 2, none⟩ = some (.bool false) := by rw [hW]; go_simp
  have HB3 : Hid (Below w.heap.size w W3) := hide (by rw [hW]; exact ((HB.out.alloc (by omega) _).alloc (by simp; omega) _).alloc (by simp; omega) _)
  have hs3 : W3.heap.size = W1.heap.size + 1 + 1 + 1 := by rw [hW]; simp
  clear hW HT HB q0 q1 q2 q3 q4 z0 z1 z2 z3 z4
  generalize hb2 : W1.heap.size + 1 + 1 = b2 at *
  generalize hb1 : W1.heap.size + 1 = b1 at *
  have n1 : w.heap.size < b2 := by omega
  have n2 : w.heap.size ≠ b2 := by omega
  have n3 : b2 ≠ w.heap.size := by omega
  have n4 : b2 < W3.heap.size := by omega
  have n5 : b1 ≠ b2 := by omega
  have n6 : b2 ≠ b1 := by omega
  clear hlt hlt1 hlt2 hs3 hb1 hb2
  go_wp2_with fail
  refine (HR0.out _).mono ?_
  rintro e W ⟨rfl, hW⟩
  rw [hW]
  clear hW W HR0
  go_wp2
  refine bodyPost_ret (v := .tuple #[inst o y0 0 0 g, .bool true]) (by simp [results, Tryz.results77, go_sem, inst, p0, p1, p2, p3, p4]) rfl ⟨rfl, ?_⟩
  have hb := HB3.out
  clear HB3
  go_grown

set_option maxHeartbeats 400000 in
theorem dec_0_4 (x f g yi y0 y1 y2 : Int) (o : Nat) (w : World) (h0 : 0 ≤ x) (h1 : x ≤ 4294967295) (ho : 1 ≤ o) (ho' : o < 66) (bi : 0 ≤ yi ∧ yi ≤ 63)
    (HO : Hid (∀ w, Laid w → Calls Tryz.prog 103 #[.int .u32 x] w fun e w' => e = .returned (.tuple #[.int .i64 o, .bool true]) ∧ Below w.heap.size w w'))
    (HL : Hid (Laid w))
    (HF : Hid (∀ w, Laid w → Calls Tryz.prog 104 #[.int .i64 o] w fun e w' => e = .returned (.int .i64 f) ∧ w' = w))
    (HS : Hid (∀ w, Calls Tryz.prog 105 #[.int .i64 f] w fun e w' => e = .returned (.agg #[.bool false, .bool false, .bool false]) ∧ w' = w.alloc (.cells #[.bool false, .bool false, .bool false] 142)))
    (HG : Hid (∀ w, Calls Tryz.prog 106 #[.int .i64 f, .int .u32 x] w fun e w' => e = .returned (.int .i64 g) ∧ w' = w))
    (HT : Hid (∀ w, Calls Tryz.prog 107 #[.int .u32 x] w fun e w' => e = .returned (.int .u64 0) ∧ w' = w)) :
    Calls Tryz.prog 77 #[.int .u32 x] w fun e w' => e = .returned (.tuple #[inst o 0 0 0 g, .bool true]) ∧ Below w.heap.size w w' := by
  go_enter Tryz.func77, Tryz.ntmps77
  go_wp2_with fail
  refine (HO.out _ (HL.out.below ((Below.refl _ _).alloc (Nat.le_refl _) _) HL.out.1)).mono ?_
  rintro e W1 ⟨rfl, hB1⟩
  have hlt : w.heap.size < W1.heap.size := by have := hB1.size; simp at this; omega
  have hlt1 : w.heap.size < W1.heap.size + 1 := by omega
  have hlt2 : w.heap.size < W1.heap.size + 1 + 1 := by omega
  have q0 : W1.cell? ⟨w.heap.size, 0, none⟩ = some (.int .i64 0) := (hB1.cell (p := ⟨w.heap.size, 0, none⟩) (by simp)).trans (by simp)
  have q1 : W1.cell? ⟨w.heap.size, 1, none⟩ = some (.int .i64 0) := (hB1.cell (p := ⟨w.heap.size, 1, none⟩) (by simp)).trans (by simp)
  have q2 : W1.cell? ⟨w.heap.size, 2, none⟩ = some (.int .i64 0) := (hB1.cell (p := ⟨w.heap.size, 2, none⟩) (by simp)).trans (by simp)
  have q3 : W1.cell? ⟨w.heap.size, 3, none⟩ = some (.int .i64 0) := (hB1.cell (p := ⟨w.heap.size, 3, none⟩) (by simp)).trans (by simp)
  have q4 : W1.cell? ⟨w.heap.size, 4, none⟩ = some (.int .i64 0) := (hB1.cell (p := ⟨w.heap.size, 4, none⟩) (by simp)).trans (by simp)
  have z : ∀ j, W1.frozen? ⟨w.heap.size, j, none⟩ = false := fun j => (hB1.frozen (p := ⟨w.heap.size, j, none⟩) (by simp)).trans (by simp)
  have z0 := z 0
  have z1 := z 1
  have z2 := z 2
  have z3 := z 3
  have z4 := z 4
  have HB : Hid (Below w.heap.size w W1) := hide (((Below.refl _ w).alloc (Nat.le_refl _) _).trans (hB1.mono (by simp)))
  have HL1 := hide (HL.out.below HB.out HL.out.1)
  clear hB1 z HO HL
  go_wp2_with fail
  refine (HF.out _ HL1.out).mono ?_
  rintro e W ⟨rfl, hW⟩
  rw [hW]
  clear hW W HF HL1
  go_wp2_with fail
  refine (HS.out _).mono ?_
  rintro e W ⟨rfl, hW⟩
  rw [hW]
  clear hW W HS
  go_wp2_with fail
  refine (HG.out _).mono ?_
  rintro e W ⟨rfl, hW⟩
  rw [hW]
  clear hW W HG
  go_wp2_with fail
  refine (HT.out _).mono ?_
  rintro e W3 ⟨rfl, hW⟩
  have c0 : W3.cell? ⟨W1.heap.size + 1 + 1, 0, none⟩ = some (.int .i64 o) := by rw [hW]; go_simp
  have y0' : W3.frozen? ⟨W1.heap.size + 1 + 1, 0, none⟩ = false := by rw [hW]; go_simp
  have p0 : W3.cell? ⟨w.heap.size, 0, none⟩ = some (.int .i64 0) := by rw [hW]; exact cell_alloc (cell_alloc (cell_alloc q0))
  have u0 : W3.frozen? ⟨w.heap.size, 0, none⟩ = false := by rw [hW]; go_simp
  have c1 : W3.cell? ⟨W1.heap.size + 1 + 1, 1, none⟩ = some (.int .i64 0) := by rw [hW]; go_simp
  have y1' : W3.frozen? ⟨W1.heap.size + 1 + 1, 1, none⟩ = false := by rw [hW]; go_simp
  have p1 : W3.cell? ⟨w.heap.size, 1, none⟩ = some (.int .i64 0) := by rw [hW]; exact cell_alloc (cell_alloc (cell_alloc q1))
  have u1 : W3.frozen? ⟨w.heap.size, 1, none⟩ = false := by rw [hW]; go_simp
  have c2 : W3.cell? ⟨W1.heap.size + 1 + 1, 2, none⟩ = some (.int .i64 0) := by rw [hW]; go_simp
  have y2' : W3.frozen? ⟨W1.heap.size + 1 + 1, 2, none⟩ = false := by rw [hW]; go_simp
  have p2 : W3.cell? ⟨w.heap.size, 2, none⟩ = some (.int .i64 0) := by rw [hW]; exact cell_alloc (cell_alloc (cell_alloc q2))
  have u2 : W3.frozen? ⟨w.heap.size, 2, none⟩ = false := by rw [hW]; go_simp
  have c3 : W3.cell? ⟨W1.heap.size + 1 + 1, 3, none⟩ = some (.int .i64 0) := by rw [hW]; go_simp
  have y3' : W3.frozen? ⟨W1.heap.size + 1 + 1, 3, none⟩ = false := by rw [hW]; go_simp
  have p3 : W3.cell? ⟨w.heap.size, 3, none⟩ = some (.int .i64 0) := by rw [hW]; exact cell_alloc (cell_alloc (cell_alloc q3))
  have u3 : W3.frozen? ⟨w.heap.size, 3, none⟩ = false := by rw [hW]; go_simp
  have c4 : W3.cell? ⟨W1.heap.size + 1 + 1, 4, none⟩ = some (.int .i64 g) := by rw [hW]; go_simp
  have y4' : W3.frozen? ⟨W1.heap.size + 1 + 1, 4, none⟩ = false := by rw [hW]; go_simp
  have p4 : W3.cell? ⟨w.heap.size, 4, none⟩ = some (.int .i64 0) := by rw [hW]; exact cell_alloc (cell_alloc (cell_alloc q4))
  have u4 : W3.frozen? ⟨w.heap.size, 4, none⟩ = false := by rw [hW]; go_simp
  have s0 : W3.cell? ⟨W1.heap.size + 1, 0, none⟩ = some (.bool false) := by rw [hW]; go_simp
  have s1 : W3.cell? ⟨W1.heap.size + 1, 1, none⟩ = some (.bool false) := by rw [hW]; go_simp
  have s2 : W3.cell? ⟨W1.heap.size + 1, 2, none⟩ = some (.bool false) := by rw [hW]; go_simp
  have HB3 : Hid (Below w.heap.size w W3) := hide (by rw [hW]; exact ((HB.out.alloc (by omega) _).alloc (by simp; omega) _).alloc (by simp; omega) _)
  have hs3 : W3.heap.size = W1.heap.size + 1 + 1 + 1 := by rw [hW]; simp
  clear hW HT HB q0 q1 q2 q3 q4 z0 z1 z2 z3 z4
  generalize hb2 : W1.heap.size + 1 + 1 = b2 at *
  generalize hb1 : W1.heap.size + 1 = b1 at *
  have n1 : w.heap.size < b2 := by omega
  have n2 : w.heap.size ≠ b2 := by omega
  have n3 : b2 ≠ w.heap.size := by omega
  have n4 : b2 < W3.heap.size := by omega
  have n5 : b1 ≠ b2 := by omega
  have n6 : b2 ≠ b1 := by omega
  clear hlt hlt1 hlt2 hs3 hb1 hb2
  go_wp2
  refine bodyPost_ret (v := .tuple #[inst o 0 0 0 g, .bool true]) (by simp [results, Tryz.results77, go_sem, inst, p0, p1, p2, p3, p4]) rfl ⟨rfl, ?_⟩
  have hb := HB3.out
  clear HB3
  go_grown

set_option maxHeartbeats 400000 in
theorem dec_5_1 (x f g yi y0 y1 y2 : Int) (o : Nat) (w : World) (h0 : 0 ≤ x) (h1 : x ≤ 4294967295) (ho : 1 ≤ o) (ho' : o < 66) (bi : 0 ≤ yi ∧ yi ≤ 63)
    (HO : Hid (∀ w, Laid w → Calls Tryz.prog 103 #[.int .u32 x] w fun e w' => e = .returned (.tuple #[.int .i64 o, .bool true]) ∧ Below w.heap.size w w'))
    (HL : Hid (Laid w))
    (HF : Hid (∀ w, Laid w → Calls Tryz.prog 104 #[.int .i64 o] w fun e w' => e = .returned (.int .i64 f) ∧ w' = w))
    (HS : Hid (∀ w, Calls Tryz.prog 105 #[.int .i64 f] w fun e w' => e = .returned (.agg #[.bool true, .bool true, .bool false]) ∧ w' = w.alloc (.cells #[.bool true, .bool true, .bool false] 142)))
    (HG : Hid (∀ w, Calls Tryz.prog 106 #[.int .i64 f, .int .u32 x] w fun e w' => e = .returned (.int .i64 g) ∧ w' = w))
    (HT : Hid (∀ w, Calls Tryz.prog 107 #[.int .u32 x] w fun e w' => e = .returned (.int .u64 5) ∧ w' = w))
    (HI : Hid (∀ w, Calls Tryz.prog 108 #[.int .u32 x, .int .u64 20, .int .u64 5] w fun e w' => e = .returned (.int .u32 yi) ∧ w' = w))
    (HR0 : Hid (∀ w, Calls Tryz.prog 109 #[.int .u32 x, .int .u64 7] w fun e w' => e = .returned (.int .i64 y0) ∧ w' = w))
    (HR1 : Hid (∀ w, Calls Tryz.prog 109 #[.int .u32 x, .int .u64 15] w fun e w' => e = .returned (.int .i64 y1) ∧ w' = w)) :
    Calls Tryz.prog 77 #[.int .u32 x] w fun e w' => e = .returned (.tuple #[inst o y0 y1 0 yi, .bool true]) ∧ Below w.heap.size w w' := by
  go_enter Tryz.func77, Tryz.ntmps77
  go_wp2_with fail
  refine (HO.out _ (HL.out.below ((Below.refl _ _).alloc (Nat.le_refl _) _) HL.out.1)).mono ?_
  rintro e W1 ⟨rfl, hB1⟩
  have hlt : w.heap.size < W1.heap.size := by have := hB1.size; simp at this; omega
  have hlt1 : w.heap.size < W1.heap.size + 1 := by omega
  have hlt2 : w.heap.size < W1.heap.size + 1 + 1 := by omega
  have q0 : W1.cell? ⟨w.heap.size, 0, none⟩ = some (.int .i64 0) := (hB1.cell (p := ⟨w.heap.size, 0, none⟩) (by simp)).trans (by simp)
  have q1 : W1.cell? ⟨w.heap.size, 1, none⟩ = some (.int .i64 0) := (hB1.cell (p := ⟨w.heap.size, 1, none⟩) (by simp)).trans (by simp)
  have q2 : W1.cell? ⟨w.heap.size, 2, none⟩ = some (.int .i64 0) := (hB1.cell (p := ⟨w.heap.size, 2, none⟩) (by simp)).trans (by simp)
  have q3 : W1.cell? ⟨w.heap.size, 3, none⟩ = some (.int .i64 0) := (hB1.cell (p := ⟨w.heap.size, 3, none⟩) (by simp)).trans (by simp)
  have q4 : W1.cell? ⟨w.heap.size, 4, none⟩ = some (.int .i64 0) := (hB1.cell (p := ⟨w.heap.size, 4, none⟩) (by simp)).trans (by simp)
  have z : ∀ j, W1.frozen? ⟨w.heap.size, j, none⟩ = false := fun j => (hB1.frozen (p := ⟨w.heap.size, j, none⟩) (by simp)).trans (by simp)
  have z0 := z 0
  have z1 := z 1
  have z2 := z 2
  have z3 := z 3
  have z4 := z 4
  have HB : Hid (Below w.heap.size w W1) := hide (((Below.refl _ w).alloc (Nat.le_refl _) _).trans (hB1.mono (by simp)))
  have HL1 := hide (HL.out.below HB.out HL.out.1)
  clear hB1 z HO HL
  go_wp2_with fail
  refine (HF.out _ HL1.out).mono ?_
  rintro e W ⟨rfl, hW⟩
  rw [hW]
  clear hW W HF HL1
  go_wp2_with fail
  refine (HS.out _).mono ?_
  rintro e W ⟨rfl, hW⟩
  rw [hW]
  clear hW W HS
  go_wp2_with fail
  refine (HG.out _).mono ?_
  rintro e W ⟨rfl, hW⟩
  rw [hW]
  clear hW W HG
  go_wp2_with fail
  refine (HT.out _).mono ?_
  rintro e W3 ⟨rfl, hW⟩
  have c0 : W3.cell? ⟨W1.heap.size + 1 + 1, 0, none⟩ = some (.int .i64 o) := by rw [hW]; go_simp
  have y0' : W3.frozen? ⟨W1.heap.size + 1 + 1, 0, none⟩ = false := by rw [hW]; go_simp
  have p0 : W3.cell? ⟨w.heap.size, 0, none⟩ = some (.int .i64 0) := by rw [hW]; exact cell_alloc (cell_alloc (cell_alloc q0))
  have u0 : W3.frozen? ⟨w.heap.size, 0, none⟩ = false := by rw [hW]; go_simp
  have c1 : W3.cell? ⟨W1.heap.size + 1 + 1, 1, none⟩ = some (.int .i64 0) := by rw [hW]; go_simp
  have y1' : W3.frozen? ⟨W1.heap.size + 1 + 1, 1, none⟩ = false := by rw [hW]; go_simp
  have p1 : W3.cell? ⟨w.heap.size, 1, none⟩ = some (.int .i64 0) := by rw [hW]; exact cell_alloc (cell_alloc (cell_alloc q1))
  have u1 : W3.frozen? ⟨w.heap.size, 1, none⟩ = false := by rw [hW]; go_simp
  have c2 : W3.cell? ⟨W1.heap.size + 1 + 1, 2, none⟩ = some (.int .i64 0) := by rw [hW]; go_simp
  have y2' : W3.frozen? ⟨W1.heap.size + 1 + 1, 2, none⟩ = false := by rw [hW]; go_simp
  have p2 : W3.cell? ⟨w.heap.size, 2, none⟩ = some (.int .i64 0) := by rw [hW]; exact cell_alloc (cell_alloc (cell_alloc q2))
  have u2 : W3.frozen? ⟨w.heap.size, 2, none⟩ = false := by rw [hW]; go_simp
  have c3 : W3.cell? ⟨W1.heap.size + 1 + 1, 3, none⟩ = some (.int .i64 0) := by rw [hW]; go_simp
  have y3' : W3.frozen? ⟨W1.heap.size + 1 + 1, 3, none⟩ = false := by rw [hW]; go_simp
  have p3 : W3.cell? ⟨w.heap.size, 3, none⟩ = some (.int .i64 0) := by rw [hW]; exact cell_alloc (cell_alloc (cell_alloc q3))
  have u3 : W3.frozen? ⟨w.heap.size, 3, none⟩ = false := by rw [hW]; go_simp
  have c4 : W3.cell? ⟨W1.heap.size + 1 + 1, 4, none⟩ = some (.int .i64 g) := by rw [hW]; go_simp
  have y4' : W3.frozen? ⟨W1.heap.size + 1 + 1, 4, none⟩ = false := by rw [hW]; go_simp
  have p4 : W3.cell? ⟨w.heap.size, 4, none⟩ = some (.int .i64 0) := by rw [hW]; exact cell_alloc (cell_alloc (cell_alloc q4))
  have u4 : W3.frozen? ⟨w.heap.size, 4, none⟩ = false := by rw [hW]; go_simp
  have s0 : W3.cell? ⟨W1.heap.size + 1, 0, none⟩ = some (.bool true) := by rw [hW]; go_simp
  have s1 : W3.cell? ⟨W1.heap.size + 1, 1, none⟩ = some (.bool true) := by rw [hW]; go_simp
  have s2 : W3.cell? ⟨W1.heap.size + 1, 2, none⟩ = some (.bool false) := by rw [hW]; go_simp
  have HB3 : Hid (Below w.heap.size w W3) := hide (by rw [hW]; exact ((HB.out.alloc (by omega) _).alloc (by simp; omega) _).alloc (by simp; omega) _)
  have hs3 : W3.heap.size = W1.heap.size + 1 + 1 + 1 := by rw [hW]; simp
  clear hW HT HB q0 q1 q2 q3 q4 z0 z1 z2 z3 z4
  generalize hb2 : W1.heap.size + 1 + 1 = b2 at *
  generalize hb1 : W1.heap.size + 1 = b1 at *
  have n1 : w.heap.size < b2 := by omega
  have n2 : w.heap.size ≠ b2 := by omega
  have n3 : b2 ≠ w.heap.size := by omega
  have n4 : b2 < W3.heap.size := by omega
  have n5 : b1 ≠ b2 := by omega
  have n6 : b2 ≠ b1 := by omega
  clear hlt hlt1 hlt2 hs3 hb1 hb2
  go_wp2_with fail
  refine (HI.out _).mono ?_
  rintro e W ⟨rfl, hW⟩
  rw [hW]
  clear hW W HI
  go_wp2_with fail
  refine (HR0.out _).mono ?_
  rintro e V1 ⟨rfl, hW⟩
  have c0_1 : V1.cell? ⟨b2, 0, none⟩ = some (.int .i64 o) := by rw [hW]; go_simp
  have y0_1 : V1.frozen? ⟨b2, 0, none⟩ = false := by rw [hW]; go_simp
  have p0_1 : V1.cell? ⟨w.heap.size, 0, none⟩ = some (.int .i64 0) := by rw [hW]; go_simp
  have u0_1 : V1.frozen? ⟨w.heap.size, 0, none⟩ = false := by rw [hW]; go_simp
  have c1_1 : V1.cell? ⟨b2, 1, none⟩ = some (.int .i64 0) := by rw [hW]; go_simp
  have y1_1 : V1.frozen? ⟨b2, 1, none⟩ = false := by rw [hW]; go_simp
  have p1_1 : V1.cell? ⟨w.heap.size, 1, none⟩ = some (.int .i64 0) := by rw [hW]; go_simp
  have u1_1 : V1.frozen? ⟨w.heap.size, 1, none⟩ = false := by rw [hW]; go_simp
  have c2_1 : V1.cell? ⟨b2, 2, none⟩ = some (.int .i64 0) := by rw [hW]; go_simp
  have y2_1 : V1.frozen? ⟨b2, 2, none⟩ = false := by rw [hW]; go_simp
  have p2_1 : V1.cell? ⟨w.heap.size, 2, none⟩ = some (.int .i64 0) := by rw [hW]; go_simp
  have u2_1 : V1.frozen? ⟨w.heap.size, 2, none⟩ = false := by rw [hW]; go_simp
  have c3_1 : V1.cell? ⟨b2, 3, none⟩ = some (.int .i64 0) := by rw [hW]; go_simp
  have y3_1 : V1.frozen? ⟨b2, 3, none⟩ = false := by rw [hW]; go_simp
  have p3_1 : V1.cell? ⟨w.heap.size, 3, none⟩ = some (.int .i64 0) := by rw [hW]; go_simp
  have u3_1 : V1.frozen? ⟨w.heap.size, 3, none⟩ = false := by rw [hW]; go_simp
  have c4_1 : V1.cell? ⟨b2, 4, none⟩ = some (.int .i64 yi) := by rw [hW]; go_simp
  have y4_1 : V1.frozen? ⟨b2, 4, none⟩ = false := by rw [hW]; go_simp
  have p4_1 : V1.cell? ⟨w.heap.size, 4, none⟩ = some (.int .i64 0) := by rw [hW]; go_simp
  have u4_1 : V1.frozen? ⟨w.heap.size, 4, none⟩ = false := by rw [hW]; go_simp
  have s0_1 : V1.cell? ⟨b1, 0, none⟩ = some (.bool true) := by rw [hW]; go_simp
  have s1_1 : V1.cell? ⟨b1, 1, none⟩ = some (.bool true) := by rw [hW]; go_simp
  have s2_1 : V1.cell? ⟨b1, 2, none⟩ = some (.bool false) := by rw [hW]; go_simp
  have HV1 : Hid (Below w.heap.size w V1) := hide (by rw [hW]; exact HB3.out.setCell (by show w.heap.size ≤ b2; omega) _)
  have n4_1 : b2 < V1.heap.size := by rw [hW]; simpa using n4
  clear hW HR0 c0 c1 c2 c3 c4 y0' y1' y2' y3' y4' p0 p1 p2 p3 p4 u0 u1 u2 u3 u4 s0 s1 s2 HB3 n4
  go_wp2_with fail
  refine (HR1.out _).mono ?_
  rintro e V2 ⟨rfl, hW⟩
  have c0_2 : V2.cell? ⟨b2, 0, none⟩ = some (.int .i64 o) := by rw [hW]; go_simp
  have y0_2 : V2.frozen? ⟨b2, 0, none⟩ = false := by rw [hW]; go_simp
  have p0_2 : V2.cell? ⟨w.heap.size, 0, none⟩ = some (.int .i64 0) := by rw [hW]; go_simp
  have u0_2 : V2.frozen? ⟨w.heap.size, 0, none⟩ = false := by rw [hW]; go_simp
  have c1_2 : V2.cell? ⟨b2, 1, none⟩ = some (.int .i64 y0) := by rw [hW]; go_simp
  have y1_2 : V2.frozen? ⟨b2, 1, none⟩ = false := by rw [hW]; go_simp
  have p1_2 : V2.cell? ⟨w.heap.size, 1, none⟩ = some (.int .i64 0) := by rw [hW]; go_simp
  have u1_2 : V2.frozen? ⟨w.heap.size, 1, none⟩ = false := by rw [hW]; go_simp
  have c2_2 : V2.cell? ⟨b2, 2, none⟩ = some (.int .i64 0) := by rw [hW]; go_simp
  have y2_2 : V2.frozen? ⟨b2, 2, none⟩ = false := by rw [hW]; go_simp
  have p2_2 : V2.cell? ⟨w.heap.size, 2, none⟩ = some (.int .i64 0) := by rw [hW]; go_simp
  have u2_2 : V2.frozen? ⟨w.heap.size, 2, none⟩ = false := by rw [hW]; go_simp
  have c3_2 : V2.cell? ⟨b2, 3, none⟩ = some (.int .i64 0) := by rw [hW]; go_simp
  have y3_2 : V2.frozen? ⟨b2, 3, none⟩ = false := by rw [hW]; go_simp
  have p3_2 : V2.cell? ⟨w.heap.size, 3, none⟩ = some (.int .i64 0) := by rw [hW]; go_simp
  have u3_2 : V2.frozen? ⟨w.heap.size, 3, none⟩ = false := by rw [hW]; go_simp
  have c4_2 : V2.cell? ⟨b2, 4, none⟩ = some (.int .i64 yi) := by rw [hW]; go_simp
  have y4_2 : V2.frozen? ⟨b2, 4, none⟩ = false := by rw [hW]; go_simp
  have p4_2 : V2.cell? ⟨w.heap.size, 4, none⟩ = some (.int .i64 0) := by rw [hW]; go_simp
  have u4_2 : V2.frozen? ⟨w.heap.size, 4, none⟩ = false := by rw [hW]; go_simp
  have s0_2 : V2.cell? ⟨b1, 0, none⟩ = some (.bool true) := by rw [hW]; go_simp
  have s1_2 : V2.cell? ⟨b1, 1, none⟩ = some (.bool true) := by rw [hW]; go_simp
  have s2_2 : V2.cell? ⟨b1, 2, none⟩ = some (.bool false) := by rw [hW]; go_simp
  have HV2 : Hid (Below w.heap.size w V2) := hide (by rw [hW]; exact HV1.out.setCell (by show w.heap.size ≤ b2; omega) _)
  have n4_2 : b2 < V2.heap.size := by rw [hW]; simpa using n4_1
  clear hW HR1 c0_1 c1_1 c2_1 c3_1 c4_1 y0_1 y1_1 y2_1 y3_1 y4_1 p0_1 p1_1 p2_1 p3_1 p4_1 u0_1 u1_1 u2_1 u3_1 u4_1 s0_1 s1_1 s2_1 HV1 n4_1
  go_wp2
  refine bodyPost_ret (v := .tuple #[inst o y0 y1 0 yi, .bool true]) (by simp [results, Tryz.results77, go_sem, inst, p0_2, p1_2, p2_2, p3_2, p4_2]) rfl ⟨rfl, ?_⟩
  have hb := HV2.out
  clear HV2
  go_grown

set_option maxHeartbeats 400000 in
theorem dec_6_1 (x f g yi y0 y1 y2 : Int) (o : Nat) (w : World) (h0 : 0 ≤ x) (h1 : x ≤ 4294967295) (ho : 1 ≤ o) (ho' : o < 66) (bi : 0 ≤ yi ∧ yi ≤ 63)
    (HO : Hid (∀ w, Laid w → Calls Tryz.prog 103 #[.int .u32 x] w fun e w' => e = .returned (.tuple #[.int .i64 o, .bool true]) ∧ Below w.heap.size w w'))
    (HL : Hid (Laid w))
    (HF : Hid (∀ w, Laid w → Calls Tryz.prog 104 #[.int .i64 o] w fun e w' => e = .returned (.int .i64 f) ∧ w' = w))
    (HS : Hid (∀ w, Calls Tryz.prog 105 #[.int .i64 f] w fun e w' => e = .returned (.agg #[.bool true, .bool true, .bool false]) ∧ w' = w.alloc (.cells #[.bool true, .bool true, .bool false] 142)))
    (HG : Hid (∀ w, Calls Tryz.prog 106 #[.int .i64 f, .int .u32 x] w fun e w' => e = .returned (.int .i64 g) ∧ w' = w))
    (HT : Hid (∀ w, Calls Tryz.prog 107 #[.int .u32 x] w fun e w' => e = .returned (.int .u64 6) ∧ w' = w))
    (HI : Hid (∀ w, Calls Tryz.prog 108 #[.int .u32 x, .int .u64 20, .int .u64 6] w fun e w' => e = .returned (.int .u32 yi) ∧ w' = w))
    (HR0 : Hid (∀ w, Calls Tryz.prog 109 #[.int .u32 x, .int .u64 7] w fun e w' => e = .returned (.int .i64 y0) ∧ w' = w))
    (HR1 : Hid (∀ w, Calls Tryz.prog 109 #[.int .u32 x, .int .u64 15] w fun e w' => e = .returned (.int .i64 y1) ∧ w' = w)) :
    Calls Tryz.prog 77 #[.int .u32 x] w fun e w' => e = .returned (.tuple #[inst o y0 y1 0 yi, .bool true]) ∧ Below w.heap.size w w' := by
  go_enter Tryz.func77, Tryz.ntmps77
  go_wp2_with fail
  refine (HO.out _ (HL.out.below ((Below.refl _ _).alloc (Nat.le_refl _) _) HL.out.1)).mono ?_
  rintro e W1 ⟨rfl, hB1⟩
  have hlt : w.heap.size < W1.heap.size := by have := hB1.size; simp at this; omega
  have hlt1 : w.heap.size < W1.heap.size + 1 := by omega
  have hlt2 : w.heap.size < W1.heap.size + 1 + 1 := by omega
  have q0 : W1.cell? ⟨w.heap.size, 0, none⟩ = some (.int .i64 0) := (hB1.cell (p := ⟨w.heap.size, 0, none⟩) (by simp)).trans (by simp)
  have q1 : W1.cell? ⟨w.heap.size, 1, none⟩ = some (.int .i64 0) := (hB1.cell (p := ⟨w.heap.size, 1, none⟩) (by simp)).trans (by simp)
  have q2 : W1.cell? ⟨w.heap.size, 2, none⟩ = some (.int .i64 0) := (hB1.cell (p := ⟨w.heap.size, 2, none⟩) (by simp)).trans (by simp)
  have q3 : W1.cell? ⟨w.heap.size, 3, none⟩ = some (.int .i64 0) := (hB1.cell (p := ⟨w.heap.size, 3, none⟩) (by simp)).trans (by simp)
  have q4 : W1.cell? ⟨w.heap.size, 4, none⟩ = some (.int .i64 0) := (hB1.cell (p := ⟨w.heap.size, 4, none⟩) (by simp)).trans (by simp)
  have z : ∀ j, W1.frozen? ⟨w.heap.size, j, none⟩ = false := fun j => (hB1.frozen (p := ⟨w.heap.size, j, none⟩) (by simp)).trans (by simp)
  have z0 := z 0
  have z1 := z 1
  have z2 := z 2
  have z3 := z 3
  have z4 := z 4
  have HB : Hid (Below w.heap.size w W1) := hide (((Below.refl _ w).alloc (Nat.le_refl _) _).trans (hB1.mono (by simp)))
  have HL1 := hide (HL.out.below HB.out HL.out.1)
  clear hB1 z HO HL
  go_wp2_with fail
  refine (HF.out _ HL1.out).mono ?_
  rintro e W ⟨rfl, hW⟩
  rw [hW]
  clear hW W HF HL1
  go_wp2_with fail
  refine (HS.out _).mono ?_
  rintro e W ⟨rfl, hW⟩
  rw [hW]
  clear hW W HS
  go_wp2_with fail
  refine (HG.out _).mono ?_
  rintro e W ⟨rfl, hW⟩
  rw [hW]
  clear hW W HG
  go_wp2_with fail
  refine (HT.out _).mono ?_
  rintro e W3 ⟨rfl, hW⟩
  have c0 : W3.cell? ⟨W1.heap.size + 1 + 1, 0, none⟩ = some (.int .i64 o) := by rw [hW]; go_simp
  have y0' : W3.frozen? ⟨W1.heap.size + 1 + 1, 0, none⟩ = false := by rw [hW]; go_simp
  have p0 : W3.cell? ⟨w.heap.size, 0, none⟩ = some (.int .i64 0) := by rw [hW]; exact cell_alloc (cell_alloc (cell_alloc q0))
  have u0 : W3.frozen? ⟨w.heap.size, 0, none⟩ = false := by rw [hW]; go_simp
  have c1 : W3.cell? ⟨W1.heap.size + 1 + 1, 1, none⟩ = some (.int .i64 0) := by rw [hW]; go_simp
  have y1' : W3.frozen? ⟨W1.heap.size + 1 + 1, 1, none⟩ = false := by rw [hW]; go_simp
  have p1 : W3.cell? ⟨w.heap.size, 1, none⟩ = some (.int .i64 0) := by rw [hW]; exact cell_alloc (cell_alloc (cell_alloc q1))
  have u1 : W3.frozen? ⟨w.heap.size, 1, none⟩ = false := by rw [hW]; go_simp
  have c2 : W3.cell? ⟨W1.heap.size + 1 + 1, 2, none⟩ = some (.int .i64 0) := by rw [hW]; go_simp
  have y2' : W3.frozen? ⟨W1.heap.size + 1 + 1, 2, none⟩ = false := by rw [hW]; go_simp
  have p2 : W3.cell? ⟨w.heap.size, 2, none⟩ = some (.int .i64 0) := by rw [hW]; exact cell_alloc (cell_alloc (cell_alloc q2))
  have u2 : W3.frozen? ⟨w.heap.size, 2, none⟩ = false := by rw [hW]; go_simp
  have c3 : W3.cell? ⟨W1.heap.size + 1 + 1, 3, none⟩ = some (.int .i64 0) := by rw [hW]; go_simp
  have y3' : W3.frozen? ⟨W1.heap.size + 1 + 1, 3, none⟩ = false := by rw [hW]; go_simp
  have p3 : W3.cell? ⟨w.heap.size, 3, none⟩ = some (.int .i64 0) := by rw [hW]; exact cell_alloc (cell_alloc (cell_alloc q3))
  have u3 : W3.frozen? ⟨w.heap.size, 3, none⟩ = false := by rw [hW]; go_simp
  have c4 : W3.cell? ⟨W1.heap.size + 1 + 1, 4, none⟩ = some (.int .i64 g) := by rw [hW]; go_simp
  have y4' : W3.frozen? ⟨W1.heap.size + 1 + 1, 4, none⟩ = false := by rw [hW]; go_simp
  have p4 : W3.cell? ⟨w.heap.size, 4, none⟩ = some (.int .i64 0) := by rw [hW]; exact cell_alloc (cell_alloc (cell_alloc q4))
  have u4 : W3.frozen? ⟨w.heap.size, 4, none⟩ = false := by rw [hW]; go_simp
  have s0 : W3.cell? ⟨W1.heap.size + 1, 0, none⟩ = some (.bool true) := by rw [hW]; go_simp
  have s1 : W3.cell? ⟨W1.heap.size + 1, 1, none⟩ = some (.bool true) := by rw [hW]; go_simp
  have s2 : W3.cell? ⟨W1.heap.size + 1, 2, none⟩ = some (.bool false) := by rw [hW]; go_simp
  have HB3 : Hid (Below w.heap.size w W3) := hide (by rw [hW]; exact ((HB.out.alloc (by omega) _).alloc (by simp; omega) _).alloc (by simp; omega) _)
  have hs3 : W3.heap.size = W1.heap.size + 1 + 1 + 1 := by rw [hW]; simp
  clear hW HT HB q0 q1 q2 q3 q4 z0 z1 z2 z3 z4
  generalize hb2 : W1.heap.size + 1 + 1 = b2 at *
  generalize hb1 : W1.heap.size + 1 = b1 at *
  have n1 : w.heap.size < b2 := by omega
  have n2 : w.heap.size ≠ b2 := by omega
  have n3 : b2 ≠ w.heap.size := by omega
  have n4 : b2 < W3.heap.size := by omega
  have n5 : b1 ≠ b2 := by omega
  have n6 : b2 ≠ b1 := by omega
  clear hlt hlt1 hlt2 hs3 hb1 hb2
  go_wp2_with fail
  refine (HI.out _).mono ?_
  rintro e W ⟨rfl, hW⟩
  rw [hW]
  clear hW W HI
  go_wp2_with fail
  refine (HR0.out _).mono ?_
  rintro e V1 ⟨rfl, hW⟩
  have c0_1 : V1.cell? ⟨b2, 0, none⟩ = some (.int .i64 o) := by rw [hW]; go_simp
  have y0_1 : V1.frozen? ⟨b2, 0, none⟩ = false := by rw [hW]; go_simp
  have p0_1 : V1.cell? ⟨w.heap.size, 0, none⟩ = some (.int .i64 0) := by rw [hW]; go_simp
  have u0_1 : V1.frozen? ⟨w.heap.size, 0, none⟩ = false := by rw [hW]; go_simp
  have c1_1 : V1.cell? ⟨b2, 1, none⟩ = some (.int .i64 0) := by rw [hW]; go_simp
  have y1_1 : V1.frozen? ⟨b2, 1, none⟩ = false := by rw [hW]; go_simp
  have p1_1 : V1.cell? ⟨w.heap.size, 1, none⟩ = some (.int .i64 0) := by rw [hW]; go_simp
  have u1_1 : V1.frozen? ⟨w.heap.size, 1, none⟩ = false := by rw [hW]; go_simp
  have c2_1 : V1.cell? ⟨b2, 2, none⟩ = some (.int .i64 0) := by rw [hW]; go_simp
  have y2_1 : V1.frozen? ⟨b2, 2, none⟩ = false := by rw [hW]; go_simp
  have p2_1 : V1.cell? ⟨w.heap.size, 2, none⟩ = some (.int .i64 0) := by rw [hW]; go_simp
  have u2_1 : V1.frozen? ⟨w.heap.size, 2, none⟩ = false := by rw [hW]; go_simp
  have c3_1 : V1.cell? ⟨b2, 3, none⟩ = some (.int .i64 0) := by rw [hW]; go_simp
  have y3_1 : V1.frozen? ⟨b2, 3, none⟩ = false := by rw [hW]; go_simp
  have p3_1 : V1.cell? ⟨w.heap.size, 3, none⟩ = some (.int .i64 0) := by rw [hW]; go_simp
  have u3_1 : V1.frozen? ⟨w.heap.size, 3, none⟩ = false := by rw [hW]; go_simp
  have c4_1 : V1.cell? ⟨b2, 4, none⟩ = some (.int .i64 yi) := by rw [hW]; go_simp
  have y4_1 : V1.frozen? ⟨b2, 4, none⟩ = false := by rw [hW]; go_simp
  have p4_1 : V1.cell? ⟨w.heap.size, 4, none⟩ = some (.int .i64 0) := by rw [hW]; go_simp
  have u4_1 : V1.frozen? ⟨w.heap.size, 4, none⟩ = false := by rw [hW]; go_simp
  have s0_1 : V1.cell? ⟨b1, 0, none⟩ = some (.bool true) := by rw [hW]; go_simp
  have s1_1 : V1.cell? ⟨b1, 1, none⟩ = some (.bool true) := by rw [hW]; go_simp
  have s2_1 : V1.cell? ⟨b1, 2, none⟩ = some (.bool false) := by rw [hW]; go_simp
  have HV1 : Hid (Below w.heap.size w V1) := hide (by rw [hW]; exact HB3.out.setCell (by show w.heap.size ≤ b2; omega) _)
  have n4_1 : b2 < V1.heap.size := by rw [hW]; simpa using n4
  clear hW HR0 c0 c1 c2 c3 c4 y0' y1' y2' y3' y4' p0 p1 p2 p3 p4 u0 u1 u2 u3 u4 s0 s1 s2 HB3 n4
  go_wp2_with fail
  refine (HR1.out _).mono ?_
  rintro e V2 ⟨rfl, hW⟩
  have c0_2 : V2.cell? ⟨b2, 0, none⟩ = some (.int .i64 o) := by rw [hW]; go_simp
  have y0_2 : V2.frozen? ⟨b2, 0, none⟩ = false := by rw [hW]; go_simp
  have p0_2 : V2.cell? ⟨w.heap.size, 0, none⟩ = some (.int .i64 0) := by rw [hW]; go_simp
  have u0_2 : V2.frozen? ⟨w.heap.size, 0, none⟩ = false := by rw [hW]; go_simp
  have c1_2 : V2.cell? ⟨b2, 1, none⟩ = some (.int .i64 y0) := by rw [hW]; go_simp
  have y1_2 : V2.frozen? ⟨b2, 1, none⟩ = false := by rw [hW]; go_simp
  have p1_2 : V2.cell? ⟨w.heap.size, 1, none⟩ = some (.int .i64 0) := by rw [hW]; go_simp
  have u1_2 : V2.frozen? ⟨w.heap.size, 1, none⟩ = false := by rw [hW]; go_simp
  have c2_2 : V2.cell? ⟨b2, 2, none⟩ = some (.int .i64 0) := by rw [hW]; go_simp
  have y2_2 : V2.frozen? ⟨b2, 2, none⟩ = false := by rw [hW]; go_simp
  have p2_2 : V2.cell? ⟨w.heap.size, 2, none⟩ = some (.int .i64 0) := by rw [hW]; go_simp
  have u2_2 : V2.frozen? ⟨w.heap.size, 2, none⟩ = false := by rw [hW]; go_simp
  have c3_2 : V2.cell? ⟨b2, 3, none⟩ = some (.int .i64 0) := by rw [hW]; go_simp
  have y3_2 : V2.frozen? ⟨b2, 3, none⟩ = false := by rw [hW]; go_simp
  have p3_2 : V2.cell? ⟨w.heap.size, 3, none⟩ = some (.int .i64 0) := by rw [hW]; go_simp
  have u3_2 : V2.frozen? ⟨w.heap.size, 3, none⟩ = false := by rw [hW]; go_simp
  have c4_2 : V2.cell? ⟨b2, 4, none⟩ = some (.int .i64 yi) := by rw [hW]; go_simp
  have y4_2 : V2.frozen? ⟨b2, 4, none⟩ = false := by rw [hW]; go_simp
  have p4_2 : V2.cell? ⟨w.heap.size, 4, none⟩ = some (.int .i64 0) := by rw [hW]; go_simp
  have u4_2 : V2.frozen? ⟨w.heap.size, 4, none⟩ = false := by rw [hW]; go_simp
  have s0_2 : V2.cell? ⟨b1, 0, none⟩ = some (.bool true) := by rw [hW]; go_simp
  have s1_2 : V2.cell? ⟨b1, 1, none⟩ = some (.bool true) := by rw [hW]; go_simp
  have s2_2 : V2.cell? ⟨b1, 2, none⟩ = some (.bool false) := by rw [hW]; go_simp
  have HV2 : Hid (Below w.heap.size w V2) := hide (by rw [hW]; exact HV1.out.setCell (by show w.heap.size ≤ b2; omega) _)
  have n4_2 : b2 < V2.heap.size := by rw [hW]; simpa using n4_1
  clear hW HR1 c0_1 c1_1 c2_1 c3_1 c4_1 y0_1 y1_1 y2_1 y3_1 y4_1 p0_1 p1_1 p2_1 p3_1 p4_1 u0_1 u1_1 u2_1 u3_1 u4_1 s0_1 s1_1 s2_1 HV1 n4_1
  go_wp2
  refine bodyPost_ret (v := .tuple #[inst o y0 y1 0 yi, .bool true]) (by simp [results, Tryz.results77, go_sem, inst, p0_2, p1_2, p2_2, p3_2, p4_2]) rfl ⟨rfl, ?_⟩
  have hb := HV2.out
  clear HV2
  go_grown

end Go.Proofs.YtgjfelkbblbjfaaGreatDoor
