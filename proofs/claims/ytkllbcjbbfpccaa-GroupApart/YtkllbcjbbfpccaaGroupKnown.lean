/- The chapter's examples (known of layer 14). -/
import Derived.Test.YtkllbcjbbfpccaaGroupLaid
import Derived.Test.YtkllbcjbbfpccaaGroupBytes
namespace Go.Proofs.Ytkllbcjbbfpccaa
open Go.RowKit
set_option linter.unusedVariables false
set_option linter.unusedSimpArgs false

theorem kn14_low : Low [2, 5] := by intro x hx; simp at hx; omega
theorem kn14_yes : grGood [2, 5] 6 := by
  intro i x hx
  rcases i with _ | _ | i
  · simp at hx; subst hx; exact ⟨by decide, by decide, fun j y hj => by omega⟩
  · simp at hx; subst hx
    refine ⟨by decide, by decide, fun j y hj hy => ?_⟩
    obtain rfl : j = 0 := by omega
    simp at hy
    omega
  · simp at hx
theorem kn14_no : ¬ grGood [2, 5] 5 := fun h => by have := (h 1 5 rfl).2.1; omega
theorem kn14_two : grTwo [[1], [2, 1]] := ⟨1, 0, 1, by decide, ⟨[2, 1], rfl, by simp⟩, ⟨[1], rfl, by simp⟩⟩
theorem kn14_one : ¬ grTwo [[1], [2]] := by
  rintro ⟨i, k, x, hk, ⟨m, hm, hx⟩, ⟨m', hm', hx'⟩⟩
  rcases i with _ | _ | i
  · omega
  · obtain rfl : k = 0 := by omega
    simp at hm hm'
    subst hm hm'
    simp at hx hx'
    omega
  · simp at hm

theorem Below.two {w : World} (o o2 : Obj) : Below w.heap.size w ((w.alloc o).alloc o2) := ((Below.refl w.heap.size w).alloc (Nat.le_refl _) o).alloc (by simp) o2

/-- Two slices of numbers side by side in a slice, all just built. -/
theorem Rii.two (w : World) (t t2 : TypeId) (m p : List Int) (hm : m.length ≤ 1000) (hp : p.length ≤ 1000) (fm : ∀ x ∈ m, -9223372036854775808 ≤ x ∧ x ≤ 9223372036854775807) (fp : ∀ x ∈ p, -9223372036854775808 ≤ x ∧ x ≤ 9223372036854775807) :
    Rii (((w.alloc (.cells (m.map (Value.int .i64)).toArray t)).alloc (.cells (p.map (Value.int .i64)).toArray t)).alloc (.cells #[.slice (some ⟨w.heap.size, 0, none⟩) m.length m.length, .slice (some ⟨w.heap.size + 1, 0, none⟩) p.length p.length] t2)) (some ⟨w.heap.size + 1 + 1, 0, none⟩) 2 2 [m, p] ∧
    Below w.heap.size w (((w.alloc (.cells (m.map (Value.int .i64)).toArray t)).alloc (.cells (p.map (Value.int .i64)).toArray t)).alloc (.cells #[.slice (some ⟨w.heap.size, 0, none⟩) m.length m.length, .slice (some ⟨w.heap.size + 1, 0, none⟩) p.length p.length] t2)) := by
  have r1 := Ri.lit w t m (by omega) fm
  have b0 := (Below.refl w.heap.size w).alloc (Nat.le_refl _) (.cells (m.map (Value.int .i64)).toArray t)
  have z1 : (w.alloc (.cells (m.map (Value.int .i64)).toArray t)).heap.size = w.heap.size + 1 := by simp
  generalize w.alloc (.cells (m.map (Value.int .i64)).toArray t) = W1 at *
  have r2 := Ri.lit W1 t p (by omega) fp
  have b1 := (Below.refl W1.heap.size W1).alloc (Nat.le_refl _) (.cells (p.map (Value.int .i64)).toArray t)
  have z2 : (W1.alloc (.cells (p.map (Value.int .i64)).toArray t)).heap.size = w.heap.size + 1 + 1 := by simp; omega
  rw [z1] at r2
  generalize W1.alloc (.cells (p.map (Value.int .i64)).toArray t) = W2 at *
  have r3 := Rv.lit W2 t2 [.slice (some ⟨w.heap.size, 0, none⟩) m.length m.length, .slice (some ⟨w.heap.size + 1, 0, none⟩) p.length p.length] (by simp)
  have b2 := (Below.refl W2.heap.size W2).alloc (Nat.le_refl _) (.cells [Value.slice (some ⟨w.heap.size, 0, none⟩) m.length m.length, .slice (some ⟨w.heap.size + 1, 0, none⟩) p.length p.length].toArray t2)
  rw [z2] at r3
  refine ⟨Rii.of r3 rfl (fun i q hq => ?_), (b0.trans (b1.mono (by omega))).trans (b2.mono (by omega))⟩
  rcases i with _ | _ | i
  · simp at hq; subst hq
    exact ⟨_, _, rfl, (r1.below b1).below b2⟩
  · simp at hq; subst hq
    exact ⟨_, _, rfl, r2.below b2⟩
  · simp at hq

set_option maxHeartbeats 3200000 in
set_option maxRecDepth 20000 in
theorem known_14 (w : World) : Calls Try.prog 7 #[] w fun e w' => e = .returned (.bool true) ∧ Below w.heap.size w w' := by
  have fit25 : ∀ x ∈ [(2 : Int), 5], -9223372036854775808 ≤ x ∧ x ≤ 9223372036854775807 := by intro x hx; simp at hx; omega
  have MA := hide (fun W => grbytes_any (some ⟨W.heap.size, 0, none⟩) 2 2 [2, 5] _ (Ri.lit W 3 [2, 5] (by decide) fit25) (by decide))
  have HL := hide (fun W => Ri.lit W 3 [2, 5] (by decide) fit25)
  have BA := hide (fun (W : World) => (Below.refl W.heap.size W).alloc (Nat.le_refl _) (.cells ([2, 5].map (Value.int .i64)).toArray 3))
  clear fit25
  go_enter Try.func7, Try.ntmps7
  go_wp2_with fail
  refine (MA.out w).mono ?_
  rintro e W1 ⟨a1, c1, rfl, r1, b1⟩
  have B1 := hide ((BA.out w).trans (b1.mono (BA.out w).size))
  have z1 := B1.out.size
  have PA := hide (grparse_any a1 12 c1 (grL [2, 5]) 6 W1 r1 (by decide) (by decide) (by decide))
  clear r1 b1
  go_wp2_with fail
  refine PA.out.mono ?_
  rintro e W3 ⟨hp, b3⟩
  obtain ⟨a3, c3, rfl, rh3⟩ := gr_yes kn14_low kn14_yes hp
  have B3 := hide (B1.out.trans (b3.mono z1))
  have z3 := B3.out.size
  have RH3 := hide rh3
  clear rh3 hp b3 PA B1 z1
  go_wp2_with fail
  refine (MA.out W3).mono ?_
  rintro e W4 ⟨a4, c4, rfl, r4, b4⟩
  have b4' := (BA.out W3).trans (b4.mono (BA.out W3).size)
  have B4 := hide (B3.out.trans (b4'.mono z3))
  have RH4 := hide (RH3.out.below b4')
  have z4 := B4.out.size
  have PB := hide (grparse_any a4 12 c4 (grL [2, 5]) 5 W4 r4 (by decide) (by decide) (by decide))
  clear r4 b4 b4' B3 RH3 z3 MA
  go_wp2_with fail
  refine PB.out.mono ?_
  rintro e W5 ⟨hp, b5⟩
  obtain rfl := gr_no kn14_low kn14_no hp
  have B5 := hide (B4.out.trans (b5.mono z4))
  have z5 := B5.out.size
  have RH5 := hide (RH4.out.below b5)
  clear hp b5 PB B4 z4 RH4
  have IN := hide (ints_eq a3 2 c3 [2, 5] (some ⟨W5.heap.size, 0, none⟩) 2 _ (RH5.out.below (BA.out W5)) (HL.out W5))
  have B6 := hide (B5.out.trans ((BA.out W5).mono z5))
  have z6 := B6.out.size
  clear RH5 HL BA
  go_wp2_with fail
  refine IN.out.mono ?_
  rintro e W7 ⟨rfl, b7⟩
  have B7 := hide (B6.out.trans (b7.mono z6))
  have z7 := B7.out.size
  clear b7 IN B6 z6 B5 z5
  have fit1 : ∀ x ∈ [(1 : Int)], -9223372036854775808 ≤ x ∧ x ≤ 9223372036854775807 := by intro x hx; simp at hx; omega
  have fit21 : ∀ x ∈ [(2 : Int), 1], -9223372036854775808 ≤ x ∧ x ≤ 9223372036854775807 := by intro x hx; simp at hx; omega
  have fit2 : ∀ x ∈ [(2 : Int)], -9223372036854775808 ≤ x ∧ x ≤ 9223372036854775807 := by intro x hx; simp at hx; omega
  obtain ⟨t1, bt1⟩ := Rii.two W7 3 23 [1] [2, 1] (by decide) (by decide) fit1 fit21
  have T2 := hide (fun W => Rii.two W 3 23 [1] [2] (by decide) (by decide) fit1 fit2)
  have CA := hide (grcheck_any _ 2 2 [[1], [2, 1]] _ t1 (by decide) (by intro m hm; simp at hm; rcases hm with rfl | rfl <;> decide))
  have B8 := hide (B7.out.trans (bt1.mono z7))
  have z8 := B8.out.size
  clear t1 bt1 fit1 fit21 fit2 B7 z7
  go_wp2_with fail
  refine CA.out.mono ?_
  rintro e W9 ⟨hc, b9⟩
  obtain rfl := chk_yes kn14_two hc
  have B9 := hide (B8.out.trans (b9.mono z8))
  have z9 := B9.out.size
  obtain ⟨t2, bt2⟩ := T2.out W9
  have CB := hide (grcheck_any _ 2 2 [[1], [2]] _ t2 (by decide) (by intro m hm; simp at hm; rcases hm with rfl | rfl <;> decide))
  have B10 := hide (B9.out.trans (bt2.mono z9))
  have z10 := B10.out.size
  clear t2 bt2 B8 z8 CA hc b9 T2 B9 z9
  go_wp2_with fail
  refine CB.out.mono ?_
  rintro e W11 ⟨hc, b11⟩
  obtain rfl := chk_no kn14_one hc
  have B11 := hide (B10.out.trans (b11.mono z10))
  clear hc b11 B10 z10 CB
  go_wp2
  go_ret
  exact ⟨rfl, B11.out⟩

end Go.Proofs.Ytkllbcjbbfpccaa
