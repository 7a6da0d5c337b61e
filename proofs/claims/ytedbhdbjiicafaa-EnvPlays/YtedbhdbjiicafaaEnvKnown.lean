/- The chapter's example: what 'known' tells. -/
import Derived.Test.YtedbhdbjiicafaaEnvHas
import Derived.Lib.SlBytesConst
namespace Go.Proofs.Ytedbhdbjiicafaa
open Go.RowKit
set_option linter.unusedVariables false

/-- Bytes written out in the text. -/
theorem Rd.lit {w : World} {X : Nat} {t : TypeId} {fr : Nat × Nat} (xs : List Int) (h : w.heap[X]? = some (.cells (xs.map (Value.int .u8)).toArray t fr)) (hf : Bytes xs) (hl : xs.length ≤ 9223372036854775807) : Rd w (some ⟨X, 0, none⟩) xs.length xs.length xs := by
  refine ⟨rfl, Nat.le_refl _, hl, hf, (fun h => by cases h), fun x hx i hi => ?_⟩
  cases hx
  have e : (⟨X, 0, none⟩ : Addr).add i = ⟨X, i, none⟩ := by unfold Addr.add; split <;> simp_all
  rw [e, cell_of_row _ _ i _ t fr h]
  simp [hi]

set_option maxHeartbeats 3200000 in
theorem known_any (w : World) : Calls Try.prog 6 #[] w fun e w' => e = .returned (.bool true) ∧ Below w.heap.size w w' := by
  have kc := fun (w : World) (C : Array Value) (n c : Nat) => Lib.run_convert_bytes_const (P := Try.prog) w 22 5 C n c Try.underlying22 Try.underlying5
  go_enter Try.func6, Try.ntmps6
  go_wp2_with fail
  have b1 : Below w.heap.size w (w.alloc (.cells #[.int .u8 97, .int .u8 98] 5 (2, 3))) := (Below.refl _ _).alloc (Nat.le_refl _) _
  have r1 : Rd (w.alloc (.cells #[.int .u8 97, .int .u8 98] 5 (2, 3))) (some ⟨w.heap.size, 0, none⟩) 2 2 [97, 98] := Rd.lit [97, 98] (heap_alloc_new w _) (by intro x hx; simp at hx; omega) (by simp)
  refine (has_new (Has.start b1) r1 (by omega)).mono ?_
  rintro e W1 ⟨m, rfl, hH⟩
  have H1 := hide hH
  clear hH b1 r1
  go_wp2_with fail
  refine (has_take H1.out 1 (by simp)).mono ?_
  rintro e W2 ⟨a2, c2, rfl, hH⟩
  have H2 : Hid (Has w W2 [RdT a2 1 c2 [97], EV w.heap.size 46 m [98] []]) := hide hH.swap
  have s2 : Sem.run Try.prog (convert 22 9 (.slice a2 1 c2)) W2 = .ok (.string ⟨#[97]⟩) W2 := H2.out.rd.str
  clear hH H1
  go_wp2_with fail
  refine (has_left H2.out.drop).mono ?_
  rintro e W2' ⟨rfl, rfl⟩
  have H3 := hide H2.out.drop
  clear H2 s2
  go_wp2_with fail
  have hN : Has w ((W2'.alloc (.cells #[.int .u8 120] 5 (1, 2))).alloc (.cells #[.int .i64 0, .int .i64 1, .slice (some ⟨W2'.heap.size, 0, none⟩) 1 1, .int .i64 0] 32)) [EV w.heap.size 46 m [98] [], ArgT w.heap.size (some ⟨W2'.heap.size + 1, 0, none⟩) 1 [⟨0, 1, some ⟨W2'.heap.size, 0, none⟩, 1, 1, 0, [120]⟩]] := by
    refine (H3.out.arg1 (((Below.refl _ _).alloc (Nat.le_refl _) _).alloc (by simp) _) (x := ⟨0, 1, some ⟨W2'.heap.size, 0, none⟩, 1, 1, 0, [120]⟩) (t := 32) (by omega) (heap_alloc2_new W2' _ _) ⟨⟨by dsimp only; omega, by dsimp only; omega⟩, ⟨by dsimp only; omega, by dsimp only; omega⟩, ⟨by dsimp only; omega, by dsimp only; omega⟩, Rd.lit [120] (t := 5) (fr := (1, 2)) ?_ (by intro x hx; simp at hx; omega) (by simp)⟩ (fun _ y hy => Or.inl ?_)).swap
    · rw [Below.heap_alloc _ _ _ (by simp)]
      exact heap_alloc_new W2' _
    · cases hy
      exact Nat.le_refl _
  refine (has_note (cap := 1) hN (by intro x hx; simp at hx; subst hx; dsimp only; omega) (by simp)).mono ?_
  rintro e W4 ⟨rfl, hH⟩
  have H4 : Hid (Has w W4 [EV w.heap.size 46 m [98] [⟨0, 1, [120], 0⟩]]) := hide hH.swap.drop
  clear hN hH H3
  go_wp2_with fail
  refine (has_trace H4.out (by intro s hs; simp at hs; subst hs; decide) (by simp)).mono ?_
  rintro e W5 ⟨a5, c5, es5, rfl, _, _, hb⟩
  have H5 := hide (H4.out.below hb)
  clear hb H4
  go_wp2_with fail
  have e1 : outOf 1 [⟨0, 1, [120], 0⟩] = [120] := by simp [outOf]
  have e2 : outOf 2 [⟨0, 1, [120], 0⟩] = [] := by simp [outOf]
  have HE1 := hide e1
  have HE2 := hide e2
  clear e1 e2
  refine (has_output H5.out 1 (by simp) (by rw [HE1.out]; decide)).mono ?_
  rintro e W6 ⟨a6, l6, c6, rfl, hr, hb⟩
  rw [HE1.out] at hr
  obtain rfl : l6 = 1 := hr.length.symm
  have s6 : Sem.run Try.prog (convert 22 9 (.slice a6 1 c6)) W6 = .ok (.string ⟨#[120]⟩) W6 := hr.str
  have H6 := hide (H5.out.below hb)
  clear hb H5 hr
  go_wp2_with fail
  refine (has_output H6.out 2 (by simp) (by rw [HE2.out]; decide)).mono ?_
  rintro e W7 ⟨a7, l7, c7, rfl, hr, hb⟩
  rw [HE2.out] at hr
  obtain rfl : l7 = 0 := hr.length.symm
  have H7 := hide (H6.out.below hb)
  clear hb H6 hr s6
  go_wp2
  go_ret
  exact ⟨rfl, H7.out.bel⟩

end Go.Proofs.Ytedbhdbjiicafaa
