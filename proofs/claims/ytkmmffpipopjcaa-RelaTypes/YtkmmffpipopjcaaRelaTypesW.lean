/- The walks of RelaTypes and RelaEdges. -/
import Derived.Test.YtkmmffpipopjcaaRelaKnown
namespace Go.Proofs.Ytkmmffpipopjcaa
open Go.RowKit
set_option linter.unusedVariables false
set_option linter.unusedSimpArgs false

set_option maxHeartbeats 3200000 in
theorem relatypes_walk (t : Nat) (w : World) (ht : t < 4294967296) :
    Calls Try.prog 4 #[.int .u32 (t : Int)] w fun e w' => e = .returned (.bool true) ∧ Below w.heap.size w w' := by
  have KN := hide (known_13 w)
  obtain ⟨s, hs⟩ : ∃ s : Nat, t % 64 = s := ⟨_, rfl⟩
  have hs1 : s < 64 := by omega
  have m0 : (t : Int).tmod 64 = (s : Int) := by rw [Int.tmod_eq_emod_of_nonneg (by omega)]; omega
  have K1 := hide (fun W => rknown_any t W ht)
  have K2 := hide (fun W => dknown_any t W ht)
  have K3 := hide (fun W => rwidth_any t W ht)
  have K4 := hide (fun W => dwidth_any t W ht)
  have L1 := hide (fun W => rknown_any s W (by omega))
  have L2 := hide (fun W => dknown_any s W (by omega))
  have L3 := hide (fun W => rwidth_any s W (by omega))
  have L4 := hide (fun W => dwidth_any s W (by omega))
  have hW := reW_le t
  have hW2 := reW_le s
  obtain ⟨b1, hb1⟩ : ∃ b, reK t = b := ⟨_, rfl⟩
  obtain ⟨b2, hb2⟩ : ∃ b, reK s = b := ⟨_, rfl⟩
  obtain ⟨q1, hq1⟩ : ∃ b, reW t = b := ⟨_, rfl⟩
  obtain ⟨q2, hq2⟩ : ∃ b, reW s = b := ⟨_, rfl⟩
  rw [hb1] at K1 K2
  rw [hb2] at L1 L2
  rw [hq1] at K3 K4 hW
  rw [hq2] at L3 L4 hW2
  clear hb1 hb2 hq1 hq2 hs
  have bb1 : (b1 == b1) = true := by simp
  have bb2 : (b2 == b2) = true := by simp
  go_enter Try.func4, Try.ntmps4
  go_wp2_with fail
  refine KN.out.mono ?_
  rintro e W1 ⟨rfl, bw1⟩
  have B1 := hide bw1
  clear bw1 KN
  go_wp2_with fail
  refine (K1.out _).mono ?_
  rintro e w' ⟨rfl, hw'⟩
  rw [hw']
  clear hw' w' K1
  go_wp2_with fail
  refine (K2.out _).mono ?_
  rintro e w' ⟨rfl, hw'⟩
  rw [hw']
  clear hw' w' K2
  go_wp2_with fail
  refine (K3.out _).mono ?_
  rintro e w' ⟨rfl, hw'⟩
  rw [hw']
  clear hw' w' K3
  go_wp2_with fail
  refine (K4.out _).mono ?_
  rintro e w' ⟨rfl, hw'⟩
  rw [hw']
  clear hw' w' K4
  go_wp2_with fail
  refine (L1.out _).mono ?_
  rintro e w' ⟨rfl, hw'⟩
  rw [hw']
  clear hw' w' L1
  go_wp2_with fail
  refine (L2.out _).mono ?_
  rintro e w' ⟨rfl, hw'⟩
  rw [hw']
  clear hw' w' L2
  go_wp2_with fail
  refine (L3.out _).mono ?_
  rintro e w' ⟨rfl, hw'⟩
  rw [hw']
  clear hw' w' L3
  go_wp2_with fail
  refine (L4.out _).mono ?_
  rintro e w' ⟨rfl, hw'⟩
  rw [hw']
  clear hw' w' L4
  go_wp2
  go_ret
  exact ⟨rfl, B1.out⟩

end Go.Proofs.Ytkmmffpipopjcaa
