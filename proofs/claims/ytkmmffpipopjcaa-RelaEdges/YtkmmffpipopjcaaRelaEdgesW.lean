/- The walk of RelaEdges. -/
import Derived.Test.YtkmmffpipopjcaaRelaKnown
namespace Go.Proofs.Ytkmmffpipopjcaa
open Go.RowKit
set_option linter.unusedVariables false
set_option linter.unusedSimpArgs false

theorem one_ok (off s : Nat) (hs : s < 64) (ho : off < 18446744073709551616) : ∀ x ∈ [(⟨off, s, 0, 0⟩ : Re)], x.Ok := fun x hx => by
  simp at hx
  subst hx
  exact ⟨ho, show s < 4294967296 by omega, show (0 : Nat) < 4294967296 by decide, show (-9223372036854775808 : Int) ≤ 0 ∧ (0 : Int) ≤ 9223372036854775807 by decide⟩

/-- The last place. -/
theorem edge_of (s size less off : Nat) (hs : s < 64) (hz : size < 18446744073709551616) (hl : less < 18446744073709551616) (ho : (off : Int) = ((size : Int) - (less : Int)) % 18446744073709551616) :
    relOk (resL [⟨off, s, 0, 0⟩]) size 1 ↔ less ≤ size ∧ reW s ≤ less := by
  have hW := reW_le s
  have hok := one_ok off s hs (by omega)
  rw [rel_laid _ _ _ hok (by simp)]
  have e : (∀ x ∈ [(⟨off, s, 0, 0⟩ : Re)], reB x size 1 = true) ↔ off + reW s ≤ size := by
    simp [reB]
  rw [e]
  omega

set_option maxHeartbeats 3200000 in
set_option maxRecDepth 20000 in
theorem relaedges_walk (t size less : Nat) (w : World) (ht : t < 4294967296) (hz : size < 18446744073709551616) (hl : less < 18446744073709551616) :
    Calls Try.prog 5 #[.int .u32 (t : Int), .int .u64 (size : Int), .int .u64 (less : Int)] w fun e w' => e = .returned (.bool true) ∧ Below w.heap.size w w' := by
  have KN := hide (known_13 w)
  obtain ⟨s, hs⟩ : ∃ s : Nat, t % 64 = s := ⟨_, rfl⟩
  have hs1 : s < 64 := by omega
  have m0 : (t : Int).tmod 64 = (s : Int) := by rw [Int.tmod_eq_emod_of_nonneg (by omega)]; omega
  obtain ⟨off, ho⟩ : ∃ o : Nat, (o : Int) = ((size : Int) - (less : Int)) % 18446744073709551616 := ⟨(((size : Int) - (less : Int)) % 18446744073709551616).toNat, by omega⟩
  have ho1 : off < 18446744073709551616 := by omega
  have m1 : IntKind.u64.wrap ((size : Int) - (less : Int)) = (off : Int) := by rw [IntKind.wrap_u64, ho]
  have HE := hide (edge_of s size less off hs1 hz hl ho)
  have L3 := hide (fun W => rwidth_any s W (by omega))
  have hW2 := reW_le s
  obtain ⟨q2, hq2⟩ : ∃ b, reW s = b := ⟨_, rfl⟩
  rw [hq2] at L3 hW2 HE
  have i1 : IntKind.u64.wrap (q2 : Int) = (q2 : Int) := u64_wrap_id _ (by omega) (by omega)
  have hok := one_ok off s hs1 ho1
  have HOK := hide hok
  clear hq2 hs ho hok
  go_enter Try.func5, Try.ntmps5
  go_wp2_with fail
  refine KN.out.mono ?_
  rintro e W1 ⟨rfl, bw1⟩
  have B1 := hide bw1
  have z1 := bw1.size
  clear bw1 KN
  go_wp2_with fail
  refine (L3.out _).mono ?_
  rintro e w' ⟨rfl, hw'⟩
  rw [hw']
  clear hw' w' L3
  have r0 : Rl (W1.alloc (.cells #[.int .u64 (off : Int), .int .u32 (s : Int), .int .u32 0, .int .i64 0] 40)) (some ⟨W1.heap.size, 0, none⟩) 1 1 [(⟨off, s, 0, 0⟩ : Re)] := Rr.lit (C := reC) W1 40 [(⟨off, s, 0, 0⟩ : Re)] HOK.out (by simp)
  have b0 : Below W1.heap.size W1 (W1.alloc (.cells #[.int .u64 (off : Int), .int .u32 (s : Int), .int .u32 0, .int .i64 0] 40)) := (Below.refl _ _).alloc (Nat.le_refl _) _
  have B2 := hide (B1.out.trans (b0.mono z1))
  have z2 := B2.out.size
  have MA := hide (relbytes_any (some ⟨W1.heap.size, 0, none⟩) 1 1 [⟨off, s, 0, 0⟩] _ r0 (by decide))
  clear r0 b0 B1
  go_wp2_with fail
  refine MA.out.mono ?_
  rintro e W3 ⟨a1, c1, rfl, r1, b1⟩
  have B3 := hide (B2.out.trans (b1.mono z2))
  have z3 := B3.out.size
  have PA := hide (relparse_any a1 24 c1 (resL [⟨off, s, 0, 0⟩]) size 1 W3 r1 hz (by decide) (by decide))
  clear r1 b1 MA B2 z2
  go_wp2_with fail
  refine PA.out.mono ?_
  rintro e W4 ⟨hp, b4⟩
  have B4 := hide (B3.out.trans (b4.mono z3))
  clear b4 PA B3 z3
  by_cases h1 : less ≤ size
  · have h1' : (less : Int) ≤ (size : Int) := by omega
    by_cases h2 : q2 ≤ less
    · have h2' : (q2 : Int) ≤ (less : Int) := by omega
      rcases hp with ⟨_, a9, c9, rfl, _⟩ | ⟨hno, _⟩
      · go_wp2
        go_ret
        exact ⟨rfl, B4.out⟩
      · exact absurd (HE.out.2 ⟨h1, h2⟩) hno
    · have h2' : ¬ (q2 : Int) ≤ (less : Int) := by omega
      rcases hp with ⟨hyes, _⟩ | ⟨_, rfl⟩
      · exact absurd (HE.out.1 hyes).2 h2
      · go_wp2
        go_ret
        exact ⟨rfl, B4.out⟩
  · have h1' : ¬ (less : Int) ≤ (size : Int) := by omega
    rcases hp with ⟨hyes, _⟩ | ⟨_, rfl⟩
    · exact absurd (HE.out.1 hyes).1 h1
    · go_wp2
      go_ret
      exact ⟨rfl, B4.out⟩

end Go.Proofs.Ytkmmffpipopjcaa
