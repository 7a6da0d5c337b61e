/- The statement ImmSigns holds: for any number and any number of bits the law returns true. No condition. -/
import Derived.Test.YtbkdpfjledieaaaRows
import Derived.WalkKit
import Derived.ProofKit
import Derived.OpenShut
import Derived.ShutString
import Derived.ChangeOld
import Derived.Below
import Derived.Test.YtbkdpfjledieaaaImmKnown
namespace Go.Proofs.Ytbkdpfjledieaaa.immSigns
open Go.ChangeShapes Go.WideShapes Go.ChangeAt Go.RowKit
open Go.ChangeMaps (open_string shut_string)
set_option linter.unusedVariables false

theorem own : ownKnob Try.prog.godebug = none := by kernel_rfl
theorem laidOut : laidOutB Try.prog = true := by kernel_rfl

/-! ### STEP 1: THE WALK: the Go text returns true, AND WRITES NOTHING THAT WAS THERE: 'Below w.heap.size w w'' (Derived/Below.lean: '.refl', '.alloc', '.drew', '.setCell' at a new block, '.trans'). Open each 'IsRow' by 'rcases' AHEAD of 'go_enter'; part every test ahead of the walk. -/
theorem walk (a0 : Int) (a1 : Int) (w : World) (w0 : (Lit.int .u64 a0).wf = true) (w1 : (Lit.int .u8 a1).wf = true) :
    Calls Try.prog 7 #[.int .u64 a0, .int .u8 a1] w fun e w' => e = .returned (.bool true) ∧ Below w.heap.size w w' := by
  obtain ⟨p0, p1⟩ := bounds_u64 w0
  obtain ⟨q0, q1⟩ := bounds_u8 w1
  clear w0 w1
  by_cases h63 : a1 % 64 = 63
  · have cs := hide (fun W : World => sign_any a0 64 W p0 p1 (by omega) (by omega))
    go_enter Try.func7, Try.ntmps7
    go_wp2_with fail
    refine (known_any _).mono ?_
    rintro e W ⟨rfl, hW⟩
    rw [hW]
    clear hW W
    go_wp2_with fail
    refine (cs.out _).mono ?_
    rintro e W ⟨rfl, hW⟩
    rw [hW]
    clear hW W
    go_wp2_with fail
    refine (cs.out _).mono ?_
    rintro e W ⟨rfl, hW⟩
    rw [hW]
    clear hW W
    go_wp2
    go_ret
    exact ⟨ret_bool (by simp), Below.refl _ _⟩
  · obtain ⟨k, hk⟩ : ∃ k : Nat, k = (a1 % 64).toNat := ⟨_, rfl⟩
    have hk1 : (a1 % 64 + 1).toNat = k + 1 := by omega
    have b0 : (0 : Int) < 2 ^ (a1 % 64 + 1).toNat := Int.pow_pos (by decide)
    have b1 : (2 : Int) ^ (a1 % 64 + 1).toNat ≤ 9223372036854775808 := pow_le_top (by omega)
    have c0 : (0 : Int) < 2 ^ (a1 % 64).toNat := Int.pow_pos (by decide)
    have c1 : (2 : Int) ^ (a1 % 64).toNat ≤ 4611686018427387904 := pow_le_half (by omega)
    have e : signOf a0 (a1 % 64 + 1) = sgn (k + 1) a0 := by unfold signOf; rw [if_neg (by omega), show (min (a1 % 64 + 1) 64).toNat = k + 1 by omega]
    have e2 : signOf (a0 % 2 ^ (a1 % 64 + 1).toNat) (a1 % 64 + 1) = sgn (k + 1) a0 := by
      unfold signOf; rw [if_neg (by omega), show (min (a1 % 64 + 1) 64).toNat = k + 1 by omega, hk1, sgn_emod]
    have hm := bits_mask .u64 64 (by decide) wraps_u64 (a1 % 64 + 1).toNat (by omega) a0 p0 (by omega)
    have m0 := Int.emod_nonneg a0 (show (2 : Int) ^ (a1 % 64 + 1).toNat ≠ 0 by omega)
    have m1 := Int.emod_lt_of_pos a0 b0
    have cs := fun W : World => sign_any a0 (a1 % 64 + 1) W p0 p1 (by omega) (by omega)
    have cs2 := fun W : World => sign_any (a0 % 2 ^ (a1 % 64 + 1).toNat) (a1 % 64 + 1) W m0 (by omega) (by omega) (by omega)
    rw [e] at cs
    rw [e2] at cs2
    have s0 := sgn_lo (k := k + 1) (by omega) a0
    have s1 := sgn_hi (k := k + 1) (by omega) a0
    have hd := bits_mask .u64 64 (by decide) wraps_u64 (a1 % 64 + 1).toNat (by omega) (sgn (k + 1) a0 % 18446744073709551616) (by omega) (by omega)
    rw [show sgn (k + 1) a0 % 18446744073709551616 % 2 ^ (a1 % 64 + 1).toNat = a0 % 2 ^ (a1 % 64 + 1).toNat by rw [hk1]; exact sgn_low (by omega) a0] at hd
    rw [Nat.add_sub_cancel] at s0 s1
    rw [show (2 : Int) ^ k = 2 ^ (a1 % 64).toNat by rw [hk]] at s0 s1
    generalize sgn (k + 1) a0 = s at *
    have HM := hide hm
    have hd' : (bits .and .u64 (IntKind.u64.wrap s) (2 ^ (a1 % 64 + 1).toNat - 1) == a0 % 2 ^ (a1 % 64 + 1).toNat) = true := by rw [IntKind.wrap_u64, hd]; simp
    have hn : (a1 % 64 + 1 == 64) = false := by simp; omega
    have CS := hide cs
    have CS2 := hide cs2
    clear hm hd cs cs2 e e2 hk hk1 k
    go_enter Try.func7, Try.ntmps7
    go_wp2_with fail
    refine (known_any _).mono ?_
    rintro e W ⟨rfl, hW⟩
    rw [hW]
    clear hW W
    go_wp2_with fail
    refine (CS.out _).mono ?_
    rintro e W ⟨rfl, hW⟩
    rw [hW]
    clear hW W
    go_wp2_with fail
    rw [HM.out]
    refine (CS2.out _).mono ?_
    rintro e W ⟨rfl, hW⟩
    rw [hW]
    clear hW W
    go_wp2
    go_ret
    exact ⟨ret_bool (by simp), Below.refl _ _⟩

/-! ### THE ROW's STEP: WRITTEN OUT: LEAVE IT -/
set_option maxRecDepth 100000 in
theorem lifted (os : Os) (started : os.Started) (H : Type) (enc : TypeId × Value → H) :
    ReturnsInHanded {} Try.checked os 7 .any (Rows.immSignsSpec.pre6 enc Try.prog Try.f7 Rows.immSignsRow.domain false) (Rows.immSignsSpec.post enc Try.prog Try.f7 false true false false) := by
  refine returnsInHanded_of_change (C := Try.checked) own started (by kernel_rfl) Try.func7
    (ChangeSpec.witness6 (enc := enc) (C := Try.checked) false ⟨#[], #[.int .u64 0, .int .u8 0], []⟩ 8 (by kernel_rfl) (by kernel_rfl) (by kernel_rfl) (by kernel_rfl)) ?_
  intro W base args ds gs before hval0 hW hcnd _
  have hval : ∀ (j : Nat) t v, Try.f7.params[j]? = some t → args[j]? = some v → Value.okWide Try.prog W .any base t v := hval0
  have hW' := hW
  obtain ⟨p, q, hA0, hV, rfl, hfz, hnd⟩ := hW
  have hA : DataW.TrodAll enc Try.prog W 0 (fun _ => true) true Try.f7.params.toList args.toList ds p := hA0
  rw [Try.params7] at hA hval
  obtain ⟨v0, vs0, d0, ds0, p0, q0, hargs, rfl, rfl, h0, r0⟩ := trodAll_cons hA
  obtain ⟨v1, vs1, d1, ds1, p1, q1, rfl, rfl, rfl, h1, r1⟩ := trodAll_cons r0
  obtain ⟨rfl, rfl, rfl⟩ := trodAll_nil r1
  obtain rfl : args = #[v0, v1] := by cases args; simp_all
  obtain ⟨rfl, rfl⟩ := trodVars_none hV
  obtain ⟨a0, rfl, rfl, rfl, w0⟩ := open_int Try.underlying23 (hval 0 23 v0 rfl rfl) h0
  obtain ⟨a1, rfl, rfl, rfl, w1⟩ := open_int Try.underlying5 (hval 1 5 v1 rfl rfl) h1
  clear hA0 hval0
  refine (walk a0 a1 W w0 w1).mono fun e W' ⟨he, bel⟩ => ?_
  subst he
  exact ⟨_, rfl, _, _, _, [], _, [], hW', trodAll_mk1 (shut_bool Try.underlying4 _), (trodAll_cons_mk (shut_int Try.underlying23 w0) (trodAll_cons_mk (shut_int Try.underlying5 w1) trodAll_mk0)), rfl, bel.frame _, fun h => by cases h⟩

theorem over : Rows.immSignsRow.holds Try.pinned (OpenSpec.ofChange Rows.immSignsSpec) :=
  OpenClaim.holds_of_wide 7 Try.f7 rfl rfl rfl rfl rfl rfl rfl ⟨rfl, rfl, rfl, rfl, rfl⟩ rfl rfl rfl rfl rfl (by kernel_rfl) Try.func7 (by kernel_rfl)
    (of_decide_eq_true (by kernel_rfl)) (by unfold Func.isWrapper; first | (rw [if_pos (by decide +kernel)]; kernel_rfl) | (rw [if_neg (by decide +kernel)]; exact ⟨rfl, rfl⟩))
    (fun os started H enc _ => lifted os started H enc)

/-- ████ THE STATEMENT ████ -/
theorem proved : Rows.ImmSignsSaid := over
#print axioms proved
end Go.Proofs.Ytbkdpfjledieaaa.immSigns
namespace Go.Proofs.Ytbkdpfjledieaaa
theorem immSigns_holds : Rows.ImmSignsSaid := immSigns.proved
end Go.Proofs.Ytbkdpfjledieaaa
