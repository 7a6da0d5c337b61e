/- The statement SpanUps holds: for any number and any exponent the law returns true. No condition. -/
import Derived.Test.YtilipopcphiggaaRows
import Derived.WalkKit
import Derived.ProofKit
import Derived.OpenShut
import Derived.ShutString
import Derived.ChangeOld
import Derived.Below
import Derived.Test.YtilipopcphiggaaSpanUp
namespace Go.Proofs.Ytilipopcphiggaa.spanUps
open Go.ChangeShapes Go.WideShapes Go.ChangeAt Go.RowKit
open Go.ChangeMaps (open_string shut_string)
set_option linter.unusedVariables false

theorem own : ownKnob Try.prog.godebug = none := by kernel_rfl
theorem laidOut : laidOutB Try.prog = true := by kernel_rfl

/-! ### STEP 1: THE WALK: the Go text returns true, AND WRITES NOTHING THAT WAS THERE: 'Below w.heap.size w w'' (Derived/Below.lean: '.refl', '.alloc', '.drew', '.setCell' at a new block, '.trans'). Open each 'IsRow' by 'rcases' AHEAD of 'go_enter'; part every test ahead of the walk. -/
set_option maxHeartbeats 3200000 in
theorem walk (a0 : Int) (a1 : Int) (w : World) (w0 : (Lit.int .u64 a0).wf = true) (w1 : (Lit.int .u8 a1).wf = true) :
    Calls Try.prog 4 #[.int .u64 a0, .int .u8 a1] w fun e w' => e = .returned (.bool true) ∧ Below w.heap.size w w' := by
  obtain ⟨p0, p1⟩ := bounds_u64 w0
  obtain ⟨q0, q1⟩ := bounds_u8 w1
  clear w0 w1
  have hj : (a1 % 64).toNat ≤ 63 := by omega
  have b1 := pow_le_63 hj
  have b0 : (0 : Int) < 2 ^ (a1 % 64).toNat := Int.pow_pos (by decide)
  have hp := isPow_pow (a1 % 64).toNat
  have hlg : lg (2 ^ (a1 % 64).toNat) = a1 % 64 := by rw [lg_pow]; omega
  have cu := fun W : World => up_any a0 (2 ^ (a1 % 64).toNat) W p0 p1 (by omega) (by omega)
  have cp := fun W : World => pow2_any (2 ^ (a1 % 64).toNat) W (by omega) (by omega)
  have cl := fun W : World => log2_any (2 ^ (a1 % 64).toNat) W (by omega) (by omega)
  rw [hp] at cp
  rw [hlg] at cl
  have hb := upTo_bd hp p0
  have hm := upTo_mod a0 (2 ^ (a1 % 64).toNat)
  cases hok : upOk a0 (2 ^ (a1 % 64).toNat) with
  | false =>
    have e : upOf a0 (2 ^ (a1 % 64).toNat) = 0 := by unfold upOf; rw [hok]; rfl
    have hgt : ¬ upTo a0 (2 ^ (a1 % 64).toNat) ≤ 18446744073709551615 := by
      intro h
      unfold upOk at hok
      rw [hp, decide_eq_true h] at hok
      cases hok
    have hx : 18446744073709551615 - (2 ^ (a1 % 64).toNat - 1) < a0 := by omega
    rw [e, hok] at cu
    have C := hide cu
    clear cu cp cl hp hlg hb hm hok e hgt
    go_enter Try.func4, Try.ntmps4
    go_wp2_with fail
    refine (known_any _).mono ?_
    rintro e w1 ⟨rfl, hb⟩
    have B1 := hide hb
    clear hb
    go_wp2_with fail
    refine (C.out _).mono ?_
    rintro e w2 ⟨rfl, hb⟩
    have B2 : Hid (Below w.heap.size w w2) := B1.out.trans (hb.mono B1.out.size)
    clear hb B1
    go_wp2
    go_ret
    exact ⟨rfl, B2.out⟩
  | true =>
    have hle : upTo a0 (2 ^ (a1 % 64).toNat) ≤ 18446744073709551615 := by
      unfold upOk at hok
      simp only [Bool.and_eq_true, decide_eq_true_eq] at hok
      exact hok.2
    have e : upOf a0 (2 ^ (a1 % 64).toNat) = upTo a0 (2 ^ (a1 % 64).toNat) := by unfold upOf; rw [hok]; rfl
    rw [e, hok] at cu
    have hz := mask_pow hp (show 0 ≤ upTo a0 (2 ^ (a1 % 64).toNat) by omega) hle (by omega)
    rw [hm] at hz
    generalize upTo a0 (2 ^ (a1 % 64).toNat) = v at *
    obtain ⟨v0, v1⟩ := hb
    have hz' : (bits .and .u64 v (2 ^ (a1 % 64).toNat - 1) == 0) = true := by rw [hz]; rfl
    have C := hide cu
    have CP := hide cp
    have CL := hide cl
    clear cu cp cl hp hlg hok e hm hz
    go_enter Try.func4, Try.ntmps4
    go_wp2_with fail
    refine (known_any _).mono ?_
    rintro e w1 ⟨rfl, hb⟩
    have B1 := hide hb
    clear hb
    go_wp2_with fail
    refine (C.out _).mono ?_
    rintro e w2 ⟨rfl, hb⟩
    have B2 : Hid (Below w.heap.size w w2) := B1.out.trans (hb.mono B1.out.size)
    clear hb B1
    go_wp2_with fail
    refine (CP.out _).mono ?_
    rintro e W ⟨rfl, hW⟩
    rw [hW]
    clear hW W
    go_wp2_with fail
    refine (CL.out _).mono ?_
    rintro e W ⟨rfl, hW⟩
    rw [hW]
    clear hW W
    go_wp2
    go_ret
    exact ⟨ret_bool (by simp), B2.out⟩

/-! ### THE ROW's STEP: WRITTEN OUT: LEAVE IT -/
set_option maxRecDepth 100000 in
theorem lifted (os : Os) (started : os.Started) (H : Type) (enc : TypeId × Value → H) :
    ReturnsInHanded {} Try.checked os 4 .any (Rows.spanUpsSpec.pre6 enc Try.prog Try.f4 Rows.spanUpsRow.domain false) (Rows.spanUpsSpec.post enc Try.prog Try.f4 false true false false) := by
  refine returnsInHanded_of_change (C := Try.checked) own started (by kernel_rfl) Try.func4
    (ChangeSpec.witness6 (enc := enc) (C := Try.checked) false ⟨#[], #[.int .u64 0, .int .u8 0], []⟩ 8 (by kernel_rfl) (by kernel_rfl) (by kernel_rfl) (by kernel_rfl)) ?_
  intro W base args ds gs before hval0 hW hcnd _
  have hval : ∀ (j : Nat) t v, Try.f4.params[j]? = some t → args[j]? = some v → Value.okWide Try.prog W .any base t v := hval0
  have hW' := hW
  obtain ⟨p, q, hA0, hV, rfl, hfz, hnd⟩ := hW
  have hA : DataW.TrodAll enc Try.prog W 0 (fun _ => true) true Try.f4.params.toList args.toList ds p := hA0
  rw [Try.params4] at hA hval
  obtain ⟨v0, vs0, d0, ds0, p0, q0, hargs, rfl, rfl, h0, r0⟩ := trodAll_cons hA
  obtain ⟨v1, vs1, d1, ds1, p1, q1, rfl, rfl, rfl, h1, r1⟩ := trodAll_cons r0
  obtain ⟨rfl, rfl, rfl⟩ := trodAll_nil r1
  obtain rfl : args = #[v0, v1] := by cases args; simp_all
  obtain ⟨rfl, rfl⟩ := trodVars_none hV
  obtain ⟨a0, rfl, rfl, rfl, w0⟩ := open_int Try.underlying22 (hval 0 22 v0 rfl rfl) h0
  obtain ⟨a1, rfl, rfl, rfl, w1⟩ := open_int Try.underlying5 (hval 1 5 v1 rfl rfl) h1
  clear hA0 hval0
  refine (walk a0 a1 W w0 w1).mono fun e W' ⟨he, bel⟩ => ?_
  subst he
  exact ⟨_, rfl, _, _, _, [], _, [], hW', trodAll_mk1 (shut_bool Try.underlying4 _), (trodAll_cons_mk (shut_int Try.underlying22 w0) (trodAll_cons_mk (shut_int Try.underlying5 w1) trodAll_mk0)), rfl, bel.frame _, fun h => by cases h⟩

theorem over : Rows.spanUpsRow.holds Try.pinned (OpenSpec.ofChange Rows.spanUpsSpec) :=
  OpenClaim.holds_of_wide 4 Try.f4 rfl rfl rfl rfl rfl rfl rfl ⟨rfl, rfl, rfl, rfl, rfl⟩ rfl rfl rfl rfl rfl (by kernel_rfl) Try.func4 (by kernel_rfl)
    (of_decide_eq_true (by kernel_rfl)) (by unfold Func.isWrapper; first | (rw [if_pos (by decide +kernel)]; kernel_rfl) | (rw [if_neg (by decide +kernel)]; exact ⟨rfl, rfl⟩))
    (fun os started H enc _ => lifted os started H enc)

/-- ████ THE STATEMENT ████ -/
theorem proved : Rows.SpanUpsSaid := over
#print axioms proved
end Go.Proofs.Ytilipopcphiggaa.spanUps
namespace Go.Proofs.Ytilipopcphiggaa
theorem spanUps_holds : Rows.SpanUpsSaid := spanUps.proved
end Go.Proofs.Ytilipopcphiggaa
