/- The statement ImmBack holds: for any kind of form, any two words and any number the law returns true. No condition. -/
import Derived.Test.YtbkdpfjledieaaaRows
import Derived.WalkKit
import Derived.ProofKit
import Derived.OpenShut
import Derived.ShutString
import Derived.ChangeOld
import Derived.Below
import Derived.Test.YtbkdpfjledieaaaImmBits
namespace Go.Proofs.Ytbkdpfjledieaaa.immBack
open Go.ChangeShapes Go.WideShapes Go.ChangeAt Go.RowKit
open Go.ChangeMaps (open_string shut_string)
set_option linter.unusedVariables false

theorem own : ownKnob Try.prog.godebug = none := by kernel_rfl
theorem laidOut : laidOutB Try.prog = true := by kernel_rfl

/-! ### STEP 1: THE WALK: the Go text returns true, AND WRITES NOTHING THAT WAS THERE: 'Below w.heap.size w w'' (Derived/Below.lean: '.refl', '.alloc', '.drew', '.setCell' at a new block, '.trans'). Open each 'IsRow' by 'rcases' AHEAD of 'go_enter'; part every test ahead of the walk. -/
set_option maxHeartbeats 1600000 in
theorem walk (a0 : Int) (a1 : Int) (a2 : Int) (a3 : Int) (w : World) (w0 : (Lit.int .u8 a0).wf = true) (w1 : (Lit.int .u32 a1).wf = true) (w2 : (Lit.int .u32 a2).wf = true) (w3 : (Lit.int .i64 a3).wf = true) :
    Calls Try.prog 4 #[.int .u8 a0, .int .u32 a1, .int .u32 a2, .int .i64 a3] w fun e w' => e = .returned (.bool true) ∧ Below w.heap.size w w' := by
  obtain ⟨k0, k1⟩ := bounds_u8 w0
  obtain ⟨x0, x1⟩ := bounds_u32 w1
  obtain ⟨y0, y1⟩ := bounds_u32 w2
  obtain ⟨v0, v1⟩ := bounds_i64 w3
  clear w0 w1 w2 w3
  obtain ⟨g0, g1⟩ := get_bd (1 + a0 % 5) a1
  have cg := fun W : World => get_any (1 + a0 % 5) a1 W x0 x1
  have cs := fun W : World => put_any (1 + a0 % 5) a1 (getOf (1 + a0 % 5) a1) W x0 x1 (by omega) (by omega)
  have cfg := fun W : World => fits_any (1 + a0 % 5) (getOf (1 + a0 % 5) a1) W (by omega) (by omega)
  have es : putOf (1 + a0 % 5) a1 (getOf (1 + a0 % 5) a1) = a1 := by unfold putOf; rw [fits_get, if_pos rfl, set_get _ _ x0 x1]
  rw [es, fits_get] at cs
  rw [fits_get] at cfg
  have cx := fun W : World => put_any (1 + a0 % 5) a1 a3 W x0 x1 v0 v1
  have cfv := fun W : World => fits_any (1 + a0 % 5) a3 W v0 v1
  clear es
  cases hq : fitsOf (1 + a0 % 5) a3 with
  | false =>
    have e : putOf (1 + a0 % 5) a1 a3 = 0 := by unfold putOf; rw [hq]; rfl
    rw [e, hq] at cx
    rw [hq] at cfv
    generalize getOf (1 + a0 % 5) a1 = g at *
    have CG := hide cg
    have CS := hide cs
    have CFG := hide cfg
    have CX := hide cx
    have CFV := hide cfv
    clear cg cs cfg cx cfv hq e
    go_enter Try.func4, Try.ntmps4
    go_wp2_with fail
    refine (known_any _).mono ?_
    rintro e W ⟨rfl, hW⟩
    rw [hW]
    clear hW W
    go_wp2_with fail
    refine (CG.out _).mono ?_
    rintro e W ⟨rfl, hW⟩
    rw [hW]
    clear hW W
    go_wp2_with fail
    refine (CS.out _).mono ?_
    rintro e W ⟨rfl, hW⟩
    rw [hW]
    clear hW W
    go_wp2_with fail
    refine (CFG.out _).mono ?_
    rintro e W ⟨rfl, hW⟩
    rw [hW]
    clear hW W
    go_wp2_with fail
    refine (CX.out _).mono ?_
    rintro e W ⟨rfl, hW⟩
    rw [hW]
    clear hW W
    go_wp2_with fail
    refine (CFV.out _).mono ?_
    rintro e W ⟨rfl, hW⟩
    rw [hW]
    clear hW W
    go_wp2
    go_ret
    exact ⟨rfl, Below.refl _ _⟩
  | true =>
    have e : ∀ z, putOf (1 + a0 % 5) z a3 = setOf (1 + a0 % 5) z a3 := fun z => by unfold putOf; rw [hq]; rfl
    have e0 : ∀ z, putOf (1 + a0 % 5) z 0 = setOf (1 + a0 % 5) z 0 := fun z => by unfold putOf; rw [fits_zero]; rfl
    rw [e, hq] at cx
    have cy := fun W : World => put_any (1 + a0 % 5) a2 a3 W y0 y1 v0 v1
    rw [e, hq] at cy
    have ca := fun W : World => put_any (1 + a0 % 5) a1 0 W x0 x1 (by decide) (by decide)
    rw [e0, fits_zero] at ca
    have cb := fun W : World => put_any (1 + a0 % 5) 0 0 W (by decide) (by decide) (by decide) (by decide)
    rw [e0, fits_zero, set_noughts] at cb
    obtain ⟨p0, p1⟩ := set_bd (1 + a0 % 5) a1 a3 x0 x1
    obtain ⟨q0, q1⟩ := set_bd (1 + a0 % 5) a2 a3 y0 y1
    obtain ⟨r0, r1⟩ := set_bd (1 + a0 % 5) a1 0 x0 x1
    have cgx := fun W : World => get_any (1 + a0 % 5) (setOf (1 + a0 % 5) a1 a3) W p0 p1
    rw [get_set _ _ _ x0 x1 hq] at cgx
    have clf := fun W : World => lfield_any (1 + a0 % 5) W (by omega) (by omega)
    have m1 : (bits .andNot .u32 (bits .xor .u32 (setOf (1 + a0 % 5) a1 a3) a1) (fmOf (1 + a0 % 5)) == 0) = true := by rw [set_same _ _ _ x0 x1]; rfl
    have m2 : (bits .andNot .u32 (bits .xor .u32 (bits .xor .u32 (bits .xor .u32 (setOf (1 + a0 % 5) a1 a3) (setOf (1 + a0 % 5) a2 a3)) a1) a2) (fmOf (1 + a0 % 5)) == 0) = true := by rw [set_other _ _ _ _ x0 x1 y0 y1]; rfl
    have m3 : (bits .and .u32 (setOf (1 + a0 % 5) a1 0) (fmOf (1 + a0 % 5)) == 0) = true := by rw [set_nought _ _ x0 x1]; rfl
    have fl := fm_le (1 + a0 % 5)
    generalize getOf (1 + a0 % 5) a1 = g at *
    generalize setOf (1 + a0 % 5) a1 a3 = X at *
    generalize setOf (1 + a0 % 5) a2 a3 = Y at *
    generalize setOf (1 + a0 % 5) a1 0 = A at *
    generalize fmOf (1 + a0 % 5) = M at *
    have CG := hide cg
    have CS := hide cs
    have CFG := hide cfg
    have CX := hide cx
    have CY := hide cy
    have CA := hide ca
    have CB := hide cb
    have CGX := hide cgx
    have CLF := hide clf
    clear cg cs cfg cx cfv cy ca cb cgx clf hq e e0
    go_enter Try.func4, Try.ntmps4
    go_wp2_with fail
    refine (known_any _).mono ?_
    rintro e W ⟨rfl, hW⟩
    rw [hW]
    clear hW W
    go_wp2_with fail
    refine (CG.out _).mono ?_
    rintro e W ⟨rfl, hW⟩
    rw [hW]
    clear hW W
    go_wp2_with fail
    refine (CS.out _).mono ?_
    rintro e W ⟨rfl, hW⟩
    rw [hW]
    clear hW W
    go_wp2_with fail
    refine (CFG.out _).mono ?_
    rintro e W ⟨rfl, hW⟩
    rw [hW]
    clear hW W
    go_wp2_with fail
    refine (CX.out _).mono ?_
    rintro e W ⟨rfl, hW⟩
    rw [hW]
    clear hW W
    go_wp2_with fail
    refine (CY.out _).mono ?_
    rintro e W ⟨rfl, hW⟩
    rw [hW]
    clear hW W
    go_wp2_with fail
    refine (CA.out _).mono ?_
    rintro e W ⟨rfl, hW⟩
    rw [hW]
    clear hW W
    go_wp2_with fail
    refine (CB.out _).mono ?_
    rintro e W ⟨rfl, hW⟩
    rw [hW]
    clear hW W
    go_wp2_with fail
    refine (CGX.out _).mono ?_
    rintro e W ⟨rfl, hW⟩
    rw [hW]
    clear hW W
    go_wp2_with fail
    refine (CLF.out _).mono ?_
    rintro e W ⟨rfl, hW⟩
    rw [hW]
    clear hW W
    go_wp2_with fail
    refine (CLF.out _).mono ?_
    rintro e W ⟨rfl, hW⟩
    rw [hW]
    clear hW W
    go_wp2_with fail
    refine (CLF.out _).mono ?_
    rintro e W ⟨rfl, hW⟩
    rw [hW]
    clear hW W
    go_wp2
    go_ret
    exact ⟨rfl, Below.refl _ _⟩

/-! ### THE ROW's STEP: WRITTEN OUT: LEAVE IT -/
set_option maxRecDepth 100000 in
theorem lifted (os : Os) (started : os.Started) (H : Type) (enc : TypeId × Value → H) :
    ReturnsInHanded {} Try.checked os 4 .any (Rows.immBackSpec.pre6 enc Try.prog Try.f4 Rows.immBackRow.domain false) (Rows.immBackSpec.post enc Try.prog Try.f4 false true false false) := by
  refine returnsInHanded_of_change (C := Try.checked) own started (by kernel_rfl) Try.func4
    (ChangeSpec.witness6 (enc := enc) (C := Try.checked) false ⟨#[], #[.int .u8 0, .int .u32 0, .int .u32 0, .int .i64 0], []⟩ 8 (by kernel_rfl) (by kernel_rfl) (by kernel_rfl) (by kernel_rfl)) ?_
  intro W base args ds gs before hval0 hW hcnd _
  have hval : ∀ (j : Nat) t v, Try.f4.params[j]? = some t → args[j]? = some v → Value.okWide Try.prog W .any base t v := hval0
  have hW' := hW
  obtain ⟨p, q, hA0, hV, rfl, hfz, hnd⟩ := hW
  have hA : DataW.TrodAll enc Try.prog W 0 (fun _ => true) true Try.f4.params.toList args.toList ds p := hA0
  rw [Try.params4] at hA hval
  obtain ⟨v0, vs0, d0, ds0, p0, q0, hargs, rfl, rfl, h0, r0⟩ := trodAll_cons hA
  obtain ⟨v1, vs1, d1, ds1, p1, q1, rfl, rfl, rfl, h1, r1⟩ := trodAll_cons r0
  obtain ⟨v2, vs2, d2, ds2, p2, q2, rfl, rfl, rfl, h2, r2⟩ := trodAll_cons r1
  obtain ⟨v3, vs3, d3, ds3, p3, q3, rfl, rfl, rfl, h3, r3⟩ := trodAll_cons r2
  obtain ⟨rfl, rfl, rfl⟩ := trodAll_nil r3
  obtain rfl : args = #[v0, v1, v2, v3] := by cases args; simp_all
  obtain ⟨rfl, rfl⟩ := trodVars_none hV
  obtain ⟨a0, rfl, rfl, rfl, w0⟩ := open_int Try.underlying5 (hval 0 5 v0 rfl rfl) h0
  obtain ⟨a1, rfl, rfl, rfl, w1⟩ := open_int Try.underlying22 (hval 1 22 v1 rfl rfl) h1
  obtain ⟨a2, rfl, rfl, rfl, w2⟩ := open_int Try.underlying22 (hval 2 22 v2 rfl rfl) h2
  obtain ⟨a3, rfl, rfl, rfl, w3⟩ := open_int Try.underlying2 (hval 3 2 v3 rfl rfl) h3
  clear hA0 hval0
  refine (walk a0 a1 a2 a3 W w0 w1 w2 w3).mono fun e W' ⟨he, bel⟩ => ?_
  subst he
  exact ⟨_, rfl, _, _, _, [], _, [], hW', trodAll_mk1 (shut_bool Try.underlying4 _), (trodAll_cons_mk (shut_int Try.underlying5 w0) (trodAll_cons_mk (shut_int Try.underlying22 w1) (trodAll_cons_mk (shut_int Try.underlying22 w2) (trodAll_cons_mk (shut_int Try.underlying2 w3) trodAll_mk0)))), rfl, bel.frame _, fun h => by cases h⟩

theorem over : Rows.immBackRow.holds Try.pinned (OpenSpec.ofChange Rows.immBackSpec) :=
  OpenClaim.holds_of_wide 4 Try.f4 rfl rfl rfl rfl rfl rfl rfl ⟨rfl, rfl, rfl, rfl, rfl⟩ rfl rfl rfl rfl rfl (by kernel_rfl) Try.func4 (by kernel_rfl)
    (of_decide_eq_true (by kernel_rfl)) (by unfold Func.isWrapper; first | (rw [if_pos (by decide +kernel)]; kernel_rfl) | (rw [if_neg (by decide +kernel)]; exact ⟨rfl, rfl⟩))
    (fun os started H enc _ => lifted os started H enc)

/-- ████ THE STATEMENT ████ -/
theorem proved : Rows.ImmBackSaid := over
#print axioms proved
end Go.Proofs.Ytbkdpfjledieaaa.immBack
namespace Go.Proofs.Ytbkdpfjledieaaa
theorem immBack_holds : Rows.ImmBackSaid := immBack.proved
end Go.Proofs.Ytbkdpfjledieaaa
