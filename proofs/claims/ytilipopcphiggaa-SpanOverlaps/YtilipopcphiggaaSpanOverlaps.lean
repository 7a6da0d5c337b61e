/- The statement SpanOverlaps holds: for any two ranges and any number the law returns true. No condition. -/
import Derived.Test.YtilipopcphiggaaRows
import Derived.WalkKit
import Derived.ProofKit
import Derived.OpenShut
import Derived.ShutString
import Derived.ChangeOld
import Derived.Below
import Derived.Test.YtilipopcphiggaaSpanUp
namespace Go.Proofs.Ytilipopcphiggaa.spanOverlaps
open Go.ChangeShapes Go.WideShapes Go.ChangeAt Go.RowKit
open Go.ChangeMaps (open_string shut_string)
set_option linter.unusedVariables false

theorem own : ownKnob Try.prog.godebug = none := by kernel_rfl
theorem laidOut : laidOutB Try.prog = true := by kernel_rfl

/-! ### STEP 1: THE WALK: the Go text returns true, AND WRITES NOTHING THAT WAS THERE: 'Below w.heap.size w w'' (Derived/Below.lean: '.refl', '.alloc', '.drew', '.setCell' at a new block, '.trans'). Open each 'IsRow' by 'rcases' AHEAD of 'go_enter'; part every test ahead of the walk. -/
set_option maxHeartbeats 3200000 in
theorem walk (a0 : Int) (a1 : Int) (a2 : Int) (a3 : Int) (a4 : Int) (w : World) (w0 : (Lit.int .u64 a0).wf = true) (w1 : (Lit.int .u64 a1).wf = true) (w2 : (Lit.int .u64 a2).wf = true) (w3 : (Lit.int .u64 a3).wf = true) (w4 : (Lit.int .u64 a4).wf = true) :
    Calls Try.prog 5 #[.int .u64 a0, .int .u64 a1, .int .u64 a2, .int .u64 a3, .int .u64 a4] w fun e w' => e = .returned (.bool true) ∧ Below w.heap.size w w' := by
  obtain ⟨p0, p1⟩ := bounds_u64 w0
  obtain ⟨q0, q1⟩ := bounds_u64 w1
  obtain ⟨r0, r1⟩ := bounds_u64 w2
  obtain ⟨s0, s1⟩ := bounds_u64 w3
  obtain ⟨t0, t1⟩ := bounds_u64 w4
  clear w0 w1 w2 w3 w4
  have co := fun W : World => overlap_any a0 a1 a2 a3 W p0 p1 q0 q1 r0 r1 s0 s1
  have co' := fun W : World => overlap_any a2 a3 a0 a1 W r0 r1 s0 s1 p0 p1 q0 q1
  have es : overlapOf a2 a3 a0 a1 = overlapOf a0 a1 a2 a3 := by unfold overlapOf; rw [Bool.eq_iff_iff]; simp; omega
  rw [es] at co'
  clear es
  by_cases h : 0 < a1 ∧ 0 < a3 ∧ a0 < a2 + a3 ∧ a2 < a0 + a1
  · obtain ⟨h1, h2, h3, h4⟩ := h
    have e : overlapOf a0 a1 a2 a3 = true := by unfold overlapOf; simp; omega
    rw [e] at co co'
    clear e
    have C := hide co
    have C' := hide co'
    clear co co'
    have n1 : (a1 == 0) = false := by simp; omega
    have n3 : (a3 == 0) = false := by simp; omega
    by_cases c0 : a0 ≤ a2
    · by_cases c1 : a0 ≤ a4
      · by_cases c2 : a2 ≤ a4
        · go_enter Try.func5, Try.ntmps5
          go_wp2_with fail
          refine (known_any _).mono ?_
          rintro e w1 ⟨rfl, B1⟩
          go_wp2_with fail
          refine (C.out _).mono ?_
          rintro e W ⟨rfl, hW⟩
          rw [hW]
          clear hW W
          go_wp2_with fail
          refine (C'.out _).mono ?_
          rintro e W ⟨rfl, hW⟩
          rw [hW]
          clear hW W
          go_wp2
          all_goals go_ret
          all_goals exact ⟨ret_bool (by first | rfl | (simp; omega) | (exfalso; omega)), B1⟩
        · go_enter Try.func5, Try.ntmps5
          go_wp2_with fail
          refine (known_any _).mono ?_
          rintro e w1 ⟨rfl, B1⟩
          go_wp2_with fail
          refine (C.out _).mono ?_
          rintro e W ⟨rfl, hW⟩
          rw [hW]
          clear hW W
          go_wp2_with fail
          refine (C'.out _).mono ?_
          rintro e W ⟨rfl, hW⟩
          rw [hW]
          clear hW W
          go_wp2
          all_goals go_ret
          all_goals exact ⟨ret_bool (by first | rfl | (simp; omega) | (exfalso; omega)), B1⟩
      · by_cases c2 : a2 ≤ a4
        · go_enter Try.func5, Try.ntmps5
          go_wp2_with fail
          refine (known_any _).mono ?_
          rintro e w1 ⟨rfl, B1⟩
          go_wp2_with fail
          refine (C.out _).mono ?_
          rintro e W ⟨rfl, hW⟩
          rw [hW]
          clear hW W
          go_wp2_with fail
          refine (C'.out _).mono ?_
          rintro e W ⟨rfl, hW⟩
          rw [hW]
          clear hW W
          go_wp2
          all_goals go_ret
          all_goals exact ⟨ret_bool (by first | rfl | (simp; omega) | (exfalso; omega)), B1⟩
        · go_enter Try.func5, Try.ntmps5
          go_wp2_with fail
          refine (known_any _).mono ?_
          rintro e w1 ⟨rfl, B1⟩
          go_wp2_with fail
          refine (C.out _).mono ?_
          rintro e W ⟨rfl, hW⟩
          rw [hW]
          clear hW W
          go_wp2_with fail
          refine (C'.out _).mono ?_
          rintro e W ⟨rfl, hW⟩
          rw [hW]
          clear hW W
          go_wp2
          all_goals go_ret
          all_goals exact ⟨ret_bool (by first | rfl | (simp; omega) | (exfalso; omega)), B1⟩
    · by_cases c1 : a0 ≤ a4
      · by_cases c2 : a2 ≤ a4
        · go_enter Try.func5, Try.ntmps5
          go_wp2_with fail
          refine (known_any _).mono ?_
          rintro e w1 ⟨rfl, B1⟩
          go_wp2_with fail
          refine (C.out _).mono ?_
          rintro e W ⟨rfl, hW⟩
          rw [hW]
          clear hW W
          go_wp2_with fail
          refine (C'.out _).mono ?_
          rintro e W ⟨rfl, hW⟩
          rw [hW]
          clear hW W
          go_wp2
          all_goals go_ret
          all_goals exact ⟨ret_bool (by first | rfl | (simp; omega) | (exfalso; omega)), B1⟩
        · go_enter Try.func5, Try.ntmps5
          go_wp2_with fail
          refine (known_any _).mono ?_
          rintro e w1 ⟨rfl, B1⟩
          go_wp2_with fail
          refine (C.out _).mono ?_
          rintro e W ⟨rfl, hW⟩
          rw [hW]
          clear hW W
          go_wp2_with fail
          refine (C'.out _).mono ?_
          rintro e W ⟨rfl, hW⟩
          rw [hW]
          clear hW W
          go_wp2
          all_goals go_ret
          all_goals exact ⟨ret_bool (by first | rfl | (simp; omega) | (exfalso; omega)), B1⟩
      · by_cases c2 : a2 ≤ a4
        · go_enter Try.func5, Try.ntmps5
          go_wp2_with fail
          refine (known_any _).mono ?_
          rintro e w1 ⟨rfl, B1⟩
          go_wp2_with fail
          refine (C.out _).mono ?_
          rintro e W ⟨rfl, hW⟩
          rw [hW]
          clear hW W
          go_wp2_with fail
          refine (C'.out _).mono ?_
          rintro e W ⟨rfl, hW⟩
          rw [hW]
          clear hW W
          go_wp2
          all_goals go_ret
          all_goals exact ⟨ret_bool (by first | rfl | (simp; omega) | (exfalso; omega)), B1⟩
        · go_enter Try.func5, Try.ntmps5
          go_wp2_with fail
          refine (known_any _).mono ?_
          rintro e w1 ⟨rfl, B1⟩
          go_wp2_with fail
          refine (C.out _).mono ?_
          rintro e W ⟨rfl, hW⟩
          rw [hW]
          clear hW W
          go_wp2_with fail
          refine (C'.out _).mono ?_
          rintro e W ⟨rfl, hW⟩
          rw [hW]
          clear hW W
          go_wp2
          all_goals go_ret
          all_goals exact ⟨ret_bool (by first | rfl | (simp; omega) | (exfalso; omega)), B1⟩
  · have e : overlapOf a0 a1 a2 a3 = false := by unfold overlapOf; rw [Bool.eq_false_iff]; simp; omega
    rw [e] at co co'
    clear e
    have C := hide co
    have C' := hide co'
    clear co co'
    by_cases c0 : a0 ≤ a4
    · by_cases c1 : a2 ≤ a4
      · go_enter Try.func5, Try.ntmps5
        go_wp2_with fail
        refine (known_any _).mono ?_
        rintro e w1 ⟨rfl, B1⟩
        go_wp2_with fail
        refine (C.out _).mono ?_
        rintro e W ⟨rfl, hW⟩
        rw [hW]
        clear hW W
        go_wp2_with fail
        refine (C'.out _).mono ?_
        rintro e W ⟨rfl, hW⟩
        rw [hW]
        clear hW W
        go_wp2
        all_goals go_ret
        all_goals exact ⟨ret_bool (by first | rfl | (simp; omega) | (exfalso; omega)), B1⟩
      · go_enter Try.func5, Try.ntmps5
        go_wp2_with fail
        refine (known_any _).mono ?_
        rintro e w1 ⟨rfl, B1⟩
        go_wp2_with fail
        refine (C.out _).mono ?_
        rintro e W ⟨rfl, hW⟩
        rw [hW]
        clear hW W
        go_wp2_with fail
        refine (C'.out _).mono ?_
        rintro e W ⟨rfl, hW⟩
        rw [hW]
        clear hW W
        go_wp2
        all_goals go_ret
        all_goals exact ⟨ret_bool (by first | rfl | (simp; omega) | (exfalso; omega)), B1⟩
    · by_cases c1 : a2 ≤ a4
      · go_enter Try.func5, Try.ntmps5
        go_wp2_with fail
        refine (known_any _).mono ?_
        rintro e w1 ⟨rfl, B1⟩
        go_wp2_with fail
        refine (C.out _).mono ?_
        rintro e W ⟨rfl, hW⟩
        rw [hW]
        clear hW W
        go_wp2_with fail
        refine (C'.out _).mono ?_
        rintro e W ⟨rfl, hW⟩
        rw [hW]
        clear hW W
        go_wp2
        all_goals go_ret
        all_goals exact ⟨ret_bool (by first | rfl | (simp; omega) | (exfalso; omega)), B1⟩
      · go_enter Try.func5, Try.ntmps5
        go_wp2_with fail
        refine (known_any _).mono ?_
        rintro e w1 ⟨rfl, B1⟩
        go_wp2_with fail
        refine (C.out _).mono ?_
        rintro e W ⟨rfl, hW⟩
        rw [hW]
        clear hW W
        go_wp2_with fail
        refine (C'.out _).mono ?_
        rintro e W ⟨rfl, hW⟩
        rw [hW]
        clear hW W
        go_wp2
        all_goals go_ret
        all_goals exact ⟨ret_bool (by first | rfl | (simp; omega) | (exfalso; omega)), B1⟩

/-! ### THE ROW's STEP: WRITTEN OUT: LEAVE IT -/
set_option maxRecDepth 100000 in
theorem lifted (os : Os) (started : os.Started) (H : Type) (enc : TypeId × Value → H) :
    ReturnsInHanded {} Try.checked os 5 .any (Rows.spanOverlapsSpec.pre6 enc Try.prog Try.f5 Rows.spanOverlapsRow.domain false) (Rows.spanOverlapsSpec.post enc Try.prog Try.f5 false true false false) := by
  refine returnsInHanded_of_change (C := Try.checked) own started (by kernel_rfl) Try.func5
    (ChangeSpec.witness6 (enc := enc) (C := Try.checked) false ⟨#[], #[.int .u64 0, .int .u64 0, .int .u64 0, .int .u64 0, .int .u64 0], []⟩ 8 (by kernel_rfl) (by kernel_rfl) (by kernel_rfl) (by kernel_rfl)) ?_
  intro W base args ds gs before hval0 hW hcnd _
  have hval : ∀ (j : Nat) t v, Try.f5.params[j]? = some t → args[j]? = some v → Value.okWide Try.prog W .any base t v := hval0
  have hW' := hW
  obtain ⟨p, q, hA0, hV, rfl, hfz, hnd⟩ := hW
  have hA : DataW.TrodAll enc Try.prog W 0 (fun _ => true) true Try.f5.params.toList args.toList ds p := hA0
  rw [Try.params5] at hA hval
  obtain ⟨v0, vs0, d0, ds0, p0, q0, hargs, rfl, rfl, h0, r0⟩ := trodAll_cons hA
  obtain ⟨v1, vs1, d1, ds1, p1, q1, rfl, rfl, rfl, h1, r1⟩ := trodAll_cons r0
  obtain ⟨v2, vs2, d2, ds2, p2, q2, rfl, rfl, rfl, h2, r2⟩ := trodAll_cons r1
  obtain ⟨v3, vs3, d3, ds3, p3, q3, rfl, rfl, rfl, h3, r3⟩ := trodAll_cons r2
  obtain ⟨v4, vs4, d4, ds4, p4, q4, rfl, rfl, rfl, h4, r4⟩ := trodAll_cons r3
  obtain ⟨rfl, rfl, rfl⟩ := trodAll_nil r4
  obtain rfl : args = #[v0, v1, v2, v3, v4] := by cases args; simp_all
  obtain ⟨rfl, rfl⟩ := trodVars_none hV
  obtain ⟨a0, rfl, rfl, rfl, w0⟩ := open_int Try.underlying22 (hval 0 22 v0 rfl rfl) h0
  obtain ⟨a1, rfl, rfl, rfl, w1⟩ := open_int Try.underlying22 (hval 1 22 v1 rfl rfl) h1
  obtain ⟨a2, rfl, rfl, rfl, w2⟩ := open_int Try.underlying22 (hval 2 22 v2 rfl rfl) h2
  obtain ⟨a3, rfl, rfl, rfl, w3⟩ := open_int Try.underlying22 (hval 3 22 v3 rfl rfl) h3
  obtain ⟨a4, rfl, rfl, rfl, w4⟩ := open_int Try.underlying22 (hval 4 22 v4 rfl rfl) h4
  clear hA0 hval0
  refine (walk a0 a1 a2 a3 a4 W w0 w1 w2 w3 w4).mono fun e W' ⟨he, bel⟩ => ?_
  subst he
  exact ⟨_, rfl, _, _, _, [], _, [], hW', trodAll_mk1 (shut_bool Try.underlying4 _), (trodAll_cons_mk (shut_int Try.underlying22 w0) (trodAll_cons_mk (shut_int Try.underlying22 w1) (trodAll_cons_mk (shut_int Try.underlying22 w2) (trodAll_cons_mk (shut_int Try.underlying22 w3) (trodAll_cons_mk (shut_int Try.underlying22 w4) trodAll_mk0))))), rfl, bel.frame _, fun h => by cases h⟩

theorem over : Rows.spanOverlapsRow.holds Try.pinned (OpenSpec.ofChange Rows.spanOverlapsSpec) :=
  OpenClaim.holds_of_wide 5 Try.f5 rfl rfl rfl rfl rfl rfl rfl ⟨rfl, rfl, rfl, rfl, rfl⟩ rfl rfl rfl rfl rfl (by kernel_rfl) Try.func5 (by kernel_rfl)
    (of_decide_eq_true (by kernel_rfl)) (by unfold Func.isWrapper; first | (rw [if_pos (by decide +kernel)]; kernel_rfl) | (rw [if_neg (by decide +kernel)]; exact ⟨rfl, rfl⟩))
    (fun os started H enc _ => lifted os started H enc)

/-- ████ THE STATEMENT ████ -/
theorem proved : Rows.SpanOverlapsSaid := over
#print axioms proved
end Go.Proofs.Ytilipopcphiggaa.spanOverlaps
namespace Go.Proofs.Ytilipopcphiggaa
theorem spanOverlaps_holds : Rows.SpanOverlapsSaid := spanOverlaps.proved
end Go.Proofs.Ytilipopcphiggaa
