/- The statement SpanWithin holds: for any four numbers the law returns true. No condition. -/
import Derived.Test.YtilipopcphiggaaRows
import Derived.WalkKit
import Derived.ProofKit
import Derived.OpenShut
import Derived.ShutString
import Derived.ChangeOld
import Derived.Below
import Derived.Test.YtilipopcphiggaaSpanUp
namespace Go.Proofs.Ytilipopcphiggaa.spanWithin
open Go.ChangeShapes Go.WideShapes Go.ChangeAt Go.RowKit
open Go.ChangeMaps (open_string shut_string)
set_option linter.unusedVariables false

theorem own : ownKnob Try.prog.godebug = none := by kernel_rfl
theorem laidOut : laidOutB Try.prog = true := by kernel_rfl

/-! ### STEP 1: THE WALK: the Go text returns true, AND WRITES NOTHING THAT WAS THERE: 'Below w.heap.size w w'' (Derived/Below.lean: '.refl', '.alloc', '.drew', '.setCell' at a new block, '.trans'). Open each 'IsRow' by 'rcases' AHEAD of 'go_enter'; part every test ahead of the walk. -/
set_option maxHeartbeats 3200000 in
theorem walk (a0 : Int) (a1 : Int) (a2 : Int) (a3 : Int) (w : World) (w0 : (Lit.int .u64 a0).wf = true) (w1 : (Lit.int .u64 a1).wf = true) (w2 : (Lit.int .u64 a2).wf = true) (w3 : (Lit.int .u64 a3).wf = true) :
    Calls Try.prog 6 #[.int .u64 a0, .int .u64 a1, .int .u64 a2, .int .u64 a3] w fun e w' => e = .returned (.bool true) ∧ Below w.heap.size w w' := by
  obtain ⟨p0, p1⟩ := bounds_u64 w0
  obtain ⟨q0, q1⟩ := bounds_u64 w1
  obtain ⟨r0, r1⟩ := bounds_u64 w2
  obtain ⟨s0, s1⟩ := bounds_u64 w3
  clear w0 w1 w2 w3
  have co := fun W : World => within_any a0 a1 a2 W p0 p1 q0 q1 r0 r1
  have ca := fun W : World => add_any _ 2 2 [a0, a1] _ (Rn.lit .u64 18446744073709551615 22 W [a0, a1] (by intro y hy; simp only [List.mem_cons, List.not_mem_nil, or_false] at hy; omega) (by decide) (by simp))
  have es : [a0, a1].sum = a0 + a1 := by simp
  by_cases hf : a0 + a1 ≤ 18446744073709551615
  · have e1 : sumOf [a0, a1] = a0 + a1 := by unfold sumOf; rw [es, if_pos hf]
    have e2 : sumOk [a0, a1] = true := by unfold sumOk; rw [es]; simp [hf]
    rw [e1, e2] at ca
    clear e1 e2 es
    by_cases h : a0 + a1 ≤ a2
    · have e : withinOf a0 a1 a2 = true := by unfold withinOf; simp [h]
      rw [e] at co
      clear e
      have C := hide co
      have CA := hide ca
      clear co ca
      by_cases hn : a1 = 0
      · have hn' : (a1 == 0) = true := by simp [hn]
        clear hn
        go_enter Try.func6, Try.ntmps6
        go_wp2_with fail
        refine (known_any _).mono ?_
        rintro e w1 ⟨rfl, hb⟩
        have B1 := hide hb
        clear hb
        go_wp2_with fail
        refine (C.out _).mono ?_
        rintro e W ⟨rfl, hW⟩
        rw [hW]
        clear hW W
        go_wp2_with fail
        refine (CA.out _).mono ?_
        rintro e w2 ⟨rfl, hw⟩
        have B2 : Hid (Below w.heap.size w w2) := by rw [hw]; exact B1.out.alloc B1.out.size _
        clear hw B1
        go_wp2
        all_goals go_ret
        all_goals exact ⟨rfl, B2.out⟩
      · have hn' : (a1 == 0) = false := by simp [hn]
        have k0 := Int.emod_nonneg a3 hn
        have k1 := Int.emod_lt_of_pos a3 (show 0 < a1 by omega)
        have et : a3.tmod a1 = a3 % a1 := Int.tmod_eq_emod_of_nonneg s0
        rw [← et] at k0 k1
        clear et
        generalize hk : a3.tmod a1 = k at *
        have c1 := fun W : World => within_any a0 k a2 W p0 p1 k0 (by omega) r0 r1
        have c2 := fun W : World => within_any (a0 + k) (a1 - k) a2 W (by omega) (by omega) (by omega) (by omega) r0 r1
        have e1 : withinOf a0 k a2 = true := by unfold withinOf; simp; omega
        have e2 : withinOf (a0 + k) (a1 - k) a2 = true := by unfold withinOf; simp; omega
        rw [e1] at c1
        rw [e2] at c2
        clear e1 e2
        have C1 := hide c1
        have C2 := hide c2
        clear c1 c2
        go_enter Try.func6, Try.ntmps6
        go_wp2_with fail
        refine (known_any _).mono ?_
        rintro e w1 ⟨rfl, hb⟩
        have B1 := hide hb
        clear hb
        go_wp2_with fail
        refine (C.out _).mono ?_
        rintro e W ⟨rfl, hW⟩
        rw [hW]
        clear hW W
        go_wp2_with fail
        refine (CA.out _).mono ?_
        rintro e w2 ⟨rfl, hw⟩
        have B2 : Hid (Below w.heap.size w w2) := by rw [hw]; exact B1.out.alloc B1.out.size _
        clear hw B1
        go_wp2_with fail
        refine (C1.out _).mono ?_
        rintro e W ⟨rfl, hW⟩
        rw [hW]
        clear hW W
        go_wp2_with fail
        refine (C2.out _).mono ?_
        rintro e W ⟨rfl, hW⟩
        rw [hW]
        clear hW W
        go_wp2
        all_goals go_ret
        all_goals exact ⟨rfl, B2.out⟩
    · have e : withinOf a0 a1 a2 = false := by unfold withinOf; simp; omega
      rw [e] at co
      clear e
      have C := hide co
      have CA := hide ca
      clear co ca
      go_enter Try.func6, Try.ntmps6
      go_wp2_with fail
      refine (known_any _).mono ?_
      rintro e w1 ⟨rfl, hb⟩
      have B1 := hide hb
      clear hb
      go_wp2_with fail
      refine (C.out _).mono ?_
      rintro e W ⟨rfl, hW⟩
      rw [hW]
      clear hW W
      go_wp2_with fail
      refine (CA.out _).mono ?_
      rintro e w2 ⟨rfl, hw⟩
      have B2 : Hid (Below w.heap.size w w2) := by rw [hw]; exact B1.out.alloc B1.out.size _
      clear hw B1
      go_wp2
      all_goals go_ret
      all_goals exact ⟨rfl, B2.out⟩
  · have e1 : sumOf [a0, a1] = 0 := by unfold sumOf; rw [es, if_neg hf]
    have e2 : sumOk [a0, a1] = false := by unfold sumOk; rw [es]; simp; omega
    have e : withinOf a0 a1 a2 = false := by unfold withinOf; simp; omega
    rw [e1, e2] at ca
    rw [e] at co
    clear e1 e2 es e
    have C := hide co
    have CA := hide ca
    clear co ca
    go_enter Try.func6, Try.ntmps6
    go_wp2_with fail
    refine (known_any _).mono ?_
    rintro e w1 ⟨rfl, hb⟩
    have B1 := hide hb
    clear hb
    go_wp2_with fail
    refine (C.out _).mono ?_
    rintro e W ⟨rfl, hW⟩
    rw [hW]
    clear hW W
    go_wp2_with fail
    refine (CA.out _).mono ?_
    rintro e w2 ⟨rfl, hw⟩
    have B2 : Hid (Below w.heap.size w w2) := by rw [hw]; exact B1.out.alloc B1.out.size _
    clear hw B1
    go_wp2
    all_goals go_ret
    all_goals exact ⟨rfl, B2.out⟩

/-! ### THE ROW's STEP: WRITTEN OUT: LEAVE IT -/
set_option maxRecDepth 100000 in
theorem lifted (os : Os) (started : os.Started) (H : Type) (enc : TypeId × Value → H) :
    ReturnsInHanded {} Try.checked os 6 .any (Rows.spanWithinSpec.pre6 enc Try.prog Try.f6 Rows.spanWithinRow.domain false) (Rows.spanWithinSpec.post enc Try.prog Try.f6 false true false false) := by
  refine returnsInHanded_of_change (C := Try.checked) own started (by kernel_rfl) Try.func6
    (ChangeSpec.witness6 (enc := enc) (C := Try.checked) false ⟨#[], #[.int .u64 0, .int .u64 0, .int .u64 0, .int .u64 0], []⟩ 8 (by kernel_rfl) (by kernel_rfl) (by kernel_rfl) (by kernel_rfl)) ?_
  intro W base args ds gs before hval0 hW hcnd _
  have hval : ∀ (j : Nat) t v, Try.f6.params[j]? = some t → args[j]? = some v → Value.okWide Try.prog W .any base t v := hval0
  have hW' := hW
  obtain ⟨p, q, hA0, hV, rfl, hfz, hnd⟩ := hW
  have hA : DataW.TrodAll enc Try.prog W 0 (fun _ => true) true Try.f6.params.toList args.toList ds p := hA0
  rw [Try.params6] at hA hval
  obtain ⟨v0, vs0, d0, ds0, p0, q0, hargs, rfl, rfl, h0, r0⟩ := trodAll_cons hA
  obtain ⟨v1, vs1, d1, ds1, p1, q1, rfl, rfl, rfl, h1, r1⟩ := trodAll_cons r0
  obtain ⟨v2, vs2, d2, ds2, p2, q2, rfl, rfl, rfl, h2, r2⟩ := trodAll_cons r1
  obtain ⟨v3, vs3, d3, ds3, p3, q3, rfl, rfl, rfl, h3, r3⟩ := trodAll_cons r2
  obtain ⟨rfl, rfl, rfl⟩ := trodAll_nil r3
  obtain rfl : args = #[v0, v1, v2, v3] := by cases args; simp_all
  obtain ⟨rfl, rfl⟩ := trodVars_none hV
  obtain ⟨a0, rfl, rfl, rfl, w0⟩ := open_int Try.underlying22 (hval 0 22 v0 rfl rfl) h0
  obtain ⟨a1, rfl, rfl, rfl, w1⟩ := open_int Try.underlying22 (hval 1 22 v1 rfl rfl) h1
  obtain ⟨a2, rfl, rfl, rfl, w2⟩ := open_int Try.underlying22 (hval 2 22 v2 rfl rfl) h2
  obtain ⟨a3, rfl, rfl, rfl, w3⟩ := open_int Try.underlying22 (hval 3 22 v3 rfl rfl) h3
  clear hA0 hval0
  refine (walk a0 a1 a2 a3 W w0 w1 w2 w3).mono fun e W' ⟨he, bel⟩ => ?_
  subst he
  exact ⟨_, rfl, _, _, _, [], _, [], hW', trodAll_mk1 (shut_bool Try.underlying4 _), (trodAll_cons_mk (shut_int Try.underlying22 w0) (trodAll_cons_mk (shut_int Try.underlying22 w1) (trodAll_cons_mk (shut_int Try.underlying22 w2) (trodAll_cons_mk (shut_int Try.underlying22 w3) trodAll_mk0)))), rfl, bel.frame _, fun h => by cases h⟩

theorem over : Rows.spanWithinRow.holds Try.pinned (OpenSpec.ofChange Rows.spanWithinSpec) :=
  OpenClaim.holds_of_wide 6 Try.f6 rfl rfl rfl rfl rfl rfl rfl ⟨rfl, rfl, rfl, rfl, rfl⟩ rfl rfl rfl rfl rfl (by kernel_rfl) Try.func6 (by kernel_rfl)
    (of_decide_eq_true (by kernel_rfl)) (by unfold Func.isWrapper; first | (rw [if_pos (by decide +kernel)]; kernel_rfl) | (rw [if_neg (by decide +kernel)]; exact ⟨rfl, rfl⟩))
    (fun os started H enc _ => lifted os started H enc)

/-- ████ THE STATEMENT ████ -/
theorem proved : Rows.SpanWithinSaid := over
#print axioms proved
end Go.Proofs.Ytilipopcphiggaa.spanWithin
namespace Go.Proofs.Ytilipopcphiggaa
theorem spanWithin_holds : Rows.SpanWithinSaid := spanWithin.proved
end Go.Proofs.Ytilipopcphiggaa
