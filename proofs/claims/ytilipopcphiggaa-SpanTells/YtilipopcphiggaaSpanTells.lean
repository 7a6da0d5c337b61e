/- The statement SpanTells holds: for any four numbers and any list of numbers the law returns true, and its arguments read afterwards as before. No condition. -/
import Derived.Test.YtilipopcphiggaaRows
import Derived.WalkKit
import Derived.ProofKit
import Derived.OpenShut
import Derived.ShutString
import Derived.ChangeOld
import Derived.Below
import Derived.Test.YtilipopcphiggaaSpanUp
namespace Go.Proofs.Ytilipopcphiggaa.spanTells
open Go.ChangeShapes Go.WideShapes Go.ChangeAt Go.RowKit
open Go.ChangeMaps (open_string shut_string)
set_option linter.unusedVariables false

theorem own : ownKnob Try.prog.godebug = none := by kernel_rfl
theorem laidOut : laidOutB Try.prog = true := by kernel_rfl

/-! ### STEP 1: THE WALK: the Go text returns true, AND WRITES NOTHING THAT WAS THERE: 'Below w.heap.size w w'' (Derived/Below.lean: '.refl', '.alloc', '.drew', '.setCell' at a new block, '.trans'). Open each 'IsRow' by 'rcases' AHEAD of 'go_enter'; part every test ahead of the walk. -/
theorem walk (a0 : Int) (a1 : Int) (a2 : Int) (a3 : Int) (a4 : Option Addr) (len4 cap4 : Nat) (z4 : List Int) (w : World) (w0 : (Lit.int .u64 a0).wf = true) (w1 : (Lit.int .u64 a1).wf = true) (w2 : (Lit.int .u64 a2).wf = true) (w3 : (Lit.int .u64 a3).wf = true) (w4 : IsRow .u64 w a4 len4 cap4 z4) :
    Calls Try.prog 3 #[.int .u64 a0, .int .u64 a1, .int .u64 a2, .int .u64 a3, .slice a4 len4 cap4] w fun e w' => e = .returned (.bool true) ∧ Below w.heap.size w w' := by
  obtain ⟨p0, p1⟩ := bounds_u64 w0
  obtain ⟨q0, q1⟩ := bounds_u64 w1
  obtain ⟨r0, r1⟩ := bounds_u64 w2
  obtain ⟨s0, s1⟩ := bounds_u64 w3
  have r := w4.rn (top := 18446744073709551615) (by decide) (fun n hn => bounds_u64 hn)
  generalize z4.take len4 = xs at r
  clear w0 w1 w2 w3 w4
  have hle := r.le
  have hmx := r.max
  by_cases h5 : 20 < len4
  · go_enter Try.func3, Try.ntmps3
    go_wp2_with fail
    refine (known_any _).mono ?_
    rintro e w1 ⟨rfl, hb⟩
    go_wp2
    go_ret
    exact ⟨rfl, hb⟩
  · have cu := hide (fun W : World => up_any a0 a1 W p0 p1 q0 q1)
    have cru := hide (fun W : World => rup_any a0 a1 W p0 p1 q0 q1)
    have cs := hide (fun (W : World) (R : Rn .u64 18446744073709551615 W a4 len4 cap4 xs) => add_any a4 len4 cap4 xs W R)
    have crs := hide (fun (W : World) (R : Rn .u64 18446744073709551615 W a4 len4 cap4 xs) => radd_any a4 len4 cap4 xs W R)
    have cp := hide (fun W : World => pow2_any a0 W p0 p1)
    have crp := hide (fun W : World => rpow2_any a0 W p0 p1)
    have cl := hide (fun W : World => log2_any a0 W p0 p1)
    have crl := hide (fun W : World => rlog2_any a0 W p0 p1)
    have cw := hide (fun W : World => within_any a0 a1 a2 W p0 p1 q0 q1 r0 r1)
    have crw := hide (fun W : World => rwithin_any a0 a1 a2 W p0 p1 q0 q1 r0 r1)
    have co := hide (fun W : World => overlap_any a0 a1 a2 a3 W p0 p1 q0 q1 r0 r1 s0 s1)
    have cro := hide (fun W : World => roverlap_any a0 a1 a2 a3 W p0 p1 q0 q1 r0 r1 s0 s1)
    have ub := upOf_bd a1 p0
    have sb := sumOf_bd (l := xs) fun x hx => (r.fit x hx).1
    have lb := lg_lo a0
    have lb' := lg_hi p1
    have R0 := hide r
    clear r
    generalize upOf a0 a1 = uv at *
    generalize upOk a0 a1 = uo at *
    generalize sumOf xs = sv at *
    generalize sumOk xs = so at *
    generalize isPow a0 = ip at *
    generalize lg a0 = il at *
    generalize withinOf a0 a1 a2 = iw at *
    generalize overlapOf a0 a1 a2 a3 = io at *
    go_enter Try.func3, Try.ntmps3
    go_wp2_with fail
    refine (known_any _).mono ?_
    rintro e w1 ⟨rfl, hb⟩
    have B1 := hide hb
    clear hb
    go_wp2_with fail
    refine (cu.out _).mono ?_
    rintro e w2 ⟨rfl, hb⟩
    have B2 : Hid (Below w.heap.size w w2) := B1.out.trans (hb.mono B1.out.size)
    have R2 := hide (R0.out.below B2.out)
    clear hb B1
    go_wp2_with fail
    refine (cru.out _).mono ?_
    rintro e W ⟨rfl, hW⟩
    rw [hW]
    clear hW W
    go_wp2_with fail
    refine (cs.out _ R2.out).mono ?_
    rintro e W ⟨rfl, hW⟩
    rw [hW]
    clear hW W
    go_wp2_with fail
    refine (crs.out _ R2.out).mono ?_
    rintro e W ⟨rfl, hW⟩
    rw [hW]
    clear hW W
    go_wp2_with fail
    refine (cp.out _).mono ?_
    rintro e W ⟨rfl, hW⟩
    rw [hW]
    clear hW W
    go_wp2_with fail
    refine (crp.out _).mono ?_
    rintro e W ⟨rfl, hW⟩
    rw [hW]
    clear hW W
    have x1 : (ip == ip) = true := by simp
    go_wp2_with fail
    refine (cl.out _).mono ?_
    rintro e W ⟨rfl, hW⟩
    rw [hW]
    clear hW W
    go_wp2_with fail
    refine (crl.out _).mono ?_
    rintro e W ⟨rfl, hW⟩
    rw [hW]
    clear hW W
    go_wp2_with fail
    refine (cw.out _).mono ?_
    rintro e W ⟨rfl, hW⟩
    rw [hW]
    clear hW W
    go_wp2_with fail
    refine (crw.out _).mono ?_
    rintro e W ⟨rfl, hW⟩
    rw [hW]
    clear hW W
    go_wp2_with fail
    refine (co.out _).mono ?_
    rintro e W ⟨rfl, hW⟩
    rw [hW]
    clear hW W
    go_wp2_with fail
    refine (cro.out _).mono ?_
    rintro e W ⟨rfl, hW⟩
    rw [hW]
    clear hW W
    go_wp2
    go_ret
    exact ⟨ret_bool (by simp), B2.out⟩

/-! ### THE ROW's STEP: WRITTEN OUT: LEAVE IT -/
set_option maxRecDepth 100000 in
theorem lifted (os : Os) (started : os.Started) (H : Type) (enc : TypeId × Value → H) :
    ReturnsInHanded {} Try.checked os 3 .any (Rows.spanTellsSpec.pre6 enc Try.prog Try.f3 Rows.spanTellsRow.domain false) (Rows.spanTellsSpec.post enc Try.prog Try.f3 false true false false) := by
  refine returnsInHanded_of_change (C := Try.checked) own started (by kernel_rfl) Try.func3
    (ChangeSpec.witness6 (enc := enc) (C := Try.checked) false ⟨#[], #[.int .u64 0, .int .u64 0, .int .u64 0, .int .u64 0, .slice none 0 0], []⟩ 8 (by kernel_rfl) (by kernel_rfl) (by kernel_rfl) (by kernel_rfl)) ?_
  intro W base args ds gs before hval0 hW hcnd _
  have hval : ∀ (j : Nat) t v, Try.f3.params[j]? = some t → args[j]? = some v → Value.okWide Try.prog W .any base t v := hval0
  have hW' := hW
  obtain ⟨p, q, hA0, hV, rfl, hfz, hnd⟩ := hW
  have hA : DataW.TrodAll enc Try.prog W 0 (fun _ => true) true Try.f3.params.toList args.toList ds p := hA0
  rw [Try.params3] at hA hval
  obtain ⟨v0, vs0, d0, ds0, p0, q0, hargs, rfl, rfl, h0, r0⟩ := trodAll_cons hA
  obtain ⟨v1, vs1, d1, ds1, p1, q1, rfl, rfl, rfl, h1, r1⟩ := trodAll_cons r0
  obtain ⟨v2, vs2, d2, ds2, p2, q2, rfl, rfl, rfl, h2, r2⟩ := trodAll_cons r1
  obtain ⟨v3, vs3, d3, ds3, p3, q3, rfl, rfl, rfl, h3, r3⟩ := trodAll_cons r2
  obtain ⟨v4, vs4, d4, ds4, p4, q4, rfl, rfl, rfl, h4, r4⟩ := trodAll_cons r3
  obtain ⟨rfl, rfl, rfl⟩ := trodAll_nil r4
  obtain rfl : args = #[v0, v1, v2, v3, v4] := by cases args; simp_all
  obtain ⟨rfl, rfl⟩ := trodVars_none hV
  obtain ⟨a0, rfl, rfl, rfl, w0⟩ := open_int Try.underlying22 (hval 0 22 v0 rfl rfl) h0
  obtain ⟨a1, rfl, rfl, rfl, w1⟩ := open_int Try.underlying22 (hval 1 22 v1 rfl rfl) h1
  obtain ⟨a2, rfl, rfl, rfl, w2⟩ := open_int Try.underlying22 (hval 2 22 v2 rfl rfl) h2
  obtain ⟨a3, rfl, rfl, rfl, w3⟩ := open_int Try.underlying22 (hval 3 22 v3 rfl rfl) h3
  obtain ⟨a4, len4, cap4, rfl⟩ := okWide_slice Try.underlying23 (hval 4 23 v4 rfl rfl)
  have k4 := h4
  have lt4 : ∀ x ∈ p4, x.block < W.heap.size := by obtain ⟨m, hm⟩ := k4; exact DataW.trod_lt m _ _ _ hm
  obtain ⟨z4, w4⟩ : ∃ zs, IsRow .u64 W a4 len4 cap4 zs := by
    obtain ⟨fuel, hf⟩ := h4
    rcases open_ints Try.underlying23 Try.underlying22 (by kernel_rfl) hf with ⟨hcs, _⟩ | ⟨x, l, c, zs, hcs, _, hl, hm, hz, _, hcell, hwz⟩
    · simp [Value.cells] at hcs
      obtain ⟨rfl, rfl, rfl⟩ := hcs
      exact ⟨[], .inl ⟨rfl, rfl, rfl, rfl⟩⟩
    · simp [Value.cells] at hcs
      obtain ⟨rfl, rfl, rfl⟩ := hcs
      exact ⟨zs, .inr ⟨_, rfl, hl, hm, by simpa using hz, hcell, hwz⟩⟩
  clear hA0 hval0
  refine (walk a0 a1 a2 a3 a4 len4 cap4 z4 W w0 w1 w2 w3 w4).mono fun e W' ⟨he, bel⟩ => ?_
  subst he
  exact ⟨_, rfl, _, _, _, [], _, [], hW', trodAll_mk1 (shut_bool Try.underlying4 _), (trodAll_cons_mk (shut_int Try.underlying22 w0) (trodAll_cons_mk (shut_int Try.underlying22 w1) (trodAll_cons_mk (shut_int Try.underlying22 w2) (trodAll_cons_mk (shut_int Try.underlying22 w3) (trodAll_cons_mk (Below.trod laidOut (by kernel_rfl) (of_decide_eq_true (by kernel_rfl)) k4 bel lt4) trodAll_mk0))))), rfl, bel.frame _, fun h => by cases h⟩

theorem over : Rows.spanTellsRow.holds Try.pinned (OpenSpec.ofChange Rows.spanTellsSpec) :=
  OpenClaim.holds_of_wide 3 Try.f3 rfl rfl rfl rfl rfl rfl rfl ⟨rfl, rfl, rfl, rfl, rfl⟩ rfl rfl rfl rfl rfl (by kernel_rfl) Try.func3 (by kernel_rfl)
    (of_decide_eq_true (by kernel_rfl)) (by unfold Func.isWrapper; first | (rw [if_pos (by decide +kernel)]; kernel_rfl) | (rw [if_neg (by decide +kernel)]; exact ⟨rfl, rfl⟩))
    (fun os started H enc _ => lifted os started H enc)

/-- ████ THE STATEMENT ████ -/
theorem proved : Rows.SpanTellsSaid := over
#print axioms proved
end Go.Proofs.Ytilipopcphiggaa.spanTells
namespace Go.Proofs.Ytilipopcphiggaa
theorem spanTells_holds : Rows.SpanTellsSaid := spanTells.proved
end Go.Proofs.Ytilipopcphiggaa
