/- The statement LeTogether holds: for any numbers and any place the law returns true, and its arguments read afterwards as before. No condition. -/
import Derived.Test.YtenpjddjoebljaaRows
import Derived.WalkKit
import Derived.ProofKit
import Derived.OpenShut
import Derived.ShutString
import Derived.ChangeOld
import Derived.Below
import Derived.Test.YtenpjddjoebljaaTogether
namespace Go.Proofs.Ytenpjddjoebljaa.leTogether
open Go.ChangeShapes Go.WideShapes Go.ChangeAt Go.RowKit
open Go.ChangeMaps (open_string shut_string)
set_option linter.unusedVariables false

theorem own : ownKnob Try.prog.godebug = none := by kernel_rfl
theorem laidOut : laidOutB Try.prog = true := by kernel_rfl

/-! ### STEP 1: THE WALK: the Go text returns true, AND WRITES NOTHING THAT WAS THERE: 'Below w.heap.size w w'' (Derived/Below.lean: '.refl', '.alloc', '.drew', '.setCell' at a new block, '.trans'). Open each 'IsRow' by 'rcases' AHEAD of 'go_enter'; part every test ahead of the walk. -/
set_option maxHeartbeats 1600000 in
set_option maxRecDepth 100000 in
theorem walk (a0 : Option Addr) (len0 cap0 : Nat) (z0 : List Int) (a1 : Int) (w : World) (w0 : IsRow .u64 w a0 len0 cap0 z0) (w1 : (Lit.int .u8 a1).wf = true) :
    Calls Try.prog 7 #[.slice a0 len0 cap0, .int .u8 a1] w fun e w' => e = .returned (.bool true) ∧ Below w.heap.size w w' := by
  have r := w0.rn (top := 18446744073709551615) (by decide) (fun n hn => bounds_u64 hn)
  obtain ⟨k0, k1⟩ := bounds_u8 w1
  generalize z0.take len0 = l at r
  clear w0 w1
  have hle := r.le
  have hmx := r.max
  have hll := r.length
  by_cases h5 : 12 < len0
  · go_enter Try.func7, Try.ntmps7
    go_wp2_with fail
    refine (known_any _).mono ?_
    rintro e w1 ⟨rfl, hb⟩
    go_wp2
    go_ret
    exact ⟨rfl, hb⟩
  · have R0 := hide r
    clear r
    have HL := hide hll
    clear hll
    have d0 : decide ((12 : Int) < (len0 : Int)) = false := by simp; omega
    obtain ⟨i0, hi, hz0, hz1, hz2⟩ := info_parts Try.info8
    go_enter Try.func7, Try.ntmps7
    go_wp2_with fail
    refine (known_any _).mono ?_
    rintro e w1 ⟨rfl, hb⟩
    have B1 := hide hb
    have R1 := hide (R0.out.below hb)
    clear hb
    go_wp2_with (at_make; refine wpList_make_full _ rfl _ _ 22 rfl w1.heap.size 5 i0 (.int .u8 0) 1 Try.underlying22 hi hz0 hz1 .i64 .i64 _ _ (8 * len0) rfl rfl (by omega) (by omega) (by rw [hz2]; omega) (by unfold maxLen; omega) (Nat.le_refl _) ?_)
    intro w2 hown hgrow
    have B2 : Hid (Below w1.heap.size w1 w2) := (Below.refl _ _).grown hgrow (Nat.le_refl _) (by intro k hk; cases hk)
    rw [toList_madeCells_one] at hown
    have R2 : Hid (Rd w2 (some ⟨w1.heap.size, 0, none⟩) (8 * len0) (8 * len0) (tg l 0)) := by
      rw [tg_zero, HL.out]
      obtain ⟨a', c', he, hr⟩ := Rd.own (bs := List.replicate (8 * len0) 0) (by simpa using hown) (fun x hx => by rw [List.mem_replicate] at hx; omega)
      cases he
      exact hr
    clear hown hgrow
    go_wp2_with fail
    go_loopg [5, 6] len0 (fun g u i wr => ∃ (k : Nat) (a : Option Addr) (c : Nat), k ≤ len0 ∧ g = len0 - k ∧ i = .int .i64 k ∧ u = .slice a (8 * len0) c ∧ Rd wr a (8 * len0) c (tg l k) ∧ Below w1.heap.size w1 wr)
    case atStart => exact ⟨0, _, _, by omega, rfl, rfl, rfl, R2.out, B2.out⟩
    case round =>
      obtain ⟨k, a, c, hk, rfl, rfl, rfl, hr, hb⟩ := hrel
      clear R2 B2
      by_cases hlt : k < len0
      · obtain ⟨b, o, rfl, hc⟩ := R1.out.addr (by omega)
        have hc1 := hc k hlt
        have hcell := (hb.cell (World.block_lt_of_cell? w1 _ hc1)).trans hc1
        have hfit := R1.out.at k
        obtain ⟨y, hy⟩ : ∃ y, y = l[k]?.getD 0 := ⟨_, rfl⟩
        have hcy : wr.cell? ⟨b, o + k, none⟩ = some (.int .u64 y) := by rw [hy]; exact hcell
        rw [← hy] at hfit
        have HY := hide hy
        have R2 := hide hr
        have B2 := hide hb
        clear hy hcell hc1 hc hr hb
        go_wp2_with fail
        refine (set_yes a (8 * len0) c (tg l k) (8 * k) y 8 _ R2.out (by omega) (by omega) (by omega) (by omega) (by omega) (by omega) (by omega)).mono ?_
        rintro e w3 ⟨rfl, hr, hb⟩
        have R3 : Hid (Rd w3 (some ⟨wr.heap.size, 0, none⟩) (8 * len0) (8 * len0) (tg l (k + 1))) := by
          rw [← tg_succ l k (by rw [HL.out]; omega), ← HY.out]
          exact hr
        have B3 : Hid (Below w1.heap.size w1 w3) := B2.out.trans (hb.mono B2.out.size)
        clear hr hb R2 B2 HY
        go_wp2
        go_roundg (len0 - (k + 1))
        case measure => omega
        case rel => exact ⟨k + 1, _, _, by omega, rfl, by go_num, rfl, R3.out, B3.out⟩
      · obtain rfl : k = len0 := by omega
        have e1 : tg l k = flat 8 l := by rw [← HL.out, tg_end]
        rw [e1] at hr
        have hbt := hr.length
        have R2 := hide hr
        have B2 := hide hb
        have HT := hide hbt
        generalize hF : flat 8 l = bt at *
        have HF := hide hF
        clear e1 hr hb hbt hF
        have RN : Hid (Rn .u64 18446744073709551615 wr.drew a0 k cap0 l) := (R1.out.below B2.out).drew
        have s0 := R2.out.drew.str
        clear R1
        go_wp2_with fail
        go_region_with (go_at_call 18; refine (put64_any none 0 0 [] a0 k cap0 l _ (Rd.nothing _) ?_ (by omega)).mono ?_; exact RN.out; rintro e w5 ⟨a5, l5, c5, rfl, hr5, hb5⟩; rw [List.nil_append, HF.out] at hr5; have s5 := hr5.str; have R5 := hide (R2.out.drew.below hb5); have B5 := hide hb5; clear hr5 hb5; have s6 := R5.out.str)
        all_goals go_wp2_with fail
        all_goals
          have hq0 : 0 ≤ a1 % (8 * (k : Int) + 1) := Int.emod_nonneg _ (by omega)
          have hq1 : a1 % (8 * (k : Int) + 1) ≤ 8 * k := by have := Int.emod_lt_of_pos a1 (show 0 < 8 * (k : Int) + 1 by omega); omega
          have B6 : Hid (Below w.heap.size w w5) := B1.out.trans ((B2.out.drew.trans (B5.out.mono B2.out.drew.size)).mono B1.out.size)
          clear s0 s5 s6 RN R2 B5 B2 B1 HF R0 HL
          generalize a1 % (8 * (k : Int) + 1) = q at *
          refine (cut_any a (8 * k) c bt 0 q _ R5.out (by omega) (by omega) (by omega) (by omega) (by omega)).mono ?_
          rintro e w6 ⟨c1, c2, c3, rfl, hr, hb⟩
          rw [cutOf_head bt q hq0 (by rw [HT.out]; omega)] at hr
          rw [cutOk_head bt q (by rw [HT.out]; omega)]
          have R6 := hide (R5.out.below hb)
          have C6 := hide hr
          have B7 : Hid (Below w.heap.size w w6) := B6.out.trans (hb.mono B6.out.size)
          clear hr hb R5 B6
          go_wp2_with fail
          refine (cut_any a (8 * k) c bt q (8 * (k : Int) - q) _ R6.out (by omega) (by omega) (by omega) (by omega) (by omega)).mono ?_
          rintro e w7 ⟨f1, f2, f3, rfl, hr, hb⟩
          have el : 8 * (k : Int) - q = (bt.length : Int) - q := by rw [HT.out]; omega
          rw [el, cutOf_tail bt q hq0 (by rw [HT.out]; omega)] at hr
          have et : cutOk bt q (8 * (k : Int) - q) = true := by rw [el]; exact cutOk_tail bt q (by rw [HT.out]; omega)
          rw [et]
          have sx := (C6.out.below hb).str
          have sy := hr.str
          have sb := (R6.out.below hb).str
          have hj : strOfNums (bt.take q.toNat) ++ strOfNums (bt.drop q.toNat) = strOfNums bt := by rw [strOfNums_append, List.take_append_drop]
          have hz : (strOfNums (bt.take q.toNat)).size + (strOfNums (bt.drop q.toNat)).size ≤ 9223372036854775807 := by
            rw [strOfNums_size, strOfNums_size, List.length_take, List.length_drop, HT.out]; omega
          have B8 : Hid (Below w.heap.size w w7) := B7.out.trans (hb.mono B7.out.size)
          clear hr hb el et R6 C6 B7
          generalize strOfNums (bt.take q.toNat) = X at *
          generalize strOfNums (bt.drop q.toNat) = Y at *
          generalize strOfNums bt = Z at *
          go_wp2
          go_ret
          exact ⟨rfl, B8.out⟩

/-! ### THE ROW's STEP: WRITTEN OUT: LEAVE IT -/
set_option maxRecDepth 100000 in
theorem lifted (os : Os) (started : os.Started) (H : Type) (enc : TypeId × Value → H) :
    ReturnsInHanded {} Try.checked os 7 .any (Rows.leTogetherSpec.pre6 enc Try.prog Try.f7 Rows.leTogetherRow.domain false) (Rows.leTogetherSpec.post enc Try.prog Try.f7 false true false false) := by
  refine returnsInHanded_of_change (C := Try.checked) own started (by kernel_rfl) Try.func7
    (ChangeSpec.witness6 (enc := enc) (C := Try.checked) false ⟨#[], #[.slice none 0 0, .int .u8 0], []⟩ 8 (by kernel_rfl) (by kernel_rfl) (by kernel_rfl) (by kernel_rfl)) ?_
  intro W base args ds gs before hval0 hW hcnd _
  have hval : ∀ (j : Nat) t v, Try.f7.params[j]? = some t → args[j]? = some v → Value.okWide Try.prog W .any base t v := hval0
  have hW' := hW
  obtain ⟨p, q, hA0, hV, rfl, hfz, hnd⟩ := hW
  have hA : DataW.TrodAll enc Try.prog W 0 (fun _ => true) true Try.f7.params.toList args.toList ds p := hA0
  rw [Try.params7] at hA hval
  obtain ⟨v0, vs0, d0, ds0, p0, q0, hargs, rfl, rfl, h0, r0⟩ := trodAll_cons hA
  obtain ⟨v1, vs1, d1, ds1, p1, q1, rfl, rfl, rfl, h1, r1⟩ := trodAll_cons r0
  obtain ⟨rfl, rfl, rfl⟩ := trodAll_nil r1
  obtain rfl : args = #[v0, v1] := by cases args; simp_all
  obtain ⟨rfl, rfl⟩ := trodVars_none hV
  obtain ⟨a0, len0, cap0, rfl⟩ := okWide_slice Try.underlying39 (hval 0 39 v0 rfl rfl)
  have k0 := h0
  have lt0 : ∀ x ∈ p0, x.block < W.heap.size := by obtain ⟨m, hm⟩ := k0; exact DataW.trod_lt m _ _ _ hm
  obtain ⟨z0, w0⟩ : ∃ zs, IsRow .u64 W a0 len0 cap0 zs := by
    obtain ⟨fuel, hf⟩ := h0
    rcases open_ints Try.underlying39 Try.underlying23 (by kernel_rfl) hf with ⟨hcs, _⟩ | ⟨x, l, c, zs, hcs, _, hl, hm, hz, _, hcell, hwz⟩
    · simp [Value.cells] at hcs
      obtain ⟨rfl, rfl, rfl⟩ := hcs
      exact ⟨[], .inl ⟨rfl, rfl, rfl, rfl⟩⟩
    · simp [Value.cells] at hcs
      obtain ⟨rfl, rfl, rfl⟩ := hcs
      exact ⟨zs, .inr ⟨_, rfl, hl, hm, by simpa using hz, hcell, hwz⟩⟩
  obtain ⟨a1, rfl, rfl, rfl, w1⟩ := open_int Try.underlying5 (hval 1 5 v1 rfl rfl) h1
  clear hA0 hval0
  refine (walk a0 len0 cap0 z0 a1 W w0 w1).mono fun e W' ⟨he, bel⟩ => ?_
  subst he
  exact ⟨_, rfl, _, _, _, [], _, [], hW', trodAll_mk1 (shut_bool Try.underlying4 _), (trodAll_cons_mk (Below.trod laidOut (by kernel_rfl) (of_decide_eq_true (by kernel_rfl)) k0 bel lt0) (trodAll_cons_mk (shut_int Try.underlying5 w1) trodAll_mk0)), rfl, bel.frame _, fun h => by cases h⟩

theorem over : Rows.leTogetherRow.holds Try.pinned (OpenSpec.ofChange Rows.leTogetherSpec) :=
  OpenClaim.holds_of_wide 7 Try.f7 rfl rfl rfl rfl rfl rfl rfl ⟨rfl, rfl, rfl, rfl, rfl⟩ rfl rfl rfl rfl rfl (by kernel_rfl) Try.func7 (by kernel_rfl)
    (of_decide_eq_true (by kernel_rfl)) (by unfold Func.isWrapper; first | (rw [if_pos (by decide +kernel)]; kernel_rfl) | (rw [if_neg (by decide +kernel)]; exact ⟨rfl, rfl⟩))
    (fun os started H enc _ => lifted os started H enc)

/-- ████ THE STATEMENT ████ -/
theorem proved : Rows.LeTogetherSaid := over
#print axioms proved
end Go.Proofs.Ytenpjddjoebljaa.leTogether
namespace Go.Proofs.Ytenpjddjoebljaa
theorem leTogether_holds : Rows.LeTogetherSaid := leTogether.proved
end Go.Proofs.Ytenpjddjoebljaa
