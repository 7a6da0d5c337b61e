/- The statement LeEdges holds: for any bytes and any place the law returns true, and its arguments read afterwards as before. No condition. -/
import Derived.Test.YtenpjddjoebljaaRows
import Derived.WalkKit
import Derived.ProofKit
import Derived.OpenShut
import Derived.ShutString
import Derived.ChangeOld
import Derived.Below
import Derived.Test.YtenpjddjoebljaaEdges
namespace Go.Proofs.Ytenpjddjoebljaa.leEdges
open Go.ChangeShapes Go.WideShapes Go.ChangeAt Go.RowKit
open Go.ChangeMaps (open_string shut_string)
set_option linter.unusedVariables false

theorem own : ownKnob Try.prog.godebug = none := by kernel_rfl
theorem laidOut : laidOutB Try.prog = true := by kernel_rfl

/-! ### STEP 1: THE WALK: the Go text returns true, AND WRITES NOTHING THAT WAS THERE: 'Below w.heap.size w w'' (Derived/Below.lean: '.refl', '.alloc', '.drew', '.setCell' at a new block, '.trans'). Open each 'IsRow' by 'rcases' AHEAD of 'go_enter'; part every test ahead of the walk. -/
set_option maxHeartbeats 1600000 in
set_option maxRecDepth 100000 in
theorem walk (a0 : Option Addr) (len0 cap0 : Nat) (z0 : List Int) (a1 : Int) (w : World) (w0 : IsRow .u8 w a0 len0 cap0 z0) (w1 : (Lit.int .u8 a1).wf = true) :
    Calls Try.prog 6 #[.slice a0 len0 cap0, .int .u8 a1] w fun e w' => e = .returned (.bool true) ∧ Below w.heap.size w w' := by
  have r := w0.rd
  obtain ⟨k0, k1⟩ := bounds_u8 w1
  generalize z0.take len0 = bs at r
  clear w0 w1
  have hle := r.le
  have hmx := r.max
  by_cases h5 : 100 < len0
  · go_enter Try.func6, Try.ntmps6
    go_wp2_with fail
    refine (known_any _).mono ?_
    rintro e w1 ⟨rfl, hb⟩
    go_wp2
    go_ret
    exact ⟨rfl, hb⟩
  · have R0 := hide r
    clear r
    have d0 : decide ((100 : Int) < (len0 : Int)) = false := by simp; omega
    go_enter Try.func6, Try.ntmps6
    go_wp2_with fail
    refine (known_any _).mono ?_
    rintro e w1 ⟨rfl, hb⟩
    have B1 := hide hb
    have R1 := hide (R0.out.below hb)
    clear hb
    go_wp2_with fail
    go_loopg [28] 3 (fun g i wr => ∃ k : Nat, k ≤ 3 ∧ g = 3 - k ∧ i = .int .i64 k ∧ Below (w1.heap.size + 1) (w1.alloc (.cells #[.int .u64 2, .int .u64 4, .int .u64 8] 23)) wr)
    case atStart => exact ⟨0, by omega, rfl, rfl, Below.refl _ _⟩
    case round =>
      obtain ⟨k, hk, rfl, rfl, hbel⟩ := hrel
      by_cases hlt : k < 3
      · have hcell : wr.cell? ⟨w1.heap.size, k, none⟩ = some (.int .u64 ([2, 4, 8].getD k 0)) := by
          rw [hbel.cell (by simp), cell_of_row _ _ k _ 23 (0, 0) (heap_alloc_new w1 _)]
          match k, hlt with
          | 0, _ => rfl
          | 1, _ => rfl
          | 2, _ => rfl
        obtain ⟨q, hq⟩ : ∃ q : Int, q = ([2, 4, 8] : List Int).getD k 0 := ⟨_, rfl⟩
        rw [← hq] at hcell
        have hq3 : q = 2 ∨ q = 4 ∨ q = 8 := by
          rw [hq]
          match k, hlt with
          | 0, _ => exact .inl rfl
          | 1, _ => exact .inr (.inl rfl)
          | 2, _ => exact .inr (.inr rfl)
        clear hq
        have dk : decide ((k : Int) < 3) = true := by simp; omega
        have HQ := hide hq3
        clear hq3
        have hsz := hbel.size
        have hw1z : (w1.alloc (.cells #[.int .u64 2, .int .u64 4, .int .u64 8] 23)).heap.size = w1.heap.size + 1 := by simp
        rw [hw1z] at hsz
        clear hw1z
        have HB := hide hbel
        clear hbel
        go_wp2_with fail
        have hE := six wr 23 (IntKind.u64.wrap (↑len0 - q)) (IntKind.u64.wrap (IntKind.u64.wrap (↑len0 - q) + 1)) ↑len0 (IntKind.u64.wrap (-q)) 18446744073709551615 a1 (wrap64_bd _) (wrap64_bd _) (by omega) (wrap64_bd _) (by omega) (by omega)
        have HB2 : Hid (Below (w1.heap.size + 1) (w1.alloc (.cells #[.int .u64 2, .int .u64 4, .int .u64 8] 23)) (wr.alloc (.cells #[.int .u64 (IntKind.u64.wrap (↑len0 - q)), .int .u64 (IntKind.u64.wrap (IntKind.u64.wrap (↑len0 - q) + 1)), .int .u64 ↑len0, .int .u64 (IntKind.u64.wrap (-q)), .int .u64 18446744073709551615, .int .u64 a1] 23))) := HB.out.alloc hsz _
        generalize wr.alloc (.cells #[.int .u64 (IntKind.u64.wrap (↑len0 - q)), .int .u64 (IntKind.u64.wrap (IntKind.u64.wrap (↑len0 - q) + 1)), .int .u64 ↑len0, .int .u64 (IntKind.u64.wrap (-q)), .int .u64 18446744073709551615, .int .u64 a1] 23) = W2 at *
        have R2 : Hid (Rd W2 a0 len0 cap0 bs) := R1.out.below (((Below.refl _ _).alloc (Nat.le_refl _) _).trans (HB2.out.mono (by omega)))
        have HE := hide hE
        have hbl := R0.out.length
        clear hE HB hcell R1
        go_loopg [46] 6 (fun g i wi => wi = W2 ∧ ∃ j : Nat, j ≤ 6 ∧ g = 6 - j ∧ i = .int .i64 j)
        case atStart => exact ⟨rfl, 0, by omega, rfl, rfl⟩
        case round =>
          obtain ⟨hwi, j, hj, rfl, rfl⟩ := hrel
          subst hwi
          by_cases hj6 : j < 6
          · obtain ⟨e, hce, he0, he1⟩ := HE.out j hj6
            clear HE
            rcases HQ.out with rfl | rfl | rfl
            · by_cases h1 : e ≤ len0
              · by_cases h2 : 2 ≤ len0 - e
                · have hh := has_yes (bs := bs) (e := e) (n := 2) (by omega)
                  go_wp2_with (go_at_call 9; refine (u16_any a0 len0 cap0 bs e _ R2.out he0 he1).mono ?_; rintro _ W ⟨rfl, hW⟩; rw [hW, hh]; clear hW W)
                  go_roundg (6 - (j + 1))
                  case measure => omega
                  case rel => exact ⟨rfl, j + 1, by omega, rfl, by go_num⟩
                · have hh := has_no (bs := bs) (e := e) (n := 2) (by omega)
                  go_wp2_with (go_at_call 9; refine (u16_any a0 len0 cap0 bs e _ R2.out he0 he1).mono ?_; rintro _ W ⟨rfl, hW⟩; rw [hW, hh]; clear hW W)
                  go_roundg (6 - (j + 1))
                  case measure => omega
                  case rel => exact ⟨rfl, j + 1, by omega, rfl, by go_num⟩
              · have hh := has_no (bs := bs) (e := e) (n := 2) (by omega)
                go_wp2_with (go_at_call 9; refine (u16_any a0 len0 cap0 bs e _ R2.out he0 he1).mono ?_; rintro _ W ⟨rfl, hW⟩; rw [hW, hh]; clear hW W)
                go_roundg (6 - (j + 1))
                case measure => omega
                case rel => exact ⟨rfl, j + 1, by omega, rfl, by go_num⟩
            · by_cases h1 : e ≤ len0
              · by_cases h2 : 4 ≤ len0 - e
                · have hh := has_yes (bs := bs) (e := e) (n := 4) (by omega)
                  go_wp2_with (go_at_call 10; refine (u32_any a0 len0 cap0 bs e _ R2.out he0 he1).mono ?_; rintro _ W ⟨rfl, hW⟩; rw [hW, hh]; clear hW W)
                  go_roundg (6 - (j + 1))
                  case measure => omega
                  case rel => exact ⟨rfl, j + 1, by omega, rfl, by go_num⟩
                · have hh := has_no (bs := bs) (e := e) (n := 4) (by omega)
                  go_wp2_with (go_at_call 10; refine (u32_any a0 len0 cap0 bs e _ R2.out he0 he1).mono ?_; rintro _ W ⟨rfl, hW⟩; rw [hW, hh]; clear hW W)
                  go_roundg (6 - (j + 1))
                  case measure => omega
                  case rel => exact ⟨rfl, j + 1, by omega, rfl, by go_num⟩
              · have hh := has_no (bs := bs) (e := e) (n := 4) (by omega)
                go_wp2_with (go_at_call 10; refine (u32_any a0 len0 cap0 bs e _ R2.out he0 he1).mono ?_; rintro _ W ⟨rfl, hW⟩; rw [hW, hh]; clear hW W)
                go_roundg (6 - (j + 1))
                case measure => omega
                case rel => exact ⟨rfl, j + 1, by omega, rfl, by go_num⟩
            · by_cases h1 : e ≤ len0
              · by_cases h2 : 8 ≤ len0 - e
                · have hh := has_yes (bs := bs) (e := e) (n := 8) (by omega)
                  go_wp2_with (go_at_call 11; refine (u64_any a0 len0 cap0 bs e _ R2.out he0 he1).mono ?_; rintro _ W ⟨rfl, hW⟩; rw [hW, hh]; clear hW W)
                  go_roundg (6 - (j + 1))
                  case measure => omega
                  case rel => exact ⟨rfl, j + 1, by omega, rfl, by go_num⟩
                · have hh := has_no (bs := bs) (e := e) (n := 8) (by omega)
                  go_wp2_with (go_at_call 11; refine (u64_any a0 len0 cap0 bs e _ R2.out he0 he1).mono ?_; rintro _ W ⟨rfl, hW⟩; rw [hW, hh]; clear hW W)
                  go_roundg (6 - (j + 1))
                  case measure => omega
                  case rel => exact ⟨rfl, j + 1, by omega, rfl, by go_num⟩
              · have hh := has_no (bs := bs) (e := e) (n := 8) (by omega)
                go_wp2_with (go_at_call 11; refine (u64_any a0 len0 cap0 bs e _ R2.out he0 he1).mono ?_; rintro _ W ⟨rfl, hW⟩; rw [hW, hh]; clear hW W)
                go_roundg (6 - (j + 1))
                case measure => omega
                case rel => exact ⟨rfl, j + 1, by omega, rfl, by go_num⟩
          · go_wp2
            go_roundg (3 - (k + 1))
            case measure => omega
            case rel => exact ⟨k + 1, by omega, rfl, by go_num, HB2.out⟩
      · have hbl := R0.out.length
        have hb0 : Below w.heap.size w wr := B1.out.trans (((Below.refl _ _).alloc (Nat.le_refl _) _).trans (hbel.mono (by omega)) |>.mono B1.out.size)
        have R2 := hide (R0.out.below hb0)
        have B2 := hide hb0
        clear hbel hb0 R0 R1 B1
        go_wp2_with fail
        refine (cut_any a0 len0 cap0 bs 0 len0 _ R2.out (by omega) (by omega) (by omega) (by omega) (by omega)).mono ?_
        rintro e w2 ⟨c1, c2, c3, rfl, hr, hb⟩
        have R3 := hide (R2.out.below hb)
        have B3 : Hid (Below w.heap.size w w2) := B2.out.trans (hb.mono B2.out.size)
        rw [← hbl, cutOf_all] at hr
        rw [show (len0 : Int) = bs.length from by omega, cutOk_all]
        have C3 := hide hr
        clear hr hb R2 B2
        rw [← show (len0 : Int) = bs.length from by omega]
        go_wp2_with fail
        refine (cut_any a0 len0 cap0 bs len0 0 _ R3.out (by omega) (by omega) (by omega) (by omega) (by omega)).mono ?_
        rintro e w3 ⟨e1, e2, e3, rfl, hr, hb⟩
        have R4 := hide (R3.out.below hb)
        have B4 : Hid (Below w.heap.size w w3) := B3.out.trans (hb.mono B3.out.size)
        have C4 := hide (C3.out.below hb)
        rw [← hbl, cutOf_end] at hr
        have he2 : e2 = 0 := by simpa using hr.length.symm
        have t4 : cutOk bs len0 0 = true := by rw [← hbl, cutOk_end]
        rw [t4, he2]
        clear hr hb R3 B3 C3 t4 he2
        go_wp2_with fail
        have t5 : cutOk bs len0 18446744073709551615 = false := by rw [← hbl]; exact cutOk_far bs _ (by decide)
        refine (cut_any a0 len0 cap0 bs len0 18446744073709551615 _ R4.out (by omega) (by omega) (by omega) (by omega) (by omega)).mono ?_
        rintro e w4 ⟨f1, f2, f3, rfl, hr, hb⟩
        have B5 : Hid (Below w.heap.size w w4) := B4.out.trans (hb.mono B4.out.size)
        have s1 := (C4.out.below hb).str
        have s2 := (R4.out.below hb).str
        rw [t5]
        clear hr hb R4 B4 C4 t5
        go_wp2
        go_ret
        exact ⟨rfl, B5.out⟩

/-! ### THE ROW's STEP: WRITTEN OUT: LEAVE IT -/
set_option maxRecDepth 100000 in
theorem lifted (os : Os) (started : os.Started) (H : Type) (enc : TypeId × Value → H) :
    ReturnsInHanded {} Try.checked os 6 .any (Rows.leEdgesSpec.pre6 enc Try.prog Try.f6 Rows.leEdgesRow.domain false) (Rows.leEdgesSpec.post enc Try.prog Try.f6 false true false false) := by
  refine returnsInHanded_of_change (C := Try.checked) own started (by kernel_rfl) Try.func6
    (ChangeSpec.witness6 (enc := enc) (C := Try.checked) false ⟨#[], #[.slice none 0 0, .int .u8 0], []⟩ 8 (by kernel_rfl) (by kernel_rfl) (by kernel_rfl) (by kernel_rfl)) ?_
  intro W base args ds gs before hval0 hW hcnd _
  have hval : ∀ (j : Nat) t v, Try.f6.params[j]? = some t → args[j]? = some v → Value.okWide Try.prog W .any base t v := hval0
  have hW' := hW
  obtain ⟨p, q, hA0, hV, rfl, hfz, hnd⟩ := hW
  have hA : DataW.TrodAll enc Try.prog W 0 (fun _ => true) true Try.f6.params.toList args.toList ds p := hA0
  rw [Try.params6] at hA hval
  obtain ⟨v0, vs0, d0, ds0, p0, q0, hargs, rfl, rfl, h0, r0⟩ := trodAll_cons hA
  obtain ⟨v1, vs1, d1, ds1, p1, q1, rfl, rfl, rfl, h1, r1⟩ := trodAll_cons r0
  obtain ⟨rfl, rfl, rfl⟩ := trodAll_nil r1
  obtain rfl : args = #[v0, v1] := by cases args; simp_all
  obtain ⟨rfl, rfl⟩ := trodVars_none hV
  obtain ⟨a0, len0, cap0, rfl⟩ := okWide_slice Try.underlying22 (hval 0 22 v0 rfl rfl)
  have k0 := h0
  have lt0 : ∀ x ∈ p0, x.block < W.heap.size := by obtain ⟨m, hm⟩ := k0; exact DataW.trod_lt m _ _ _ hm
  obtain ⟨z0, w0⟩ : ∃ zs, IsRow .u8 W a0 len0 cap0 zs := by
    obtain ⟨fuel, hf⟩ := h0
    rcases open_ints Try.underlying22 Try.underlying5 (by kernel_rfl) hf with ⟨hcs, _⟩ | ⟨x, l, c, zs, hcs, _, hl, hm, hz, _, hcell, hwz⟩
    · simp [Value.cells] at hcs
      obtain ⟨rfl, rfl, rfl⟩ := hcs
      exact ⟨[], .inl ⟨rfl, rfl, rfl, rfl⟩⟩
    · simp [Value.cells] at hcs
      obtain ⟨rfl, rfl, rfl⟩ := hcs
      exact ⟨zs, .inr ⟨_, rfl, hl, hm, by simpa using hz, hcell, hwz⟩⟩
  obtain ⟨a1, rfl, rfl, rfl, w1⟩ := open_int Try.underlying5 (hval 1 5 v1 rfl rfl) h1
  clear hA0 hval0
  refine (walk a0 len0 cap0 z0 a1 W w0 w1).mono fun e W' ⟨he, bel⟩ => ?_
  subst he
  exact ⟨_, rfl, _, _, _, [], _, [], hW', trodAll_mk1 (shut_bool Try.underlying4 _), (trodAll_cons_mk (Below.trod laidOut (by kernel_rfl) (of_decide_eq_true (by kernel_rfl)) k0 bel lt0) (trodAll_cons_mk (shut_int Try.underlying5 w1) trodAll_mk0)), rfl, bel.frame _, fun h => by cases h⟩

theorem over : Rows.leEdgesRow.holds Try.pinned (OpenSpec.ofChange Rows.leEdgesSpec) :=
  OpenClaim.holds_of_wide 6 Try.f6 rfl rfl rfl rfl rfl rfl rfl ⟨rfl, rfl, rfl, rfl, rfl⟩ rfl rfl rfl rfl rfl (by kernel_rfl) Try.func6 (by kernel_rfl)
    (of_decide_eq_true (by kernel_rfl)) (by unfold Func.isWrapper; first | (rw [if_pos (by decide +kernel)]; kernel_rfl) | (rw [if_neg (by decide +kernel)]; exact ⟨rfl, rfl⟩))
    (fun os started H enc _ => lifted os started H enc)

/-- ████ THE STATEMENT ████ -/
theorem proved : Rows.LeEdgesSaid := over
#print axioms proved
end Go.Proofs.Ytenpjddjoebljaa.leEdges
namespace Go.Proofs.Ytenpjddjoebljaa
theorem leEdges_holds : Rows.LeEdgesSaid := leEdges.proved
end Go.Proofs.Ytenpjddjoebljaa
