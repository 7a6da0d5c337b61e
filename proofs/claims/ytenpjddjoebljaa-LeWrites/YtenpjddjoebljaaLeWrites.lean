/- The statement LeWrites holds: for any bytes and any numbers the law returns true, and its arguments read afterwards as before. No condition. -/
import Derived.Test.YtenpjddjoebljaaRows
import Derived.WalkKit
import Derived.ProofKit
import Derived.OpenShut
import Derived.ShutString
import Derived.ChangeOld
import Derived.Below
import Derived.Test.YtenpjddjoebljaaWrites
namespace Go.Proofs.Ytenpjddjoebljaa.leWrites
open Go.ChangeShapes Go.WideShapes Go.ChangeAt Go.RowKit
open Go.ChangeMaps (open_string shut_string)
set_option linter.unusedVariables false

theorem own : ownKnob Try.prog.godebug = none := by kernel_rfl
theorem laidOut : laidOutB Try.prog = true := by kernel_rfl

/-! ### STEP 1: THE WALK: the Go text returns true, AND WRITES NOTHING THAT WAS THERE: 'Below w.heap.size w w'' (Derived/Below.lean: '.refl', '.alloc', '.drew', '.setCell' at a new block, '.trans'). Open each 'IsRow' by 'rcases' AHEAD of 'go_enter'; part every test ahead of the walk. -/
set_option maxHeartbeats 6400000 in
set_option maxRecDepth 100000 in
set_option linter.unusedSimpArgs false in
theorem walk (a0 : Option Addr) (len0 cap0 : Nat) (z0 : List Int) (a1 : Option Addr) (len1 cap1 : Nat) (z1 : List Int) (a2 : Option Addr) (len2 cap2 : Nat) (z2 : List Int) (a3 : Option Addr) (len3 cap3 : Nat) (z3 : List Int) (w : World) (w0 : IsRow .u8 w a0 len0 cap0 z0) (w1 : IsRow .u16 w a1 len1 cap1 z1) (w2 : IsRow .u32 w a2 len2 cap2 z2) (w3 : IsRow .u64 w a3 len3 cap3 z3) :
    Calls Try.prog 4 #[.slice a0 len0 cap0, .slice a1 len1 cap1, .slice a2 len2 cap2, .slice a3 len3 cap3] w fun e w' => e = .returned (.bool true) ∧ Below w.heap.size w w' := by
  have rb := w0.rd
  have r1 := w1.rn (top := 65535) (by decide) (fun n hn => bounds_u16 hn)
  have r2 := w2.rn (top := 4294967295) (by decide) (fun n hn => bounds_u32 hn)
  have r3 := w3.rn (top := 18446744073709551615) (by decide) (fun n hn => bounds_u64 hn)
  generalize z0.take len0 = bs at rb
  generalize z1.take len1 = xs at r1
  generalize z2.take len2 = ys at r2
  generalize z3.take len3 = zs at r3
  clear w0 w1 w2 w3
  have hle := rb.le
  have hmx := rb.max
  have hle1 := r1.le
  have hmx1 := r1.max
  have hle2 := r2.le
  have hmx2 := r2.max
  have hle3 := r3.le
  have hmx3 := r3.max
  by_cases h0 : 200 < len0
  · go_enter Try.func4, Try.ntmps4
    go_wp2_with fail
    refine (known_any _).mono ?_
    rintro e w1 ⟨rfl, hb⟩
    go_wp2
    go_ret
    exact ⟨rfl, hb⟩
  · have d0 : decide ((200 : Int) < (len0 : Int)) = false := by simp; omega
    by_cases h1 : 20 < len1
    · go_enter Try.func4, Try.ntmps4
      go_wp2_with fail
      refine (known_any _).mono ?_
      rintro e w1 ⟨rfl, hb⟩
      go_wp2
      go_ret
      exact ⟨rfl, hb⟩
    · have d1 : decide ((20 : Int) < (len1 : Int)) = false := by simp; omega
      by_cases h2 : 20 < len2
      · go_enter Try.func4, Try.ntmps4
        go_wp2_with fail
        refine (known_any _).mono ?_
        rintro e w1 ⟨rfl, hb⟩
        go_wp2
        go_ret
        exact ⟨rfl, hb⟩
      · have d2 : decide ((20 : Int) < (len2 : Int)) = false := by simp; omega
        by_cases h3 : 20 < len3
        · go_enter Try.func4, Try.ntmps4
          go_wp2_with fail
          refine (known_any _).mono ?_
          rintro e w1 ⟨rfl, hb⟩
          go_wp2
          go_ret
          exact ⟨rfl, hb⟩
        · have d3 : decide ((20 : Int) < (len3 : Int)) = false := by simp; omega
          have RB := hide rb
          have R1 := hide r1
          have R2 := hide r2
          have R3 := hide r3
          clear rb r1 r2 r3
          go_enter Try.func4, Try.ntmps4
          go_wp2_with fail
          refine (known_any _).mono ?_
          rintro e w1 ⟨rfl, hb⟩
          have B1 := hide hb
          clear hb
          go_wp2_with fail
          go_quiet (fail)
          have E0 : Hid (Below w.heap.size w (w1.drewN nq)) := below_drewN B1.out nq
          generalize w1.drewN nq = V at *
          have RB0 := hide (RB.out.below E0.out)
          have R10 := hide (R1.out.below E0.out)
          have R20 := hide (R2.out.below E0.out)
          have R30 := hide (R3.out.below E0.out)
          have EA : Hid (Ext V V (.slice a0 len0 len0) len0 bs) := ⟨Below.refl _ _, .inl ⟨a0, rfl, RB0.out.full⟩⟩
          clear B1 RB R1 R2 R3
          go_wp2_with fail
          go_loopg [9, 12] len1 (fun g u i wr => ∃ k : Nat, k ≤ len1 ∧ g = len1 - k ∧ i = .int .i64 k ∧ Ext V wr u (len0 + 2 * k) (bs ++ flat 2 (xs.take k)))
          case atStart => exact ⟨0, by omega, rfl, rfl, by simpa [flat] using EA.out⟩
          case round =>
            obtain ⟨k, hk, rfl, rfl, hext⟩ := hrel
            clear EA
            by_cases hlt : k < len1
            · obtain ⟨b, o, rfl, hc⟩ := R10.out.addr (by omega)
              have hc1 := hc k hlt
              have hcell := (hext.1.cell (World.block_lt_of_cell? V _ hc1)).trans hc1
              have hfit := R10.out.at k
              have hxl := R10.out.length
              obtain ⟨y, hy⟩ : ∃ y, y = xs[k]?.getD 0 := ⟨_, rfl⟩
              have hcy : wr.cell? ⟨b, o + k, none⟩ = some (.int .u16 y) := by rw [hy]; exact hcell
              rw [← hy] at hfit
              have HY := hide hy
              have HE := hide hext
              have HX := hide hxl
              clear hy hcell hc1 hc hext hxl
              go_wp2_with (go_at_call 15; refine (rput_any V _ (len0 + 2 * k) (bs ++ flat 2 (xs.take k)) y 2 _ HE.out (by omega) (by omega) (by omega) (by omega) (by omega)).mono ?_; rintro e w3 ⟨v', rfl, hext3⟩)
              have E3 : Hid (Ext V w3 v' (len0 + 2 * (k + 1)) (bs ++ flat 2 (xs.take (k + 1)))) := by
                rw [← flat_step 2 bs xs k (by rw [HX.out]; omega), ← HY.out]
                exact hext3
              clear hext3 HE HY HX
              go_roundg (len1 - (k + 1))
              case measure => omega
              case rel => exact ⟨k + 1, by omega, rfl, by go_num, E3.out⟩
            · obtain rfl : len1 = k := by omega
              have hxl := R10.out.length
              rw [List.take_of_length_le (by omega)] at hext
              clear hxl hlt hk
              obtain ⟨apA, cpA, hvA, rpA⟩ := hext.rd
              have PA := hide rpA
              have LA := hide hext.1
              clear hext rpA
              rw [hvA]
              clear hvA
              generalize wr = VA at *
              have RB1 := hide (RB0.out.below LA.out)
              have R11 := hide (R10.out.below LA.out)
              have R21 := hide (R20.out.below LA.out)
              have R31 := hide (R30.out.below LA.out)
              have E1 : Hid (Below w.heap.size w VA) := E0.out.trans (LA.out.mono E0.out.size)
              have EB : Hid (Ext VA VA (.slice a0 len0 len0) len0 bs) := ⟨Below.refl _ _, .inl ⟨a0, rfl, RB1.out.full⟩⟩
              clear RB0 R10 R20 R30 E0 LA
              go_wp2_with fail
              go_loopg [10, 13] len2 (fun g u i wr => ∃ k : Nat, k ≤ len2 ∧ g = len2 - k ∧ i = .int .i64 k ∧ Ext VA wr u (len0 + 4 * k) (bs ++ flat 4 (ys.take k)))
              case atStart => exact ⟨0, by omega, rfl, rfl, by simpa [flat] using EB.out⟩
              case round =>
                obtain ⟨k, hk, rfl, rfl, hext⟩ := hrel
                clear EB
                by_cases hlt : k < len2
                · obtain ⟨b, o, rfl, hc⟩ := R21.out.addr (by omega)
                  have hc1 := hc k hlt
                  have hcell := (hext.1.cell (World.block_lt_of_cell? VA _ hc1)).trans hc1
                  have hfit := R21.out.at k
                  have hxl := R21.out.length
                  obtain ⟨y, hy⟩ : ∃ y, y = ys[k]?.getD 0 := ⟨_, rfl⟩
                  have hcy : wr.cell? ⟨b, o + k, none⟩ = some (.int .u32 y) := by rw [hy]; exact hcell
                  rw [← hy] at hfit
                  have HY := hide hy
                  have HE := hide hext
                  have HX := hide hxl
                  clear hy hcell hc1 hc hext hxl
                  go_wp2_with (go_at_call 15; refine (rput_any VA _ (len0 + 4 * k) (bs ++ flat 4 (ys.take k)) y 4 _ HE.out (by omega) (by omega) (by omega) (by omega) (by omega)).mono ?_; rintro e w3 ⟨v', rfl, hext3⟩)
                  have E3 : Hid (Ext VA w3 v' (len0 + 4 * (k + 1)) (bs ++ flat 4 (ys.take (k + 1)))) := by
                    rw [← flat_step 4 bs ys k (by rw [HX.out]; omega), ← HY.out]
                    exact hext3
                  clear hext3 HE HY HX
                  go_roundg (len2 - (k + 1))
                  case measure => omega
                  case rel => exact ⟨k + 1, by omega, rfl, by go_num, E3.out⟩
                · obtain rfl : len2 = k := by omega
                  have hxl := R21.out.length
                  rw [List.take_of_length_le (by omega)] at hext
                  clear hxl hlt hk
                  obtain ⟨apB, cpB, hvB, rpB⟩ := hext.rd
                  have PB := hide rpB
                  have LB := hide hext.1
                  clear hext rpB
                  rw [hvB]
                  clear hvB
                  generalize wr = VB at *
                  have RB2 := hide (RB1.out.below LB.out)
                  have R12 := hide (R11.out.below LB.out)
                  have R22 := hide (R21.out.below LB.out)
                  have R32 := hide (R31.out.below LB.out)
                  have PA2 := hide (PA.out.below LB.out)
                  have E2 : Hid (Below w.heap.size w VB) := E1.out.trans (LB.out.mono E1.out.size)
                  have EC : Hid (Ext VB VB (.slice a0 len0 len0) len0 bs) := ⟨Below.refl _ _, .inl ⟨a0, rfl, RB2.out.full⟩⟩
                  clear RB1 R11 R21 R31 E1 LB PA
                  go_wp2_with fail
                  go_loopg [11, 14] len3 (fun g u i wr => ∃ k : Nat, k ≤ len3 ∧ g = len3 - k ∧ i = .int .i64 k ∧ Ext VB wr u (len0 + 8 * k) (bs ++ flat 8 (zs.take k)))
                  case atStart => exact ⟨0, by omega, rfl, rfl, by simpa [flat] using EC.out⟩
                  case round =>
                    obtain ⟨k, hk, rfl, rfl, hext⟩ := hrel
                    clear EC
                    by_cases hlt : k < len3
                    · obtain ⟨b, o, rfl, hc⟩ := R32.out.addr (by omega)
                      have hc1 := hc k hlt
                      have hcell := (hext.1.cell (World.block_lt_of_cell? VB _ hc1)).trans hc1
                      have hfit := R32.out.at k
                      have hxl := R32.out.length
                      obtain ⟨y, hy⟩ : ∃ y, y = zs[k]?.getD 0 := ⟨_, rfl⟩
                      have hcy : wr.cell? ⟨b, o + k, none⟩ = some (.int .u64 y) := by rw [hy]; exact hcell
                      rw [← hy] at hfit
                      have HY := hide hy
                      have HE := hide hext
                      have HX := hide hxl
                      clear hy hcell hc1 hc hext hxl
                      go_wp2_with (go_at_call 15; refine (rput_any VB _ (len0 + 8 * k) (bs ++ flat 8 (zs.take k)) y 8 _ HE.out (by omega) (by omega) (by omega) (by omega) (by omega)).mono ?_; rintro e w3 ⟨v', rfl, hext3⟩)
                      have E3 : Hid (Ext VB w3 v' (len0 + 8 * (k + 1)) (bs ++ flat 8 (zs.take (k + 1)))) := by
                        rw [← flat_step 8 bs zs k (by rw [HX.out]; omega), ← HY.out]
                        exact hext3
                      clear hext3 HE HY HX
                      go_roundg (len3 - (k + 1))
                      case measure => omega
                      case rel => exact ⟨k + 1, by omega, rfl, by go_num, E3.out⟩
                    · obtain rfl : len3 = k := by omega
                      have hxl := R32.out.length
                      rw [List.take_of_length_le (by omega)] at hext
                      clear hxl hlt hk
                      obtain ⟨apC, cpC, hvC, rpC⟩ := hext.rd
                      have PC := hide rpC
                      have LC := hide hext.1
                      clear hext rpC
                      rw [hvC]
                      clear hvC
                      generalize wr = VC at *
                      have RB3 := hide (RB2.out.below LC.out)
                      have R13 := hide (R12.out.below LC.out)
                      have R23 := hide (R22.out.below LC.out)
                      have R33 := hide (R32.out.below LC.out)
                      have PA3 := hide (PA2.out.below LC.out)
                      have PB3 := hide (PB.out.below LC.out)
                      have E3 : Hid (Below w.heap.size w VC) := E2.out.trans (LC.out.mono E2.out.size)
                      clear RB2 R12 R22 R32 E2 LC PA2 PB
                      go_upto_region 18 with fail
                      go_cut [118] (fun s wx => s = .bool false ∧ Below VC.heap.size VC wx)
                      case first =>
                        refine wp_region_held_drew (S := fun w' => Below VC.heap.size VC w') (by kernel_rfl) (Below.refl _ _).drew (fun hHeld => ?_)
                        refine wpAnyH_take (i := 0) (oi := ⟨some 94, _, _, _, _, _⟩) (v := ?_) rfl (by kernel_rfl) (by kernel_rfl) (by kernel_rfl) (fun _ _ _ h => h) (Or.inl ⟨by rfl, ?_⟩) hHeld ?_
                        rotate_left
                        · intro w' hSw; go_simp; try with_reducible rfl
                        try simp only [Act.put, List.setIfInBounds_toArray, List.set_cons_zero, List.set_cons_succ]
                        refine wpAnyH_take (i := 1) (oi := ⟨some 95, _, _, _, _, _⟩) (v := ?_) rfl (by kernel_rfl) (by kernel_rfl) (by kernel_rfl) (fun _ _ _ h => h) (Or.inl ⟨by rfl, ?_⟩) hHeld ?_
                        rotate_left
                        · intro w' hSw; go_simp; try with_reducible rfl
                        try simp only [Act.put, List.setIfInBounds_toArray, List.set_cons_zero, List.set_cons_succ]
                        refine wpAnyH_take (i := 4) (oi := ⟨some 98, _, _, _, _, _⟩) (v := ?_) rfl (by kernel_rfl) (by kernel_rfl) (by kernel_rfl) (fun _ _ _ h => h) (Or.inl ⟨by rfl, ?_⟩) hHeld ?_
                        rotate_left
                        · intro w' hSw; go_simp; try with_reducible rfl
                        try simp only [Act.put, List.setIfInBounds_toArray, List.set_cons_zero, List.set_cons_succ]
                        refine wpAnyH_take (i := 5) (oi := ⟨some 99, _, _, _, _, _⟩) (v := ?_) rfl (by kernel_rfl) (by kernel_rfl) (by kernel_rfl) (fun _ _ _ h => h) (Or.inl ⟨by rfl, ?_⟩) hHeld ?_
                        rotate_left
                        · intro w' hSw; have sx := (PA3.out.below hSw).str; go_simp; try with_reducible rfl
                        try simp only [Act.put, List.setIfInBounds_toArray, List.set_cons_zero, List.set_cons_succ]
                        refine wpAnyH_ready (rs := [2]) (by kernel_rfl) (by simp) ?_
                        refine AllReadyH.cons (o := ⟨some 96, _, _, _, _, _⟩) rfl (fun K hK => ?_) AllReadyH.nil
                        go_simp
                        refine (put16_any a0 len0 cap0 bs a1 len1 cap1 xs _ (RB3.out.below hHeld) (R13.out.below hHeld) (by omega)).mono ?_
                        rintro e w5 ⟨x5, y5, z5, rfl, hr5, hb5⟩
                        have s5 := hr5.str
                        have G5 : Below VC.heap.size VC w5 := hHeld.trans (hb5.mono hHeld.size)
                        clear hr5 hb5
                        try go_wp2_with fail
                        refine hK.out _ _ (G5) (fun hHeld => ?_)
                        clear hK K
                        try simp only [Act.put, List.setIfInBounds_toArray, List.set_cons_zero, List.set_cons_succ]
                        refine wpAnyH_ready (rs := [3]) (by kernel_rfl) (by simp) ?_
                        refine AllReadyH.cons (o := ⟨some 97, _, _, _, _, _⟩) rfl (fun K hK => ?_) AllReadyH.nil
                        go_simp
                        refine hK.out _ _ (hHeld) (fun hHeld => ?_)
                        clear hK K
                        try simp only [Act.put, List.setIfInBounds_toArray, List.set_cons_zero, List.set_cons_succ]
                        refine wpAnyH_take (i := 6) (oi := ⟨some 100, _, _, _, _, _⟩) (v := ?_) rfl (by kernel_rfl) (by kernel_rfl) (by kernel_rfl) (fun _ _ _ h => h) (Or.inl ⟨by rfl, ?_⟩) hHeld ?_
                        rotate_left
                        · intro w' hSw; go_simp; try with_reducible rfl
                        try simp only [Act.put, List.setIfInBounds_toArray, List.set_cons_zero, List.set_cons_succ]
                        refine wpAnyH_take (i := 7) (oi := ⟨some 101, _, _, _, _, _⟩) (v := ?_) rfl (by kernel_rfl) (by kernel_rfl) (by kernel_rfl) (fun _ _ _ h => h) (Or.inl ⟨by rfl, ?_⟩) hHeld ?_
                        rotate_left
                        · intro w' hSw; go_simp; try with_reducible rfl
                        try simp only [Act.put, List.setIfInBounds_toArray, List.set_cons_zero, List.set_cons_succ]
                        refine wpAnyH_take (i := 8) (oi := ⟨some 102, _, _, _, _, _⟩) (v := ?_) rfl (by kernel_rfl) (by kernel_rfl) (by kernel_rfl) (fun _ _ _ h => h) (Or.inl ⟨by rfl, ?_⟩) hHeld ?_
                        rotate_left
                        · intro w' hSw; go_simp; try with_reducible rfl
                        try simp only [Act.put, List.setIfInBounds_toArray, List.set_cons_zero, List.set_cons_succ]
                        refine wpAnyH_take (i := 9) (oi := ⟨some 103, _, _, _, _, _⟩) (v := ?_) rfl (by kernel_rfl) (by kernel_rfl) (by kernel_rfl) (fun _ _ _ h => h) (Or.inl ⟨by rfl, ?_⟩) hHeld ?_
                        rotate_left
                        · intro w' hSw; go_simp; try with_reducible rfl
                        try simp only [Act.put, List.setIfInBounds_toArray, List.set_cons_zero, List.set_cons_succ]
                        refine wpAnyH_take (i := 12) (oi := ⟨some 106, _, _, _, _, _⟩) (v := ?_) rfl (by kernel_rfl) (by kernel_rfl) (by kernel_rfl) (fun _ _ _ h => h) (Or.inl ⟨by rfl, ?_⟩) hHeld ?_
                        rotate_left
                        · intro w' hSw; go_simp; try with_reducible rfl
                        try simp only [Act.put, List.setIfInBounds_toArray, List.set_cons_zero, List.set_cons_succ]
                        refine wpAnyH_take (i := 13) (oi := ⟨some 107, _, _, _, _, _⟩) (v := ?_) rfl (by kernel_rfl) (by kernel_rfl) (by kernel_rfl) (fun _ _ _ h => h) (Or.inl ⟨by rfl, ?_⟩) hHeld ?_
                        rotate_left
                        · intro w' hSw; have sx := (PB3.out.below hSw).str; go_simp; try with_reducible rfl
                        try simp only [Act.put, List.setIfInBounds_toArray, List.set_cons_zero, List.set_cons_succ]
                        refine wpAnyH_ready (rs := [10]) (by kernel_rfl) (by simp) ?_
                        refine AllReadyH.cons (o := ⟨some 104, _, _, _, _, _⟩) rfl (fun K hK => ?_) AllReadyH.nil
                        go_simp
                        refine (put32_any a0 len0 cap0 bs a2 len2 cap2 ys _ (RB3.out.below hHeld) (R23.out.below hHeld) (by omega)).mono ?_
                        rintro e w6 ⟨x6, y6, z6, rfl, hr6, hb6⟩
                        have s6 := hr6.str
                        have G6 : Below VC.heap.size VC w6 := hHeld.trans (hb6.mono hHeld.size)
                        clear hr6 hb6
                        try go_wp2_with fail
                        refine hK.out _ _ (G6) (fun hHeld => ?_)
                        clear hK K
                        try simp only [Act.put, List.setIfInBounds_toArray, List.set_cons_zero, List.set_cons_succ]
                        refine wpAnyH_ready (rs := [11]) (by kernel_rfl) (by simp) ?_
                        refine AllReadyH.cons (o := ⟨some 105, _, _, _, _, _⟩) rfl (fun K hK => ?_) AllReadyH.nil
                        go_simp
                        refine hK.out _ _ (hHeld) (fun hHeld => ?_)
                        clear hK K
                        try simp only [Act.put, List.setIfInBounds_toArray, List.set_cons_zero, List.set_cons_succ]
                        refine wpAnyH_take (i := 14) (oi := ⟨some 108, _, _, _, _, _⟩) (v := ?_) rfl (by kernel_rfl) (by kernel_rfl) (by kernel_rfl) (fun _ _ _ h => h) (Or.inl ⟨by rfl, ?_⟩) hHeld ?_
                        rotate_left
                        · intro w' hSw; go_simp; try with_reducible rfl
                        try simp only [Act.put, List.setIfInBounds_toArray, List.set_cons_zero, List.set_cons_succ]
                        refine wpAnyH_take (i := 15) (oi := ⟨some 109, _, _, _, _, _⟩) (v := ?_) rfl (by kernel_rfl) (by kernel_rfl) (by kernel_rfl) (fun _ _ _ h => h) (Or.inl ⟨by rfl, ?_⟩) hHeld ?_
                        rotate_left
                        · intro w' hSw; go_simp; try with_reducible rfl
                        try simp only [Act.put, List.setIfInBounds_toArray, List.set_cons_zero, List.set_cons_succ]
                        refine wpAnyH_take (i := 16) (oi := ⟨some 110, _, _, _, _, _⟩) (v := ?_) rfl (by kernel_rfl) (by kernel_rfl) (by kernel_rfl) (fun _ _ _ h => h) (Or.inl ⟨by rfl, ?_⟩) hHeld ?_
                        rotate_left
                        · intro w' hSw; go_simp; try with_reducible rfl
                        try simp only [Act.put, List.setIfInBounds_toArray, List.set_cons_zero, List.set_cons_succ]
                        refine wpAnyH_take (i := 17) (oi := ⟨some 111, _, _, _, _, _⟩) (v := ?_) rfl (by kernel_rfl) (by kernel_rfl) (by kernel_rfl) (fun _ _ _ h => h) (Or.inl ⟨by rfl, ?_⟩) hHeld ?_
                        rotate_left
                        · intro w' hSw; go_simp; try with_reducible rfl
                        try simp only [Act.put, List.setIfInBounds_toArray, List.set_cons_zero, List.set_cons_succ]
                        refine wpAnyH_take (i := 18) (oi := ⟨some 112, _, _, _, _, _⟩) (v := ?_) rfl (by kernel_rfl) (by kernel_rfl) (by kernel_rfl) (fun _ _ _ h => h) (Or.inl ⟨by rfl, ?_⟩) hHeld ?_
                        rotate_left
                        · intro w' hSw; go_simp; try with_reducible rfl
                        try simp only [Act.put, List.setIfInBounds_toArray, List.set_cons_zero, List.set_cons_succ]
                        refine wpAnyH_take (i := 21) (oi := ⟨some 115, _, _, _, _, _⟩) (v := ?_) rfl (by kernel_rfl) (by kernel_rfl) (by kernel_rfl) (fun _ _ _ h => h) (Or.inl ⟨by rfl, ?_⟩) hHeld ?_
                        rotate_left
                        · intro w' hSw; go_simp; try with_reducible rfl
                        try simp only [Act.put, List.setIfInBounds_toArray, List.set_cons_zero, List.set_cons_succ]
                        refine wpAnyH_take (i := 22) (oi := ⟨some 116, _, _, _, _, _⟩) (v := ?_) rfl (by kernel_rfl) (by kernel_rfl) (by kernel_rfl) (fun _ _ _ h => h) (Or.inl ⟨by rfl, ?_⟩) hHeld ?_
                        rotate_left
                        · intro w' hSw; have sx := (PC.out.below hSw).str; go_simp; try with_reducible rfl
                        try simp only [Act.put, List.setIfInBounds_toArray, List.set_cons_zero, List.set_cons_succ]
                        refine wpAnyH_ready (rs := [19]) (by kernel_rfl) (by simp) ?_
                        refine AllReadyH.cons (o := ⟨some 113, _, _, _, _, _⟩) rfl (fun K hK => ?_) AllReadyH.nil
                        go_simp
                        refine (put64_any a0 len0 cap0 bs a3 len3 cap3 zs _ (RB3.out.below hHeld) (R33.out.below hHeld) (by omega)).mono ?_
                        rintro e w7 ⟨x7, y7, z7, rfl, hr7, hb7⟩
                        have s7 := hr7.str
                        have G7 : Below VC.heap.size VC w7 := hHeld.trans (hb7.mono hHeld.size)
                        clear hr7 hb7
                        try go_wp2_with fail
                        refine hK.out _ _ (G7) (fun hHeld => ?_)
                        clear hK K
                        try simp only [Act.put, List.setIfInBounds_toArray, List.set_cons_zero, List.set_cons_succ]
                        refine wpAnyH_ready (rs := [20]) (by kernel_rfl) (by simp) ?_
                        refine AllReadyH.cons (o := ⟨some 114, _, _, _, _, _⟩) rfl (fun K hK => ?_) AllReadyH.nil
                        go_simp
                        refine hK.out _ _ (hHeld) (fun hHeld => ?_)
                        clear hK K
                        try simp only [Act.put, List.setIfInBounds_toArray, List.set_cons_zero, List.set_cons_succ]
                        refine wpAnyH_take (i := 23) (oi := ⟨some 117, _, _, _, _, _⟩) (v := ?_) rfl (by kernel_rfl) (by kernel_rfl) (by kernel_rfl) (fun _ _ _ h => h) (Or.inl ⟨by rfl, ?_⟩) hHeld ?_
                        rotate_left
                        · intro w' hSw; go_simp; try with_reducible rfl
                        try simp only [Act.put, List.setIfInBounds_toArray, List.set_cons_zero, List.set_cons_succ]
                        refine wpAnyH_take (i := 24) (oi := ⟨some 118, _, _, _, _, _⟩) (v := ?_) rfl (by kernel_rfl) (by kernel_rfl) (by kernel_rfl) (fun _ _ _ h => h) (Or.inl ⟨by rfl, ?_⟩) hHeld ?_
                        rotate_left
                        · intro w' hSw; go_simp; try with_reducible rfl
                        try simp only [Act.put, List.setIfInBounds_toArray, List.set_cons_zero, List.set_cons_succ]
                        refine wpAnyH_done (by kernel_rfl) ?_ _
                        go_wp2_with fail
                        go_meet
                        case rel => exact ⟨rfl, hHeld⟩
                      case rest =>
                        obtain ⟨rfl, hbx⟩ := hcut
                        have BX := hide (E3.out.trans (hbx.mono E3.out.size))
                        have RX := hide (PC.out.below hbx)
                        have RZ := hide (R33.out.below hbx)
                        have hbl := RB3.out.length
                        have hzl := R33.out.length
                        have HBL := hide hbl
                        have HZL := hide hzl
                        clear hbx E3 PC R33 RB3 R13 R23 PA3 PB3 hbl hzl
                        go_wp2_with fail
                        go_loopg [15] len3 (fun g i wi => wi = wc ∧ ∃ k : Nat, k ≤ len3 ∧ g = len3 - k ∧ i = .int .i64 k)
                        case atStart => exact ⟨rfl, 0, by omega, rfl, rfl⟩
                        case round =>
                          obtain ⟨hwi, k, hk, rfl, rfl⟩ := hrel
                          subst hwi
                          by_cases hlt : k < len3
                          · obtain ⟨b, o, rfl, hc⟩ := RZ.out.addr (by omega)
                            have hc1 := hc k hlt
                            have hfit := RZ.out.at k
                            obtain ⟨y, hy⟩ : ∃ y, y = zs[k]?.getD 0 := ⟨_, rfl⟩
                            have hcy : wr.cell? ⟨b, o + k, none⟩ = some (.int .u64 y) := by rw [hy]; exact hc1
                            have hg : got (bs ++ flat 8 zs) ((len0 : Int) + 8 * (k : Int)) 8 = y := by
                              rw [hy, ← HBL.out]; exact got_flat bs zs k (by rw [HZL.out]; omega) hfit.1 hfit.2
                            have hh : has (bs ++ flat 8 zs) ((len0 : Int) + 8 * (k : Int)) 8 = true := by
                              rw [← HBL.out]; exact has_flat bs zs k (by rw [HZL.out]; omega)
                            rw [← hy] at hfit
                            have HG := hide hg
                            have HH := hide hh
                            clear hy hc1 hc hg hh
                            go_wp2_with fail
                            refine (u64_any _ _ _ (bs ++ flat 8 zs) ((len0 : Int) + 8 * (k : Int)) _ RX.out (by omega) (by omega)).mono ?_
                            rintro e W ⟨rfl, hW⟩
                            rw [hW, HG.out, HH.out]
                            clear hW W HG HH
                            go_wp2
                            go_roundg (len3 - (k + 1))
                            case measure => omega
                            case rel => exact ⟨rfl, k + 1, by omega, rfl, by go_num⟩
                          · go_wp2
                            go_ret
                            exact ⟨rfl, BX.out⟩

/-! ### THE ROW's STEP: WRITTEN OUT: LEAVE IT -/
set_option maxRecDepth 100000 in
theorem lifted (os : Os) (started : os.Started) (H : Type) (enc : TypeId × Value → H) :
    ReturnsInHanded {} Try.checked os 4 .any (Rows.leWritesSpec.pre6 enc Try.prog Try.f4 Rows.leWritesRow.domain false) (Rows.leWritesSpec.post enc Try.prog Try.f4 false true false false) := by
  refine returnsInHanded_of_change (C := Try.checked) own started (by kernel_rfl) Try.func4
    (ChangeSpec.witness6 (enc := enc) (C := Try.checked) false ⟨#[], #[.slice none 0 0, .slice none 0 0, .slice none 0 0, .slice none 0 0], []⟩ 8 (by kernel_rfl) (by kernel_rfl) (by kernel_rfl) (by kernel_rfl)) ?_
  intro W base args ds gs before hval0 hW hcnd _
  have hval : ∀ (j : Nat) t v, Try.f4.params[j]? = some t → args[j]? = some v → Value.okWide Try.prog W .any base t v := hval0
  have hW' := hW
  obtain ⟨p, q, hA0, hV, rfl, hfz, hnd⟩ := hW
  have hA : DataW.TrodAll enc Try.prog W 0 (fun _ => true) true Try.f4.params.toList args.toList ds p := hA0
  rw [Try.params4] at hA hval
  obtain ⟨v0, vs0, d0, ds0, p0, q0, hargs, rfl, rfl, h0, r0⟩ := trodAll_cons hA
  obtain ⟨v1, vs1, d1, ds1, p1, q1, rfl, rfl, rfl, h1, r1⟩ := trodAll_cons r0
  obtain ⟨v2, vs2, d2, ds2, p2, q2, rfl, rfl, rfl, h2, r2⟩ := trodAll_cons r1
  obtain ⟨v3, vs3, d3, ds3, p3, q3, rfl, rfl, rfl, h3, r3⟩ := trodAll_cons r2
  obtain ⟨rfl, rfl, rfl⟩ := trodAll_nil r3
  obtain rfl : args = #[v0, v1, v2, v3] := by cases args; simp_all
  obtain ⟨rfl, rfl⟩ := trodVars_none hV
  obtain ⟨a0, len0, cap0, rfl⟩ := okWide_slice Try.underlying22 (hval 0 22 v0 rfl rfl)
  have k0 := h0
  have lt0 : ∀ x ∈ p0, x.block < W.heap.size := by obtain ⟨m, hm⟩ := k0; exact DataW.trod_lt m _ _ _ hm
  obtain ⟨z0, w0⟩ : ∃ zs, IsRow .u8 W a0 len0 cap0 zs := by
    obtain ⟨fuel, hf⟩ := h0
    rcases open_ints Try.underlying22 Try.underlying5 (by kernel_rfl) hf with ⟨hcs, _⟩ | ⟨x, l, c, zs, hcs, _, hl, hm, hz, _, hcell, hwz⟩
    · simp [Value.cells] at hcs
      obtain ⟨rfl, rfl, rfl⟩ := hcs
      exact ⟨[], .inl ⟨rfl, rfl, rfl, rfl⟩⟩
    · simp [Value.cells] at hcs
      obtain ⟨rfl, rfl, rfl⟩ := hcs
      exact ⟨zs, .inr ⟨_, rfl, hl, hm, by simpa using hz, hcell, hwz⟩⟩
  obtain ⟨a1, len1, cap1, rfl⟩ := okWide_slice Try.underlying37 (hval 1 37 v1 rfl rfl)
  have k1 := h1
  have lt1 : ∀ x ∈ p1, x.block < W.heap.size := by obtain ⟨m, hm⟩ := k1; exact DataW.trod_lt m _ _ _ hm
  obtain ⟨z1, w1⟩ : ∃ zs, IsRow .u16 W a1 len1 cap1 zs := by
    obtain ⟨fuel, hf⟩ := h1
    rcases open_ints Try.underlying37 Try.underlying25 (by kernel_rfl) hf with ⟨hcs, _⟩ | ⟨x, l, c, zs, hcs, _, hl, hm, hz, _, hcell, hwz⟩
    · simp [Value.cells] at hcs
      obtain ⟨rfl, rfl, rfl⟩ := hcs
      exact ⟨[], .inl ⟨rfl, rfl, rfl, rfl⟩⟩
    · simp [Value.cells] at hcs
      obtain ⟨rfl, rfl, rfl⟩ := hcs
      exact ⟨zs, .inr ⟨_, rfl, hl, hm, by simpa using hz, hcell, hwz⟩⟩
  obtain ⟨a2, len2, cap2, rfl⟩ := okWide_slice Try.underlying38 (hval 2 38 v2 rfl rfl)
  have k2 := h2
  have lt2 : ∀ x ∈ p2, x.block < W.heap.size := by obtain ⟨m, hm⟩ := k2; exact DataW.trod_lt m _ _ _ hm
  obtain ⟨z2, w2⟩ : ∃ zs, IsRow .u32 W a2 len2 cap2 zs := by
    obtain ⟨fuel, hf⟩ := h2
    rcases open_ints Try.underlying38 Try.underlying28 (by kernel_rfl) hf with ⟨hcs, _⟩ | ⟨x, l, c, zs, hcs, _, hl, hm, hz, _, hcell, hwz⟩
    · simp [Value.cells] at hcs
      obtain ⟨rfl, rfl, rfl⟩ := hcs
      exact ⟨[], .inl ⟨rfl, rfl, rfl, rfl⟩⟩
    · simp [Value.cells] at hcs
      obtain ⟨rfl, rfl, rfl⟩ := hcs
      exact ⟨zs, .inr ⟨_, rfl, hl, hm, by simpa using hz, hcell, hwz⟩⟩
  obtain ⟨a3, len3, cap3, rfl⟩ := okWide_slice Try.underlying39 (hval 3 39 v3 rfl rfl)
  have k3 := h3
  have lt3 : ∀ x ∈ p3, x.block < W.heap.size := by obtain ⟨m, hm⟩ := k3; exact DataW.trod_lt m _ _ _ hm
  obtain ⟨z3, w3⟩ : ∃ zs, IsRow .u64 W a3 len3 cap3 zs := by
    obtain ⟨fuel, hf⟩ := h3
    rcases open_ints Try.underlying39 Try.underlying23 (by kernel_rfl) hf with ⟨hcs, _⟩ | ⟨x, l, c, zs, hcs, _, hl, hm, hz, _, hcell, hwz⟩
    · simp [Value.cells] at hcs
      obtain ⟨rfl, rfl, rfl⟩ := hcs
      exact ⟨[], .inl ⟨rfl, rfl, rfl, rfl⟩⟩
    · simp [Value.cells] at hcs
      obtain ⟨rfl, rfl, rfl⟩ := hcs
      exact ⟨zs, .inr ⟨_, rfl, hl, hm, by simpa using hz, hcell, hwz⟩⟩
  clear hA0 hval0
  refine (walk a0 len0 cap0 z0 a1 len1 cap1 z1 a2 len2 cap2 z2 a3 len3 cap3 z3 W w0 w1 w2 w3).mono fun e W' ⟨he, bel⟩ => ?_
  subst he
  exact ⟨_, rfl, _, _, _, [], _, [], hW', trodAll_mk1 (shut_bool Try.underlying4 _), (trodAll_cons_mk (Below.trod laidOut (by kernel_rfl) (of_decide_eq_true (by kernel_rfl)) k0 bel lt0) (trodAll_cons_mk (Below.trod laidOut (by kernel_rfl) (of_decide_eq_true (by kernel_rfl)) k1 bel lt1) (trodAll_cons_mk (Below.trod laidOut (by kernel_rfl) (of_decide_eq_true (by kernel_rfl)) k2 bel lt2) (trodAll_cons_mk (Below.trod laidOut (by kernel_rfl) (of_decide_eq_true (by kernel_rfl)) k3 bel lt3) trodAll_mk0)))), rfl, bel.frame _, fun h => by cases h⟩

theorem over : Rows.leWritesRow.holds Try.pinned (OpenSpec.ofChange Rows.leWritesSpec) :=
  OpenClaim.holds_of_wide 4 Try.f4 rfl rfl rfl rfl rfl rfl rfl ⟨rfl, rfl, rfl, rfl, rfl⟩ rfl rfl rfl rfl rfl (by kernel_rfl) Try.func4 (by kernel_rfl)
    (of_decide_eq_true (by kernel_rfl)) (by unfold Func.isWrapper; first | (rw [if_pos (by decide +kernel)]; kernel_rfl) | (rw [if_neg (by decide +kernel)]; exact ⟨rfl, rfl⟩))
    (fun os started H enc _ => lifted os started H enc)

/-- ████ THE STATEMENT ████ -/
theorem proved : Rows.LeWritesSaid := over
#print axioms proved
end Go.Proofs.Ytenpjddjoebljaa.leWrites
namespace Go.Proofs.Ytenpjddjoebljaa
theorem leWrites_holds : Rows.LeWritesSaid := leWrites.proved
end Go.Proofs.Ytenpjddjoebljaa
