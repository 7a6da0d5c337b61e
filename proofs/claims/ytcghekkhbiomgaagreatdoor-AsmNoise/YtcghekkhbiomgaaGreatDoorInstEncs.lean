/- The contract of package inst's Encode. -/
import Derived.Test.YtcghekkhbiomgaaGreatDoorInstReg
namespace Go.Proofs.YtcghekkhbiomgaaGreatDoor
open Go.RowKit Go.Maps
set_option linter.unusedVariables false
set_option maxRecDepth 100000
set_option linter.unusedSimpArgs false

theorem rg_any (f x op r0 r1 r2 im : Int) (w : World) (h0 : 0 ≤ x) (h1 : x ≤ 4294967295) :
    Calls Tryz.prog 50 #[.agg #[.bool (hasD f), .bool (has1 f), .bool (has2 f)], .int .u32 x, inst op r0 r1 r2 im] w fun e w' =>
      e = .returned (.tuple #[.int .u32 (if rgOk (hasD f) (has1 f) (has2 f) r0 r1 r2 = true then rgPut (hasD f) (has1 f) (has2 f) x r0 r1 r2 else 0), .bool (rgOk (hasD f) (has1 f) (has2 f) r0 r1 r2)]) ∧ Below w.heap.size w w' := by
  unfold rgOk
  rcases has_cases f with ⟨e0, e1, e2⟩ | ⟨e0, e1, e2⟩ | ⟨e0, e1, e2⟩ | ⟨e0, e1, e2⟩ | ⟨e0, e1, e2⟩ <;> rw [e0, e1, e2] <;> simp only [Bool.not_true, Bool.not_false, Bool.false_or, Bool.true_or, Bool.true_and, Bool.and_true]
  · by_cases g0 : isr r0 = true
    rotate_left
    · have g0' : isr r0 = false := by simpa using g0
      simp only [g0', Bool.false_and, Bool.true_and, Bool.and_false, Bool.false_eq_true, if_false]
      exact rg_0_0 x op r0 r1 r2 im w h0 h1 g0'
    by_cases g1 : isr r1 = true
    rotate_left
    · have g1' : isr r1 = false := by simpa using g1
      simp only [g0, g1', Bool.false_and, Bool.true_and, Bool.and_false, Bool.false_eq_true, if_false]
      exact rg_0_1 x op r0 r1 r2 im w h0 h1 g0 g1'
    by_cases g2 : isr r2 = true
    rotate_left
    · have g2' : isr r2 = false := by simpa using g2
      simp only [g0, g1, g2', Bool.false_and, Bool.true_and, Bool.and_false, Bool.false_eq_true, if_false]
      exact rg_0_2 x op r0 r1 r2 im w h0 h1 g0 g1 g2'
    simp only [g0, g1, g2, Bool.and_self, if_true]
    exact rg_0_ok x op r0 r1 r2 im w h0 h1 g0 g1 g2
  · by_cases g0 : isr r0 = true
    rotate_left
    · have g0' : isr r0 = false := by simpa using g0
      simp only [g0', Bool.false_and, Bool.true_and, Bool.and_false, Bool.false_eq_true, if_false]
      exact rg_1_0 x op r0 r1 r2 im w h0 h1 g0'
    by_cases g1 : isr r1 = true
    rotate_left
    · have g1' : isr r1 = false := by simpa using g1
      simp only [g0, g1', Bool.false_and, Bool.true_and, Bool.and_false, Bool.false_eq_true, if_false]
      exact rg_1_1 x op r0 r1 r2 im w h0 h1 g0 g1'
    simp only [g0, g1, Bool.and_self, if_true]
    exact rg_1_ok x op r0 r1 r2 im w h0 h1 g0 g1
  · by_cases g1 : isr r1 = true
    rotate_left
    · have g1' : isr r1 = false := by simpa using g1
      simp only [g1', Bool.false_and, Bool.true_and, Bool.and_false, Bool.false_eq_true, if_false]
      exact rg_2_1 x op r0 r1 r2 im w h0 h1 g1'
    by_cases g2 : isr r2 = true
    rotate_left
    · have g2' : isr r2 = false := by simpa using g2
      simp only [g1, g2', Bool.false_and, Bool.true_and, Bool.and_false, Bool.false_eq_true, if_false]
      exact rg_2_2 x op r0 r1 r2 im w h0 h1 g1 g2'
    simp only [g1, g2, Bool.and_self, if_true]
    exact rg_2_ok x op r0 r1 r2 im w h0 h1 g1 g2
  · by_cases g0 : isr r0 = true
    rotate_left
    · have g0' : isr r0 = false := by simpa using g0
      simp only [g0', Bool.false_and, Bool.true_and, Bool.and_false, Bool.false_eq_true, if_false]
      exact rg_3_0 x op r0 r1 r2 im w h0 h1 g0'
    simp only [g0, Bool.and_self, if_true]
    exact rg_3_ok x op r0 r1 r2 im w h0 h1 g0
  · simp only [Bool.and_self, if_true]
    exact rg_4_ok x op r0 r1 r2 im w h0 h1 

theorem enc_no (op r0 r1 r2 im : Int) (w : World) (hk : knw op = false) :
    Calls Tryz.prog 33 #[inst op r0 r1 r2 im] w fun e w' => e = .returned (.tuple #[.int .u32 0, .bool false]) ∧ Below w.heap.size w w' := by
  have HK := hide (fun w => knw_any op w)
  rw [hk] at HK
  clear hk
  unfold inst
  go_enter Tryz.func33, Tryz.ntmps33
  go_wp2_with fail
  refine (HK.out _).mono ?_
  rintro e W ⟨rfl, hW⟩
  rw [hW]
  clear hW W HK
  go_wp2
  go_ret2
  exact ⟨rfl, by go_grown⟩

theorem enc_n (k : Nat) (r0 r1 r2 im : Int) (w : World) (hk : knw k = true) (hf : fmo k = 6) (hL : Laid w) :
    Calls Tryz.prog 33 #[inst k r0 r1 r2 im] w fun e w' => e = .returned (.tuple #[.int .u32 (wd k), .bool true]) ∧ Below w.heap.size w w' := by
  have HK := hide (fun w => knw_any k w)
  have HF := hide (fun w hL => form_any k w hL)
  have HL := hide hL
  have hr : 0 < (k : Int) ∧ (k : Int) < 66 := by simpa [knw] using hk
  rw [hk] at HK
  rw [hf] at HF
  clear hk hf hL
  unfold inst
  obtain ⟨y, hy⟩ : ∃ y, y = wd k := ⟨_, rfl⟩
  rw [← hy]
  have HY := hide hy
  clear hy
  go_enter Tryz.func33, Tryz.ntmps33
  go_wp2_with fail
  refine (HK.out _).mono ?_
  rintro e W ⟨rfl, hW⟩
  have c0 : W.cell? ⟨w.heap.size, 0, none⟩ = some (.int .i64 k) := by rw [hW]; go_simp
  have c1 : W.cell? ⟨w.heap.size, 1, none⟩ = some (.int .i64 r0) := by rw [hW]; go_simp
  have c2 : W.cell? ⟨w.heap.size, 2, none⟩ = some (.int .i64 r1) := by rw [hW]; go_simp
  have c3 : W.cell? ⟨w.heap.size, 3, none⟩ = some (.int .i64 r2) := by rw [hW]; go_simp
  have c4 : W.cell? ⟨w.heap.size, 4, none⟩ = some (.int .i64 im) := by rw [hW]; go_simp
  have hB : Below w.heap.size w W := by rw [hW]; exact (Below.refl _ _).alloc (Nat.le_refl _) _
  have hL' := HL.out.below hB HL.out.1
  have hcell := hL'.2.1 k (by omega)
  have HLW := hide hL'
  have HB := hide hB
  have hsz : w.heap.size < W.heap.size := by rw [hW]; simp
  clear hW hB hL' HL
  rw [← HY.out] at hcell
  go_wp2_with fail
  refine (HF.out _ HLW.out).mono ?_
  rintro e W' ⟨rfl, hW⟩
  rw [hW]
  clear hW W' HF
  go_wp2
  go_ret2
  exact ⟨rfl, HB.out⟩

set_option maxHeartbeats 800000 in
theorem enc_bad (k : Nat) (r0 r1 r2 im : Int) (w : World) (hk : knw k = true) (hf : fmo k ≠ 6) (v0 : -9223372036854775808 ≤ im) (v1 : im ≤ 9223372036854775807) (hi : imOk (fmo k) (wd k) im = false) (hL : Laid w) :
    Calls Tryz.prog 33 #[inst k r0 r1 r2 im] w fun e w' => e = .returned (.tuple #[.int .u32 0, .bool false]) ∧ Below w.heap.size w w' := by
  have HK := hide (fun w => knw_any k w)
  have HF := hide (fun w hL => form_any k w hL)
  have bw := wd_bd k
  have HI := hide (fun w => imput_any (fmo k) (wd k) im w bw.1 bw.2 v0 v1)
  have HL := hide hL
  have hr : 0 < (k : Int) ∧ (k : Int) < 66 := by simpa [knw] using hk
  rw [hk] at HK
  rw [hi] at HI
  have hf' : (fmo k == 6) = false := by simp [hf]
  clear hk hf hL hi
  unfold inst
  generalize imPut (fmo k) (wd k) im = z at *
  generalize fmo k = f at *
  go_enter Tryz.func33, Tryz.ntmps33
  go_wp2_with fail
  refine (HK.out _).mono ?_
  rintro e W ⟨rfl, hW⟩
  have c0 : W.cell? ⟨w.heap.size, 0, none⟩ = some (.int .i64 k) := by rw [hW]; go_simp
  have c1 : W.cell? ⟨w.heap.size, 1, none⟩ = some (.int .i64 r0) := by rw [hW]; go_simp
  have c2 : W.cell? ⟨w.heap.size, 2, none⟩ = some (.int .i64 r1) := by rw [hW]; go_simp
  have c3 : W.cell? ⟨w.heap.size, 3, none⟩ = some (.int .i64 r2) := by rw [hW]; go_simp
  have c4 : W.cell? ⟨w.heap.size, 4, none⟩ = some (.int .i64 im) := by rw [hW]; go_simp
  have hB : Below w.heap.size w W := by rw [hW]; exact (Below.refl _ _).alloc (Nat.le_refl _) _
  have hL' := HL.out.below hB HL.out.1
  have hcell := hL'.2.1 k (by omega)
  have HLW := hide hL'
  have HB := hide hB
  have hsz : w.heap.size < W.heap.size := by rw [hW]; simp
  clear hW hB hL' HL
  generalize wd k = y at *
  go_wp2_with fail
  refine (HF.out _ HLW.out).mono ?_
  rintro e W' ⟨rfl, hW⟩
  rw [hW]
  clear hW W' HF HK
  go_wp2_with fail
  go_quiet (first | (go_at_call 49; refine Calls.quiet_of_same (HI.out _)))
  go_wp2
  go_ret2
  exact ⟨rfl, HB.out.trans ⟨rfl, rfl, rfl, Nat.le_refl _, fun _ _ => rfl⟩⟩

set_option maxHeartbeats 1600000 in
theorem enc_ok (k : Nat) (r0 r1 r2 im z : Int) (b : Bool) (w : World) (hk : knw k = true) (hf : fmo k ≠ 6) (v0 : -9223372036854775808 ≤ im) (v1 : im ≤ 9223372036854775807) (hi : imOk (fmo k) (wd k) im = true) (hL : Laid w)
    (HR : Hid (∀ w, Calls Tryz.prog 50 #[.agg #[.bool (hasD (fmo k)), .bool (has1 (fmo k)), .bool (has2 (fmo k))], .int .u32 (imPut (fmo k) (wd k) im), inst k r0 r1 r2 im] w fun e w' =>
      e = .returned (.tuple #[.int .u32 z, .bool b]) ∧ Below w.heap.size w w')) :
    Calls Tryz.prog 33 #[inst k r0 r1 r2 im] w fun e w' => e = .returned (.tuple #[.int .u32 z, .bool b]) ∧ Below w.heap.size w w' := by
  have HK := hide (fun w => knw_any k w)
  have HF := hide (fun w hL => form_any k w hL)
  have HS := hide (fun w => slots_any (fmo k) w)
  have bw := wd_bd k
  have HI := hide (fun w => imput_any (fmo k) (wd k) im w bw.1 bw.2 v0 v1)
  have HL := hide hL
  have hr : 0 < (k : Int) ∧ (k : Int) < 66 := by simpa [knw] using hk
  rw [hk] at HK
  rw [hi] at HI
  have hf' : (fmo k == 6) = false := by simp [hf]
  clear hk hf hL hi
  unfold inst at HR ⊢
  generalize imPut (fmo k) (wd k) im = u at *
  generalize hasD (fmo k) = d at *
  generalize has1 (fmo k) = e1 at *
  generalize has2 (fmo k) = e2 at *
  generalize fmo k = f at *
  go_enter Tryz.func33, Tryz.ntmps33
  go_wp2_with fail
  refine (HK.out _).mono ?_
  rintro e W ⟨rfl, hW⟩
  have c0 : W.cell? ⟨w.heap.size, 0, none⟩ = some (.int .i64 k) := by rw [hW]; go_simp
  have c1 : W.cell? ⟨w.heap.size, 1, none⟩ = some (.int .i64 r0) := by rw [hW]; go_simp
  have c2 : W.cell? ⟨w.heap.size, 2, none⟩ = some (.int .i64 r1) := by rw [hW]; go_simp
  have c3 : W.cell? ⟨w.heap.size, 3, none⟩ = some (.int .i64 r2) := by rw [hW]; go_simp
  have c4 : W.cell? ⟨w.heap.size, 4, none⟩ = some (.int .i64 im) := by rw [hW]; go_simp
  have hB : Below w.heap.size w W := by rw [hW]; exact (Below.refl _ _).alloc (Nat.le_refl _) _
  have hL' := HL.out.below hB HL.out.1
  have hcell := hL'.2.1 k (by omega)
  have HLW := hide hL'
  have HB := hide hB
  have hsz : w.heap.size < W.heap.size := by rw [hW]; simp
  clear hW hB hL' HL
  generalize wd k = y at *
  go_wp2_with fail
  refine (HF.out _ HLW.out).mono ?_
  rintro e W' ⟨rfl, hW⟩
  rw [hW]
  clear hW W' HF HK
  go_wp2_with fail
  go_quiet (first | (go_at_call 49; refine Calls.quiet_of_same (HI.out _)))
  have d0 : (W.drewN nq).cell? ⟨w.heap.size, 0, none⟩ = some (.int .i64 k) := c0
  have d1 : (W.drewN nq).cell? ⟨w.heap.size, 1, none⟩ = some (.int .i64 r0) := c1
  have d2 : (W.drewN nq).cell? ⟨w.heap.size, 2, none⟩ = some (.int .i64 r1) := c2
  have d3 : (W.drewN nq).cell? ⟨w.heap.size, 3, none⟩ = some (.int .i64 r2) := c3
  have d4 : (W.drewN nq).cell? ⟨w.heap.size, 4, none⟩ = some (.int .i64 im) := c4
  have hB2 : Below w.heap.size w (W.drewN nq) := HB.out.trans ⟨rfl, rfl, rfl, Nat.le_refl _, fun _ _ => rfl⟩
  have hsz2 : w.heap.size < (W.drewN nq).heap.size := hsz
  have HB2 := hide hB2
  clear c0 c1 c2 c3 c4 hcell HLW HB HI hB2 hsz
  generalize W.drewN nq = V at *
  go_wp2_with fail
  go_region_with (first
    | (go_at_call 51; refine (HS.out _).mono ?_; rintro e Vs ⟨rfl, hW⟩; rw [hW]; clear hW Vs)
    | (go_at_call 50; refine (HR.out _).mono ?_; rintro e Vp ⟨rfl, hVp⟩))
  all_goals go_wp2
  all_goals go_ret2
  all_goals refine ⟨rfl, ?_⟩
  all_goals
    have hb := HB2.out
    have hs := hb.size
    have hq : Below w.heap.size w Vp := by
      refine Below.trans ?_ (hVp.mono (by simp; omega))
      clear hVp HB2
      go_grown
    go_grown

end Go.Proofs.YtcghekkhbiomgaaGreatDoor
