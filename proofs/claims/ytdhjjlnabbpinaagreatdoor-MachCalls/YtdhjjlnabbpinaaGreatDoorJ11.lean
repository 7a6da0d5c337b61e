/- Texts of this claim, joined: InstRefCoD, InstRefCo, InstBackM, InstTrip, InstForth, InstRefDecs, RefHead. -/
import Derived.Test.YtdhjjlnabbpinaaGreatDoorJ06
import Derived.RegionTactic
import Derived.Test.YtdhjjlnabbpinaaGreatDoorInstRefCoA
import Derived.Test.YtdhjjlnabbpinaaGreatDoorInstRefCoB
import Derived.Test.YtdhjjlnabbpinaaGreatDoorInstRefCoC
import Derived.Test.YtdhjjlnabbpinaaGreatDoorInstRefDec
import Derived.Test.YtdhjjlnabbpinaaGreatDoorJ05
/- The contract of the document's CodeOf, an operation at a time. -/
namespace Go.Proofs.YtdhjjlnabbpinaaGreatDoor
open Go.RowKit
set_option linter.unusedVariables false
set_option maxRecDepth 100000
set_option linter.unusedSimpArgs false

set_option maxRecDepth 100000 in
set_option maxHeartbeats 800000 in
theorem co_41 (w : World) : Calls Tryz.prog 46 #[.int .i64 41] w fun e w' => e = .returned (.agg #[.int .u32 27, .int .u32 0, .int .u32 0]) ∧ Below w.heap.size w w' := by
  go_enter Tryz.func46, Tryz.ntmps46
  go_wp2
  go_region
  all_goals go_wp2
  all_goals go_returns
  all_goals exact ⟨rfl, by go_grown⟩
set_option maxRecDepth 100000 in
set_option maxHeartbeats 800000 in
theorem co_42 (w : World) : Calls Tryz.prog 46 #[.int .i64 42] w fun e w' => e = .returned (.agg #[.int .u32 27, .int .u32 1, .int .u32 0]) ∧ Below w.heap.size w w' := by
  go_enter Tryz.func46, Tryz.ntmps46
  go_wp2
  go_region
  all_goals go_wp2
  all_goals go_returns
  all_goals exact ⟨rfl, by go_grown⟩
set_option maxRecDepth 100000 in
set_option maxHeartbeats 800000 in
theorem co_43 (w : World) : Calls Tryz.prog 46 #[.int .i64 43] w fun e w' => e = .returned (.agg #[.int .u32 27, .int .u32 5, .int .u32 0]) ∧ Below w.heap.size w w' := by
  go_enter Tryz.func46, Tryz.ntmps46
  go_wp2
  go_region
  all_goals go_wp2
  all_goals go_returns
  all_goals exact ⟨rfl, by go_grown⟩
set_option maxRecDepth 100000 in
set_option maxHeartbeats 800000 in
theorem co_44 (w : World) : Calls Tryz.prog 46 #[.int .i64 44] w fun e w' => e = .returned (.agg #[.int .u32 27, .int .u32 5, .int .u32 32]) ∧ Below w.heap.size w w' := by
  go_enter Tryz.func46, Tryz.ntmps46
  go_wp2
  go_region
  all_goals go_wp2
  all_goals go_returns
  all_goals exact ⟨rfl, by go_grown⟩
set_option maxRecDepth 100000 in
set_option maxHeartbeats 800000 in
theorem co_45 (w : World) : Calls Tryz.prog 46 #[.int .i64 45] w fun e w' => e = .returned (.agg #[.int .u32 59, .int .u32 0, .int .u32 0]) ∧ Below w.heap.size w w' := by
  go_enter Tryz.func46, Tryz.ntmps46
  go_wp2
  go_region
  all_goals go_wp2
  all_goals go_returns
  all_goals exact ⟨rfl, by go_grown⟩
set_option maxRecDepth 100000 in
set_option maxHeartbeats 800000 in
theorem co_46 (w : World) : Calls Tryz.prog 46 #[.int .i64 46] w fun e w' => e = .returned (.agg #[.int .u32 59, .int .u32 0, .int .u32 32]) ∧ Below w.heap.size w w' := by
  go_enter Tryz.func46, Tryz.ntmps46
  go_wp2
  go_region
  all_goals go_wp2
  all_goals go_returns
  all_goals exact ⟨rfl, by go_grown⟩
set_option maxRecDepth 100000 in
set_option maxHeartbeats 800000 in
theorem co_47 (w : World) : Calls Tryz.prog 46 #[.int .i64 47] w fun e w' => e = .returned (.agg #[.int .u32 59, .int .u32 1, .int .u32 0]) ∧ Below w.heap.size w w' := by
  go_enter Tryz.func46, Tryz.ntmps46
  go_wp2
  go_region
  all_goals go_wp2
  all_goals go_returns
  all_goals exact ⟨rfl, by go_grown⟩
set_option maxRecDepth 100000 in
set_option maxHeartbeats 800000 in
theorem co_48 (w : World) : Calls Tryz.prog 46 #[.int .i64 48] w fun e w' => e = .returned (.agg #[.int .u32 59, .int .u32 5, .int .u32 0]) ∧ Below w.heap.size w w' := by
  go_enter Tryz.func46, Tryz.ntmps46
  go_wp2
  go_region
  all_goals go_wp2
  all_goals go_returns
  all_goals exact ⟨rfl, by go_grown⟩
set_option maxRecDepth 100000 in
set_option maxHeartbeats 800000 in
theorem co_49 (w : World) : Calls Tryz.prog 46 #[.int .i64 49] w fun e w' => e = .returned (.agg #[.int .u32 59, .int .u32 5, .int .u32 32]) ∧ Below w.heap.size w w' := by
  go_enter Tryz.func46, Tryz.ntmps46
  go_wp2
  go_region
  all_goals go_wp2
  all_goals go_returns
  all_goals exact ⟨rfl, by go_grown⟩

end Go.Proofs.YtdhjjlnabbpinaaGreatDoor

/- The contract of the document's CodeOf. -/
namespace Go.Proofs.YtdhjjlnabbpinaaGreatDoor
open Go.RowKit
set_option linter.unusedVariables false
set_option maxRecDepth 100000

theorem co_any {k : Nat} (hk : 1 ≤ k) (hk' : k < 63) (w : World) : Calls Tryz.prog 46 #[.int .i64 k] w fun e w' => e = .returned (.agg #[.int .u32 (co0 k), .int .u32 (co1 k), .int .u32 (co2 k)]) ∧ Below w.heap.size w w' := by
  match k, hk, hk' with
  | 1, _, _ => exact co_1 w
  | 2, _, _ => exact co_2 w
  | 3, _, _ => exact co_3 w
  | 4, _, _ => exact co_4 w
  | 5, _, _ => exact co_5 w
  | 6, _, _ => exact co_6 w
  | 7, _, _ => exact co_7 w
  | 8, _, _ => exact co_8 w
  | 9, _, _ => exact co_9 w
  | 10, _, _ => exact co_10 w
  | 11, _, _ => exact co_11 w
  | 12, _, _ => exact co_12 w
  | 13, _, _ => exact co_13 w
  | 14, _, _ => exact co_14 w
  | 15, _, _ => exact co_15 w
  | 16, _, _ => exact co_16 w
  | 17, _, _ => exact co_17 w
  | 18, _, _ => exact co_18 w
  | 19, _, _ => exact co_19 w
  | 20, _, _ => exact co_20 w
  | 21, _, _ => exact co_21 w
  | 22, _, _ => exact co_22 w
  | 23, _, _ => exact co_23 w
  | 24, _, _ => exact co_24 w
  | 25, _, _ => exact co_25 w
  | 26, _, _ => exact co_26 w
  | 27, _, _ => exact co_27 w
  | 28, _, _ => exact co_28 w
  | 29, _, _ => exact co_29 w
  | 30, _, _ => exact co_30 w
  | 31, _, _ => exact co_31 w
  | 32, _, _ => exact co_32 w
  | 33, _, _ => exact co_33 w
  | 34, _, _ => exact co_34 w
  | 35, _, _ => exact co_35 w
  | 36, _, _ => exact co_36 w
  | 37, _, _ => exact co_37 w
  | 38, _, _ => exact co_38 w
  | 39, _, _ => exact co_39 w
  | 40, _, _ => exact co_40 w
  | 41, _, _ => exact co_41 w
  | 42, _, _ => exact co_42 w
  | 43, _, _ => exact co_43 w
  | 44, _, _ => exact co_44 w
  | 45, _, _ => exact co_45 w
  | 46, _, _ => exact co_46 w
  | 47, _, _ => exact co_47 w
  | 48, _, _ => exact co_48 w
  | 49, _, _ => exact co_49 w
  | 50, _, _ => exact co_50 w
  | 51, _, _ => exact co_51 w
  | 52, _, _ => exact co_52 w
  | 53, _, _ => exact co_53 w
  | 54, _, _ => exact co_54 w
  | 55, _, _ => exact co_55 w
  | 56, _, _ => exact co_56 w
  | 57, _, _ => exact co_57 w
  | 58, _, _ => exact co_58 w
  | 59, _, _ => exact co_59 w
  | 60, _, _ => exact co_60 w
  | 61, _, _ => exact co_61 w
  | 62, _, _ => exact co_62 w
  | k + 63, _, h => exact absurd h (by omega)

end Go.Proofs.YtdhjjlnabbpinaaGreatDoor

/- What is encoded is decoded again, in numbers. -/
namespace Go.Proofs.YtdhjjlnabbpinaaGreatDoor
open Go.RowKit
set_option linter.unusedVariables false
set_option maxRecDepth 100000

theorem shb_eq {x y : Int} (h1 : cd x = cd y) (h2 : f3 x = f3 y) : shb x = shb y := by unfold shb; rw [h1, h2]
theorem shb_no {x : Int} (h : fmc (cd x) ≠ 1) : shb x = 0 := by
  rcases shb_cases x with hs | hs | hs
  · exact hs
  · exact absurd (shb_form (by rw [hs]; decide)) h
  · exact absurd (shb_form (by rw [hs]; decide)) h

/-- What a word's parts are, by the form of its opcode. -/
structure Back (k : Nat) (x r0 r1 r2 im : Int) : Prop where
  lo : 0 ≤ x
  hi : x ≤ 4294967295
  mt : Mt k x
  d : hasD (fmc (cd (wd k))) = true → x / 128 % 32 = r0
  a : has1 (fmc (cd (wd k))) = true → x / 32768 % 32 = r1
  b : has2 (fmc (cd (wd k))) = true → x / 1048576 % 32 = r2
  i : imO (fmc (cd (wd k))) x = im

theorem rg_yes {d a b : Bool} {r0 r1 r2 : Int} (h : rgOk d a b r0 r1 r2 = true) : (d = true → 0 ≤ r0 ∧ r0 < 32) ∧ (a = true → 0 ≤ r1 ∧ r1 < 32) ∧ (b = true → 0 ≤ r2 ∧ r2 < 32) := by
  unfold rgOk at h
  simp only [Bool.and_eq_true, Bool.or_eq_true, Bool.not_eq_true'] at h
  obtain ⟨⟨g0, g1⟩, g2⟩ := h
  exact ⟨fun e => isr_yes (g0.resolve_left (by rw [e]; decide)), fun e => isr_yes (g1.resolve_left (by rw [e]; decide)), fun e => isr_yes (g2.resolve_left (by rw [e]; decide))⟩

theorem get_back {f x x0 v : Int} (h0 : 0 ≤ x0) (h1 : x0 ≤ 4294967295) (hx : x = x0 + sprOf f v) (hm : mskOf f x0 = 0) (hf : fitsOf f v = true) : getOf f x = v := by
  have := get_set f x0 v h0 h1 hf
  unfold setOf at this
  rw [hm] at this
  rw [hx]
  simpa using this
theorem e20 : (2 : Int) ^ 20 = 1048576 := by simp
theorem e5 : (2 : Int) ^ 5 = 32 := by simp
theorem e6 : (2 : Int) ^ 6 = 64 := by simp
theorem e15 : (2 : Int) ^ 15 = 32768 := by simp
theorem e7 : (2 : Int) ^ 7 = 128 := by simp
theorem spr1 (v : Int) : sprOf 1 v = v % 4096 * 1048576 := by simp [sprOf, fld]
theorem spr2 (v : Int) : sprOf 2 v = v / 32 % 128 * 33554432 + v % 32 * 128 := by simp [sprOf, fld]
theorem spr4 (v : Int) : sprOf 4 v = v % 1048576 * 4096 := by simp [sprOf, fld]
theorem msk1 (x : Int) : mskOf 1 x = x / 1048576 % 4096 * 1048576 := by simp [mskOf, fld]
theorem msk2 (x : Int) : mskOf 2 x = x / 33554432 % 128 * 33554432 + x / 128 % 32 * 128 := by simp [mskOf, fld]
theorem msk4 (x : Int) : mskOf 4 x = x / 4096 % 1048576 * 4096 := by simp [mskOf, fld]

theorem form_cases {c : Int} (h : fmc c ≠ 6) : fmc c = 0 ∨ fmc c = 1 ∨ fmc c = 2 ∨ fmc c = 3 ∨ fmc c = 4 ∨ fmc c = 5 := by
  have := fmc_bd c
  omega

theorem back {k : Nat} (hk : 1 ≤ k) (hk' : k < 63) {r0 r1 r2 im : Int} (hi : imOk (fmc (cd (wd k))) (wd k) im = true) (hr : rgOk (hasD (fmc (cd (wd k)))) (has1 (fmc (cd (wd k)))) (has2 (fmc (cd (wd k)))) r0 r1 r2 = true) :
    Back k (wd k + imP (fmc (cd (wd k))) (wd k) im + rgP (fmc (cd (wd k))) r0 r1 r2) r0 r1 r2 im := by
  have hn : fmc (cd (wd k)) ≠ 6 := fun h => by have := (tab_n k (by omega) hk).1 h; omega
  obtain ⟨b0, b1, b2⟩ := rg_yes hr
  have bc := cd_bd (wd k)
  have bf := f3_bd (wd k)
  have bw := wd_bd k
  have hiff := @key_iff (wd k)
  unfold imOk at hi
  unfold imP rgP
  have T0 := tab_0 k (by omega)
  have T1 := tab_1 k (by omega)
  have T2 := tab_2 k (by omega)
  have T4 := tab_4 k (by omega)
  have T5 := tab_5 k (by omega)
  have T6 := tab_6 k (by omega)
  rcases form_cases hn with hf | hf | hf | hf | hf | hf
  · -- R
    obtain ⟨hs, hw⟩ := T0 hf
    rw [hf] at b0 b1 b2 hi ⊢
    have d0 := b0 (by decide)
    have d1 := b1 (by decide)
    have d2 := b2 (by decide)
    rw [hs, if_neg (by decide), if_neg (by decide)] at hi
    have hv : im = 0 := by simpa [fitsOf] using hi
    subst hv
    rw [hs, if_pos rfl, if_pos (by decide), if_pos (by decide), if_pos (by decide), show sprOf 0 0 = 0 by decide]
    have key : ∀ x, x = wd k + 0 + (r0 * 128 + r1 * 32768 + r2 * 1048576) → Back k x r0 r1 r2 0 := fun x hx => by
      have hcd : cd x = cd (wd k) := by rw [cd_is x]; omega
      have hf3 : f3 x = f3 (wd k) := by rw [f3_is x]; omega
      have hu : x / 33554432 = wd k / 33554432 := by omega
      refine ⟨by omega, by omega, (hiff hn).2 ⟨hcd, fun _ => hf3, fun _ => hu, fun h => by rw [hs] at h; exact absurd h (by decide)⟩, fun _ => by omega, fun _ => by omega, fun _ => by omega, ?_⟩
      rw [hf]; unfold imO; rw [shb_eq hcd hf3, hs]; simp [getOf]
    exact key _ rfl
  · -- I
    rcases shb_cases (wd k) with hs | hs | hs
    · have hw := T1 ⟨hf, hs⟩
      rw [hf] at b0 b1 hi ⊢
      have d0 := b0 (by decide)
      have d1 := b1 (by decide)
      rw [hs, if_neg (by decide), if_neg (by decide)] at hi
      rw [hs, if_pos rfl, if_pos (by decide), if_pos (by decide), if_neg (by decide)]
      have key : ∀ x, x = wd k + sprOf 1 im + (r0 * 128 + r1 * 32768 + 0) → Back k x r0 r1 r2 im := fun x hx => by
        have hm : mskOf 1 (wd k + (r0 * 128 + r1 * 32768)) = 0 := by rw [msk1]; omega
        have hg := get_back (f := 1) (x := x) (x0 := wd k + (r0 * 128 + r1 * 32768)) (v := im) (by omega) (by omega) (by omega) hm hi
        rw [spr1] at hx
        have hcd : cd x = cd (wd k) := by rw [cd_is x]; omega
        have hf3 : f3 x = f3 (wd k) := by rw [f3_is x]; omega
        refine ⟨by omega, by omega, (hiff hn).2 ⟨hcd, fun _ => hf3, fun h => by rw [hf, hs] at h; exact absurd h (by decide), fun h => by rw [hs] at h; exact absurd h (by decide)⟩, fun _ => by omega, fun _ => by omega, fun h => by rw [hf] at h; exact absurd h (by decide), ?_⟩
        rw [hf]; unfold imO; rw [shb_eq hcd hf3, hs, if_neg (by decide), if_neg (by decide)]; exact hg
      exact key _ rfl
    · have hw := (T5 hs).2
      rw [hf] at b0 b1 hi ⊢
      have d0 := b0 (by decide)
      have d1 := b1 (by decide)
      rw [hs, if_neg (by decide), if_pos rfl] at hi
      simp at hi
      rw [hs, if_neg (by decide), if_pos (by decide), if_pos (by decide), if_neg (by decide)]
      have key : ∀ x, x = wd k + im * 1048576 + (r0 * 128 + r1 * 32768 + 0) → Back k x r0 r1 r2 im := fun x hx => by
        have hcd : cd x = cd (wd k) := by rw [cd_is x]; omega
        have hf3 : f3 x = f3 (wd k) := by rw [f3_is x]; omega
        have hu : x / 33554432 = wd k / 33554432 := by omega
        refine ⟨by omega, by omega, (hiff hn).2 ⟨hcd, fun _ => hf3, fun _ => hu, fun h => by rw [hs] at h; exact absurd h (by decide)⟩, fun _ => by omega, fun _ => by omega, fun h => by rw [hf] at h; exact absurd h (by decide), ?_⟩
        unfold imO; rw [shb_eq hcd hf3, hs, if_neg (by decide), if_pos rfl]
        rw [e20, e5]
        omega
      exact key _ rfl
    · have hw := (T6 hs).2
      rw [hf] at b0 b1 hi ⊢
      have d0 := b0 (by decide)
      have d1 := b1 (by decide)
      rw [hs, if_pos rfl] at hi
      simp at hi
      rw [hs, if_neg (by decide), if_pos (by decide), if_pos (by decide), if_neg (by decide)]
      have key : ∀ x, x = wd k + im * 1048576 + (r0 * 128 + r1 * 32768 + 0) → Back k x r0 r1 r2 im := fun x hx => by
        have hcd : cd x = cd (wd k) := by rw [cd_is x]; omega
        have hf3 : f3 x = f3 (wd k) := by rw [f3_is x]; omega
        have hu : x / 67108864 = wd k / 67108864 := by omega
        refine ⟨by omega, by omega, (hiff hn).2 ⟨hcd, fun _ => hf3, fun h => by rw [hf, hs] at h; exact absurd h (by decide), fun _ => hu⟩, fun _ => by omega, fun _ => by omega, fun h => by rw [hf] at h; exact absurd h (by decide), ?_⟩
        unfold imO; rw [shb_eq hcd hf3, hs, if_pos rfl]
        rw [e20, e6]
        omega
      exact key _ rfl
  · -- form 2
    obtain ⟨hs, hw⟩ := T2 (Or.inl hf)
    rw [hf] at b1 b2 hi ⊢
    have d1 := b1 (by decide)
    have d2 := b2 (by decide)
    rw [hs, if_neg (by decide), if_neg (by decide)] at hi
    rw [hs, if_pos rfl, if_neg (by decide), if_pos (by decide), if_pos (by decide)]
    have key : ∀ x, x = wd k + sprOf 2 im + (0 + r1 * 32768 + r2 * 1048576) → Back k x r0 r1 r2 im := fun x hx => by
      have hm : mskOf 2 (wd k + (r1 * 32768 + r2 * 1048576)) = 0 := by rw [msk2]; omega
      have hg := get_back (f := 2) (x := x) (x0 := wd k + (r1 * 32768 + r2 * 1048576)) (v := im) (by omega) (by omega) (by omega) hm hi
      rw [spr2] at hx
      have g0 : 0 ≤ im / 32 % 128 ∧ im / 32 % 128 < 128 := by omega
      generalize im / 32 % 128 = q0 at *
      have g1 : 0 ≤ im % 32 ∧ im % 32 < 32 := by omega
      generalize im % 32 = q1 at *
      have hcd : cd x = cd (wd k) := by rw [cd_is x]; omega
      have hf3 : f3 x = f3 (wd k) := by rw [f3_is x]; omega
      refine ⟨by omega, by omega, (hiff hn).2 ⟨hcd, fun _ => hf3, fun h => by rw [hf, hs] at h; exact absurd h (by decide), fun h => by rw [hs] at h; exact absurd h (by decide)⟩, fun h => by rw [hf] at h; exact absurd h (by decide), fun _ => by omega, fun _ => by omega, ?_⟩
      rw [hf]; unfold imO; rw [shb_eq hcd hf3, hs, if_neg (by decide), if_neg (by decide)]; exact hg
    exact key _ rfl
  · -- form 3
    obtain ⟨hs, hw⟩ := T2 (Or.inr hf)
    rw [hf] at b1 b2 hi ⊢
    have d1 := b1 (by decide)
    have d2 := b2 (by decide)
    rw [hs, if_neg (by decide), if_neg (by decide)] at hi
    rw [hs, if_pos rfl, if_neg (by decide), if_pos (by decide), if_pos (by decide)]
    have key : ∀ x, x = wd k + sprOf 3 im + (0 + r1 * 32768 + r2 * 1048576) → Back k x r0 r1 r2 im := fun x hx => by
      have hm : mskOf 3 (wd k + (r1 * 32768 + r2 * 1048576)) = 0 := by rw [msk3]; omega
      have hg := get_back (f := 3) (x := x) (x0 := wd k + (r1 * 32768 + r2 * 1048576)) (v := im) (by omega) (by omega) (by omega) hm hi
      rw [spr3] at hx
      have g0 : 0 ≤ im / 4096 % 2 ∧ im / 4096 % 2 < 2 := by omega
      generalize im / 4096 % 2 = q0 at *
      have g1 : 0 ≤ im / 2048 % 2 ∧ im / 2048 % 2 < 2 := by omega
      generalize im / 2048 % 2 = q1 at *
      have g2 : 0 ≤ im / 32 % 64 ∧ im / 32 % 64 < 64 := by omega
      generalize im / 32 % 64 = q2 at *
      have g3 : 0 ≤ im / 2 % 16 ∧ im / 2 % 16 < 16 := by omega
      generalize im / 2 % 16 = q3 at *
      have hcd : cd x = cd (wd k) := by rw [cd_is x]; omega
      have hf3 : f3 x = f3 (wd k) := by rw [f3_is x]; omega
      refine ⟨by omega, by omega, (hiff hn).2 ⟨hcd, fun _ => hf3, fun h => by rw [hf, hs] at h; exact absurd h (by decide), fun h => by rw [hs] at h; exact absurd h (by decide)⟩, fun h => by rw [hf] at h; exact absurd h (by decide), fun _ => by omega, fun _ => by omega, ?_⟩
      rw [hf]; unfold imO; rw [shb_eq hcd hf3, hs, if_neg (by decide), if_neg (by decide)]; exact hg
    exact key _ rfl
  · -- form 4
    obtain ⟨hs, hw⟩ := T4 (Or.inl hf)
    rw [hf] at b0 hi ⊢
    have d0 := b0 (by decide)
    rw [hs, if_neg (by decide), if_neg (by decide)] at hi
    rw [hs, if_pos rfl, if_pos (by decide), if_neg (by decide), if_neg (by decide)]
    have key : ∀ x, x = wd k + sprOf 4 im + (r0 * 128 + 0 + 0) → Back k x r0 r1 r2 im := fun x hx => by
      have hm : mskOf 4 (wd k + r0 * 128) = 0 := by rw [msk4]; omega
      have hg := get_back (f := 4) (x := x) (x0 := wd k + r0 * 128) (v := im) (by omega) (by omega) (by omega) hm hi
      rw [spr4] at hx
      have g0 : 0 ≤ im % 1048576 ∧ im % 1048576 < 1048576 := by omega
      generalize im % 1048576 = q0 at *
      have hcd : cd x = cd (wd k) := by rw [cd_is x]; omega
      have hsx : shb x = 0 := shb_no (by rw [hcd, hf]; decide)
      refine ⟨by omega, by omega, (hiff hn).2 ⟨hcd, fun h => by rw [hf] at h; exact absurd h (by decide), fun h => by rw [hf, hs] at h; exact absurd h (by decide), fun h => by rw [hs] at h; exact absurd h (by decide)⟩, fun _ => by omega, fun h => by rw [hf] at h; exact absurd h (by decide), fun h => by rw [hf] at h; exact absurd h (by decide), ?_⟩
      rw [hf]; unfold imO; rw [hsx, if_neg (by decide), if_neg (by decide)]; exact hg
    exact key _ rfl
  · -- form 5
    obtain ⟨hs, hw⟩ := T4 (Or.inr hf)
    rw [hf] at b0 hi ⊢
    have d0 := b0 (by decide)
    rw [hs, if_neg (by decide), if_neg (by decide)] at hi
    rw [hs, if_pos rfl, if_pos (by decide), if_neg (by decide), if_neg (by decide)]
    have key : ∀ x, x = wd k + sprOf 5 im + (r0 * 128 + 0 + 0) → Back k x r0 r1 r2 im := fun x hx => by
      have hm : mskOf 5 (wd k + r0 * 128) = 0 := by rw [msk5]; omega
      have hg := get_back (f := 5) (x := x) (x0 := wd k + r0 * 128) (v := im) (by omega) (by omega) (by omega) hm hi
      rw [spr5] at hx
      have g0 : 0 ≤ im / 1048576 % 2 ∧ im / 1048576 % 2 < 2 := by omega
      generalize im / 1048576 % 2 = q0 at *
      have g1 : 0 ≤ im / 4096 % 256 ∧ im / 4096 % 256 < 256 := by omega
      generalize im / 4096 % 256 = q1 at *
      have g2 : 0 ≤ im / 2048 % 2 ∧ im / 2048 % 2 < 2 := by omega
      generalize im / 2048 % 2 = q2 at *
      have g3 : 0 ≤ im / 2 % 1024 ∧ im / 2 % 1024 < 1024 := by omega
      generalize im / 2 % 1024 = q3 at *
      have hcd : cd x = cd (wd k) := by rw [cd_is x]; omega
      have hsx : shb x = 0 := shb_no (by rw [hcd, hf]; decide)
      refine ⟨by omega, by omega, (hiff hn).2 ⟨hcd, fun h => by rw [hf] at h; exact absurd h (by decide), fun h => by rw [hf, hs] at h; exact absurd h (by decide), fun h => by rw [hs] at h; exact absurd h (by decide)⟩, fun _ => by omega, fun h => by rw [hf] at h; exact absurd h (by decide), fun h => by rw [hf] at h; exact absurd h (by decide), ?_⟩
      rw [hf]; unfold imO; rw [hsx, if_neg (by decide), if_neg (by decide)]; exact hg
    exact key _ rfl

end Go.Proofs.YtdhjjlnabbpinaaGreatDoor

/- An instruction of any operation is encoded and decoded again: the contracts of the two calls at one instruction. -/
namespace Go.Proofs.YtdhjjlnabbpinaaGreatDoor
open Go.RowKit
set_option linter.unusedVariables false
set_option maxRecDepth 100000

theorem and_i64 (v : Int) (m : Nat) (hm : m ≤ 9223372036854775807) : ∃ p : Nat, bits .and .i64 v m = p ∧ p ≤ m ∧ (m % 2 = 0 → p % 2 = 0) := by
  obtain ⟨x, hx⟩ : ∃ x : BitVec 64, x = BitVec.ofInt 64 v := ⟨_, rfl⟩
  have e : bits .and .i64 v m = IntKind.i64.wrap ((x &&& BitVec.ofInt 64 m).toNat : Int) := by rw [hx]; rfl
  have e2 : (BitVec.ofInt 64 (m : Int)).toNat = m := by rw [BitVec.ofInt_natCast, BitVec.toNat_ofNat, Nat.mod_eq_of_lt (by omega)]
  refine ⟨x.toNat &&& m, ?_, Nat.and_le_right, fun h => ?_⟩
  · rw [e, BitVec.toNat_and, e2, IntKind.wrap_i64]
    have := Nat.and_le_right (n := x.toNat) (m := m)
    omega
  · have t1 := Nat.and_mod_two_pow (n := 1) (a := x.toNat) (b := m)
    rw [Nat.pow_one, h] at t1
    simpa using t1

theorem wd_mt (k : Nat) : Mt k (wd k) := ⟨rfl, rfl, rfl⟩
theorem n_shb : ∀ k, k < 66 → (63 ≤ k → shb (wd k) = 0) := by decide +kernel



end Go.Proofs.YtdhjjlnabbpinaaGreatDoor

/- A word that is an operation's is what its parts make: decoded and encoded again. Nothing is walked here. -/
namespace Go.Proofs.YtdhjjlnabbpinaaGreatDoor
open Go.RowKit
set_option linter.unusedVariables false
set_option maxRecDepth 100000
set_option linter.unusedSimpArgs false

theorem parts (x : Int) : x = x % 128 + 128 * (x / 128 % 32) + 4096 * (x / 4096 % 8) + 32768 * (x / 32768 % 32) + 1048576 * (x / 1048576 % 32) + 33554432 * (x / 33554432) := by
  have h1 : x = x % 128 + 128 * (x / 128) := by omega
  have h2 : x / 128 = x / 128 % 32 + 32 * (x / 4096) := by omega
  have h3 : x / 4096 = x / 4096 % 8 + 8 * (x / 32768) := by omega
  have h4 : x / 32768 = x / 32768 % 32 + 32 * (x / 1048576) := by omega
  have h5 : x / 1048576 = x / 1048576 % 32 + 32 * (x / 33554432) := by omega
  generalize x / 128 % 32 = a at *
  generalize x / 4096 % 8 = b at *
  generalize x / 32768 % 32 = c at *
  generalize x / 1048576 % 32 = d at *
  generalize x % 128 = e at *
  generalize x / 128 = p at *
  generalize x / 4096 = q at *
  generalize x / 32768 = r at *
  generalize x / 1048576 = s at *
  generalize x / 33554432 = t at *
  omega

theorem spr_get (f : Int) {x : Int} (h0 : 0 ≤ x) (h1 : x ≤ 4294967295) : sprOf f (getOf f x) = mskOf f x := by
  have := set_get f x h0 h1
  unfold setOf at this
  omega

theorem msk3_2 (x : Int) : mskOf 3 x = mskOf 2 x := by
  rw [msk3, msk2]
  have a : x / 33554432 % 128 = x / 33554432 % 64 + 64 * (x / 2147483648 % 2) := by omega
  have b : x / 128 % 32 = x / 128 % 2 + 2 * (x / 256 % 16) := by omega
  rw [a, b]
  generalize x / 33554432 % 64 = p
  generalize x / 2147483648 % 2 = q
  generalize x / 128 % 2 = r
  generalize x / 256 % 16 = s
  omega
theorem msk5_4 (x : Int) : mskOf 5 x = mskOf 4 x := by
  rw [msk5, msk4]
  have a : x / 4096 % 1048576 = x / 4096 % 256 + 256 * (x / 1048576 % 4096) := by omega
  have b : x / 1048576 % 4096 = x / 1048576 % 2 + 2 * (x / 2097152 % 2048) := by omega
  have c : x / 2097152 % 2048 = x / 2097152 % 1024 + 1024 * (x / 2147483648 % 2) := by omega
  rw [a, b, c]
  generalize x / 4096 % 256 = p
  generalize x / 1048576 % 2 = q
  generalize x / 2097152 % 1024 = r
  generalize x / 2147483648 % 2 = s
  omega

theorem i06 : ((0 : Int) = 6) = False := by simp
theorem i05 : ((0 : Int) = 5) = False := by simp
theorem i56 : ((5 : Int) = 6) = False := by simp
theorem i50 : ((5 : Int) = 0) = False := by simp
theorem i60 : ((6 : Int) = 0) = False := by simp

set_option maxHeartbeats 1000000 in
theorem forth {k : Nat} (hk : 1 ≤ k) (hk' : k < 63) {x : Int} (h0 : 0 ≤ x) (h1 : x ≤ 4294967295) (hM : Mt k x) :
    imOk (fmc (cd (wd k))) (wd k) (imO (fmc (cd (wd k))) x) = true ∧ rgOk (hasD (fmc (cd (wd k)))) (has1 (fmc (cd (wd k)))) (has2 (fmc (cd (wd k)))) (rdO (fmc (cd (wd k))) x) (r1O (fmc (cd (wd k))) x) (r2O (fmc (cd (wd k))) x) = true ∧
      wd k + imP (fmc (cd (wd k))) (wd k) (imO (fmc (cd (wd k))) x) + rgP (fmc (cd (wd k))) (rdO (fmc (cd (wd k))) x) (r1O (fmc (cd (wd k))) x) (r2O (fmc (cd (wd k))) x) = x := by
  have hn : fmc (cd (wd k)) ≠ 6 := fun h => by have := (tab_n k (by omega) hk).1 h; omega
  obtain ⟨hcd, hf3, hu5, hu6⟩ := (key_iff hn).1 hM
  have T0 := tab_0 k (by omega)
  have T1 := tab_1 k (by omega)
  have T2 := tab_2 k (by omega)
  have T4 := tab_4 k (by omega)
  have T5 := tab_5 k (by omega)
  have T6 := tab_6 k (by omega)
  have P := parts x
  have y0 : isr (x / 128 % 32) = true := by unfold isr; simp; omega
  have y1 : isr (x / 32768 % 32) = true := by unfold isr; simp; omega
  have y2 : isr (x / 1048576 % 32) = true := by unfold isr; simp; omega
  have hcd' : cd (wd k) = x % 128 := by rw [← cd_is, hcd]
  have hR : rgOk (hasD (fmc (cd (wd k)))) (has1 (fmc (cd (wd k)))) (has2 (fmc (cd (wd k)))) (rdO (fmc (cd (wd k))) x) (r1O (fmc (cd (wd k))) x) (r2O (fmc (cd (wd k))) x) = true := by
    unfold rgOk rdO r1O r2O
    rw [e7, e15, e20]
    cases hasD (fmc (cd (wd k))) <;> cases has1 (fmc (cd (wd k))) <;> cases has2 (fmc (cd (wd k))) <;> simp [y0, y1, y2]
  have up : 0 ≤ x / 1048576 ∧ x / 1048576 ≤ 4095 := by omega
  have u5 : x / 1048576 = x / 1048576 % 32 + 32 * (x / 33554432) := by omega
  have u6 : x / 1048576 = x / 1048576 % 64 + 64 * (x / 67108864) := by omega
  have e4096 : x / 1048576 % 4096 = x / 1048576 := by omega
  have e128 : x / 33554432 % 128 = x / 33554432 := by omega
  have u4 : x / 4096 % 1048576 = x / 4096 := by omega
  have u4' : x = x % 128 + 128 * (x / 128 % 32) + 4096 * (x / 4096) := by omega
  refine ⟨?_, hR, ?_⟩
  · unfold imOk imO
    rcases shb_cases (wd k) with hs | hs | hs
    · have hsx : shb x = 0 := by
        by_cases h3 : fmc (cd (wd k)) ≤ 3
        · rw [shb_eq hcd (hf3 h3)]; exact hs
        · exact shb_no (by rw [hcd]; omega)
      rw [hs, hsx, if_neg (by decide), if_neg (by decide), if_neg (by decide), if_neg (by decide)]
      exact fits_get _ _
    · have hf := (T5 hs).1
      rw [shb_eq hcd (hf3 (by omega)), hs, if_neg (by decide), if_pos rfl, if_neg (by decide), if_pos rfl, e20, e5]
      simp
      omega
    · have hf := (T6 hs).1
      rw [shb_eq hcd (hf3 (by omega)), hs, if_pos rfl, if_pos rfl, e20, e6]
      simp
      omega
  · unfold imP imO rgP rdO r1O r2O
    rw [e7, e15, e20]
    rcases form_cases hn with hf | hf | hf | hf | hf | hf
    · obtain ⟨hs, hw⟩ := T0 hf
      have h3 := hf3 (by omega)
      have hu := hu5 (Or.inl hf)
      rw [shb_eq hcd h3, hs, hf]
      rw [← h3, f3_is, ← hu, hcd'] at hw
      simp only [show hasD 0 = true by decide, show has1 0 = true by decide, show has2 0 = true by decide, if_true, Bool.false_eq_true, if_false, i06, i05, i56, i60, i50]
      rw [show getOf 0 x = 0 by simp [getOf], show sprOf 0 0 = 0 by decide]
      generalize x / 128 % 32 = a at *
      generalize x / 4096 % 8 = b at *
      generalize x / 32768 % 32 = c at *
      generalize x / 1048576 % 32 = d at *
      generalize x % 128 = e at *
      generalize x / 33554432 = t at *
      omega
    · have h3 := hf3 (by omega)
      rcases shb_cases (wd k) with hs | hs | hs
      · have hw := T1 ⟨hf, hs⟩
        rw [shb_eq hcd h3, hs, hf]
        rw [← h3, f3_is, hcd'] at hw
        simp only [show hasD 1 = true by decide, show has1 1 = true by decide, show has2 1 = false by decide, if_true, Bool.false_eq_true, if_false, i06, i05, i56, i60, i50]
        rw [spr_get 1 h0 h1, msk1, e4096, u5]
        generalize x / 128 % 32 = a at *
        generalize x / 4096 % 8 = b at *
        generalize x / 32768 % 32 = c at *
        generalize x / 1048576 % 32 = d at *
        generalize x % 128 = e at *
        generalize x / 33554432 = t at *
        omega
      · have hw := (T5 hs).2
        have hu := hu5 (Or.inr hs)
        rw [shb_eq hcd h3, hs, hf]
        rw [← h3, f3_is, ← hu, hcd'] at hw
        simp only [show hasD 1 = true by decide, show has1 1 = true by decide, show has2 1 = false by decide, if_true, Bool.false_eq_true, if_false, i06, i05, i56, i60, i50]
        rw [e5]
        generalize x / 128 % 32 = a at *
        generalize x / 4096 % 8 = b at *
        generalize x / 32768 % 32 = c at *
        generalize x / 1048576 % 32 = d at *
        generalize x % 128 = e at *
        generalize x / 33554432 = t at *
        omega
      · have hw := (T6 hs).2
        have hu := hu6 hs
        rw [shb_eq hcd h3, hs, hf]
        rw [← h3, f3_is, ← hu, hcd'] at hw
        simp only [show hasD 1 = true by decide, show has1 1 = true by decide, show has2 1 = false by decide, if_true, Bool.false_eq_true, if_false, i06, i05, i56, i60, i50]
        rw [e6]
        have u7 : x / 1048576 % 32 + 32 * (x / 33554432) = x / 1048576 % 64 + 64 * (x / 67108864) := u5.symm.trans u6
        generalize x / 128 % 32 = a at *
        generalize x / 4096 % 8 = b at *
        generalize x / 32768 % 32 = c at *
        generalize x / 1048576 % 32 = d at *
        generalize x / 1048576 % 64 = d' at *
        generalize x % 128 = e at *
        generalize x / 33554432 = t at *
        generalize x / 67108864 = t' at *
        omega
    · obtain ⟨hs, hw⟩ := T2 (Or.inl hf)
      have h3 := hf3 (by omega)
      rw [shb_eq hcd h3, hs, hf]
      rw [← h3, f3_is, hcd'] at hw
      simp only [show hasD 2 = false by decide, show has1 2 = true by decide, show has2 2 = true by decide, if_true, Bool.false_eq_true, if_false, i06, i05, i56, i60, i50]
      rw [spr_get 2 h0 h1, msk2, e128]
      generalize x / 128 % 32 = a at *
      generalize x / 4096 % 8 = b at *
      generalize x / 32768 % 32 = c at *
      generalize x / 1048576 % 32 = d at *
      generalize x % 128 = e at *
      generalize x / 33554432 = t at *
      omega
    · obtain ⟨hs, hw⟩ := T2 (Or.inr hf)
      have h3 := hf3 (by omega)
      rw [shb_eq hcd h3, hs, hf]
      rw [← h3, f3_is, hcd'] at hw
      simp only [show hasD 3 = false by decide, show has1 3 = true by decide, show has2 3 = true by decide, if_true, Bool.false_eq_true, if_false, i06, i05, i56, i60, i50]
      rw [spr_get 3 h0 h1, msk3_2, msk2, e128]
      generalize x / 128 % 32 = a at *
      generalize x / 4096 % 8 = b at *
      generalize x / 32768 % 32 = c at *
      generalize x / 1048576 % 32 = d at *
      generalize x % 128 = e at *
      generalize x / 33554432 = t at *
      omega
    · obtain ⟨hs, hw⟩ := T4 (Or.inl hf)
      have hsx : shb x = 0 := shb_no (by rw [hcd]; omega)
      rw [hsx, hs, hf]
      rw [hcd'] at hw
      simp only [show hasD 4 = true by decide, show has1 4 = false by decide, show has2 4 = false by decide, if_true, Bool.false_eq_true, if_false, i06, i05, i56, i60, i50]
      rw [spr_get 4 h0 h1, msk4, u4]
      generalize x / 128 % 32 = a at *
      generalize x / 4096 = b at *
      generalize x % 128 = e at *
      omega
    · obtain ⟨hs, hw⟩ := T4 (Or.inr hf)
      have hsx : shb x = 0 := shb_no (by rw [hcd]; omega)
      rw [hsx, hs, hf]
      rw [hcd'] at hw
      simp only [show hasD 5 = true by decide, show has1 5 = false by decide, show has2 5 = false by decide, if_true, Bool.false_eq_true, if_false, i06, i05, i56, i60, i50]
      rw [spr_get 5 h0 h1, msk5_4, msk4, u4]
      generalize x / 128 % 32 = a at *
      generalize x / 4096 = b at *
      generalize x % 128 = e at *
      omega

end Go.Proofs.YtdhjjlnabbpinaaGreatDoor

/- The document's Decode: one contract. -/
namespace Go.Proofs.YtdhjjlnabbpinaaGreatDoor
open Go.RowKit
set_option linter.unusedVariables false
set_option maxRecDepth 100000
set_option linter.unusedSimpArgs false

theorem and_28799 {x : Int} (h0 : 0 ≤ x) (h1 : x ≤ 4294967295) : bits .and .u32 x 28799 = x % 128 + x / 4096 % 8 * 4096 := by
  obtain ⟨y, rfl⟩ := Int.eq_ofNat_of_zero_le h0
  have := (bits_nat .u32 32 (by decide) wraps_u32 y 28799 (by omega) (by omega)).1
  rw [show ((28799 : Nat) : Int) = 28799 from rfl] at this
  rw [this, show (28799 : Nat) = ((2 ^ 7 - 1) * 2 ^ 0) ||| ((2 ^ 3 - 1) * 2 ^ 12) by decide, take_two _ _ _ (by decide), take_one, take_one]
  simp [fld]
theorem and_127 {x : Int} (h0 : 0 ≤ x) (h1 : x ≤ 4294967295) : bits .and .u32 x 127 = x % 128 := by
  have := bits_mask .u32 32 (by decide) wraps_u32 7 (by omega) x h0 (by omega)
  simpa using this

theorem mt_63 {x : Int} : Mt 63 x ↔ x % 128 + x / 4096 % 8 * 4096 = 15 := by
  have a : (x % 128 + x / 4096 % 8 * 4096 = 15) ↔ (cd x = 15 ∧ f3 x = 0) := by rw [cd_is, f3_is]; omega
  rw [a]
  unfold Mt
  rw [show cd (wd 63) = 15 by decide +kernel, show ke2 (wd 63) = 0 by decide +kernel, show ke3 (wd 63) = 0 by decide +kernel]
  constructor
  · rintro ⟨h, h2, h3⟩
    refine ⟨h.symm, ?_⟩
    unfold ke2 at h2
    rw [← h, if_neg (by decide)] at h2
    exact h2.symm
  · rintro ⟨h, h2⟩
    refine ⟨h.symm, ?_, ?_⟩
    · unfold ke2; rw [h, if_neg (by decide), h2]
    · unfold ke3 upp shb; rw [h, h2]; rfl
theorem mt_64 {x : Int} (h0 : 0 ≤ x) : Mt 64 x ↔ x = 115 := by
  unfold Mt
  rw [show cd (wd 64) = 115 by decide +kernel, show ke2 (wd 64) = 0 by decide +kernel, show ke3 (wd 64) = 0 by decide +kernel]
  constructor
  · rintro ⟨h, h2, h3⟩
    unfold ke3 at h3
    rw [← h, if_neg (by decide), if_pos rfl] at h3
    rw [cd_is] at h
    omega
  · rintro rfl
    decide +kernel
theorem mt_65 {x : Int} (h0 : 0 ≤ x) : Mt 65 x ↔ x = 1048691 := by
  unfold Mt
  rw [show cd (wd 65) = 115 by decide +kernel, show ke2 (wd 65) = 0 by decide +kernel, show ke3 (wd 65) = 8192 by decide +kernel]
  constructor
  · rintro ⟨h, h2, h3⟩
    unfold ke3 at h3
    rw [← h, if_neg (by decide), if_pos rfl] at h3
    rw [cd_is] at h
    omega
  · rintro rfl
    decide +kernel

theorem co_is0 : ∀ k, k < 63 → (1 ≤ k → co0 k = cd (wd k)) := by decide +kernel
theorem co_is1 : ∀ k, k < 63 → (1 ≤ k → (fmo ((k : Nat) : Int) ≤ 3 → co1 k = f3 (wd k))) := by decide +kernel
theorem co_is2 : ∀ k, k < 63 → (1 ≤ k → (fmo ((k : Nat) : Int) = 0 ∨ shb (wd k) = 5 → co2 k = wd k / 33554432)) := by decide +kernel
theorem co_is3 : ∀ k, k < 63 → (1 ≤ k → (shb (wd k) = 6 → co2 k = wd k / 67108864)) := by decide +kernel
theorem sh_is6 : ∀ k, k < 63 → (decide (28 ≤ ((k : Nat) : Int)) && decide (((k : Nat) : Int) ≤ 30)) = decide (shb (wd k) = 6) := by decide +kernel
theorem sh_is5 : ∀ k, k < 63 → (decide (42 ≤ ((k : Nat) : Int)) && decide (((k : Nat) : Int) ≤ 44)) = decide (shb (wd k) = 5) := by decide +kernel

/-- When the document's code of an operation meets a word. -/
theorem meets {k : Nat} (hk : 1 ≤ k) (hk' : k < 63) (x : Int) :
    (x % 128 = co0 k ∧ (fmo k ≤ 3 → f3 x = co1 k) ∧ (fmo k = 0 ∨ shb (wd k) = 5 → x / 33554432 = co2 k) ∧ (shb (wd k) = 6 → x / 67108864 = co2 k)) ↔ Mt k x := by
  have hn : fmc (cd (wd k)) ≠ 6 := fun h => by have := (tab_n k (by omega) hk).1 h; omega
  have e0 := co_is0 k hk' hk
  have e1 := co_is1 k hk' hk
  have e2 := co_is2 k hk' hk
  have e3 := co_is3 k hk' hk
  have hf := fmo_k hk (show k < 66 by omega)
  unfold Mt
  rw [key_iff hn, ← hf, cd_is x, e0]
  exact ⟨fun ⟨a, b, c, d⟩ => ⟨a, fun h => (b h).trans (e1 h), fun h => (c h).trans (e2 h), fun h => (d h).trans (e3 h)⟩, fun ⟨a, b, c, d⟩ => ⟨a, fun h => (b h).trans (e1 h).symm, fun h => (c h).trans (e2 h).symm, fun h => (d h).trans (e3 h).symm⟩⟩

theorem fldz (x : Int) (f n : Nat) : fld x f n 0 = x / 2 ^ f % 2 ^ n := by unfold fld; simp

theorem rdV_is {o : Nat} (ho : 1 ≤ o) (ho' : o < 63) {x : Int} (hM : Mt o x) :
    rdV (fmo o) (shb (wd o)) o (x / 2 ^ 7 % 32) (x / 2 ^ 15 % 32) (x / 2 ^ 20 % 32) (x / 2 ^ 20 % 2 ^ 6) (fun f => getOf f x) = inst o (rdO (fmo o) x) (r1O (fmo o) x) (r2O (fmo o) x) (imO (fmo o) x) := by
  have hn : fmc (cd (wd o)) ≠ 6 := fun h => by have := (tab_n o (by omega) ho).1 h; omega
  obtain ⟨hcd, hf3, _, _⟩ := (key_iff hn).1 hM
  have hf := fmo_k ho (show o < 66 by omega)
  have hs : fmo o ≠ 1 → shb x = 0 ∧ shb (wd o) = 0 := fun h => ⟨shb_no (by rw [hcd, ← hf]; exact h), shb_no (by rw [← hf]; exact h)⟩
  unfold rdV rdO r1O r2O imO
  rw [← hf] at hn hf3
  rcases (show fmo o = 0 ∨ fmo o = 1 ∨ fmo o = 2 ∨ fmo o = 3 ∨ fmo o = 4 ∨ fmo o = 5 by have := fmc_bd (cd (wd o)); rw [← hf] at this; omega) with h | h | h | h | h | h
  · obtain ⟨a, b⟩ := hs (by omega)
    rw [a, h]
    simp [hasD, has1, has2, getOf]
  · rw [shb_eq hcd (hf3 (by omega)), h]
    simp [hasD, has1, has2]
  all_goals
    obtain ⟨a, b⟩ := hs (by omega)
    rw [a, h]
    simp [hasD, has1, has2]

theorem rdec_low (x : Int) (o : Nat) (R : Value) (b : Bool) (w : World) (h0 : 0 ≤ x) (h1 : x ≤ 4294967295) (ho : IsOp x o) (ho' : o < 63) (hR0 : o = 0 → R = inst 0 0 0 0 0 ∧ b = false)
    (hR1 : o ≠ 0 → R = inst o (rdO (fmo o) x) (r1O (fmo o) x) (r2O (fmo o) x) (imO (fmo o) x) ∧ b = true) :
    Calls Tryz.prog 37 #[.int .u32 x] w fun e w' => e = .returned (.tuple #[R, .bool b]) ∧ Below w.heap.size w w' := by
  have no : ∀ k, 63 ≤ k → k < 66 → ¬ Mt k x := fun k hk hk' hm => by
    rcases ho with ⟨_, hn⟩ | ⟨h, _, hm'⟩
    · exact hn k (by omega) hk' hm
    · have := Mt_one h (by omega) (by omega) hk' hm' hm
      omega
  have t1 : (x == 115) = false := by simpa using fun e => no 64 (by decide) (by decide) ((mt_64 h0).2 e)
  have t2 : (x == 1048691) = false := by simpa using fun e => no 65 (by decide) (by decide) ((mt_65 h0).2 e)
  have t3 : (bits .and .u32 x 28799 == 15) = false := by
    rw [and_28799 h0 h1]
    simpa using fun e => no 63 (by decide) (by decide) (mt_63.2 e)
  have B := fun hi lo f n w (a : lo = ((f : Nat) : Int)) (b : hi - lo + 1 = ((n : Nat) : Int)) c d => bits_any x hi lo f n w h0 h1 a b c d
  simp only [fldz] at B
  have u5 : x / 2 ^ 25 % 2 ^ 7 = x / 33554432 := by simp; omega
  have u6 : x / 2 ^ 26 % 2 ^ 6 = x / 67108864 := by simp; omega
  have ef : x / 2 ^ 12 % 2 ^ 3 = f3 x := rfl
  have p5 : (2 : Int) ^ 5 = 32 := by decide
  refine rdec_loop x (x % 128) (f3 x) (x / 2 ^ 7 % 32) (x / 2 ^ 15 % 32) (x / 2 ^ 20 % 32) (x / 33554432) (x / 67108864) (x / 2 ^ 20 % 2 ^ 6) (fun f => getOf f x) o R b w h0 h1 t1 t2 t3 (and_127 h0 h1) (f3_bd x) (by omega) (by omega) (by omega) (by omega) (by omega) (by simp; omega)
    (hide fun w => by have := B 14 12 12 3 w (by decide) (by decide) (by decide) (by decide); rwa [ef] at this)
    (hide fun w => by have := B 11 7 7 5 w (by decide) (by decide) (by decide) (by decide); rwa [p5] at this)
    (hide fun w => by have := B 19 15 15 5 w (by decide) (by decide) (by decide) (by decide); rwa [p5] at this)
    (hide fun w => by have := B 24 20 20 5 w (by decide) (by decide) (by decide) (by decide); rwa [p5] at this)
    (hide fun w => by have := B 31 25 25 7 w (by decide) (by decide) (by decide) (by decide); rwa [u5] at this)
    (hide fun w => by have := B 31 26 26 6 w (by decide) (by decide) (by decide) (by decide); rwa [u6] at this)
    (hide fun w => B 25 20 20 6 w (by decide) (by decide) (by decide) (by decide))
    (hide fun k hk hk' w => co_any hk hk' w) (hide fun k w => rform_any k w)
    (hide fun k hk w => by have := shift6_any k w; rwa [sh_is6 k hk] at this) (hide fun k hk w => by have := shift5_any k w; rwa [sh_is5 k hk] at this)
    (hide fun f w => rget_any f x w h0 h1) (hide fun k hk hk' => ?_) (hide (by rcases ho with ⟨h, _⟩ | ⟨h, _, _⟩ <;> omega)) (hide hR0) (hide fun h => ?_)
  · rw [meets hk hk' x]
    rcases ho with ⟨h, hn⟩ | ⟨h, _, hm⟩
    · exact ⟨fun hm => absurd hm (hn k hk (by omega)), fun e => by omega⟩
    · exact ⟨fun hm' => Mt_one hk (by omega) h (by omega) hm' hm, fun e => by rw [e]; exact hm⟩
  · rcases ho with ⟨h', hn⟩ | ⟨h', _, hm⟩
    · exact absurd h' h
    · rw [rdV_is h' ho' hm]
      exact hR1 h

theorem rdec_none (x : Int) (w : World) (h0 : 0 ≤ x) (h1 : x ≤ 4294967295) (ho : IsOp x 0) :
    Calls Tryz.prog 37 #[.int .u32 x] w fun e w' => e = .returned (.tuple #[inst 0 0 0 0 0, .bool false]) ∧ Below w.heap.size w w' :=
  rdec_low x 0 _ _ w h0 h1 ho (by decide) (fun _ => ⟨rfl, rfl⟩) (fun h => absurd rfl h)

theorem n_dec : ∀ k, k < 66 → (63 ≤ k → fmo ((k : Nat) : Int) = 6) := by decide +kernel
theorem rdec_some (x : Int) (o : Nat) (w : World) (h0 : 0 ≤ x) (h1 : x ≤ 4294967295) (ho : 1 ≤ o) (ho' : o < 66) (hM : Mt o x) :
    Calls Tryz.prog 37 #[.int .u32 x] w fun e w' => e = .returned (.tuple #[inst o (rdO (fmo o) x) (r1O (fmo o) x) (r2O (fmo o) x) (imO (fmo o) x), .bool true]) ∧ Below w.heap.size w w' := by
  by_cases h : o < 63
  · exact rdec_low x o _ _ w h0 h1 (Or.inr ⟨ho, ho', hM⟩) h (fun h => by omega) (fun _ => ⟨rfl, rfl⟩)
  · have hf := n_dec o ho' (by omega)
    have hs : shb x = 0 := shb_no (by rw [← hM.1, ← fmo_k ho ho', hf]; decide)
    have e : inst o (rdO (fmo o) x) (r1O (fmo o) x) (r2O (fmo o) x) (imO (fmo o) x) = inst o 0 0 0 0 := by
      unfold rdO r1O r2O imO
      rw [hf, hs]
      simp [hasD, has1, has2, getOf]
    rw [e]
    rcases (show o = 63 ∨ o = 64 ∨ o = 65 by omega) with rfl | rfl | rfl
    · have hx := mt_63.1 hM
      refine rdec_63 x w h0 h1 ?_ ?_ ((and_28799 h0 h1).trans hx)
      · have : x ≠ 115 := by omega
        simpa using this
      · have : x ≠ 1048691 := by omega
        simpa using this
    · obtain rfl := (mt_64 h0).1 hM
      exact rdec_64 w
    · obtain rfl := (mt_65 h0).1 hM
      exact rdec_65 w

end Go.Proofs.YtdhjjlnabbpinaaGreatDoor

/- The document's machine: its cells, contracts of its set, trap, Taken, Bytes. -/
namespace Go.Proofs.YtdhjjlnabbpinaaGreatDoor
open Go.RowKit Go.Maps
set_option linter.unusedVariables false
set_option maxRecDepth 100000

section
variable {mm me : Nat} {x : Nat → Int} {pc : Nat} {k c t : Int}

theorem rcells_length : (rcells mm me x pc k c t).length = 38 := by simp [rcells]
theorem rcells_0 : (rcells mm me x pc k c t)[0]? = some (.pointer (some ⟨mm, 0, none⟩)) := rfl
theorem rcells_1 : (rcells mm me x pc k c t)[1]? = some (.pointer (some ⟨me, 0, none⟩)) := rfl
theorem rcells_reg (i : Nat) (hi : i < 32) : (rcells mm me x pc k c t)[2 + i]? = some (.int .u64 (x i)) := by
  unfold rcells
  rw [show 2 + i = i + 1 + 1 by omega, List.getElem?_cons_succ, List.getElem?_cons_succ, List.getElem?_append_left (by simpa using hi)]
  simp [hi]
theorem rcells_hi (i : Nat) : (rcells mm me x pc k c t)[34 + i]? = [Value.int .u64 (pc : Int), .int .i64 k, .int .i64 c, .int .i64 t][i]? := by
  unfold rcells
  rw [show 34 + i = i + 32 + 1 + 1 by omega, List.getElem?_cons_succ, List.getElem?_cons_succ, List.getElem?_append_right (by simp)]
  simp

theorem rcells_ext {l : List Value} {mm me : Nat} {x : Nat → Int} {pc : Nat} {k c t : Int} (h0 : l[0]? = some (.pointer (some ⟨mm, 0, none⟩))) (h1 : l[1]? = some (.pointer (some ⟨me, 0, none⟩))) (hr : ∀ i, i < 32 → l[2 + i]? = some (.int .u64 (x i))) (hh : ∀ i, l[34 + i]? = [Value.int .u64 (pc : Int), .int .i64 k, .int .i64 c, .int .i64 t][i]?) : l = rcells mm me x pc k c t := by
  apply List.ext_getElem?
  intro j
  rcases (show j = 0 ∨ j = 1 ∨ (∃ i, i < 32 ∧ j = 2 + i) ∨ ∃ i, j = 34 + i by
    by_cases h : j < 2
    · omega
    · by_cases h2 : j < 34
      · exact Or.inr (Or.inr (Or.inl ⟨j - 2, by omega, by omega⟩))
      · exact Or.inr (Or.inr (Or.inr ⟨j - 34, by omega⟩))) with rfl | rfl | ⟨i, hi, rfl⟩ | ⟨i, rfl⟩
  · rw [h0]; exact rcells_0.symm
  · rw [h1]; exact rcells_1.symm
  · rw [hr i hi, rcells_reg i hi]
  · rw [hh i, rcells_hi]

theorem rcells_set (i : Nat) (h0 : 1 ≤ i) (h1 : i < 32) (v : Int) : (rcells mm me x pc k c t).set (2 + i) (.int .u64 v) = rcells mm me (xset x i v) pc k c t := by
  refine rcells_ext ?_ ?_ (fun j hj => ?_) (fun j => ?_)
  · rw [List.getElem?_set_ne (by omega)]; rfl
  · rw [List.getElem?_set_ne (by omega)]; rfl
  · by_cases h : j = i
    · subst h
      rw [List.getElem?_set_self (by rw [rcells_length]; omega)]
      unfold xset
      rw [if_pos (by omega)]
    · rw [List.getElem?_set_ne (by omega), rcells_reg j hj]
      unfold xset
      rw [if_neg (by omega)]
  · rw [List.getElem?_set_ne (by omega), rcells_hi]
theorem rcells_pc (p : Nat) : (rcells mm me x pc k c t).set 34 (.int .u64 (p : Int)) = rcells mm me x p k c t := by
  refine rcells_ext ?_ ?_ (fun j hj => ?_) (fun j => ?_)
  · rw [List.getElem?_set_ne (by omega)]; rfl
  · rw [List.getElem?_set_ne (by omega)]; rfl
  · rw [List.getElem?_set_ne (by omega), rcells_reg j hj]
  · by_cases h : j = 0
    · subst h
      rw [List.getElem?_set_self (by rw [rcells_length]; omega)]
      rfl
    · rw [List.getElem?_set_ne (by omega), rcells_hi]
      match j, h with
      | 1, _ => rfl
      | 2, _ => rfl
      | 3, _ => rfl
      | j + 4, _ => rfl
theorem rcells_st (k' c' t' : Int) : (((rcells mm me x pc k c t).set 35 (.int .i64 k')).set 36 (.int .i64 c')).set 37 (.int .i64 t') = rcells mm me x pc k' c' t' := by
  refine rcells_ext ?_ ?_ (fun j hj => ?_) (fun j => ?_)
  · rw [List.getElem?_set_ne (by omega), List.getElem?_set_ne (by omega), List.getElem?_set_ne (by omega)]; rfl
  · rw [List.getElem?_set_ne (by omega), List.getElem?_set_ne (by omega), List.getElem?_set_ne (by omega)]; rfl
  · rw [List.getElem?_set_ne (by omega), List.getElem?_set_ne (by omega), List.getElem?_set_ne (by omega), rcells_reg j hj]
  · match j with
    | 0 => rw [List.getElem?_set_ne (by omega), List.getElem?_set_ne (by omega), List.getElem?_set_ne (by omega), rcells_hi]; rfl
    | 1 => rw [List.getElem?_set_ne (by omega), List.getElem?_set_ne (by omega), List.getElem?_set_self (by rw [rcells_length]; omega)]; rfl
    | 2 => rw [List.getElem?_set_ne (by omega), List.getElem?_set_self (by rw [List.length_set, rcells_length]; omega)]; rfl
    | 3 => rw [List.getElem?_set_self (by rw [List.length_set, List.length_set, rcells_length]; omega)]; rfl
    | j + 4 => rw [List.getElem?_set_ne (by omega), List.getElem?_set_ne (by omega), List.getElem?_set_ne (by omega), rcells_hi]; rfl
end

theorem setCell_list {w : World} {m : Nat} {l : List Value} {ty : TypeId} (h : w.heap[m]? = some (.cells l.toArray ty (0, 0))) (i : Nat) (v : Value) : (w.setCell ⟨m, i, none⟩ v).heap[m]? = some (.cells (l.set i v).toArray ty (0, 0)) := by
  unfold World.setCell
  simp [Array.getElem?_modify, h]

section
variable {w0 w w' : World} {m mm me : Nat} {M : Mc} {l : List (World → (Nat → Prop) → Prop)} {P : World → (Nat → Prop) → Prop} {X : Nat} {o o' : Obj}

theorem RH.below (h : RH w0 w m mm me M l) (hb : Below w.heap.size w w') : RH w0 w' m mm me M l := Has.below h hb
theorem RH.bel (h : RH w0 w m mm me M l) : Below w0.heap.size w0 w := Has.bel h
theorem RH.rd (h : RH w0 w m mm me M l) : ∃ F, RD m mm me M.x M.pc M.kind M.code M.trap w F := Has.top h
theorem RH.rm (h : RH w0 w m mm me M l) : ∃ F, RM w mm M.mem F := Has.top (Has.drop h)
theorem RH.fits (h : RH w0 w m mm me M l) : Fits M.x M.pc M.kind M.code M.trap := by
  obtain ⟨F, h1⟩ := h.rd
  exact h1.2.1
theorem RH.good (h : RH w0 w m mm me M l) : M.mem.Good := by
  obtain ⟨F, h1⟩ := h.rm
  exact h1.good
theorem RH.head (h : RH w0 w m mm me M l) : w.heap[m]? = some (.cells (rcells mm me M.x M.pc M.kind M.code M.trap).toArray 38 (0, 0)) := by
  obtain ⟨F, h1⟩ := h.rd
  exact h1.1
theorem RH.lt (h : RH w0 w m mm me M l) : m < w.heap.size := by
  obtain ⟨F, h1⟩ := h.rd
  exact h1.2.2.2 m h1.2.2.1
theorem RH.cell (h : RH w0 w m mm me M l) (i : Nat) : w.cell? ⟨m, i, none⟩ = (rcells mm me M.x M.pc M.kind M.code M.trap)[i]? := by
  rw [cell_of_row _ _ i _ _ _ h.head]
  simp
theorem RH.frozen (h : RH w0 w m mm me M l) (i : Nat) : w.frozen? ⟨m, i, none⟩ = false := by
  unfold World.frozen?
  simp only [h.head]
  simp
theorem RH.c0 (h : RH w0 w m mm me M l) : w.cell? ⟨m, 0, none⟩ = some (.pointer (some ⟨mm, 0, none⟩)) := h.cell 0
theorem RH.c1 (h : RH w0 w m mm me M l) : w.cell? ⟨m, 1, none⟩ = some (.pointer (some ⟨me, 0, none⟩)) := h.cell 1
theorem RH.reg (h : RH w0 w m mm me M l) (i : Nat) (hi : i < 32) : w.cell? ⟨m, 2 + i, none⟩ = some (.int .u64 (M.x i)) := (h.cell _).trans (rcells_reg i hi)
theorem RH.cpc (h : RH w0 w m mm me M l) : w.cell? ⟨m, 34, none⟩ = some (.int .u64 (M.pc : Int)) := (h.cell _).trans (rcells_hi 0)
theorem RH.st (h : RH w0 w m mm me M l) : w.cell? ⟨m, 35, none⟩ = some (.int .i64 M.kind) ∧ w.cell? ⟨m, 36, none⟩ = some (.int .i64 M.code) ∧ w.cell? ⟨m, 37, none⟩ = some (.int .i64 M.trap) :=
  ⟨(h.cell _).trans (rcells_hi 1), (h.cell _).trans (rcells_hi 2), (h.cell _).trans (rcells_hi 3)⟩

/-- The machine's own block turns alone. -/
theorem RH.turn (h : RH w0 w m mm me M l) {x : Nat → Int} {pc : Nat} {k c t : Int} (hk : Kept (fun j => j = m) w w') (hh : w'.heap[m]? = some (.cells (rcells mm me x pc k c t).toArray 38 (0, 0))) (hf : Fits x pc k c t) : RH w0 w' m mm me ⟨M.mem, M.ins, M.tr, x, pc, k, c, t⟩ l := by
  obtain ⟨F, ⟨h1, h2, h3, h4⟩, h5, h6⟩ := Has.step h
  exact h6 w' (RD m mm me x pc k c t) F ⟨hh, hf, h3, fun j hj => Nat.lt_of_lt_of_le (h4 j hj) hk.size⟩ ⟨hk.mono (fun j hj => by subst hj; exact h3), fun j hj => Or.inl hj⟩ (rd_mach_stays _ _ _ _ _ _ _ _ _)
theorem RH.setreg (h : RH w0 w m mm me M l) (i : Nat) (h0 : 1 ≤ i) (h1 : i < 32) {v : Int} (hv : 0 ≤ v ∧ v ≤ 18446744073709551615) : RH w0 (w.setCell ⟨m, 2 + i, none⟩ (.int .u64 v)) m mm me { M with x := xset M.x i v } l :=
  h.turn ((Kept.refl (fun j => j = m) w).setCell _ _ (Or.inl rfl)) (by rw [setCell_list h.head, rcells_set i h0 h1]) (h.fits.set hv)
theorem RH.setpc (h : RH w0 w m mm me M l) {p : Nat} (hp : p ≤ 18446744073709551615) : RH w0 (w.setCell ⟨m, 34, none⟩ (.int .u64 (p : Int))) m mm me { M with pc := p } l :=
  h.turn ((Kept.refl (fun j => j = m) w).setCell _ _ (Or.inl rfl)) (by rw [setCell_list h.head, rcells_pc]) (h.fits.at hp)
theorem RH.ended (h : RH w0 w m mm me M l) {k' c' t' : Int} (hk : InI k') (hc : InI c') (ht : InI t') : RH w0 (((w.setCell ⟨m, 35, none⟩ (.int .i64 k')).setCell ⟨m, 36, none⟩ (.int .i64 c')).setCell ⟨m, 37, none⟩ (.int .i64 t')) m mm me { M with kind := k', code := c', trap := t' } l :=
  h.turn ((((Kept.refl (fun j => j = m) w).setCell ⟨m, 35, none⟩ _ (Or.inl rfl)).setCell ⟨m, 36, none⟩ _ (Or.inl rfl)).setCell ⟨m, 37, none⟩ _ (Or.inl rfl)) (by rw [setCell_list (setCell_list (setCell_list h.head 35 _) 36 _), rcells_st]) ⟨h.fits.reg, h.fits.zero, h.fits.top, h.fits.place, hk, hc, ht⟩

theorem RH.more (h : RH w0 w m mm me M l) (hb : Below w.heap.size w w') {F : Nat → Prop} (hP : P w' F) (hF : ∀ k, F k → w.heap.size ≤ k) (hs : Stays w0.heap.size P) : RH w0 w' m mm me M (P :: l) :=
  (Has.more h hb hP hF hs).perm ((List.Perm.swap ..).trans (List.Perm.cons _ ((List.Perm.swap ..).trans (List.Perm.cons _ (List.Perm.swap ..)))))
theorem RH.less (h : RH w0 w m mm me M (P :: l)) : Has w0 w (P :: RD m mm me M.x M.pc M.kind M.code M.trap :: RMt mm M.mem :: EV w0.heap.size 62 me M.ins M.tr :: l) :=
  Has.perm h (((List.Perm.cons _ ((List.Perm.cons _ (List.Perm.swap ..)).trans (List.Perm.swap ..))).trans (List.Perm.swap ..)))
theorem RH.unbox (h : RH w0 w m mm me M (P :: l)) : RH w0 w m mm me M l := Has.drop h.less
theorem RH.blk (h : RH w0 w m mm me M (BlkT X o :: l)) : w.heap[X]? = some o := by
  obtain ⟨F, h1⟩ := Has.top h.less
  exact h1.1
theorem RH.newblk (h : RH w0 w m mm me M l) (cs : Array Value) (t : TypeId) : RH w0 (w.alloc (.cells cs t)) m mm me M (BlkT w.heap.size (.cells cs t (0, 0)) :: l) :=
  h.more (F := fun k => k = w.heap.size) (below_alloc _ _) ⟨heap_alloc_new w _, rfl, fun k hk => by subst hk; simp⟩ (fun k hk => by subst hk; exact Nat.le_refl _) (blk_stays _ _ _)
theorem RH.reblk (h : RH w0 w m mm me M (BlkT X o :: l)) (hk : Kept (fun k => k = X) w w') (ho : w'.heap[X]? = some o') : RH w0 w' m mm me M (BlkT X o' :: l) := by
  obtain ⟨F, ⟨h1, h2, h3⟩, h4, h5⟩ := h.less.step
  have h6 := h5 w' (BlkT X o') F ⟨ho, h2, fun k hF => Nat.lt_of_lt_of_le (h3 k hF) hk.size⟩ ⟨hk.mono (fun k hk => by subst hk; exact h2), fun k hk => Or.inl hk⟩ (blk_stays _ _ _)
  exact h6.perm ((List.Perm.swap ..).trans (List.Perm.cons _ ((List.Perm.swap ..).trans (List.Perm.cons _ (List.Perm.swap ..)))))
theorem RH.rswap {P Q : World → (Nat → Prop) → Prop} (h : RH w0 w m mm me M (P :: Q :: l)) : RH w0 w m mm me M (Q :: P :: l) :=
  Has.perm h (List.Perm.cons _ (List.Perm.cons _ (List.Perm.cons _ (List.Perm.swap ..))))

theorem RH.mem (h : RH w0 w m mm me M l) : ∃ F, RM w mm M.mem F ∧ (∀ k, F k → w0.heap.size ≤ k) ∧ ∀ (w' : World) (S' : Mm) (F' : Nat → Prop), RM w' mm S' F' → Went F w F' w' → RH w0 w' m mm me ⟨S', M.ins, M.tr, M.x, M.pc, M.kind, M.code, M.trap⟩ l := by
  obtain ⟨F, h1, h2, h3⟩ := (Has.swap h).step
  exact ⟨F, h1, h2, fun w' S' F' g1 g2 => (h3 w' (RMt mm S') F' g1 g2 (rmt_stays _ _ _)).swap⟩

theorem rmset_any (i : Nat) (v : Int) (w : World) (h : RH w0 w m mm me M l) (hi : i < 32) (hv : 0 ≤ v ∧ v ≤ 18446744073709551615) :
    Calls Tryz.prog 38 #[.pointer (some ⟨m, 0, none⟩), .int .i64 (i : Int), .int .u64 v] w fun e w' => e = .returned (.tuple #[]) ∧ RH w0 w' m mm me { M with x := xset M.x i v } l := by
  by_cases h0 : i = 0
  · subst h0
    rw [xset_no (by omega)]
    have H : Hid (RH w0 w m mm me { M with x := M.x } l) := h
    clear h
    go_enter Tryz.func38, Tryz.ntmps38
    go_wp2
    go_end0
    exact ⟨rfl, H.out⟩
  · have hz := h.frozen (2 + i)
    have hc := h.reg i hi
    have H := hide (h.setreg i (by omega) hi hv)
    have h1 : (0 : Int) < (i : Int) := by omega
    have h2 : (i : Int) < 32 := by omega
    clear h
    go_enter Tryz.func38, Tryz.ntmps38
    go_wp2
    go_end0
    exact ⟨rfl, H.out⟩

theorem rtrap_any (k : Int) (w : World) (h : RH w0 w m mm me M l) (hk : InI k) :
    Calls Tryz.prog 35 #[.pointer (some ⟨m, 0, none⟩), .int .i64 k] w fun e w' => e = .returned (stV 2 0 k) ∧ RH w0 w' m mm me (M.trapped k) l := by
  have HM := hide h
  have hml := h.lt
  go_enter Tryz.func35, Tryz.ntmps35
  go_upto_region 1 with fail
  have h1 := h.newblk #[.int .i64 0, .int .i64 0, .int .i64 0] 36
  obtain ⟨R, hR⟩ : ∃ R, R = w.heap.size := ⟨_, rfl⟩
  rw [← hR] at h1 ⊢
  generalize w.alloc (.cells #[.int .i64 0, .int .i64 0, .int .i64 0] 36) = V at *
  obtain ⟨c4, c5, c6⟩ := h1.st
  have z4 := h1.frozen 35
  have z5 := h1.frozen 36
  have z6 := h1.frozen 37
  have H1 := hide h1
  have HKI := hide hk
  clear h HM h1 hR hk
  go_upto_region 2 with fail
  have H3 := hide (H1.out.ended (k' := 2) (c' := 0) (t' := k) (by unfold InI; omega) (by unfold InI; omega) HKI.out)
  generalize (((V.setCell ⟨m, 35, none⟩ (.int .i64 2)).setCell ⟨m, 36, none⟩ (.int .i64 0)).setCell ⟨m, 37, none⟩ (.int .i64 k)) = W3 at *
  clear c4 c5 c6 z4 z5 z6 H1
  obtain ⟨c4, c5, c6⟩ := H3.out.st
  dsimp only at c4 c5 c6
  have hz := blk_frozen H3.out.blk
  have z0 := hz 0
  have z1 := hz 1
  have z2 := hz 2
  have hcl := blk_cell H3.out.blk
  have q0 := hcl 0
  have q1 := hcl 1
  have q2 := hcl 2
  clear hz hcl
  go_wp2
  have H4 := hide (H3.out.reblk (stc3_kept W3 R (.int .i64 2) (.int .i64 0) (.int .i64 k)) (stc3_blk H3.out.blk _ _ _))
  unfold stc3 at H4
  have hcl := blk_cell H4.out.blk
  have r0 := hcl 0
  have r1 := hcl 1
  have r2 := hcl 2
  generalize ((W3.setCell ⟨R, 0, none⟩ (.int .i64 2)).setCell ⟨R, 1, none⟩ (.int .i64 0)).setCell ⟨R, 2, none⟩ (.int .i64 k) = W4 at *
  refine bodyPost_ret (v := stV 2 0 k) (by simp [results, Tryz.results35, go_sem, stV, r0, r1, r2]) rfl ⟨rfl, H4.out.unbox⟩

end

theorem rtaken_any (o : Nat) (a b : Int) (w : World) (h0 : 5 ≤ o) (h1 : o ≤ 10) (a0 : 0 ≤ a) (a1 : a ≤ 18446744073709551615) (b0 : 0 ≤ b) (b1 : b ≤ 18446744073709551615) :
    Calls Tryz.prog 39 #[.int .i64 (o : Int), .int .u64 a, .int .u64 b] w fun e w' => e = .returned (.bool (takenF o a b)) ∧ w' = w := by
  rcases (show o = 5 ∨ o = 6 ∨ o = 7 ∨ o = 8 ∨ o = 9 ∨ o = 10 by omega) with rfl | rfl | rfl | rfl | rfl | rfl
  all_goals go_enter Tryz.func39, Tryz.ntmps39
  all_goals go_wp2
  all_goals go_ret
  all_goals refine ⟨ret_bool ?_, rfl⟩
  all_goals simp only [takenF, wrap64_is]
  all_goals rw [Bool.eq_iff_iff]
  all_goals simp

/-- Whether a load has a sign, as the document tells it. -/
def signF (o : Nat) : Bool :=
  match o with
  | 15 => false | 16 => false | 17 => false
  | _ => true
theorem rbytes_any (o : Nat) (w : World) (h0 : 11 ≤ o) (h1 : o ≤ 21) :
    Calls Tryz.prog 40 #[.int .i64 (o : Int)] w fun e w' => e = .returned (.tuple #[.int .i64 (widthF o), .bool (signF o)]) ∧ w' = w := by
  rcases (show o = 11 ∨ o = 12 ∨ o = 13 ∨ o = 14 ∨ o = 15 ∨ o = 16 ∨ o = 17 ∨ o = 18 ∨ o = 19 ∨ o = 20 ∨ o = 21 by omega) with rfl | rfl | rfl | rfl | rfl | rfl | rfl | rfl | rfl | rfl | rfl
  all_goals go_enter Tryz.func40, Tryz.ntmps40
  all_goals go_wp2
  all_goals go_ret2
  all_goals exact ⟨rfl, rfl⟩

end Go.Proofs.YtdhjjlnabbpinaaGreatDoor
