/- Texts of this claim, joined: InstRefCo, InstBackM, InstTrip, InstForth, InstRefDecs. -/
import Derived.Test.YtgjfelkbblbjfaaGreatDoorInstRefCoA
import Derived.Test.YtgjfelkbblbjfaaGreatDoorInstRefCoB
import Derived.Test.YtgjfelkbblbjfaaGreatDoorInstRefCoC
import Derived.Test.YtgjfelkbblbjfaaGreatDoorInstRefCoD
import Derived.Test.YtgjfelkbblbjfaaGreatDoorInstMath
import Derived.Test.YtgjfelkbblbjfaaGreatDoorJ24
import Derived.Test.YtgjfelkbblbjfaaGreatDoorInstRefDec
/- The contract of the document's CodeOf. -/
namespace Go.Proofs.YtgjfelkbblbjfaaGreatDoor
open Go.RowKit
set_option linter.unusedVariables false
set_option maxRecDepth 100000

theorem co_any {k : Nat} (hk : 1 ≤ k) (hk' : k < 63) (w : World) : Calls Tryz.prog 28 #[.int .i64 k] w fun e w' => e = .returned (.agg #[.int .u32 (co0 k), .int .u32 (co1 k), .int .u32 (co2 k)]) ∧ Below w.heap.size w w' := by
  match k, hk, hk' with
  | 1, _, _ => exact co_1 w
  | 2, _, _ => exact co_2 w
  | 3, _, _ => exact co_3 w
  | 4, _, _ => exact co_4 w
  | 5, _, _ => exact co_5 w
  | 6, _, _ => exact co_6 w
  | 7, _, _ => exact co_7 w
  | 8, _, _ => exact co_8 w
  | 9, _, _ => exact co_9 w
  | 10, _, _ => exact co_10 w
  | 11, _, _ => exact co_11 w
  | 12, _, _ => exact co_12 w
  | 13, _, _ => exact co_13 w
  | 14, _, _ => exact co_14 w
  | 15, _, _ => exact co_15 w
  | 16, _, _ => exact co_16 w
  | 17, _, _ => exact co_17 w
  | 18, _, _ => exact co_18 w
  | 19, _, _ => exact co_19 w
  | 20, _, _ => exact co_20 w
  | 21, _, _ => exact co_21 w
  | 22, _, _ => exact co_22 w
  | 23, _, _ => exact co_23 w
  | 24, _, _ => exact co_24 w
  | 25, _, _ => exact co_25 w
  | 26, _, _ => exact co_26 w
  | 27, _, _ => exact co_27 w
  | 28, _, _ => exact co_28 w
  | 29, _, _ => exact co_29 w
  | 30, _, _ => exact co_30 w
  | 31, _, _ => exact co_31 w
  | 32, _, _ => exact co_32 w
  | 33, _, _ => exact co_33 w
  | 34, _, _ => exact co_34 w
  | 35, _, _ => exact co_35 w
  | 36, _, _ => exact co_36 w
  | 37, _, _ => exact co_37 w
  | 38, _, _ => exact co_38 w
  | 39, _, _ => exact co_39 w
  | 40, _, _ => exact co_40 w
  | 41, _, _ => exact co_41 w
  | 42, _, _ => exact co_42 w
  | 43, _, _ => exact co_43 w
  | 44, _, _ => exact co_44 w
  | 45, _, _ => exact co_45 w
  | 46, _, _ => exact co_46 w
  | 47, _, _ => exact co_47 w
  | 48, _, _ => exact co_48 w
  | 49, _, _ => exact co_49 w
  | 50, _, _ => exact co_50 w
  | 51, _, _ => exact co_51 w
  | 52, _, _ => exact co_52 w
  | 53, _, _ => exact co_53 w
  | 54, _, _ => exact co_54 w
  | 55, _, _ => exact co_55 w
  | 56, _, _ => exact co_56 w
  | 57, _, _ => exact co_57 w
  | 58, _, _ => exact co_58 w
  | 59, _, _ => exact co_59 w
  | 60, _, _ => exact co_60 w
  | 61, _, _ => exact co_61 w
  | 62, _, _ => exact co_62 w
  | k + 63, _, h => exact absurd h (by omega)

end Go.Proofs.YtgjfelkbblbjfaaGreatDoor

/- What is encoded is decoded again, in numbers. -/
namespace Go.Proofs.YtgjfelkbblbjfaaGreatDoor
open Go.RowKit
set_option linter.unusedVariables false
set_option maxRecDepth 100000

theorem shb_eq {x y : Int} (h1 : cd x = cd y) (h2 : f3 x = f3 y) : shb x = shb y := by unfold shb; rw [h1, h2]
theorem shb_no {x : Int} (h : fmc (cd x) ≠ 1) : shb x = 0 := by
  rcases shb_cases x with hs | hs | hs
  · exact hs
  · exact absurd (shb_form (by rw [hs]; decide)) h
  · exact absurd (shb_form (by rw [hs]; decide)) h

/-- What a word's parts are, by the form of its opcode. -/
structure Back (k : Nat) (x r0 r1 r2 im : Int) : Prop where
  lo : 0 ≤ x
  hi : x ≤ 4294967295
  mt : Mt k x
  d : hasD (fmc (cd (wd k))) = true → x / 128 % 32 = r0
  a : has1 (fmc (cd (wd k))) = true → x / 32768 % 32 = r1
  b : has2 (fmc (cd (wd k))) = true → x / 1048576 % 32 = r2
  i : imO (fmc (cd (wd k))) x = im

theorem rg_yes {d a b : Bool} {r0 r1 r2 : Int} (h : rgOk d a b r0 r1 r2 = true) : (d = true → 0 ≤ r0 ∧ r0 < 32) ∧ (a = true → 0 ≤ r1 ∧ r1 < 32) ∧ (b = true → 0 ≤ r2 ∧ r2 < 32) := by
  unfold rgOk at h
  simp only [Bool.and_eq_true, Bool.or_eq_true, Bool.not_eq_true'] at h
  obtain ⟨⟨g0, g1⟩, g2⟩ := h
  exact ⟨fun e => isr_yes (g0.resolve_left (by rw [e]; decide)), fun e => isr_yes (g1.resolve_left (by rw [e]; decide)), fun e => isr_yes (g2.resolve_left (by rw [e]; decide))⟩

theorem get_back {f x x0 v : Int} (h0 : 0 ≤ x0) (h1 : x0 ≤ 4294967295) (hx : x = x0 + sprOf f v) (hm : mskOf f x0 = 0) (hf : fitsOf f v = true) : getOf f x = v := by
  have := get_set f x0 v h0 h1 hf
  unfold setOf at this
  rw [hm] at this
  rw [hx]
  simpa using this
theorem e20 : (2 : Int) ^ 20 = 1048576 := by simp
theorem e5 : (2 : Int) ^ 5 = 32 := by simp
theorem e6 : (2 : Int) ^ 6 = 64 := by simp
theorem e15 : (2 : Int) ^ 15 = 32768 := by simp
theorem e7 : (2 : Int) ^ 7 = 128 := by simp
theorem spr1 (v : Int) : sprOf 1 v = v % 4096 * 1048576 := by simp [sprOf, fld]
theorem spr2 (v : Int) : sprOf 2 v = v / 32 % 128 * 33554432 + v % 32 * 128 := by simp [sprOf, fld]
theorem spr4 (v : Int) : sprOf 4 v = v % 1048576 * 4096 := by simp [sprOf, fld]
theorem msk1 (x : Int) : mskOf 1 x = x / 1048576 % 4096 * 1048576 := by simp [mskOf, fld]
theorem msk2 (x : Int) : mskOf 2 x = x / 33554432 % 128 * 33554432 + x / 128 % 32 * 128 := by simp [mskOf, fld]
theorem msk4 (x : Int) : mskOf 4 x = x / 4096 % 1048576 * 4096 := by simp [mskOf, fld]

theorem form_cases {c : Int} (h : fmc c ≠ 6) : fmc c = 0 ∨ fmc c = 1 ∨ fmc c = 2 ∨ fmc c = 3 ∨ fmc c = 4 ∨ fmc c = 5 := by
  have := fmc_bd c
  omega

theorem back {k : Nat} (hk : 1 ≤ k) (hk' : k < 63) {r0 r1 r2 im : Int} (hi : imOk (fmc (cd (wd k))) (wd k) im = true) (hr : rgOk (hasD (fmc (cd (wd k)))) (has1 (fmc (cd (wd k)))) (has2 (fmc (cd (wd k)))) r0 r1 r2 = true) :
    Back k (wd k + imP (fmc (cd (wd k))) (wd k) im + rgP (fmc (cd (wd k))) r0 r1 r2) r0 r1 r2 im := by
  have hn : fmc (cd (wd k)) ≠ 6 := fun h => by have := (tab_n k (by omega) hk).1 h; omega
  obtain ⟨b0, b1, b2⟩ := rg_yes hr
  have bc := cd_bd (wd k)
  have bf := f3_bd (wd k)
  have bw := wd_bd k
  have hiff := @key_iff (wd k)
  unfold imOk at hi
  unfold imP rgP
  have T0 := tab_0 k (by omega)
  have T1 := tab_1 k (by omega)
  have T2 := tab_2 k (by omega)
  have T4 := tab_4 k (by omega)
  have T5 := tab_5 k (by omega)
  have T6 := tab_6 k (by omega)
  rcases form_cases hn with hf | hf | hf | hf | hf | hf
  · -- R
    obtain ⟨hs, hw⟩ := T0 hf
    rw [hf] at b0 b1 b2 hi ⊢
    have d0 := b0 (by decide)
    have d1 := b1 (by decide)
    have d2 := b2 (by decide)
    rw [hs, if_neg (by decide), if_neg (by decide)] at hi
    have hv : im = 0 := by simpa [fitsOf] using hi
    subst hv
    rw [hs, if_pos rfl, if_pos (by decide), if_pos (by decide), if_pos (by decide), show sprOf 0 0 = 0 by decide]
    have key : ∀ x, x = wd k + 0 + (r0 * 128 + r1 * 32768 + r2 * 1048576) → Back k x r0 r1 r2 0 := fun x hx => by
      have hcd : cd x = cd (wd k) := by rw [cd_is x]; omega
      have hf3 : f3 x = f3 (wd k) := by rw [f3_is x]; omega
      have hu : x / 33554432 = wd k / 33554432 := by omega
      refine ⟨by omega, by omega, (hiff hn).2 ⟨hcd, fun _ => hf3, fun _ => hu, fun h => by rw [hs] at h; exact absurd h (by decide)⟩, fun _ => by omega, fun _ => by omega, fun _ => by omega, ?_⟩
      rw [hf]; unfold imO; rw [shb_eq hcd hf3, hs]; simp [getOf]
    exact key _ rfl
  · -- I
    rcases shb_cases (wd k) with hs | hs | hs
    · have hw := T1 ⟨hf, hs⟩
      rw [hf] at b0 b1 hi ⊢
      have d0 := b0 (by decide)
      have d1 := b1 (by decide)
      rw [hs, if_neg (by decide), if_neg (by decide)] at hi
      rw [hs, if_pos rfl, if_pos (by decide), if_pos (by decide), if_neg (by decide)]
      have key : ∀ x, x = wd k + sprOf 1 im + (r0 * 128 + r1 * 32768 + 0) → Back k x r0 r1 r2 im := fun x hx => by
        have hm : mskOf 1 (wd k + (r0 * 128 + r1 * 32768)) = 0 := by rw [msk1]; omega
        have hg := get_back (f := 1) (x := x) (x0 := wd k + (r0 * 128 + r1 * 32768)) (v := im) (by omega) (by omega) (by omega) hm hi
        rw [spr1] at hx
        have hcd : cd x = cd (wd k) := by rw [cd_is x]; omega
        have hf3 : f3 x = f3 (wd k) := by rw [f3_is x]; omega
        refine ⟨by omega, by omega, (hiff hn).2 ⟨hcd, fun _ => hf3, fun h => by rw [hf, hs] at h; exact absurd h (by decide), fun h => by rw [hs] at h; exact absurd h (by decide)⟩, fun _ => by omega, fun _ => by omega, fun h => by rw [hf] at h; exact absurd h (by decide), ?_⟩
        rw [hf]; unfold imO; rw [shb_eq hcd hf3, hs, if_neg (by decide), if_neg (by decide)]; exact hg
      exact key _ rfl
    · have hw := (T5 hs).2
      rw [hf] at b0 b1 hi ⊢
      have d0 := b0 (by decide)
      have d1 := b1 (by decide)
      rw [hs, if_neg (by decide), if_pos rfl] at hi
      simp at hi
      rw [hs, if_neg (by decide), if_pos (by decide), if_pos (by decide), if_neg (by decide)]
      have key : ∀ x, x = wd k + im * 1048576 + (r0 * 128 + r1 * 32768 + 0) → Back k x r0 r1 r2 im := fun x hx => by
        have hcd : cd x = cd (wd k) := by rw [cd_is x]; omega
        have hf3 : f3 x = f3 (wd k) := by rw [f3_is x]; omega
        have hu : x / 33554432 = wd k / 33554432 := by omega
        refine ⟨by omega, by omega, (hiff hn).2 ⟨hcd, fun _ => hf3, fun _ => hu, fun h => by rw [hs] at h; exact absurd h (by decide)⟩, fun _ => by omega, fun _ => by omega, fun h => by rw [hf] at h; exact absurd h (by decide), ?_⟩
        unfold imO; rw [shb_eq hcd hf3, hs, if_neg (by decide), if_pos rfl]
        rw [e20, e5]
        omega
      exact key _ rfl
    · have hw := (T6 hs).2
      rw [hf] at b0 b1 hi ⊢
      have d0 := b0 (by decide)
      have d1 := b1 (by decide)
      rw [hs, if_pos rfl] at hi
      simp at hi
      rw [hs, if_neg (by decide), if_pos (by decide), if_pos (by decide), if_neg (by decide)]
      have key : ∀ x, x = wd k + im * 1048576 + (r0 * 128 + r1 * 32768 + 0) → Back k x r0 r1 r2 im := fun x hx => by
        have hcd : cd x = cd (wd k) := by rw [cd_is x]; omega
        have hf3 : f3 x = f3 (wd k) := by rw [f3_is x]; omega
        have hu : x / 67108864 = wd k / 67108864 := by omega
        refine ⟨by omega, by omega, (hiff hn).2 ⟨hcd, fun _ => hf3, fun h => by rw [hf, hs] at h; exact absurd h (by decide), fun _ => hu⟩, fun _ => by omega, fun _ => by omega, fun h => by rw [hf] at h; exact absurd h (by decide), ?_⟩
        unfold imO; rw [shb_eq hcd hf3, hs, if_pos rfl]
        rw [e20, e6]
        omega
      exact key _ rfl
  · -- form 2
    obtain ⟨hs, hw⟩ := T2 (Or.inl hf)
    rw [hf] at b1 b2 hi ⊢
    have d1 := b1 (by decide)
    have d2 := b2 (by decide)
    rw [hs, if_neg (by decide), if_neg (by decide)] at hi
    rw [hs, if_pos rfl, if_neg (by decide), if_pos (by decide), if_pos (by decide)]
    have key : ∀ x, x = wd k + sprOf 2 im + (0 + r1 * 32768 + r2 * 1048576) → Back k x r0 r1 r2 im := fun x hx => by
      have hm : mskOf 2 (wd k + (r1 * 32768 + r2 * 1048576)) = 0 := by rw [msk2]; omega
      have hg := get_back (f := 2) (x := x) (x0 := wd k + (r1 * 32768 + r2 * 1048576)) (v := im) (by omega) (by omega) (by omega) hm hi
      rw [spr2] at hx
      have g0 : 0 ≤ im / 32 % 128 ∧ im / 32 % 128 < 128 := by omega
      generalize im / 32 % 128 = q0 at *
      have g1 : 0 ≤ im % 32 ∧ im % 32 < 32 := by omega
      generalize im % 32 = q1 at *
      have hcd : cd x = cd (wd k) := by rw [cd_is x]; omega
      have hf3 : f3 x = f3 (wd k) := by rw [f3_is x]; omega
      refine ⟨by omega, by omega, (hiff hn).2 ⟨hcd, fun _ => hf3, fun h => by rw [hf, hs] at h; exact absurd h (by decide), fun h => by rw [hs] at h; exact absurd h (by decide)⟩, fun h => by rw [hf] at h; exact absurd h (by decide), fun _ => by omega, fun _ => by omega, ?_⟩
      rw [hf]; unfold imO; rw [shb_eq hcd hf3, hs, if_neg (by decide), if_neg (by decide)]; exact hg
    exact key _ rfl
  · -- form 3
    obtain ⟨hs, hw⟩ := T2 (Or.inr hf)
    rw [hf] at b1 b2 hi ⊢
    have d1 := b1 (by decide)
    have d2 := b2 (by decide)
    rw [hs, if_neg (by decide), if_neg (by decide)] at hi
    rw [hs, if_pos rfl, if_neg (by decide), if_pos (by decide), if_pos (by decide)]
    have key : ∀ x, x = wd k + sprOf 3 im + (0 + r1 * 32768 + r2 * 1048576) → Back k x r0 r1 r2 im := fun x hx => by
      have hm : mskOf 3 (wd k + (r1 * 32768 + r2 * 1048576)) = 0 := by rw [msk3]; omega
      have hg := get_back (f := 3) (x := x) (x0 := wd k + (r1 * 32768 + r2 * 1048576)) (v := im) (by omega) (by omega) (by omega) hm hi
      rw [spr3] at hx
      have g0 : 0 ≤ im / 4096 % 2 ∧ im / 4096 % 2 < 2 := by omega
      generalize im / 4096 % 2 = q0 at *
      have g1 : 0 ≤ im / 2048 % 2 ∧ im / 2048 % 2 < 2 := by omega
      generalize im / 2048 % 2 = q1 at *
      have g2 : 0 ≤ im / 32 % 64 ∧ im / 32 % 64 < 64 := by omega
      generalize im / 32 % 64 = q2 at *
      have g3 : 0 ≤ im / 2 % 16 ∧ im / 2 % 16 < 16 := by omega
      generalize im / 2 % 16 = q3 at *
      have hcd : cd x = cd (wd k) := by rw [cd_is x]; omega
      have hf3 : f3 x = f3 (wd k) := by rw [f3_is x]; omega
      refine ⟨by omega, by omega, (hiff hn).2 ⟨hcd, fun _ => hf3, fun h => by rw [hf, hs] at h; exact absurd h (by decide), fun h => by rw [hs] at h; exact absurd h (by decide)⟩, fun h => by rw [hf] at h; exact absurd h (by decide), fun _ => by omega, fun _ => by omega, ?_⟩
      rw [hf]; unfold imO; rw [shb_eq hcd hf3, hs, if_neg (by decide), if_neg (by decide)]; exact hg
    exact key _ rfl
  · -- form 4
    obtain ⟨hs, hw⟩ := T4 (Or.inl hf)
    rw [hf] at b0 hi ⊢
    have d0 := b0 (by decide)
    rw [hs, if_neg (by decide), if_neg (by decide)] at hi
    rw [hs, if_pos rfl, if_pos (by decide), if_neg (by decide), if_neg (by decide)]
    have key : ∀ x, x = wd k + sprOf 4 im + (r0 * 128 + 0 + 0) → Back k x r0 r1 r2 im := fun x hx => by
      have hm : mskOf 4 (wd k + r0 * 128) = 0 := by rw [msk4]; omega
      have hg := get_back (f := 4) (x := x) (x0 := wd k + r0 * 128) (v := im) (by omega) (by omega) (by omega) hm hi
      rw [spr4] at hx
      have g0 : 0 ≤ im % 1048576 ∧ im % 1048576 < 1048576 := by omega
      generalize im % 1048576 = q0 at *
      have hcd : cd x = cd (wd k) := by rw [cd_is x]; omega
      have hsx : shb x = 0 := shb_no (by rw [hcd, hf]; decide)
      refine ⟨by omega, by omega, (hiff hn).2 ⟨hcd, fun h => by rw [hf] at h; exact absurd h (by decide), fun h => by rw [hf, hs] at h; exact absurd h (by decide), fun h => by rw [hs] at h; exact absurd h (by decide)⟩, fun _ => by omega, fun h => by rw [hf] at h; exact absurd h (by decide), fun h => by rw [hf] at h; exact absurd h (by decide), ?_⟩
      rw [hf]; unfold imO; rw [hsx, if_neg (by decide), if_neg (by decide)]; exact hg
    exact key _ rfl
  · -- form 5
    obtain ⟨hs, hw⟩ := T4 (Or.inr hf)
    rw [hf] at b0 hi ⊢
    have d0 := b0 (by decide)
    rw [hs, if_neg (by decide), if_neg (by decide)] at hi
    rw [hs, if_pos rfl, if_pos (by decide), if_neg (by decide), if_neg (by decide)]
    have key : ∀ x, x = wd k + sprOf 5 im + (r0 * 128 + 0 + 0) → Back k x r0 r1 r2 im := fun x hx => by
      have hm : mskOf 5 (wd k + r0 * 128) = 0 := by rw [msk5]; omega
      have hg := get_back (f := 5) (x := x) (x0 := wd k + r0 * 128) (v := im) (by omega) (by omega) (by omega) hm hi
      rw [spr5] at hx
      have g0 : 0 ≤ im / 1048576 % 2 ∧ im / 1048576 % 2 < 2 := by omega
      generalize im / 1048576 % 2 = q0 at *
      have g1 : 0 ≤ im / 4096 % 256 ∧ im / 4096 % 256 < 256 := by omega
      generalize im / 4096 % 256 = q1 at *
      have g2 : 0 ≤ im / 2048 % 2 ∧ im / 2048 % 2 < 2 := by omega
      generalize im / 2048 % 2 = q2 at *
      have g3 : 0 ≤ im / 2 % 1024 ∧ im / 2 % 1024 < 1024 := by omega
      generalize im / 2 % 1024 = q3 at *
      have hcd : cd x = cd (wd k) := by rw [cd_is x]; omega
      have hsx : shb x = 0 := shb_no (by rw [hcd, hf]; decide)
      refine ⟨by omega, by omega, (hiff hn).2 ⟨hcd, fun h => by rw [hf] at h; exact absurd h (by decide), fun h => by rw [hf, hs] at h; exact absurd h (by decide), fun h => by rw [hs] at h; exact absurd h (by decide)⟩, fun _ => by omega, fun h => by rw [hf] at h; exact absurd h (by decide), fun h => by rw [hf] at h; exact absurd h (by decide), ?_⟩
      rw [hf]; unfold imO; rw [hsx, if_neg (by decide), if_neg (by decide)]; exact hg
    exact key _ rfl

end Go.Proofs.YtgjfelkbblbjfaaGreatDoor

/- An instruction of any operation is encoded and decoded again: the contracts of the two calls at one instruction. -/
namespace Go.Proofs.YtgjfelkbblbjfaaGreatDoor
open Go.RowKit
set_option linter.unusedVariables false
set_option maxRecDepth 100000

theorem and_i64 (v : Int) (m : Nat) (hm : m ≤ 9223372036854775807) : ∃ p : Nat, bits .and .i64 v m = p ∧ p ≤ m ∧ (m % 2 = 0 → p % 2 = 0) := by
  obtain ⟨x, hx⟩ : ∃ x : BitVec 64, x = BitVec.ofInt 64 v := ⟨_, rfl⟩
  have e : bits .and .i64 v m = IntKind.i64.wrap ((x &&& BitVec.ofInt 64 m).toNat : Int) := by rw [hx]; rfl
  have e2 : (BitVec.ofInt 64 (m : Int)).toNat = m := by rw [BitVec.ofInt_natCast, BitVec.toNat_ofNat, Nat.mod_eq_of_lt (by omega)]
  refine ⟨x.toNat &&& m, ?_, Nat.and_le_right, fun h => ?_⟩
  · rw [e, BitVec.toNat_and, e2, IntKind.wrap_i64]
    have := Nat.and_le_right (n := x.toNat) (m := m)
    omega
  · have t1 := Nat.and_mod_two_pow (n := 1) (a := x.toNat) (b := m)
    rw [Nat.pow_one, h] at t1
    simpa using t1

theorem wd_mt (k : Nat) : Mt k (wd k) := ⟨rfl, rfl, rfl⟩
theorem n_shb : ∀ k, k < 66 → (63 ≤ k → shb (wd k) = 0) := by decide +kernel



end Go.Proofs.YtgjfelkbblbjfaaGreatDoor

/- A word that is an operation's is what its parts make: decoded and encoded again. Nothing is walked here. -/
namespace Go.Proofs.YtgjfelkbblbjfaaGreatDoor
open Go.RowKit
set_option linter.unusedVariables false
set_option maxRecDepth 100000
set_option linter.unusedSimpArgs false

theorem parts (x : Int) : x = x % 128 + 128 * (x / 128 % 32) + 4096 * (x / 4096 % 8) + 32768 * (x / 32768 % 32) + 1048576 * (x / 1048576 % 32) + 33554432 * (x / 33554432) := by
  have h1 : x = x % 128 + 128 * (x / 128) := by omega
  have h2 : x / 128 = x / 128 % 32 + 32 * (x / 4096) := by omega
  have h3 : x / 4096 = x / 4096 % 8 + 8 * (x / 32768) := by omega
  have h4 : x / 32768 = x / 32768 % 32 + 32 * (x / 1048576) := by omega
  have h5 : x / 1048576 = x / 1048576 % 32 + 32 * (x / 33554432) := by omega
  generalize x / 128 % 32 = a at *
  generalize x / 4096 % 8 = b at *
  generalize x / 32768 % 32 = c at *
  generalize x / 1048576 % 32 = d at *
  generalize x % 128 = e at *
  generalize x / 128 = p at *
  generalize x / 4096 = q at *
  generalize x / 32768 = r at *
  generalize x / 1048576 = s at *
  generalize x / 33554432 = t at *
  omega

theorem spr_get (f : Int) {x : Int} (h0 : 0 ≤ x) (h1 : x ≤ 4294967295) : sprOf f (getOf f x) = mskOf f x := by
  have := set_get f x h0 h1
  unfold setOf at this
  omega

theorem msk3_2 (x : Int) : mskOf 3 x = mskOf 2 x := by
  rw [msk3, msk2]
  have a : x / 33554432 % 128 = x / 33554432 % 64 + 64 * (x / 2147483648 % 2) := by omega
  have b : x / 128 % 32 = x / 128 % 2 + 2 * (x / 256 % 16) := by omega
  rw [a, b]
  generalize x / 33554432 % 64 = p
  generalize x / 2147483648 % 2 = q
  generalize x / 128 % 2 = r
  generalize x / 256 % 16 = s
  omega
theorem msk5_4 (x : Int) : mskOf 5 x = mskOf 4 x := by
  rw [msk5, msk4]
  have a : x / 4096 % 1048576 = x / 4096 % 256 + 256 * (x / 1048576 % 4096) := by omega
  have b : x / 1048576 % 4096 = x / 1048576 % 2 + 2 * (x / 2097152 % 2048) := by omega
  have c : x / 2097152 % 2048 = x / 2097152 % 1024 + 1024 * (x / 2147483648 % 2) := by omega
  rw [a, b, c]
  generalize x / 4096 % 256 = p
  generalize x / 1048576 % 2 = q
  generalize x / 2097152 % 1024 = r
  generalize x / 2147483648 % 2 = s
  omega

theorem i06 : ((0 : Int) = 6) = False := by simp
theorem i05 : ((0 : Int) = 5) = False := by simp
theorem i56 : ((5 : Int) = 6) = False := by simp
theorem i50 : ((5 : Int) = 0) = False := by simp
theorem i60 : ((6 : Int) = 0) = False := by simp

set_option maxHeartbeats 1000000 in
theorem forth {k : Nat} (hk : 1 ≤ k) (hk' : k < 63) {x : Int} (h0 : 0 ≤ x) (h1 : x ≤ 4294967295) (hM : Mt k x) :
    imOk (fmc (cd (wd k))) (wd k) (imO (fmc (cd (wd k))) x) = true ∧ rgOk (hasD (fmc (cd (wd k)))) (has1 (fmc (cd (wd k)))) (has2 (fmc (cd (wd k)))) (rdO (fmc (cd (wd k))) x) (r1O (fmc (cd (wd k))) x) (r2O (fmc (cd (wd k))) x) = true ∧
      wd k + imP (fmc (cd (wd k))) (wd k) (imO (fmc (cd (wd k))) x) + rgP (fmc (cd (wd k))) (rdO (fmc (cd (wd k))) x) (r1O (fmc (cd (wd k))) x) (r2O (fmc (cd (wd k))) x) = x := by
  have hn : fmc (cd (wd k)) ≠ 6 := fun h => by have := (tab_n k (by omega) hk).1 h; omega
  obtain ⟨hcd, hf3, hu5, hu6⟩ := (key_iff hn).1 hM
  have T0 := tab_0 k (by omega)
  have T1 := tab_1 k (by omega)
  have T2 := tab_2 k (by omega)
  have T4 := tab_4 k (by omega)
  have T5 := tab_5 k (by omega)
  have T6 := tab_6 k (by omega)
  have P := parts x
  have y0 : isr (x / 128 % 32) = true := by unfold isr; simp; omega
  have y1 : isr (x / 32768 % 32) = true := by unfold isr; simp; omega
  have y2 : isr (x / 1048576 % 32) = true := by unfold isr; simp; omega
  have hcd' : cd (wd k) = x % 128 := by rw [← cd_is, hcd]
  have hR : rgOk (hasD (fmc (cd (wd k)))) (has1 (fmc (cd (wd k)))) (has2 (fmc (cd (wd k)))) (rdO (fmc (cd (wd k))) x) (r1O (fmc (cd (wd k))) x) (r2O (fmc (cd (wd k))) x) = true := by
    unfold rgOk rdO r1O r2O
    rw [e7, e15, e20]
    cases hasD (fmc (cd (wd k))) <;> cases has1 (fmc (cd (wd k))) <;> cases has2 (fmc (cd (wd k))) <;> simp [y0, y1, y2]
  have up : 0 ≤ x / 1048576 ∧ x / 1048576 ≤ 4095 := by omega
  have u5 : x / 1048576 = x / 1048576 % 32 + 32 * (x / 33554432) := by omega
  have u6 : x / 1048576 = x / 1048576 % 64 + 64 * (x / 67108864) := by omega
  have e4096 : x / 1048576 % 4096 = x / 1048576 := by omega
  have e128 : x / 33554432 % 128 = x / 33554432 := by omega
  have u4 : x / 4096 % 1048576 = x / 4096 := by omega
  have u4' : x = x % 128 + 128 * (x / 128 % 32) + 4096 * (x / 4096) := by omega
  refine ⟨?_, hR, ?_⟩
  · unfold imOk imO
    rcases shb_cases (wd k) with hs | hs | hs
    · have hsx : shb x = 0 := by
        by_cases h3 : fmc (cd (wd k)) ≤ 3
        · rw [shb_eq hcd (hf3 h3)]; exact hs
        · exact shb_no (by rw [hcd]; omega)
      rw [hs, hsx, if_neg (by decide), if_neg (by decide), if_neg (by decide), if_neg (by decide)]
      exact fits_get _ _
    · have hf := (T5 hs).1
      rw [shb_eq hcd (hf3 (by omega)), hs, if_neg (by decide), if_pos rfl, if_neg (by decide), if_pos rfl, e20, e5]
      simp
      omega
    · have hf := (T6 hs).1
      rw [shb_eq hcd (hf3 (by omega)), hs, if_pos rfl, if_pos rfl, e20, e6]
      simp
      omega
  · unfold imP imO rgP rdO r1O r2O
    rw [e7, e15, e20]
    rcases form_cases hn with hf | hf | hf | hf | hf | hf
    · obtain ⟨hs, hw⟩ := T0 hf
      have h3 := hf3 (by omega)
      have hu := hu5 (Or.inl hf)
      rw [shb_eq hcd h3, hs, hf]
      rw [← h3, f3_is, ← hu, hcd'] at hw
      simp only [show hasD 0 = true by decide, show has1 0 = true by decide, show has2 0 = true by decide, if_true, Bool.false_eq_true, if_false, i06, i05, i56, i60, i50]
      rw [show getOf 0 x = 0 by simp [getOf], show sprOf 0 0 = 0 by decide]
      generalize x / 128 % 32 = a at *
      generalize x / 4096 % 8 = b at *
      generalize x / 32768 % 32 = c at *
      generalize x / 1048576 % 32 = d at *
      generalize x % 128 = e at *
      generalize x / 33554432 = t at *
      omega
    · have h3 := hf3 (by omega)
      rcases shb_cases (wd k) with hs | hs | hs
      · have hw := T1 ⟨hf, hs⟩
        rw [shb_eq hcd h3, hs, hf]
        rw [← h3, f3_is, hcd'] at hw
        simp only [show hasD 1 = true by decide, show has1 1 = true by decide, show has2 1 = false by decide, if_true, Bool.false_eq_true, if_false, i06, i05, i56, i60, i50]
        rw [spr_get 1 h0 h1, msk1, e4096, u5]
        generalize x / 128 % 32 = a at *
        generalize x / 4096 % 8 = b at *
        generalize x / 32768 % 32 = c at *
        generalize x / 1048576 % 32 = d at *
        generalize x % 128 = e at *
        generalize x / 33554432 = t at *
        omega
      · have hw := (T5 hs).2
        have hu := hu5 (Or.inr hs)
        rw [shb_eq hcd h3, hs, hf]
        rw [← h3, f3_is, ← hu, hcd'] at hw
        simp only [show hasD 1 = true by decide, show has1 1 = true by decide, show has2 1 = false by decide, if_true, Bool.false_eq_true, if_false, i06, i05, i56, i60, i50]
        rw [e5]
        generalize x / 128 % 32 = a at *
        generalize x / 4096 % 8 = b at *
        generalize x / 32768 % 32 = c at *
        generalize x / 1048576 % 32 = d at *
        generalize x % 128 = e at *
        generalize x / 33554432 = t at *
        omega
      · have hw := (T6 hs).2
        have hu := hu6 hs
        rw [shb_eq hcd h3, hs, hf]
        rw [← h3, f3_is, ← hu, hcd'] at hw
        simp only [show hasD 1 = true by decide, show has1 1 = true by decide, show has2 1 = false by decide, if_true, Bool.false_eq_true, if_false, i06, i05, i56, i60, i50]
        rw [e6]
        have u7 : x / 1048576 % 32 + 32 * (x / 33554432) = x / 1048576 % 64 + 64 * (x / 67108864) := u5.symm.trans u6
        generalize x / 128 % 32 = a at *
        generalize x / 4096 % 8 = b at *
        generalize x / 32768 % 32 = c at *
        generalize x / 1048576 % 32 = d at *
        generalize x / 1048576 % 64 = d' at *
        generalize x % 128 = e at *
        generalize x / 33554432 = t at *
        generalize x / 67108864 = t' at *
        omega
    · obtain ⟨hs, hw⟩ := T2 (Or.inl hf)
      have h3 := hf3 (by omega)
      rw [shb_eq hcd h3, hs, hf]
      rw [← h3, f3_is, hcd'] at hw
      simp only [show hasD 2 = false by decide, show has1 2 = true by decide, show has2 2 = true by decide, if_true, Bool.false_eq_true, if_false, i06, i05, i56, i60, i50]
      rw [spr_get 2 h0 h1, msk2, e128]
      generalize x / 128 % 32 = a at *
      generalize x / 4096 % 8 = b at *
      generalize x / 32768 % 32 = c at *
      generalize x / 1048576 % 32 = d at *
      generalize x % 128 = e at *
      generalize x / 33554432 = t at *
      omega
    · obtain ⟨hs, hw⟩ := T2 (Or.inr hf)
      have h3 := hf3 (by omega)
      rw [shb_eq hcd h3, hs, hf]
      rw [← h3, f3_is, hcd'] at hw
      simp only [show hasD 3 = false by decide, show has1 3 = true by decide, show has2 3 = true by decide, if_true, Bool.false_eq_true, if_false, i06, i05, i56, i60, i50]
      rw [spr_get 3 h0 h1, msk3_2, msk2, e128]
      generalize x / 128 % 32 = a at *
      generalize x / 4096 % 8 = b at *
      generalize x / 32768 % 32 = c at *
      generalize x / 1048576 % 32 = d at *
      generalize x % 128 = e at *
      generalize x / 33554432 = t at *
      omega
    · obtain ⟨hs, hw⟩ := T4 (Or.inl hf)
      have hsx : shb x = 0 := shb_no (by rw [hcd]; omega)
      rw [hsx, hs, hf]
      rw [hcd'] at hw
      simp only [show hasD 4 = true by decide, show has1 4 = false by decide, show has2 4 = false by decide, if_true, Bool.false_eq_true, if_false, i06, i05, i56, i60, i50]
      rw [spr_get 4 h0 h1, msk4, u4]
      generalize x / 128 % 32 = a at *
      generalize x / 4096 = b at *
      generalize x % 128 = e at *
      omega
    · obtain ⟨hs, hw⟩ := T4 (Or.inr hf)
      have hsx : shb x = 0 := shb_no (by rw [hcd]; omega)
      rw [hsx, hs, hf]
      rw [hcd'] at hw
      simp only [show hasD 5 = true by decide, show has1 5 = false by decide, show has2 5 = false by decide, if_true, Bool.false_eq_true, if_false, i06, i05, i56, i60, i50]
      rw [spr_get 5 h0 h1, msk5_4, msk4, u4]
      generalize x / 128 % 32 = a at *
      generalize x / 4096 = b at *
      generalize x % 128 = e at *
      omega

end Go.Proofs.YtgjfelkbblbjfaaGreatDoor

/- The document's Decode: one contract. -/
namespace Go.Proofs.YtgjfelkbblbjfaaGreatDoor
open Go.RowKit
set_option linter.unusedVariables false
set_option maxRecDepth 100000
set_option linter.unusedSimpArgs false

theorem and_28799 {x : Int} (h0 : 0 ≤ x) (h1 : x ≤ 4294967295) : bits .and .u32 x 28799 = x % 128 + x / 4096 % 8 * 4096 := by
  obtain ⟨y, rfl⟩ := Int.eq_ofNat_of_zero_le h0
  have := (bits_nat .u32 32 (by decide) wraps_u32 y 28799 (by omega) (by omega)).1
  rw [show ((28799 : Nat) : Int) = 28799 from rfl] at this
  rw [this, show (28799 : Nat) = ((2 ^ 7 - 1) * 2 ^ 0) ||| ((2 ^ 3 - 1) * 2 ^ 12) by decide, take_two _ _ _ (by decide), take_one, take_one]
  simp [fld]
theorem and_127 {x : Int} (h0 : 0 ≤ x) (h1 : x ≤ 4294967295) : bits .and .u32 x 127 = x % 128 := by
  have := bits_mask .u32 32 (by decide) wraps_u32 7 (by omega) x h0 (by omega)
  simpa using this

theorem mt_63 {x : Int} : Mt 63 x ↔ x % 128 + x / 4096 % 8 * 4096 = 15 := by
  have a : (x % 128 + x / 4096 % 8 * 4096 = 15) ↔ (cd x = 15 ∧ f3 x = 0) := by rw [cd_is, f3_is]; omega
  rw [a]
  unfold Mt
  rw [show cd (wd 63) = 15 by decide +kernel, show ke2 (wd 63) = 0 by decide +kernel, show ke3 (wd 63) = 0 by decide +kernel]
  constructor
  · rintro ⟨h, h2, h3⟩
    refine ⟨h.symm, ?_⟩
    unfold ke2 at h2
    rw [← h, if_neg (by decide)] at h2
    exact h2.symm
  · rintro ⟨h, h2⟩
    refine ⟨h.symm, ?_, ?_⟩
    · unfold ke2; rw [h, if_neg (by decide), h2]
    · unfold ke3 upp shb; rw [h, h2]; rfl
theorem mt_64 {x : Int} (h0 : 0 ≤ x) : Mt 64 x ↔ x = 115 := by
  unfold Mt
  rw [show cd (wd 64) = 115 by decide +kernel, show ke2 (wd 64) = 0 by decide +kernel, show ke3 (wd 64) = 0 by decide +kernel]
  constructor
  · rintro ⟨h, h2, h3⟩
    unfold ke3 at h3
    rw [← h, if_neg (by decide), if_pos rfl] at h3
    rw [cd_is] at h
    omega
  · rintro rfl
    decide +kernel
theorem mt_65 {x : Int} (h0 : 0 ≤ x) : Mt 65 x ↔ x = 1048691 := by
  unfold Mt
  rw [show cd (wd 65) = 115 by decide +kernel, show ke2 (wd 65) = 0 by decide +kernel, show ke3 (wd 65) = 8192 by decide +kernel]
  constructor
  · rintro ⟨h, h2, h3⟩
    unfold ke3 at h3
    rw [← h, if_neg (by decide), if_pos rfl] at h3
    rw [cd_is] at h
    omega
  · rintro rfl
    decide +kernel

theorem co_is0 : ∀ k, k < 63 → (1 ≤ k → co0 k = cd (wd k)) := by decide +kernel
theorem co_is1 : ∀ k, k < 63 → (1 ≤ k → (fmo ((k : Nat) : Int) ≤ 3 → co1 k = f3 (wd k))) := by decide +kernel
theorem co_is2 : ∀ k, k < 63 → (1 ≤ k → (fmo ((k : Nat) : Int) = 0 ∨ shb (wd k) = 5 → co2 k = wd k / 33554432)) := by decide +kernel
theorem co_is3 : ∀ k, k < 63 → (1 ≤ k → (shb (wd k) = 6 → co2 k = wd k / 67108864)) := by decide +kernel
theorem sh_is6 : ∀ k, k < 63 → (decide (28 ≤ ((k : Nat) : Int)) && decide (((k : Nat) : Int) ≤ 30)) = decide (shb (wd k) = 6) := by decide +kernel
theorem sh_is5 : ∀ k, k < 63 → (decide (42 ≤ ((k : Nat) : Int)) && decide (((k : Nat) : Int) ≤ 44)) = decide (shb (wd k) = 5) := by decide +kernel

/-- When the document's code of an operation meets a word. -/
theorem meets {k : Nat} (hk : 1 ≤ k) (hk' : k < 63) (x : Int) :
    (x % 128 = co0 k ∧ (fmo k ≤ 3 → f3 x = co1 k) ∧ (fmo k = 0 ∨ shb (wd k) = 5 → x / 33554432 = co2 k) ∧ (shb (wd k) = 6 → x / 67108864 = co2 k)) ↔ Mt k x := by
  have hn : fmc (cd (wd k)) ≠ 6 := fun h => by have := (tab_n k (by omega) hk).1 h; omega
  have e0 := co_is0 k hk' hk
  have e1 := co_is1 k hk' hk
  have e2 := co_is2 k hk' hk
  have e3 := co_is3 k hk' hk
  have hf := fmo_k hk (show k < 66 by omega)
  unfold Mt
  rw [key_iff hn, ← hf, cd_is x, e0]
  exact ⟨fun ⟨a, b, c, d⟩ => ⟨a, fun h => (b h).trans (e1 h), fun h => (c h).trans (e2 h), fun h => (d h).trans (e3 h)⟩, fun ⟨a, b, c, d⟩ => ⟨a, fun h => (b h).trans (e1 h).symm, fun h => (c h).trans (e2 h).symm, fun h => (d h).trans (e3 h).symm⟩⟩

theorem fldz (x : Int) (f n : Nat) : fld x f n 0 = x / 2 ^ f % 2 ^ n := by unfold fld; simp

theorem rdV_is {o : Nat} (ho : 1 ≤ o) (ho' : o < 63) {x : Int} (hM : Mt o x) :
    rdV (fmo o) (shb (wd o)) o (x / 2 ^ 7 % 32) (x / 2 ^ 15 % 32) (x / 2 ^ 20 % 32) (x / 2 ^ 20 % 2 ^ 6) (fun f => getOf f x) = inst o (rdO (fmo o) x) (r1O (fmo o) x) (r2O (fmo o) x) (imO (fmo o) x) := by
  have hn : fmc (cd (wd o)) ≠ 6 := fun h => by have := (tab_n o (by omega) ho).1 h; omega
  obtain ⟨hcd, hf3, _, _⟩ := (key_iff hn).1 hM
  have hf := fmo_k ho (show o < 66 by omega)
  have hs : fmo o ≠ 1 → shb x = 0 ∧ shb (wd o) = 0 := fun h => ⟨shb_no (by rw [hcd, ← hf]; exact h), shb_no (by rw [← hf]; exact h)⟩
  unfold rdV rdO r1O r2O imO
  rw [← hf] at hn hf3
  rcases (show fmo o = 0 ∨ fmo o = 1 ∨ fmo o = 2 ∨ fmo o = 3 ∨ fmo o = 4 ∨ fmo o = 5 by have := fmc_bd (cd (wd o)); rw [← hf] at this; omega) with h | h | h | h | h | h
  · obtain ⟨a, b⟩ := hs (by omega)
    rw [a, h]
    simp [hasD, has1, has2, getOf]
  · rw [shb_eq hcd (hf3 (by omega)), h]
    simp [hasD, has1, has2]
  all_goals
    obtain ⟨a, b⟩ := hs (by omega)
    rw [a, h]
    simp [hasD, has1, has2]

theorem rdec_low (x : Int) (o : Nat) (R : Value) (b : Bool) (w : World) (h0 : 0 ≤ x) (h1 : x ≤ 4294967295) (ho : IsOp x o) (ho' : o < 63) (hR0 : o = 0 → R = inst 0 0 0 0 0 ∧ b = false)
    (hR1 : o ≠ 0 → R = inst o (rdO (fmo o) x) (r1O (fmo o) x) (r2O (fmo o) x) (imO (fmo o) x) ∧ b = true) :
    Calls Tryz.prog 60 #[.int .u32 x] w fun e w' => e = .returned (.tuple #[R, .bool b]) ∧ Below w.heap.size w w' := by
  have no : ∀ k, 63 ≤ k → k < 66 → ¬ Mt k x := fun k hk hk' hm => by
    rcases ho with ⟨_, hn⟩ | ⟨h, _, hm'⟩
    · exact hn k (by omega) hk' hm
    · have := Mt_one h (by omega) (by omega) hk' hm' hm
      omega
  have t1 : (x == 115) = false := by simpa using fun e => no 64 (by decide) (by decide) ((mt_64 h0).2 e)
  have t2 : (x == 1048691) = false := by simpa using fun e => no 65 (by decide) (by decide) ((mt_65 h0).2 e)
  have t3 : (bits .and .u32 x 28799 == 15) = false := by
    rw [and_28799 h0 h1]
    simpa using fun e => no 63 (by decide) (by decide) (mt_63.2 e)
  have B := fun hi lo f n w (a : lo = ((f : Nat) : Int)) (b : hi - lo + 1 = ((n : Nat) : Int)) c d => bits_any x hi lo f n w h0 h1 a b c d
  simp only [fldz] at B
  have u5 : x / 2 ^ 25 % 2 ^ 7 = x / 33554432 := by simp; omega
  have u6 : x / 2 ^ 26 % 2 ^ 6 = x / 67108864 := by simp; omega
  have ef : x / 2 ^ 12 % 2 ^ 3 = f3 x := rfl
  have p5 : (2 : Int) ^ 5 = 32 := by decide
  refine rdec_loop x (x % 128) (f3 x) (x / 2 ^ 7 % 32) (x / 2 ^ 15 % 32) (x / 2 ^ 20 % 32) (x / 33554432) (x / 67108864) (x / 2 ^ 20 % 2 ^ 6) (fun f => getOf f x) o R b w h0 h1 t1 t2 t3 (and_127 h0 h1) (f3_bd x) (by omega) (by omega) (by omega) (by omega) (by omega) (by simp; omega)
    (hide fun w => by have := B 14 12 12 3 w (by decide) (by decide) (by decide) (by decide); rwa [ef] at this)
    (hide fun w => by have := B 11 7 7 5 w (by decide) (by decide) (by decide) (by decide); rwa [p5] at this)
    (hide fun w => by have := B 19 15 15 5 w (by decide) (by decide) (by decide) (by decide); rwa [p5] at this)
    (hide fun w => by have := B 24 20 20 5 w (by decide) (by decide) (by decide) (by decide); rwa [p5] at this)
    (hide fun w => by have := B 31 25 25 7 w (by decide) (by decide) (by decide) (by decide); rwa [u5] at this)
    (hide fun w => by have := B 31 26 26 6 w (by decide) (by decide) (by decide) (by decide); rwa [u6] at this)
    (hide fun w => B 25 20 20 6 w (by decide) (by decide) (by decide) (by decide))
    (hide fun k hk hk' w => co_any hk hk' w) (hide fun k w => rform_any k w)
    (hide fun k hk w => by have := shift6_any k w; rwa [sh_is6 k hk] at this) (hide fun k hk w => by have := shift5_any k w; rwa [sh_is5 k hk] at this)
    (hide fun f w => rget_any f x w h0 h1) (hide fun k hk hk' => ?_) (hide (by rcases ho with ⟨h, _⟩ | ⟨h, _, _⟩ <;> omega)) (hide hR0) (hide fun h => ?_)
  · rw [meets hk hk' x]
    rcases ho with ⟨h, hn⟩ | ⟨h, _, hm⟩
    · exact ⟨fun hm => absurd hm (hn k hk (by omega)), fun e => by omega⟩
    · exact ⟨fun hm' => Mt_one hk (by omega) h (by omega) hm' hm, fun e => by rw [e]; exact hm⟩
  · rcases ho with ⟨h', hn⟩ | ⟨h', _, hm⟩
    · exact absurd h' h
    · rw [rdV_is h' ho' hm]
      exact hR1 h

theorem rdec_none (x : Int) (w : World) (h0 : 0 ≤ x) (h1 : x ≤ 4294967295) (ho : IsOp x 0) :
    Calls Tryz.prog 60 #[.int .u32 x] w fun e w' => e = .returned (.tuple #[inst 0 0 0 0 0, .bool false]) ∧ Below w.heap.size w w' :=
  rdec_low x 0 _ _ w h0 h1 ho (by decide) (fun _ => ⟨rfl, rfl⟩) (fun h => absurd rfl h)

theorem n_dec : ∀ k, k < 66 → (63 ≤ k → fmo ((k : Nat) : Int) = 6) := by decide +kernel
theorem rdec_some (x : Int) (o : Nat) (w : World) (h0 : 0 ≤ x) (h1 : x ≤ 4294967295) (ho : 1 ≤ o) (ho' : o < 66) (hM : Mt o x) :
    Calls Tryz.prog 60 #[.int .u32 x] w fun e w' => e = .returned (.tuple #[inst o (rdO (fmo o) x) (r1O (fmo o) x) (r2O (fmo o) x) (imO (fmo o) x), .bool true]) ∧ Below w.heap.size w w' := by
  by_cases h : o < 63
  · exact rdec_low x o _ _ w h0 h1 (Or.inr ⟨ho, ho', hM⟩) h (fun h => by omega) (fun _ => ⟨rfl, rfl⟩)
  · have hf := n_dec o ho' (by omega)
    have hs : shb x = 0 := shb_no (by rw [← hM.1, ← fmo_k ho ho', hf]; decide)
    have e : inst o (rdO (fmo o) x) (r1O (fmo o) x) (r2O (fmo o) x) (imO (fmo o) x) = inst o 0 0 0 0 := by
      unfold rdO r1O r2O imO
      rw [hf, hs]
      simp [hasD, has1, has2, getOf]
    rw [e]
    rcases (show o = 63 ∨ o = 64 ∨ o = 65 by omega) with rfl | rfl | rfl
    · have hx := mt_63.1 hM
      refine rdec_63 x w h0 h1 ?_ ?_ ((and_28799 h0 h1).trans hx)
      · have : x ≠ 115 := by omega
        simpa using this
      · have : x ≠ 1048691 := by omega
        simpa using this
    · obtain rfl := (mt_64 h0).1 hM
      exact rdec_64 w
    · obtain rfl := (mt_65 h0).1 hM
      exact rdec_65 w

end Go.Proofs.YtgjfelkbblbjfaaGreatDoor
