/- What is encoded is decoded again, in numbers. -/
import Derived.Test.YtejmifokceoofaaDoorInstMath
namespace Go.Proofs.YtejmifokceoofaaDoor
open Go.RowKit
set_option linter.unusedVariables false
set_option maxRecDepth 100000

theorem shb_eq {x y : Int} (h1 : cd x = cd y) (h2 : f3 x = f3 y) : shb x = shb y := by unfold shb; rw [h1, h2]
theorem shb_no {x : Int} (h : fmc (cd x) ≠ 1) : shb x = 0 := by
  rcases shb_cases x with hs | hs | hs
  · exact hs
  · exact absurd (shb_form (by rw [hs]; decide)) h
  · exact absurd (shb_form (by rw [hs]; decide)) h

/-- What a word's parts are, by the form of its opcode. -/
structure Back (k : Nat) (x r0 r1 r2 im : Int) : Prop where
  lo : 0 ≤ x
  hi : x ≤ 4294967295
  mt : Mt k x
  d : hasD (fmc (cd (wd k))) = true → x / 128 % 32 = r0
  a : has1 (fmc (cd (wd k))) = true → x / 32768 % 32 = r1
  b : has2 (fmc (cd (wd k))) = true → x / 1048576 % 32 = r2
  i : imO (fmc (cd (wd k))) x = im

theorem rg_yes {d a b : Bool} {r0 r1 r2 : Int} (h : rgOk d a b r0 r1 r2 = true) : (d = true → 0 ≤ r0 ∧ r0 < 32) ∧ (a = true → 0 ≤ r1 ∧ r1 < 32) ∧ (b = true → 0 ≤ r2 ∧ r2 < 32) := by
  unfold rgOk at h
  simp only [Bool.and_eq_true, Bool.or_eq_true, Bool.not_eq_true'] at h
  obtain ⟨⟨g0, g1⟩, g2⟩ := h
  exact ⟨fun e => isr_yes (g0.resolve_left (by rw [e]; decide)), fun e => isr_yes (g1.resolve_left (by rw [e]; decide)), fun e => isr_yes (g2.resolve_left (by rw [e]; decide))⟩

theorem get_back {f x x0 v : Int} (h0 : 0 ≤ x0) (h1 : x0 ≤ 4294967295) (hx : x = x0 + sprOf f v) (hm : mskOf f x0 = 0) (hf : fitsOf f v = true) : getOf f x = v := by
  have := get_set f x0 v h0 h1 hf
  unfold setOf at this
  rw [hm] at this
  rw [hx]
  simpa using this
theorem e20 : (2 : Int) ^ 20 = 1048576 := by simp
theorem e5 : (2 : Int) ^ 5 = 32 := by simp
theorem e6 : (2 : Int) ^ 6 = 64 := by simp
theorem e15 : (2 : Int) ^ 15 = 32768 := by simp
theorem e7 : (2 : Int) ^ 7 = 128 := by simp
theorem spr1 (v : Int) : sprOf 1 v = v % 4096 * 1048576 := by simp [sprOf, fld]
theorem spr2 (v : Int) : sprOf 2 v = v / 32 % 128 * 33554432 + v % 32 * 128 := by simp [sprOf, fld]
theorem spr4 (v : Int) : sprOf 4 v = v % 1048576 * 4096 := by simp [sprOf, fld]
theorem msk1 (x : Int) : mskOf 1 x = x / 1048576 % 4096 * 1048576 := by simp [mskOf, fld]
theorem msk2 (x : Int) : mskOf 2 x = x / 33554432 % 128 * 33554432 + x / 128 % 32 * 128 := by simp [mskOf, fld]
theorem msk4 (x : Int) : mskOf 4 x = x / 4096 % 1048576 * 4096 := by simp [mskOf, fld]

theorem form_cases {c : Int} (h : fmc c ≠ 6) : fmc c = 0 ∨ fmc c = 1 ∨ fmc c = 2 ∨ fmc c = 3 ∨ fmc c = 4 ∨ fmc c = 5 := by
  have := fmc_bd c
  omega

theorem back {k : Nat} (hk : 1 ≤ k) (hk' : k < 63) {r0 r1 r2 im : Int} (hi : imOk (fmc (cd (wd k))) (wd k) im = true) (hr : rgOk (hasD (fmc (cd (wd k)))) (has1 (fmc (cd (wd k)))) (has2 (fmc (cd (wd k)))) r0 r1 r2 = true) :
    Back k (wd k + imP (fmc (cd (wd k))) (wd k) im + rgP (fmc (cd (wd k))) r0 r1 r2) r0 r1 r2 im := by
  have hn : fmc (cd (wd k)) ≠ 6 := fun h => by have := (tab_n k (by omega) hk).1 h; omega
  obtain ⟨b0, b1, b2⟩ := rg_yes hr
  have bc := cd_bd (wd k)
  have bf := f3_bd (wd k)
  have bw := wd_bd k
  have hiff := @key_iff (wd k)
  unfold imOk at hi
  unfold imP rgP
  have T0 := tab_0 k (by omega)
  have T1 := tab_1 k (by omega)
  have T2 := tab_2 k (by omega)
  have T4 := tab_4 k (by omega)
  have T5 := tab_5 k (by omega)
  have T6 := tab_6 k (by omega)
  rcases form_cases hn with hf | hf | hf | hf | hf | hf
  · -- R
    obtain ⟨hs, hw⟩ := T0 hf
    rw [hf] at b0 b1 b2 hi ⊢
    have d0 := b0 (by decide)
    have d1 := b1 (by decide)
    have d2 := b2 (by decide)
    rw [hs, if_neg (by decide), if_neg (by decide)] at hi
    have hv : im = 0 := by simpa [fitsOf] using hi
    subst hv
    rw [hs, if_pos rfl, if_pos (by decide), if_pos (by decide), if_pos (by decide), show sprOf 0 0 = 0 by decide]
    have key : ∀ x, x = wd k + 0 + (r0 * 128 + r1 * 32768 + r2 * 1048576) → Back k x r0 r1 r2 0 := fun x hx => by
      have hcd : cd x = cd (wd k) := by rw [cd_is x]; omega
      have hf3 : f3 x = f3 (wd k) := by rw [f3_is x]; omega
      have hu : x / 33554432 = wd k / 33554432 := by omega
      refine ⟨by omega, by omega, (hiff hn).2 ⟨hcd, fun _ => hf3, fun _ => hu, fun h => by rw [hs] at h; exact absurd h (by decide)⟩, fun _ => by omega, fun _ => by omega, fun _ => by omega, ?_⟩
      rw [hf]; unfold imO; rw [shb_eq hcd hf3, hs]; simp [getOf]
    exact key _ rfl
  · -- I
    rcases shb_cases (wd k) with hs | hs | hs
    · have hw := T1 ⟨hf, hs⟩
      rw [hf] at b0 b1 hi ⊢
      have d0 := b0 (by decide)
      have d1 := b1 (by decide)
      rw [hs, if_neg (by decide), if_neg (by decide)] at hi
      rw [hs, if_pos rfl, if_pos (by decide), if_pos (by decide), if_neg (by decide)]
      have key : ∀ x, x = wd k + sprOf 1 im + (r0 * 128 + r1 * 32768 + 0) → Back k x r0 r1 r2 im := fun x hx => by
        have hm : mskOf 1 (wd k + (r0 * 128 + r1 * 32768)) = 0 := by rw [msk1]; omega
        have hg := get_back (f := 1) (x := x) (x0 := wd k + (r0 * 128 + r1 * 32768)) (v := im) (by omega) (by omega) (by omega) hm hi
        rw [spr1] at hx
        have hcd : cd x = cd (wd k) := by rw [cd_is x]; omega
        have hf3 : f3 x = f3 (wd k) := by rw [f3_is x]; omega
        refine ⟨by omega, by omega, (hiff hn).2 ⟨hcd, fun _ => hf3, fun h => by rw [hf, hs] at h; exact absurd h (by decide), fun h => by rw [hs] at h; exact absurd h (by decide)⟩, fun _ => by omega, fun _ => by omega, fun h => by rw [hf] at h; exact absurd h (by decide), ?_⟩
        rw [hf]; unfold imO; rw [shb_eq hcd hf3, hs, if_neg (by decide), if_neg (by decide)]; exact hg
      exact key _ rfl
    · have hw := (T5 hs).2
      rw [hf] at b0 b1 hi ⊢
      have d0 := b0 (by decide)
      have d1 := b1 (by decide)
      rw [hs, if_neg (by decide), if_pos rfl] at hi
      simp at hi
      rw [hs, if_neg (by decide), if_pos (by decide), if_pos (by decide), if_neg (by decide)]
      have key : ∀ x, x = wd k + im * 1048576 + (r0 * 128 + r1 * 32768 + 0) → Back k x r0 r1 r2 im := fun x hx => by
        have hcd : cd x = cd (wd k) := by rw [cd_is x]; omega
        have hf3 : f3 x = f3 (wd k) := by rw [f3_is x]; omega
        have hu : x / 33554432 = wd k / 33554432 := by omega
        refine ⟨by omega, by omega, (hiff hn).2 ⟨hcd, fun _ => hf3, fun _ => hu, fun h => by rw [hs] at h; exact absurd h (by decide)⟩, fun _ => by omega, fun _ => by omega, fun h => by rw [hf] at h; exact absurd h (by decide), ?_⟩
        unfold imO; rw [shb_eq hcd hf3, hs, if_neg (by decide), if_pos rfl]
        rw [e20, e5]
        omega
      exact key _ rfl
    · have hw := (T6 hs).2
      rw [hf] at b0 b1 hi ⊢
      have d0 := b0 (by decide)
      have d1 := b1 (by decide)
      rw [hs, if_pos rfl] at hi
      simp at hi
      rw [hs, if_neg (by decide), if_pos (by decide), if_pos (by decide), if_neg (by decide)]
      have key : ∀ x, x = wd k + im * 1048576 + (r0 * 128 + r1 * 32768 + 0) → Back k x r0 r1 r2 im := fun x hx => by
        have hcd : cd x = cd (wd k) := by rw [cd_is x]; omega
        have hf3 : f3 x = f3 (wd k) := by rw [f3_is x]; omega
        have hu : x / 67108864 = wd k / 67108864 := by omega
        refine ⟨by omega, by omega, (hiff hn).2 ⟨hcd, fun _ => hf3, fun h => by rw [hf, hs] at h; exact absurd h (by decide), fun _ => hu⟩, fun _ => by omega, fun _ => by omega, fun h => by rw [hf] at h; exact absurd h (by decide), ?_⟩
        unfold imO; rw [shb_eq hcd hf3, hs, if_pos rfl]
        rw [e20, e6]
        omega
      exact key _ rfl
  · -- form 2
    obtain ⟨hs, hw⟩ := T2 (Or.inl hf)
    rw [hf] at b1 b2 hi ⊢
    have d1 := b1 (by decide)
    have d2 := b2 (by decide)
    rw [hs, if_neg (by decide), if_neg (by decide)] at hi
    rw [hs, if_pos rfl, if_neg (by decide), if_pos (by decide), if_pos (by decide)]
    have key : ∀ x, x = wd k + sprOf 2 im + (0 + r1 * 32768 + r2 * 1048576) → Back k x r0 r1 r2 im := fun x hx => by
      have hm : mskOf 2 (wd k + (r1 * 32768 + r2 * 1048576)) = 0 := by rw [msk2]; omega
      have hg := get_back (f := 2) (x := x) (x0 := wd k + (r1 * 32768 + r2 * 1048576)) (v := im) (by omega) (by omega) (by omega) hm hi
      rw [spr2] at hx
      have g0 : 0 ≤ im / 32 % 128 ∧ im / 32 % 128 < 128 := by omega
      generalize im / 32 % 128 = q0 at *
      have g1 : 0 ≤ im % 32 ∧ im % 32 < 32 := by omega
      generalize im % 32 = q1 at *
      have hcd : cd x = cd (wd k) := by rw [cd_is x]; omega
      have hf3 : f3 x = f3 (wd k) := by rw [f3_is x]; omega
      refine ⟨by omega, by omega, (hiff hn).2 ⟨hcd, fun _ => hf3, fun h => by rw [hf, hs] at h; exact absurd h (by decide), fun h => by rw [hs] at h; exact absurd h (by decide)⟩, fun h => by rw [hf] at h; exact absurd h (by decide), fun _ => by omega, fun _ => by omega, ?_⟩
      rw [hf]; unfold imO; rw [shb_eq hcd hf3, hs, if_neg (by decide), if_neg (by decide)]; exact hg
    exact key _ rfl
  · -- form 3
    obtain ⟨hs, hw⟩ := T2 (Or.inr hf)
    rw [hf] at b1 b2 hi ⊢
    have d1 := b1 (by decide)
    have d2 := b2 (by decide)
    rw [hs, if_neg (by decide), if_neg (by decide)] at hi
    rw [hs, if_pos rfl, if_neg (by decide), if_pos (by decide), if_pos (by decide)]
    have key : ∀ x, x = wd k + sprOf 3 im + (0 + r1 * 32768 + r2 * 1048576) → Back k x r0 r1 r2 im := fun x hx => by
      have hm : mskOf 3 (wd k + (r1 * 32768 + r2 * 1048576)) = 0 := by rw [msk3]; omega
      have hg := get_back (f := 3) (x := x) (x0 := wd k + (r1 * 32768 + r2 * 1048576)) (v := im) (by omega) (by omega) (by omega) hm hi
      rw [spr3] at hx
      have g0 : 0 ≤ im / 4096 % 2 ∧ im / 4096 % 2 < 2 := by omega
      generalize im / 4096 % 2 = q0 at *
      have g1 : 0 ≤ im / 2048 % 2 ∧ im / 2048 % 2 < 2 := by omega
      generalize im / 2048 % 2 = q1 at *
      have g2 : 0 ≤ im / 32 % 64 ∧ im / 32 % 64 < 64 := by omega
      generalize im / 32 % 64 = q2 at *
      have g3 : 0 ≤ im / 2 % 16 ∧ im / 2 % 16 < 16 := by omega
      generalize im / 2 % 16 = q3 at *
      have hcd : cd x = cd (wd k) := by rw [cd_is x]; omega
      have hf3 : f3 x = f3 (wd k) := by rw [f3_is x]; omega
      refine ⟨by omega, by omega, (hiff hn).2 ⟨hcd, fun _ => hf3, fun h => by rw [hf, hs] at h; exact absurd h (by decide), fun h => by rw [hs] at h; exact absurd h (by decide)⟩, fun h => by rw [hf] at h; exact absurd h (by decide), fun _ => by omega, fun _ => by omega, ?_⟩
      rw [hf]; unfold imO; rw [shb_eq hcd hf3, hs, if_neg (by decide), if_neg (by decide)]; exact hg
    exact key _ rfl
  · -- form 4
    obtain ⟨hs, hw⟩ := T4 (Or.inl hf)
    rw [hf] at b0 hi ⊢
    have d0 := b0 (by decide)
    rw [hs, if_neg (by decide), if_neg (by decide)] at hi
    rw [hs, if_pos rfl, if_pos (by decide), if_neg (by decide), if_neg (by decide)]
    have key : ∀ x, x = wd k + sprOf 4 im + (r0 * 128 + 0 + 0) → Back k x r0 r1 r2 im := fun x hx => by
      have hm : mskOf 4 (wd k + r0 * 128) = 0 := by rw [msk4]; omega
      have hg := get_back (f := 4) (x := x) (x0 := wd k + r0 * 128) (v := im) (by omega) (by omega) (by omega) hm hi
      rw [spr4] at hx
      have g0 : 0 ≤ im % 1048576 ∧ im % 1048576 < 1048576 := by omega
      generalize im % 1048576 = q0 at *
      have hcd : cd x = cd (wd k) := by rw [cd_is x]; omega
      have hsx : shb x = 0 := shb_no (by rw [hcd, hf]; decide)
      refine ⟨by omega, by omega, (hiff hn).2 ⟨hcd, fun h => by rw [hf] at h; exact absurd h (by decide), fun h => by rw [hf, hs] at h; exact absurd h (by decide), fun h => by rw [hs] at h; exact absurd h (by decide)⟩, fun _ => by omega, fun h => by rw [hf] at h; exact absurd h (by decide), fun h => by rw [hf] at h; exact absurd h (by decide), ?_⟩
      rw [hf]; unfold imO; rw [hsx, if_neg (by decide), if_neg (by decide)]; exact hg
    exact key _ rfl
  · -- form 5
    obtain ⟨hs, hw⟩ := T4 (Or.inr hf)
    rw [hf] at b0 hi ⊢
    have d0 := b0 (by decide)
    rw [hs, if_neg (by decide), if_neg (by decide)] at hi
    rw [hs, if_pos rfl, if_pos (by decide), if_neg (by decide), if_neg (by decide)]
    have key : ∀ x, x = wd k + sprOf 5 im + (r0 * 128 + 0 + 0) → Back k x r0 r1 r2 im := fun x hx => by
      have hm : mskOf 5 (wd k + r0 * 128) = 0 := by rw [msk5]; omega
      have hg := get_back (f := 5) (x := x) (x0 := wd k + r0 * 128) (v := im) (by omega) (by omega) (by omega) hm hi
      rw [spr5] at hx
      have g0 : 0 ≤ im / 1048576 % 2 ∧ im / 1048576 % 2 < 2 := by omega
      generalize im / 1048576 % 2 = q0 at *
      have g1 : 0 ≤ im / 4096 % 256 ∧ im / 4096 % 256 < 256 := by omega
      generalize im / 4096 % 256 = q1 at *
      have g2 : 0 ≤ im / 2048 % 2 ∧ im / 2048 % 2 < 2 := by omega
      generalize im / 2048 % 2 = q2 at *
      have g3 : 0 ≤ im / 2 % 1024 ∧ im / 2 % 1024 < 1024 := by omega
      generalize im / 2 % 1024 = q3 at *
      have hcd : cd x = cd (wd k) := by rw [cd_is x]; omega
      have hsx : shb x = 0 := shb_no (by rw [hcd, hf]; decide)
      refine ⟨by omega, by omega, (hiff hn).2 ⟨hcd, fun h => by rw [hf] at h; exact absurd h (by decide), fun h => by rw [hf, hs] at h; exact absurd h (by decide), fun h => by rw [hs] at h; exact absurd h (by decide)⟩, fun _ => by omega, fun h => by rw [hf] at h; exact absurd h (by decide), fun h => by rw [hf] at h; exact absurd h (by decide), ?_⟩
      rw [hf]; unfold imO; rw [hsx, if_neg (by decide), if_neg (by decide)]; exact hg
    exact key _ rfl

end Go.Proofs.YtejmifokceoofaaDoor
