/- Texts of this claim, joined: InstRefEncs, MadeSlot. -/
import Derived.Test.YtgjfelkbblbjfaaGreatDoorInstRefEnc
import Derived.Test.YtgjfelkbblbjfaaGreatDoorJ32
import Derived.Test.YtgjfelkbblbjfaaGreatDoorJ43
import Derived.Lib.OwnKind
/- The contract of the document's Encode: the same word, or none, as the program's. -/
namespace Go.Proofs.YtgjfelkbblbjfaaGreatDoor
open Go.RowKit
set_option linter.unusedVariables false
set_option maxRecDepth 100000
set_option linter.unusedSimpArgs false

theorem co_bd : ∀ k, k < 66 → (0 ≤ co0 k ∧ co0 k ≤ 127) ∧ (0 ≤ co1 k ∧ co1 k ≤ 7) ∧ (0 ≤ co2 k ∧ co2 k ≤ 63) := by decide +kernel
theorem co_r : ∀ k, k < 63 → (1 ≤ k ∧ fmo (k : Nat) = 0 → wd k = co0 k + 4096 * co1 k + 33554432 * co2 k) := by decide +kernel
theorem co_i : ∀ k, k < 63 → (1 ≤ k ∧ fmo (k : Nat) = 1 ∧ shb (wd k) = 0 → wd k = co0 k + 4096 * co1 k) := by decide +kernel
theorem cow_6 : ∀ k, k < 63 → (1 ≤ k ∧ shb (wd k) = 6 → fmo (k : Nat) = 1 ∧ wd k = co0 k + 4096 * co1 k + 67108864 * co2 k) := by decide +kernel
theorem cow_5 : ∀ k, k < 63 → (1 ≤ k ∧ shb (wd k) = 5 → fmo (k : Nat) = 1 ∧ wd k = co0 k + 4096 * co1 k + 33554432 * co2 k) := by decide +kernel
theorem co_s : ∀ k, k < 63 → (1 ≤ k ∧ (fmo (k : Nat) = 2 ∨ fmo (k : Nat) = 3) → wd k = co0 k + 4096 * co1 k) := by decide +kernel
theorem co_u : ∀ k, k < 63 → (1 ≤ k ∧ (fmo (k : Nat) = 4 ∨ fmo (k : Nat) = 5) → wd k = co0 k) := by decide +kernel
theorem sh6_k : ∀ k, k < 66 → (decide (28 ≤ ((k : Nat) : Int)) && decide (((k : Nat) : Int) ≤ 30)) = decide (shb (wd k) = 6) := by decide +kernel
theorem sh5_k : ∀ k, k < 66 → (decide (42 ≤ ((k : Nat) : Int)) && decide (((k : Nat) : Int) ≤ 44)) = decide (shb (wd k) = 5) := by decide +kernel

theorem low_lies {v : Int} {n : Nat} (h0 : 0 ≤ v) (h1 : v < 2 ^ n) : Lies v (2 ^ n - 1) := by
  have := shift_lies (n := n) (t := 0) h0 h1
  simpa using this

/-- The word ahead of its immediate is a sum. -/
theorem rw3_ttt {c f r0 r1 r2 : Int} (hc : 0 ≤ c ∧ c ≤ 127) (hf : 0 ≤ f ∧ f ≤ 7) (h0 : 0 ≤ r0 ∧ r0 < 32) (h1 : 0 ≤ r1 ∧ r1 < 32) (h2 : 0 ≤ r2 ∧ r2 < 32) :
    rw3 true true true c f r0 r1 r2 = c + f * 4096 + r1 * 32768 + r0 * 128 + r2 * 1048576 ∧ Lies (c + f * 4096 + r1 * 32768 + r0 * 128 + r2 * 1048576) 33554431 := by
  have lc := low_lies (n := 7) hc.1 (by omega)
  have lf := shift_lies (n := 3) (t := 12) hf.1 (by omega)
  have l0 := shift_lies (n := 5) (t := 7) h0.1 h0.2
  have l1 := shift_lies (n := 5) (t := 15) h1.1 h1.2
  have l2 := shift_lies (n := 5) (t := 20) h2.1 h2.2
  simp only [Int.reducePow, Nat.reducePow, Nat.reduceSub, Nat.reduceMul] at lc lf l0 l1 l2
  have e1 := lf.or l1 (by decide) (by decide) (by decide)
  have a1 := lf.add l1 (by decide)
  have e2 := lc.or a1 (by decide) (by decide) (by decide)
  have a2 := lc.add a1 (by decide)
  have e3 := a2.or l0 (by decide) (by decide) (by decide)
  have a3 := a2.add l0 (by decide)
  have e4 := a3.or l2 (by decide) (by decide) (by decide)
  have a4 := a3.add l2 (by decide)
  unfold rw3
  simp only [if_true]
  rw [e1, e2, e3, e4]
  rw [show c + f * 4096 + r1 * 32768 + r0 * 128 + r2 * 1048576 = c + (f * 4096 + r1 * 32768) + r0 * 128 + r2 * 1048576 by omega]
  exact ⟨rfl, a4⟩
theorem rw3_ttf {c f r0 r1 r2 : Int} (hc : 0 ≤ c ∧ c ≤ 127) (hf : 0 ≤ f ∧ f ≤ 7) (h0 : 0 ≤ r0 ∧ r0 < 32) (h1 : 0 ≤ r1 ∧ r1 < 32) :
    rw3 true true false c f r0 r1 r2 = c + f * 4096 + r1 * 32768 + r0 * 128 ∧ Lies (c + f * 4096 + r1 * 32768 + r0 * 128) 1048575 := by
  have lc := low_lies (n := 7) hc.1 (by omega)
  have lf := shift_lies (n := 3) (t := 12) hf.1 (by omega)
  have l0 := shift_lies (n := 5) (t := 7) h0.1 h0.2
  have l1 := shift_lies (n := 5) (t := 15) h1.1 h1.2
  simp only [Int.reducePow, Nat.reducePow, Nat.reduceSub, Nat.reduceMul] at lc lf l0 l1
  have e1 := lf.or l1 (by decide) (by decide) (by decide)
  have a1 := lf.add l1 (by decide)
  have e2 := lc.or a1 (by decide) (by decide) (by decide)
  have a2 := lc.add a1 (by decide)
  have e3 := a2.or l0 (by decide) (by decide) (by decide)
  have a3 := a2.add l0 (by decide)
  unfold rw3
  simp only [if_true, Bool.false_eq_true, if_false]
  rw [e1, e2, e3]
  rw [show c + f * 4096 + r1 * 32768 + r0 * 128 = c + (f * 4096 + r1 * 32768) + r0 * 128 by omega]
  exact ⟨rfl, a3⟩
theorem rw3_ftt {c f r0 r1 r2 : Int} (hc : 0 ≤ c ∧ c ≤ 127) (hf : 0 ≤ f ∧ f ≤ 7) (h1 : 0 ≤ r1 ∧ r1 < 32) (h2 : 0 ≤ r2 ∧ r2 < 32) :
    rw3 false true true c f r0 r1 r2 = c + f * 4096 + r1 * 32768 + r2 * 1048576 := by
  have lc := low_lies (n := 7) hc.1 (by omega)
  have lf := shift_lies (n := 3) (t := 12) hf.1 (by omega)
  have l1 := shift_lies (n := 5) (t := 15) h1.1 h1.2
  have l2 := shift_lies (n := 5) (t := 20) h2.1 h2.2
  simp only [Int.reducePow, Nat.reducePow, Nat.reduceSub, Nat.reduceMul] at lc lf l1 l2
  have e1 := lf.or l1 (by decide) (by decide) (by decide)
  have a1 := lf.add l1 (by decide)
  have e2 := lc.or a1 (by decide) (by decide) (by decide)
  have a2 := lc.add a1 (by decide)
  have e4 := a2.or l2 (by decide) (by decide) (by decide)
  unfold rw3
  simp only [if_true, Bool.false_eq_true, if_false]
  rw [e1, e2, e4]
  omega
theorem rw3_tff {c f r0 r1 r2 : Int} (hc : 0 ≤ c ∧ c ≤ 127) (h0 : 0 ≤ r0 ∧ r0 < 32) : rw3 true false false c f r0 r1 r2 = c + r0 * 128 := by
  have lc := low_lies (n := 7) hc.1 (by omega)
  have l0 := shift_lies (n := 5) (t := 7) h0.1 h0.2
  simp only [Int.reducePow, Nat.reducePow, Nat.reduceSub, Nat.reduceMul] at lc l0
  have e3 := lc.or l0 (by decide) (by decide) (by decide)
  unfold rw3
  simp only [if_true, Bool.false_eq_true, if_false]
  exact e3

/-! ### one contract -/
theorem enc_f {k : Nat} (hk : 1 ≤ k) (hk' : k < 63) {f : Int} (hf : fmo k = f) (hn : f ≠ 6) (r0 r1 r2 im : Int) : encOk k r0 r1 r2 im = (imOk f (wd k) im && rgOk (hasD f) (has1 f) (has2 f) r0 r1 r2) := by
  unfold encOk
  rw [knw_k hk (by omega), hf, show (k : Int).toNat = k from rfl]
  simp [hn]
theorem enc_w0 {op r0 r1 r2 im : Int} (h : encOk op r0 r1 r2 im = false) : encW op r0 r1 r2 im = 0 := by
  unfold encW; rw [h, if_neg (by decide)]
theorem enc_good {k : Nat} (hk : 1 ≤ k) (hk' : k < 63) {f : Int} (hf : fmo k = f) {r0 r1 r2 im : Int} (hi : imOk f (wd k) im = true) (hr : rgOk (hasD f) (has1 f) (has2 f) r0 r1 r2 = true) :
    encOk k r0 r1 r2 im = true ∧ encW k r0 r1 r2 im = wd k + imP f (wd k) im + rgP f r0 r1 r2 := by
  have e := fmo_k hk (show k < 66 by omega)
  rw [hf] at e
  rw [e] at hi hr ⊢
  exact enc_sum hk hk' hi hr

set_option maxRecDepth 100000 in
theorem renc_none (op r0 r1 r2 im : Int) (w : World) (h : op < 1 ∨ 66 ≤ op) : Calls Tryz.prog 7 #[inst op r0 r1 r2 im] w fun e w' => e = .returned (.tuple #[.int .u32 0, .bool false]) ∧ Below w.heap.size w w' := by
  have t3 : (op == 63) = false := by simp; omega
  have t4 : (op == 64) = false := by simp; omega
  have t5 : (op == 65) = false := by simp; omega
  unfold inst
  rcases h with h | h
  · go_enter Tryz.func7, Tryz.ntmps7
    go_wp2
    go_ret2
    exact ⟨rfl, by go_grown⟩
  · have h2 : 1 ≤ op := by omega
    go_enter Tryz.func7, Tryz.ntmps7
    go_wp2
    go_ret2
    exact ⟨rfl, by go_grown⟩
set_option maxRecDepth 100000 in
theorem renc_63 (r0 r1 r2 im : Int) (w : World) : Calls Tryz.prog 7 #[inst 63 r0 r1 r2 im] w fun e w' => e = .returned (.tuple #[.int .u32 15, .bool true]) ∧ Below w.heap.size w w' := by
  unfold inst
  go_enter Tryz.func7, Tryz.ntmps7
  go_wp2
  go_ret2
  exact ⟨rfl, by go_grown⟩
set_option maxRecDepth 100000 in
theorem renc_64 (r0 r1 r2 im : Int) (w : World) : Calls Tryz.prog 7 #[inst 64 r0 r1 r2 im] w fun e w' => e = .returned (.tuple #[.int .u32 115, .bool true]) ∧ Below w.heap.size w w' := by
  unfold inst
  go_enter Tryz.func7, Tryz.ntmps7
  go_wp2
  go_ret2
  exact ⟨rfl, by go_grown⟩
set_option maxRecDepth 100000 in
theorem renc_65 (r0 r1 r2 im : Int) (w : World) : Calls Tryz.prog 7 #[inst 65 r0 r1 r2 im] w fun e w' => e = .returned (.tuple #[.int .u32 1048691, .bool true]) ∧ Below w.heap.size w w' := by
  unfold inst
  go_enter Tryz.func7, Tryz.ntmps7
  go_wp2
  go_ret2
  exact ⟨rfl, by go_grown⟩

theorem renc_f0 {k : Nat} (hk : 1 ≤ k) (hk' : k < 63) (hf : fmo k = 0) (r0 r1 r2 im : Int) (w : World) (v0 : -9223372036854775808 ≤ im) (v1 : im ≤ 9223372036854775807) :
    Calls Tryz.prog 7 #[inst k r0 r1 r2 im] w fun e w' => e = .returned (.tuple #[.int .u32 (encW k r0 r1 r2 im), .bool (encOk k r0 r1 r2 im)]) ∧ Below w.heap.size w w' := by
  have HC := hide (fun w => co_any hk hk' w)
  have HF := hide (fun w => rform_any k w)
  rw [hf] at HF
  obtain ⟨bc, bf, bu⟩ := co_bd k (by omega)
  have bu' : 0 ≤ co2 k ∧ co2 k ≤ 127 := by omega
  have ef := enc_f hk hk' hf (by decide) r0 r1 r2 im
  rw [show hasD 0 = true by decide, show has1 0 = true by decide, show has2 0 = true by decide] at ef
  have S6 := sh6_k k (by omega)
  have S5 := sh5_k k (by omega)
  by_cases g0 : isr r0 = true
  rotate_left
  · have g0' : isr r0 = false := by simpa using g0
    have e : encOk k r0 r1 r2 im = false := by rw [ef]; simp [rgOk, g0']
    rw [enc_w0 e, e]
    exact renc_0_b0 k r0 r1 r2 im _ _ _ w (by omega) (by omega) v0 v1 bc bf bu'  g0' HC HF
  by_cases g1 : isr r1 = true
  rotate_left
  · have g1' : isr r1 = false := by simpa using g1
    have e : encOk k r0 r1 r2 im = false := by rw [ef]; simp [rgOk, g0, g1']
    rw [enc_w0 e, e]
    exact renc_0_b1 k r0 r1 r2 im _ _ _ w (by omega) (by omega) v0 v1 bc bf bu' g0 g1' HC HF
  by_cases g2 : isr r2 = true
  rotate_left
  · have g2' : isr r2 = false := by simpa using g2
    have e : encOk k r0 r1 r2 im = false := by rw [ef]; simp [rgOk, g0, g1, g2']
    rw [enc_w0 e, e]
    exact renc_0_b2 k r0 r1 r2 im _ _ _ w (by omega) (by omega) v0 v1 bc bf bu' g0 g1 g2' HC HF
  have b0 := isr_yes g0
  have b1 := isr_yes g1
  have b2 := isr_yes g2
  have hr : rgOk (hasD 0) (has1 0) (has2 0) r0 r1 r2 = true := by
    rw [show hasD 0 = true by decide, show has1 0 = true by decide, show has2 0 = true by decide]
    simp [rgOk, g0, g1, g2]
  have hp : rgP 0 r0 r1 r2 = r0 * 128 + r1 * 32768 + r2 * 1048576 := by
    unfold rgP
    rw [show hasD 0 = true by decide, show has1 0 = true by decide, show has2 0 = true by decide]
    simp only [if_true, Bool.false_eq_true, if_false]
  have hs : shb (wd k) = 0 := shb_no (by rw [← fmo_k hk (by omega), hf]; decide)
  have hw := co_r k hk' ⟨hk, hf⟩
  by_cases hi : im = 0
  · have ei : imOk 0 (wd k) im = true := by unfold imOk; rw [hs, hi]; rfl
    obtain ⟨e1, e2⟩ := enc_good hk hk' hf ei hr
    rw [e1, e2]
    have := renc_0_ok k r0 r1 r2 im _ _ _ w (by omega) (by omega) v0 v1 bc bf bu' g0 g1 g2 (by simp [hi]) HC HF
    obtain ⟨t1, t2⟩ := rw3_ttt bc bf b0 b1 b2
    have lu := shift_lies (n := 7) (t := 25) bu'.1 (by omega)
    simp only [Int.reducePow, Nat.reducePow, Nat.reduceSub, Nat.reduceMul] at lu
    rw [t1, t2.or lu (by decide) (by decide) (by decide)] at this
    have hm : imP 0 (wd k) im = 0 := by unfold imP; rw [if_pos hs, hi]; decide
    rw [hp, hm]
    rw [show wd k + 0 + (r0 * 128 + r1 * 32768 + r2 * 1048576) = co0 k + co1 k * 4096 + r1 * 32768 + r0 * 128 + r2 * 1048576 + co2 k * 33554432 by omega]
    exact this
  · have ei : imOk 0 (wd k) im = false := by unfold imOk; rw [hs]; simp [fitsOf, hi]
    have e : encOk k r0 r1 r2 im = false := by rw [ef, ei]; rfl
    rw [enc_w0 e, e]
    exact renc_0_ne k r0 r1 r2 im _ _ _ w (by omega) (by omega) v0 v1 bc bf bu' g0 g1 g2 (by simp [hi]) HC HF

theorem renc_f1 {k : Nat} (hk : 1 ≤ k) (hk' : k < 63) (hf : fmo k = 1) (r0 r1 r2 im : Int) (w : World) (v0 : -9223372036854775808 ≤ im) (v1 : im ≤ 9223372036854775807) :
    Calls Tryz.prog 7 #[inst k r0 r1 r2 im] w fun e w' => e = .returned (.tuple #[.int .u32 (encW k r0 r1 r2 im), .bool (encOk k r0 r1 r2 im)]) ∧ Below w.heap.size w w' := by
  have HC := hide (fun w => co_any hk hk' w)
  have HF := hide (fun w => rform_any k w)
  rw [hf] at HF
  obtain ⟨bc, bf, bu⟩ := co_bd k (by omega)
  have bu' : 0 ≤ co2 k ∧ co2 k ≤ 127 := by omega
  have ef := enc_f hk hk' hf (by decide) r0 r1 r2 im
  rw [show hasD 1 = true by decide, show has1 1 = true by decide, show has2 1 = false by decide] at ef
  have S6 := sh6_k k (by omega)
  have S5 := sh5_k k (by omega)
  by_cases g0 : isr r0 = true
  rotate_left
  · have g0' : isr r0 = false := by simpa using g0
    have e : encOk k r0 r1 r2 im = false := by rw [ef]; simp [rgOk, g0']
    rw [enc_w0 e, e]
    exact renc_1_b0 k r0 r1 r2 im _ _ _ w (by omega) (by omega) v0 v1 bc bf bu'  g0' HC HF
  by_cases g1 : isr r1 = true
  rotate_left
  · have g1' : isr r1 = false := by simpa using g1
    have e : encOk k r0 r1 r2 im = false := by rw [ef]; simp [rgOk, g0, g1']
    rw [enc_w0 e, e]
    exact renc_1_b1 k r0 r1 r2 im _ _ _ w (by omega) (by omega) v0 v1 bc bf bu' g0 g1' HC HF
  have b0 := isr_yes g0
  have b1 := isr_yes g1
  have hr : rgOk (hasD 1) (has1 1) (has2 1) r0 r1 r2 = true := by
    rw [show hasD 1 = true by decide, show has1 1 = true by decide, show has2 1 = false by decide]
    simp [rgOk, g0, g1]
  have hp : rgP 1 r0 r1 r2 = r0 * 128 + r1 * 32768 + 0 := by
    unfold rgP
    rw [show hasD 1 = true by decide, show has1 1 = true by decide, show has2 1 = false by decide]
    simp only [if_true, Bool.false_eq_true, if_false]
  rcases shb_cases (wd k) with hs | hs | hs
  · have hw := co_i k hk' ⟨hk, hf, hs⟩
    have hsx : (decide (28 ≤ (k : Int)) && decide ((k : Int) ≤ 30)) = false := by rw [S6, hs]; rfl
    have hsy : (decide (42 ≤ (k : Int)) && decide ((k : Int) ≤ 44)) = false := by rw [S5, hs]; rfl
    have this := renc_1_ok k r0 r1 r2 im _ _ _ w (by omega) (by omega) v0 v1 bc bf bu' g0 g1 hsx hsy HC HF
    have t1 := (rw3_ttf (r2 := r2) bc bf b0 b1).1
    rw [t1] at this
    by_cases hi : fitsOf 1 im = true
    · have ei : imOk 1 (wd k) im = true := by unfold imOk; rw [hs, if_neg (by decide), if_neg (by decide)]; exact hi
      obtain ⟨e1, e2⟩ := enc_good hk hk' hf ei hr
      rw [e1, e2]
      unfold putOf at this
      rw [hi, if_pos rfl] at this
      unfold setOf at this
      have hm : mskOf 1 (co0 k + co1 k * 4096 + r1 * 32768 + r0 * 128) = 0 := by rw [msk1]; omega
      rw [hm] at this
      have hv : imP 1 (wd k) im = sprOf 1 im := by unfold imP; rw [if_pos hs]
      rw [hp, hv]
      have eq : wd k + sprOf 1 im + (r0 * 128 + r1 * 32768 + 0) = co0 k + co1 k * 4096 + r1 * 32768 + r0 * 128 - 0 + sprOf 1 im := by rw [hw]; omega
      rw [eq]
      exact this
    · have hi' : fitsOf 1 im = false := by simpa using hi
      have ei : imOk 1 (wd k) im = false := by unfold imOk; rw [hs, if_neg (by decide), if_neg (by decide)]; exact hi'
      have e : encOk k r0 r1 r2 im = false := by rw [ef, ei]; rfl
      rw [enc_w0 e, e]
      unfold putOf at this
      rw [hi', if_neg (by decide)] at this
      exact this
  · have hw := (cow_5 k hk' ⟨hk, hs⟩).2
    by_cases hi : 0 ≤ im ∧ im < 32
    · have ei : imOk 1 (wd k) im = true := by unfold imOk; rw [hs]; simp; omega
      obtain ⟨e1, e2⟩ := enc_good hk hk' hf ei hr
      rw [e1, e2]
      have this := renc_1_5ok k r0 r1 r2 im _ _ _ w (by omega) (by omega) v0 v1 bc bf bu' g0 g1 (by omega) (by omega) (by rw [S6, hs]; rfl) (by rw [S5, hs]; rfl) HC HF
      obtain ⟨t1, t2⟩ := rw3_ttf (r2 := r2) bc bf b0 b1
      have li := shift_lies (n := 5) (t := 20) hi.1 hi.2
      have lu := shift_lies (n := 7) (t := 25) bu.1 (by omega)
      simp only [Int.reducePow, Nat.reducePow, Nat.reduceSub, Nat.reduceMul] at li lu
      rw [t1, t2.or li (by decide) (by decide) (by decide), (t2.add li (by decide)).or lu (by decide) (by decide) (by decide)] at this
      have hv : imP 1 (wd k) im = im * 1048576 := by unfold imP; rw [if_neg (by rw [hs]; decide)]
      rw [hp, hv]
      rw [show wd k + im * 1048576 + (r0 * 128 + r1 * 32768 + 0) = co0 k + co1 k * 4096 + r1 * 32768 + r0 * 128 + im * 1048576 + co2 k * 33554432 by omega]
      exact this
    · have ei : imOk 1 (wd k) im = false := by
        unfold imOk; rw [hs]
        rw [Bool.eq_false_iff]
        intro h
        simp at h
        exact hi h
      have e : encOk k r0 r1 r2 im = false := by rw [ef, ei]; rfl
      rw [enc_w0 e, e]
      by_cases hn : im < 0
      · exact renc_1_5lo k r0 r1 r2 im _ _ _ w (by omega) (by omega) v0 v1 bc bf bu' g0 g1 hn (by rw [S6, hs]; rfl) (by rw [S5, hs]; rfl) HC HF
      · exact renc_1_5hi k r0 r1 r2 im _ _ _ w (by omega) (by omega) v0 v1 bc bf bu' g0 g1 (by omega) (by omega) (by rw [S6, hs]; rfl) (by rw [S5, hs]; rfl) HC HF
  · have hw := (cow_6 k hk' ⟨hk, hs⟩).2
    by_cases hi : 0 ≤ im ∧ im < 64
    · have ei : imOk 1 (wd k) im = true := by unfold imOk; rw [hs]; simp; omega
      obtain ⟨e1, e2⟩ := enc_good hk hk' hf ei hr
      rw [e1, e2]
      have this := renc_1_6ok k r0 r1 r2 im _ _ _ w (by omega) (by omega) v0 v1 bc bf bu g0 g1 (by omega) (by omega) (by rw [S6, hs]; rfl) HC HF
      obtain ⟨t1, t2⟩ := rw3_ttf (r2 := r2) bc bf b0 b1
      have li := shift_lies (n := 6) (t := 20) hi.1 hi.2
      have lu := shift_lies (n := 6) (t := 26) bu.1 (by omega)
      simp only [Int.reducePow, Nat.reducePow, Nat.reduceSub, Nat.reduceMul] at li lu
      rw [t1, t2.or li (by decide) (by decide) (by decide), (t2.add li (by decide)).or lu (by decide) (by decide) (by decide)] at this
      have hv : imP 1 (wd k) im = im * 1048576 := by unfold imP; rw [if_neg (by rw [hs]; decide)]
      rw [hp, hv]
      rw [show wd k + im * 1048576 + (r0 * 128 + r1 * 32768 + 0) = co0 k + co1 k * 4096 + r1 * 32768 + r0 * 128 + im * 1048576 + co2 k * 67108864 by omega]
      exact this
    · have ei : imOk 1 (wd k) im = false := by
        unfold imOk; rw [hs]
        rw [Bool.eq_false_iff]
        intro h
        simp at h
        exact hi h
      have e : encOk k r0 r1 r2 im = false := by rw [ef, ei]; rfl
      rw [enc_w0 e, e]
      by_cases hn : im < 0
      · exact renc_1_6lo k r0 r1 r2 im _ _ _ w (by omega) (by omega) v0 v1 bc bf bu g0 g1 hn (by rw [S6, hs]; rfl) HC HF
      · exact renc_1_6hi k r0 r1 r2 im _ _ _ w (by omega) (by omega) v0 v1 bc bf bu g0 g1 (by omega) (by omega) (by rw [S6, hs]; rfl) HC HF

theorem renc_f2 {k : Nat} (hk : 1 ≤ k) (hk' : k < 63) (hf : fmo k = 2) (r0 r1 r2 im : Int) (w : World) (v0 : -9223372036854775808 ≤ im) (v1 : im ≤ 9223372036854775807) :
    Calls Tryz.prog 7 #[inst k r0 r1 r2 im] w fun e w' => e = .returned (.tuple #[.int .u32 (encW k r0 r1 r2 im), .bool (encOk k r0 r1 r2 im)]) ∧ Below w.heap.size w w' := by
  have HC := hide (fun w => co_any hk hk' w)
  have HF := hide (fun w => rform_any k w)
  rw [hf] at HF
  obtain ⟨bc, bf, bu⟩ := co_bd k (by omega)
  have bu' : 0 ≤ co2 k ∧ co2 k ≤ 127 := by omega
  have ef := enc_f hk hk' hf (by decide) r0 r1 r2 im
  rw [show hasD 2 = false by decide, show has1 2 = true by decide, show has2 2 = true by decide] at ef
  have S6 := sh6_k k (by omega)
  have S5 := sh5_k k (by omega)
  by_cases g1 : isr r1 = true
  rotate_left
  · have g1' : isr r1 = false := by simpa using g1
    have e : encOk k r0 r1 r2 im = false := by rw [ef]; simp [rgOk, g1']
    rw [enc_w0 e, e]
    exact renc_2_b1 k r0 r1 r2 im _ _ _ w (by omega) (by omega) v0 v1 bc bf bu'  g1' HC HF
  by_cases g2 : isr r2 = true
  rotate_left
  · have g2' : isr r2 = false := by simpa using g2
    have e : encOk k r0 r1 r2 im = false := by rw [ef]; simp [rgOk, g1, g2']
    rw [enc_w0 e, e]
    exact renc_2_b2 k r0 r1 r2 im _ _ _ w (by omega) (by omega) v0 v1 bc bf bu' g1 g2' HC HF
  have b1 := isr_yes g1
  have b2 := isr_yes g2
  have hr : rgOk (hasD 2) (has1 2) (has2 2) r0 r1 r2 = true := by
    rw [show hasD 2 = false by decide, show has1 2 = true by decide, show has2 2 = true by decide]
    simp [rgOk, g1, g2]
  have hp : rgP 2 r0 r1 r2 = 0 + r1 * 32768 + r2 * 1048576 := by
    unfold rgP
    rw [show hasD 2 = false by decide, show has1 2 = true by decide, show has2 2 = true by decide]
    simp only [if_true, Bool.false_eq_true, if_false]
  have hs : shb (wd k) = 0 := shb_no (by rw [← fmo_k hk (by omega), hf]; decide)
  have hw := co_s k hk' ⟨hk, Or.inl hf⟩
  have hsx : (decide (28 ≤ (k : Int)) && decide ((k : Int) ≤ 30)) = false := by rw [S6, hs]; rfl
  have hsy : (decide (42 ≤ (k : Int)) && decide ((k : Int) ≤ 44)) = false := by rw [S5, hs]; rfl
  have this := renc_2_ok k r0 r1 r2 im _ _ _ w (by omega) (by omega) v0 v1 bc bf bu' g1 g2 hsx hsy HC HF
  have t1 := rw3_ftt (r0 := r0) bc bf b1 b2
  rw [t1] at this
  by_cases hi : fitsOf 2 im = true
  · have ei : imOk 2 (wd k) im = true := by unfold imOk; rw [hs, if_neg (by decide), if_neg (by decide)]; exact hi
    obtain ⟨e1, e2⟩ := enc_good hk hk' hf ei hr
    rw [e1, e2]
    unfold putOf at this
    rw [hi, if_pos rfl] at this
    unfold setOf at this
    have hm : mskOf 2 (co0 k + co1 k * 4096 + r1 * 32768 + r2 * 1048576) = 0 := by rw [msk2]; omega
    rw [hm] at this
    have hv : imP 2 (wd k) im = sprOf 2 im := by unfold imP; rw [if_pos hs]
    rw [hp, hv]
    have eq : wd k + sprOf 2 im + (0 + r1 * 32768 + r2 * 1048576) = co0 k + co1 k * 4096 + r1 * 32768 + r2 * 1048576 - 0 + sprOf 2 im := by rw [hw]; omega
    rw [eq]
    exact this
  · have hi' : fitsOf 2 im = false := by simpa using hi
    have ei : imOk 2 (wd k) im = false := by unfold imOk; rw [hs, if_neg (by decide), if_neg (by decide)]; exact hi'
    have e : encOk k r0 r1 r2 im = false := by rw [ef, ei]; rfl
    rw [enc_w0 e, e]
    unfold putOf at this
    rw [hi', if_neg (by decide)] at this
    exact this

theorem renc_f3 {k : Nat} (hk : 1 ≤ k) (hk' : k < 63) (hf : fmo k = 3) (r0 r1 r2 im : Int) (w : World) (v0 : -9223372036854775808 ≤ im) (v1 : im ≤ 9223372036854775807) :
    Calls Tryz.prog 7 #[inst k r0 r1 r2 im] w fun e w' => e = .returned (.tuple #[.int .u32 (encW k r0 r1 r2 im), .bool (encOk k r0 r1 r2 im)]) ∧ Below w.heap.size w w' := by
  have HC := hide (fun w => co_any hk hk' w)
  have HF := hide (fun w => rform_any k w)
  rw [hf] at HF
  obtain ⟨bc, bf, bu⟩ := co_bd k (by omega)
  have bu' : 0 ≤ co2 k ∧ co2 k ≤ 127 := by omega
  have ef := enc_f hk hk' hf (by decide) r0 r1 r2 im
  rw [show hasD 3 = false by decide, show has1 3 = true by decide, show has2 3 = true by decide] at ef
  have S6 := sh6_k k (by omega)
  have S5 := sh5_k k (by omega)
  by_cases g1 : isr r1 = true
  rotate_left
  · have g1' : isr r1 = false := by simpa using g1
    have e : encOk k r0 r1 r2 im = false := by rw [ef]; simp [rgOk, g1']
    rw [enc_w0 e, e]
    exact renc_3_b1 k r0 r1 r2 im _ _ _ w (by omega) (by omega) v0 v1 bc bf bu'  g1' HC HF
  by_cases g2 : isr r2 = true
  rotate_left
  · have g2' : isr r2 = false := by simpa using g2
    have e : encOk k r0 r1 r2 im = false := by rw [ef]; simp [rgOk, g1, g2']
    rw [enc_w0 e, e]
    exact renc_3_b2 k r0 r1 r2 im _ _ _ w (by omega) (by omega) v0 v1 bc bf bu' g1 g2' HC HF
  have b1 := isr_yes g1
  have b2 := isr_yes g2
  have hr : rgOk (hasD 3) (has1 3) (has2 3) r0 r1 r2 = true := by
    rw [show hasD 3 = false by decide, show has1 3 = true by decide, show has2 3 = true by decide]
    simp [rgOk, g1, g2]
  have hp : rgP 3 r0 r1 r2 = 0 + r1 * 32768 + r2 * 1048576 := by
    unfold rgP
    rw [show hasD 3 = false by decide, show has1 3 = true by decide, show has2 3 = true by decide]
    simp only [if_true, Bool.false_eq_true, if_false]
  have hs : shb (wd k) = 0 := shb_no (by rw [← fmo_k hk (by omega), hf]; decide)
  have hw := co_s k hk' ⟨hk, Or.inr hf⟩
  have hsx : (decide (28 ≤ (k : Int)) && decide ((k : Int) ≤ 30)) = false := by rw [S6, hs]; rfl
  have hsy : (decide (42 ≤ (k : Int)) && decide ((k : Int) ≤ 44)) = false := by rw [S5, hs]; rfl
  have this := renc_3_ok k r0 r1 r2 im _ _ _ w (by omega) (by omega) v0 v1 bc bf bu' g1 g2 hsx hsy HC HF
  have t1 := rw3_ftt (r0 := r0) bc bf b1 b2
  rw [t1] at this
  by_cases hi : fitsOf 3 im = true
  · have ei : imOk 3 (wd k) im = true := by unfold imOk; rw [hs, if_neg (by decide), if_neg (by decide)]; exact hi
    obtain ⟨e1, e2⟩ := enc_good hk hk' hf ei hr
    rw [e1, e2]
    unfold putOf at this
    rw [hi, if_pos rfl] at this
    unfold setOf at this
    have hm : mskOf 3 (co0 k + co1 k * 4096 + r1 * 32768 + r2 * 1048576) = 0 := by rw [msk3]; omega
    rw [hm] at this
    have hv : imP 3 (wd k) im = sprOf 3 im := by unfold imP; rw [if_pos hs]
    rw [hp, hv]
    have eq : wd k + sprOf 3 im + (0 + r1 * 32768 + r2 * 1048576) = co0 k + co1 k * 4096 + r1 * 32768 + r2 * 1048576 - 0 + sprOf 3 im := by rw [hw]; omega
    rw [eq]
    exact this
  · have hi' : fitsOf 3 im = false := by simpa using hi
    have ei : imOk 3 (wd k) im = false := by unfold imOk; rw [hs, if_neg (by decide), if_neg (by decide)]; exact hi'
    have e : encOk k r0 r1 r2 im = false := by rw [ef, ei]; rfl
    rw [enc_w0 e, e]
    unfold putOf at this
    rw [hi', if_neg (by decide)] at this
    exact this

theorem renc_f4 {k : Nat} (hk : 1 ≤ k) (hk' : k < 63) (hf : fmo k = 4) (r0 r1 r2 im : Int) (w : World) (v0 : -9223372036854775808 ≤ im) (v1 : im ≤ 9223372036854775807) :
    Calls Tryz.prog 7 #[inst k r0 r1 r2 im] w fun e w' => e = .returned (.tuple #[.int .u32 (encW k r0 r1 r2 im), .bool (encOk k r0 r1 r2 im)]) ∧ Below w.heap.size w w' := by
  have HC := hide (fun w => co_any hk hk' w)
  have HF := hide (fun w => rform_any k w)
  rw [hf] at HF
  obtain ⟨bc, bf, bu⟩ := co_bd k (by omega)
  have bu' : 0 ≤ co2 k ∧ co2 k ≤ 127 := by omega
  have ef := enc_f hk hk' hf (by decide) r0 r1 r2 im
  rw [show hasD 4 = true by decide, show has1 4 = false by decide, show has2 4 = false by decide] at ef
  have S6 := sh6_k k (by omega)
  have S5 := sh5_k k (by omega)
  by_cases g0 : isr r0 = true
  rotate_left
  · have g0' : isr r0 = false := by simpa using g0
    have e : encOk k r0 r1 r2 im = false := by rw [ef]; simp [rgOk, g0']
    rw [enc_w0 e, e]
    exact renc_4_b0 k r0 r1 r2 im _ _ _ w (by omega) (by omega) v0 v1 bc bf bu'  g0' HC HF
  have b0 := isr_yes g0
  have hr : rgOk (hasD 4) (has1 4) (has2 4) r0 r1 r2 = true := by
    rw [show hasD 4 = true by decide, show has1 4 = false by decide, show has2 4 = false by decide]
    simp [rgOk, g0]
  have hp : rgP 4 r0 r1 r2 = r0 * 128 + 0 + 0 := by
    unfold rgP
    rw [show hasD 4 = true by decide, show has1 4 = false by decide, show has2 4 = false by decide]
    simp only [if_true, Bool.false_eq_true, if_false]
  have hs : shb (wd k) = 0 := shb_no (by rw [← fmo_k hk (by omega), hf]; decide)
  have hw := co_u k hk' ⟨hk, Or.inl hf⟩
  have hsx : (decide (28 ≤ (k : Int)) && decide ((k : Int) ≤ 30)) = false := by rw [S6, hs]; rfl
  have hsy : (decide (42 ≤ (k : Int)) && decide ((k : Int) ≤ 44)) = false := by rw [S5, hs]; rfl
  have this := renc_4_ok k r0 r1 r2 im _ _ _ w (by omega) (by omega) v0 v1 bc bf bu' g0 hsx hsy HC HF
  have t1 := rw3_tff (f := co1 k) (r1 := r1) (r2 := r2) bc b0
  rw [t1] at this
  by_cases hi : fitsOf 4 im = true
  · have ei : imOk 4 (wd k) im = true := by unfold imOk; rw [hs, if_neg (by decide), if_neg (by decide)]; exact hi
    obtain ⟨e1, e2⟩ := enc_good hk hk' hf ei hr
    rw [e1, e2]
    unfold putOf at this
    rw [hi, if_pos rfl] at this
    unfold setOf at this
    have hm : mskOf 4 (co0 k + r0 * 128) = 0 := by rw [msk4]; omega
    rw [hm] at this
    have hv : imP 4 (wd k) im = sprOf 4 im := by unfold imP; rw [if_pos hs]
    rw [hp, hv]
    have eq : wd k + sprOf 4 im + (r0 * 128 + 0 + 0) = co0 k + r0 * 128 - 0 + sprOf 4 im := by rw [hw]; omega
    rw [eq]
    exact this
  · have hi' : fitsOf 4 im = false := by simpa using hi
    have ei : imOk 4 (wd k) im = false := by unfold imOk; rw [hs, if_neg (by decide), if_neg (by decide)]; exact hi'
    have e : encOk k r0 r1 r2 im = false := by rw [ef, ei]; rfl
    rw [enc_w0 e, e]
    unfold putOf at this
    rw [hi', if_neg (by decide)] at this
    exact this

theorem renc_f5 {k : Nat} (hk : 1 ≤ k) (hk' : k < 63) (hf : fmo k = 5) (r0 r1 r2 im : Int) (w : World) (v0 : -9223372036854775808 ≤ im) (v1 : im ≤ 9223372036854775807) :
    Calls Tryz.prog 7 #[inst k r0 r1 r2 im] w fun e w' => e = .returned (.tuple #[.int .u32 (encW k r0 r1 r2 im), .bool (encOk k r0 r1 r2 im)]) ∧ Below w.heap.size w w' := by
  have HC := hide (fun w => co_any hk hk' w)
  have HF := hide (fun w => rform_any k w)
  rw [hf] at HF
  obtain ⟨bc, bf, bu⟩ := co_bd k (by omega)
  have bu' : 0 ≤ co2 k ∧ co2 k ≤ 127 := by omega
  have ef := enc_f hk hk' hf (by decide) r0 r1 r2 im
  rw [show hasD 5 = true by decide, show has1 5 = false by decide, show has2 5 = false by decide] at ef
  have S6 := sh6_k k (by omega)
  have S5 := sh5_k k (by omega)
  by_cases g0 : isr r0 = true
  rotate_left
  · have g0' : isr r0 = false := by simpa using g0
    have e : encOk k r0 r1 r2 im = false := by rw [ef]; simp [rgOk, g0']
    rw [enc_w0 e, e]
    exact renc_5_b0 k r0 r1 r2 im _ _ _ w (by omega) (by omega) v0 v1 bc bf bu'  g0' HC HF
  have b0 := isr_yes g0
  have hr : rgOk (hasD 5) (has1 5) (has2 5) r0 r1 r2 = true := by
    rw [show hasD 5 = true by decide, show has1 5 = false by decide, show has2 5 = false by decide]
    simp [rgOk, g0]
  have hp : rgP 5 r0 r1 r2 = r0 * 128 + 0 + 0 := by
    unfold rgP
    rw [show hasD 5 = true by decide, show has1 5 = false by decide, show has2 5 = false by decide]
    simp only [if_true, Bool.false_eq_true, if_false]
  have hs : shb (wd k) = 0 := shb_no (by rw [← fmo_k hk (by omega), hf]; decide)
  have hw := co_u k hk' ⟨hk, Or.inr hf⟩
  have hsx : (decide (28 ≤ (k : Int)) && decide ((k : Int) ≤ 30)) = false := by rw [S6, hs]; rfl
  have hsy : (decide (42 ≤ (k : Int)) && decide ((k : Int) ≤ 44)) = false := by rw [S5, hs]; rfl
  have this := renc_5_ok k r0 r1 r2 im _ _ _ w (by omega) (by omega) v0 v1 bc bf bu' g0 hsx hsy HC HF
  have t1 := rw3_tff (f := co1 k) (r1 := r1) (r2 := r2) bc b0
  rw [t1] at this
  by_cases hi : fitsOf 5 im = true
  · have ei : imOk 5 (wd k) im = true := by unfold imOk; rw [hs, if_neg (by decide), if_neg (by decide)]; exact hi
    obtain ⟨e1, e2⟩ := enc_good hk hk' hf ei hr
    rw [e1, e2]
    unfold putOf at this
    rw [hi, if_pos rfl] at this
    unfold setOf at this
    have hm : mskOf 5 (co0 k + r0 * 128) = 0 := by rw [msk5]; omega
    rw [hm] at this
    have hv : imP 5 (wd k) im = sprOf 5 im := by unfold imP; rw [if_pos hs]
    rw [hp, hv]
    have eq : wd k + sprOf 5 im + (r0 * 128 + 0 + 0) = co0 k + r0 * 128 - 0 + sprOf 5 im := by rw [hw]; omega
    rw [eq]
    exact this
  · have hi' : fitsOf 5 im = false := by simpa using hi
    have ei : imOk 5 (wd k) im = false := by unfold imOk; rw [hs, if_neg (by decide), if_neg (by decide)]; exact hi'
    have e : encOk k r0 r1 r2 im = false := by rw [ef, ei]; rfl
    rw [enc_w0 e, e]
    unfold putOf at this
    rw [hi', if_neg (by decide)] at this
    exact this

theorem renc_any (op r0 r1 r2 im : Int) (w : World) (v0 : -9223372036854775808 ≤ im) (v1 : im ≤ 9223372036854775807) :
    Calls Tryz.prog 7 #[inst op r0 r1 r2 im] w fun e w' => e = .returned (.tuple #[.int .u32 (encW op r0 r1 r2 im), .bool (encOk op r0 r1 r2 im)]) ∧ Below w.heap.size w w' := by
  by_cases hk : 1 ≤ op ∧ op < 66
  · obtain ⟨k, rfl⟩ := Int.eq_ofNat_of_zero_le (show 0 ≤ op by omega)
    by_cases h63 : k < 63
    · have hb := fmc_bd (cd (wd k))
      have hf := fmo_k (show 1 ≤ k by omega) (show k < 66 by omega)
      have hn : fmo k ≠ 6 := fun h => by have := (tab_n k (by omega) (by omega)).1 (by rw [← hf]; exact h); omega
      rw [← hf] at hb
      rcases (show fmo k = 0 ∨ fmo k = 1 ∨ fmo k = 2 ∨ fmo k = 3 ∨ fmo k = 4 ∨ fmo k = 5 by omega) with h | h | h | h | h | h
      · exact renc_f0 (by omega) h63 h r0 r1 r2 im w v0 v1
      · exact renc_f1 (by omega) h63 h r0 r1 r2 im w v0 v1
      · exact renc_f2 (by omega) h63 h r0 r1 r2 im w v0 v1
      · exact renc_f3 (by omega) h63 h r0 r1 r2 im w v0 v1
      · exact renc_f4 (by omega) h63 h r0 r1 r2 im w v0 v1
      · exact renc_f5 (by omega) h63 h r0 r1 r2 im w v0 v1
    · have e : ∀ k, k < 66 → (63 ≤ k → fmo ((k : Nat) : Int) = 6 ∧ knw ((k : Nat) : Int) = true) := by decide +kernel
      obtain ⟨e6, ek⟩ := e k (by omega) (by omega)
      have eo : encOk k r0 r1 r2 im = true := by unfold encOk; rw [ek, e6]; rfl
      have ew : encW k r0 r1 r2 im = wd k := by unfold encW; rw [eo, if_pos rfl, if_pos e6]; rfl
      rw [eo, ew]
      rcases (show k = 63 ∨ k = 64 ∨ k = 65 by omega) with rfl | rfl | rfl
      · exact renc_63 r0 r1 r2 im w
      · exact renc_64 r0 r1 r2 im w
      · exact renc_65 r0 r1 r2 im w
  · have hk' : knw op = false := by
      unfold knw
      rw [Bool.eq_false_iff]
      intro h
      simp at h
      omega
    have e : encOk op r0 r1 r2 im = false := by unfold encOk; rw [hk']; rfl
    rw [enc_w0 e, e]
    exact renc_none op r0 r1 r2 im w (by omega)

end Go.Proofs.YtgjfelkbblbjfaaGreatDoor

/- MachMade's instructions on the way to words: the variable that holds one, the words so far. -/
namespace Go.Proofs.YtgjfelkbblbjfaaGreatDoor
open Go.RowKit Go.Maps
set_option linter.unusedVariables false
set_option maxRecDepth 100000
set_option maxRecDepth 20000

/-- The words so far. -/
structure WS (w wr : World) (v9 : Value) (ns : List Int) : Prop where
  row : wr.ownsRow w.heap.size 31 1 v9 ns.length (ns.map (Value.int .u32))
  fit : ∀ x ∈ ns, 0 ≤ x ∧ x ≤ 4294967295
  bel : Below w.heap.size w wr

def i5 (o d a b im : Int) : List Value := [.int .i64 o, .int .i64 d, .int .i64 a, .int .i64 b, .int .i64 im]

/-- The words so far, and the variable. -/
structure LS (w wr : World) (v9 : Value) (ns : List Int) (X : Nat) (o d a b im : Int) : Prop where
  ws : WS w wr v9 ns
  blk : wr.heap[X]? = some (.cells (i5 o d a b im).toArray 28 (0, 0))
  hX : w.heap.size ≤ X

section
variable {w wr W : World} {v9 : Value} {ns : List Int} {X : Nat} {o d a b im : Int}

theorem WS.below (h : WS w wr v9 ns) (hb : Below wr.heap.size wr W) : WS w W v9 ns := by
  have gg : wr.grownBy W none := ⟨hb.os, hb.tape, hb.output, hb.size, fun i hi _ => hb.block i hi⟩
  exact ⟨h.row.kept gg (by cases v9.ownBlock <;> simp), h.fit, h.bel.trans (hb.mono h.bel.size)⟩
theorem LS.below (h : LS w wr v9 ns X o d a b im) (hb : Below wr.heap.size wr W) : LS w W v9 ns X o d a b im := by
  have hlt : X < wr.heap.size := by
    rcases Nat.lt_or_ge X wr.heap.size with h1 | h1
    · exact h1
    · have := h.blk; rw [Array.getElem?_eq_none h1] at this; cases this
  exact ⟨h.ws.below hb, (hb.block X hlt).trans h.blk, h.hX⟩
theorem WS.var (h : WS w wr v9 ns) (o d a b im : Int) : LS w (wr.alloc (.cells (i5 o d a b im).toArray 28)) v9 ns wr.heap.size o d a b im :=
  ⟨h.below (below_alloc _ _), heap_alloc_new wr _, h.bel.size⟩
theorem LS.cells (h : LS w wr v9 ns X o d a b im) : wr.cell? ⟨X, 0, none⟩ = some (.int .i64 o) ∧ wr.cell? ⟨X, 1, none⟩ = some (.int .i64 d) ∧ wr.cell? ⟨X, 2, none⟩ = some (.int .i64 a) ∧ wr.cell? ⟨X, 3, none⟩ = some (.int .i64 b) ∧ wr.cell? ⟨X, 4, none⟩ = some (.int .i64 im) := by
  have hc := blk_cell h.blk
  exact ⟨hc 0, hc 1, hc 2, hc 3, hc 4⟩
theorem LS.frozen (h : LS w wr v9 ns X o d a b im) (i : Nat) : wr.frozen? ⟨X, i, none⟩ = false := blk_frozen h.blk i
theorem LS.set (h : LS w wr v9 ns X o d a b im) (i : Nat) (z : Int) {o' d' a' b' im' : Int} (he : (i5 o d a b im).set i (.int .i64 z) = i5 o' d' a' b' im') : LS w (wr.setCell ⟨X, i, none⟩ (.int .i64 z)) v9 ns X o' d' a' b' im' := by
  have gg : wr.grownBy (wr.setCell ⟨X, i, none⟩ (.int .i64 z)) (some X) := by
    have hk : Kept (fun k => k = X) wr (wr.setCell ⟨X, i, none⟩ (.int .i64 z)) := (Kept.refl _ _).setCell _ _ (Or.inl rfl)
    exact ⟨hk.os, hk.tape, hk.output, hk.size, fun k hk1 hne => hk.block k hk1 (fun e => hne (by rw [e]))⟩
  refine ⟨⟨h.ws.row.kept gg ?_, h.ws.fit, h.ws.bel.setCell h.hX _⟩, ?_, h.hX⟩
  · right
    intro e
    obtain ⟨c1, f1, q1⟩ := Lib.ownsRow_kind h.ws.row X e
    rw [h.blk] at q1
    simp at q1
  · rw [← he]
    exact setCell_list h.blk i _

end

theorem WS.push {w wr W : World} {v9 v' : Value} {ns : List Int} {z : Int} {n : Nat} (h : WS w wr v9 ns) (hz : 0 ≤ z ∧ z ≤ 4294967295) (ho : W.ownsRow w.heap.size 31 1 v' n (ns.map (Value.int .u32) ++ [.int .u32 z])) (g : wr.grownBy W v9.ownBlock) : WS w W v' (ns ++ [z]) := by
  have e : n = (ns ++ [z]).length := by have := ho.1; simpa using this.symm
  subst e
  refine ⟨by simpa using ho, fun x hx => ?_, h.bel.grown g h.bel.size (fun j hj => (h.row.lt j hj).1)⟩
  rcases List.mem_append.1 hx with hx | hx
  · exact h.fit x hx
  · simp at hx; subst hx; exact hz

theorem fm_cases (z : Int) (h : 0 ≤ z ∧ z < 66) : (z < 28 ∧ fmo z = 3) ∨ (z < 28 ∧ fmo z = 5) ∨ (z < 28 ∧ fmo z ≠ 0 ∧ fmo z ≠ 3 ∧ fmo z ≠ 5) ∨ (28 ≤ z ∧ z ≤ 30 ∧ fmo z = 1) ∨ (31 ≤ z ∧ z ≤ 41 ∧ fmo z = 0) ∨ (z = 41 ∧ fmo z = 1) ∨ (42 ≤ z ∧ z ≤ 44 ∧ fmo z = 1) ∨ (45 ≤ z ∧ fmo z = 0) ∨ (45 ≤ z ∧ fmo z = 6) := by
  rw [← rfm_is z]
  unfold rfm
  repeat' split
  all_goals omega

theorem encW_bd (op r0 r1 r2 im : Int) : 0 ≤ encW op r0 r1 r2 im ∧ encW op r0 r1 r2 im ≤ 4294967295 := by
  unfold encW
  split
  · split
    · exact wd_bd _
    · have h0 := imPut_bd (fmo op) (wd op.toNat) im (wd_bd _).1 (wd_bd _).2
      unfold rgPut
      repeat' split
      all_goals first | exact bits_bd .. | exact h0
  · decide

theorem Int.tdiv_mul_le_abs (m : Int) (h : -64 < m ∧ m < 64) : -64 < m.tdiv 4 * 4 ∧ m.tdiv 4 * 4 < 64 := by
  rcases Int.le_total 0 m with h0 | h0
  · rw [Int.tdiv_eq_ediv_of_nonneg h0]; omega
  · have e := Int.neg_tdiv m 4
    have e2 : (-m).tdiv 4 = (-m) / 4 := Int.tdiv_eq_ediv_of_nonneg (by omega)
    omega

/-- Instructions that are read. -/
structure Ins where
  o : Int
  d : Int
  a : Int
  b : Int
  m : Int
def Ins.cells (x : Ins) : List Value := i5 x.o x.d x.a x.b x.m
structure Ins.Ok (x : Ins) : Prop where
  o : InI x.o
  d : InI x.d
  a : InI x.a
  b : InI x.b
  m : InI x.m
structure Ri (w : World) (a : Option Addr) (len cap : Nat) (xs : List Ins) : Prop where
  length : xs.length = len
  le : len ≤ cap
  max : cap ≤ 9223372036854775807
  ok : ∀ x ∈ xs, x.Ok
  cell : ∀ i x, xs[i]? = some x → ∃ b o, a = some ⟨b, o, none⟩ ∧ ∀ j, j < 5 → w.cell? ⟨b, o + i * 5 + j, none⟩ = x.cells[j]?
theorem Ri.below {w w' : World} {a : Option Addr} {len cap : Nat} {xs : List Ins} (r : Ri w a len cap xs) (hb : Below w.heap.size w w') : Ri w' a len cap xs :=
  ⟨r.length, r.le, r.max, r.ok, fun i x hx => by
    obtain ⟨b, o, h1, h2⟩ := r.cell i x hx
    refine ⟨b, o, h1, fun j hj => ?_⟩
    have h3 := h2 j hj
    have h4 : ∃ u, x.cells[j]? = some u := ⟨_, List.getElem?_eq_getElem (by simp [Ins.cells, i5]; omega)⟩
    obtain ⟨u, hu⟩ := h4
    rw [hu] at h3 ⊢
    rw [hb.cell (World.block_lt_of_cell? w _ h3)]
    exact h3⟩

end Go.Proofs.YtgjfelkbblbjfaaGreatDoor
