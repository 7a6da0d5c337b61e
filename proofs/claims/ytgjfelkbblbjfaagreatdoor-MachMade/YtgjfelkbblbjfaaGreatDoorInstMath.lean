/- Words and instructions in numbers: what a word's operation is by its fields; words as sums of their fields. Nothing is walked here. -/
import Derived.Test.YtgjfelkbblbjfaaGreatDoorJ23
namespace Go.Proofs.YtgjfelkbblbjfaaGreatDoor
open Go.RowKit
set_option linter.unusedVariables false
set_option maxRecDepth 100000

theorem codes {c : Int} (h : fmc c ≠ 6) : c = 51 ∨ c = 59 ∨ c = 103 ∨ c = 3 ∨ c = 19 ∨ c = 27 ∨ c = 35 ∨ c = 99 ∨ c = 55 ∨ c = 23 ∨ c = 111 := by
  unfold fmc at h
  split at h
  · omega
  · split at h
    · omega
    · split at h
      · omega
      · split at h
        · omega
        · split at h
          · omega
          · split at h
            · omega
            · exact absurd rfl h

/-- The fields of a word that its operation hangs on. -/
theorem key_iff {y x : Int} (hc : fmc (cd y) ≠ 6) :
    (cd y = cd x ∧ ke2 y = ke2 x ∧ ke3 y = ke3 x) ↔
      cd x = cd y ∧ ((fmc (cd y) ≤ 3) → f3 x = f3 y) ∧ ((fmc (cd y) = 0 ∨ shb y = 5) → x / 33554432 = y / 33554432) ∧ (shb y = 6 → x / 67108864 = y / 67108864) := by
  by_cases he : cd x = cd y
  · have e2 : cd y = cd x := he.symm
    simp only [he, true_and]
    unfold ke2 ke3 upp shb
    rw [he]
    generalize cd y = c at *
    rcases codes hc with rfl | rfl | rfl | rfl | rfl | rfl | rfl | rfl | rfl | rfl | rfl
    all_goals simp [fmc]
    all_goals try omega
    all_goals (repeat' split)
    all_goals try omega
  · exact ⟨fun h => absurd h.1.symm he, fun h => absurd h.1 he⟩

/-- What the table's words are made of. -/
theorem tab_n : ∀ k, k < 66 → (1 ≤ k → (fmc (cd (wd k)) = 6 ↔ 63 ≤ k)) := by decide +kernel
theorem tab_0 : ∀ k, k < 66 → (fmc (cd (wd k)) = 0 → shb (wd k) = 0 ∧ wd k = cd (wd k) + 4096 * f3 (wd k) + 33554432 * (wd k / 33554432)) := by decide +kernel
theorem tab_1 : ∀ k, k < 66 → (fmc (cd (wd k)) = 1 ∧ shb (wd k) = 0 → wd k = cd (wd k) + 4096 * f3 (wd k)) := by decide +kernel
theorem tab_6 : ∀ k, k < 66 → (shb (wd k) = 6 → fmc (cd (wd k)) = 1 ∧ wd k = cd (wd k) + 4096 * f3 (wd k) + 67108864 * (wd k / 67108864)) := by decide +kernel
theorem tab_5 : ∀ k, k < 66 → (shb (wd k) = 5 → fmc (cd (wd k)) = 1 ∧ wd k = cd (wd k) + 4096 * f3 (wd k) + 33554432 * (wd k / 33554432)) := by decide +kernel
theorem tab_2 : ∀ k, k < 66 → (fmc (cd (wd k)) = 2 ∨ fmc (cd (wd k)) = 3 → shb (wd k) = 0 ∧ wd k = cd (wd k) + 4096 * f3 (wd k)) := by decide +kernel
theorem tab_4 : ∀ k, k < 66 → (fmc (cd (wd k)) = 4 ∨ fmc (cd (wd k)) = 5 → shb (wd k) = 0 ∧ wd k = cd (wd k)) := by decide +kernel

instance (a : Int) (m : Nat) : Decidable (Lies a m) := by unfold Lies; infer_instance

def wm (y : Int) : Nat := if fmc (cd y) = 0 then 4261441663 else if shb y = 6 then 4227887231 else if shb y = 5 then 4261441663 else if fmc (cd y) ≤ 3 then 28799 else 127
def imM (y : Int) : Nat := if shb y = 6 then 66060288 else if shb y = 5 then 32505856 else fmOf (fmc (cd y))
def m1 (y : Int) : Nat := wm y ||| imM y
def m2 (y : Int) : Nat := if hasD (fmc (cd y)) = true then m1 y ||| 3968 else m1 y
def m3 (y : Int) : Nat := if has1 (fmc (cd y)) = true then m2 y ||| 1015808 else m2 y
theorem masks_a : ∀ k, k < 63 → (1 ≤ k → Lies (wd k) (wm (wd k)) ∧ wm (wd k) &&& imM (wd k) = 0 ∧ (hasD (fmc (cd (wd k))) = true → m1 (wd k) &&& 3968 = 0) ∧ (has1 (fmc (cd (wd k))) = true → m2 (wd k) &&& 1015808 = 0) ∧ (has2 (fmc (cd (wd k))) = true → m3 (wd k) &&& 32505856 = 0)) := by decide +kernel
theorem masks_b : ∀ k, k < 63 → (1 ≤ k → (shb (wd k) = 0 → mskOf (fmc (cd (wd k))) (wd k) = 0) ∧ wm (wd k) < 4294967296 ∧ imM (wd k) < 4294967296 ∧ m1 (wd k) < 4294967296 ∧ m2 (wd k) < 4294967296 ∧ m3 (wd k) < 4294967296) := by decide +kernel
theorem masks_all (k : Nat) (h : k < 63) (h' : 1 ≤ k) : Lies (wd k) (wm (wd k)) ∧ wm (wd k) &&& imM (wd k) = 0 ∧ (hasD (fmc (cd (wd k))) = true → m1 (wd k) &&& 3968 = 0) ∧ (has1 (fmc (cd (wd k))) = true → m2 (wd k) &&& 1015808 = 0) ∧ (has2 (fmc (cd (wd k))) = true → m3 (wd k) &&& 32505856 = 0) ∧
    (shb (wd k) = 0 → mskOf (fmc (cd (wd k))) (wd k) = 0) ∧ wm (wd k) < 4294967296 ∧ imM (wd k) < 4294967296 ∧ m1 (wd k) < 4294967296 ∧ m2 (wd k) < 4294967296 ∧ m3 (wd k) < 4294967296 :=
  let a := masks_a k h h'
  ⟨a.1, a.2.1, a.2.2.1, a.2.2.2.1, a.2.2.2.2, masks_b k h h'⟩

/-- An immediate's part, the registers' part of a word. -/
def imP (f y v : Int) : Int := if shb y = 0 then sprOf f v else v * 1048576
def rgP (f r0 r1 r2 : Int) : Int := (if hasD f = true then r0 * 128 else 0) + (if has1 f = true then r1 * 32768 else 0) + (if has2 f = true then r2 * 1048576 else 0)

theorem shift_lies {v : Int} {n t : Nat} (h0 : 0 ≤ v) (h1 : v < 2 ^ n) : Lies (v * 2 ^ t) ((2 ^ n - 1) * 2 ^ t) := by
  have := fld_lies v 0 n t
  unfold fld at this
  rw [Int.pow_zero, Int.ediv_one, Int.emod_eq_of_lt h0 h1] at this
  exact this

theorem imP_lies {k : Nat} (hk : 1 ≤ k) (hk' : k < 63) {v : Int} (h : imOk (fmc (cd (wd k))) (wd k) v = true) : Lies (imP (fmc (cd (wd k))) (wd k) v) (imM (wd k)) := by
  unfold imOk at h
  unfold imP imM
  rcases shb_cases (wd k) with hs | hs | hs
  · rw [hs, if_pos rfl, if_neg (by decide), if_neg (by decide)]
    exact spr_lies _ _
  · rw [hs] at h ⊢
    rw [if_neg (by decide), if_pos rfl] at h
    simp at h
    rw [if_neg (by decide), if_neg (by decide), if_pos rfl]
    exact shift_lies (n := 5) (t := 20) h.1 h.2
  · rw [hs] at h ⊢
    rw [if_pos rfl] at h
    simp at h
    rw [if_neg (by decide), if_pos rfl]
    exact shift_lies (n := 6) (t := 20) h.1 h.2

theorem imPut_sum {k : Nat} (hk : 1 ≤ k) (hk' : k < 63) {v : Int} (h : imOk (fmc (cd (wd k))) (wd k) v = true) : imPut (fmc (cd (wd k))) (wd k) v = wd k + imP (fmc (cd (wd k))) (wd k) v := by
  obtain ⟨h1, h2, _, _, _, h6, h7, h8, _⟩ := masks_all k hk' hk
  have hl := imP_lies hk hk' h
  unfold imPut
  by_cases hs : shb (wd k) = 0
  · rw [if_pos hs]
    unfold imOk at h
    rw [hs, if_neg (by decide), if_neg (by decide)] at h
    unfold putOf imP
    rw [if_pos h, if_pos hs]
    unfold setOf
    rw [h6 hs]; omega
  · rw [if_neg hs, if_pos h]
    have e : imP (fmc (cd (wd k))) (wd k) v = v * 1048576 := by unfold imP; rw [if_neg hs]
    rw [e] at hl ⊢
    exact h1.or hl h2 h7 h8

theorem or_step {a r : Int} {m t : Nat} (ha : Lies a m) (hm : m < 4294967296) (h0 : 0 ≤ r) (h1 : r < 32) (hd : m &&& (31 * 2 ^ t) = 0) (ht : 31 * 2 ^ t < 4294967296) :
    bits .or .u32 a (r * 2 ^ t) = a + r * 2 ^ t ∧ Lies (a + r * 2 ^ t) (m ||| 31 * 2 ^ t) := by
  have hl := shift_lies (n := 5) (t := t) h0 h1
  exact ⟨ha.or hl hd hm ht, ha.add hl hd⟩

theorem rgPut_sum {k : Nat} (hk : 1 ≤ k) (hk' : k < 63) {x r0 r1 r2 : Int} (hx : Lies x (m1 (wd k))) (h : rgOk (hasD (fmc (cd (wd k)))) (has1 (fmc (cd (wd k)))) (has2 (fmc (cd (wd k)))) r0 r1 r2 = true) :
    rgPut (hasD (fmc (cd (wd k)))) (has1 (fmc (cd (wd k)))) (has2 (fmc (cd (wd k)))) x r0 r1 r2 = x + rgP (fmc (cd (wd k))) r0 r1 r2 := by
  obtain ⟨_, _, h3, h4, h5, _, _, _, h9, h10, h11⟩ := masks_all k hk' hk
  unfold rgOk at h
  simp only [Bool.and_eq_true, Bool.or_eq_true, Bool.not_eq_true'] at h
  obtain ⟨⟨g0, g1⟩, g2⟩ := h
  unfold rgPut rgP
  have s1 : (if hasD (fmc (cd (wd k))) = true then bits .or .u32 x (r0 * 128) else x) = x + (if hasD (fmc (cd (wd k))) = true then r0 * 128 else 0) ∧ Lies (x + (if hasD (fmc (cd (wd k))) = true then r0 * 128 else 0)) (m2 (wd k)) := by
    unfold m2
    split
    · rename_i hd
      have hr := isr_yes (g0.resolve_left (by rw [hd]; decide))
      exact or_step (t := 7) hx h9 hr.1 hr.2 (h3 hd) (by decide)
    · exact ⟨by omega, by rw [Int.add_zero]; exact hx⟩
  rw [s1.1]
  rw [← Int.add_assoc, ← Int.add_assoc]
  obtain ⟨_, hx1⟩ := s1
  generalize x + (if hasD (fmc (cd (wd k))) = true then r0 * 128 else 0) = x1 at *
  have s2 : (if has1 (fmc (cd (wd k))) = true then bits .or .u32 x1 (r1 * 32768) else x1) = x1 + (if has1 (fmc (cd (wd k))) = true then r1 * 32768 else 0) ∧ Lies (x1 + (if has1 (fmc (cd (wd k))) = true then r1 * 32768 else 0)) (m3 (wd k)) := by
    unfold m3
    split
    · rename_i hd
      have hr := isr_yes (g1.resolve_left (by rw [hd]; decide))
      exact or_step (t := 15) hx1 h10 hr.1 hr.2 (h4 hd) (by decide)
    · exact ⟨by omega, by rw [Int.add_zero]; exact hx1⟩
  simp only []
  rw [s2.1]
  obtain ⟨_, hx2⟩ := s2
  generalize x1 + (if has1 (fmc (cd (wd k))) = true then r1 * 32768 else 0) = x2 at *
  split
  · rename_i hd
    have hr := isr_yes (g2.resolve_left (by rw [hd]; decide))
    exact (or_step (t := 20) hx2 h11 hr.1 hr.2 (h5 hd) (by decide)).1
  · omega

theorem fmo_k {k : Nat} (hk : 1 ≤ k) (hk' : k < 66) : fmo k = fmc (cd (wd k)) := fmo_of hk hk'
theorem knw_k {k : Nat} (hk : 1 ≤ k) (hk' : k < 66) : knw k = true := by unfold knw; simp; omega

/-- An instruction's word is the sum of its parts. -/
theorem enc_sum {k : Nat} (hk : 1 ≤ k) (hk' : k < 63) {r0 r1 r2 im : Int} (hi : imOk (fmc (cd (wd k))) (wd k) im = true) (hr : rgOk (hasD (fmc (cd (wd k)))) (has1 (fmc (cd (wd k)))) (has2 (fmc (cd (wd k)))) r0 r1 r2 = true) :
    encOk k r0 r1 r2 im = true ∧ encW k r0 r1 r2 im = wd k + imP (fmc (cd (wd k))) (wd k) im + rgP (fmc (cd (wd k))) r0 r1 r2 := by
  have hn : ¬ fmc (cd (wd k)) = 6 := fun h => by have := (tab_n k (by omega) hk).1 h; omega
  have e : encOk k r0 r1 r2 im = true := by
    unfold encOk
    rw [knw_k hk (by omega), fmo_k hk (by omega), show (k : Int).toNat = k from rfl, hi, hr]; simp
  refine ⟨e, ?_⟩
  unfold encW
  rw [e, if_pos rfl, fmo_k hk (by omega), if_neg hn, show (k : Int).toNat = k from rfl, imPut_sum hk hk' hi]
  obtain ⟨h1, h2, _⟩ := masks_all k hk' hk
  exact rgPut_sum hk hk' (h1.add (imP_lies hk hk' hi) h2) hr

end Go.Proofs.YtgjfelkbblbjfaaGreatDoor
