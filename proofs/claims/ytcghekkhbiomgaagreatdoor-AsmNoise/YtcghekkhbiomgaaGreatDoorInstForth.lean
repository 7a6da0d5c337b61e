/- A word that is an operation's is what its parts make: decoded and encoded again. Nothing is walked here. -/
import Derived.Test.YtcghekkhbiomgaaGreatDoorInstTrip
import Derived.Test.YtcghekkhbiomgaaGreatDoorInstRefCode
namespace Go.Proofs.YtcghekkhbiomgaaGreatDoor
open Go.RowKit
set_option linter.unusedVariables false
set_option maxRecDepth 100000
set_option linter.unusedSimpArgs false

theorem parts (x : Int) : x = x % 128 + 128 * (x / 128 % 32) + 4096 * (x / 4096 % 8) + 32768 * (x / 32768 % 32) + 1048576 * (x / 1048576 % 32) + 33554432 * (x / 33554432) := by
  have h1 : x = x % 128 + 128 * (x / 128) := by omega
  have h2 : x / 128 = x / 128 % 32 + 32 * (x / 4096) := by omega
  have h3 : x / 4096 = x / 4096 % 8 + 8 * (x / 32768) := by omega
  have h4 : x / 32768 = x / 32768 % 32 + 32 * (x / 1048576) := by omega
  have h5 : x / 1048576 = x / 1048576 % 32 + 32 * (x / 33554432) := by omega
  generalize x / 128 % 32 = a at *
  generalize x / 4096 % 8 = b at *
  generalize x / 32768 % 32 = c at *
  generalize x / 1048576 % 32 = d at *
  generalize x % 128 = e at *
  generalize x / 128 = p at *
  generalize x / 4096 = q at *
  generalize x / 32768 = r at *
  generalize x / 1048576 = s at *
  generalize x / 33554432 = t at *
  omega

theorem spr_get (f : Int) {x : Int} (h0 : 0 ≤ x) (h1 : x ≤ 4294967295) : sprOf f (getOf f x) = mskOf f x := by
  have := set_get f x h0 h1
  unfold setOf at this
  omega

theorem msk3_2 (x : Int) : mskOf 3 x = mskOf 2 x := by
  rw [msk3, msk2]
  have a : x / 33554432 % 128 = x / 33554432 % 64 + 64 * (x / 2147483648 % 2) := by omega
  have b : x / 128 % 32 = x / 128 % 2 + 2 * (x / 256 % 16) := by omega
  rw [a, b]
  generalize x / 33554432 % 64 = p
  generalize x / 2147483648 % 2 = q
  generalize x / 128 % 2 = r
  generalize x / 256 % 16 = s
  omega
theorem msk5_4 (x : Int) : mskOf 5 x = mskOf 4 x := by
  rw [msk5, msk4]
  have a : x / 4096 % 1048576 = x / 4096 % 256 + 256 * (x / 1048576 % 4096) := by omega
  have b : x / 1048576 % 4096 = x / 1048576 % 2 + 2 * (x / 2097152 % 2048) := by omega
  have c : x / 2097152 % 2048 = x / 2097152 % 1024 + 1024 * (x / 2147483648 % 2) := by omega
  rw [a, b, c]
  generalize x / 4096 % 256 = p
  generalize x / 1048576 % 2 = q
  generalize x / 2097152 % 1024 = r
  generalize x / 2147483648 % 2 = s
  omega

theorem i06 : ((0 : Int) = 6) = False := by simp
theorem i05 : ((0 : Int) = 5) = False := by simp
theorem i56 : ((5 : Int) = 6) = False := by simp
theorem i50 : ((5 : Int) = 0) = False := by simp
theorem i60 : ((6 : Int) = 0) = False := by simp

set_option maxHeartbeats 1000000 in
theorem forth {k : Nat} (hk : 1 ≤ k) (hk' : k < 63) {x : Int} (h0 : 0 ≤ x) (h1 : x ≤ 4294967295) (hM : Mt k x) :
    imOk (fmc (cd (wd k))) (wd k) (imO (fmc (cd (wd k))) x) = true ∧ rgOk (hasD (fmc (cd (wd k)))) (has1 (fmc (cd (wd k)))) (has2 (fmc (cd (wd k)))) (rdO (fmc (cd (wd k))) x) (r1O (fmc (cd (wd k))) x) (r2O (fmc (cd (wd k))) x) = true ∧
      wd k + imP (fmc (cd (wd k))) (wd k) (imO (fmc (cd (wd k))) x) + rgP (fmc (cd (wd k))) (rdO (fmc (cd (wd k))) x) (r1O (fmc (cd (wd k))) x) (r2O (fmc (cd (wd k))) x) = x := by
  have hn : fmc (cd (wd k)) ≠ 6 := fun h => by have := (tab_n k (by omega) hk).1 h; omega
  obtain ⟨hcd, hf3, hu5, hu6⟩ := (key_iff hn).1 hM
  have T0 := tab_0 k (by omega)
  have T1 := tab_1 k (by omega)
  have T2 := tab_2 k (by omega)
  have T4 := tab_4 k (by omega)
  have T5 := tab_5 k (by omega)
  have T6 := tab_6 k (by omega)
  have P := parts x
  have y0 : isr (x / 128 % 32) = true := by unfold isr; simp; omega
  have y1 : isr (x / 32768 % 32) = true := by unfold isr; simp; omega
  have y2 : isr (x / 1048576 % 32) = true := by unfold isr; simp; omega
  have hcd' : cd (wd k) = x % 128 := by rw [← cd_is, hcd]
  have hR : rgOk (hasD (fmc (cd (wd k)))) (has1 (fmc (cd (wd k)))) (has2 (fmc (cd (wd k)))) (rdO (fmc (cd (wd k))) x) (r1O (fmc (cd (wd k))) x) (r2O (fmc (cd (wd k))) x) = true := by
    unfold rgOk rdO r1O r2O
    rw [e7, e15, e20]
    cases hasD (fmc (cd (wd k))) <;> cases has1 (fmc (cd (wd k))) <;> cases has2 (fmc (cd (wd k))) <;> simp [y0, y1, y2]
  have up : 0 ≤ x / 1048576 ∧ x / 1048576 ≤ 4095 := by omega
  have u5 : x / 1048576 = x / 1048576 % 32 + 32 * (x / 33554432) := by omega
  have u6 : x / 1048576 = x / 1048576 % 64 + 64 * (x / 67108864) := by omega
  have e4096 : x / 1048576 % 4096 = x / 1048576 := by omega
  have e128 : x / 33554432 % 128 = x / 33554432 := by omega
  have u4 : x / 4096 % 1048576 = x / 4096 := by omega
  have u4' : x = x % 128 + 128 * (x / 128 % 32) + 4096 * (x / 4096) := by omega
  refine ⟨?_, hR, ?_⟩
  · unfold imOk imO
    rcases shb_cases (wd k) with hs | hs | hs
    · have hsx : shb x = 0 := by
        by_cases h3 : fmc (cd (wd k)) ≤ 3
        · rw [shb_eq hcd (hf3 h3)]; exact hs
        · exact shb_no (by rw [hcd]; omega)
      rw [hs, hsx, if_neg (by decide), if_neg (by decide), if_neg (by decide), if_neg (by decide)]
      exact fits_get _ _
    · have hf := (T5 hs).1
      rw [shb_eq hcd (hf3 (by omega)), hs, if_neg (by decide), if_pos rfl, if_neg (by decide), if_pos rfl, e20, e5]
      simp
      omega
    · have hf := (T6 hs).1
      rw [shb_eq hcd (hf3 (by omega)), hs, if_pos rfl, if_pos rfl, e20, e6]
      simp
      omega
  · unfold imP imO rgP rdO r1O r2O
    rw [e7, e15, e20]
    rcases form_cases hn with hf | hf | hf | hf | hf | hf
    · obtain ⟨hs, hw⟩ := T0 hf
      have h3 := hf3 (by omega)
      have hu := hu5 (Or.inl hf)
      rw [shb_eq hcd h3, hs, hf]
      rw [← h3, f3_is, ← hu, hcd'] at hw
      simp only [show hasD 0 = true by decide, show has1 0 = true by decide, show has2 0 = true by decide, if_true, Bool.false_eq_true, if_false, i06, i05, i56, i60, i50]
      rw [show getOf 0 x = 0 by simp [getOf], show sprOf 0 0 = 0 by decide]
      generalize x / 128 % 32 = a at *
      generalize x / 4096 % 8 = b at *
      generalize x / 32768 % 32 = c at *
      generalize x / 1048576 % 32 = d at *
      generalize x % 128 = e at *
      generalize x / 33554432 = t at *
      omega
    · have h3 := hf3 (by omega)
      rcases shb_cases (wd k) with hs | hs | hs
      · have hw := T1 ⟨hf, hs⟩
        rw [shb_eq hcd h3, hs, hf]
        rw [← h3, f3_is, hcd'] at hw
        simp only [show hasD 1 = true by decide, show has1 1 = true by decide, show has2 1 = false by decide, if_true, Bool.false_eq_true, if_false, i06, i05, i56, i60, i50]
        rw [spr_get 1 h0 h1, msk1, e4096, u5]
        generalize x / 128 % 32 = a at *
        generalize x / 4096 % 8 = b at *
        generalize x / 32768 % 32 = c at *
        generalize x / 1048576 % 32 = d at *
        generalize x % 128 = e at *
        generalize x / 33554432 = t at *
        omega
      · have hw := (T5 hs).2
        have hu := hu5 (Or.inr hs)
        rw [shb_eq hcd h3, hs, hf]
        rw [← h3, f3_is, ← hu, hcd'] at hw
        simp only [show hasD 1 = true by decide, show has1 1 = true by decide, show has2 1 = false by decide, if_true, Bool.false_eq_true, if_false, i06, i05, i56, i60, i50]
        rw [e5]
        generalize x / 128 % 32 = a at *
        generalize x / 4096 % 8 = b at *
        generalize x / 32768 % 32 = c at *
        generalize x / 1048576 % 32 = d at *
        generalize x % 128 = e at *
        generalize x / 33554432 = t at *
        omega
      · have hw := (T6 hs).2
        have hu := hu6 hs
        rw [shb_eq hcd h3, hs, hf]
        rw [← h3, f3_is, ← hu, hcd'] at hw
        simp only [show hasD 1 = true by decide, show has1 1 = true by decide, show has2 1 = false by decide, if_true, Bool.false_eq_true, if_false, i06, i05, i56, i60, i50]
        rw [e6]
        have u7 : x / 1048576 % 32 + 32 * (x / 33554432) = x / 1048576 % 64 + 64 * (x / 67108864) := u5.symm.trans u6
        generalize x / 128 % 32 = a at *
        generalize x / 4096 % 8 = b at *
        generalize x / 32768 % 32 = c at *
        generalize x / 1048576 % 32 = d at *
        generalize x / 1048576 % 64 = d' at *
        generalize x % 128 = e at *
        generalize x / 33554432 = t at *
        generalize x / 67108864 = t' at *
        omega
    · obtain ⟨hs, hw⟩ := T2 (Or.inl hf)
      have h3 := hf3 (by omega)
      rw [shb_eq hcd h3, hs, hf]
      rw [← h3, f3_is, hcd'] at hw
      simp only [show hasD 2 = false by decide, show has1 2 = true by decide, show has2 2 = true by decide, if_true, Bool.false_eq_true, if_false, i06, i05, i56, i60, i50]
      rw [spr_get 2 h0 h1, msk2, e128]
      generalize x / 128 % 32 = a at *
      generalize x / 4096 % 8 = b at *
      generalize x / 32768 % 32 = c at *
      generalize x / 1048576 % 32 = d at *
      generalize x % 128 = e at *
      generalize x / 33554432 = t at *
      omega
    · obtain ⟨hs, hw⟩ := T2 (Or.inr hf)
      have h3 := hf3 (by omega)
      rw [shb_eq hcd h3, hs, hf]
      rw [← h3, f3_is, hcd'] at hw
      simp only [show hasD 3 = false by decide, show has1 3 = true by decide, show has2 3 = true by decide, if_true, Bool.false_eq_true, if_false, i06, i05, i56, i60, i50]
      rw [spr_get 3 h0 h1, msk3_2, msk2, e128]
      generalize x / 128 % 32 = a at *
      generalize x / 4096 % 8 = b at *
      generalize x / 32768 % 32 = c at *
      generalize x / 1048576 % 32 = d at *
      generalize x % 128 = e at *
      generalize x / 33554432 = t at *
      omega
    · obtain ⟨hs, hw⟩ := T4 (Or.inl hf)
      have hsx : shb x = 0 := shb_no (by rw [hcd]; omega)
      rw [hsx, hs, hf]
      rw [hcd'] at hw
      simp only [show hasD 4 = true by decide, show has1 4 = false by decide, show has2 4 = false by decide, if_true, Bool.false_eq_true, if_false, i06, i05, i56, i60, i50]
      rw [spr_get 4 h0 h1, msk4, u4]
      generalize x / 128 % 32 = a at *
      generalize x / 4096 = b at *
      generalize x % 128 = e at *
      omega
    · obtain ⟨hs, hw⟩ := T4 (Or.inr hf)
      have hsx : shb x = 0 := shb_no (by rw [hcd]; omega)
      rw [hsx, hs, hf]
      rw [hcd'] at hw
      simp only [show hasD 5 = true by decide, show has1 5 = false by decide, show has2 5 = false by decide, if_true, Bool.false_eq_true, if_false, i06, i05, i56, i60, i50]
      rw [spr_get 5 h0 h1, msk5_4, msk4, u4]
      generalize x / 128 % 32 = a at *
      generalize x / 4096 = b at *
      generalize x % 128 = e at *
      omega

end Go.Proofs.YtcghekkhbiomgaaGreatDoor
