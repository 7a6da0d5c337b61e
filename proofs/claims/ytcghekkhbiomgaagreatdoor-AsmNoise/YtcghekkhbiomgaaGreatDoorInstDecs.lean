/- The contract of package inst's Decode, of a word that is an instruction. -/
import Derived.Test.YtcghekkhbiomgaaGreatDoorInstDec
namespace Go.Proofs.YtcghekkhbiomgaaGreatDoor
open Go.RowKit Go.Maps
set_option linter.unusedVariables false
set_option maxRecDepth 100000
set_option linter.unusedSimpArgs false

theorem shb_form {x : Int} (h : shb x ≠ 0) : fmc (cd x) = 1 := by
  unfold shb at h
  split at h
  · exact absurd rfl h
  · split at h
    · rename_i h2; rw [h2]; decide
    · split at h
      · rename_i h2; rw [h2]; decide
      · exact absurd rfl h
theorem fmo_of {o : Nat} (ho : 1 ≤ o) (ho' : o < 66) : fmo o = fmc (cd (wd o)) := by
  unfold fmo knw
  rw [if_pos (by simp; omega)]; rfl

theorem dec_some (x : Int) (o : Nat) (w : World) (h0 : 0 ≤ x) (h1 : x ≤ 4294967295) (ho : 1 ≤ o) (ho' : o < 66) (hM : Mt o x) (hL : Laid w) :
    Calls Tryz.prog 38 #[.int .u32 x] w fun e w' => e = .returned (.tuple #[inst o (rdO (fmo o) x) (r1O (fmo o) x) (r2O (fmo o) x) (imO (fmo o) x), .bool true]) ∧ Below w.heap.size w w' := by
  have hoo : decide (o ≠ 0) = true := by simp; omega
  have HO := fun w hL => op_any x o w h0 h1 (Or.inr ⟨ho, ho', hM⟩) hL
  rw [hoo] at HO
  have HF := fun w hL => form_any o w hL
  have HS := fun w => slots_any (fmo o) w
  have HG := fun w => get_any (fmo o) x w h0 h1
  have HT := fun w => shift_any x w h0 h1
  have HI := fun n w hn => ifield_any x 20 n w h0 h1 (by decide) hn
  have HR0 := fun w => reg_any x 7 w h0 h1 (by decide)
  have HR1 := fun w => reg_any x 15 w h0 h1 (by decide)
  have HR2 := fun w => reg_any x 20 w h0 h1 (by decide)
  have hf : shb x ≠ 0 → fmo o = 1 := fun h => by rw [fmo_of ho ho', hM.1]; exact shb_form h
  have b6 : 0 ≤ x / 2 ^ 20 % 2 ^ 6 ∧ x / 2 ^ 20 % 2 ^ 6 ≤ 63 := by simp; omega
  have b5 : 0 ≤ x / 2 ^ 20 % 2 ^ 5 ∧ x / 2 ^ 20 % 2 ^ 5 ≤ 63 := by simp; omega
  unfold rdO r1O r2O imO
  rcases shb_cases x with hs | hs | hs
  · rw [hs] at HT
    simp only [hs, show ¬ ((0 : Int) = 6) by decide, show ¬ ((0 : Int) = 5) by decide, if_false]
    rcases has_cases (fmo o) with ⟨e0, e1, e2⟩ | ⟨e0, e1, e2⟩ | ⟨e0, e1, e2⟩ | ⟨e0, e1, e2⟩ | ⟨e0, e1, e2⟩
    · rw [e0, e1, e2] at HS
      simp only [e0, e1, e2, if_true, Bool.false_eq_true, if_false]
      exact dec_0_0 x _ _ 0 _ _ _ o w h0 h1 ho ho' (by decide) HO hL HF HS HG HT HR0 HR1 HR2
    · rw [e0, e1, e2] at HS
      simp only [e0, e1, e2, if_true, Bool.false_eq_true, if_false]
      exact dec_0_1 x _ _ 0 _ _ 0 o w h0 h1 ho ho' (by decide) HO hL HF HS HG HT HR0 HR1
    · rw [e0, e1, e2] at HS
      simp only [e0, e1, e2, if_true, Bool.false_eq_true, if_false]
      exact dec_0_2 x _ _ 0 0 _ _ o w h0 h1 ho ho' (by decide) HO hL HF HS HG HT HR1 HR2
    · rw [e0, e1, e2] at HS
      simp only [e0, e1, e2, if_true, Bool.false_eq_true, if_false]
      exact dec_0_3 x _ _ 0 _ 0 0 o w h0 h1 ho ho' (by decide) HO hL HF HS HG HT HR0
    · rw [e0, e1, e2] at HS
      simp only [e0, e1, e2, if_true, Bool.false_eq_true, if_false]
      exact dec_0_4 x _ _ 0 0 0 0 o w h0 h1 ho ho' (by decide) HO hL HF HS HG HT
  · have h5 := hf (by rw [hs]; decide)
    rw [hs] at HT
    simp only [hs, show ¬ ((5 : Int) = 6) by decide, if_false, if_true]
    rw [h5] at HF HS HG ⊢
    rw [show hasD 1 = true by decide, show has1 1 = true by decide, show has2 1 = false by decide] at HS
    simp only [show hasD 1 = true by decide, show has1 1 = true by decide, show has2 1 = false by decide, if_true, Bool.false_eq_true, if_false]
    exact dec_5_1 x _ _ _ _ _ 0 o w h0 h1 ho ho' b5 HO hL HF HS HG HT (fun w => HI 5 w (by decide)) HR0 HR1
  · have h5 := hf (by rw [hs]; decide)
    rw [hs] at HT
    simp only [hs, if_true]
    rw [h5] at HF HS HG ⊢
    rw [show hasD 1 = true by decide, show has1 1 = true by decide, show has2 1 = false by decide] at HS
    simp only [show hasD 1 = true by decide, show has1 1 = true by decide, show has2 1 = false by decide, if_true, Bool.false_eq_true, if_false]
    exact dec_6_1 x _ _ _ _ _ 0 o w h0 h1 ho ho' b6 HO hL HF HS HG HT (fun w => HI 6 w (by decide)) HR0 HR1

end Go.Proofs.YtcghekkhbiomgaaGreatDoor
