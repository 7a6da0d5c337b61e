/- The law on registers and immediates beyond their bounds, over the walks. -/
import Derived.Test.YtnlngagcpcpbkaaDoorInstBoundsW
namespace Go.Proofs.YtnlngagcpcpbkaaDoor
open Go.RowKit
set_option linter.unusedVariables false

theorem imOk_z {k : Nat} : imOk (fmo k) (wd k) 0 = true := by
  unfold imOk
  split
  · rfl
  · split
    · rfl
    · simp [fitsOf]

theorem in_isr (a : Int) : In a (isr a) := by unfold In isr; simp

theorem enc_is {k : Nat} (hk : 1 ≤ k) (hk' : k < 66) (r0 r1 r2 im : Int) : encOk k r0 r1 r2 im = (decide (fmo k = 6) || (imOk (fmo k) (wd k) im && ((!hasD (fmo k) || isr r0) && (!has1 (fmo k) || isr r1) && (!has2 (fmo k) || isr r2)))) := by
  unfold encOk rgOk
  rw [knw_k hk hk', show (k : Int).toNat = k from rfl]
  rfl

theorem bnd_any (f : Int) (hf : f = 0 ∨ f = 1 ∨ f = 2 ∨ f = 3 ∨ f = 4 ∨ f = 5 ∨ f = 6) (i : Bool) :
    Bnd 0 f i (decide (f = 6) || (true && ((!hasD f || i) && (!has1 f || isr 0) && (!has2 f || isr 0)))) ∧ Bnd 1 f i (decide (f = 6) || (true && ((!hasD f || isr 0) && (!has1 f || i) && (!has2 f || isr 0)))) ∧
      Bnd 2 f i (decide (f = 6) || (true && ((!hasD f || isr 0) && (!has1 f || isr 0) && (!has2 f || i)))) ∧ ∀ y, Bnd 3 f i (decide (f = 6) || y) := by
  rcases hf with rfl | rfl | rfl | rfl | rfl | rfl | rfl <;> cases i <;> exact ⟨rfl, rfl, rfl, fun y => rfl⟩

theorem bound_walk (a0 a1 a2 : Int) (w : World) (hL : Laid w) (b0 : 0 ≤ a0 ∧ a0 ≤ 255) (b1 : 0 ≤ a1 ∧ a1 ≤ 255) (b2 : -32768 ≤ a2 ∧ a2 ≤ 32767) :
    Calls Tryd.prog 8 #[.int .u8 a0, .int .u8 a1, .int .i16 a2] w fun e w' => e = .returned (.bool true) ∧ Below w.heap.size w w' := by
  obtain ⟨k, hk⟩ : ∃ k : Nat, 1 + a0 % 65 = k := ⟨(1 + a0 % 65).toNat, by omega⟩
  have k0 : 1 ≤ k := by omega
  have k1 : k < 66 := by omega
  have HK := hide (fun w hL => known_any w hL)
  have hF := fun w hL => form_any k w hL
  have hff : fmo k = 0 ∨ fmo k = 1 ∨ fmo k = 2 ∨ fmo k = 3 ∨ fmo k = 4 ∨ fmo k = 5 ∨ fmo k = 6 := by
    have := fmc_bd (cd (wd k))
    rw [← fmo_k k0 k1] at this
    omega
  have HE := fun r0 r1 r2 im v0 v1 w hL => enc_any k r0 r1 r2 im w v0 v1 hL
  have HR := fun r0 r1 r2 im v0 v1 w => renc_any k r0 r1 r2 im w v0 v1
  have hb := bnd_any (fmo k) hff (isr a2)
  have z := imOk_z (k := k)
  rcases (show a1 % 4 = 0 ∨ a1 % 4 = 1 ∨ a1 % 4 = 2 ∨ a1 % 4 = 3 by omega) with hj | hj | hj | hj
  · have e := enc_is k0 k1 a2 0 0 0
    rw [z] at e
    exact boundw_0 a0 a1 a2 _ _ _ k w hL b0 b1 b2 hk (by omega) (by omega) hj hff _ (in_isr a2) (by rw [e]; exact hb.1) HK (hide (HE a2 0 0 0 (by decide) (by decide))) (hide (HR a2 0 0 0 (by decide) (by decide))) (hide hF)
  · have e := enc_is k0 k1 0 a2 0 0
    rw [z] at e
    exact boundw_1 a0 a1 a2 _ _ _ k w hL b0 b1 b2 hk (by omega) (by omega) hj hff _ (in_isr a2) (by rw [e]; exact hb.2.1) HK (hide (HE 0 a2 0 0 (by decide) (by decide))) (hide (HR 0 a2 0 0 (by decide) (by decide))) (hide hF)
  · have e := enc_is k0 k1 0 0 a2 0
    rw [z] at e
    exact boundw_2 a0 a1 a2 _ _ _ k w hL b0 b1 b2 hk (by omega) (by omega) hj hff _ (in_isr a2) (by rw [e]; exact hb.2.2.1) HK (hide (HE 0 0 a2 0 (by decide) (by decide))) (hide (HR 0 0 a2 0 (by decide) (by decide))) (hide hF)
  · have e := enc_is k0 k1 0 0 0 (a2 * 64)
    exact boundw_3 a0 a1 a2 _ _ _ k w hL b0 b1 b2 hk (by omega) (by omega) hj hff _ (in_isr a2) (by rw [e]; exact hb.2.2.2 _) HK (hide (HE 0 0 0 (a2 * 64) (by omega) (by omega))) (hide (HR 0 0 0 (a2 * 64) (by omega) (by omega))) (hide hF)

end Go.Proofs.YtnlngagcpcpbkaaDoor
