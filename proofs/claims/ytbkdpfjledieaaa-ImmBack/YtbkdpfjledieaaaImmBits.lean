/- The bits of a word in which an immediate was put: all others are as they were; and the statements' own table of the forms' places. -/
import Derived.Test.YtbkdpfjledieaaaImmKnown
namespace Go.Proofs.Ytbkdpfjledieaaa
open Go.RowKit
set_option linter.unusedVariables false

theorem set_bv (f x v : Int) (h0 : 0 ≤ x) (h1 : x ≤ 4294967295) : bv (setOf f x v) = (bv x &&& ~~~ bv (fmOf f)) ||| bv (sprOf f v) := by
  rw [← set_val f x v h0 h1, bits_or_bv, bv_of, bits_not_bv, bv_of]

theorem zero_of_bv {v : BitVec 32} (h : v = 0#32) : (v.toNat : Int) = 0 := by rw [h]; rfl

theorem set_same (f x v : Int) (h0 : 0 ≤ x) (h1 : x ≤ 4294967295) : bits .andNot .u32 (bits .xor .u32 (setOf f x v) x) (fmOf f) = 0 := by
  have hs := (spr_lies f v).bv_and (fm_le f)
  rw [bits_not_bv, bits_xor_bv, bv_of, set_bv f x v h0 h1]
  apply zero_of_bv
  generalize bv x = X at *
  generalize bv (fmOf f) = M at *
  generalize bv (sprOf f v) = S at *
  ext i hi
  have hb := congrArg (fun z : BitVec 32 => z[i]) hs
  simp only [BitVec.getElem_and, BitVec.getElem_or, BitVec.getElem_xor, BitVec.getElem_not, BitVec.getElem_zero] at hb ⊢
  revert hb
  cases X[i] <;> cases M[i] <;> cases S[i] <;> simp

theorem set_other (f x y v : Int) (h0 : 0 ≤ x) (h1 : x ≤ 4294967295) (y0 : 0 ≤ y) (y1 : y ≤ 4294967295) :
    bits .andNot .u32 (bits .xor .u32 (bits .xor .u32 (bits .xor .u32 (setOf f x v) (setOf f y v)) x) y) (fmOf f) = 0 := by
  have hs := (spr_lies f v).bv_and (fm_le f)
  rw [bits_not_bv, bits_xor_bv, bv_of, bits_xor_bv, bv_of, bits_xor_bv, bv_of, set_bv f x v h0 h1, set_bv f y v y0 y1]
  apply zero_of_bv
  generalize bv x = X at *
  generalize bv y = Y at *
  generalize bv (fmOf f) = M at *
  generalize bv (sprOf f v) = S at *
  ext i hi
  have hb := congrArg (fun z : BitVec 32 => z[i]) hs
  simp only [BitVec.getElem_and, BitVec.getElem_or, BitVec.getElem_xor, BitVec.getElem_not, BitVec.getElem_zero] at hb ⊢
  revert hb
  cases X[i] <;> cases Y[i] <;> cases M[i] <;> cases S[i] <;> simp

theorem spr_zero (f : Int) : sprOf f 0 = 0 := by
  refine forms (fun f => sprOf f 0 = 0) rfl rfl rfl rfl rfl ?_ f
  intro f e1 e2 e3 e4 e5
  simp [sprOf, e1, e2, e3, e4, e5]
theorem msk_zero (f : Int) : mskOf f 0 = 0 := by have := msk_bd f 0 (by decide) (by decide); omega
theorem fits_zero (f : Int) : fitsOf f 0 = true := by
  refine forms (fun f => fitsOf f 0 = true) rfl rfl rfl rfl rfl ?_ f
  intro f e1 e2 e3 e4 e5
  simp [fitsOf, e1, e2, e3, e4, e5]

theorem set_nought (f x : Int) (h0 : 0 ≤ x) (h1 : x ≤ 4294967295) : bits .and .u32 (setOf f x 0) (fmOf f) = 0 := by
  have hs := spr_zero f
  rw [bits_and_bv, set_bv f x 0 h0 h1, hs]
  apply zero_of_bv
  have hz : bv 0 = 0#32 := by decide
  rw [hz]
  generalize bv x = X at *
  generalize bv (fmOf f) = M at *
  ext i hi
  simp only [BitVec.getElem_and, BitVec.getElem_or, BitVec.getElem_not, BitVec.getElem_zero]
  cases X[i] <;> cases M[i] <;> rfl
theorem set_noughts (f : Int) : setOf f 0 0 = 0 := by unfold setOf; rw [spr_zero, msk_zero]; rfl

theorem lfield_any (f : Int) (w : World) (h0 : 1 ≤ f) (h1 : f ≤ 5) :
    Calls Try.prog 21 #[.int .i64 f] w fun e w' => e = .returned (.int .u32 (fmOf f)) ∧ w' = w := by
  have h : f = 1 ∨ f = 2 ∨ f = 3 ∨ f = 4 ∨ f = 5 := by omega
  rcases h with rfl | rfl | rfl | rfl | rfl
  all_goals
    go_enter Try.func21, Try.ntmps21
    go_wp2
    go_ret
    exact ⟨rfl, rfl⟩

end Go.Proofs.Ytbkdpfjledieaaa
