/- An instruction of any operation is encoded and decoded again: the contracts of the two calls at one instruction. -/
import Derived.Test.YtejmifokceoofaaDoorInstBackM
namespace Go.Proofs.YtejmifokceoofaaDoor
open Go.RowKit
set_option linter.unusedVariables false
set_option maxRecDepth 100000

theorem and_i64 (v : Int) (m : Nat) (hm : m ≤ 9223372036854775807) : ∃ p : Nat, bits .and .i64 v m = p ∧ p ≤ m ∧ (m % 2 = 0 → p % 2 = 0) := by
  obtain ⟨x, hx⟩ : ∃ x : BitVec 64, x = BitVec.ofInt 64 v := ⟨_, rfl⟩
  have e : bits .and .i64 v m = IntKind.i64.wrap ((x &&& BitVec.ofInt 64 m).toNat : Int) := by rw [hx]; rfl
  have e2 : (BitVec.ofInt 64 (m : Int)).toNat = m := by rw [BitVec.ofInt_natCast, BitVec.toNat_ofNat, Nat.mod_eq_of_lt (by omega)]
  refine ⟨x.toNat &&& m, ?_, Nat.and_le_right, fun h => ?_⟩
  · rw [e, BitVec.toNat_and, e2, IntKind.wrap_i64]
    have := Nat.and_le_right (n := x.toNat) (m := m)
    omega
  · have t1 := Nat.and_mod_two_pow (n := 1) (a := x.toNat) (b := m)
    rw [Nat.pow_one, h] at t1
    simpa using t1

theorem wd_mt (k : Nat) : Mt k (wd k) := ⟨rfl, rfl, rfl⟩
theorem n_shb : ∀ k, k < 66 → (63 ≤ k → shb (wd k) = 0) := by decide +kernel



end Go.Proofs.YtejmifokceoofaaDoor
