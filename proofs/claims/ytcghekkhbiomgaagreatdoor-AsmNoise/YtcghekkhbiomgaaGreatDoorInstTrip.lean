/- An instruction of any operation is encoded and decoded again: the contracts of the two calls at one instruction. -/
import Derived.Test.YtcghekkhbiomgaaGreatDoorInstBackM
namespace Go.Proofs.YtcghekkhbiomgaaGreatDoor
open Go.RowKit
set_option linter.unusedVariables false
set_option maxRecDepth 100000

theorem and_i64 (v : Int) (m : Nat) (hm : m ≤ 9223372036854775807) : ∃ p : Nat, bits .and .i64 v m = p ∧ p ≤ m ∧ (m % 2 = 0 → p % 2 = 0) := by
  obtain ⟨x, hx⟩ : ∃ x : BitVec 64, x = BitVec.ofInt 64 v := ⟨_, rfl⟩
  have e : bits .and .i64 v m = IntKind.i64.wrap ((x &&& BitVec.ofInt 64 m).toNat : Int) := by rw [hx]; rfl
  have e2 : (BitVec.ofInt 64 (m : Int)).toNat = m := by rw [BitVec.ofInt_natCast, BitVec.toNat_ofNat, Nat.mod_eq_of_lt (by omega)]
  refine ⟨x.toNat &&& m, ?_, Nat.and_le_right, fun h => ?_⟩
  · rw [e, BitVec.toNat_and, e2, IntKind.wrap_i64]
    have := Nat.and_le_right (n := x.toNat) (m := m)
    omega
  · have t1 := Nat.and_mod_two_pow (n := 1) (a := x.toNat) (b := m)
    rw [Nat.pow_one, h] at t1
    simpa using t1

theorem wd_mt (k : Nat) : Mt k (wd k) := ⟨rfl, rfl, rfl⟩
theorem n_shb : ∀ k, k < 66 → (63 ≤ k → shb (wd k) = 0) := by decide +kernel

theorem trip {k : Nat} (hk : 1 ≤ k) (hk' : k < 66) {r0 r1 r2 im : Int} (v0 : -9223372036854775808 ≤ im) (v1 : im ≤ 9223372036854775807)
    (h0 : if hasD (fmo k) = true then 0 ≤ r0 ∧ r0 < 32 else r0 = 0) (h1 : if has1 (fmo k) = true then 0 ≤ r1 ∧ r1 < 32 else r1 = 0) (h2 : if has2 (fmo k) = true then 0 ≤ r2 ∧ r2 < 32 else r2 = 0)
    (hi : if fmo k = 6 then im = 0 else imOk (fmo k) (wd k) im = true) :
    ∃ x, (0 ≤ x ∧ x ≤ 4294967295) ∧ (∀ w, Laid w → Calls Tryz.prog 33 #[inst k r0 r1 r2 im] w fun e w' => e = .returned (.tuple #[.int .u32 x, .bool true]) ∧ Below w.heap.size w w') ∧
      ∀ w, Laid w → Calls Tryz.prog 38 #[.int .u32 x] w fun e w' => e = .returned (.tuple #[inst k r0 r1 r2 im, .bool true]) ∧ Below w.heap.size w w' := by
  by_cases hn : fmo k = 6
  · rw [hn] at h0 h1 h2 hi
    rw [if_neg (by decide)] at h0 h1 h2
    rw [if_pos rfl] at hi
    subst h0; subst h1; subst h2; subst hi
    refine ⟨wd k, wd_bd k, fun w hL => ?_, fun w hL => ?_⟩
    · have := enc_any k 0 0 0 0 w v0 v1 hL
      have e : encOk k 0 0 0 0 = true := by unfold encOk; rw [knw_k hk hk', hn]; rfl
      unfold encW at this
      rw [e, if_pos rfl, if_pos hn] at this
      exact this
    · have := dec_some (wd k) k w (wd_bd k).1 (wd_bd k).2 hk hk' (wd_mt k) hL
      have h63 := (tab_n k hk' hk).1 (by rw [← fmo_k hk hk']; exact hn)
      unfold rdO r1O r2O imO at this
      rw [hn, n_shb k hk' h63, if_neg (by decide), if_neg (by decide), if_neg (by decide), if_neg (by decide), if_neg (by decide), show getOf 6 (wd k) = 0 by simp [getOf]] at this
      exact this
  · have h63 : k < 63 := by
      have := (tab_n k hk' hk)
      rw [← fmo_k hk hk'] at this
      exact Nat.lt_of_not_le (fun h => hn (this.2 h))
    rw [if_neg hn] at hi
    have hr : rgOk (hasD (fmo k)) (has1 (fmo k)) (has2 (fmo k)) r0 r1 r2 = true := by
      unfold rgOk isr
      cases e0 : hasD (fmo k) <;> cases e1 : has1 (fmo k) <;> cases e2 : has2 (fmo k) <;> rw [e0] at h0 <;> rw [e1] at h1 <;> rw [e2] at h2 <;> simp at h0 h1 h2 ⊢ <;> omega
    rw [fmo_k hk hk'] at *
    have es := enc_sum hk h63 hi hr
    have bk := back hk h63 hi hr
    generalize wd k + imP (fmc (cd (wd k))) (wd k) im + rgP (fmc (cd (wd k))) r0 r1 r2 = x at *
    refine ⟨x, ⟨bk.lo, bk.hi⟩, fun w hL => ?_, fun w hL => ?_⟩
    · have := enc_any k r0 r1 r2 im w v0 v1 hL
      rw [es.1, es.2] at this
      exact this
    · have := dec_some x k w bk.lo bk.hi hk hk' bk.mt hL
      have a0 : rdO (fmo k) x = r0 := by
        unfold rdO; rw [e7, fmo_k hk hk']
        split
        · rename_i h; exact bk.d h
        · rename_i h; rw [if_neg h] at h0; exact h0.symm
      have a1 : r1O (fmo k) x = r1 := by
        unfold r1O; rw [e15, fmo_k hk hk']
        split
        · rename_i h; exact bk.a h
        · rename_i h; rw [if_neg h] at h1; exact h1.symm
      have a2 : r2O (fmo k) x = r2 := by
        unfold r2O; rw [e20, fmo_k hk hk']
        split
        · rename_i h; exact bk.b h
        · rename_i h; rw [if_neg h] at h2; exact h2.symm
      have a3 : imO (fmo k) x = im := by rw [fmo_k hk hk']; exact bk.i
      rw [a0, a1, a2, a3] at this
      exact this

end Go.Proofs.YtcghekkhbiomgaaGreatDoor
