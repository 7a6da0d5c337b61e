/- Plain facts for the walk over LeWrites: numbers written one behind another are read back. -/
import Derived.Test.YtenpjddjoebljaaRput
import Derived.Test.YtenpjddjoebljaaTogether
import Derived.Deep.DeepCutAuto
import Derived.Deep.RegionHeld3
import Derived.WalkSmall
namespace Go.Proofs.Ytenpjddjoebljaa
open Go.RowKit
set_option linter.unusedVariables false

theorem Rd.full {w : World} {a : Option Addr} {len cap : Nat} {bs : List Int} (r : Rd w a len cap bs) : Rd w a len len bs := by
  have h1 := r.le
  have h2 := r.max
  exact ⟨r.length, Nat.le_refl _, by omega, r.bytes, fun h => by have := r.nil h; omega, r.cell⟩

theorem num_bytesOf (v : Nat) : ∀ n : Nat, num (bytesOf (v : Int) n) = ((v % 256 ^ n : Nat) : Int)
  | 0 => by simp [bytesOf, num, Nat.mod_one]
  | n + 1 => by
    rw [bytesOf_succ, num_append, num_bytesOf v n, bytesOf_length]
    have e : (2 : Int) ^ (8 * n) = ((256 ^ n : Nat) : Int) := by rw [← pow_256]; simp
    have e2 : byteOf (v : Int) n = ((v / 256 ^ n % 256 : Nat) : Int) := by unfold byteOf; rw [e]; simp
    rw [Nat.pow_succ, Nat.mod_mul]
    simp only [num, e2]
    simp

theorem num_bytesOf_8 (v : Int) (h0 : 0 ≤ v) (h1 : v ≤ 18446744073709551615) : num (bytesOf v 8) = v := by
  obtain ⟨m, rfl⟩ := Int.eq_ofNat_of_zero_le h0
  rw [num_bytesOf m 8]
  have e : (256 : Nat) ^ 8 = 18446744073709551616 := by decide
  rw [e]; omega

theorem flat_at (n : Nat) : ∀ (l : List Int) (k : Nat), k < l.length → ((flat n l).drop (n * k)).take n = bytesOf (l[k]?.getD 0) n
  | [], k, h => by simp at h
  | x :: r, 0, _ => by
    simp only [flat, Nat.mul_zero, List.drop_zero]
    rw [List.take_left' (bytesOf_length x n)]
    simp
  | x :: r, k + 1, h => by
    have hl : (bytesOf x n).length = n := bytesOf_length x n
    have e : n * (k + 1) = (bytesOf x n).length + n * k := by rw [hl, Nat.mul_add]; omega
    simp only [flat]
    rw [e, List.drop_length_add_append, flat_at n r k (by simpa using h)]
    simp

theorem got_flat (bs zs : List Int) (k : Nat) (h : k < zs.length) (h0 : 0 ≤ zs[k]?.getD 0) (h1 : zs[k]?.getD 0 ≤ 18446744073709551615) :
    got (bs ++ flat 8 zs) ((bs.length : Int) + 8 * (k : Int)) 8 = zs[k]?.getD 0 := by
  unfold got
  have hl : (flat 8 zs).length = zs.length * 8 := flat_length 8 zs
  rw [if_pos (by rw [List.length_append, hl]; omega)]
  have e : ((bs.length : Int) + 8 * (k : Int)).toNat = bs.length + 8 * k := by omega
  rw [e, List.drop_length_add_append, flat_at 8 zs k h]
  exact num_bytesOf_8 _ h0 h1

theorem has_flat (bs zs : List Int) (k : Nat) (h : k < zs.length) : has (bs ++ flat 8 zs) ((bs.length : Int) + 8 * (k : Int)) 8 = true := by
  unfold has
  have hl : (flat 8 zs).length = zs.length * 8 := flat_length 8 zs
  exact decide_eq_true (by rw [List.length_append, hl]; omega)

end Go.Proofs.Ytenpjddjoebljaa
