/- Contracts of the document's own immediates: they return what the plain functions say. -/
import Derived.Test.YtgjfelkbblbjfaaGreatDoorJ24
import Derived.Deep.QuietTactic
namespace Go.Proofs.YtgjfelkbblbjfaaGreatDoor
open Go.RowKit
set_option linter.unusedVariables false
set_option maxRecDepth 100000
set_option linter.unusedSimpArgs false

theorem rsign_any (x b : Int) (w : World) (h0 : 0 ≤ x) (h1 : x ≤ 18446744073709551615) (b0 : -9223372036854775808 ≤ b) (b1 : b ≤ 9223372036854775807) :
    Calls Tryz.prog 65 #[.int .u64 x, .int .i64 b] w fun e w' => e = .returned (.int .i64 (signOf x b)) ∧ w' = w := by
  by_cases hb : b < 1
  · go_enter Tryz.func65, Tryz.ntmps65
    go_wp2
    go_ret
    exact ⟨by unfold signOf; rw [if_pos hb]; rfl, rfl⟩
  · by_cases hc : b < 64
    · have H := hide (sgn_shift (k := b.toNat) (u := (64 - b).toNat) (by omega) (by omega) x)
      go_enter Tryz.func65, Tryz.ntmps65
      go_wp2
      go_ret
      exact ⟨by unfold signOf; rw [if_neg (by omega), show (min b 64).toNat = b.toNat by omega, ← H.out]; rfl, rfl⟩
    · go_enter Tryz.func65, Tryz.ntmps65
      go_wp2
      go_ret
      exact ⟨by unfold signOf; rw [if_neg (by omega), show (min b 64).toNat = 64 by omega, sgn64]; rfl, rfl⟩

theorem pow_le_32 {j : Nat} (h : j ≤ 32) : (2 : Int) ^ j ≤ 4294967296 := by
  have := Nat.pow_le_pow_right (n := 2) (by decide) h
  rw [two_cast]; omega

theorem bits_any (x h l : Int) (f n : Nat) (w : World) (h0 : 0 ≤ x) (h1 : x ≤ 4294967295) (hf : l = f) (hn : h - l + 1 = n) (hf1 : f ≤ 31) (hn1 : n ≤ 32) :
    Calls Tryz.prog 89 #[.int .u32 x, .int .i64 h, .int .i64 l] w fun e w' => e = .returned (.int .u64 (fld x f n 0)) ∧ ∃ m, w' = w.drewN m := by
  have c0 : (0 : Int) < 2 ^ (h - l + 1).toNat := Int.pow_pos (by decide)
  have c1 : (2 : Int) ^ (h - l + 1).toNat ≤ 4294967296 := pow_le_32 (by omega)
  have f0 : (0 : Int) < 2 ^ l.toNat := Int.pow_pos (by decide)
  have y0 : 0 ≤ x / 2 ^ l.toNat := Int.ediv_nonneg h0 (by omega)
  have y1 : x / 2 ^ l.toNat ≤ x := Int.ediv_le_self _ h0
  have hm := bits_mask .u64 64 (by decide) wraps_u64 (h - l + 1).toNat (by omega) (x / 2 ^ l.toNat) y0 (by omega)
  have e : fld x f n 0 = bits .and .u64 (x / 2 ^ l.toNat) (2 ^ (h - l + 1).toNat - 1) := by
    rw [hm]
    unfold fld
    rw [show l.toNat = f by omega, show (h - l + 1).toNat = n by omega]
    simp
  rw [e]
  clear hm e
  have l0 : 0 ≤ l := by omega
  have l1 : l ≤ 31 := by omega
  have g0 : 0 ≤ h - l + 1 := by omega
  have g1 : h - l + 1 ≤ 32 := by omega
  have r1 : IntKind.i64.wrap (h - l) = h - l := by rw [IntKind.wrap_i64]; omega
  have r2 : IntKind.i64.wrap (h - l + 1) = h - l + 1 := by rw [IntKind.wrap_i64]; omega
  have r3 : IntKind.u64.wrap (x / 2 ^ l.toNat) = x / 2 ^ l.toNat := by rw [IntKind.wrap_u64]; omega
  have r4 : IntKind.u64.wrap (2 ^ (h - l + 1).toNat) = 2 ^ (h - l + 1).toNat := by rw [IntKind.wrap_u64]; omega
  have r5 : IntKind.u64.wrap (2 ^ (h - l + 1).toNat - 1) = 2 ^ (h - l + 1).toNat - 1 := by rw [IntKind.wrap_u64]; omega
  clear hf hn hf1 hn1
  go_enter Tryz.func89, Tryz.ntmps89
  go_wp2_with fail
  go_quiet (fail)
  go_wp2
  go_ret
  exact ⟨rfl, _, rfl⟩

/-- One field set in a word. -/
def stp (x v : Int) (f n t : Nat) : Int := x - fld x t n t + fld v f n t

theorem mask_apart (m : Nat) (h : m ≤ 4294967295) : (4294967295 - m) &&& m = 0 := by
  have h2 := bv_nat (a := (m : Int)) (by omega) (by omega)
  have e1 : (bv (m : Int)).toNat = m := by omega
  have e : 4294967295 - m = (~~~ bv (m : Int)).toNat := by rw [BitVec.toNat_not]; omega
  have e2 : (~~~ bv (m : Int)) &&& bv (m : Int) = 0#32 := by
    ext i
    simp only [BitVec.getElem_and, BitVec.getElem_not, BitVec.getElem_zero]
    cases (bv (m : Int))[i] <;> rfl
  have e3 := congrArg BitVec.toNat e2
  rw [BitVec.toNat_and, e1, ← e] at e3
  simpa using e3

theorem mask_bd {n t : Nat} (ht : n + t ≤ 32) : (2 ^ n - 1) * 2 ^ t ≤ 4294967295 := by
  have e : 2 ^ n * 2 ^ t ≤ 2 ^ 32 := by rw [← Nat.pow_add]; exact Nat.pow_le_pow_right (by decide) ht
  have := Nat.two_pow_pos t
  rw [Nat.sub_mul, Nat.one_mul]; omega

theorem and_mask_u32 (y : Nat) (n t : Nat) (hy : y ≤ 4294967295) (ht : n + t ≤ 32) : bits .and .u32 y (((2 ^ n - 1) * 2 ^ t : Nat) : Int) = fld y t n t := by
  have hm := mask_bd ht
  rw [(bits_nat .u32 32 (by decide) wraps_u32 y _ (by omega) (by omega)).1, and_field, fld_nat]

theorem put_field (v : Int) (f n t : Nat) (ht : n + t ≤ 32) (hv : 0 ≤ v) : fld (v / 2 ^ f % 4294967296 * 2 ^ t % 4294967296) t n t = fld v f n t := by
  have t0 : (0 : Int) < 2 ^ t := Int.pow_pos (by decide)
  have e : (4294967296 : Int) = 2 ^ (32 - t) * 2 ^ t := by rw [← Int.pow_add, show 32 - t + t = 32 by omega]; rfl
  have d1 : (2 : Int) ^ n ∣ 2 ^ (32 - t) := ⟨2 ^ (32 - t - n), by rw [← Int.pow_add, show n + (32 - t - n) = 32 - t by omega]⟩
  have d2 : (2 : Int) ^ n ∣ 4294967296 := ⟨2 ^ (32 - n), by rw [← Int.pow_add, show n + (32 - n) = 32 by omega]; rfl⟩
  have e2 : v / 2 ^ f % 4294967296 * 2 ^ t % 4294967296 = v / 2 ^ f % 4294967296 % 2 ^ (32 - t) * 2 ^ t := by
    generalize v / 2 ^ f % 4294967296 = y
    rw [e, Int.mul_comm y, Int.mul_comm (2 ^ (32 - t)), Int.mul_emod_mul_of_pos _ _ t0, Int.mul_comm]
  unfold fld
  rw [e2, Int.mul_ediv_cancel _ (by omega), Int.emod_emod_of_dvd _ d1, Int.emod_emod_of_dvd _ d2]

theorem stp_val (x v : Int) (f n t : Nat) (h0 : 0 ≤ x) (h1 : x ≤ 4294967295) (hv : 0 ≤ v) (ht : n + t ≤ 32) :
    bits .or .u32 (bits .andNot .u32 x (((2 ^ n - 1) * 2 ^ t : Nat) : Int)) (bits .and .u32 (v / 2 ^ f % 4294967296 * 2 ^ t % 4294967296) (((2 ^ n - 1) * 2 ^ t : Nat) : Int)) = stp x v f n t := by
  have hm := mask_bd ht
  have y0 : 0 ≤ v / 2 ^ f % 4294967296 * 2 ^ t % 4294967296 := by omega
  have hy : v / 2 ^ f % 4294967296 * 2 ^ t % 4294967296 = ((v / 2 ^ f % 4294967296 * 2 ^ t % 4294967296).toNat : Int) := by omega
  have ea : bits .and .u32 (v / 2 ^ f % 4294967296 * 2 ^ t % 4294967296) (((2 ^ n - 1) * 2 ^ t : Nat) : Int) = fld v f n t := by
    have h := and_mask_u32 (v / 2 ^ f % 4294967296 * 2 ^ t % 4294967296).toNat n t (by omega) ht
    rw [← hy, put_field v f n t ht hv] at h
    exact h
  rw [ea, (not_lies x _ hm).or (fld_lies v f n t) (mask_apart _ hm) (by omega) (by omega), not_and x _ h0 h1 hm, and_field]
  unfold stp
  rw [← fld_nat, Int.toNat_of_nonneg h0]

theorem stp_bd (x v : Int) (f n t : Nat) (h0 : 0 ≤ x) (h1 : x ≤ 4294967295) (hv : 0 ≤ v) (ht : n + t ≤ 32) : 0 ≤ stp x v f n t ∧ stp x v f n t ≤ 4294967295 := by
  rw [← stp_val x v f n t h0 h1 hv ht]
  exact bits_bd ..

theorem rput_any (x v h l a : Int) (f n t : Nat) (w : World) (h0 : 0 ≤ x) (h1 : x ≤ 4294967295) (v0 : 0 ≤ v) (v1 : v ≤ 18446744073709551615) (hf : l = f) (hn : h - l + 1 = n) (ha : a = t) (hf1 : f ≤ 31) (hn1 : n ≤ 31) (hs : n + t ≤ 32) (ht1 : t ≤ 31) :
    Calls Tryz.prog 74 #[.int .u32 x, .int .u64 v, .int .i64 h, .int .i64 l, .int .i64 a] w fun e w' => e = .returned (.int .u32 (stp x v f n t)) ∧ w' = w := by
  have n0 : (0 : Int) < 2 ^ n := Int.pow_pos (by decide)
  have n1 : (2 : Int) ^ n ≤ 4294967296 := pow_le_32 (by omega)
  have hm := mask_bd hs
  have np := Nat.two_pow_pos n
  have em : (2 ^ (h - l + 1).toNat - 1) % 4294967296 * 2 ^ a.toNat % 4294967296 = (((2 ^ n - 1) * 2 ^ t : Nat) : Int) := by
    rw [show (h - l + 1).toNat = n by omega, show a.toNat = t by omega, Int.emod_eq_of_lt (a := 2 ^ n - 1) (by omega) (by omega)]
    have e : ((2 : Int) ^ n - 1) * 2 ^ t = (((2 ^ n - 1) * 2 ^ t : Nat) : Int) := by
      rw [Int.natCast_mul, Int.natCast_sub np, ← two_cast, ← two_cast]; rfl
    rw [e]
    omega
  have hv := stp_val x v f n t h0 h1 v0 hs
  rw [← em, show (2 : Int) ^ t = 2 ^ a.toNat by rw [show a.toNat = t by omega], show (2 : Int) ^ f = 2 ^ l.toNat by rw [show l.toNat = f by omega]] at hv
  have E := hide hv
  clear hv em hm np
  have l0 : 0 ≤ l := by omega
  have l1 : l ≤ 31 := by omega
  have g0 : 0 ≤ h - l + 1 := by omega
  have g1 : h - l + 1 ≤ 31 := by omega
  have k0 : 0 ≤ a := by omega
  have k1 : a ≤ 31 := by omega
  clear hf hn ha n0 n1
  go_enter Tryz.func74, Tryz.ntmps74
  go_wp2
  go_ret
  exact ⟨by rw [← E.out]; rfl, rfl⟩

theorem fld_emod (v : Int) (f n t m : Nat) (h : f + n ≤ m) : fld (v % 2 ^ m) f n t = fld v f n t := by
  have f0 : (2 : Int) ^ f ≠ 0 := by have : (0 : Int) < 2 ^ f := Int.pow_pos (by decide); omega
  have e : (2 : Int) ^ m = 2 ^ f * (2 ^ n * 2 ^ (m - f - n)) := by rw [← Int.pow_add, ← Int.pow_add, show f + (n + (m - f - n)) = m by omega]
  have e1 : v = v % 2 ^ m + 2 ^ f * (2 ^ n * (2 ^ (m - f - n) * (v / 2 ^ m))) := by
    have := Int.emod_add_mul_ediv v (2 ^ m)
    have e2 : 2 ^ f * (2 ^ n * (2 ^ (m - f - n) * (v / 2 ^ m))) = 2 ^ m * (v / 2 ^ m) := by rw [← Int.mul_assoc (2 ^ n), ← Int.mul_assoc (2 ^ f), ← e]
    rw [e2]; omega
  unfold fld
  generalize v % 2 ^ m = r at *
  rw [e1, Int.add_mul_ediv_left _ _ f0, Int.add_mul_emod_self_left]

theorem fld64 (v : Int) (f n t : Nat) (h : f + n ≤ 64) : fld (v % 18446744073709551616) f n t = fld v f n t := fld_emod v f n t 64 h

theorem stps1 (x v : Int) (h0 : 0 ≤ x) (h1 : x ≤ 4294967295) : stp x (v % 18446744073709551616) 0 12 20 = setOf 1 x v := by
  unfold stp; rw [fld64 _ _ _ _ (by decide)]; rfl
theorem stps4 (x v : Int) (h0 : 0 ≤ x) (h1 : x ≤ 4294967295) : stp x (v % 18446744073709551616) 0 20 12 = setOf 4 x v := by
  unfold stp; rw [fld64 _ _ _ _ (by decide)]; rfl
theorem stps2 (x v : Int) (h0 : 0 ≤ x) (h1 : x ≤ 4294967295) : stp (stp x (v % 18446744073709551616) 5 7 25) (v % 18446744073709551616) 0 5 7 = setOf 2 x v := by
  have e1 : setOf 2 x v = x - (fld x 25 7 25 + fld x 7 5 7) + (fld v 5 7 25 + fld v 0 5 7) := rfl
  have l1 := (fld_lies v 5 7 25).1
  rw [e1]
  unfold stp
  rw [fld64 _ _ _ _ (by decide), fld64 _ _ _ _ (by decide)]
  have e2 : fld (x - fld x 25 7 25 + fld v 5 7 25) 7 5 7 = fld x 7 5 7 := by
    simp only [fld]
    simp
    omega
  rw [e2]; omega
theorem stps3 (x v : Int) (h0 : 0 ≤ x) (h1 : x ≤ 4294967295) :
    stp (stp (stp (stp x (v % 18446744073709551616) 12 1 31) (v % 18446744073709551616) 11 1 7) (v % 18446744073709551616) 5 6 25) (v % 18446744073709551616) 1 4 8 = setOf 3 x v := by
  obtain ⟨a, b, c, d, e, g, hx, ha, hb, hc, hd, he, hg⟩ := decB h0 h1
  obtain ⟨q, a', b', d', e', z, hv, ha', hb', hd', he', hz⟩ := decBv v
  rw [set3 hx ha hb hc hd he hg hv ha' hb' hd' he' hz]
  obtain ⟨g1, g2, g3, g4⟩ := flBv hv ha' hb' hd' he' hz
  have v1 : fld (v % 18446744073709551616) 12 1 31 = a' * 2147483648 := by rw [fld64 _ _ _ _ (by decide)]; simp [fld, g1]
  have v2 : fld (v % 18446744073709551616) 11 1 7 = e' * 128 := by rw [fld64 _ _ _ _ (by decide)]; simp [fld, g4]
  have v3 : fld (v % 18446744073709551616) 5 6 25 = b' * 33554432 := by rw [fld64 _ _ _ _ (by decide)]; simp [fld, g2]
  have v4 : fld (v % 18446744073709551616) 1 4 8 = d' * 256 := by rw [fld64 _ _ _ _ (by decide)]; simp [fld, g3]
  have s1 : stp x (v % 18446744073709551616) 12 1 31 = 2147483648 * a' + 33554432 * b + 4096 * c + 256 * d + 128 * e + g := by
    obtain ⟨f1, f2, f3, f4⟩ := flB hx ha hb hc hd he hg
    have : fld x 31 1 31 = a * 2147483648 := by simp [fld, f1]
    unfold stp; rw [v1, this]; omega
  generalize stp x (v % 18446744073709551616) 12 1 31 = x1 at *
  have s2 : stp x1 (v % 18446744073709551616) 11 1 7 = 2147483648 * a' + 33554432 * b + 4096 * c + 256 * d + 128 * e' + g := by
    obtain ⟨f1, f2, f3, f4⟩ := flB s1 ha' hb hc hd he hg
    have : fld x1 7 1 7 = e * 128 := by simp [fld, f4]
    unfold stp; rw [v2, this]; omega
  generalize stp x1 (v % 18446744073709551616) 11 1 7 = x2 at *
  have s3 : stp x2 (v % 18446744073709551616) 5 6 25 = 2147483648 * a' + 33554432 * b' + 4096 * c + 256 * d + 128 * e' + g := by
    obtain ⟨f1, f2, f3, f4⟩ := flB s2 ha' hb hc hd he' hg
    have : fld x2 25 6 25 = b * 33554432 := by simp [fld, f2]
    unfold stp; rw [v3, this]; omega
  generalize stp x2 (v % 18446744073709551616) 5 6 25 = x3 at *
  obtain ⟨f1, f2, f3, f4⟩ := flB s3 ha' hb' hc hd he' hg
  have : fld x3 8 4 8 = d * 256 := by simp [fld, f3]
  unfold stp; rw [v4, this]; omega
theorem stps5 (x v : Int) (h0 : 0 ≤ x) (h1 : x ≤ 4294967295) :
    stp (stp (stp (stp x (v % 18446744073709551616) 20 1 31) (v % 18446744073709551616) 12 8 12) (v % 18446744073709551616) 11 1 20) (v % 18446744073709551616) 1 10 21 = setOf 5 x v := by
  obtain ⟨a, b, c, d, g, hx, ha, hb, hc, hd, hg⟩ := decJ h0 h1
  obtain ⟨q, a', b', c', d', z, hv, ha', hb', hc', hd', hz⟩ := decJv v
  rw [set5 hx ha hb hc hd hg hv ha' hb' hc' hd' hz]
  obtain ⟨g1, g2, g3, g4⟩ := flJv hv ha' hb' hc' hd' hz
  have v1 : fld (v % 18446744073709551616) 20 1 31 = a' * 2147483648 := by rw [fld64 _ _ _ _ (by decide)]; simp [fld, g1]
  have v2 : fld (v % 18446744073709551616) 12 8 12 = d' * 4096 := by rw [fld64 _ _ _ _ (by decide)]; simp [fld, g4]
  have v3 : fld (v % 18446744073709551616) 11 1 20 = c' * 1048576 := by rw [fld64 _ _ _ _ (by decide)]; simp [fld, g3]
  have v4 : fld (v % 18446744073709551616) 1 10 21 = b' * 2097152 := by rw [fld64 _ _ _ _ (by decide)]; simp [fld, g2]
  have s1 : stp x (v % 18446744073709551616) 20 1 31 = 2147483648 * a' + 2097152 * b + 1048576 * c + 4096 * d + g := by
    obtain ⟨f1, f2, f3, f4⟩ := flJ hx ha hb hc hd hg
    have : fld x 31 1 31 = a * 2147483648 := by simp [fld, f1]
    unfold stp; rw [v1, this]; omega
  generalize stp x (v % 18446744073709551616) 20 1 31 = x1 at *
  have s2 : stp x1 (v % 18446744073709551616) 12 8 12 = 2147483648 * a' + 2097152 * b + 1048576 * c + 4096 * d' + g := by
    obtain ⟨f1, f2, f3, f4⟩ := flJ s1 ha' hb hc hd hg
    have : fld x1 12 8 12 = d * 4096 := by simp [fld, f4]
    unfold stp; rw [v2, this]; omega
  generalize stp x1 (v % 18446744073709551616) 12 8 12 = x2 at *
  have s3 : stp x2 (v % 18446744073709551616) 11 1 20 = 2147483648 * a' + 2097152 * b + 1048576 * c' + 4096 * d' + g := by
    obtain ⟨f1, f2, f3, f4⟩ := flJ s2 ha' hb hc hd' hg
    have : fld x2 20 1 20 = c * 1048576 := by simp [fld, f3]
    unfold stp; rw [v3, this]; omega
  generalize stp x2 (v % 18446744073709551616) 11 1 20 = x3 at *
  obtain ⟨f1, f2, f3, f4⟩ := flJ s3 ha' hb hc' hd' hg
  have : fld x3 21 10 21 = b * 2097152 := by simp [fld, f2]
  unfold stp; rw [v4, this]; omega

theorem and_one_i64 {v : Int} (v0 : -9223372036854775808 ≤ v) (v1 : v ≤ 9223372036854775807) : bits .and .i64 v 1 = v % 2 := by
  show IntKind.i64.wrap ((BitVec.ofInt 64 v &&& BitVec.ofInt 64 1).toNat : Int) = _
  have h1 : (BitVec.ofInt 64 1).toNat = 2 ^ 1 - 1 := by decide
  have h2 : ((BitVec.ofInt 64 v).toNat : Int) = v % 18446744073709551616 := by simp [BitVec.toNat_ofInt]; omega
  rw [BitVec.toNat_and, h1, Nat.and_two_pow_sub_one_eq_mod, IntKind.wrap_i64]
  omega


theorem rget1 (x : Int) (w : World) (h0 : 0 ≤ x) (h1 : x ≤ 4294967295) :
    Calls Tryz.prog 90 #[.int .i64 1, .int .u32 x] w fun e w' => e = .returned (.int .i64 (getOf 1 x)) ∧ ∃ m, w' = w.drewN m := by
  have b0 := hide (fun W : World => bits_any x 31 20 20 12 W h0 h1 (by decide) (by decide) (by decide) (by decide))
  have u0 : 0 ≤ fld x 20 12 0 ∧ fld x 20 12 0 ≤ 4095 := by simp only [fld]; omega
  have d0 : fld x 20 12 0 = fld x 20 12 0 * 1 := by simp [fld]
  have e : getOf 1 x = sgn 12 (fld x 20 12 0) := rfl
  rw [d0] at e
  rw [e]
  clear e d0
  generalize fld x 20 12 0 = y0 at *
  have er : y0 * 1 = y0 := by omega
  rw [er]
  clear er
  have cs := fun W : World => rsign_any (y0) 12 W (by omega) (by omega) (by decide) (by decide)
  rw [show signOf (y0) 12 = sgn 12 (y0) from rfl] at cs
  have CS := hide cs
  clear cs
  go_enter Tryz.func90, Tryz.ntmps90
  go_wp2_with fail
  refine (b0.out _).mono ?_
  rintro e W ⟨rfl, n0, hW⟩
  rw [hW]
  clear hW W
  go_wp2_with fail
  refine (CS.out _).mono ?_
  rintro e W ⟨rfl, hW⟩
  rw [hW]
  clear hW W
  go_wp2
  go_ret
  exact ⟨rfl, n0, rfl⟩

theorem rget2 (x : Int) (w : World) (h0 : 0 ≤ x) (h1 : x ≤ 4294967295) :
    Calls Tryz.prog 90 #[.int .i64 2, .int .u32 x] w fun e w' => e = .returned (.int .i64 (getOf 2 x)) ∧ ∃ m, w' = w.drewN m := by
  have b0 := hide (fun W : World => bits_any x 31 25 25 7 W h0 h1 (by decide) (by decide) (by decide) (by decide))
  have u0 : 0 ≤ fld x 25 7 0 ∧ fld x 25 7 0 ≤ 127 := by simp only [fld]; omega
  have d0 : fld x 25 7 5 = fld x 25 7 0 * 32 := by simp [fld]
  have b1 := hide (fun W : World => bits_any x 11 7 7 5 W h0 h1 (by decide) (by decide) (by decide) (by decide))
  have u1 : 0 ≤ fld x 7 5 0 ∧ fld x 7 5 0 ≤ 31 := by simp only [fld]; omega
  have d1 : fld x 7 5 0 = fld x 7 5 0 * 1 := by simp [fld]
  have e : getOf 2 x = sgn 12 (fld x 25 7 5 + fld x 7 5 0) := rfl
  rw [d0, d1] at e
  rw [e]
  clear e d0 d1
  generalize fld x 25 7 0 = y0 at *
  generalize fld x 7 5 0 = y1 at *
  have q1 := hide (bits_join .u64 64 (by decide) wraps_u64 5 (y0 * 32) (y1) (by omega) (by omega) (by omega) (by omega) (by omega) (by omega))
  have er : y0 * 32 + y1 * 1 = y0 * 32 + y1 := by omega
  rw [er]
  clear er
  have cs := fun W : World => rsign_any (y0 * 32 + y1) 12 W (by omega) (by omega) (by decide) (by decide)
  rw [show signOf (y0 * 32 + y1) 12 = sgn 12 (y0 * 32 + y1) from rfl] at cs
  have CS := hide cs
  clear cs
  go_enter Tryz.func90, Tryz.ntmps90
  go_wp2_with fail
  refine (b0.out _).mono ?_
  rintro e W ⟨rfl, n0, hW⟩
  rw [hW]
  clear hW W
  go_wp2_with fail
  refine (b1.out _).mono ?_
  rintro e W ⟨rfl, n1, hW⟩
  rw [hW]
  clear hW W
  go_wp2_with fail
  rw [q1.out]
  refine (CS.out _).mono ?_
  rintro e W ⟨rfl, hW⟩
  rw [hW]
  clear hW W
  go_wp2
  go_ret
  exact ⟨rfl, n0 + n1, by simp only [World.drewN_drewN]⟩

theorem rget3 (x : Int) (w : World) (h0 : 0 ≤ x) (h1 : x ≤ 4294967295) :
    Calls Tryz.prog 90 #[.int .i64 3, .int .u32 x] w fun e w' => e = .returned (.int .i64 (getOf 3 x)) ∧ ∃ m, w' = w.drewN m := by
  have b0 := hide (fun W : World => bits_any x 31 31 31 1 W h0 h1 (by decide) (by decide) (by decide) (by decide))
  have u0 : 0 ≤ fld x 31 1 0 ∧ fld x 31 1 0 ≤ 1 := by simp only [fld]; omega
  have d0 : fld x 31 1 12 = fld x 31 1 0 * 4096 := by simp [fld]
  have b1 := hide (fun W : World => bits_any x 7 7 7 1 W h0 h1 (by decide) (by decide) (by decide) (by decide))
  have u1 : 0 ≤ fld x 7 1 0 ∧ fld x 7 1 0 ≤ 1 := by simp only [fld]; omega
  have d1 : fld x 7 1 11 = fld x 7 1 0 * 2048 := by simp [fld]
  have b2 := hide (fun W : World => bits_any x 30 25 25 6 W h0 h1 (by decide) (by decide) (by decide) (by decide))
  have u2 : 0 ≤ fld x 25 6 0 ∧ fld x 25 6 0 ≤ 63 := by simp only [fld]; omega
  have d2 : fld x 25 6 5 = fld x 25 6 0 * 32 := by simp [fld]
  have b3 := hide (fun W : World => bits_any x 11 8 8 4 W h0 h1 (by decide) (by decide) (by decide) (by decide))
  have u3 : 0 ≤ fld x 8 4 0 ∧ fld x 8 4 0 ≤ 15 := by simp only [fld]; omega
  have d3 : fld x 8 4 1 = fld x 8 4 0 * 2 := by simp [fld]
  have e : getOf 3 x = sgn 13 (fld x 31 1 12 + fld x 7 1 11 + fld x 25 6 5 + fld x 8 4 1) := rfl
  rw [d0, d1, d2, d3] at e
  rw [e]
  clear e d0 d1 d2 d3
  generalize fld x 31 1 0 = y0 at *
  generalize fld x 7 1 0 = y1 at *
  generalize fld x 25 6 0 = y2 at *
  generalize fld x 8 4 0 = y3 at *
  have q1 := hide (bits_join .u64 64 (by decide) wraps_u64 12 (y0 * 4096) (y1 * 2048) (by omega) (by omega) (by omega) (by omega) (by omega) (by omega))
  have q2 := hide (bits_join .u64 64 (by decide) wraps_u64 11 (y0 * 4096 + y1 * 2048) (y2 * 32) (by omega) (by omega) (by omega) (by omega) (by omega) (by omega))
  have q3 := hide (bits_join .u64 64 (by decide) wraps_u64 5 (y0 * 4096 + y1 * 2048 + y2 * 32) (y3 * 2) (by omega) (by omega) (by omega) (by omega) (by omega) (by omega))
  have er : y0 * 4096 + y1 * 2048 + y2 * 32 + y3 * 2 = y0 * 4096 + y1 * 2048 + y2 * 32 + y3 * 2 := by omega
  rw [er]
  clear er
  have cs := fun W : World => rsign_any (y0 * 4096 + y1 * 2048 + y2 * 32 + y3 * 2) 13 W (by omega) (by omega) (by decide) (by decide)
  rw [show signOf (y0 * 4096 + y1 * 2048 + y2 * 32 + y3 * 2) 13 = sgn 13 (y0 * 4096 + y1 * 2048 + y2 * 32 + y3 * 2) from rfl] at cs
  have CS := hide cs
  clear cs
  go_enter Tryz.func90, Tryz.ntmps90
  go_wp2_with fail
  refine (b0.out _).mono ?_
  rintro e W ⟨rfl, n0, hW⟩
  rw [hW]
  clear hW W
  go_wp2_with fail
  refine (b1.out _).mono ?_
  rintro e W ⟨rfl, n1, hW⟩
  rw [hW]
  clear hW W
  go_wp2_with fail
  refine (b2.out _).mono ?_
  rintro e W ⟨rfl, n2, hW⟩
  rw [hW]
  clear hW W
  go_wp2_with fail
  refine (b3.out _).mono ?_
  rintro e W ⟨rfl, n3, hW⟩
  rw [hW]
  clear hW W
  go_wp2_with fail
  rw [q1.out]
  rw [q2.out]
  rw [q3.out]
  refine (CS.out _).mono ?_
  rintro e W ⟨rfl, hW⟩
  rw [hW]
  clear hW W
  go_wp2
  go_ret
  exact ⟨rfl, n0 + n1 + n2 + n3, by simp only [World.drewN_drewN]⟩

theorem rget4 (x : Int) (w : World) (h0 : 0 ≤ x) (h1 : x ≤ 4294967295) :
    Calls Tryz.prog 90 #[.int .i64 4, .int .u32 x] w fun e w' => e = .returned (.int .i64 (getOf 4 x)) ∧ ∃ m, w' = w.drewN m := by
  have b0 := hide (fun W : World => bits_any x 31 12 12 20 W h0 h1 (by decide) (by decide) (by decide) (by decide))
  have u0 : 0 ≤ fld x 12 20 0 ∧ fld x 12 20 0 ≤ 1048575 := by simp only [fld]; omega
  have d0 : fld x 12 20 0 = fld x 12 20 0 * 1 := by simp [fld]
  have e : getOf 4 x = sgn 20 (fld x 12 20 0) := rfl
  rw [d0] at e
  rw [e]
  clear e d0
  generalize fld x 12 20 0 = y0 at *
  have er : y0 * 1 = y0 := by omega
  rw [er]
  clear er
  have cs := fun W : World => rsign_any (y0) 20 W (by omega) (by omega) (by decide) (by decide)
  rw [show signOf (y0) 20 = sgn 20 (y0) from rfl] at cs
  have CS := hide cs
  clear cs
  go_enter Tryz.func90, Tryz.ntmps90
  go_wp2_with fail
  refine (b0.out _).mono ?_
  rintro e W ⟨rfl, n0, hW⟩
  rw [hW]
  clear hW W
  go_wp2_with fail
  refine (CS.out _).mono ?_
  rintro e W ⟨rfl, hW⟩
  rw [hW]
  clear hW W
  go_wp2
  go_ret
  exact ⟨rfl, n0, rfl⟩

theorem rget5 (x : Int) (w : World) (h0 : 0 ≤ x) (h1 : x ≤ 4294967295) :
    Calls Tryz.prog 90 #[.int .i64 5, .int .u32 x] w fun e w' => e = .returned (.int .i64 (getOf 5 x)) ∧ ∃ m, w' = w.drewN m := by
  have b0 := hide (fun W : World => bits_any x 31 31 31 1 W h0 h1 (by decide) (by decide) (by decide) (by decide))
  have u0 : 0 ≤ fld x 31 1 0 ∧ fld x 31 1 0 ≤ 1 := by simp only [fld]; omega
  have d0 : fld x 31 1 20 = fld x 31 1 0 * 1048576 := by simp [fld]
  have b1 := hide (fun W : World => bits_any x 19 12 12 8 W h0 h1 (by decide) (by decide) (by decide) (by decide))
  have u1 : 0 ≤ fld x 12 8 0 ∧ fld x 12 8 0 ≤ 255 := by simp only [fld]; omega
  have d1 : fld x 12 8 12 = fld x 12 8 0 * 4096 := by simp [fld]
  have b2 := hide (fun W : World => bits_any x 20 20 20 1 W h0 h1 (by decide) (by decide) (by decide) (by decide))
  have u2 : 0 ≤ fld x 20 1 0 ∧ fld x 20 1 0 ≤ 1 := by simp only [fld]; omega
  have d2 : fld x 20 1 11 = fld x 20 1 0 * 2048 := by simp [fld]
  have b3 := hide (fun W : World => bits_any x 30 21 21 10 W h0 h1 (by decide) (by decide) (by decide) (by decide))
  have u3 : 0 ≤ fld x 21 10 0 ∧ fld x 21 10 0 ≤ 1023 := by simp only [fld]; omega
  have d3 : fld x 21 10 1 = fld x 21 10 0 * 2 := by simp [fld]
  have e : getOf 5 x = sgn 21 (fld x 31 1 20 + fld x 12 8 12 + fld x 20 1 11 + fld x 21 10 1) := rfl
  rw [d0, d1, d2, d3] at e
  rw [e]
  clear e d0 d1 d2 d3
  generalize fld x 31 1 0 = y0 at *
  generalize fld x 12 8 0 = y1 at *
  generalize fld x 20 1 0 = y2 at *
  generalize fld x 21 10 0 = y3 at *
  have q1 := hide (bits_join .u64 64 (by decide) wraps_u64 20 (y0 * 1048576) (y1 * 4096) (by omega) (by omega) (by omega) (by omega) (by omega) (by omega))
  have q2 := hide (bits_join .u64 64 (by decide) wraps_u64 12 (y0 * 1048576 + y1 * 4096) (y2 * 2048) (by omega) (by omega) (by omega) (by omega) (by omega) (by omega))
  have q3 := hide (bits_join .u64 64 (by decide) wraps_u64 11 (y0 * 1048576 + y1 * 4096 + y2 * 2048) (y3 * 2) (by omega) (by omega) (by omega) (by omega) (by omega) (by omega))
  have er : y0 * 1048576 + y1 * 4096 + y2 * 2048 + y3 * 2 = y0 * 1048576 + y1 * 4096 + y2 * 2048 + y3 * 2 := by omega
  rw [er]
  clear er
  have cs := fun W : World => rsign_any (y0 * 1048576 + y1 * 4096 + y2 * 2048 + y3 * 2) 21 W (by omega) (by omega) (by decide) (by decide)
  rw [show signOf (y0 * 1048576 + y1 * 4096 + y2 * 2048 + y3 * 2) 21 = sgn 21 (y0 * 1048576 + y1 * 4096 + y2 * 2048 + y3 * 2) from rfl] at cs
  have CS := hide cs
  clear cs
  go_enter Tryz.func90, Tryz.ntmps90
  go_wp2_with fail
  refine (b0.out _).mono ?_
  rintro e W ⟨rfl, n0, hW⟩
  rw [hW]
  clear hW W
  go_wp2_with fail
  refine (b1.out _).mono ?_
  rintro e W ⟨rfl, n1, hW⟩
  rw [hW]
  clear hW W
  go_wp2_with fail
  refine (b2.out _).mono ?_
  rintro e W ⟨rfl, n2, hW⟩
  rw [hW]
  clear hW W
  go_wp2_with fail
  refine (b3.out _).mono ?_
  rintro e W ⟨rfl, n3, hW⟩
  rw [hW]
  clear hW W
  go_wp2_with fail
  rw [q1.out]
  rw [q2.out]
  rw [q3.out]
  refine (CS.out _).mono ?_
  rintro e W ⟨rfl, hW⟩
  rw [hW]
  clear hW W
  go_wp2
  go_ret
  exact ⟨rfl, n0 + n1 + n2 + n3, by simp only [World.drewN_drewN]⟩

theorem rset1 (x v : Int) (w : World) (h0 : 0 ≤ x) (h1 : x ≤ 4294967295) (v0 : -9223372036854775808 ≤ v) (v1 : v ≤ 9223372036854775807) :
    Calls Tryz.prog 55 #[.int .i64 1, .int .u32 x, .int .i64 v] w fun e w' => e = .returned (.int .u32 (setOf 1 x v)) ∧ w' = w := by
  rw [← stps1 x v h0 h1]
  have c0 := hide (fun W : World => rput_any x (v % 18446744073709551616) 11 0 20 0 12 20 W h0 h1 (by omega) (by omega) (by decide) (by decide) (by decide) (by decide) (by decide) (by decide) (by decide))
  have t0 := stp_bd x (v % 18446744073709551616) 0 12 20 h0 h1 (by omega) (by decide)
  generalize stp x (v % 18446744073709551616) 0 12 20 = x0 at *
  go_enter Tryz.func55, Tryz.ntmps55
  go_wp2_with fail
  refine (c0.out _).mono ?_
  rintro e W ⟨rfl, hW⟩
  rw [hW]
  clear hW W
  go_wp2
  go_ret
  exact ⟨rfl, rfl⟩

theorem rset2 (x v : Int) (w : World) (h0 : 0 ≤ x) (h1 : x ≤ 4294967295) (v0 : -9223372036854775808 ≤ v) (v1 : v ≤ 9223372036854775807) :
    Calls Tryz.prog 55 #[.int .i64 2, .int .u32 x, .int .i64 v] w fun e w' => e = .returned (.int .u32 (setOf 2 x v)) ∧ w' = w := by
  rw [← stps2 x v h0 h1]
  have c0 := hide (fun W : World => rput_any x (v % 18446744073709551616) 11 5 25 5 7 25 W h0 h1 (by omega) (by omega) (by decide) (by decide) (by decide) (by decide) (by decide) (by decide) (by decide))
  have t0 := stp_bd x (v % 18446744073709551616) 5 7 25 h0 h1 (by omega) (by decide)
  generalize stp x (v % 18446744073709551616) 5 7 25 = x0 at *
  have c1 := hide (fun W : World => rput_any x0 (v % 18446744073709551616) 4 0 7 0 5 7 W t0.1 t0.2 (by omega) (by omega) (by decide) (by decide) (by decide) (by decide) (by decide) (by decide) (by decide))
  have t1 := stp_bd x0 (v % 18446744073709551616) 0 5 7 t0.1 t0.2 (by omega) (by decide)
  generalize stp x0 (v % 18446744073709551616) 0 5 7 = x1 at *
  go_enter Tryz.func55, Tryz.ntmps55
  go_wp2_with fail
  refine (c0.out _).mono ?_
  rintro e W ⟨rfl, hW⟩
  rw [hW]
  clear hW W
  go_wp2_with fail
  refine (c1.out _).mono ?_
  rintro e W ⟨rfl, hW⟩
  rw [hW]
  clear hW W
  go_wp2
  go_ret
  exact ⟨rfl, rfl⟩

theorem rset3 (x v : Int) (w : World) (h0 : 0 ≤ x) (h1 : x ≤ 4294967295) (v0 : -9223372036854775808 ≤ v) (v1 : v ≤ 9223372036854775807) :
    Calls Tryz.prog 55 #[.int .i64 3, .int .u32 x, .int .i64 v] w fun e w' => e = .returned (.int .u32 (setOf 3 x v)) ∧ w' = w := by
  rw [← stps3 x v h0 h1]
  have c0 := hide (fun W : World => rput_any x (v % 18446744073709551616) 12 12 31 12 1 31 W h0 h1 (by omega) (by omega) (by decide) (by decide) (by decide) (by decide) (by decide) (by decide) (by decide))
  have t0 := stp_bd x (v % 18446744073709551616) 12 1 31 h0 h1 (by omega) (by decide)
  generalize stp x (v % 18446744073709551616) 12 1 31 = x0 at *
  have c1 := hide (fun W : World => rput_any x0 (v % 18446744073709551616) 11 11 7 11 1 7 W t0.1 t0.2 (by omega) (by omega) (by decide) (by decide) (by decide) (by decide) (by decide) (by decide) (by decide))
  have t1 := stp_bd x0 (v % 18446744073709551616) 11 1 7 t0.1 t0.2 (by omega) (by decide)
  generalize stp x0 (v % 18446744073709551616) 11 1 7 = x1 at *
  have c2 := hide (fun W : World => rput_any x1 (v % 18446744073709551616) 10 5 25 5 6 25 W t1.1 t1.2 (by omega) (by omega) (by decide) (by decide) (by decide) (by decide) (by decide) (by decide) (by decide))
  have t2 := stp_bd x1 (v % 18446744073709551616) 5 6 25 t1.1 t1.2 (by omega) (by decide)
  generalize stp x1 (v % 18446744073709551616) 5 6 25 = x2 at *
  have c3 := hide (fun W : World => rput_any x2 (v % 18446744073709551616) 4 1 8 1 4 8 W t2.1 t2.2 (by omega) (by omega) (by decide) (by decide) (by decide) (by decide) (by decide) (by decide) (by decide))
  have t3 := stp_bd x2 (v % 18446744073709551616) 1 4 8 t2.1 t2.2 (by omega) (by decide)
  generalize stp x2 (v % 18446744073709551616) 1 4 8 = x3 at *
  go_enter Tryz.func55, Tryz.ntmps55
  go_wp2_with fail
  refine (c0.out _).mono ?_
  rintro e W ⟨rfl, hW⟩
  rw [hW]
  clear hW W
  go_wp2_with fail
  refine (c1.out _).mono ?_
  rintro e W ⟨rfl, hW⟩
  rw [hW]
  clear hW W
  go_wp2_with fail
  refine (c2.out _).mono ?_
  rintro e W ⟨rfl, hW⟩
  rw [hW]
  clear hW W
  go_wp2_with fail
  refine (c3.out _).mono ?_
  rintro e W ⟨rfl, hW⟩
  rw [hW]
  clear hW W
  go_wp2
  go_ret
  exact ⟨rfl, rfl⟩

theorem rset4 (x v : Int) (w : World) (h0 : 0 ≤ x) (h1 : x ≤ 4294967295) (v0 : -9223372036854775808 ≤ v) (v1 : v ≤ 9223372036854775807) :
    Calls Tryz.prog 55 #[.int .i64 4, .int .u32 x, .int .i64 v] w fun e w' => e = .returned (.int .u32 (setOf 4 x v)) ∧ w' = w := by
  rw [← stps4 x v h0 h1]
  have c0 := hide (fun W : World => rput_any x (v % 18446744073709551616) 19 0 12 0 20 12 W h0 h1 (by omega) (by omega) (by decide) (by decide) (by decide) (by decide) (by decide) (by decide) (by decide))
  have t0 := stp_bd x (v % 18446744073709551616) 0 20 12 h0 h1 (by omega) (by decide)
  generalize stp x (v % 18446744073709551616) 0 20 12 = x0 at *
  go_enter Tryz.func55, Tryz.ntmps55
  go_wp2_with fail
  refine (c0.out _).mono ?_
  rintro e W ⟨rfl, hW⟩
  rw [hW]
  clear hW W
  go_wp2
  go_ret
  exact ⟨rfl, rfl⟩

theorem rset5 (x v : Int) (w : World) (h0 : 0 ≤ x) (h1 : x ≤ 4294967295) (v0 : -9223372036854775808 ≤ v) (v1 : v ≤ 9223372036854775807) :
    Calls Tryz.prog 55 #[.int .i64 5, .int .u32 x, .int .i64 v] w fun e w' => e = .returned (.int .u32 (setOf 5 x v)) ∧ w' = w := by
  rw [← stps5 x v h0 h1]
  have c0 := hide (fun W : World => rput_any x (v % 18446744073709551616) 20 20 31 20 1 31 W h0 h1 (by omega) (by omega) (by decide) (by decide) (by decide) (by decide) (by decide) (by decide) (by decide))
  have t0 := stp_bd x (v % 18446744073709551616) 20 1 31 h0 h1 (by omega) (by decide)
  generalize stp x (v % 18446744073709551616) 20 1 31 = x0 at *
  have c1 := hide (fun W : World => rput_any x0 (v % 18446744073709551616) 19 12 12 12 8 12 W t0.1 t0.2 (by omega) (by omega) (by decide) (by decide) (by decide) (by decide) (by decide) (by decide) (by decide))
  have t1 := stp_bd x0 (v % 18446744073709551616) 12 8 12 t0.1 t0.2 (by omega) (by decide)
  generalize stp x0 (v % 18446744073709551616) 12 8 12 = x1 at *
  have c2 := hide (fun W : World => rput_any x1 (v % 18446744073709551616) 11 11 20 11 1 20 W t1.1 t1.2 (by omega) (by omega) (by decide) (by decide) (by decide) (by decide) (by decide) (by decide) (by decide))
  have t2 := stp_bd x1 (v % 18446744073709551616) 11 1 20 t1.1 t1.2 (by omega) (by decide)
  generalize stp x1 (v % 18446744073709551616) 11 1 20 = x2 at *
  have c3 := hide (fun W : World => rput_any x2 (v % 18446744073709551616) 10 1 21 1 10 21 W t2.1 t2.2 (by omega) (by omega) (by decide) (by decide) (by decide) (by decide) (by decide) (by decide) (by decide))
  have t3 := stp_bd x2 (v % 18446744073709551616) 1 10 21 t2.1 t2.2 (by omega) (by decide)
  generalize stp x2 (v % 18446744073709551616) 1 10 21 = x3 at *
  go_enter Tryz.func55, Tryz.ntmps55
  go_wp2_with fail
  refine (c0.out _).mono ?_
  rintro e W ⟨rfl, hW⟩
  rw [hW]
  clear hW W
  go_wp2_with fail
  refine (c1.out _).mono ?_
  rintro e W ⟨rfl, hW⟩
  rw [hW]
  clear hW W
  go_wp2_with fail
  refine (c2.out _).mono ?_
  rintro e W ⟨rfl, hW⟩
  rw [hW]
  clear hW W
  go_wp2_with fail
  refine (c3.out _).mono ?_
  rintro e W ⟨rfl, hW⟩
  rw [hW]
  clear hW W
  go_wp2
  go_ret
  exact ⟨rfl, rfl⟩

theorem rget_any (f x : Int) (w : World) (h0 : 0 ≤ x) (h1 : x ≤ 4294967295) :
    Calls Tryz.prog 90 #[.int .i64 f, .int .u32 x] w fun e w' => e = .returned (.int .i64 (getOf f x)) ∧ ∃ m, w' = w.drewN m := by
  refine forms (fun f => Calls Tryz.prog 90 #[.int .i64 f, .int .u32 x] w fun e w' => e = .returned (.int .i64 (getOf f x)) ∧ ∃ m, w' = w.drewN m) (rget1 x w h0 h1) (rget2 x w h0 h1) (rget3 x w h0 h1) (rget4 x w h0 h1) (rget5 x w h0 h1) ?_ f
  intro f e1 e2 e3 e4 e5
  have E := hide (show getOf f x = 0 by simp [getOf, e1, e2, e3, e4, e5])
  go_enter Tryz.func90, Tryz.ntmps90
  go_wp2
  go_ret
  exact ⟨by rw [E.out]; rfl, 0, rfl⟩

theorem rset_any (f x v : Int) (w : World) (h0 : 0 ≤ x) (h1 : x ≤ 4294967295) (v0 : -9223372036854775808 ≤ v) (v1 : v ≤ 9223372036854775807) :
    Calls Tryz.prog 55 #[.int .i64 f, .int .u32 x, .int .i64 v] w fun e w' => e = .returned (.int .u32 (setOf f x v)) ∧ w' = w := by
  refine forms (fun f => Calls Tryz.prog 55 #[.int .i64 f, .int .u32 x, .int .i64 v] w fun e w' => e = .returned (.int .u32 (setOf f x v)) ∧ w' = w) (rset1 x v w h0 h1 v0 v1) (rset2 x v w h0 h1 v0 v1) (rset3 x v w h0 h1 v0 v1) (rset4 x v w h0 h1 v0 v1) (rset5 x v w h0 h1 v0 v1) ?_ f
  intro f e1 e2 e3 e4 e5
  have E := hide (show setOf f x v = x by simp [setOf, mskOf, sprOf, e1, e2, e3, e4, e5])
  go_enter Tryz.func55, Tryz.ntmps55
  go_wp2
  go_ret
  exact ⟨by rw [E.out]; rfl, rfl⟩

theorem rfits_any (f v : Int) (w : World) (v0 : -9223372036854775808 ≤ v) (v1 : v ≤ 9223372036854775807) :
    Calls Tryz.prog 54 #[.int .i64 f, .int .i64 v] w fun e w' => e = .returned (.bool (fitsOf f v)) ∧ w' = w := by
  have A := hide (and_one_i64 v0 v1)
  refine forms (fun f => Calls Tryz.prog 54 #[.int .i64 f, .int .i64 v] w fun e w' => e = .returned (.bool (fitsOf f v)) ∧ w' = w) ?_ ?_ ?_ ?_ ?_ ?_ f
  case refine_6 =>
    intro f e1 e2 e3 e4 e5
    have E := hide (show fitsOf f v = decide (v = 0) by simp [fitsOf, e1, e2, e3, e4, e5])
    go_enter Tryz.func54, Tryz.ntmps54
    go_wp2
    go_ret
    exact ⟨ret_bool E.out.symm, rfl⟩
  all_goals
    go_enter Tryz.func54, Tryz.ntmps54
    go_wp2
  all_goals
    go_ret
    refine ⟨ret_bool ?_, rfl⟩
    try rw [A.out]
    rw [Bool.eq_iff_iff]
    simp [fitsOf]
    try omega

theorem rput2_any (f x v : Int) (w : World) (h0 : 0 ≤ x) (h1 : x ≤ 4294967295) (v0 : -9223372036854775808 ≤ v) (v1 : v ≤ 9223372036854775807) :
    Calls Tryz.prog 32 #[.int .i64 f, .int .u32 x, .int .i64 v] w fun e w' => e = .returned (.tuple #[.int .u32 (putOf f x v), .bool (fitsOf f v)]) ∧ w' = w := by
  have hf := rfits_any f v w v0 v1
  have hs := rset_any f x v w h0 h1 v0 v1
  have E : putOf f x v = if fitsOf f v = true then setOf f x v else 0 := rfl
  rw [E]
  have sb := set_bd f x v h0 h1
  clear E
  generalize setOf f x v = s at *
  generalize fitsOf f v = q at *
  have HF := hide hf
  have HS := hide hs
  clear hf hs
  cases q
  · go_enter Tryz.func32, Tryz.ntmps32
    go_wp2_with fail
    refine HF.out.mono ?_
    rintro e W ⟨rfl, hW⟩
    rw [hW]
    clear hW W
    go_wp2
    go_ret2
    exact ⟨rfl, rfl⟩
  · go_enter Tryz.func32, Tryz.ntmps32
    go_wp2_with fail
    refine HF.out.mono ?_
    rintro e W ⟨rfl, hW⟩
    rw [hW]
    clear hW W
    go_wp2_with fail
    refine HS.out.mono ?_
    rintro e W ⟨rfl, hW⟩
    rw [hW]
    clear hW W
    go_wp2
    go_ret2
    exact ⟨rfl, rfl⟩





end Go.Proofs.YtgjfelkbblbjfaaGreatDoor
