/- Contracts of package imm's calls: each returns what the plain functions say. -/
import Derived.Test.YtcghekkhbiomgaaGreatDoorImmPlain
namespace Go.Proofs.YtcghekkhbiomgaaGreatDoor
open Go.RowKit
set_option linter.unusedVariables false
set_option maxRecDepth 100000

theorem field_val {x : Int} {f n t : Nat} (h0 : 0 ≤ x) (h1 : x ≤ 4294967295) (hn : n ≤ 31) (ht : n + t ≤ 32) :
    bits .and .u32 (x / 2 ^ f) ((2 ^ n - 1) % 4294967296) * 2 ^ t % 4294967296 = fld x f n t := by
  have hn0 : (0 : Int) < 2 ^ n := Int.pow_pos (by decide)
  have hf0 : (0 : Int) < 2 ^ f := Int.pow_pos (by decide)
  have hn1 : (2 : Int) ^ n ≤ 2147483648 := by
    have := Nat.pow_le_pow_right (n := 2) (by decide) hn
    rw [two_cast]; omega
  have y0 : 0 ≤ x / 2 ^ f := Int.ediv_nonneg h0 (by omega)
  have y1 : x / 2 ^ f ≤ x := Int.ediv_le_self _ h0
  rw [Int.emod_eq_of_lt (a := 2 ^ n - 1) (by omega) (by omega), bits_mask .u32 32 (by decide) wraps_u32 n (by omega) _ y0 (by omega)]
  have hb := fld_lies x f n t
  have h2 := hb.1
  have h3 := hb.le
  have h4 : (2 ^ n - 1) * 2 ^ t < 2 ^ 32 := by
    have e : 2 ^ n * 2 ^ t ≤ 2 ^ 32 := by rw [← Nat.pow_add]; exact Nat.pow_le_pow_right (by decide) ht
    have := Nat.two_pow_pos t
    rw [Nat.sub_mul, Nat.one_mul]; omega
  unfold fld at *
  omega

theorem field_any (x : Int) (f n t : Nat) (w : World) (h0 : 0 ≤ x) (h1 : x ≤ 4294967295) (hf : f ≤ 31) (hn : n ≤ 31) (ht : n + t ≤ 32) (ht' : t ≤ 31) :
    Calls Tryz.prog 82 #[.int .u32 x, .int .u64 f, .int .u64 n, .int .u64 t] w fun e w' => e = .returned (.int .u32 (fld x f n t)) ∧ w' = w := by
  have H := hide (field_val (f := f) h0 h1 hn ht)
  go_enter Tryz.func82, Tryz.ntmps82
  go_wp2
  go_ret
  exact ⟨by rw [← H.out]; rfl, rfl⟩

theorem sign_any (x b : Int) (w : World) (h0 : 0 ≤ x) (h1 : x ≤ 18446744073709551615) (b0 : -9223372036854775808 ≤ b) (b1 : b ≤ 9223372036854775807) :
    Calls Tryz.prog 100 #[.int .u64 x, .int .i64 b] w fun e w' => e = .returned (.int .i64 (signOf x b)) ∧ w' = w := by
  by_cases hb : b < 1
  · go_enter Tryz.func100, Tryz.ntmps100
    go_wp2
    go_ret
    exact ⟨by unfold signOf; rw [if_pos hb]; rfl, rfl⟩
  · by_cases hc : b ≤ 64
    · have H := hide (sgn_shift (k := b.toNat) (u := (64 - b).toNat) (by omega) (by omega) x)
      go_enter Tryz.func100, Tryz.ntmps100
      go_wp2
      go_ret
      exact ⟨by unfold signOf; rw [if_neg (by omega), show (min b 64).toNat = b.toNat by omega, ← H.out]; rfl, rfl⟩
    · go_enter Tryz.func100, Tryz.ntmps100
      go_wp2
      go_ret
      exact ⟨by unfold signOf; rw [if_neg (by omega), show (min b 64).toNat = 64 by omega, sgn64]; rfl, rfl⟩

theorem sgn_of {x : Int} {b : Nat} (h0 : 1 ≤ b) (h1 : b ≤ 64) : signOf x b = sgn b x := by
  unfold signOf; rw [if_neg (by omega), show (min (b : Int) 64).toNat = b by omega]

theorem signed_any (x : Int) (b : Nat) (w : World) (h0 : 0 ≤ x) (h1 : x ≤ 4294967295) (b0 : 1 ≤ b) (b1 : b ≤ 32) :
    Calls Tryz.prog 81 #[.int .u32 x, .int .i64 b] w fun e w' => e = .returned (.int .i64 (sgn b x)) ∧ w' = w := by
  have hc := sign_any x b w h0 (by omega) (by omega) (by omega)
  rw [sgn_of b0 (by omega)] at hc
  go_enter Tryz.func81, Tryz.ntmps81
  go_wp2_with (go_at_call 100; refine hc.mono ?_; rintro e w' ⟨rfl, rfl⟩)
  go_ret
  exact ⟨rfl, rfl⟩

theorem get1 (x : Int) (w : World) (h0 : 0 ≤ x) (h1 : x ≤ 4294967295) :
    Calls Tryz.prog 62 #[.int .i64 1, .int .u32 x] w fun e w' => e = .returned (.int .i64 (getOf 1 x)) ∧ w' = w := by
  have l0 : Lies (fld x 20 12 0) 4095 := fld_lies x 20 12 0
  have hb0 := l0.1
  have hb1 := l0.le
  clear l0
  have E : Hid (getOf 1 x = sgn 12 (fld x 20 12 0)) := rfl
  have cs := hide (fun W : World => signed_any (fld x 20 12 0) 12 W hb0 (by omega) (by decide) (by decide))
  have cf := hide (fun (f n t : Nat) (hf : f ≤ 31) (hn : n ≤ 31) (ht : n + t ≤ 32) (ht' : t ≤ 31) (W : World) => field_any x f n t W h0 h1 hf hn ht ht')
  go_enter Tryz.func62, Tryz.ntmps62
  go_wp2_with fail
  refine (cf.out 20 12 0 (by decide) (by decide) (by decide) (by decide) _).mono ?_
  rintro e W ⟨rfl, hW⟩
  rw [hW]
  clear hW W
  go_wp2_with fail
  refine (cs.out _).mono ?_
  rintro e W ⟨rfl, hW⟩
  rw [hW]
  clear hW W
  go_wp2
  go_ret
  exact ⟨by rw [E.out]; rfl, rfl⟩

theorem spread1 (x : Int) (w : World) (h0 : 0 ≤ x) (h1 : x ≤ 4294967295) :
    Calls Tryz.prog 94 #[.int .i64 1, .int .u32 x] w fun e w' => e = .returned (.int .u32 (sprOf 1 x)) ∧ w' = w := by
  have l0 : Lies (fld x 0 12 20) 4293918720 := fld_lies x 0 12 20
  clear l0
  have E : Hid (sprOf 1 x = fld x 0 12 20) := rfl
  have cf := hide (fun (f n t : Nat) (hf : f ≤ 31) (hn : n ≤ 31) (ht : n + t ≤ 32) (ht' : t ≤ 31) (W : World) => field_any x f n t W h0 h1 hf hn ht ht')
  go_enter Tryz.func94, Tryz.ntmps94
  go_wp2_with fail
  refine (cf.out 0 12 20 (by decide) (by decide) (by decide) (by decide) _).mono ?_
  rintro e W ⟨rfl, hW⟩
  rw [hW]
  clear hW W
  go_wp2
  go_ret
  exact ⟨by rw [E.out]; rfl, rfl⟩

theorem get2 (x : Int) (w : World) (h0 : 0 ≤ x) (h1 : x ≤ 4294967295) :
    Calls Tryz.prog 62 #[.int .i64 2, .int .u32 x] w fun e w' => e = .returned (.int .i64 (getOf 2 x)) ∧ w' = w := by
  have l0 : Lies (fld x 25 7 5) 4064 := fld_lies x 25 7 5
  have k1 : Lies (fld x 7 5 0) 31 := fld_lies x 7 5 0
  have q1 := hide (l0.or k1 (by decide) (by decide) (by decide))
  have l1 : Lies ((fld x 25 7 5) + fld x 7 5 0) 4095 := l0.add k1 (by decide)
  have hb0 := l1.1
  have hb1 := l1.le
  clear l0 k1
  clear l1
  have E : Hid (getOf 2 x = sgn 12 (fld x 25 7 5 + fld x 7 5 0)) := rfl
  have cs := hide (fun W : World => signed_any (fld x 25 7 5 + fld x 7 5 0) 12 W hb0 (by omega) (by decide) (by decide))
  have cf := hide (fun (f n t : Nat) (hf : f ≤ 31) (hn : n ≤ 31) (ht : n + t ≤ 32) (ht' : t ≤ 31) (W : World) => field_any x f n t W h0 h1 hf hn ht ht')
  go_enter Tryz.func62, Tryz.ntmps62
  go_wp2_with fail
  refine (cf.out 25 7 5 (by decide) (by decide) (by decide) (by decide) _).mono ?_
  rintro e W ⟨rfl, hW⟩
  rw [hW]
  clear hW W
  go_wp2_with fail
  refine (cf.out 7 5 0 (by decide) (by decide) (by decide) (by decide) _).mono ?_
  rintro e W ⟨rfl, hW⟩
  rw [hW]
  clear hW W
  go_wp2_with fail
  rw [q1.out]
  refine (cs.out _).mono ?_
  rintro e W ⟨rfl, hW⟩
  rw [hW]
  clear hW W
  go_wp2
  go_ret
  exact ⟨by rw [E.out]; rfl, rfl⟩

theorem spread2 (x : Int) (w : World) (h0 : 0 ≤ x) (h1 : x ≤ 4294967295) :
    Calls Tryz.prog 94 #[.int .i64 2, .int .u32 x] w fun e w' => e = .returned (.int .u32 (sprOf 2 x)) ∧ w' = w := by
  have l0 : Lies (fld x 5 7 25) 4261412864 := fld_lies x 5 7 25
  have k1 : Lies (fld x 0 5 7) 3968 := fld_lies x 0 5 7
  have q1 := hide (l0.or k1 (by decide) (by decide) (by decide))
  have l1 : Lies ((fld x 5 7 25) + fld x 0 5 7) 4261416832 := l0.add k1 (by decide)
  clear l0 k1
  clear l1
  have E : Hid (sprOf 2 x = fld x 5 7 25 + fld x 0 5 7) := rfl
  have cf := hide (fun (f n t : Nat) (hf : f ≤ 31) (hn : n ≤ 31) (ht : n + t ≤ 32) (ht' : t ≤ 31) (W : World) => field_any x f n t W h0 h1 hf hn ht ht')
  go_enter Tryz.func94, Tryz.ntmps94
  go_wp2_with fail
  refine (cf.out 5 7 25 (by decide) (by decide) (by decide) (by decide) _).mono ?_
  rintro e W ⟨rfl, hW⟩
  rw [hW]
  clear hW W
  go_wp2_with fail
  refine (cf.out 0 5 7 (by decide) (by decide) (by decide) (by decide) _).mono ?_
  rintro e W ⟨rfl, hW⟩
  rw [hW]
  clear hW W
  go_wp2
  go_ret
  exact ⟨by rw [E.out, ← q1.out]; rfl, rfl⟩

theorem get3 (x : Int) (w : World) (h0 : 0 ≤ x) (h1 : x ≤ 4294967295) :
    Calls Tryz.prog 62 #[.int .i64 3, .int .u32 x] w fun e w' => e = .returned (.int .i64 (getOf 3 x)) ∧ w' = w := by
  have l0 : Lies (fld x 31 1 12) 4096 := fld_lies x 31 1 12
  have k1 : Lies (fld x 7 1 11) 2048 := fld_lies x 7 1 11
  have q1 := hide (l0.or k1 (by decide) (by decide) (by decide))
  have l1 : Lies ((fld x 31 1 12) + fld x 7 1 11) 6144 := l0.add k1 (by decide)
  have k2 : Lies (fld x 25 6 5) 2016 := fld_lies x 25 6 5
  have q2 := hide (l1.or k2 (by decide) (by decide) (by decide))
  have l2 : Lies (((fld x 31 1 12) + fld x 7 1 11) + fld x 25 6 5) 8160 := l1.add k2 (by decide)
  have k3 : Lies (fld x 8 4 1) 30 := fld_lies x 8 4 1
  have q3 := hide (l2.or k3 (by decide) (by decide) (by decide))
  have l3 : Lies ((((fld x 31 1 12) + fld x 7 1 11) + fld x 25 6 5) + fld x 8 4 1) 8190 := l2.add k3 (by decide)
  have hb0 := l3.1
  have hb1 := l3.le
  clear l0 k1
  clear l1 k2
  clear l2 k3
  clear l3
  have E : Hid (getOf 3 x = sgn 13 (fld x 31 1 12 + fld x 7 1 11 + fld x 25 6 5 + fld x 8 4 1)) := rfl
  have cs := hide (fun W : World => signed_any (fld x 31 1 12 + fld x 7 1 11 + fld x 25 6 5 + fld x 8 4 1) 13 W hb0 (by omega) (by decide) (by decide))
  have cf := hide (fun (f n t : Nat) (hf : f ≤ 31) (hn : n ≤ 31) (ht : n + t ≤ 32) (ht' : t ≤ 31) (W : World) => field_any x f n t W h0 h1 hf hn ht ht')
  go_enter Tryz.func62, Tryz.ntmps62
  go_wp2_with fail
  refine (cf.out 31 1 12 (by decide) (by decide) (by decide) (by decide) _).mono ?_
  rintro e W ⟨rfl, hW⟩
  rw [hW]
  clear hW W
  go_wp2_with fail
  refine (cf.out 7 1 11 (by decide) (by decide) (by decide) (by decide) _).mono ?_
  rintro e W ⟨rfl, hW⟩
  rw [hW]
  clear hW W
  go_wp2_with fail
  refine (cf.out 25 6 5 (by decide) (by decide) (by decide) (by decide) _).mono ?_
  rintro e W ⟨rfl, hW⟩
  rw [hW]
  clear hW W
  go_wp2_with fail
  refine (cf.out 8 4 1 (by decide) (by decide) (by decide) (by decide) _).mono ?_
  rintro e W ⟨rfl, hW⟩
  rw [hW]
  clear hW W
  go_wp2_with fail
  rw [q1.out]
  rw [q2.out]
  rw [q3.out]
  refine (cs.out _).mono ?_
  rintro e W ⟨rfl, hW⟩
  rw [hW]
  clear hW W
  go_wp2
  go_ret
  exact ⟨by rw [E.out]; rfl, rfl⟩

theorem spread3 (x : Int) (w : World) (h0 : 0 ≤ x) (h1 : x ≤ 4294967295) :
    Calls Tryz.prog 94 #[.int .i64 3, .int .u32 x] w fun e w' => e = .returned (.int .u32 (sprOf 3 x)) ∧ w' = w := by
  have l0 : Lies (fld x 12 1 31) 2147483648 := fld_lies x 12 1 31
  have k1 : Lies (fld x 11 1 7) 128 := fld_lies x 11 1 7
  have q1 := hide (l0.or k1 (by decide) (by decide) (by decide))
  have l1 : Lies ((fld x 12 1 31) + fld x 11 1 7) 2147483776 := l0.add k1 (by decide)
  have k2 : Lies (fld x 5 6 25) 2113929216 := fld_lies x 5 6 25
  have q2 := hide (l1.or k2 (by decide) (by decide) (by decide))
  have l2 : Lies (((fld x 12 1 31) + fld x 11 1 7) + fld x 5 6 25) 4261412992 := l1.add k2 (by decide)
  have k3 : Lies (fld x 1 4 8) 3840 := fld_lies x 1 4 8
  have q3 := hide (l2.or k3 (by decide) (by decide) (by decide))
  have l3 : Lies ((((fld x 12 1 31) + fld x 11 1 7) + fld x 5 6 25) + fld x 1 4 8) 4261416832 := l2.add k3 (by decide)
  clear l0 k1
  clear l1 k2
  clear l2 k3
  clear l3
  have E : Hid (sprOf 3 x = fld x 12 1 31 + fld x 11 1 7 + fld x 5 6 25 + fld x 1 4 8) := rfl
  have cf := hide (fun (f n t : Nat) (hf : f ≤ 31) (hn : n ≤ 31) (ht : n + t ≤ 32) (ht' : t ≤ 31) (W : World) => field_any x f n t W h0 h1 hf hn ht ht')
  go_enter Tryz.func94, Tryz.ntmps94
  go_wp2_with fail
  refine (cf.out 12 1 31 (by decide) (by decide) (by decide) (by decide) _).mono ?_
  rintro e W ⟨rfl, hW⟩
  rw [hW]
  clear hW W
  go_wp2_with fail
  refine (cf.out 11 1 7 (by decide) (by decide) (by decide) (by decide) _).mono ?_
  rintro e W ⟨rfl, hW⟩
  rw [hW]
  clear hW W
  go_wp2_with fail
  refine (cf.out 5 6 25 (by decide) (by decide) (by decide) (by decide) _).mono ?_
  rintro e W ⟨rfl, hW⟩
  rw [hW]
  clear hW W
  go_wp2_with fail
  refine (cf.out 1 4 8 (by decide) (by decide) (by decide) (by decide) _).mono ?_
  rintro e W ⟨rfl, hW⟩
  rw [hW]
  clear hW W
  go_wp2
  go_ret
  exact ⟨by rw [E.out, ← q3.out, ← q2.out, ← q1.out]; rfl, rfl⟩

theorem get4 (x : Int) (w : World) (h0 : 0 ≤ x) (h1 : x ≤ 4294967295) :
    Calls Tryz.prog 62 #[.int .i64 4, .int .u32 x] w fun e w' => e = .returned (.int .i64 (getOf 4 x)) ∧ w' = w := by
  have l0 : Lies (fld x 12 20 0) 1048575 := fld_lies x 12 20 0
  have hb0 := l0.1
  have hb1 := l0.le
  clear l0
  have E : Hid (getOf 4 x = sgn 20 (fld x 12 20 0)) := rfl
  have cs := hide (fun W : World => signed_any (fld x 12 20 0) 20 W hb0 (by omega) (by decide) (by decide))
  have cf := hide (fun (f n t : Nat) (hf : f ≤ 31) (hn : n ≤ 31) (ht : n + t ≤ 32) (ht' : t ≤ 31) (W : World) => field_any x f n t W h0 h1 hf hn ht ht')
  go_enter Tryz.func62, Tryz.ntmps62
  go_wp2_with fail
  refine (cf.out 12 20 0 (by decide) (by decide) (by decide) (by decide) _).mono ?_
  rintro e W ⟨rfl, hW⟩
  rw [hW]
  clear hW W
  go_wp2_with fail
  refine (cs.out _).mono ?_
  rintro e W ⟨rfl, hW⟩
  rw [hW]
  clear hW W
  go_wp2
  go_ret
  exact ⟨by rw [E.out]; rfl, rfl⟩

theorem spread4 (x : Int) (w : World) (h0 : 0 ≤ x) (h1 : x ≤ 4294967295) :
    Calls Tryz.prog 94 #[.int .i64 4, .int .u32 x] w fun e w' => e = .returned (.int .u32 (sprOf 4 x)) ∧ w' = w := by
  have l0 : Lies (fld x 0 20 12) 4294963200 := fld_lies x 0 20 12
  clear l0
  have E : Hid (sprOf 4 x = fld x 0 20 12) := rfl
  have cf := hide (fun (f n t : Nat) (hf : f ≤ 31) (hn : n ≤ 31) (ht : n + t ≤ 32) (ht' : t ≤ 31) (W : World) => field_any x f n t W h0 h1 hf hn ht ht')
  go_enter Tryz.func94, Tryz.ntmps94
  go_wp2_with fail
  refine (cf.out 0 20 12 (by decide) (by decide) (by decide) (by decide) _).mono ?_
  rintro e W ⟨rfl, hW⟩
  rw [hW]
  clear hW W
  go_wp2
  go_ret
  exact ⟨by rw [E.out]; rfl, rfl⟩

theorem get5 (x : Int) (w : World) (h0 : 0 ≤ x) (h1 : x ≤ 4294967295) :
    Calls Tryz.prog 62 #[.int .i64 5, .int .u32 x] w fun e w' => e = .returned (.int .i64 (getOf 5 x)) ∧ w' = w := by
  have l0 : Lies (fld x 31 1 20) 1048576 := fld_lies x 31 1 20
  have k1 : Lies (fld x 12 8 12) 1044480 := fld_lies x 12 8 12
  have q1 := hide (l0.or k1 (by decide) (by decide) (by decide))
  have l1 : Lies ((fld x 31 1 20) + fld x 12 8 12) 2093056 := l0.add k1 (by decide)
  have k2 : Lies (fld x 20 1 11) 2048 := fld_lies x 20 1 11
  have q2 := hide (l1.or k2 (by decide) (by decide) (by decide))
  have l2 : Lies (((fld x 31 1 20) + fld x 12 8 12) + fld x 20 1 11) 2095104 := l1.add k2 (by decide)
  have k3 : Lies (fld x 21 10 1) 2046 := fld_lies x 21 10 1
  have q3 := hide (l2.or k3 (by decide) (by decide) (by decide))
  have l3 : Lies ((((fld x 31 1 20) + fld x 12 8 12) + fld x 20 1 11) + fld x 21 10 1) 2097150 := l2.add k3 (by decide)
  have hb0 := l3.1
  have hb1 := l3.le
  clear l0 k1
  clear l1 k2
  clear l2 k3
  clear l3
  have E : Hid (getOf 5 x = sgn 21 (fld x 31 1 20 + fld x 12 8 12 + fld x 20 1 11 + fld x 21 10 1)) := rfl
  have cs := hide (fun W : World => signed_any (fld x 31 1 20 + fld x 12 8 12 + fld x 20 1 11 + fld x 21 10 1) 21 W hb0 (by omega) (by decide) (by decide))
  have cf := hide (fun (f n t : Nat) (hf : f ≤ 31) (hn : n ≤ 31) (ht : n + t ≤ 32) (ht' : t ≤ 31) (W : World) => field_any x f n t W h0 h1 hf hn ht ht')
  go_enter Tryz.func62, Tryz.ntmps62
  go_wp2_with fail
  refine (cf.out 31 1 20 (by decide) (by decide) (by decide) (by decide) _).mono ?_
  rintro e W ⟨rfl, hW⟩
  rw [hW]
  clear hW W
  go_wp2_with fail
  refine (cf.out 12 8 12 (by decide) (by decide) (by decide) (by decide) _).mono ?_
  rintro e W ⟨rfl, hW⟩
  rw [hW]
  clear hW W
  go_wp2_with fail
  refine (cf.out 20 1 11 (by decide) (by decide) (by decide) (by decide) _).mono ?_
  rintro e W ⟨rfl, hW⟩
  rw [hW]
  clear hW W
  go_wp2_with fail
  refine (cf.out 21 10 1 (by decide) (by decide) (by decide) (by decide) _).mono ?_
  rintro e W ⟨rfl, hW⟩
  rw [hW]
  clear hW W
  go_wp2_with fail
  rw [q1.out]
  rw [q2.out]
  rw [q3.out]
  refine (cs.out _).mono ?_
  rintro e W ⟨rfl, hW⟩
  rw [hW]
  clear hW W
  go_wp2
  go_ret
  exact ⟨by rw [E.out]; rfl, rfl⟩

theorem spread5 (x : Int) (w : World) (h0 : 0 ≤ x) (h1 : x ≤ 4294967295) :
    Calls Tryz.prog 94 #[.int .i64 5, .int .u32 x] w fun e w' => e = .returned (.int .u32 (sprOf 5 x)) ∧ w' = w := by
  have l0 : Lies (fld x 20 1 31) 2147483648 := fld_lies x 20 1 31
  have k1 : Lies (fld x 12 8 12) 1044480 := fld_lies x 12 8 12
  have q1 := hide (l0.or k1 (by decide) (by decide) (by decide))
  have l1 : Lies ((fld x 20 1 31) + fld x 12 8 12) 2148528128 := l0.add k1 (by decide)
  have k2 : Lies (fld x 11 1 20) 1048576 := fld_lies x 11 1 20
  have q2 := hide (l1.or k2 (by decide) (by decide) (by decide))
  have l2 : Lies (((fld x 20 1 31) + fld x 12 8 12) + fld x 11 1 20) 2149576704 := l1.add k2 (by decide)
  have k3 : Lies (fld x 1 10 21) 2145386496 := fld_lies x 1 10 21
  have q3 := hide (l2.or k3 (by decide) (by decide) (by decide))
  have l3 : Lies ((((fld x 20 1 31) + fld x 12 8 12) + fld x 11 1 20) + fld x 1 10 21) 4294963200 := l2.add k3 (by decide)
  clear l0 k1
  clear l1 k2
  clear l2 k3
  clear l3
  have E : Hid (sprOf 5 x = fld x 20 1 31 + fld x 12 8 12 + fld x 11 1 20 + fld x 1 10 21) := rfl
  have cf := hide (fun (f n t : Nat) (hf : f ≤ 31) (hn : n ≤ 31) (ht : n + t ≤ 32) (ht' : t ≤ 31) (W : World) => field_any x f n t W h0 h1 hf hn ht ht')
  go_enter Tryz.func94, Tryz.ntmps94
  go_wp2_with fail
  refine (cf.out 20 1 31 (by decide) (by decide) (by decide) (by decide) _).mono ?_
  rintro e W ⟨rfl, hW⟩
  rw [hW]
  clear hW W
  go_wp2_with fail
  refine (cf.out 12 8 12 (by decide) (by decide) (by decide) (by decide) _).mono ?_
  rintro e W ⟨rfl, hW⟩
  rw [hW]
  clear hW W
  go_wp2_with fail
  refine (cf.out 11 1 20 (by decide) (by decide) (by decide) (by decide) _).mono ?_
  rintro e W ⟨rfl, hW⟩
  rw [hW]
  clear hW W
  go_wp2_with fail
  refine (cf.out 1 10 21 (by decide) (by decide) (by decide) (by decide) _).mono ?_
  rintro e W ⟨rfl, hW⟩
  rw [hW]
  clear hW W
  go_wp2
  go_ret
  exact ⟨by rw [E.out, ← q3.out, ← q2.out, ← q1.out]; rfl, rfl⟩

theorem get_any (f x : Int) (w : World) (h0 : 0 ≤ x) (h1 : x ≤ 4294967295) :
    Calls Tryz.prog 62 #[.int .i64 f, .int .u32 x] w fun e w' => e = .returned (.int .i64 (getOf f x)) ∧ w' = w := by
  refine forms (fun f => Calls Tryz.prog 62 #[.int .i64 f, .int .u32 x] w fun e w' => e = .returned (.int .i64 (getOf f x)) ∧ w' = w) (get1 x w h0 h1) (get2 x w h0 h1) (get3 x w h0 h1) (get4 x w h0 h1) (get5 x w h0 h1) ?_ f
  intro f e1 e2 e3 e4 e5
  have E := hide (show getOf f x = 0 by simp [getOf, e1, e2, e3, e4, e5])
  go_enter Tryz.func62, Tryz.ntmps62
  go_wp2
  go_ret
  exact ⟨by rw [E.out]; rfl, rfl⟩

theorem spread_any (f x : Int) (w : World) (h0 : 0 ≤ x) (h1 : x ≤ 4294967295) :
    Calls Tryz.prog 94 #[.int .i64 f, .int .u32 x] w fun e w' => e = .returned (.int .u32 (sprOf f x)) ∧ w' = w := by
  refine forms (fun f => Calls Tryz.prog 94 #[.int .i64 f, .int .u32 x] w fun e w' => e = .returned (.int .u32 (sprOf f x)) ∧ w' = w) (spread1 x w h0 h1) (spread2 x w h0 h1) (spread3 x w h0 h1) (spread4 x w h0 h1) (spread5 x w h0 h1) ?_ f
  intro f e1 e2 e3 e4 e5
  have E := hide (show sprOf f x = 0 by simp [sprOf, e1, e2, e3, e4, e5])
  go_enter Tryz.func94, Tryz.ntmps94
  go_wp2
  go_ret
  exact ⟨by rw [E.out]; rfl, rfl⟩

end Go.Proofs.YtcghekkhbiomgaaGreatDoor
