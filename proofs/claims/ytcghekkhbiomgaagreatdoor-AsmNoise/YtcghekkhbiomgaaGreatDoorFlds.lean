/- Plain facts on the bits of words of 32 bits and on fields of numbers: nothing of the program is named. -/
import Derived.Laws.BitsLemmas
import Derived.Lib.EndianBits
import Derived.RowKit
import Derived.Test.YtcghekkhbiomgaaGreatDoorNums
namespace Go.Proofs.YtcghekkhbiomgaaGreatDoor
open Go.RowKit
set_option linter.unusedVariables false
set_option maxRecDepth 100000

/-- n bits of a number, from the bit f on, brought to the bit t. -/
def fld (x : Int) (f n t : Nat) : Int := x / 2 ^ f % 2 ^ n * 2 ^ t

/-- The lowest b bits of a number, with a sign. -/
def sgn (b : Nat) (x : Int) : Int := (x + 2 ^ (b - 1)) % 2 ^ b - 2 ^ (b - 1)

theorem two_cast (k : Nat) : (2 : Int) ^ k = ((2 ^ k : Nat) : Int) := by simp

theorem sgn_shift {k u : Nat} (hk : 1 ≤ k) (hs : k + u = 64) (x : Int) :
    wrap64 (IntKind.u64.wrap (x * 2 ^ u)) / 2 ^ u = sgn k x := by
  have hu : (0 : Int) < 2 ^ u := Int.pow_pos (by decide)
  have e64 : (18446744073709551616 : Int) = 2 ^ k * 2 ^ u := by rw [← Int.pow_add, hs]; rfl
  have e63 : (9223372036854775808 : Int) = 2 ^ (k - 1) * 2 ^ u := by rw [← Int.pow_add, show k - 1 + u = 63 by omega]; rfl
  unfold wrap64 sgn
  rw [IntKind.wrap_u64, Int.emod_add_emod, e64, e63, ← Int.add_mul, Int.mul_comm (x + _), Int.mul_comm (2 ^ k), Int.mul_emod_mul_of_pos _ _ hu, Int.mul_comm (2 ^ u), ← Int.sub_mul, Int.mul_ediv_cancel _ (by omega)]

theorem sgn_lo {k : Nat} (hk : 1 ≤ k) (x : Int) : -2 ^ (k - 1) ≤ sgn k x := by
  have h : (0 : Int) < 2 ^ k := Int.pow_pos (by decide)
  have := Int.emod_nonneg (x + 2 ^ (k - 1)) (show (2 : Int) ^ k ≠ 0 by omega)
  unfold sgn; omega
theorem sgn_hi {k : Nat} (hk : 1 ≤ k) (x : Int) : sgn k x < 2 ^ (k - 1) := by
  have h : (0 : Int) < 2 ^ k := Int.pow_pos (by decide)
  have e : (2 : Int) ^ k = 2 ^ (k - 1) + 2 ^ (k - 1) := by
    have : (2 : Int) ^ (k - 1 + 1) = 2 ^ (k - 1) * 2 := Int.pow_succ ..
    rw [show k - 1 + 1 = k by omega] at this
    omega
  have := Int.emod_lt_of_pos (x + 2 ^ (k - 1)) h
  unfold sgn; omega

theorem pow_le_top {j : Nat} (h : j ≤ 63) : (2 : Int) ^ j ≤ 9223372036854775808 := by
  have := Nat.pow_le_pow_right (n := 2) (by decide) h
  rw [two_cast]; omega
theorem pow_le_half {j : Nat} (h : j ≤ 62) : (2 : Int) ^ j ≤ 4611686018427387904 := by
  have := Nat.pow_le_pow_right (n := 2) (by decide) h
  rw [two_cast]; omega
theorem sgn_emod (k : Nat) (x : Int) : sgn k (x % 2 ^ k) = sgn k x := by
  unfold sgn; rw [Int.emod_add_emod]
/-- A number with a sign has the bits of which it was made. -/
theorem sgn_low {k : Nat} (hk : k ≤ 64) (x : Int) : sgn k x % 18446744073709551616 % 2 ^ k = x % 2 ^ k := by
  have h : (2 : Int) ^ k ∣ 18446744073709551616 := by
    rw [show (18446744073709551616 : Int) = 2 ^ (k + (64 - k)) by rw [show k + (64 - k) = 64 by omega]; rfl, Int.pow_add]
    exact Int.dvd_mul_right _ _
  rw [Int.emod_emod_of_dvd _ h]
  unfold sgn
  rw [Int.emod_sub_emod, Int.add_sub_cancel]

/-- Whether a number's bits all lie in a mask. -/
def Lies (a : Int) (m : Nat) : Prop := 0 ≤ a ∧ a.toNat &&& m = a.toNat

theorem Lies.le {a : Int} {m : Nat} (h : Lies a m) : a ≤ m := by
  have h1 := h.2
  have h2 := h.1
  have := Nat.and_le_right (n := a.toNat) (m := m)
  omega

theorem and_field (x n t : Nat) : x &&& ((2 ^ n - 1) * 2 ^ t) = x / 2 ^ t % 2 ^ n * 2 ^ t := by
  apply Nat.eq_of_testBit_eq
  intro i
  rw [Nat.testBit_and, Nat.testBit_mul_two_pow, Nat.testBit_mul_two_pow, Nat.testBit_mod_two_pow, Nat.testBit_two_pow_sub_one, Nat.testBit_div_two_pow]
  by_cases h : t ≤ i
  · rw [show i - t + t = i by omega]
    by_cases h2 : i - t < n <;> simp [h, h2]
  · simp [h]

theorem fld_nat (x f n t : Nat) : fld x f n t = ((x / 2 ^ f % 2 ^ n * 2 ^ t : Nat) : Int) := by
  unfold fld; simp

theorem fld_nonneg (x : Int) (f n t : Nat) : 0 ≤ fld x f n t := by
  unfold fld
  have h : (0 : Int) < 2 ^ n := Int.pow_pos (by decide)
  have h' : (0 : Int) < 2 ^ t := Int.pow_pos (by decide)
  exact Int.mul_nonneg (Int.emod_nonneg _ (by omega)) (by omega)

theorem fld_lies (x : Int) (f n t : Nat) : Lies (fld x f n t) ((2 ^ n - 1) * 2 ^ t) := by
  refine ⟨fld_nonneg .., ?_⟩
  have h : (0 : Int) < 2 ^ n := Int.pow_pos (by decide)
  obtain ⟨y, hy⟩ := Int.eq_ofNat_of_zero_le (Int.emod_nonneg (x / 2 ^ f) (show (2 : Int) ^ n ≠ 0 by omega))
  have hl := Int.emod_lt_of_pos (x / 2 ^ f) h
  rw [hy, two_cast] at hl
  have e : fld x f n t = ((y * 2 ^ t : Nat) : Int) := by unfold fld; rw [hy]; simp
  rw [e, Int.toNat_natCast, and_field, Nat.mul_div_cancel _ (Nat.two_pow_pos t), Nat.mod_eq_of_lt (by omega)]

theorem or_of_and {a b : Nat} (h : a &&& b = 0) : a ||| b = a + b := by
  have key : ∀ (n : Nat) (a b : Nat), a < 2 ^ n → b < 2 ^ n → a &&& b = 0 → a ||| b = a + b := by
    intro n
    induction n with
    | zero => intro a b ha hb _; simp at ha hb; subst ha; subst hb; rfl
    | succ n ih =>
      intro a b ha hb h
      have h2 : a / 2 &&& b / 2 = 0 := by rw [← Nat.and_div_two, h]
      have h3 := ih (a / 2) (b / 2) (by rw [Nat.pow_succ] at ha; omega) (by rw [Nat.pow_succ] at hb; omega) h2
      rw [← Nat.or_div_two] at h3
      have h4 : (a &&& b) % 2 = 0 := by rw [h]
      have h5 : (a ||| b) % 2 = a % 2 + b % 2 := by
        have t1 := Nat.and_mod_two_pow (n := 1) (a := a) (b := b)
        have t2 := Nat.or_mod_two_pow (n := 1) (a := a) (b := b)
        rw [Nat.pow_one] at t1 t2
        rw [t1] at h4
        rw [t2]
        rcases Nat.mod_two_eq_zero_or_one a with ha0 | ha0 <;> rcases Nat.mod_two_eq_zero_or_one b with hb0 | hb0 <;> rw [ha0, hb0] at h4 ⊢ <;> first | rfl | exact absurd h4 (by decide)
      omega
  exact key (a + b) a b (Nat.lt_of_le_of_lt (Nat.le_add_right a b) Nat.lt_two_pow_self) (Nat.lt_of_le_of_lt (Nat.le_add_left b a) Nat.lt_two_pow_self) h

theorem Lies.apart {a b : Int} {m n : Nat} (ha : Lies a m) (hb : Lies b n) (h : m &&& n = 0) : a.toNat &&& b.toNat = 0 := by
  rw [← ha.2, ← hb.2, Nat.and_comm a.toNat m, Nat.and_assoc, ← Nat.and_assoc a.toNat, Nat.and_comm a.toNat b.toNat, Nat.and_assoc, Nat.and_comm a.toNat n, ← Nat.and_assoc b.toNat, Nat.and_comm b.toNat n, ← Nat.and_assoc, ← Nat.and_assoc, h]
  simp

theorem Lies.add {a b : Int} {m n : Nat} (ha : Lies a m) (hb : Lies b n) (h : m &&& n = 0) : Lies (a + b) (m ||| n) := by
  have h1 := ha.1
  have h2 := hb.1
  have e : (a + b).toNat = a.toNat ||| b.toNat := by rw [or_of_and (ha.apart hb h)]; omega
  refine ⟨by omega, ?_⟩
  rw [e]
  apply Nat.eq_of_testBit_eq
  intro i
  have q1 := congrArg (fun z => z.testBit i) ha.2
  have q2 := congrArg (fun z => z.testBit i) hb.2
  simp only [Nat.testBit_and, Nat.testBit_or] at q1 q2 ⊢
  revert q1 q2
  cases a.toNat.testBit i <;> cases b.toNat.testBit i <;> cases m.testBit i <;> cases n.testBit i <;> simp

theorem Lies.or {a b : Int} {m n : Nat} (ha : Lies a m) (hb : Lies b n) (h : m &&& n = 0) (hm : m < 4294967296) (hn : n < 4294967296) : bits .or .u32 a b = a + b := by
  have h1 := ha.1
  have h2 := hb.1
  have h3 := ha.le
  have h4 := hb.le
  have e1 : a = (a.toNat : Int) := by omega
  have e2 : b = (b.toNat : Int) := by omega
  have h5 := (bits_nat .u32 32 (by decide) wraps_u32 a.toNat b.toNat (by omega) (by omega)).2
  rw [← e1, ← e2, or_of_and (ha.apart hb h)] at h5
  rw [h5]; omega

/-- A word of 32 bits. -/
def bv (a : Int) : BitVec 32 := BitVec.ofInt 32 a

theorem bv_nat {a : Int} (h0 : 0 ≤ a) (h1 : a ≤ 4294967295) : ((bv a).toNat : Int) = a := by
  obtain ⟨n, rfl⟩ := Int.eq_ofNat_of_zero_le h0
  unfold bv
  rw [BitVec.ofInt_natCast, BitVec.toNat_ofNat, Nat.mod_eq_of_lt (by omega)]
theorem bv_of (v : BitVec 32) : bv (v.toNat : Int) = v := by
  unfold bv
  rw [BitVec.ofInt_natCast]; simp
theorem wrap_bv (v : BitVec 32) : IntKind.u32.wrap (v.toNat : Int) = v.toNat := by
  have := v.isLt
  rw [IntKind.wrap_u32]; omega
theorem bits_and_bv (a b : Int) : bits .and .u32 a b = (bv a &&& bv b).toNat := wrap_bv _
theorem bits_or_bv (a b : Int) : bits .or .u32 a b = (bv a ||| bv b).toNat := wrap_bv _
theorem bits_xor_bv (a b : Int) : bits .xor .u32 a b = (bv a ^^^ bv b).toNat := wrap_bv _
theorem bits_not_bv (a b : Int) : bits .andNot .u32 a b = (bv a &&& ~~~ bv b).toNat := wrap_bv _
theorem bv_inj {a b : Int} (a0 : 0 ≤ a) (a1 : a ≤ 4294967295) (b0 : 0 ≤ b) (b1 : b ≤ 4294967295) (h : bv a = bv b) : a = b := by
  rw [← bv_nat a0 a1, ← bv_nat b0 b1, h]
theorem bv_bd (v : BitVec 32) : 0 ≤ (v.toNat : Int) ∧ (v.toNat : Int) ≤ 4294967295 := by have := v.isLt; omega
theorem bits_bd (op : BinOp) (a b : Int) : 0 ≤ bits op .u32 a b ∧ bits op .u32 a b ≤ 4294967295 := by
  have h : ∀ n : Int, 0 ≤ IntKind.u32.wrap n ∧ IntKind.u32.wrap n ≤ 4294967295 := fun n => by rw [IntKind.wrap_u32]; omega
  exact h _

/-- What a mask takes of a word, and what it leaves, are the word. -/
theorem not_and (a : Int) (m : Nat) (a0 : 0 ≤ a) (a1 : a ≤ 4294967295) (hm : m ≤ 4294967295) : bits .andNot .u32 a m = a - ((a.toNat &&& m : Nat) : Int) := by
  have e : (bv a &&& ~~~ bv m) + (bv a &&& bv m) = bv a := by
    rw [BitVec.add_eq_or_of_and_eq_zero]
    · ext i
      simp only [BitVec.getElem_or, BitVec.getElem_and, BitVec.getElem_not]
      cases (bv a)[i] <;> cases (bv (m : Int))[i] <;> rfl
    · ext i
      simp only [BitVec.getElem_and, BitVec.getElem_not, BitVec.getElem_zero]
      cases (bv a)[i] <;> cases (bv (m : Int))[i] <;> rfl
  have e2 : bv a &&& ~~~ bv m = bv a - (bv a &&& bv m) := BitVec.eq_sub_iff_add_eq.2 e
  have h1 := bv_nat a0 a1
  have h2 := bv_nat (a := (m : Int)) (by omega) (by omega)
  have e3 : (bv a).toNat = a.toNat := by omega
  have e4 : (bv (m : Int)).toNat = m := by omega
  have e5 : (bv a &&& bv (m : Int)).toNat = a.toNat &&& m := by rw [BitVec.toNat_and, e3, e4]
  have h6 : a.toNat &&& m ≤ a.toNat := Nat.and_le_left
  rw [bits_not_bv, e2, BitVec.toNat_sub, e5, e3]
  omega

theorem not_lies (a : Int) (m : Nat) (hm : m ≤ 4294967295) : Lies (bits .andNot .u32 a m) (4294967295 - m) := by
  have hb := bits_bd .andNot a m
  refine ⟨hb.1, ?_⟩
  rw [bits_not_bv, Int.toNat_natCast]
  have e : 4294967295 - m = (~~~ bv (m : Int)).toNat := by
    have h2 := bv_nat (a := (m : Int)) (by omega) (by omega)
    rw [BitVec.toNat_not]; omega
  rw [e, ← BitVec.toNat_and, BitVec.and_assoc, BitVec.and_self]

theorem Lies.bv_and {a : Int} {m : Nat} (h : Lies a m) (hm : m ≤ 4294967295) : bv a &&& bv m = bv a := by
  have h0 := h.1
  have h1 := h.le
  have e1 := bv_nat h0 (by omega)
  have e2 := bv_nat (a := (m : Int)) (by omega) (by omega)
  apply BitVec.eq_of_toNat_eq
  rw [BitVec.toNat_and, show (bv a).toNat = a.toNat by omega, show (bv (m : Int)).toNat = m by omega, h.2]

end Go.Proofs.YtcghekkhbiomgaaGreatDoor
