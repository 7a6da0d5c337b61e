/- Plain facts on powers of two, on sums, and on the multiple that a number goes up to. Nothing of the program is named. -/
import Derived.Laws.Bits64b
import Derived.Laws.BitsLemmas
import Derived.Test.YtkmmffpipopjcaaNums
namespace Go.Proofs.Ytkmmffpipopjcaa

/-- The number of the highest bit, -1 where there is none. -/
def lg (a : Int) : Int := if a ≤ 0 then -1 else (a.toNat.log2 : Int)

theorem lg_zero : lg 0 = -1 := by simp [lg]
theorem lg_pos {a : Int} (h : 0 < a) : lg a = (a.toNat.log2 : Int) := by unfold lg; rw [if_neg (by omega)]
theorem lg_lo (a : Int) : -1 ≤ lg a := by unfold lg; split <;> omega
theorem lg_nonneg {a : Int} (h : 0 < a) : 0 ≤ lg a := by rw [lg_pos h]; omega
theorem lg_hi {a : Int} (h : a ≤ 18446744073709551615) : lg a ≤ 63 := by
  unfold lg; split
  · omega
  · have : a.toNat.log2 < 64 := (Nat.log2_lt (by omega)).2 (by omega)
    omega
theorem lg_half {a : Int} (h : 0 < a) : lg (a / 2) = lg a - 1 := by
  rw [lg_pos h, Nat.log2_def a.toNat]
  by_cases h2 : 2 ≤ a.toNat
  · rw [if_pos h2, lg_pos (by omega)]
    have : (a / 2).toNat = a.toNat / 2 := by omega
    rw [this]; omega
  · rw [if_neg h2]
    have : a / 2 = 0 := by omega
    rw [this, lg_zero]; omega

theorem pow_cast (k : Nat) : (2 : Int) ^ k = ((2 ^ k : Nat) : Int) := by simp

theorem pow_lg_le {a : Int} (h : 0 < a) : (2 : Int) ^ (lg a).toNat ≤ a := by
  rw [lg_pos h, Int.toNat_natCast, pow_cast]
  have := Nat.log2_self_le (n := a.toNat) (by omega)
  omega

theorem lg_pow (k : Nat) : lg (2 ^ k) = k := by
  have h : (0 : Int) < 2 ^ k := Int.pow_pos (by decide)
  rw [lg_pos h, pow_cast, Int.toNat_natCast, Nat.log2_two_pow]

/-- Whether a number is a power of two. -/
def isPow (a : Int) : Bool := decide (0 < a) && decide (a = 2 ^ (lg a).toNat)

theorem isPow_pow (k : Nat) : isPow (2 ^ k) = true := by
  have h : (0 : Int) < 2 ^ k := Int.pow_pos (by decide)
  unfold isPow; rw [lg_pow]; simp [h]
theorem isPow_ex {a : Int} (h : isPow a = true) : ∃ k : Nat, a = 2 ^ k := by
  unfold isPow at h
  simp only [Bool.and_eq_true, decide_eq_true_eq] at h
  exact ⟨_, h.2⟩
theorem isPow_pos {a : Int} (h : isPow a = true) : 0 < a := by
  unfold isPow at h
  simp only [Bool.and_eq_true, decide_eq_true_eq] at h
  exact h.1

theorem pow_le_top {k : Nat} (h : (2 : Int) ^ k ≤ 18446744073709551615) : k ≤ 63 := by
  rcases Nat.lt_or_ge 63 k with h1 | h1
  · have := Nat.pow_le_pow_right (n := 2) (by decide) (show 64 ≤ k by omega)
    rw [pow_cast] at h
    have e : (2 : Nat) ^ 64 = 18446744073709551616 := by decide
    omega
  · exact h1

theorem pow_le_63 {k : Nat} (h : k ≤ 63) : (2 : Int) ^ k ≤ 9223372036854775808 := by
  have := Nat.pow_le_pow_right (n := 2) (by decide) h
  have e : (2 : Nat) ^ 63 = 9223372036854775808 := by decide
  rw [pow_cast]; omega

/-- The mask of a power of two leaves the rest. -/
theorem mask_pow {x a : Int} (hp : isPow a = true) (hx : 0 ≤ x) (hx' : x ≤ 18446744073709551615) (ha' : a ≤ 18446744073709551615) : bits .and .u64 x (a - 1) = x % a := by
  obtain ⟨k, rfl⟩ := isPow_ex hp
  have hk := pow_le_top ha'
  obtain ⟨y, rfl⟩ := Int.eq_ofNat_of_zero_le hx
  have h1 : (1 : Nat) ≤ 2 ^ k := Nat.one_le_two_pow
  have e : (2 : Int) ^ k - 1 = ((2 ^ k - 1 : Nat) : Int) := by rw [pow_cast]; omega
  rw [pow_cast] at ha'
  rw [e, bits_and_u64_nat y (2 ^ k - 1) (by omega) (by omega), Nat.and_two_pow_sub_one_eq_mod, pow_cast]
  omega

theorem isPow_iff_nat {n : Nat} (h : n ≠ 0) : n.isPowerOfTwo ↔ isPow (n : Int) = true := by
  constructor
  · rintro ⟨k, rfl⟩
    have := isPow_pow k
    rwa [pow_cast] at this
  · intro hp
    obtain ⟨k, hk⟩ := isPow_ex hp
    rw [pow_cast] at hk
    exact ⟨k, by omega⟩

/-- A number above 0 is a power of two just where it shares no bit with the number below it. -/
theorem and_pred {a : Int} (h0 : 0 < a) (h1 : a ≤ 18446744073709551615) : (bits .and .u64 a (a - 1) == 0) = isPow a := by
  obtain ⟨n, rfl⟩ := Int.eq_ofNat_of_zero_le (show 0 ≤ a by omega)
  have e : (n : Int) - 1 = ((n - 1 : Nat) : Int) := by omega
  rw [e, bits_and_u64_nat n (n - 1) (by omega) (by omega)]
  have hi := Nat.and_sub_one_eq_zero_iff_isPowerOfTwo (n := n) (by omega)
  rw [isPow_iff_nat (by omega)] at hi
  rw [Bool.eq_iff_iff]
  simp only [beq_iff_eq]
  rw [← hi]
  omega

/-- The complement of a number of 64 bits is the room above it. -/
theorem not_u64 {x : Int} (h0 : 0 ≤ x) (h1 : x ≤ 18446744073709551615) : bits .xor .u64 IntKind.u64.max x = 18446744073709551615 - x := by
  obtain ⟨n, rfl⟩ := Int.eq_ofNat_of_zero_le h0
  show IntKind.u64.wrap ((BitVec.ofInt 64 18446744073709551615 ^^^ BitVec.ofInt 64 (n : Int)).toNat : Int) = _
  have h2 : BitVec.ofInt 64 18446744073709551615 = BitVec.allOnes 64 := by decide
  have h3 : (BitVec.ofInt 64 (n : Int)).toNat = n := by rw [BitVec.ofInt_natCast, BitVec.toNat_ofNat]; exact Nat.mod_eq_of_lt (by omega)
  rw [h2, BitVec.allOnes_xor, BitVec.toNat_not, h3, IntKind.wrap_u64]
  omega

theorem not_u64_room {x : Int} (h0 : 0 ≤ x) (h1 : x ≤ 18446744073709551615) :
    bits .xor .u64 (if IntKind.u64.signed = true then -1 else IntKind.u64.max) x + x ≤ 18446744073709551615 ∧ 18446744073709551615 ≤ bits .xor .u64 (if IntKind.u64.signed = true then -1 else IntKind.u64.max) x + x := by
  have e : (if IntKind.u64.signed = true then -1 else IntKind.u64.max) = IntKind.u64.max := rfl
  rw [e, not_u64 h0 h1]; omega

/-- The sum of numbers, where it is below 2^64: the number and whether. -/
def sumOk (l : List Int) : Bool := decide (l.sum ≤ 18446744073709551615)
def sumOf (l : List Int) : Int := if l.sum ≤ 18446744073709551615 then l.sum else 0

theorem sum_nonneg : ∀ {l : List Int}, (∀ x ∈ l, 0 ≤ x) → 0 ≤ l.sum
  | [], _ => by simp
  | x :: r, h => by
    have h1 := h x (by simp)
    have h2 := sum_nonneg (l := r) fun y hy => h y (by simp [hy])
    rw [List.sum_cons]; omega

theorem sum_split (l : List Int) (k : Nat) : l.sum = (l.take k).sum + (l.drop k).sum := by
  rw [← List.sum_append, List.take_append_drop]

theorem sum_take_succ (l : List Int) (k : Nat) (h : k < l.length) : (l.take (k + 1)).sum = (l.take k).sum + l[k]?.getD 0 := by
  rw [take_snoc l k h, List.sum_append]; simp

theorem sum_take_le {l : List Int} (h : ∀ x ∈ l, 0 ≤ x) (k : Nat) : (l.take k).sum ≤ l.sum := by
  rw [sum_split l k]
  have := sum_nonneg (l := l.drop k) fun x hx => h x (List.mem_of_mem_drop hx)
  omega

theorem sumOf_bd {l : List Int} (h : ∀ x ∈ l, 0 ≤ x) : 0 ≤ sumOf l ∧ sumOf l ≤ 18446744073709551615 := by
  have := sum_nonneg h
  unfold sumOf; split <;> omega

/-- The least multiple of a that isn't below x. -/
def upTo (x a : Int) : Int := if x % a = 0 then x else x + (a - x % a)
def upOk (x a : Int) : Bool := isPow a && decide (upTo x a ≤ 18446744073709551615)
def upOf (x a : Int) : Int := if upOk x a = true then upTo x a else 0

def withinOf (off n size : Int) : Bool := decide (off + n ≤ size)
def overlapOf (a n b m : Int) : Bool := decide (0 < n) && decide (0 < m) && decide (a < b + m) && decide (b < a + n)

end Go.Proofs.Ytkmmffpipopjcaa
