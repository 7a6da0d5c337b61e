/- Texts of this claim, joined: Nums, Flds, AluPlain, Plain, Read, Make, MemMap, Frame, MemState, MemSmall, MemMay, MemLaid, MemCopy, MemPut, MemGet, MemNum, MemOps, MemStore, EnvState, ImmPlain, Imm, ImmPut, InstPlain. -/
import Derived.Test.YtdhjjlnabbpinaaGreatDoorRows
import Derived.WalkKit
import Derived.OpenShut
import Derived.Laws.BitsLemmas
import Derived.Lib.EndianBits
import Derived.RowKit
import Derived.Laws.CopyOwn
import Derived.Laws.AppendOwnNone
import Derived.Maps.OwnSet
import Derived.RegionTactic
import Derived.Deep.RegionLaw
import Derived.Deep.DeepCutAuto
import Derived.OwnWalk
import Derived.Deep.AppendLies
import Derived.Handy
import Derived.Deep.Light
/- Slices of numbers that are read, whatever the program is: what they hold, how they last over a call, what a slice that came in is to the contracts. -/
namespace Go.Proofs.YtdhjjlnabbpinaaGreatDoor
open Go.RowKit
set_option linter.unusedVariables false
set_option maxRecDepth 100000

theorem hide {p : Prop} (h : p) : Hid p := h
theorem ret_bool {a b : Bool} (h : a = b) : Ending.returned (.bool a) = .returned (.bool b) := by rw [h]
theorem ret_int {k : IntKind} {a b : Int} (h : a = b) : Ending.returned (.int k a) = .returned (.int k b) := by rw [h]
theorem ret_num {k : IntKind} {a b : Int} {c : Bool} (h : a = b) : Ending.returned (.tuple #[.int k a, .bool c]) = .returned (.tuple #[.int k b, .bool c]) := by rw [h]

theorem take_snoc (l : List Int) (k : Nat) (h : k < l.length) : l.take (k + 1) = l.take k ++ [l[k]?.getD 0] := by
  rw [List.take_succ_eq_append_getElem h]; simp [h]

/-- A slice of numbers of a kind that is read. -/
structure Rn (k : IntKind) (top : Int) (w : World) (a : Option Addr) (len cap : Nat) (xs : List Int) : Prop where
  length : xs.length = len
  le : len ≤ cap
  max : cap ≤ 9223372036854775807
  fit : ∀ x ∈ xs, 0 ≤ x ∧ x ≤ top
  top0 : 0 ≤ top
  nil : a = none → cap = 0
  cell : ∀ x, a = some x → ∀ i, i < len → w.cell? (x.add i) = some (.int k (xs.getD i 0))

theorem Rn.addr {k : IntKind} {top : Int} {w : World} {a : Option Addr} {len cap : Nat} {bs : List Int} (r : Rn k top w a len cap bs) (h : 0 < len) :
    ∃ b o, a = some ⟨b, o, none⟩ ∧ ∀ i, i < len → w.cell? ⟨b, o + i, none⟩ = some (.int k (bs.getD i 0)) := by
  cases a with
  | none => have h1 := r.nil rfl; have h2 := r.le; omega
  | some x =>
    obtain ⟨b, o, spot⟩ := x
    have hs : spot = none := by simpa [Addr.add] using World.cell?_spot (r.cell _ rfl 0 h)
    subst hs
    exact ⟨b, o, rfl, fun i hi => by have := r.cell _ rfl i hi; rwa [show (⟨b, o, none⟩ : Addr).add i = ⟨b, o + i, none⟩ by unfold Addr.add; split <;> simp_all] at this⟩

theorem Rn.below {k : IntKind} {top : Int} {w w' : World} {a : Option Addr} {len cap : Nat} {bs : List Int} (r : Rn k top w a len cap bs) (hb : Below w.heap.size w w') : Rn k top w' a len cap bs :=
  ⟨r.length, r.le, r.max, r.fit, r.top0, r.nil, fun x hx i hi => by
    have h1 := r.cell x hx i hi
    rw [hb.cell (World.block_lt_of_cell? w _ h1)]; exact h1⟩

theorem Rn.at {k : IntKind} {top : Int} {w : World} {a : Option Addr} {len cap : Nat} {xs : List Int} (r : Rn k top w a len cap xs) (j : Nat) : 0 ≤ xs[j]?.getD 0 ∧ xs[j]?.getD 0 ≤ top := by
  by_cases hk : j < xs.length
  · simpa [hk] using r.fit _ (List.getElem_mem hk)
  · simpa [List.getElem?_eq_none (Nat.le_of_not_lt hk)] using r.top0

theorem Rn.lit (k : IntKind) (top : Int) (t : TypeId) (w : World) (xs : List Int) (hf : ∀ x ∈ xs, 0 ≤ x ∧ x ≤ top) (h0 : 0 ≤ top) (hl : xs.length ≤ 9223372036854775807) :
    Rn k top (w.alloc (.cells (xs.map (Value.int k)).toArray t)) (some ⟨w.heap.size, 0, none⟩) xs.length xs.length xs := by
  refine ⟨rfl, Nat.le_refl _, hl, hf, h0, (fun h => by cases h), fun x hx i hi => ?_⟩
  cases hx
  have e : (⟨w.heap.size, 0, none⟩ : Addr).add i = ⟨w.heap.size, i, none⟩ := by unfold Addr.add; split <;> simp_all
  rw [e, cell_of_row _ _ i _ t (0, 0) (heap_alloc_new w _)]
  simp [hi]

theorem Rn.drew {k : IntKind} {top : Int} {w : World} {a : Option Addr} {len cap : Nat} {bs : List Int} (r : Rn k top w a len cap bs) : Rn k top w.drew a len cap bs :=
  ⟨r.length, r.le, r.max, r.fit, r.top0, r.nil, fun x hx i hi => by simpa using r.cell x hx i hi⟩

/-- A row of the call's own, as a slice that is read. -/
theorem Rn.own {k : IntKind} {top : Int} {w : World} {base : Nat} {e : TypeId} {v : Value} {n : Nat} {xs : List Int} (h : w.ownsRow base e 1 v n (xs.map (Value.int k))) (hf : ∀ x ∈ xs, 0 ≤ x ∧ x ≤ top) (h0 : 0 ≤ top) :
    ∃ a cap, v = .slice a n cap ∧ Rn k top w a n cap xs := by
  have hl : xs.length = n := by simpa using h.1
  rcases h.2 with ⟨rfl, h2⟩ | ⟨g, cap, cur, rfl, hbg, hg, hnc, hcm, hcs, htake⟩
  · subst h2
    obtain rfl : xs = [] := List.eq_nil_of_length_eq_zero hl
    exact ⟨none, 0, rfl, rfl, Nat.le_refl _, by omega, hf, h0, fun _ => rfl, fun x hx => by cases hx⟩
  · refine ⟨_, cap, rfl, hl, hnc, by unfold maxLen at hcm; omega, hf, h0, (fun h => by cases h), fun x hx i hi => ?_⟩
    cases hx
    have := h.cells (g := g) rfl i (.int k (xs.getD i 0)) (by simp [show i < xs.length by omega])
    exact this

/-- A part of a slice that is read. -/
theorem Rn.part {k : IntKind} {top : Int} {w : World} {b o : Nat} {len cap : Nat} {xs : List Int} (r : Rn k top w (some ⟨b, o, none⟩) len cap xs) (f m : Nat) (h : f + m ≤ len) (c : Nat) (hc : m ≤ c) (hc' : c ≤ cap) :
    Rn k top w (some ⟨b, o + f, none⟩) m c ((xs.drop f).take m) := by
  have hl := r.length
  have h1 := r.le
  have h2 := r.max
  refine ⟨by simp; omega, hc, by omega, fun x hx => r.fit x (List.mem_of_mem_drop (List.mem_of_mem_take hx)), r.top0, (fun h3 => by cases h3), ?_⟩
  intro y hy i hi
  cases hy
  have h3 := r.cell _ rfl (f + i) (by omega)
  have e1 : (⟨b, o, none⟩ : Addr).add (f + i) = ⟨b, o + (f + i), none⟩ := by unfold Addr.add; split <;> simp_all
  have e2 : (⟨b, o + f, none⟩ : Addr).add i = ⟨b, o + f + i, none⟩ := by unfold Addr.add; split <;> simp_all
  rw [e1, ← Nat.add_assoc] at h3
  rw [e2, h3]
  simp [hi]

/-- A slice of integers that came in: nil, or a row of 'cap' cells, the numbers zs, each fitting its kind; the first 'len' are its elements. -/
def IsRow (k : IntKind) (w : World) (a : Option Addr) (len cap : Nat) (zs : List Int) : Prop :=
  (a = none ∧ len = 0 ∧ cap = 0 ∧ zs = []) ∨
  ∃ x, a = some x ∧ len ≤ cap ∧ cap ≤ maxLen ∧ zs.length = cap ∧ (∀ i, i < zs.length → w.cell? (x.add i) = some (.int k (zs.getD i 0))) ∧ ∀ n ∈ zs, (Lit.int k n).wf = true

theorem IsRow.rn {k : IntKind} {top : Int} (h0 : 0 ≤ top) (hk : ∀ n, (Lit.int k n).wf = true → 0 ≤ n ∧ n ≤ top) {w : World} {a : Option Addr} {len cap : Nat} {zs : List Int} (h : IsRow k w a len cap zs) :
    Rn k top w a len cap (zs.take len) := by
  rcases h with ⟨rfl, rfl, rfl, rfl⟩ | ⟨x, rfl, hl, hm, hz, hc, hwf⟩
  · exact ⟨rfl, Nat.le_refl _, by omega, (fun x hx => by cases hx), h0, fun _ => rfl, fun x hx => by cases hx⟩
  · refine ⟨by simp; omega, hl, by unfold maxLen at hm; omega, fun n hn => hk n (hwf n (List.mem_of_mem_take hn)), h0, (fun h => by cases h), fun y hy i hi => ?_⟩
    cases hy
    rw [hc i (by omega)]
    simp [hi]

end Go.Proofs.YtdhjjlnabbpinaaGreatDoor

/- Plain facts on the bits of words of 32 bits and on fields of numbers: nothing of the program is named. -/
namespace Go.Proofs.YtdhjjlnabbpinaaGreatDoor
open Go.RowKit
set_option linter.unusedVariables false
set_option maxRecDepth 100000

/-- n bits of a number, from the bit f on, brought to the bit t. -/
def fld (x : Int) (f n t : Nat) : Int := x / 2 ^ f % 2 ^ n * 2 ^ t

/-- The lowest b bits of a number, with a sign. -/
def sgn (b : Nat) (x : Int) : Int := (x + 2 ^ (b - 1)) % 2 ^ b - 2 ^ (b - 1)

theorem two_cast (k : Nat) : (2 : Int) ^ k = ((2 ^ k : Nat) : Int) := by simp

theorem sgn_shift {k u : Nat} (hk : 1 ≤ k) (hs : k + u = 64) (x : Int) :
    wrap64 (IntKind.u64.wrap (x * 2 ^ u)) / 2 ^ u = sgn k x := by
  have hu : (0 : Int) < 2 ^ u := Int.pow_pos (by decide)
  have e64 : (18446744073709551616 : Int) = 2 ^ k * 2 ^ u := by rw [← Int.pow_add, hs]; rfl
  have e63 : (9223372036854775808 : Int) = 2 ^ (k - 1) * 2 ^ u := by rw [← Int.pow_add, show k - 1 + u = 63 by omega]; rfl
  unfold wrap64 sgn
  rw [IntKind.wrap_u64, Int.emod_add_emod, e64, e63, ← Int.add_mul, Int.mul_comm (x + _), Int.mul_comm (2 ^ k), Int.mul_emod_mul_of_pos _ _ hu, Int.mul_comm (2 ^ u), ← Int.sub_mul, Int.mul_ediv_cancel _ (by omega)]

theorem sgn_lo {k : Nat} (hk : 1 ≤ k) (x : Int) : -2 ^ (k - 1) ≤ sgn k x := by
  have h : (0 : Int) < 2 ^ k := Int.pow_pos (by decide)
  have := Int.emod_nonneg (x + 2 ^ (k - 1)) (show (2 : Int) ^ k ≠ 0 by omega)
  unfold sgn; omega
theorem sgn_hi {k : Nat} (hk : 1 ≤ k) (x : Int) : sgn k x < 2 ^ (k - 1) := by
  have h : (0 : Int) < 2 ^ k := Int.pow_pos (by decide)
  have e : (2 : Int) ^ k = 2 ^ (k - 1) + 2 ^ (k - 1) := by
    have : (2 : Int) ^ (k - 1 + 1) = 2 ^ (k - 1) * 2 := Int.pow_succ ..
    rw [show k - 1 + 1 = k by omega] at this
    omega
  have := Int.emod_lt_of_pos (x + 2 ^ (k - 1)) h
  unfold sgn; omega

theorem pow_le_top {j : Nat} (h : j ≤ 63) : (2 : Int) ^ j ≤ 9223372036854775808 := by
  have := Nat.pow_le_pow_right (n := 2) (by decide) h
  rw [two_cast]; omega
theorem pow_le_half {j : Nat} (h : j ≤ 62) : (2 : Int) ^ j ≤ 4611686018427387904 := by
  have := Nat.pow_le_pow_right (n := 2) (by decide) h
  rw [two_cast]; omega
theorem sgn_emod (k : Nat) (x : Int) : sgn k (x % 2 ^ k) = sgn k x := by
  unfold sgn; rw [Int.emod_add_emod]
/-- A number with a sign has the bits of which it was made. -/
theorem sgn_low {k : Nat} (hk : k ≤ 64) (x : Int) : sgn k x % 18446744073709551616 % 2 ^ k = x % 2 ^ k := by
  have h : (2 : Int) ^ k ∣ 18446744073709551616 := by
    rw [show (18446744073709551616 : Int) = 2 ^ (k + (64 - k)) by rw [show k + (64 - k) = 64 by omega]; rfl, Int.pow_add]
    exact Int.dvd_mul_right _ _
  rw [Int.emod_emod_of_dvd _ h]
  unfold sgn
  rw [Int.emod_sub_emod, Int.add_sub_cancel]

/-- Whether a number's bits all lie in a mask. -/
def Lies (a : Int) (m : Nat) : Prop := 0 ≤ a ∧ a.toNat &&& m = a.toNat

theorem Lies.le {a : Int} {m : Nat} (h : Lies a m) : a ≤ m := by
  have h1 := h.2
  have h2 := h.1
  have := Nat.and_le_right (n := a.toNat) (m := m)
  omega

theorem and_field (x n t : Nat) : x &&& ((2 ^ n - 1) * 2 ^ t) = x / 2 ^ t % 2 ^ n * 2 ^ t := by
  apply Nat.eq_of_testBit_eq
  intro i
  rw [Nat.testBit_and, Nat.testBit_mul_two_pow, Nat.testBit_mul_two_pow, Nat.testBit_mod_two_pow, Nat.testBit_two_pow_sub_one, Nat.testBit_div_two_pow]
  by_cases h : t ≤ i
  · rw [show i - t + t = i by omega]
    by_cases h2 : i - t < n <;> simp [h, h2]
  · simp [h]

theorem fld_nat (x f n t : Nat) : fld x f n t = ((x / 2 ^ f % 2 ^ n * 2 ^ t : Nat) : Int) := by
  unfold fld; simp

theorem fld_nonneg (x : Int) (f n t : Nat) : 0 ≤ fld x f n t := by
  unfold fld
  have h : (0 : Int) < 2 ^ n := Int.pow_pos (by decide)
  have h' : (0 : Int) < 2 ^ t := Int.pow_pos (by decide)
  exact Int.mul_nonneg (Int.emod_nonneg _ (by omega)) (by omega)

theorem fld_lies (x : Int) (f n t : Nat) : Lies (fld x f n t) ((2 ^ n - 1) * 2 ^ t) := by
  refine ⟨fld_nonneg .., ?_⟩
  have h : (0 : Int) < 2 ^ n := Int.pow_pos (by decide)
  obtain ⟨y, hy⟩ := Int.eq_ofNat_of_zero_le (Int.emod_nonneg (x / 2 ^ f) (show (2 : Int) ^ n ≠ 0 by omega))
  have hl := Int.emod_lt_of_pos (x / 2 ^ f) h
  rw [hy, two_cast] at hl
  have e : fld x f n t = ((y * 2 ^ t : Nat) : Int) := by unfold fld; rw [hy]; simp
  rw [e, Int.toNat_natCast, and_field, Nat.mul_div_cancel _ (Nat.two_pow_pos t), Nat.mod_eq_of_lt (by omega)]

theorem or_of_and {a b : Nat} (h : a &&& b = 0) : a ||| b = a + b := by
  have key : ∀ (n : Nat) (a b : Nat), a < 2 ^ n → b < 2 ^ n → a &&& b = 0 → a ||| b = a + b := by
    intro n
    induction n with
    | zero => intro a b ha hb _; simp at ha hb; subst ha; subst hb; rfl
    | succ n ih =>
      intro a b ha hb h
      have h2 : a / 2 &&& b / 2 = 0 := by rw [← Nat.and_div_two, h]
      have h3 := ih (a / 2) (b / 2) (by rw [Nat.pow_succ] at ha; omega) (by rw [Nat.pow_succ] at hb; omega) h2
      rw [← Nat.or_div_two] at h3
      have h4 : (a &&& b) % 2 = 0 := by rw [h]
      have h5 : (a ||| b) % 2 = a % 2 + b % 2 := by
        have t1 := Nat.and_mod_two_pow (n := 1) (a := a) (b := b)
        have t2 := Nat.or_mod_two_pow (n := 1) (a := a) (b := b)
        rw [Nat.pow_one] at t1 t2
        rw [t1] at h4
        rw [t2]
        rcases Nat.mod_two_eq_zero_or_one a with ha0 | ha0 <;> rcases Nat.mod_two_eq_zero_or_one b with hb0 | hb0 <;> rw [ha0, hb0] at h4 ⊢ <;> first | rfl | exact absurd h4 (by decide)
      omega
  exact key (a + b) a b (Nat.lt_of_le_of_lt (Nat.le_add_right a b) Nat.lt_two_pow_self) (Nat.lt_of_le_of_lt (Nat.le_add_left b a) Nat.lt_two_pow_self) h

theorem Lies.apart {a b : Int} {m n : Nat} (ha : Lies a m) (hb : Lies b n) (h : m &&& n = 0) : a.toNat &&& b.toNat = 0 := by
  rw [← ha.2, ← hb.2, Nat.and_comm a.toNat m, Nat.and_assoc, ← Nat.and_assoc a.toNat, Nat.and_comm a.toNat b.toNat, Nat.and_assoc, Nat.and_comm a.toNat n, ← Nat.and_assoc b.toNat, Nat.and_comm b.toNat n, ← Nat.and_assoc, ← Nat.and_assoc, h]
  simp

theorem Lies.add {a b : Int} {m n : Nat} (ha : Lies a m) (hb : Lies b n) (h : m &&& n = 0) : Lies (a + b) (m ||| n) := by
  have h1 := ha.1
  have h2 := hb.1
  have e : (a + b).toNat = a.toNat ||| b.toNat := by rw [or_of_and (ha.apart hb h)]; omega
  refine ⟨by omega, ?_⟩
  rw [e]
  apply Nat.eq_of_testBit_eq
  intro i
  have q1 := congrArg (fun z => z.testBit i) ha.2
  have q2 := congrArg (fun z => z.testBit i) hb.2
  simp only [Nat.testBit_and, Nat.testBit_or] at q1 q2 ⊢
  revert q1 q2
  cases a.toNat.testBit i <;> cases b.toNat.testBit i <;> cases m.testBit i <;> cases n.testBit i <;> simp

theorem Lies.or {a b : Int} {m n : Nat} (ha : Lies a m) (hb : Lies b n) (h : m &&& n = 0) (hm : m < 4294967296) (hn : n < 4294967296) : bits .or .u32 a b = a + b := by
  have h1 := ha.1
  have h2 := hb.1
  have h3 := ha.le
  have h4 := hb.le
  have e1 : a = (a.toNat : Int) := by omega
  have e2 : b = (b.toNat : Int) := by omega
  have h5 := (bits_nat .u32 32 (by decide) wraps_u32 a.toNat b.toNat (by omega) (by omega)).2
  rw [← e1, ← e2, or_of_and (ha.apart hb h)] at h5
  rw [h5]; omega

/-- A word of 32 bits. -/
def bv (a : Int) : BitVec 32 := BitVec.ofInt 32 a

theorem bv_nat {a : Int} (h0 : 0 ≤ a) (h1 : a ≤ 4294967295) : ((bv a).toNat : Int) = a := by
  obtain ⟨n, rfl⟩ := Int.eq_ofNat_of_zero_le h0
  unfold bv
  rw [BitVec.ofInt_natCast, BitVec.toNat_ofNat, Nat.mod_eq_of_lt (by omega)]
theorem bv_of (v : BitVec 32) : bv (v.toNat : Int) = v := by
  unfold bv
  rw [BitVec.ofInt_natCast]; simp
theorem wrap_bv (v : BitVec 32) : IntKind.u32.wrap (v.toNat : Int) = v.toNat := by
  have := v.isLt
  rw [IntKind.wrap_u32]; omega
theorem bits_and_bv (a b : Int) : bits .and .u32 a b = (bv a &&& bv b).toNat := wrap_bv _
theorem bits_or_bv (a b : Int) : bits .or .u32 a b = (bv a ||| bv b).toNat := wrap_bv _
theorem bits_xor_bv (a b : Int) : bits .xor .u32 a b = (bv a ^^^ bv b).toNat := wrap_bv _
theorem bits_not_bv (a b : Int) : bits .andNot .u32 a b = (bv a &&& ~~~ bv b).toNat := wrap_bv _
theorem bv_inj {a b : Int} (a0 : 0 ≤ a) (a1 : a ≤ 4294967295) (b0 : 0 ≤ b) (b1 : b ≤ 4294967295) (h : bv a = bv b) : a = b := by
  rw [← bv_nat a0 a1, ← bv_nat b0 b1, h]
theorem bv_bd (v : BitVec 32) : 0 ≤ (v.toNat : Int) ∧ (v.toNat : Int) ≤ 4294967295 := by have := v.isLt; omega
theorem bits_bd (op : BinOp) (a b : Int) : 0 ≤ bits op .u32 a b ∧ bits op .u32 a b ≤ 4294967295 := by
  have h : ∀ n : Int, 0 ≤ IntKind.u32.wrap n ∧ IntKind.u32.wrap n ≤ 4294967295 := fun n => by rw [IntKind.wrap_u32]; omega
  exact h _

/-- What a mask takes of a word, and what it leaves, are the word. -/
theorem not_and (a : Int) (m : Nat) (a0 : 0 ≤ a) (a1 : a ≤ 4294967295) (hm : m ≤ 4294967295) : bits .andNot .u32 a m = a - ((a.toNat &&& m : Nat) : Int) := by
  have e : (bv a &&& ~~~ bv m) + (bv a &&& bv m) = bv a := by
    rw [BitVec.add_eq_or_of_and_eq_zero]
    · ext i
      simp only [BitVec.getElem_or, BitVec.getElem_and, BitVec.getElem_not]
      cases (bv a)[i] <;> cases (bv (m : Int))[i] <;> rfl
    · ext i
      simp only [BitVec.getElem_and, BitVec.getElem_not, BitVec.getElem_zero]
      cases (bv a)[i] <;> cases (bv (m : Int))[i] <;> rfl
  have e2 : bv a &&& ~~~ bv m = bv a - (bv a &&& bv m) := BitVec.eq_sub_iff_add_eq.2 e
  have h1 := bv_nat a0 a1
  have h2 := bv_nat (a := (m : Int)) (by omega) (by omega)
  have e3 : (bv a).toNat = a.toNat := by omega
  have e4 : (bv (m : Int)).toNat = m := by omega
  have e5 : (bv a &&& bv (m : Int)).toNat = a.toNat &&& m := by rw [BitVec.toNat_and, e3, e4]
  have h6 : a.toNat &&& m ≤ a.toNat := Nat.and_le_left
  rw [bits_not_bv, e2, BitVec.toNat_sub, e5, e3]
  omega

theorem not_lies (a : Int) (m : Nat) (hm : m ≤ 4294967295) : Lies (bits .andNot .u32 a m) (4294967295 - m) := by
  have hb := bits_bd .andNot a m
  refine ⟨hb.1, ?_⟩
  rw [bits_not_bv, Int.toNat_natCast]
  have e : 4294967295 - m = (~~~ bv (m : Int)).toNat := by
    have h2 := bv_nat (a := (m : Int)) (by omega) (by omega)
    rw [BitVec.toNat_not]; omega
  rw [e, ← BitVec.toNat_and, BitVec.and_assoc, BitVec.and_self]

theorem Lies.bv_and {a : Int} {m : Nat} (h : Lies a m) (hm : m ≤ 4294967295) : bv a &&& bv m = bv a := by
  have h0 := h.1
  have h1 := h.le
  have e1 := bv_nat h0 (by omega)
  have e2 := bv_nat (a := (m : Int)) (by omega) (by omega)
  apply BitVec.eq_of_toNat_eq
  rw [BitVec.toNat_and, show (bv a).toNat = a.toNat by omega, show (bv (m : Int)).toNat = m by omega, h.2]

end Go.Proofs.YtdhjjlnabbpinaaGreatDoor

/- Numbers of 64 and 32 bits, with signs and without: what each operation makes of two numbers. Nothing is walked here. -/
namespace Go.Proofs.YtdhjjlnabbpinaaGreatDoor
open Go.RowKit
set_option linter.unusedVariables false
set_option maxRecDepth 100000

def u64 (z : Int) : Int := z % 18446744073709551616
def s64 (z : Int) : Int := (z + 9223372036854775808) % 18446744073709551616 - 9223372036854775808
def u32 (z : Int) : Int := z % 4294967296
def s32 (z : Int) : Int := (z + 2147483648) % 4294967296 - 2147483648
/-- A word with its sign. -/
def sx (z : Int) : Int := u64 (s32 z)

theorem u64_bd (z : Int) : 0 ≤ u64 z ∧ u64 z ≤ 18446744073709551615 := by unfold u64; omega
theorem s64_bd (z : Int) : -9223372036854775808 ≤ s64 z ∧ s64 z ≤ 9223372036854775807 := by unfold s64; omega
theorem u32_bd (z : Int) : 0 ≤ u32 z ∧ u32 z ≤ 4294967295 := by unfold u32; omega
theorem s32_bd (z : Int) : -2147483648 ≤ s32 z ∧ s32 z ≤ 2147483647 := by unfold s32; omega
theorem sx_bd (z : Int) : 0 ≤ sx z ∧ sx z ≤ 18446744073709551615 := u64_bd _

theorem wrap_u64 (z : Int) : IntKind.u64.wrap z = u64 z := by rw [IntKind.wrap_u64]; rfl
theorem wrap_u32 (z : Int) : IntKind.u32.wrap z = u32 z := by rw [IntKind.wrap_u32]; rfl
theorem wrap_s64 (z : Int) : IntKind.i64.wrap z = s64 z := by simp [IntKind.wrap, IntKind.signed, IntKind.bits, s64]; split <;> omega
theorem wrap_s32 (z : Int) : IntKind.i32.wrap z = s32 z := by simp [IntKind.wrap, IntKind.signed, IntKind.bits, s32]; split <;> omega

/-- What operation o makes of a and b. -/
def aluF (o : Nat) (a b : Int) : Int :=
  match o with
  | 22 => u64 (a + b) | 31 => u64 (a + b)
  | 32 => u64 (a - b)
  | 23 => if s64 a < s64 b then 1 else 0 | 34 => if s64 a < s64 b then 1 else 0
  | 24 => if a < b then 1 else 0 | 35 => if a < b then 1 else 0
  | 25 => bits .xor .u64 a b | 36 => bits .xor .u64 a b
  | 26 => bits .or .u64 a b | 39 => bits .or .u64 a b
  | 27 => bits .and .u64 a b | 40 => bits .and .u64 a b
  | 28 => u64 (a * 2 ^ (b % 64).toNat) | 33 => u64 (a * 2 ^ (b % 64).toNat)
  | 29 => a / 2 ^ (b % 64).toNat | 37 => a / 2 ^ (b % 64).toNat
  | 30 => u64 (s64 a / 2 ^ (b % 64).toNat) | 38 => u64 (s64 a / 2 ^ (b % 64).toNat)
  | 41 => sx (a + b) | 45 => sx (a + b)
  | 46 => sx (a - b)
  | 42 => sx (a * 2 ^ (b % 32).toNat) | 47 => sx (a * 2 ^ (b % 32).toNat)
  | 43 => sx (u32 a / 2 ^ (b % 32).toNat) | 48 => sx (u32 a / 2 ^ (b % 32).toNat)
  | 44 => u64 (s32 a / 2 ^ (b % 32).toNat) | 49 => u64 (s32 a / 2 ^ (b % 32).toNat)
  | 50 => u64 (a * b)
  | 51 => u64 (a * b / 18446744073709551616 - (if s64 a < 0 then b else 0) - (if s64 b < 0 then a else 0))
  | 52 => u64 (a * b / 18446744073709551616 - (if s64 a < 0 then b else 0))
  | 53 => a * b / 18446744073709551616
  | 54 => if b = 0 then 18446744073709551615 else u64 ((s64 a).tdiv (s64 b))
  | 55 => if b = 0 then 18446744073709551615 else a / b
  | 56 => if b = 0 then a else u64 ((s64 a).tmod (s64 b))
  | 57 => if b = 0 then a else a % b
  | 58 => sx (a * b)
  | 59 => if u32 b = 0 then 18446744073709551615 else sx ((s32 a).tdiv (s32 b))
  | 60 => if u32 b = 0 then 18446744073709551615 else sx (u32 a / u32 b)
  | 61 => if u32 b = 0 then sx a else sx ((s32 a).tmod (s32 b))
  | 62 => if u32 b = 0 then sx a else sx (u32 a % u32 b)
  | _ => 0

end Go.Proofs.YtdhjjlnabbpinaaGreatDoor

/- Plain facts on numbers in bytes: what a list of bytes is as a number, the lowest byte first. Nothing of the program is named. -/
namespace Go.Proofs.YtdhjjlnabbpinaaGreatDoor

def num : List Int → Int
  | [] => 0
  | x :: r => x + 256 * num r

def Bytes (l : List Int) : Prop := ∀ x ∈ l, 0 ≤ x ∧ x ≤ 255

theorem Bytes.take {l : List Int} (h : Bytes l) (k : Nat) : Bytes (l.take k) := fun x hx => h x (List.mem_of_mem_take hx)
theorem Bytes.drop {l : List Int} (h : Bytes l) (k : Nat) : Bytes (l.drop k) := fun x hx => h x (List.mem_of_mem_drop hx)
theorem Bytes.nil : Bytes [] := fun _ h => by cases h
theorem Bytes.append {l m : List Int} (h : Bytes l) (k : Bytes m) : Bytes (l ++ m) := fun x hx => by
  rcases List.mem_append.1 hx with hx | hx
  · exact h x hx
  · exact k x hx
theorem Bytes.at {l : List Int} (h : Bytes l) (k : Nat) : 0 ≤ l[k]?.getD 0 ∧ l[k]?.getD 0 ≤ 255 := by
  by_cases hk : k < l.length
  · simpa [hk] using h _ (List.getElem_mem hk)
  · simp [List.getElem?_eq_none (Nat.le_of_not_lt hk)]

theorem num_nonneg : ∀ {l : List Int}, Bytes l → 0 ≤ num l
  | [], _ => by simp [num]
  | x :: r, h => by
    have h1 := h x (by simp)
    have h2 := num_nonneg (l := r) fun y hy => h y (by simp [hy])
    simp only [num]; omega

theorem num_lt : ∀ {l : List Int}, Bytes l → num l < 256 ^ l.length
  | [], _ => by simp [num]
  | x :: r, h => by
    have h1 := h x (by simp)
    have h2 := num_lt (l := r) fun y hy => h y (by simp [hy])
    have e : (256 : Int) ^ (x :: r).length = 256 * 256 ^ r.length := by rw [List.length_cons, Int.pow_succ, Int.mul_comm]
    rw [e]; simp only [num]; omega

theorem num_append : ∀ (l m : List Int), num (l ++ m) = num l + 256 ^ l.length * num m
  | [], m => by simp [num]
  | x :: r, m => by
    have e : (256 : Int) ^ (x :: r).length = 256 * 256 ^ r.length := by rw [List.length_cons, Int.pow_succ, Int.mul_comm]
    rw [e, List.cons_append]; simp only [num]
    rw [num_append r m, Int.mul_add, Int.mul_assoc, Int.add_assoc]

theorem pow_256 (k : Nat) : (256 : Int) ^ k = 2 ^ (8 * k) := by
  rw [Int.pow_mul]; rfl

theorem pow_le_64 {k : Nat} (h : k ≤ 8) : (2 : Int) ^ (8 * k) ≤ 18446744073709551616 := by
  have : k = 0 ∨ k = 1 ∨ k = 2 ∨ k = 3 ∨ k = 4 ∨ k = 5 ∨ k = 6 ∨ k = 7 ∨ k = 8 := by omega
  rcases this with rfl | rfl | rfl | rfl | rfl | rfl | rfl | rfl | rfl <;> decide

theorem num_lt_64 {l : List Int} (h : Bytes l) (hl : l.length ≤ 8) : num l < 18446744073709551616 := by
  have h1 := num_lt h
  rw [pow_256] at h1
  have h2 := pow_le_64 hl
  omega

/-- One step from the lowest byte up. -/
theorem num_up (l : List Int) (k : Nat) (hb : Bytes l) (hk : k < l.length) (h8 : k < 8) :
    bits .or .u64 (num (l.take k)) (IntKind.u64.wrap (l[k]?.getD 0 * 2 ^ (8 * k))) = num (l.take (k + 1)) := by
  have hx := hb.at k
  have hlen : (l.take k).length = k := by simp; omega
  have h0 := num_nonneg (hb.take k)
  have h1 := num_lt (hb.take k)
  rw [hlen, pow_256] at h1
  have hp : (0 : Int) < 2 ^ (8 * k) := Int.pow_pos (by decide)
  have hs : (2 : Int) ^ (8 * (k + 1)) = 2 ^ (8 * k) * 256 := by rw [Nat.mul_add, Int.pow_add]; rfl
  have hq := pow_le_64 (k := k + 1) (by omega)
  rw [hs] at hq
  have hm : l[k]?.getD 0 * 2 ^ (8 * k) ≤ 255 * 2 ^ (8 * k) := Int.mul_le_mul_of_nonneg_right hx.2 (Int.le_of_lt hp)
  have hm0 : 0 ≤ l[k]?.getD 0 * 2 ^ (8 * k) := Int.mul_nonneg hx.1 (Int.le_of_lt hp)
  rw [u64_wrap_id _ hm0 (by omega)]
  rw [bits_join_low .u64 64 (by decide) wraps_u64 (8 * k) _ _ h0 h1 (by omega) hm0 (Int.mul_emod_left _ _) (by omega)]
  rw [take_snoc l k hk, num_append, hlen, pow_256]
  simp [num, Int.mul_comm]

/-- One step from the highest byte down: the bytes from k on are the number so far, shifted, and the byte at k below it. -/
theorem num_down (l : List Int) (k : Nat) (hb : Bytes l) (hk : k < l.length) (h8 : l.length ≤ 8) :
    bits .or .u64 (IntKind.u64.wrap (num (l.drop (k + 1)) * 256)) (l[k]?.getD 0) = num (l.drop k) := by
  have hx := hb.at k
  have h0 := num_nonneg (hb.drop (k + 1))
  have h1 := num_lt (hb.drop (k + 1))
  have hlen : (l.drop (k + 1)).length ≤ 7 := by simp; omega
  have h2 : (256 : Int) ^ (l.drop (k + 1)).length ≤ 2 ^ (8 * 7) := by
    rw [pow_256]
    have : (l.drop (k + 1)).length = 0 ∨ (l.drop (k + 1)).length = 1 ∨ (l.drop (k + 1)).length = 2 ∨ (l.drop (k + 1)).length = 3 ∨ (l.drop (k + 1)).length = 4 ∨ (l.drop (k + 1)).length = 5 ∨ (l.drop (k + 1)).length = 6 ∨ (l.drop (k + 1)).length = 7 := by omega
    rcases this with h | h | h | h | h | h | h | h <;> rw [h] <;> decide
  have e7 : (2 : Int) ^ (8 * 7) = 72057594037927936 := by decide
  have e8 : (2 : Int) ^ 8 = 256 := by decide
  rw [e7] at h2
  rw [u64_wrap_id _ (by omega) (by omega)]
  rw [bits_join .u64 64 (by decide) wraps_u64 8 _ _ (by omega) (by rw [e8]; exact Int.mul_emod_left _ _) (by omega) hx.1 (by omega) (by omega)]
  rw [List.drop_eq_getElem_cons hk]
  simp [num, hk]; omega

/-- The byte of a number at a place. -/
def byteOf (v : Int) (k : Nat) : Int := v / 2 ^ (8 * k) % 256
theorem byteOf_bd (v : Int) (k : Nat) : 0 ≤ byteOf v k ∧ byteOf v k ≤ 255 := by unfold byteOf; omega
/-- The lowest n bytes of a number. -/
def bytesOf (v : Int) (n : Nat) : List Int := (List.range n).map (byteOf v)
theorem bytesOf_bytes (v : Int) (n : Nat) : Bytes (bytesOf v n) := by
  intro x hx
  obtain ⟨k, _, rfl⟩ := List.mem_map.1 hx
  exact byteOf_bd v k
theorem bytesOf_length (v : Int) (n : Nat) : (bytesOf v n).length = n := by simp [bytesOf]
theorem bytesOf_succ (v : Int) (n : Nat) : bytesOf v (n + 1) = bytesOf v n ++ [byteOf v n] := by simp [bytesOf, List.range_succ]

/-- The bytes with k of them, from f on, replaced by a number's lowest. -/
def setLe (bs : List Int) (f : Nat) (v : Int) (k : Nat) : List Int := bs.take f ++ (bytesOf v k ++ bs.drop (f + k))
theorem setOf_length (bs : List Int) (f : Nat) (v : Int) (k : Nat) (h : f + k ≤ bs.length) : (setLe bs f v k).length = bs.length := by
  simp [setLe, bytesOf_length]; omega
theorem setOf_zero (bs : List Int) (f : Nat) (v : Int) : setLe bs f v 0 = bs := by simp [setLe, bytesOf]
theorem setOf_bytes {bs : List Int} (h : Bytes bs) (f : Nat) (v : Int) (k : Nat) : Bytes (setLe bs f v k) := (h.take f).append ((bytesOf_bytes v k).append (h.drop _))
theorem setOf_succ (bs : List Int) (f : Nat) (v : Int) (k : Nat) (h : f + k < bs.length) : (setLe bs f v k).set (f + k) (byteOf v k) = setLe bs f v (k + 1) := by
  unfold setLe
  have h1 : (bs.take f).length = f := by simp; omega
  rw [List.set_append_right _ _ (by omega), h1, List.set_append_right _ _ (by rw [bytesOf_length]; omega), bytesOf_length]
  have e : f + k - f - k = 0 := by omega
  rw [e, List.drop_eq_getElem_cons h, List.set_cons_zero, bytesOf_succ, ← Nat.add_assoc]
  simp

end Go.Proofs.YtdhjjlnabbpinaaGreatDoor

/- Contracts of le.within, le.get, le.U16, le.U32, le.U64 and of the document's Num: each returns what the bytes from the offset on are as a number, or 0 and false; the world stays. -/
namespace Go.Proofs.YtdhjjlnabbpinaaGreatDoor
open Go.RowKit
set_option linter.unusedVariables false
set_option maxRecDepth 100000

/-- A slice of bytes that is read: its elements are the bytes bs. -/
structure Rd (w : World) (a : Option Addr) (len cap : Nat) (bs : List Int) : Prop where
  length : bs.length = len
  le : len ≤ cap
  max : cap ≤ 9223372036854775807
  bytes : Bytes bs
  nil : a = none → cap = 0
  cell : ∀ x, a = some x → ∀ i, i < len → w.cell? (x.add i) = some (.int .u8 (bs.getD i 0))

theorem Rd.addr {w : World} {a : Option Addr} {len cap : Nat} {bs : List Int} (r : Rd w a len cap bs) (h : 0 < len) :
    ∃ b o, a = some ⟨b, o, none⟩ ∧ ∀ i, i < len → w.cell? ⟨b, o + i, none⟩ = some (.int .u8 (bs.getD i 0)) := by
  cases a with
  | none => have h1 := r.nil rfl; have h2 := r.le; omega
  | some x =>
    obtain ⟨b, o, spot⟩ := x
    have hs : spot = none := by simpa [Addr.add] using World.cell?_spot (r.cell _ rfl 0 h)
    subst hs
    exact ⟨b, o, rfl, fun i hi => by have := r.cell _ rfl i hi; rwa [show (⟨b, o, none⟩ : Addr).add i = ⟨b, o + i, none⟩ by unfold Addr.add; split <;> simp_all] at this⟩









/-- What is read of the bytes bs from the offset on: n bytes, as a number; 0 and false where they don't all lie within. -/
def got (bs : List Int) (off : Int) (n : Nat) : Int := if off + n ≤ bs.length then num ((bs.drop off.toNat).take n) else 0
def has (bs : List Int) (off : Int) (n : Nat) : Bool := decide (off + n ≤ bs.length)

theorem got_nonneg {bs : List Int} (h : Bytes bs) (off : Int) (n : Nat) : 0 ≤ got bs off n := by
  unfold got; split
  · exact num_nonneg ((h.drop _).take _)
  · omega
theorem got_lt {bs : List Int} (h : Bytes bs) (off : Int) (n : Nat) : got bs off n < 2 ^ (8 * n) := by
  have hp : (0 : Int) < 2 ^ (8 * n) := Int.pow_pos (by decide)
  unfold got; split
  · have h1 := num_lt ((h.drop off.toNat).take n)
    have h2 : ((bs.drop off.toNat).take n).length ≤ n := List.length_take_le _ _
    rw [pow_256] at h1
    have h3 : (2 : Int) ^ (8 * ((bs.drop off.toNat).take n).length) ≤ 2 ^ (8 * n) := by
      have := Nat.pow_le_pow_right (n := 2) (by decide) (show 8 * ((bs.drop off.toNat).take n).length ≤ 8 * n by omega)
      exact_mod_cast this
    omega
  · omega















end Go.Proofs.YtdhjjlnabbpinaaGreatDoor

/- Contracts of le.room, le.Cut and of the document's Cut: each makes a new row that holds the bytes asked for; what was there stays. -/
namespace Go.Proofs.YtdhjjlnabbpinaaGreatDoor
open Go.RowKit
set_option linter.unusedVariables false
set_option maxRecDepth 100000

theorem Tryz.info8 : (Tryz.prog.info? 5).map (fun i => (i.zero, i.size, i.bytes)) = some (some (.int .u8 0), 1, 1) := by kernel_rfl
theorem Tryz.size8 : (Tryz.prog.info? 5).map (·.size) = some 1 := by kernel_rfl

theorem Rd.cells {w : World} {a : Option Addr} {len cap : Nat} {bs : List Int} (r : Rd w a len cap bs) (x : Addr) (hx : a = some x) (j : Nat) (u : Value)
    (h : (bs.map (Value.int .u8))[j]? = some u) : w.cell? (x.add j) = some u := by
  have hj : j < bs.length := by
    rcases Nat.lt_or_ge j bs.length with h1 | h1
    · exact h1
    · rw [List.getElem?_eq_none (by simpa using h1)] at h; cases h
  have hl := r.length
  rw [r.cell x hx j (by omega)]
  simp [hj] at h
  subst h
  simp [hj]

theorem Rd.below {w w' : World} {a : Option Addr} {len cap : Nat} {bs : List Int} (r : Rd w a len cap bs) (hb : Below w.heap.size w w') : Rd w' a len cap bs :=
  ⟨r.length, r.le, r.max, r.bytes, r.nil, fun x hx i hi => by
    have h1 := r.cell x hx i hi
    rw [hb.cell (World.block_lt_of_cell? w _ h1)]; exact h1⟩

theorem Rd.own {w : World} {base : Nat} {v : Value} {n : Nat} {bs : List Int} (h : w.ownsRow base 5 1 v n (bs.map (Value.int .u8))) (hb : Bytes bs) :
    ∃ a cap, v = .slice a n cap ∧ Rd w a n cap bs := by
  have hl : bs.length = n := by simpa using h.1
  rcases h.2 with ⟨rfl, h2⟩ | ⟨g, cap, cur, rfl, hbg, hg, hnc, hcm, hcs, htake⟩
  · subst h2
    obtain rfl : bs = [] := List.eq_nil_of_length_eq_zero hl
    exact ⟨none, 0, rfl, rfl, Nat.le_refl _, by omega, hb, fun _ => rfl, fun x hx => by cases hx⟩
  · refine ⟨_, cap, rfl, hl, hnc, by unfold maxLen at hcm; omega, hb, (fun h => by cases h), fun x hx i hi => ?_⟩
    cases hx
    have := h.cells (g := g) rfl i (.int .u8 (bs.getD i 0)) (by simp [show i < bs.length by omega])
    exact this

theorem Rd.str {w : World} {a : Option Addr} {len cap : Nat} {bs : List Int} (r : Rd w a len cap bs) :
    Sem.run Tryz.prog (convert 24 9 (.slice a len cap)) w = .ok (.string (strOfNums bs)) w := by
  have hl := r.length
  by_cases h0 : len = 0
  · subst h0
    obtain rfl : bs = [] := List.eq_nil_of_length_eq_zero hl
    cases a with
    | none => exact run_convert_bytes_nil w 24 5 Tryz.underlying24 Tryz.underlying5 0 cap 9 Tryz.underlying9
    | some x =>
      have hlc : (loadCells x 0).run Tryz.prog w = .ok #[] w := by simpa using run_loadCells_list (P := Tryz.prog) w x [] (by simp)
      rw [run_convert_bytes_string w 24 9 5 _ 0 cap Tryz.underlying24 Tryz.underlying5 Tryz.underlying9, run_bytesToString w x 0 cap [] (by simpa using hlc)]
      rfl
  · obtain ⟨b, o, rfl, hc⟩ := r.addr (by omega)
    exact run_convert_bytes_arg w 24 5 Tryz.underlying24 Tryz.underlying5 b o len cap bs hl hc 9 Tryz.underlying9

/-- 'make' of len bytes with room for c, and what is copied into it: the run of the two, the worlds behind a name. -/
theorem copied {w : World} {a : Option Addr} {len cap : Nat} {bs : List Int} (r : Rd w a len cap bs) (c : Nat) (hc : len ≤ c) (hb : c ≤ 140737488355328) (ty : TypeId) :
    ∃ W1 W2, Sem.run Tryz.prog (Instr.makeSlice 24 (.int .i64 (len : Int)) (.int .i64 (c : Int))) w = .ok (.slice (some ⟨w.heap.size, 0, none⟩) len c) W1 ∧
      Sem.run Tryz.prog (Builtin.copy_ #[24, 24] ty #[.slice (some ⟨w.heap.size, 0, none⟩) len c, .slice a len cap]) W1 = .ok (goInt len) W2 ∧
      W2.ownsRow w.heap.size 5 1 (.slice (some ⟨w.heap.size, 0, none⟩) len c) len (bs.map (Value.int .u8)) ∧ Below w.heap.size w W2 := by
  obtain ⟨i0, hi, hz0, hz1, hz2⟩ := info_parts Tryz.info8
  have hbl := r.length
  have hmk := run_make (P := Tryz.prog) w 24 5 i0 (.int .u8 0) Tryz.underlying24 hi hz0 .i64 .i64 (len : Int) (c : Int) (by omega) (by omega) (by rw [hz2]; omega) (by omega)
  rw [hz1, Int.toNat_natCast, Int.toNat_natCast] at hmk
  have hcs : (Value.int .u8 0).cells = #[.int .u8 0] := rfl
  rw [hcs, Nat.mul_one] at hmk
  have hw1 : (w.alloc (.cells (madeCells #[.int .u8 0] c) 5)).heap[w.heap.size]? = some (.cells (madeCells #[.int .u8 0] c) 5 (0, 0)) := heap_alloc_new w _
  have hsz : (madeCells #[Value.int .u8 0] c).size = c := by simp [madeCells]
  have hb1 : Below w.heap.size w (w.alloc (.cells (madeCells #[.int .u8 0] c) 5)) := (Below.refl _ _).alloc (Nat.le_refl _) _
  by_cases h0 : len = 0
  · subst h0
    obtain rfl : bs = [] := List.eq_nil_of_length_eq_zero hbl
    refine ⟨_, _, hmk, ?_, ?_, hb1⟩
    · have := run_copy_none (P := Tryz.prog) (w.alloc (.cells (madeCells #[.int .u8 0] c) 5)) 24 24 ty 5 (some ⟨w.heap.size, 0, none⟩) a 0 c 0 cap Tryz.underlying24 Tryz.size8 rfl
      exact this
    · exact ⟨by simp, .inr ⟨w.heap.size, c, _, rfl, Nat.le_refl _, hw1, by omega, by unfold maxLen; omega, by rw [hsz]; omega, by simp⟩⟩
  · obtain ⟨b, o, rfl, hcell⟩ := r.addr (by omega)
    have r1 : Rd (w.alloc (.cells (madeCells #[.int .u8 0] c) 5)) (some ⟨b, o, none⟩) len cap bs := r.below hb1
    have hcp := run_copy_row (P := Tryz.prog) (w.alloc (.cells (madeCells #[.int .u8 0] c) 5)) 24 24 ty 5 w.heap.size 0 len c ⟨b, o, none⟩ len cap _ 5 (bs.map (Value.int .u8))
      Tryz.underlying24 Tryz.size8 hw1 (by simp [hbl]) (r1.cells _ rfl) (by rw [hsz]; simp; omega) (ints_oneCell _ _)
    rw [List.length_map, hbl] at hcp
    refine ⟨_, _, hmk, hcp, ?_, below_setRow hb1 (Nat.le_refl _) _⟩
    refine ⟨by simp [hbl], .inr ⟨w.heap.size, c, _, rfl, Nat.le_refl _, setRow_heap _ _ _ _ _ _ hw1, hc, by unfold maxLen; omega, ?_, ?_⟩⟩
    · simp [hbl, hsz]; omega
    · simp [hbl]



/-- What is cut out of the bytes. -/
def cutOf (bs : List Int) (off n : Int) : List Int := if off + n ≤ bs.length then (bs.drop off.toNat).take n.toNat else []
def cutOk (bs : List Int) (off n : Int) : Bool := decide (off + n ≤ bs.length)
theorem cutOf_bytes {bs : List Int} (h : Bytes bs) (off n : Int) : Bytes (cutOf bs off n) := by
  unfold cutOf; split
  · exact (h.drop _).take _
  · exact Bytes.nil

theorem Rd.part {w : World} {x : Addr} {len cap : Nat} {bs : List Int} (r : Rd w (some x) len cap bs) (f m : Nat) (h : f + m ≤ len) : Rd w (some (x.add f)) m (cap - f) ((bs.drop f).take m) := by
  have hl := r.length
  have h1 := r.le
  have h2 := r.max
  refine ⟨by simp; omega, by omega, by omega, (r.bytes.drop f).take m, (fun h3 => by cases h3), ?_⟩
  intro y hy i hi
  obtain ⟨b, o, hx, hc⟩ := r.addr (by omega)
  cases hx
  cases hy
  have e : ((⟨b, o, none⟩ : Addr).add f).add i = ⟨b, o + (f + i), none⟩ := by unfold Addr.add; repeat' split <;> simp_all [Nat.add_assoc]
  rw [e, hc (f + i) (by omega)]
  simp [hi]

theorem Rd.part_end {w : World} {a : Option Addr} {len cap : Nat} {bs : List Int} (r : Rd w a len cap bs) (f m : Nat) (h : f + m ≤ len) (hf : cap = f) : Rd w a m 0 ((bs.drop f).take m) := by
  have h1 := r.le
  obtain rfl : m = 0 := by omega
  exact ⟨by simp, Nat.le_refl _, by omega, by simpa using Bytes.nil, fun _ => rfl, fun x hx i hi => by omega⟩





theorem Rd.nothing (w : World) : Rd w none 0 0 [] := ⟨rfl, Nat.le_refl _, by omega, Bytes.nil, fun _ => rfl, fun x hx => by cases hx⟩









end Go.Proofs.YtdhjjlnabbpinaaGreatDoor

/- A map keyed by numbers of 64 bits whose elements are kept as the values they are: what is looked up, stored, counted. -/
namespace Go.Proofs.YtdhjjlnabbpinaaGreatDoor
open Go.RowKit Go.Maps
set_option linter.unusedVariables false
set_option maxRecDepth 100000

theorem law64 : Keyed Tryz.prog 31 := int_keyed Tryz.underlying31

/-- An element reads as the value that it is. -/
def raw (v : Value) : Option (DataW Value × List MemPlace) := some (.held v, [])

/-- A key. -/
def k64 (i : Nat) : Lit := .int .u64 (i : Int)
theorem k64_key (i : Nat) : WideAt.IsKeyLit (k64 i) := trivial
theorem k64_of (i : Nat) (h : i ≤ 18446744073709551615) : keyOf Tryz.prog 31 (.int .u64 (i : Int)) = some (k64 i) :=
  keyOf_int_mk Tryz.underlying31 (by simp [Lit.wf, IntKind.min, IntKind.max, IntKind.signed, IntKind.bits]; omega)
theorem k64_ne {i j : Nat} (h : i ≠ j) : k64 i ≠ k64 j := by
  unfold k64; intro e; injection e with e1 e2; omega

/-- Block b is a map of n entries that holds f i at the key i. -/
def MapAt (w : World) (b n : Nat) (f : Nat → Option Value) : Prop :=
  ∃ D : DataW Value, w.ownsMap Tryz.prog 31 raw b n D ∧ Maps.size D = n ∧
    ∀ i, i ≤ 18446744073709551615 → Maps.has D (k64 i) = (f i).isSome ∧ ∀ v, f i = some v → ∀ z, D.atKey (k64 i) z = .held v

theorem MapAt.lt {w : World} {b n : Nat} {f : Nat → Option Value} (h : MapAt w b n f) : b < w.heap.size := by
  obtain ⟨D, h1, _⟩ := h
  exact h1.lt

theorem MapAt.kept {w w' : World} {b n : Nat} {f : Nat → Option Value} (h : MapAt w b n f) (hb : w'.heap[b]? = w.heap[b]?) : MapAt w' b n f := by
  obtain ⟨D, ⟨es, clock, h1, h2⟩, h3⟩ := h
  exact ⟨D, ⟨es, clock, hb.trans h1, h2⟩, h3⟩

theorem MapAt.congr {w : World} {b n : Nat} {f g : Nat → Option Value} (h : MapAt w b n f) (hfg : ∀ i, i ≤ 18446744073709551615 → f i = g i) : MapAt w b n g := by
  obtain ⟨D, h1, h2, h3⟩ := h
  exact ⟨D, h1, h2, fun i hi => by rw [← hfg i hi]; exact h3 i hi⟩

theorem MapAt.made (w : World) : MapAt (w.alloc (.map #[] 0)) w.heap.size 0 (fun _ => none) :=
  ⟨.map [], World.ownsMap_made w _ _ _, rfl, fun i hi => ⟨rfl, fun v hv => by cases hv⟩⟩

theorem MapAt.noCells {w : World} {b n : Nat} {f : Nat → Option Value} (h : MapAt w b n f) {cs : Array Value} {t : TypeId} {fz : Nat × Nat} (hc : w.heap[b]? = some (.cells cs t fz)) : False := by
  obtain ⟨D, ⟨es, clock, h1, h2⟩, h3⟩ := h
  rw [h1] at hc
  cases hc

theorem MapAt.look {w : World} {b n : Nat} {f : Nat → Option Value} (h : MapAt w b n f) {t e : TypeId} (ht : Tryz.prog.underlying t = some (.map 31 e)) {z : Value} (hz : (zeroValue e).run Tryz.prog w = .ok z w) (i : Nat) (hi : i ≤ 18446744073709551615) :
    (Instr.lookup t (.map (some b)) (.int .u64 (i : Int)) false).run Tryz.prog w = .ok ((f i).getD z) w := by
  obtain ⟨D, hown, _, hf⟩ := h
  obtain ⟨h1, h2⟩ := hf i hi
  obtain ⟨v, ps, hrun, hv⟩ := hown.lookup law64 ht hz (zd := .held z) (zp := []) rfl (k64_of i hi)
  have hv' : DataW.held v = D.atKey (k64 i) (.held z) := by have h9 := hv; simp [raw] at h9; exact h9.1
  cases hfi : f i with
  | none =>
    rw [hfi] at h1
    rw [atKey_of_not_has h1] at hv'
    injection hv' with e
    subst e
    exact hrun
  | some u =>
    rw [h2 u hfi] at hv'
    injection hv' with e
    subst e
    exact hrun

theorem MapAt.lookOk {w : World} {b n : Nat} {f : Nat → Option Value} (h : MapAt w b n f) {t e : TypeId} (ht : Tryz.prog.underlying t = some (.map 31 e)) {z : Value} (hz : (zeroValue e).run Tryz.prog w = .ok z w) (i : Nat) (hi : i ≤ 18446744073709551615) :
    (Instr.lookup t (.map (some b)) (.int .u64 (i : Int)) true).run Tryz.prog w = .ok (.tuple #[(f i).getD z, .bool (f i).isSome]) w := by
  obtain ⟨D, hown, _, hf⟩ := h
  obtain ⟨h1, h2⟩ := hf i hi
  obtain ⟨v, ps, hrun, hv⟩ := hown.look_ok law64 ht hz (zd := .held z) (zp := []) rfl (k64_of i hi)
  have hv' : DataW.held v = D.atKey (k64 i) (.held z) := by have h9 := hv; simp [raw] at h9; exact h9.1
  rw [h1] at hrun
  cases hfi : f i with
  | none =>
    rw [hfi] at h1 hrun
    rw [atKey_of_not_has h1] at hv'
    injection hv' with e
    subst e
    exact hrun
  | some u =>
    rw [hfi] at hrun
    rw [h2 u hfi] at hv'
    injection hv' with e
    subst e
    exact hrun

theorem MapAt.len {w : World} {b n : Nat} {f : Nat → Option Value} (h : MapAt w b n f) {t e : TypeId} (ht : Tryz.prog.underlying t = some (.map 31 e)) (ty : TypeId) :
    (Builtin.len_ #[t] ty #[.map (some b)]).run Tryz.prog w = .ok (.int .i64 (n : Int)) w := by
  obtain ⟨D, hown, hs, hf⟩ := h
  have := hown.len ht ty
  rwa [hs] at this

/-- f with v at i. -/
def upd (f : Nat → Option Value) (i : Nat) (v : Value) (j : Nat) : Option Value := if j = i then some v else f j

theorem MapAt.store {w : World} {b n : Nat} {f : Nat → Option Value} (h : MapAt w b n f) {t e : TypeId} (ht : Tryz.prog.underlying t = some (.map 31 e)) (hn : n < maxLen) (i : Nat) (hi : i ≤ 18446744073709551615) (v : Value) :
    ∃ w', (Instr.mapUpdate t (.map (some b)) (.int .u64 (i : Int)) v).run Tryz.prog w = .ok () w' ∧ MapAt w' b (if (f i).isSome then n else n + 1) (upd f i v) ∧ w.grownBy w' (some b) ∧ w'.heap.size = w.heap.size := by
  obtain ⟨D, hown, hs, hf⟩ := h
  obtain ⟨w', hrun, hown', hturn⟩ := hown.store law64 ht hn (k64_of i hi) (d := .held v) (ps := []) rfl
  have htd := hown.tidy law64
  have hsz : Maps.size (D.put (k64 i) (.held v)) = if (f i).isSome then n else n + 1 := by
    rw [size_put htd, (hf i hi).1, hs]
  refine ⟨w', hrun, ⟨D.put (k64 i) (.held v), ?_, hsz, fun j hj => ?_⟩, hturn.grown, ?_⟩
  · obtain ⟨es, clock, h1, h2, h3, h4⟩ := hown'
    refine ⟨es, clock, h1, h2, ?_, h4⟩
    have e1 : Maps.size (D.put (k64 i) (.held v)) = es.size := by rw [h4]; simp [Maps.size, length_sorted]
    omega
  · by_cases hji : j = i
    · subst hji
      refine ⟨by rw [has_put_same htd.isMap (k64_key _)]; simp [upd], fun u hu z => ?_⟩
      rw [atKey_put_same htd.isMap (k64_key _)]
      simp [upd] at hu
      rw [hu]
    · rw [has_put_other (k64_ne hji), (hf j hj).1]
      refine ⟨by simp [upd, hji], fun u hu z => ?_⟩
      rw [atKey_put_other (k64_ne hji)]
      exact (hf j hj).2 u (by simpa [upd, hji] using hu) z
  · obtain ⟨es, clock, es', clock', hb, rfl⟩ := hturn
    simp [ChangeMaps.setBlock]

#print axioms MapAt.store

end Go.Proofs.YtdhjjlnabbpinaaGreatDoor

/- What a call leaves of the memory: blocks that it may turn, blocks that stay; things of the call's own that lie apart from one another. -/
namespace Go.Proofs.YtdhjjlnabbpinaaGreatDoor
open Go.RowKit
set_option linter.unusedVariables false
set_option maxRecDepth 100000

/-! ### What a call leaves -/

/-- Nothing but blocks of F has turned. -/
structure Kept (F : Nat → Prop) (w w' : World) : Prop where
  os : w'.os = w.os
  tape : w'.tape = w.tape
  output : w'.output = w.output
  size : w.heap.size ≤ w'.heap.size
  block : ∀ k, k < w.heap.size → ¬ F k → w'.heap[k]? = w.heap[k]?

theorem Kept.refl (F : Nat → Prop) (w : World) : Kept F w w := ⟨rfl, rfl, rfl, Nat.le_refl _, fun _ _ _ => rfl⟩

theorem Kept.trans {F F' : Nat → Prop} {w w' w'' : World} (h : Kept F w w') (h' : Kept F' w' w'') (hF : ∀ k, F' k → F k ∨ w.heap.size ≤ k) : Kept F w w'' :=
  ⟨h'.os.trans h.os, h'.tape.trans h.tape, h'.output.trans h.output, Nat.le_trans h.size h'.size, fun k hk hn => by
    have h1 := h.size
    rw [h'.block k (by omega) (fun hk' => by rcases hF k hk' with h2 | h2; exact hn h2; omega), h.block k hk hn]⟩

theorem Kept.mono {F F' : Nat → Prop} {w w' : World} (h : Kept F w w') (hF : ∀ k, F k → F' k) : Kept F' w w' :=
  ⟨h.os, h.tape, h.output, h.size, fun k hk hn => h.block k hk (fun hk' => hn (hF k hk'))⟩

theorem Kept.of_grown {F : Nat → Prop} {w w' : World} {row : Option Nat} (h : w.grownBy w' row) (hr : ∀ k, row = some k → F k) : Kept F w w' :=
  ⟨h.os, h.tape, h.output, h.size, fun k hk hn => h.block k hk (fun e => hn (hr k e.symm))⟩

theorem Kept.alloc {F : Nat → Prop} {a w : World} (h : Kept F a w) (o : Obj) : Kept F a (w.alloc o) :=
  h.trans (F' := fun _ => False) ⟨rfl, rfl, rfl, by simp, fun k hk _ => Below.heap_alloc _ _ _ hk⟩ (fun k hk => hk.elim)

theorem Kept.drew {F : Nat → Prop} {a w : World} (h : Kept F a w) : Kept F a w.drew := ⟨h.os, h.tape, h.output, h.size, h.block⟩

theorem Kept.setCell {F : Nat → Prop} {a w : World} (h : Kept F a w) (p : Addr) (u : Value) (hp : F p.block ∨ a.heap.size ≤ p.block) : Kept F a (w.setCell p u) :=
  h.trans (F' := fun k => k = p.block) ⟨rfl, rfl, rfl, by simp [World.setCell], fun k hk hn => Below.heap_setCell _ _ _ _ hn⟩ (fun k hk => by subst hk; exact hp)

theorem Kept.setRow {F : Nat → Prop} {a w : World} (h : Kept F a w) (g : Nat) (cs : Array Value) (hp : F g ∨ a.heap.size ≤ g) : Kept F a (w.setRow g cs) :=
  h.trans (F' := fun k => k = g) ⟨rfl, rfl, rfl, by simp [World.setRow], fun k hk hn => setRow_other w g k cs hn⟩ (fun k hk => by subst hk; exact hp)

theorem Kept.below {F : Nat → Prop} {w w' : World} {B : Nat} (h : Kept F w w') (hB : B ≤ w.heap.size) (hF : ∀ k, F k → B ≤ k) : Below B w w' :=
  ⟨h.os, h.tape, h.output, h.size, fun k hk => h.block k (by omega) (fun hk' => by have := hF k hk'; omega)⟩

theorem kept_of_below {w w' : World} (h : Below w.heap.size w w') (F : Nat → Prop) : Kept F w w' :=
  ⟨h.os, h.tape, h.output, h.size, fun k hk _ => h.block k hk⟩

theorem Kept.cell {F : Nat → Prop} {w w' : World} (h : Kept F w w') {p : Addr} {v : Value} (hv : w.cell? p = some v) (hp : ¬ F p.block) : w'.cell? p = some v :=
  (World.cell?_of_block (w := w) (h.block p.block (World.block_lt_of_cell? _ _ hv) hp)).trans hv

/-- A slice of bytes that doesn't lie in F is read as it was. -/
theorem Kept.rd {F : Nat → Prop} {w w' : World} (h : Kept F w w') {a : Option Addr} {len cap : Nat} {bs : List Int} (r : Rd w a len cap bs) (hs : 0 < len → ∀ x, a = some x → ¬ F x.block) : Rd w' a len cap bs :=
  ⟨r.length, r.le, r.max, r.bytes, r.nil, fun x hx i hi => by
    have h1 := r.cell x hx i hi
    refine h.cell h1 ?_
    have e : (x.add i).block = x.block := by unfold Addr.add; split <;> rfl
    rw [e]; exact hs (by omega) x hx⟩

/-- Where blocks F were a memory's, F' are. -/
def Went (F : Nat → Prop) (w : World) (F' : Nat → Prop) (w' : World) : Prop := Kept F w w' ∧ ∀ k, F' k → F k ∨ w.heap.size ≤ k

theorem Went.refl (F : Nat → Prop) (w : World) : Went F w F w := ⟨Kept.refl _ _, fun _ h => Or.inl h⟩
theorem Went.trans {F F' F'' : Nat → Prop} {w w' w'' : World} (h : Went F w F' w') (h' : Went F' w' F'' w'') : Went F w F'' w'' :=
  ⟨h.1.trans h'.1 h.2, fun k hk => by
    rcases h'.2 k hk with h1 | h1
    · exact h.2 k h1
    · have := h.1.size; right; omega⟩

theorem Went.below {F F' : Nat → Prop} {w w' : World} {B : Nat} (h : Went F w F' w') (hB : B ≤ w.heap.size) (hF : ∀ k, F k → B ≤ k) : Below B w w' ∧ (∀ k, F' k → B ≤ k) :=
  ⟨h.1.below hB hF, fun k hk => by
    rcases h.2 k hk with h1 | h1
    · exact hF k h1
    · omega⟩

/-! ### Things of the call's own, apart from one another -/

/-- What blocks F of a world hold (and what lies below B) lasts while others turn. -/
structure Stays (B : Nat) (P : World → (Nat → Prop) → Prop) : Prop where
  kept : ∀ {w w' : World} {F G : Nat → Prop}, P w F → Kept G w w' → (∀ k, F k → ¬ G k) → (∀ k, G k → B ≤ k) → P w' F
  flt : ∀ {w : World} {F : Nat → Prop}, P w F → ∀ k, F k → k < w.heap.size

/-- Things side by side, in blocks apart. -/
def Stars : List (World → (Nat → Prop) → Prop) → World → (Nat → Prop) → Prop
  | [], _, F => ∀ k, ¬ F k
  | P :: l, w, F => ∃ F1 F2, P w F1 ∧ Stars l w F2 ∧ (∀ k, F1 k → ¬ F2 k) ∧ ∀ k, F k ↔ F1 k ∨ F2 k

theorem Stars.swap {w : World} {F : Nat → Prop} {P Q : World → (Nat → Prop) → Prop} {l : List (World → (Nat → Prop) → Prop)} (h : Stars (P :: Q :: l) w F) : Stars (Q :: P :: l) w F := by
  obtain ⟨F1, F2, h1, ⟨G1, G2, g1, g2, g3, g4⟩, h3, h4⟩ := h
  refine ⟨G1, fun k => F1 k ∨ G2 k, g1, ⟨F1, G2, h1, g2, fun k hf hg => h3 k hf ((g4 k).2 (Or.inr hg)), fun k => Iff.rfl⟩, fun k hk hf => ?_, fun k => ?_⟩
  · rcases hf with hf | hf
    · exact h3 k hf ((g4 k).2 (Or.inl hk))
    · exact g3 k hk hf
  · rw [h4, g4]
    constructor
    · rintro (h | h | h)
      · exact Or.inr (Or.inl h)
      · exact Or.inl h
      · exact Or.inr (Or.inr h)
    · rintro (h | h | h)
      · exact Or.inr (Or.inl h)
      · exact Or.inl h
      · exact Or.inr (Or.inr h)

theorem Stars.perm {w : World} {l l' : List (World → (Nat → Prop) → Prop)} (hp : l.Perm l') : ∀ {F : Nat → Prop}, Stars l w F → Stars l' w F := by
  induction hp with
  | nil => exact fun h => h
  | cons x _ ih =>
    rintro F ⟨F1, F2, h1, h2, h3⟩
    exact ⟨F1, F2, h1, ih h2, h3⟩
  | swap x y l => exact fun h => Stars.swap h
  | trans _ _ ih1 ih2 => exact fun h => ih2 (ih1 h)

def AllStay (B : Nat) (l : List (World → (Nat → Prop) → Prop)) : Prop := ∀ P ∈ l, Stays B P

theorem AllStay.nil (B : Nat) : AllStay B [] := fun _ h => by cases h
theorem AllStay.cons {B : Nat} {P : World → (Nat → Prop) → Prop} {l : List (World → (Nat → Prop) → Prop)} (h : Stays B P) (hl : AllStay B l) : AllStay B (P :: l) := fun Q hq => by
  rcases List.mem_cons.1 hq with rfl | hq
  · exact h
  · exact hl Q hq

theorem Stars.flt {B : Nat} {w : World} : ∀ {l : List (World → (Nat → Prop) → Prop)} {F : Nat → Prop}, AllStay B l → Stars l w F → ∀ k, F k → k < w.heap.size
  | [], F, _, h, k, hk => (h k hk).elim
  | P :: l, F, hs, ⟨F1, F2, h1, h2, h3, h4⟩, k, hk => by
    rcases (h4 k).1 hk with hk | hk
    · exact (hs P (List.mem_cons_self ..)).flt h1 k hk
    · exact Stars.flt (fun Q hq => hs Q (List.mem_cons_of_mem _ hq)) h2 k hk

theorem Stars.kept {B : Nat} {w w' : World} {G : Nat → Prop} (hk : Kept G w w') (hG : ∀ k, G k → B ≤ k) : ∀ {l : List (World → (Nat → Prop) → Prop)} {F : Nat → Prop}, AllStay B l → Stars l w F → (∀ k, F k → ¬ G k) → Stars l w' F
  | [], F, _, h, _ => h
  | P :: l, F, hs, ⟨F1, F2, h1, h2, h3, h4⟩, hd =>
    ⟨F1, F2, (hs P (List.mem_cons_self ..)).kept h1 hk (fun k hf => hd k ((h4 k).2 (Or.inl hf))) hG,
      Stars.kept hk hG (fun Q hq => hs Q (List.mem_cons_of_mem _ hq)) h2 (fun k hf => hd k ((h4 k).2 (Or.inr hf))), h3, h4⟩

/-- The call, begun in w0, has these things of its own in w; what was there at the beginning is as it was. -/
structure Has (w0 w : World) (l : List (World → (Nat → Prop) → Prop)) : Prop where
  ex : ∃ F, Stars l w F ∧ ∀ k, F k → w0.heap.size ≤ k
  bel : Below w0.heap.size w0 w
  stay : AllStay w0.heap.size l

section
variable {w0 w w' : World} {P Q R : World → (Nat → Prop) → Prop} {l l' : List (World → (Nat → Prop) → Prop)}

theorem Has.start (h : Below w0.heap.size w0 w) : Has w0 w [] := ⟨⟨fun _ => False, fun _ h => h, fun _ h => h.elim⟩, h, AllStay.nil _⟩

theorem Has.perm (h : Has w0 w l) (hp : l.Perm l') : Has w0 w l' := by
  obtain ⟨F, h1, h2⟩ := h.ex
  exact ⟨⟨F, h1.perm hp, h2⟩, h.bel, fun P hP => h.stay P (hp.mem_iff.2 hP)⟩

theorem Has.swap (h : Has w0 w (P :: Q :: l)) : Has w0 w (Q :: P :: l) := h.perm (List.Perm.swap ..)
theorem Has.rot (h : Has w0 w (P :: Q :: R :: l)) : Has w0 w (Q :: R :: P :: l) := h.perm ((List.Perm.swap ..).trans (List.Perm.cons _ (List.Perm.swap ..)))
theorem Has.back (h : Has w0 w (P :: Q :: R :: l)) : Has w0 w (R :: P :: Q :: l) := h.perm ((List.Perm.cons _ (List.Perm.swap ..)).trans (List.Perm.swap ..))

theorem Has.drop (h : Has w0 w (P :: l)) : Has w0 w l := by
  obtain ⟨F, ⟨F1, F2, h1, h2, h3, h4⟩, h5⟩ := h.ex
  exact ⟨⟨F2, h2, fun k hk => h5 k ((h4 k).2 (Or.inr hk))⟩, h.bel, fun Q hQ => h.stay Q (List.mem_cons_of_mem _ hQ)⟩

/-- Nothing of what is there turns. -/
theorem Has.below (h : Has w0 w l) (hb : Below w.heap.size w w') : Has w0 w' l := by
  obtain ⟨F, h1, h2⟩ := h.ex
  exact ⟨⟨F, h1.kept (kept_of_below hb (fun _ => False)) (fun _ h => h.elim) h.stay (fun _ _ h => h), h2⟩, h.bel.trans (hb.mono h.bel.size), h.stay⟩
theorem Has.drew (h : Has w0 w l) : Has w0 w.drew l := h.below (Below.refl _ _).drew

/-- A new thing, in new blocks. -/
theorem Has.more (h : Has w0 w l) (hb : Below w.heap.size w w') {F : Nat → Prop} (hP : P w' F) (hF : ∀ k, F k → w.heap.size ≤ k) (hs : Stays w0.heap.size P) : Has w0 w' (P :: l) := by
  have h' := h.below hb
  obtain ⟨G, g1, g2⟩ := h.ex
  have g1' := g1.kept (kept_of_below hb (fun _ => False)) (fun _ h => h.elim) h.stay (fun _ _ h => h)
  refine ⟨⟨fun k => F k ∨ G k, ⟨F, G, hP, g1', fun k hf hg => ?_, fun k => Iff.rfl⟩, fun k hk => ?_⟩, h'.bel, AllStay.cons hs h.stay⟩
  · have := hF k hf
    have := g1.flt h.stay k hg
    omega
  · rcases hk with hk | hk
    · have := hF k hk
      have := h.bel.size
      omega
    · exact g2 k hk

/-- The first thing is opened; whatever then turns it alone leaves the others. -/
theorem Has.step (h : Has w0 w (P :: l)) : ∃ F, P w F ∧ (∀ k, F k → w0.heap.size ≤ k) ∧ ∀ (w' : World) (P' : World → (Nat → Prop) → Prop) (F' : Nat → Prop), P' w' F' → Went F w F' w' → Stays w0.heap.size P' → Has w0 w' (P' :: l) := by
  obtain ⟨F, ⟨F1, F2, h1, h2, h3, h4⟩, h5⟩ := h.ex
  have hl : AllStay w0.heap.size l := fun Q hQ => h.stay Q (List.mem_cons_of_mem _ hQ)
  have b1 : ∀ k, F1 k → w0.heap.size ≤ k := fun k hk => h5 k ((h4 k).2 (Or.inl hk))
  refine ⟨F1, h1, b1, fun w' P' F' hP' hw hs => ?_⟩
  have g := hw.below h.bel.size b1
  refine ⟨⟨fun k => F' k ∨ F2 k, ⟨F', F2, hP', h2.kept hw.1 b1 hl (fun k hf hg => h3 k hg hf), fun k hf hg => ?_, fun k => Iff.rfl⟩, fun k hk => ?_⟩, h.bel.trans g.1, AllStay.cons hs hl⟩
  · rcases hw.2 k hf with h6 | h6
    · exact h3 k h6 hg
    · have := h2.flt hl k hg
      omega
  · rcases hk with hk | hk
    · exact g.2 k hk
    · exact h5 k ((h4 k).2 (Or.inr hk))

end

end Go.Proofs.YtdhjjlnabbpinaaGreatDoor

/- A memory as the document has it: permissions by page, bytes by address, how many pages; the program's memory in a world, what of it a call may turn. -/
namespace Go.Proofs.YtdhjjlnabbpinaaGreatDoor
open Go.RowKit Go.Maps
set_option linter.unusedVariables false
set_option maxRecDepth 100000

/-- A memory: what may be done with a page (0: there is none), the byte at an address, how many pages there are. -/
structure Mm where
  perm : Nat → Int
  byte : Nat → Int
  count : Nat

structure Mm.Good (S : Mm) : Prop where
  perm : ∀ i, 0 ≤ S.perm i ∧ S.perm i ≤ 7
  top : ∀ i, 34359738368 ≤ i → S.perm i = 0
  byte : ∀ a, 0 ≤ S.byte a ∧ S.byte a ≤ 255
  count : S.count ≤ 65536

/-- Bytes laid from a on. -/
def Mm.lay (S : Mm) (a : Nat) (bs : List Int) : Mm := { S with byte := fun x => if a ≤ x ∧ x < a + bs.length then bs.getD (x - a) 0 else S.byte x }

/-- n pages of noughts laid from page f on. -/
def Mm.mapped (S : Mm) (f n : Nat) (p : Int) : Mm :=
  { perm := fun i => if f ≤ i ∧ i < f + n then p else S.perm i
    byte := fun x => if f ≤ x / 4096 ∧ x / 4096 < f + n then 0 else S.byte x
    count := S.count + n }

def Mm.new : Mm := ⟨fun _ => 0, fun _ => 0, 0⟩

theorem Mm.new_good : Mm.new.Good := ⟨fun _ => by simp [Mm.new], fun _ _ => rfl, fun _ => by simp [Mm.new], by simp [Mm.new]⟩

theorem Mm.ext {S T : Mm} (h1 : ∀ i, S.perm i = T.perm i) (h2 : ∀ i, S.byte i = T.byte i) (h3 : S.count = T.count) : S = T := by
  cases S; cases T
  simp only [Mm.mk.injEq]
  exact ⟨funext h1, funext h2, h3⟩

theorem Mm.lay_nil (S : Mm) (a : Nat) : S.lay a [] = S := Mm.ext (fun _ => rfl) (fun x => by simp [Mm.lay]; omega) rfl

theorem Mm.lay_more (S : Mm) (a : Nat) (bs cs : List Int) : (S.lay a bs).lay (a + bs.length) cs = S.lay a (bs ++ cs) :=
  Mm.ext (fun _ => rfl) (fun x => by
    simp only [Mm.lay, List.length_append, List.getD_eq_getElem?_getD]
    by_cases h1 : a + bs.length ≤ x ∧ x < a + bs.length + cs.length
    · rw [if_pos h1, if_pos (by omega), List.getElem?_append_right (by omega)]
      rw [show x - a - bs.length = x - (a + bs.length) by omega]
    · rw [if_neg h1]
      by_cases h2 : a ≤ x ∧ x < a + bs.length
      · rw [if_pos h2, if_pos (by omega), List.getElem?_append_left (by omega)]
      · rw [if_neg h2, if_neg (by omega)]) rfl

theorem Mm.mapped_zero (S : Mm) (f : Nat) (p : Int) : S.mapped f 0 p = S :=
  Mm.ext (fun i => by simp [Mm.mapped]; omega) (fun x => by simp [Mm.mapped]; omega) rfl

theorem Mm.mapped_succ (S : Mm) (f n : Nat) (p : Int) : (S.mapped f n p).mapped (f + n) 1 p = S.mapped f (n + 1) p :=
  Mm.ext (fun i => by
      simp only [Mm.mapped]
      by_cases h1 : f + n ≤ i ∧ i < f + n + 1
      · rw [if_pos h1, if_pos (by omega)]
      · rw [if_neg h1]
        by_cases h2 : f ≤ i ∧ i < f + n
        · rw [if_pos h2, if_pos (by omega)]
        · rw [if_neg h2, if_neg (by omega)])
    (fun x => by
      simp only [Mm.mapped]
      by_cases h1 : f + n ≤ x / 4096 ∧ x / 4096 < f + n + 1
      · rw [if_pos h1, if_pos (by omega)]
      · rw [if_neg h1]
        by_cases h2 : f ≤ x / 4096 ∧ x / 4096 < f + n
        · rw [if_pos h2, if_pos (by omega)]
        · rw [if_neg h2, if_neg (by omega)])
    (by simp [Mm.mapped]; omega)

theorem Mm.Good.lay {S : Mm} (h : S.Good) (a : Nat) {bs : List Int} (hb : Bytes bs) : (S.lay a bs).Good :=
  ⟨h.perm, h.top, fun x => by
    simp only [Mm.lay, List.getD_eq_getElem?_getD]
    split
    · exact hb.at _
    · exact h.byte x, h.count⟩

theorem Mm.Good.mapped {S : Mm} (h : S.Good) (f n : Nat) {p : Int} (hp : 1 ≤ p ∧ p ≤ 7) (hn : S.count + n ≤ 65536) (ht : f + n ≤ 34359738368) : (S.mapped f n p).Good :=
  ⟨fun i => by
      simp only [Mm.mapped]
      split
      · omega
      · exact h.perm i,
    fun i hi => by
      simp only [Mm.mapped]
      rw [if_neg (by omega)]
      exact h.top i hi,
    fun x => by
      simp only [Mm.mapped]
      split
      · omega
      · exact h.byte x, hn⟩

/-! ### The program's memory -/

/-- A page's bytes: none, or those of a block. -/
def dsl : Option Nat → Value
  | none => .slice none 0 0
  | some g => .slice (some ⟨g, 0, none⟩) 4096 4096

/-- A page's value: its permission, its bytes' block. -/
def pv (p : Int) (d : Option Nat) : Value := .agg #[.int .i64 p, dsl d]

/-- A block of bytes: those of page i. -/
def Page (w : World) (g : Nat) (S : Mm) (i : Nat) : Prop :=
  ∃ cs : List Value, w.heap[g]? = some (.cells cs.toArray 5 (0, 0)) ∧ cs.length = 4096 ∧ ∀ j, j < 4096 → cs[j]? = some (.int .u8 (S.byte (i * 4096 + j)))

theorem Page.kept {w w' : World} {g : Nat} {S : Mm} {i : Nat} (h : Page w g S i) (hb : w'.heap[g]? = w.heap[g]?) : Page w' g S i := by
  obtain ⟨cs, h1, h2⟩ := h
  exact ⟨cs, hb.trans h1, h2⟩

theorem Page.lt {w : World} {g : Nat} {S : Mm} {i : Nat} (h : Page w g S i) : g < w.heap.size := by
  obtain ⟨cs, h1, h2⟩ := h
  exact (Array.getElem?_eq_some_iff.1 h1).1

structure PMx (w : World) (m b : Nat) (dt : Nat → Option Nat) (S : Mm) (F : Nat → Prop) : Prop where
  head : w.heap[m]? = some (.cells #[.map (some b)] 98 (0, 0))
  map : MapAt w b S.count (fun i => if S.perm i = 0 then none else some (pv (S.perm i) (dt i)))
  good : S.Good
  dn : ∀ i, S.perm i = 0 → dt i = none
  noughts : ∀ i, S.perm i ≠ 0 → dt i = none → ∀ j, j < 4096 → S.byte (i * 4096 + j) = 0
  page : ∀ i g, dt i = some g → Page w g S i
  apart : ∀ i j g, dt i = some g → dt j = some g → i = j
  fm : F m
  fb : F b
  fg : ∀ i g, dt i = some g → F g
  flt : ∀ k, F k → k < w.heap.size

/-- Block m is the program's memory S; its blocks are among F. -/
def PM (w : World) (m : Nat) (S : Mm) (F : Nat → Prop) : Prop := ∃ b dt, PMx w m b dt S F

theorem PMx.mb {w : World} {m b : Nat} {dt : Nat → Option Nat} {S : Mm} {F : Nat → Prop} (h : PMx w m b dt S F) : m ≠ b := fun e => by
  subst e; exact h.map.noCells h.head

theorem PMx.gb {w : World} {m b : Nat} {dt : Nat → Option Nat} {S : Mm} {F : Nat → Prop} (h : PMx w m b dt S F) {i g : Nat} (hg : dt i = some g) : g ≠ b := fun e => by
  subst e
  obtain ⟨cs, h1, _⟩ := h.page i g hg
  exact h.map.noCells h1

theorem PMx.gm {w : World} {m b : Nat} {dt : Nat → Option Nat} {S : Mm} {F : Nat → Prop} (h : PMx w m b dt S F) {i g : Nat} (hg : dt i = some g) : g ≠ m := fun e => by
  subst e
  obtain ⟨cs, h1, h2, _⟩ := h.page i g hg
  rw [h.head] at h1
  have h3 := congrArg (fun o : Option Obj => match o with | some (.cells c _ _) => c.size | _ => 0) h1
  simp [h2] at h3

theorem PMx.cell {w : World} {m b : Nat} {dt : Nat → Option Nat} {S : Mm} {F : Nat → Prop} (h : PMx w m b dt S F) : w.cell? ⟨m, 0, none⟩ = some (.map (some b)) := by
  rw [cell_of_row _ _ 0 _ _ _ h.head]; rfl

theorem PMx.kept {w w' : World} {m b : Nat} {dt : Nat → Option Nat} {S : Mm} {F G : Nat → Prop} (h : PMx w m b dt S F) (hk : Kept G w w') (hd : ∀ k, F k → ¬ G k) : PMx w' m b dt S F :=
  have same : ∀ k, F k → w'.heap[k]? = w.heap[k]? := fun k hF => hk.block k (h.flt k hF) (hd k hF)
  ⟨(same m h.fm).trans h.head, h.map.kept (same b h.fb), h.good, h.dn, h.noughts, fun i g hg => (h.page i g hg).kept (same g (h.fg i g hg)), h.apart, h.fm, h.fb, h.fg,
    fun k hF => Nat.lt_of_lt_of_le (h.flt k hF) hk.size⟩

theorem PM.kept {w w' : World} {m : Nat} {S : Mm} {F G : Nat → Prop} (h : PM w m S F) (hk : Kept G w w') (hd : ∀ k, F k → ¬ G k) : PM w' m S F := by
  obtain ⟨b, dt, h⟩ := h
  exact ⟨b, dt, h.kept hk hd⟩

theorem PM.good {w : World} {m : Nat} {S : Mm} {F : Nat → Prop} (h : PM w m S F) : S.Good := by
  obtain ⟨b, dt, h⟩ := h
  exact h.good

theorem PM.flt {w : World} {m : Nat} {S : Mm} {F : Nat → Prop} (h : PM w m S F) : ∀ k, F k → k < w.heap.size := by
  obtain ⟨b, dt, h⟩ := h
  exact h.flt

theorem PM.below {w w' : World} {m : Nat} {S : Mm} {F : Nat → Prop} (h : PM w m S F) (hb : Below w.heap.size w w') : PM w' m S F :=
  h.kept (kept_of_below hb (fun _ => False)) (fun _ _ h => h)

end Go.Proofs.YtdhjjlnabbpinaaGreatDoor

/- Contracts of package mem's small calls: rangeGood, permGood, widthGood, New, Size, Perm. -/
namespace Go.Proofs.YtdhjjlnabbpinaaGreatDoor
open Go.RowKit Go.Maps
set_option linter.unusedVariables false
set_option maxRecDepth 100000

theorem rangeGood_any (addr size : Nat) (w : World) (ha : addr ≤ 18446744073709551615) (hs : size ≤ 18446744073709551615) :
    Calls Tryz.prog 51 #[.int .u64 (addr : Int), .int .u64 (size : Int)] w fun e w' =>
      e = .returned (.bool (decide (addr % 4096 = 0 ∧ 0 < size ∧ addr + size ≤ 140737488355328))) ∧ w' = w := by
  by_cases h1 : addr % 4096 = 0
  · by_cases h2 : 0 < size
    · by_cases h3 : addr ≤ 140737488355328
      · go_enter Tryz.func51, Tryz.ntmps51
        go_wp2
        go_ret
        exact ⟨ret_bool (by rw [decide_eq_decide]; omega), rfl⟩
      · go_enter Tryz.func51, Tryz.ntmps51
        go_wp2
        go_ret
        exact ⟨ret_bool (by simp; omega), rfl⟩
    · go_enter Tryz.func51, Tryz.ntmps51
      go_wp2
      go_ret
      exact ⟨ret_bool (by simp; omega), rfl⟩
  · go_enter Tryz.func51, Tryz.ntmps51
    go_wp2
    go_ret
    exact ⟨ret_bool (by simp; omega), rfl⟩

/-- The permissions that may be. -/
def PermOk (p : Int) : Prop := p = 1 ∨ p = 2 ∨ p = 4 ∨ p = 5 ∨ p = 6

instance (p : Int) : Decidable (PermOk p) := by unfold PermOk; infer_instance

theorem PermOk.bd {p : Int} (h : PermOk p) : 1 ≤ p ∧ p ≤ 7 := by unfold PermOk at h; omega

theorem permGood_any (p : Int) (w : World) (h0 : -9223372036854775808 ≤ p) (h1 : p ≤ 9223372036854775807) :
    Calls Tryz.prog 52 #[.int .i64 p] w fun e w' => e = .returned (.bool (decide (PermOk p))) ∧ w' = w := by
  by_cases h2 : 0 < p
  · by_cases h3 : p ≤ 7
    · have h4 : p = 1 ∨ p = 2 ∨ p = 3 ∨ p = 4 ∨ p = 5 ∨ p = 6 ∨ p = 7 := by omega
      rcases h4 with rfl | rfl | rfl | rfl | rfl | rfl | rfl <;>
      · go_enter Tryz.func52, Tryz.ntmps52
        go_wp2
        go_ret
        exact ⟨ret_bool (by decide), rfl⟩
    · have e : decide (PermOk p) = false := decide_eq_false (by unfold PermOk; omega)
      rw [e]
      go_enter Tryz.func52, Tryz.ntmps52
      go_wp2
      go_ret
      exact ⟨rfl, rfl⟩
  · have e : decide (PermOk p) = false := decide_eq_false (by unfold PermOk; omega)
    rw [e]
    go_enter Tryz.func52, Tryz.ntmps52
    go_wp2
    go_ret
    exact ⟨rfl, rfl⟩

/-- The widths that may be. -/
def WidthOk (n : Int) : Prop := n = 1 ∨ n = 2 ∨ n = 4 ∨ n = 8

instance (p : Int) : Decidable (WidthOk p) := by unfold WidthOk; infer_instance

theorem widthGood_any (n : Int) (w : World) :
    Calls Tryz.prog 126 #[.int .i64 n] w fun e w' => e = .returned (.bool (decide (WidthOk n))) ∧ w' = w := by
  by_cases h1 : n = 1
  · subst h1
    go_enter Tryz.func126, Tryz.ntmps126
    go_wp2
    go_ret
    exact ⟨rfl, rfl⟩
  by_cases h2 : n = 2
  · subst h2
    go_enter Tryz.func126, Tryz.ntmps126
    go_wp2
    go_ret
    exact ⟨rfl, rfl⟩
  by_cases h4 : n = 4
  · subst h4
    go_enter Tryz.func126, Tryz.ntmps126
    go_wp2
    go_ret
    exact ⟨rfl, rfl⟩
  by_cases h8 : n = 8
  · subst h8
    go_enter Tryz.func126, Tryz.ntmps126
    go_wp2
    go_ret
    exact ⟨rfl, rfl⟩
  have e : decide (WidthOk n) = false := decide_eq_false (by unfold WidthOk; omega)
  rw [e]
  go_enter Tryz.func126, Tryz.ntmps126
  go_wp2
  go_ret
  exact ⟨ret_bool (by simp [*]), rfl⟩

theorem width_any (n : Int) (w : World) :
    Calls Tryz.prog 86 #[.int .i64 n] w fun e w' => e = .returned (.bool (decide (WidthOk n))) ∧ w' = w := by
  by_cases h1 : n = 1
  · subst h1
    go_enter Tryz.func86, Tryz.ntmps86
    go_wp2
    go_ret
    exact ⟨rfl, rfl⟩
  by_cases h2 : n = 2
  · subst h2
    go_enter Tryz.func86, Tryz.ntmps86
    go_wp2
    go_ret
    exact ⟨rfl, rfl⟩
  by_cases h4 : n = 4
  · subst h4
    go_enter Tryz.func86, Tryz.ntmps86
    go_wp2
    go_ret
    exact ⟨rfl, rfl⟩
  by_cases h8 : n = 8
  · subst h8
    go_enter Tryz.func86, Tryz.ntmps86
    go_wp2
    go_ret
    exact ⟨rfl, rfl⟩
  have e : decide (WidthOk n) = false := decide_eq_false (by unfold WidthOk; omega)
  rw [e]
  go_enter Tryz.func86, Tryz.ntmps86
  go_wp2
  go_ret
  exact ⟨ret_bool (by simp [*]), rfl⟩

theorem zeroPage (w : World) : (zeroValue 104).run Tryz.prog w = .ok (pv 0 none) w := by kernel_rfl
theorem zeroPtr (w : World) : (zeroValue 106).run Tryz.prog w = .ok (.pointer none) w := by kernel_rfl

theorem field0 (x y : Value) (w : World) : (Instr.field 104 (.agg #[x, y]) 0).run Tryz.prog w = .ok x w := by kernel_rfl
theorem field1 (x y : Value) (w : World) : (Instr.field 104 (.agg #[x, y]) 1).run Tryz.prog w = .ok y w := by kernel_rfl

/-- What is looked up of a page's number. -/
theorem PMx.look {w : World} {m b : Nat} {dt : Nat → Option Nat} {S : Mm} {F : Nat → Prop} (h : PMx w m b dt S F) (i : Nat) (hi : i ≤ 18446744073709551615) :
    (Instr.lookup 96 (.map (some b)) (.int .u64 (i : Int)) false).run Tryz.prog w = .ok (pv (S.perm i) (dt i)) w := by
  rw [h.map.look Tryz.underlying96 (zeroPage w) i hi]
  by_cases h0 : S.perm i = 0
  · rw [if_pos h0, h0, h.dn i h0]; rfl
  · rw [if_neg h0]; rfl

theorem PMx.lookOk {w : World} {m b : Nat} {dt : Nat → Option Nat} {S : Mm} {F : Nat → Prop} (h : PMx w m b dt S F) (i : Nat) (hi : i ≤ 18446744073709551615) :
    (Instr.lookup 96 (.map (some b)) (.int .u64 (i : Int)) true).run Tryz.prog w = .ok (.tuple #[pv (S.perm i) (dt i), .bool (decide (S.perm i ≠ 0))]) w := by
  rw [h.map.lookOk Tryz.underlying96 (zeroPage w) i hi]
  by_cases h0 : S.perm i = 0
  · rw [if_pos h0, h0, h.dn i h0]; rfl
  · rw [if_neg h0]; simp [h0]

theorem new_any (w : World) :
    Calls Tryz.prog 17 #[] w fun e w' => ∃ m F, e = .returned (.pointer (some ⟨m, 0, none⟩)) ∧ PM w' m Mm.new F ∧ (∀ k, F k → w.heap.size ≤ k) ∧ Below w.heap.size w w' := by
  have hmm := @run_makeMap Tryz.prog
  go_enter Tryz.func17, Tryz.ntmps17
  go_wp2
  go_ret
  refine ⟨w.heap.size + 1, fun k => k = w.heap.size ∨ k = w.heap.size + 1, rfl, ⟨w.heap.size, fun _ => none, ?_, ?_, Mm.new_good, fun _ _ => rfl, fun i hi => absurd rfl hi, (fun i g hg => by cases hg), (fun i j g hg => by cases hg), Or.inr rfl, Or.inl rfl, (fun i g hg => by cases hg), ?_⟩, ?_, ?_⟩
  · have := heap_alloc_new (w.alloc (.map #[] 0)) (.cells #[.map (some w.heap.size)] 98)
    simpa using this
  · exact ((MapAt.made w).kept (Below.heap_alloc _ _ _ (by simp))).congr (fun i _ => by simp [Mm.new])
  · intro k hk; simp; omega
  · intro k hk; omega
  · exact ((Below.refl _ _).alloc (Nat.le_refl _) _).alloc (by simp) _



theorem perm_any (m : Nat) (S : Mm) (F : Nat → Prop) (addr : Nat) (w : World) (h : PM w m S F) (ha : addr ≤ 18446744073709551615) :
    Calls Tryz.prog 133 #[.pointer (some ⟨m, 0, none⟩), .int .u64 (addr : Int)] w fun e w' => e = .returned (.int .i64 (S.perm (addr / 4096))) ∧ w' = w := by
  obtain ⟨b, dt, h⟩ := h
  have hc := h.cell
  have hl := h.look (addr / 4096) (by omega)
  rw [show ((addr / 4096 : Nat) : Int) = (addr : Int) / 4096 by omega] at hl
  simp only [pv] at hl
  have hf0 := field0
  clear h
  go_enter Tryz.func133, Tryz.ntmps133
  go_wp2
  go_ret
  exact ⟨rfl, rfl⟩

end Go.Proofs.YtdhjjlnabbpinaaGreatDoor

/- Contracts of package mem's may and spare, and of the document's May. -/
namespace Go.Proofs.YtdhjjlnabbpinaaGreatDoor
open Go.RowKit Go.Maps
set_option linter.unusedVariables false
set_option maxRecDepth 100000

/-- Whether the pages of all n bytes from a on have p. -/
def Mayp (S : Mm) (a n : Nat) (p : Int) : Prop := n = 0 ∨ ∀ i, a / 4096 ≤ i → i ≤ (a + n - 1) / 4096 → bits .and .i64 (S.perm i) p ≠ 0
noncomputable def mayB (S : Mm) (a n : Nat) (p : Int) : Bool := @decide (Mayp S a n p) (Classical.propDecidable _)
theorem mayB_yes {S : Mm} {a n : Nat} {p : Int} (h : Mayp S a n p) : mayB S a n p = true := @decide_eq_true _ (Classical.propDecidable _) h
theorem mayB_no {S : Mm} {a n : Nat} {p : Int} (h : ¬ Mayp S a n p) : mayB S a n p = false := @decide_eq_false _ (Classical.propDecidable _) h
theorem mayB_iff {S : Mm} {a n : Nat} {p : Int} : mayB S a n p = true ↔ Mayp S a n p :=
  ⟨fun h => Classical.byContradiction (fun hn => by rw [mayB_no hn] at h; cases h), mayB_yes⟩

theorem Mm.Good.far {S : Mm} (h : S.Good) {a n : Nat} {p : Int} (hn : n ≠ 0) (hp : bits .and .i64 0 p = 0) (hf : 140737488355328 < a + n) : ¬ Mayp S a n p := by
  rintro (h1 | h1)
  · exact hn h1
  · refine h1 ((a + n - 1) / 4096) (by omega) (Nat.le_refl _) ?_
    rw [h.top _ (by omega)]
    exact hp

theorem Mayp.bd {S : Mm} (hg : S.Good) {a n : Nat} {p : Int} (hp : bits .and .i64 0 p = 0) (h : Mayp S a n p) (hn : n ≠ 0) : a + n ≤ 140737488355328 := by
  apply Nat.le_of_not_lt; intro hf
  exact hg.far hn hp hf h

theorem Mayp.mapped {S : Mm} {a n : Nat} {p : Int} (hp : bits .and .i64 0 p = 0) (h : Mayp S a n p) {i : Nat} (h1 : a / 4096 ≤ i) (h2 : i * 4096 < a + n) (hn : n ≠ 0) : S.perm i ≠ 0 := by
  rcases h with h | h
  · exact absurd h hn
  · intro e
    have := h i h1 (by omega)
    rw [e] at this
    exact this hp

set_option maxHeartbeats 800000 in
theorem may_any (m : Nat) (S : Mm) (F : Nat → Prop) (a n : Nat) (p : Int) (w : World) (h : PM w m S F) (ha : a ≤ 18446744073709551615) (hn : n ≤ 18446744073709551615) (hp : bits .and .i64 0 p = 0) :
    Calls Tryz.prog 57 #[.pointer (some ⟨m, 0, none⟩), .int .u64 (a : Int), .int .u64 (n : Int), .int .i64 p] w fun e w' => e = .returned (.bool (mayB S a n p)) ∧ w' = w := by
  by_cases h0 : n = 0
  · rw [mayB_yes (Or.inl h0)]
    subst h0
    go_enter Tryz.func57, Tryz.ntmps57
    go_wp2
    go_ret
    exact ⟨rfl, rfl⟩
  by_cases h1 : 140737488355328 < a + n
  · rw [mayB_no (h.good.far h0 hp h1)]
    by_cases h2 : 140737488355328 < a
    · go_enter Tryz.func57, Tryz.ntmps57
      go_wp2
      go_ret
      exact ⟨rfl, rfl⟩
    · go_enter Tryz.func57, Tryz.ntmps57
      go_wp2
      go_ret
      exact ⟨rfl, rfl⟩
  · obtain ⟨b, dt, h⟩ := h
    have hc := h.cell
    have HP := hide h
    have hf0 := field0
    clear h
    obtain ⟨l, hl⟩ : ∃ l, l = (a + n - 1) / 4096 := ⟨_, rfl⟩
    have hl' : ((l : Nat) : Int) = ((a : Int) + (n : Int) - 1) / 4096 := by omega
    have HL := hide hl
    obtain ⟨f, hf⟩ : ∃ f, f = a / 4096 := ⟨_, rfl⟩
    have hf' : (a : Int) / 4096 = (f : Int) := by omega
    have HF := hide hf
    have hfl : f ≤ l := by omega
    have hll : l ≤ 34359738368 := by omega
    clear hf hl
    have hMay : Hid (Mayp S a n p ↔ ∀ i, f ≤ i → i ≤ l → bits .and .i64 (S.perm i) p ≠ 0) := by
      unfold Mayp
      rw [← HL.out, ← HF.out]
      exact ⟨fun h => h.resolve_left h0, Or.inr⟩
    go_enter Tryz.func57, Tryz.ntmps57
    go_wp2
    go_loop [10] (fun v => ∃ k : Nat, f ≤ k ∧ k ≤ l + 1 ∧ v = .int .u64 (k : Int) ∧ ∀ j, f ≤ j → j < k → bits .and .i64 (S.perm j) p ≠ 0) (fun v => l + 1 - (intOf v).toNat)
    case atStart => exact ⟨f, Nat.le_refl _, by omega, rfl, fun j h1 h2 => by omega⟩
    case round =>
      obtain ⟨k, hk1, hk2, rfl, hall⟩ := hrel
      have HA := hide hall
      clear hall
      by_cases hlt : k ≤ l
      · have hr := HP.out.look k (by omega)
        simp only [pv] at hr
        obtain ⟨q, hq⟩ : ∃ q, q = S.perm k := ⟨_, rfl⟩
        rw [← hq] at hr
        have HQ := hide hq
        clear hq
        by_cases hz : bits .and .i64 q p = 0
        · have hno : Hid (¬ Mayp S a n p) := fun hm => hMay.out.1 hm k hk1 hlt (by rw [← HQ.out]; exact hz)
          go_wp2
          go_ret
          exact ⟨ret_bool (mayB_no hno.out).symm, rfl⟩
        · have hz' : (bits .and .i64 q p == 0) = false := by simpa using hz
          have HZ := hide hz
          clear hz
          go_wp2
          go_round
          case rel =>
            refine ⟨k + 1, by omega, by omega, by go_num, fun j h1 h2 => ?_⟩
            by_cases hjk : j = k
            · subst hjk; rw [← HQ.out]; exact HZ.out
            · exact HA.out j h1 (by omega)
          case measure => simp [intOf]; omega
      · have hyes : Hid (Mayp S a n p) := hMay.out.2 (fun i h1 h2 => HA.out i h1 (by omega))
        go_wp2
        go_ret
        exact ⟨ret_bool (mayB_yes hyes.out).symm, rfl⟩

/-- Whether n more pages may be, and none of those from f on is. -/
def Sparep (S : Mm) (f n : Nat) : Prop := S.count + n ≤ 65536 ∧ ∀ i, f ≤ i → i < f + n → S.perm i = 0
noncomputable def spareB (S : Mm) (f n : Nat) : Bool := @decide (Sparep S f n) (Classical.propDecidable _)
theorem spareB_yes {S : Mm} {f n : Nat} (h : Sparep S f n) : spareB S f n = true := @decide_eq_true _ (Classical.propDecidable _) h
theorem spareB_no {S : Mm} {f n : Nat} (h : ¬ Sparep S f n) : spareB S f n = false := @decide_eq_false _ (Classical.propDecidable _) h

theorem dsl_slice (d : Option Nat) : ∃ a l c, dsl d = .slice a l c := by
  cases d with
  | none => exact ⟨_, _, _, rfl⟩
  | some g => exact ⟨_, _, _, rfl⟩

theorem PMx.below {w w' : World} {m b : Nat} {dt : Nat → Option Nat} {S : Mm} {F : Nat → Prop} (h : PMx w m b dt S F) (hb : Below w.heap.size w w') : PMx w' m b dt S F :=
  h.kept (kept_of_below hb (fun _ => False)) (fun _ _ h => h)

set_option maxHeartbeats 800000 in
theorem spare_any (m : Nat) (S : Mm) (F : Nat → Prop) (f n : Nat) (w : World) (h : PM w m S F) (hf : f + n ≤ 34359738368) :
    Calls Tryz.prog 53 #[.pointer (some ⟨m, 0, none⟩), .int .u64 (f : Int), .int .u64 (n : Int)] w fun e w' => e = .returned (.bool (spareB S f n)) ∧ Below w.heap.size w w' := by
  obtain ⟨b, dt, h⟩ := h
  have hc := h.cell
  have hl := h.map.len Tryz.underlying96 3
  have hg := h.good.count
  have HP := hide h
  have hlt0 := h.flt m h.fm
  clear h
  by_cases h1 : S.count + n ≤ 65536
  · have h1' : decide (65536 - (S.count : Int) < (n : Int)) = false := by simp; omega
    go_enter Tryz.func53, Tryz.ntmps53
    go_wp2
    go_loopw [20] (fun v wr => ∃ k : Nat, k ≤ n ∧ v = .int .u64 (k : Int) ∧ (∀ j, f ≤ j → j < f + k → S.perm j = 0) ∧ Below w.heap.size w wr) (fun v _ => n - (intOf v).toNat)
    case atStart => exact ⟨0, by omega, rfl, fun j h1 h2 => by omega, Below.refl _ _⟩
    case round =>
      obtain ⟨k, hk2, rfl, hall, hbel⟩ := hrel
      have HA := hide hall
      have HB := hide hbel
      have HR := hide (HP.out.below hbel)
      clear hall hbel
      by_cases hlt : k < n
      · have hc2 := HR.out.cell
        have hr := HR.out.lookOk (f + k) (by omega)
        simp only [pv] at hr
        rw [show ((f + k : Nat) : Int) = (f : Int) + (k : Int) by omega] at hr
        obtain ⟨q, hq⟩ : ∃ q, q = S.perm (f + k) := ⟨_, rfl⟩
        rw [← hq] at hr
        have HQ := hide hq
        clear hq hc hl
        obtain ⟨da, dl, dc, hdv⟩ := dsl_slice (dt (f + k))
        rw [hdv] at hr
        clear hdv
        by_cases hz : q = 0
        · have hz' : decide (q ≠ 0) = false := by simp [hz]
          rw [hz'] at hr
          have HZ := hide hz
          clear hz hz'
          go_wp2
          go_roundw
          case rel =>
            refine ⟨k + 1, by omega, by go_num, fun j h1 h2 => ?_, ?_⟩
            · by_cases hjk : j = f + k
              · subst hjk; rw [← HQ.out]; exact HZ.out
              · exact HA.out j h1 (by omega)
            · exact HB.out.alloc HB.out.size _
          case measure => simp [intOf]; omega
        · have hz' : decide (q ≠ 0) = true := by simp [hz]
          rw [hz'] at hr
          have hno : Hid (¬ Sparep S f n) := fun hm => hz (by rw [HQ.out]; exact hm.2 (f + k) (by omega) (by omega))
          clear hz hz'
          go_wp2
          go_ret
          refine ⟨ret_bool (spareB_no hno.out).symm, ?_⟩
          exact HB.out.alloc HB.out.size _
      · have hyes : Hid (Sparep S f n) := ⟨h1, fun i h1 h2 => HA.out i h1 (by omega)⟩
        go_wp2
        go_ret
        exact ⟨ret_bool (spareB_yes hyes.out).symm, HB.out⟩
  · rw [spareB_no (fun h => h1 h.1)]
    go_enter Tryz.func53, Tryz.ntmps53
    go_wp2
    go_ret
    exact ⟨rfl, Below.refl _ _⟩

end Go.Proofs.YtdhjjlnabbpinaaGreatDoor

/- Plain facts on the program's memory: a page's bytes laid over, a page that is given bytes. -/
namespace Go.Proofs.YtdhjjlnabbpinaaGreatDoor
open Go.RowKit Go.Maps
set_option linter.unusedVariables false
set_option maxRecDepth 100000

theorem splice_get {α : Type} (L : List α) (off : Nat) (cs : List α) (h : off + cs.length ≤ L.length) (j : Nat) :
    (splice L off cs)[j]? = if off ≤ j ∧ j < off + cs.length then cs[j - off]? else L[j]? := by
  unfold splice
  by_cases h1 : j < off
  · rw [if_neg (by omega), List.getElem?_append_left (by simp; omega), List.getElem?_take, if_pos h1]
  · rw [List.getElem?_append_right (by simp; omega)]
    have e : (L.take off).length = off := by simp; omega
    rw [e]
    by_cases h2 : j < off + cs.length
    · rw [if_pos (by omega), List.getElem?_append_left (by omega)]
    · rw [if_neg (by omega), List.getElem?_append_right (by omega), List.getElem?_drop]
      congr 1; omega

theorem Page.byte_of {V : World} {g i : Nat} {S : Mm} (h : Page V g S i) {L : List Value} (hL : V.heap[g]? = some (.cells L.toArray 5 (0, 0))) : L.length = 4096 ∧ ∀ j, j < 4096 → L[j]? = some (.int .u8 (S.byte (i * 4096 + j))) := by
  obtain ⟨cs, h1, h2, h3⟩ := h
  rw [hL] at h1
  have e : L = cs := by
    have h4 := congrArg (fun o : Option Obj => match o with | some (.cells c _ _) => c.toList | _ => []) h1
    simpa using h4
  subst e
  exact ⟨h2, h3⟩

/-- Bytes laid over those of one page's block. -/
theorem Page.laid {V V' : World} {g i off : Nat} {S : Mm} (h : Page V g S i) {cs : List Int} (hoff : off + cs.length ≤ 4096) {L : List Value} (hL : V.heap[g]? = some (.cells L.toArray 5 (0, 0)))
    (hV' : V'.heap[g]? = some (.cells (splice L off (cs.map (Value.int .u8))).toArray 5 (0, 0))) : Page V' g (S.lay (i * 4096 + off) cs) i := by
  obtain ⟨h1, h2⟩ := h.byte_of hL
  refine ⟨_, hV', by rw [length_splice _ _ _ (by simp; omega)]; exact h1, fun j hj => ?_⟩
  rw [splice_get _ _ _ (by simp; omega)]
  simp only [Mm.lay, List.length_map]
  by_cases h3 : off ≤ j ∧ j < off + cs.length
  · rw [if_pos h3, if_pos (by omega)]
    have e : i * 4096 + j - (i * 4096 + off) = j - off := by omega
    rw [e]
    have h4 : j - off < cs.length := by omega
    simp [h4]
  · rw [if_neg h3, if_neg (by omega)]
    exact h2 j hj

/-- Another page's bytes stay. -/
theorem Page.other {V V' : World} {g i k off : Nat} {S : Mm} (h : Page V g S k) {cs : List Int} (hoff : off + cs.length ≤ 4096) (hik : k ≠ i) (hV : V'.heap[g]? = V.heap[g]?) : Page V' g (S.lay (i * 4096 + off) cs) k := by
  obtain ⟨L, h1, h2, h3⟩ := h
  refine ⟨L, hV.trans h1, h2, fun j hj => ?_⟩
  rw [h3 j hj]
  simp only [Mm.lay]
  rw [if_neg (by omega)]

theorem PMx.laid {V V' : World} {m b : Nat} {dt : Nat → Option Nat} {S : Mm} {F : Nat → Prop} (h : PMx V m b dt S F) {i g off : Nat} {cs : List Int} (hg : dt i = some g) (hoff : off + cs.length ≤ 4096) (hb : Bytes cs)
    {L : List Value} (hL : V.heap[g]? = some (.cells L.toArray 5 (0, 0))) (hV' : V'.heap[g]? = some (.cells (splice L off (cs.map (Value.int .u8))).toArray 5 (0, 0))) (hK : Kept (fun k => k = g) V V') :
    PMx V' m b dt (S.lay (i * 4096 + off) cs) F := by
  have same : ∀ k, F k → k ≠ g → V'.heap[k]? = V.heap[k]? := fun k hF hne => hK.block k (h.flt k hF) hne
  refine ⟨(same m h.fm (fun e => h.gm hg e.symm)).trans h.head, h.map.kept (same b h.fb (fun e => h.gb hg e.symm)), h.good.lay _ hb, h.dn, ?_, ?_, h.apart, h.fm, h.fb, h.fg, fun k hk => Nat.lt_of_lt_of_le (h.flt k hk) hK.size⟩
  · intro k hk hd j hj
    have hki : k ≠ i := fun e => by subst e; rw [hg] at hd; cases hd
    have := h.noughts k hk hd j hj
    simp only [Mm.lay]
    rw [if_neg (by omega)]
    exact this
  · intro k g' hg'
    by_cases hki : k = i
    · subst hki
      rw [hg] at hg'
      cases hg'
      exact (h.page k g hg).laid hoff hL hV'
    · exact (h.page k g' hg').other hoff hki (same g' (h.fg k g' hg') (fun e => by subst e; exact hki (h.apart k i g' hg' hg)))

theorem PMx.gave {V V' : World} {m b : Nat} {dt : Nat → Option Nat} {S : Mm} {F : Nat → Prop} (h : PMx V m b dt S F) {i g : Nat} (hp : S.perm i ≠ 0) (hd : dt i = none) (hg : ¬ F g)
    (hmap : MapAt V' b S.count (upd (fun j => if S.perm j = 0 then none else some (pv (S.perm j) (dt j))) i (pv (S.perm i) (some g))))
    {cs : List Value} (hcs : V'.heap[g]? = some (.cells cs.toArray 5 (0, 0))) (hl : cs.length = 4096) (hz : ∀ j, j < 4096 → cs[j]? = some (.int .u8 0)) (hK : Kept (fun k => k = b) V V') :
    PMx V' m b (fun j => if j = i then some g else dt j) S (fun k => F k ∨ k = g) := by
  have same : ∀ k, F k → k ≠ b → V'.heap[k]? = V.heap[k]? := fun k hF hne => hK.block k (h.flt k hF) hne
  refine ⟨(same m h.fm h.mb).trans h.head, hmap.congr (fun j _ => ?_), h.good, ?_, ?_, ?_, ?_, Or.inl h.fm, Or.inl h.fb, ?_, ?_⟩
  · unfold upd
    by_cases hji : j = i
    · subst hji; simp [hp]
    · simp [hji]
  · intro j hj
    have hji : j ≠ i := fun e => hp (by rw [← e]; exact hj)
    simp [hji, h.dn j hj]
  · intro j hj hn k hk
    by_cases hji : j = i
    · simp [hji] at hn
    · simp [hji] at hn
      exact h.noughts j hj hn k hk
  · intro j g' hg'
    by_cases hji : j = i
    · simp [hji] at hg'
      subst hg'
      subst hji
      exact ⟨cs, hcs, hl, fun k hk => by rw [hz k hk, h.noughts j hp hd k hk]⟩
    · simp [hji] at hg'
      exact (h.page j g' hg').kept (same g' (h.fg j g' hg') (h.gb hg'))
  · intro j k g' hj hk
    by_cases hji : j = i
    · by_cases hki : k = i
      · rw [hji, hki]
      · simp [hji] at hj
        simp [hki] at hk
        subst hj
        exact absurd (h.fg k _ hk) hg
    · by_cases hki : k = i
      · simp [hki] at hk
        simp [hji] at hj
        subst hk
        exact absurd (h.fg j _ hj) hg
      · simp [hji] at hj
        simp [hki] at hk
        exact h.apart j k g' hj hk
  · intro j g' hj
    by_cases hji : j = i
    · simp [hji] at hj
      exact Or.inr hj.symm
    · simp [hji] at hj
      exact Or.inl (h.fg j g' hj)
  · rintro k (hk | rfl)
    · exact Nat.lt_of_lt_of_le (h.flt k hk) hK.size
    · exact (Array.getElem?_eq_some_iff.1 hcs).1

end Go.Proofs.YtdhjjlnabbpinaaGreatDoor

/- 'copy' at the operation and as a step of a region that draws: the row behind it, all other blocks kept. -/
namespace Go.Proofs.YtdhjjlnabbpinaaGreatDoor
open Go.RowKit Go.Maps
set_option linter.unusedVariables false
set_option maxRecDepth 100000

theorem kept_setRow (w : World) (g : Nat) (cs : Array Value) : Kept (fun k => k = g) w (w.setRow g cs) := (Kept.refl _ w).setRow g cs (Or.inl rfl)

theorem wpList_copy_kept {P : Program} {w : World} {ops : Array Oper} {rest : List Oper} {o : Oper} {a : Act} {Q : Exit → Act → World → Prop} (hgd : o.guard = none) (d s : Operand) (dT sT : TypeId)
    (ho : o.op = .call { callee := .builtin .copy, args := #[d, s], argTypes := #[dT, sT] }) (elem : TypeId) (hu : P.underlying dT = some (.slice elem)) (hsz : (P.info? elem).map (·.size) = some 1)
    (dp sp : Option Addr) (dLen dCap sLen sCap : Nat) (hd : a.eval d = .slice dp dLen dCap) (hs : a.eval s = .slice sp sLen sCap)
    (g off : Nat) (cur : List Value) (t : TypeId) (hg : w.heap[g]? = some (.cells cur.toArray t (0, 0))) (cs : List Value) (n : Nat) (hn : cs.length = n) (hmin : n = Nat.min sLen dLen)
    (hpos : 0 < n → dp = some ⟨g, off, none⟩ ∧ ∃ ad, sp = some ad ∧ ∀ j v, cs[j]? = some v → w.cell? (ad.add j) = some v)
    (hfit : off + cs.length ≤ cur.length) (h1 : ∀ v ∈ cs, v.oneCell' = true)
    (h : ∀ w', Hid (w'.heap[g]? = some (.cells (splice cur off cs).toArray t (0, 0))) → Hid (Kept (fun k => k = g) w w') → wpList P ops Q rest (a.put o.dst (goInt n)) w') :
    wpList P ops Q (o :: rest) a w := by
  subst hn
  by_cases h0 : cs.length = 0
  · obtain rfl : cs = [] := List.eq_nil_of_length_eq_zero h0
    refine wpList_copy_nothing hgd d s dT sT ho elem hu hsz dp sp dLen dCap sLen sCap hd hs (by simpa using hmin.symm) ?_
    exact h w (show _ = _ by simpa [splice] using hg) (Kept.refl _ _)
  · obtain ⟨rfl, ad, rfl, hsrc⟩ := hpos (by omega)
    refine wpList_copy_own hgd d s dT sT ho elem hu hsz g off dLen dCap ad sLen sCap hd hs cur.toArray t hg cs hmin hsrc (by simpa using hfit) h1 ?_
    exact h _ (show _ = _ by simpa [splice] using setRow_heap w g _ _ t _ hg) (kept_setRow _ _ _)

theorem step_copy_kept {P : Program} {ops : Array Oper} {o : Oper} {a : Act} {w : World} {K : Act → World → Prop} {Q : Exit → Act → World → Prop} {E : Prop} (hgd : o.guard = none) (d s : Operand) (dT sT : TypeId)
    (ho : o.op = .call { callee := .builtin .copy, args := #[d, s], argTypes := #[dT, sT] }) (elem : TypeId) (hu : P.underlying dT = some (.slice elem)) (hsz : (P.info? elem).map (·.size) = some 1)
    (dp sp : Option Addr) (dLen dCap sLen sCap : Nat) (hd : a.eval d = .slice dp dLen dCap) (hs : a.eval s = .slice sp sLen sCap)
    (g off : Nat) (cur : List Value) (t : TypeId) (hg : w.heap[g]? = some (.cells cur.toArray t (0, 0))) (cs : List Value) (n : Nat) (hn : cs.length = n) (hmin : n = Nat.min sLen dLen)
    (hpos : 0 < n → dp = some ⟨g, off, none⟩ ∧ ∃ ad, sp = some ad ∧ ∀ j v, cs[j]? = some v → w.cell? (ad.add j) = some v)
    (hfit : off + cs.length ≤ cur.length) (h1 : ∀ v ∈ cs, v.oneCell' = true)
    (h : ∀ w', Hid (w'.heap[g]? = some (.cells (splice cur off cs).toArray t (0, 0))) → Hid (Kept (fun k => k = g) w w') → K (a.put o.dst (goInt n)) w') :
    if Region.wanted o (yielded ops a.tmps) = true then Oper.wp P o a w K Q else E := by
  have hw : Region.wanted o (yielded ops a.tmps) = true := by simp [Region.wanted, hgd]
  rw [if_pos hw]
  subst hn
  by_cases h0 : cs.length = 0
  · obtain rfl : cs = [] := List.eq_nil_of_length_eq_zero h0
    have hrun := run_copy_none (P := P) w dT sT o.type elem dp sp dLen dCap sLen sCap hu hsz (by simpa using hmin.symm)
    unfold Oper.wp
    simp [execOp, ho, resolve, invoke, builtin, hd, hs, hrun, Result.andThen]
    exact h w (show _ = _ by simpa [splice] using hg) (Kept.refl _ _)
  · obtain ⟨rfl, ad, rfl, hsrc⟩ := hpos (by omega)
    have hrun := run_copy_row (P := P) w dT sT o.type elem g off dLen dCap ad sLen sCap cur.toArray t cs hu hsz hg hmin hsrc (by simpa using hfit) h1
    unfold Oper.wp
    simp [execOp, ho, resolve, invoke, builtin, hd, hs, hrun, Result.andThen]
    exact h _ (show _ = _ by simpa [splice] using setRow_heap w g _ _ t _ hg) (kept_setRow _ _ _)

theorem run_copy_kept (V : World) (ty : TypeId) (g off dLen dCap : Nat) (ad : Addr) (sLen sCap : Nat) (cur : List Value) (t : TypeId) (hg : V.heap[g]? = some (.cells cur.toArray t (0, 0))) (cs : List Value) (n : Nat) (hn : cs.length = n) (hmin : n = Nat.min sLen dLen)
    (hsrc : ∀ j v, cs[j]? = some v → V.cell? (ad.add j) = some v) (hfit : off + cs.length ≤ cur.length) (h1 : ∀ v ∈ cs, v.oneCell' = true) :
    ∃ W, Sem.run Tryz.prog (Builtin.copy_ #[24, 24] ty #[.slice (some ⟨g, off, none⟩) dLen dCap, .slice (some ad) sLen sCap]) V = .ok (.int .i64 (n : Int)) W ∧
      Hid (W.heap[g]? = some (.cells (splice cur off cs).toArray t (0, 0))) ∧ Hid (Kept (fun k => k = g) V W) := by
  subst hn
  have hrun := run_copy_row (P := Tryz.prog) V 24 24 ty 5 g off dLen dCap ad sLen sCap cur.toArray t cs Tryz.underlying24 Tryz.size8 hg hmin hsrc (by simpa using hfit) h1
  exact ⟨_, hrun, (show _ = _ by simpa [splice] using setRow_heap V g _ _ t _ hg), kept_setRow _ _ _⟩

/-- The first n of the bytes that are read, as cells. -/
theorem Rd.firsts {w : World} {a : Option Addr} {len cap : Nat} {bs : List Int} (r : Rd w a len cap bs) (n : Nat) (hn : n ≤ len) (h0 : 0 < n) :
    ∃ ad, a = some ad ∧ ∀ j v, ((bs.take n).map (Value.int .u8))[j]? = some v → w.cell? (ad.add j) = some v := by
  obtain ⟨b, o, rfl, hc⟩ := r.addr (by omega)
  refine ⟨_, rfl, fun j v hv => ?_⟩
  refine r.cells _ rfl j v ?_
  rw [List.map_take, List.getElem?_take] at hv
  split at hv
  · exact hv
  · cases hv

/-- How long a slice is: a loop's measure. -/
def slen : Value → Nat
  | .slice _ n _ => n
  | _ => 0

/-- A page of noughts. -/
def noughtRow : Array Value := madeCells #[.int .u8 0] 4096

theorem make4096 (w : World) : Sem.run Tryz.prog (Instr.makeSlice 24 (.int .i64 4096) (.int .i64 4096)) w = .ok (.slice (some ⟨w.heap.size, 0, none⟩) 4096 4096) (w.alloc (.cells noughtRow 5)) := by
  obtain ⟨i0, hi, hz0, hz1, hz2⟩ := info_parts Tryz.info8
  have hmk := run_make (P := Tryz.prog) w 24 5 i0 (.int .u8 0) Tryz.underlying24 hi hz0 .i64 .i64 4096 4096 (by omega) (by omega) (by rw [hz2]; decide) (by omega)
  rw [hz1] at hmk
  exact hmk

theorem noughtRow_size : noughtRow.toList.length = 4096 := by simp [noughtRow, madeCells]
theorem noughtRow_at (j : Nat) (h : j < 4096) : noughtRow.toList[j]? = some (.int .u8 0) := by
  unfold noughtRow madeCells
  simp [h, Nat.mod_one]

/-- A new page's bytes: a row of noughts. -/
def IsNought (Z : List Value) : Prop := (∀ w, Sem.run Tryz.prog (Instr.makeSlice 24 (.int .i64 4096) (.int .i64 4096)) w = .ok (.slice (some ⟨w.heap.size, 0, none⟩) 4096 4096) (w.alloc (.cells Z.toArray 5))) ∧
    Z.length = 4096 ∧ ∀ j, j < 4096 → Z[j]? = some (.int .u8 0)

theorem nought_of (Y : Array Value) (h1 : ∀ w, Sem.run Tryz.prog (Instr.makeSlice 24 (.int .i64 4096) (.int .i64 4096)) w = .ok (.slice (some ⟨w.heap.size, 0, none⟩) 4096 4096) (w.alloc (.cells Y 5)))
    (h2 : Y.toList.length = 4096) (h3 : ∀ j, j < 4096 → Y.toList[j]? = some (.int .u8 0)) : ∃ Z, IsNought Z := by
  obtain ⟨l⟩ := Y
  exact ⟨l, h1, h2, h3⟩

theorem page_nought : ∃ Z, IsNought Z := nought_of noughtRow make4096 noughtRow_size noughtRow_at

theorem eqNil0 (w : World) : (binOp .eql 24 (.slice none 0 0) (.slice none 0 0)).run Tryz.prog w = .ok (.bool true) w := by kernel_rfl
theorem eqNil1 (g : Nat) (w : World) : (binOp .eql 24 (.slice (some ⟨g, 0, none⟩) 4096 4096) (.slice none 0 0)).run Tryz.prog w = .ok (.bool false) w := by kernel_rfl
theorem neqNil0 (w : World) : (binOp .neq 24 (.slice none 0 0) (.slice none 0 0)).run Tryz.prog w = .ok (.bool false) w := by kernel_rfl
theorem neqNil1 (g : Nat) (w : World) : (binOp .neq 24 (.slice (some ⟨g, 0, none⟩) 4096 4096) (.slice none 0 0)).run Tryz.prog w = .ok (.bool true) w := by kernel_rfl

end Go.Proofs.YtdhjjlnabbpinaaGreatDoor

/- The contract of package mem's put. -/
namespace Go.Proofs.YtdhjjlnabbpinaaGreatDoor
open Go.RowKit Go.Maps
set_option linter.unusedVariables false
set_option maxRecDepth 100000

set_option maxHeartbeats 3200000 in
theorem mput_any (m : Nat) (S : Mm) (F : Nat → Prop) (a0 : Nat) (a : Option Addr) (len cap : Nat) (bs : List Int) (w : World) (h : PM w m S F) (ha : a0 ≤ 18446744073709551615) (r : Rd w a len cap bs)
    (hsep : 0 < len → ∀ x, a = some x → ¬ F x.block) (hpg : ∀ i, a0 / 4096 ≤ i → i * 4096 < a0 + len → 0 < len → S.perm i ≠ 0) :
    Calls Tryz.prog 54 #[.pointer (some ⟨m, 0, none⟩), .int .u64 (a0 : Int), .slice a len cap] w fun e w' =>
      e = .returned (.tuple #[]) ∧ ∃ F', PM w' m (S.lay a0 bs) F' ∧ Went F w F' w' := by
  have HM := hide h
  have HR := hide r
  have HS := hide hsep
  have HG := hide hpg
  have hlen := r.length
  have hle := r.le
  have hmx := r.max
  clear h r hsep hpg
  go_enter Tryz.func54, Tryz.ntmps54
  go_wp2
  go_loopw [1, 2] (fun va vb wr => ∃ (k L A c' : Nat) (a' : Option Addr) (F' : Nat → Prop), k + L = len ∧ A = a0 + k ∧ va = .int .u64 (A : Int) ∧ vb = .slice a' L c' ∧ Rd w a' L c' (bs.drop k) ∧ (0 < L → ∀ x, a' = some x → ¬ F x.block) ∧
      PM wr m (S.lay a0 (bs.take k)) F' ∧ Went F w F' wr) (fun _ vb _ => slen vb)
  case atStart => exact ⟨0, len, a0, cap, a, F, by omega, by omega, rfl, rfl, HR.out, HS.out, by rw [List.take_zero, Mm.lay_nil]; exact HM.out, Went.refl _ _⟩
  case round =>
    obtain ⟨k, L, A, c', a', F', hkL, hA, rfl, rfl, r, hs, hP, hW⟩ := hrel
    by_cases hL : L = 0
    · subst hL
      have HP := hide hP
      have HW := hide hW
      clear hP hW
      go_wp2
      go_end0
      obtain rfl : k = len := by omega
      refine ⟨rfl, F', ?_, HW.out⟩
      have := HP.out
      rwa [List.take_of_length_le (by omega)] at this
    · have hperm : S.perm (A / 4096) ≠ 0 := HG.out _ (by omega) (by omega) (by omega)
      obtain ⟨b, dt, hX⟩ := hP
      obtain ⟨i, hi⟩ : ∃ i, i = A / 4096 := ⟨_, rfl⟩
      obtain ⟨off, hoff⟩ : ∃ off, off = A % 4096 := ⟨_, rfl⟩
      have hi' : (A : Int) / 4096 = (i : Int) := by omega
      have ho' : (A : Int) % 4096 = (off : Int) := by omega
      have ho4 : off < 4096 := by omega
      have hA2 : A = i * 4096 + off := by omega
      have hiL : i < 34359738368 := by
        have h1 := hX.good.top i
        have h2 : S.perm i ≠ 0 := by rw [hi]; exact hperm
        apply Nat.lt_of_not_le; intro h3
        exact h2 (h1 h3)
      have hc := hX.cell
      have hlk := hX.look i (by omega)
      rw [← hi] at hperm
      simp only [pv, Mm.lay] at hlk
      obtain ⟨q, hq⟩ : ∃ q, q = S.perm i := ⟨_, rfl⟩
      rw [← hq] at hlk
      have HQ := hide hq
      have HX := hide hX
      have HW := hide hW
      have HI := hide hi
      have HO := hide hoff
      have HA := hide hA
      have HA2 := hide hA2
      have HR2 := hide r
      have HS2 := hide hs
      have HPe := hide hperm
      have hAb : A < 140737488355328 := by omega
      have hmb : m < wr.heap.size := hX.flt m hX.fm
      clear hX hW hi hoff hA hA2 r hs hperm hq
      have he0 := eqNil0
      have he1 := eqNil1
      cases hd : dt i with
      | none =>
        have HD := hide hd
        rw [hd] at hlk
        simp only [dsl] at hlk
        clear hd
        obtain ⟨Z, hmk, hZl, hZa⟩ := page_nought
        have HZl := hide hZl
        have HZa := hide hZa
        clear hZl hZa
        go_upto_region 5 with fail
        obtain ⟨P, hP⟩ : ∃ P, P = wr.heap.size := ⟨_, rfl⟩
        obtain ⟨g, hg⟩ : ∃ g, g = wr.heap.size + 1 := ⟨_, rfl⟩
        rw [← hg, ← hP]
        obtain ⟨U, hU⟩ : ∃ U, U = (wr.alloc (.cells #[.int .i64 q, .slice (some ⟨g, 0, none⟩) 4096 4096] 104)).alloc (.cells Z.toArray 5) := ⟨_, rfl⟩
        rw [← hU]
        have hcP0 : U.cell? ⟨P, 0, none⟩ = some (.int .i64 q) := by rw [hU, hP]; go_simp
        have hcP1 : U.cell? ⟨P, 1, none⟩ = some (.slice (some ⟨g, 0, none⟩) 4096 4096) := by rw [hU, hP]; go_simp
        have hKU : Kept (fun _ => False) wr U := by rw [hU]; exact ((Kept.refl _ _).alloc _).alloc _
        have HXU : Hid (PMx U m b dt (S.lay a0 (bs.take k)) F') := HX.out.kept hKU (fun _ _ h => h)
        have HgU : Hid (U.heap[g]? = some (.cells Z.toArray 5 (0, 0))) := by
          rw [hU, hg]
          have := heap_alloc_new (wr.alloc (.cells #[.int .i64 q, .slice (some ⟨wr.heap.size + 1, 0, none⟩) 4096 4096] 104)) (.cells Z.toArray 5)
          rw [show (wr.alloc (.cells #[.int .i64 q, .slice (some ⟨wr.heap.size + 1, 0, none⟩) 4096 4096] 104)).heap.size = wr.heap.size + 1 by simp] at this
          exact this
        have hgF : ¬ F' g := fun h => by have := HX.out.flt g h; omega
        have hcU := HXU.out.cell
        have HWU : Hid (Went F w F' U) := HW.out.trans ⟨hKU.mono (fun _ h => h.elim), fun k hk => Or.inl hk⟩
        have hgw : w.heap.size ≤ g := by have := HW.out.1.size; omega
        have HGF := hide hgF
        have hPb : P ≠ b := by have := HX.out.map.lt; omega
        have hmap : MapAt U.drew b (S.lay a0 (bs.take k)).count (fun j => if (S.lay a0 (bs.take k)).perm j = 0 then none else some (pv ((S.lay a0 (bs.take k)).perm j) (dt j))) := HXU.out.map.kept rfl
        obtain ⟨V, hrun, hm2, hgr, hsz⟩ := hmap.store (t := 96) Tryz.underlying96 (by have := HX.out.good.count; unfold maxLen; omega) i (by omega) (.agg #[.int .i64 q, .slice (some ⟨g, 0, none⟩) 4096 4096])
        have HM2 := hide hm2
        have HGr := hide hgr
        clear hmap hm2 hgr hKU hgF hU hP hmk hsz hmb hg
        go_region
        have hgb : g ≠ b := fun e => by subst e; exact HXU.out.map.noCells HgU.out
        have HKV : Hid (Kept (fun k => k = b) U V) := ⟨HGr.out.os, HGr.out.tape, HGr.out.output, HGr.out.size, fun k hk hn => HGr.out.block k hk (fun e => hn (Option.some.inj e))⟩
        have hcP : V.cell? ⟨P, 1, none⟩ = some (.slice (some ⟨g, 0, none⟩) 4096 4096) := HKV.out.cell hcP1 hPb
        obtain ⟨dtV, hdV⟩ : ∃ dtV : Nat → Option Nat, dtV = fun j => if j = i then some g else dt j := ⟨_, rfl⟩
        obtain ⟨FV, hFV⟩ : ∃ FV : Nat → Prop, FV = fun k => F' k ∨ k = g := ⟨_, rfl⟩
        have HDV : Hid (dtV i = some g) := by rw [hdV]; simp [Hid]
        have HXV : Hid (PMx V m b dtV (S.lay a0 (bs.take k)) FV) := by
          rw [hdV, hFV]
          have hpp : (S.lay a0 (bs.take k)).perm i ≠ 0 := HPe.out
          refine HXU.out.gave (cs := Z) hpp HD.out HGF.out ?_ ?_ HZl.out HZa.out HKV.out
          · have h9 := HM2.out
            rw [if_neg hpp] at h9
            simp only [Option.isSome_some, if_true] at h9
            have e9 : pv ((S.lay a0 (bs.take k)).perm i) (some g) = .agg #[.int .i64 q, .slice (some ⟨g, 0, none⟩) 4096 4096] := by rw [HQ.out]; rfl
            rw [e9]; exact h9
          · rw [HKV.out.block g (Array.getElem?_eq_some_iff.1 HgU.out).1 hgb]
            exact HgU.out
        have HWV : Hid (Went F w FV V) := ⟨HWU.out.1.trans HKV.out (fun k hk => HWU.out.2 k (by subst hk; exact HXU.out.fb)), fun k hk => by
          rw [hFV] at hk
          rcases hk with hk | hk
          · exact HWU.out.2 k hk
          · subst hk; exact Or.inr hgw⟩
        clear hdV hFV HM2 HGr HKV HXU HWU HgU hcP0 hcP1 hcU hrun hc HGF

        obtain ⟨Lr, hLr, hLl, hLb⟩ := (HXV.out.page i g HDV.out)
        have HL := hide hLr
        have hLl' := hLl
        clear hLr hLb
        obtain ⟨bb, oo, ha', hcc⟩ := HR2.out.addr (by omega)
        subst ha'
        have HRV : Hid (Rd V (some ⟨bb, oo, none⟩) L c' (bs.drop k)) := HWV.out.1.rd HR2.out HS2.out
        clear hcc
        obtain ⟨n, hn⟩ : ∃ n, n = Nat.min L (4096 - off) := ⟨_, rfl⟩
        have hnL : n ≤ L := by rw [hn]; exact Nat.min_le_left _ _
        have hn4 : off + n ≤ 4096 := by have : n ≤ 4096 - off := by rw [hn]; exact Nat.min_le_right _ _
                                        omega
        have hn0 : 0 < n := by rw [hn]; exact Nat.lt_min.2 ⟨by omega, by omega⟩
        have hLc := HR2.out.le
        have hcm := HR2.out.max
        obtain ⟨X, hX⟩ : ∃ X, X = ((bs.drop k).take n).map (Value.int .u8) := ⟨_, rfl⟩
        have hXl : X.length = n := by rw [hX]; simp; omega
        have HX1 := hide hX
        have HN := hide hn
        have HXl := hide hXl
        have HPos : Hid (∃ ad, some (⟨bb, oo, none⟩ : Addr) = some ad ∧ ∀ j v, X[j]? = some v → V.cell? (ad.add j) = some v) := by rw [hX]; exact HRV.out.firsts n hnL hn0
        have HOne : Hid (∀ v ∈ X, v.oneCell' = true) := by rw [hX]; exact ints_oneCell _ _
        have hnd : n = Nat.min L (4096 - off) := hn
        clear hX hn hXl
        have HND := hide hnd
        clear hnd
        have hsz : V.heap.size = V.heap.size := rfl
        clear HX HW HM HS HR hlk hsz
        obtain ⟨ad, hade, hadc⟩ := HPos.out
        cases hade
        obtain ⟨w6, hcp6, HG6, HK6⟩ := run_copy_kept V 3 g off (4096 - off) (4096 - off) ⟨bb, oo, none⟩ L c' Lr 5 HL.out X n HXl.out HND.out hadc (by rw [HXl.out, hLl']; exact hn4) HOne.out
        clear hadc HPos
        have HX6 : Hid (PMx w6 m b dtV (S.lay a0 (bs.take (k + n))) FV) := by
          have h9 := HXV.out.laid (cs := (bs.drop k).take n) (off := off) HDV.out (by simp; omega) (HR2.out.bytes.take n) HL.out (by rw [← HX1.out]; exact HG6.out) HK6.out
          rw [← HA2.out, HA.out] at h9
          have e1 : (bs.take k).length = k := by simp; omega
          have e2 := Mm.lay_more S a0 (bs.take k) ((bs.drop k).take n)
          rw [e1] at e2
          rw [e2] at h9
          have e3 : bs.take k ++ (bs.drop k).take n = bs.take (k + n) := by rw [List.take_add]
          rwa [e3] at h9
        have HW6 : Hid (Went F w FV w6) := HWV.out.trans ⟨HK6.out.mono (fun k hk => by subst hk; exact HXV.out.fg i _ HDV.out), fun k hk => Or.inl hk⟩
        clear HG6 HK6 HXV HWV HL HXl HOne HX1 hLl' hLl
        by_cases hcn : c' = n
        · subst hcn
          go_wp2
          go_roundw
          case rel => exact ⟨k + c', L - c', A + c', 0, _, FV, by omega, by rw [HA.out]; omega, by go_num, by go_num, by
            obtain rfl : L = c' := by omega
            have h9 := HR2.out.part_end L (L - L) (by omega) rfl
            rw [List.drop_drop] at h9
            exact ⟨by simp; omega, by omega, by omega, by rw [List.drop_eq_nil_of_le (by omega)]; exact Bytes.nil, fun _ => rfl, fun x hx i hi => by omega⟩, fun _ => HS2.out (by omega), ⟨b, dtV, HX6.out⟩, HW6.out⟩
          case measure => simp [slen]; omega
        · go_wp2
          go_roundw
          case rel =>
            refine ⟨k + n, L - n, A + n, c' - n, some ⟨bb, oo + n, none⟩, FV, by omega, by rw [HA.out]; omega, by go_num, by go_num, ?_, ?_, ⟨b, dtV, HX6.out⟩, HW6.out⟩
            · have h9 := HR2.out.part n (L - n) (by omega)
              have e4 : ((bs.drop k).drop n).take (L - n) = bs.drop (k + n) := by rw [List.drop_drop, List.take_of_length_le (by simp; omega)]
              rw [e4, show (⟨bb, oo, none⟩ : Addr).add n = ⟨bb, oo + n, none⟩ by unfold Addr.add; split <;> simp_all] at h9
              exact h9
            · intro _ x hx
              cases hx
              exact HS2.out (by omega) ⟨bb, oo, none⟩ rfl
          case measure => simp [slen]; omega

      | some g =>
        have HD := hide hd
        rw [hd] at hlk
        simp only [dsl] at hlk
        clear hd
        go_upto_region 6 with fail
        obtain ⟨P, hP⟩ : ∃ P, P = wr.heap.size := ⟨_, rfl⟩
        rw [← hP]
        obtain ⟨V, hV⟩ : ∃ V, V = wr.alloc (.cells #[.int .i64 q, .slice (some ⟨g, 0, none⟩) 4096 4096] 104) := ⟨_, rfl⟩
        rw [← hV]
        have hcP : V.cell? ⟨P, 1, none⟩ = some (.slice (some ⟨g, 0, none⟩) 4096 4096) := by rw [hV, hP]; go_simp
        have hKV : Kept (fun _ => False) wr V := by rw [hV]; exact (Kept.refl _ _).alloc _
        obtain ⟨dtV, hdV⟩ : ∃ dtV : Nat → Option Nat, dtV = dt := ⟨_, rfl⟩
        obtain ⟨FV, hFV⟩ : ∃ FV : Nat → Prop, FV = F' := ⟨_, rfl⟩
        have HDV : Hid (dtV i = some g) := by rw [hdV]; exact HD.out
        have HXV : Hid (PMx V m b dtV (S.lay a0 (bs.take k)) FV) := by rw [hdV, hFV]; exact HX.out.kept hKV (fun _ _ h => h)
        have HWV : Hid (Went F w FV V) := by rw [hFV]; exact HW.out.trans ⟨hKV.mono (fun _ h => h.elim), fun k hk => Or.inl hk⟩
        clear hdV hFV hKV hV hP hc HD hmb

        obtain ⟨Lr, hLr, hLl, hLb⟩ := (HXV.out.page i g HDV.out)
        have HL := hide hLr
        have hLl' := hLl
        clear hLr hLb
        obtain ⟨bb, oo, ha', hcc⟩ := HR2.out.addr (by omega)
        subst ha'
        have HRV : Hid (Rd V (some ⟨bb, oo, none⟩) L c' (bs.drop k)) := HWV.out.1.rd HR2.out HS2.out
        clear hcc
        obtain ⟨n, hn⟩ : ∃ n, n = Nat.min L (4096 - off) := ⟨_, rfl⟩
        have hnL : n ≤ L := by rw [hn]; exact Nat.min_le_left _ _
        have hn4 : off + n ≤ 4096 := by have : n ≤ 4096 - off := by rw [hn]; exact Nat.min_le_right _ _
                                        omega
        have hn0 : 0 < n := by rw [hn]; exact Nat.lt_min.2 ⟨by omega, by omega⟩
        have hLc := HR2.out.le
        have hcm := HR2.out.max
        obtain ⟨X, hX⟩ : ∃ X, X = ((bs.drop k).take n).map (Value.int .u8) := ⟨_, rfl⟩
        have hXl : X.length = n := by rw [hX]; simp; omega
        have HX1 := hide hX
        have HN := hide hn
        have HXl := hide hXl
        have HPos : Hid (∃ ad, some (⟨bb, oo, none⟩ : Addr) = some ad ∧ ∀ j v, X[j]? = some v → V.cell? (ad.add j) = some v) := by rw [hX]; exact HRV.out.firsts n hnL hn0
        have HOne : Hid (∀ v ∈ X, v.oneCell' = true) := by rw [hX]; exact ints_oneCell _ _
        have hnd : n = Nat.min L (4096 - off) := hn
        clear hX hn hXl
        have HND := hide hnd
        clear hnd
        have hsz : V.heap.size = V.heap.size := rfl
        clear HX HW HM HS HR hlk hsz
        obtain ⟨ad, hade, hadc⟩ := HPos.out
        cases hade
        obtain ⟨w6, hcp6, HG6, HK6⟩ := run_copy_kept V 3 g off (4096 - off) (4096 - off) ⟨bb, oo, none⟩ L c' Lr 5 HL.out X n HXl.out HND.out hadc (by rw [HXl.out, hLl']; exact hn4) HOne.out
        clear hadc HPos
        have HX6 : Hid (PMx w6 m b dtV (S.lay a0 (bs.take (k + n))) FV) := by
          have h9 := HXV.out.laid (cs := (bs.drop k).take n) (off := off) HDV.out (by simp; omega) (HR2.out.bytes.take n) HL.out (by rw [← HX1.out]; exact HG6.out) HK6.out
          rw [← HA2.out, HA.out] at h9
          have e1 : (bs.take k).length = k := by simp; omega
          have e2 := Mm.lay_more S a0 (bs.take k) ((bs.drop k).take n)
          rw [e1] at e2
          rw [e2] at h9
          have e3 : bs.take k ++ (bs.drop k).take n = bs.take (k + n) := by rw [List.take_add]
          rwa [e3] at h9
        have HW6 : Hid (Went F w FV w6) := HWV.out.trans ⟨HK6.out.mono (fun k hk => by subst hk; exact HXV.out.fg i _ HDV.out), fun k hk => Or.inl hk⟩
        clear HG6 HK6 HXV HWV HL HXl HOne HX1 hLl' hLl
        by_cases hcn : c' = n
        · subst hcn
          go_wp2
          go_roundw
          case rel => exact ⟨k + c', L - c', A + c', 0, _, FV, by omega, by rw [HA.out]; omega, by go_num, by go_num, by
            obtain rfl : L = c' := by omega
            have h9 := HR2.out.part_end L (L - L) (by omega) rfl
            rw [List.drop_drop] at h9
            exact ⟨by simp; omega, by omega, by omega, by rw [List.drop_eq_nil_of_le (by omega)]; exact Bytes.nil, fun _ => rfl, fun x hx i hi => by omega⟩, fun _ => HS2.out (by omega), ⟨b, dtV, HX6.out⟩, HW6.out⟩
          case measure => simp [slen]; omega
        · go_wp2
          go_roundw
          case rel =>
            refine ⟨k + n, L - n, A + n, c' - n, some ⟨bb, oo + n, none⟩, FV, by omega, by rw [HA.out]; omega, by go_num, by go_num, ?_, ?_, ⟨b, dtV, HX6.out⟩, HW6.out⟩
            · have h9 := HR2.out.part n (L - n) (by omega)
              have e4 : ((bs.drop k).drop n).take (L - n) = bs.drop (k + n) := by rw [List.drop_drop, List.take_of_length_le (by simp; omega)]
              rw [e4, show (⟨bb, oo, none⟩ : Addr).add n = ⟨bb, oo + n, none⟩ by unfold Addr.add; split <;> simp_all] at h9
              exact h9
            · intro _ x hx
              cases hx
              exact HS2.out (by omega) ⟨bb, oo, none⟩ rfl
          case measure => simp [slen]; omega


end Go.Proofs.YtdhjjlnabbpinaaGreatDoor

/- The contract of package mem's get. -/
namespace Go.Proofs.YtdhjjlnabbpinaaGreatDoor
open Go.RowKit Go.Maps
set_option linter.unusedVariables false
set_option maxRecDepth 100000

/-- The n bytes from a on. -/
def Mm.read (S : Mm) (a n : Nat) : List Int := (List.range n).map fun j => S.byte (a + j)
theorem Mm.read_length (S : Mm) (a n : Nat) : (S.read a n).length = n := by simp [Mm.read]
theorem Mm.read_at (S : Mm) (a n j : Nat) (h : j < n) : (S.read a n)[j]? = some (S.byte (a + j)) := by simp [Mm.read, h]
theorem Mm.read_bytes {S : Mm} (h : S.Good) (a n : Nat) : Bytes (S.read a n) := fun x hx => by
  simp [Mm.read] at hx
  obtain ⟨j, _, rfl⟩ := hx
  exact h.byte _

/-- A row whose first k cells are the bytes from a on, the others those of row. -/
def Filled (R row : List Value) (S : Mm) (a k : Nat) : Prop := R.length = row.length ∧ ∀ j, R[j]? = if j < k then some (.int .u8 (S.byte (a + j))) else row[j]?

theorem Filled.zero (row : List Value) (S : Mm) (a : Nat) : Filled row row S a 0 := ⟨rfl, fun j => by simp⟩

theorem Filled.splice {R row : List Value} {S : Mm} {a k n : Nat} (h : Filled R row S a k) (hk : k + n ≤ row.length) {X : List Value} (hX : X = (S.read (a + k) n).map (Value.int .u8)) : Filled (Go.splice R k X) row S a (k + n) := by
  have hl : X.length = n := by rw [hX]; simp [Mm.read_length]
  have hR := h.1
  refine ⟨by rw [length_splice _ _ _ (by omega)]; exact hR, fun j => ?_⟩
  rw [splice_get _ _ _ (by omega), hl]
  by_cases h1 : k ≤ j ∧ j < k + n
  · rw [if_pos h1, if_pos (by omega), hX, List.getElem?_map, Mm.read_at _ _ _ _ (by omega)]
    simp
    congr 1; omega
  · rw [if_neg h1, h.2 j]
    by_cases h2 : j < k
    · rw [if_pos h2, if_pos (by omega)]
    · rw [if_neg h2, if_neg (by omega)]

theorem Filled.skip {R row : List Value} {S : Mm} {a k n : Nat} (h : Filled R row S a k) (hz : ∀ j, k ≤ j → j < k + n → row[j]? = some (.int .u8 0)) (hb : ∀ j, k ≤ j → j < k + n → S.byte (a + j) = 0) : Filled R row S a (k + n) := by
  refine ⟨h.1, fun j => ?_⟩
  rw [h.2 j]
  by_cases h2 : j < k
  · rw [if_pos h2, if_pos (by omega)]
  · rw [if_neg h2]
    by_cases h3 : j < k + n
    · rw [if_pos h3, hz j (by omega) h3, hb j (by omega) h3]
    · rw [if_neg h3]

theorem Page.cellsAt {w : World} {g i : Nat} {S : Mm} (h : Page w g S i) (off n : Nat) (hn : off + n ≤ 4096) {A : Nat} (hA : A = i * 4096 + off) :
    ∀ j v, ((S.read A n).map (Value.int .u8))[j]? = some v → w.cell? ((⟨g, off, none⟩ : Addr).add j) = some v := by
  obtain ⟨cs, h1, h2, h3⟩ := h
  intro j v hv
  have e : (⟨g, off, none⟩ : Addr).add j = ⟨g, off + j, none⟩ := by unfold Addr.add; split <;> simp_all
  rw [e, cell_of_row _ _ _ _ _ _ h1]
  have hj : j < n := by
    apply Nat.lt_of_not_le; intro h9
    rw [List.getElem?_eq_none (by simp [Mm.read_length]; omega)] at hv
    cases hv
  rw [List.getElem?_map, Mm.read_at _ _ _ _ hj] at hv
  simp at hv
  subst hv
  have := h3 (off + j) (by omega)
  rw [show i * 4096 + (off + j) = A + j by omega] at this
  simpa using this

set_option maxHeartbeats 3200000 in
theorem get_fills (m : Nat) (S : Mm) (F : Nat → Prop) (a0 O len cap : Nat) (t : TypeId) (row : List Value) (w : World) (h : PM w m S F) (ha : a0 ≤ 18446744073709551615)
    (hO : w.heap[O]? = some (.cells row.toArray t (0, 0))) (hF : ¬ F O) (hlc : len ≤ cap) (hcm : cap ≤ 9223372036854775807) (hrow : len ≤ row.length) (hz : ∀ j, j < len → row[j]? = some (.int .u8 0))
    (hpg : ∀ i, a0 / 4096 ≤ i → i * 4096 < a0 + len → 0 < len → S.perm i ≠ 0) :
    Calls Tryz.prog 58 #[.pointer (some ⟨m, 0, none⟩), .int .u64 (a0 : Int), .slice (some ⟨O, 0, none⟩) len cap] w fun e w' =>
      e = .returned (.tuple #[]) ∧ (∃ R : List Value, w'.heap[O]? = some (.cells R.toArray t (0, 0)) ∧ Filled R row S a0 len) ∧ Kept (fun k => k = O) w w' := by
  have HM := hide h
  have HO := hide hO
  have HF := hide hF
  have HZ := hide hz
  have HG := hide hpg
  clear h hO hF hz hpg
  go_enter Tryz.func58, Tryz.ntmps58
  go_wp2
  go_loopw [1, 2] (fun va vb wr => ∃ (k L A c' : Nat) (a' : Option Addr) (R : List Value), k + L = len ∧ A = a0 + k ∧ va = .int .u64 (A : Int) ∧ vb = .slice a' L c' ∧ (0 < L → a' = some ⟨O, k, none⟩) ∧ L ≤ c' ∧ c' ≤ 9223372036854775807 ∧
      wr.heap[O]? = some (.cells R.toArray t (0, 0)) ∧ Filled R row S a0 k ∧ Kept (fun k => k = O) w wr) (fun _ vb _ => slen vb)
  case atStart => exact ⟨0, len, a0, cap, _, row, by omega, by omega, rfl, rfl, fun _ => rfl, hlc, hcm, HO.out, Filled.zero _ _ _, Kept.refl _ _⟩
  case round =>
    obtain ⟨k, L, A, c', a', R, hkL, hA, rfl, rfl, ha', hLc, hc9, hR, hfi, hK⟩ := hrel
    have HR := hide hR
    have HFi := hide hfi
    have HK := hide hK
    clear hR hfi hK
    by_cases hL : L = 0
    · subst hL
      go_wp2
      go_end0
      obtain rfl : k = len := by omega
      exact ⟨rfl, ⟨R, HR.out, HFi.out⟩, HK.out⟩
    · obtain rfl := ha' (by omega)
      clear ha'
      have hperm : S.perm (A / 4096) ≠ 0 := HG.out _ (by omega) (by omega) (by omega)
      obtain ⟨b, dt, hX⟩ := HM.out.kept HK.out (fun k hk e => by subst e; exact HF.out hk)
      obtain ⟨i, hi⟩ : ∃ i, i = A / 4096 := ⟨_, rfl⟩
      obtain ⟨off, hoff⟩ : ∃ off, off = A % 4096 := ⟨_, rfl⟩
      have hi' : (A : Int) / 4096 = (i : Int) := by omega
      have ho' : (A : Int) % 4096 = (off : Int) := by omega
      have ho4 : off < 4096 := by omega
      have hA2 : A = i * 4096 + off := by omega
      have hiL : i < 34359738368 := by
        have h1 := hX.good.top i
        have h2 : S.perm i ≠ 0 := by rw [hi]; exact hperm
        apply Nat.lt_of_not_le; intro h3
        exact h2 (h1 h3)
      have hc := hX.cell
      have hlk := hX.look i (by omega)
      rw [← hi] at hperm
      simp only [pv] at hlk
      obtain ⟨q, hq⟩ : ∃ q, q = S.perm i := ⟨_, rfl⟩
      rw [← hq] at hlk
      have hAb : A < 140737488355328 := by omega
      have HX := hide hX
      have HI := hide hi
      have HOf := hide hoff
      have HA := hide hA
      have HA2 := hide hA2
      have HPe := hide hperm
      clear hX hi hoff hA hA2 hperm hq
      have hn0 := neqNil0
      have hn1 := neqNil1
      have hf1 := field1
      obtain ⟨n, hn⟩ : ∃ n, n = Nat.min L (4096 - off) := ⟨_, rfl⟩
      have hnL : n ≤ L := by rw [hn]; exact Nat.min_le_left _ _
      have hn4 : off + n ≤ 4096 := by have : n ≤ 4096 - off := by rw [hn]; exact Nat.min_le_right _ _
                                      omega
      have hn00 : 0 < n := by rw [hn]; exact Nat.lt_min.2 ⟨by omega, by omega⟩
      have HN := hide hn
      clear hn
      have hif : (if 4096 - (off : Int) < (L : Int) then 4096 - (off : Int) else (L : Int)) = (n : Int) := by
        have h9 : n = min L (4096 - off) := HN.out
        split <;> omega
      cases hd : dt i with
      | none =>
        have HD := hide hd
        rw [hd] at hlk
        simp only [dsl] at hlk
        clear hd
        go_upto_region 6 with fail
        obtain ⟨R6, hR6⟩ : ∃ R6, R6 = R := ⟨_, rfl⟩
        have HR6 : Hid (wr.heap[O]? = some (.cells R6.toArray t (0, 0))) := by rw [hR6]; exact HR.out
        have HF6 : Hid (Filled R6 row S a0 (k + n)) := by
          rw [hR6]
          refine HFi.out.skip (fun j h1 h2 => HZ.out j (by omega)) (fun j h1 h2 => ?_)
          have h9 := HX.out.noughts i HPe.out HD.out (off + (j - k)) (by omega)
          rw [show i * 4096 + (off + (j - k)) = a0 + j by have := HA.out; have := HA2.out; omega] at h9
          exact h9
        have HK6 := HK
        clear hR6 HX HR HFi HK HM hlk hc hif
        by_cases hcn : c' = n
        · subst hcn
          go_wp2
          go_roundw
          case rel =>
            have hz9 : L - c' = 0 := by omega
            refine ⟨k + c', L - c', A + c', 0, some ⟨O, k, none⟩, R6, by omega, by rw [HA.out]; omega, by go_num, by rw [hz9], fun h => ?_, by omega, by omega, HR6.out, HF6.out, HK6.out⟩
            rw [hz9] at h
            exact absurd h (Nat.lt_irrefl _)
          case measure => simp [slen]; omega
        · go_wp2
          go_roundw
          case rel => exact ⟨k + n, L - n, A + n, c' - n, some ⟨O, k + n, none⟩, R6, by omega, by rw [HA.out]; omega, by go_num, by go_num, fun _ => rfl, by omega, by omega, HR6.out, HF6.out, HK6.out⟩
          case measure => simp [slen]; omega
      | some g =>
        have HD := hide hd
        rw [hd] at hlk
        simp only [dsl] at hlk
        clear hd
        go_upto_region 5 with fail
        rw [ho']
        obtain ⟨X, hX⟩ : ∃ X, X = (S.read A n).map (Value.int .u8) := ⟨_, rfl⟩
        have HXl : Hid (X.length = n) := by rw [hX]; simp [Hid, Mm.read_length]
        have HSrc : Hid (∀ j v, X[j]? = some v → wr.cell? ((⟨g, off, none⟩ : Addr).add j) = some v) := by rw [hX]; exact (HX.out.page i g HD.out).cellsAt off n hn4 HA2.out
        have HOne : Hid (∀ v ∈ X, v.oneCell' = true) := by rw [hX]; exact ints_oneCell _ _
        have HX1 := hide hX
        have HMin : Hid (n = Nat.min (4096 - off) n) := (Nat.min_eq_right (by omega)).symm
        have HRl : Hid (k + X.length ≤ R.length) := by rw [HXl.out, HFi.out.1]; show k + n ≤ _; omega
        clear hX hif HX HM hlk hc
        have hnc : n ≤ c' := by omega
        have h4o : (off : Int) ≤ 4096 := by omega
        have h4n : ¬ 4096 = off := by omega
        go_region_law (refine step_copy_kept rfl (.tmp 32) (.tmp 35) 24 24 rfl 5 Tryz.underlying24 Tryz.size8 (some ⟨O, k, none⟩) (some ⟨g, off, none⟩) n c' (4096 - off) (4096 - off) (by simp [Act.eval, Act.put]) (by simp [Act.eval, Act.put]) O k R t HR.out X n HXl.out HMin.out (fun _ => ⟨rfl, _, rfl, HSrc.out⟩) HRl.out HOne.out ?_; intro w6 HG6 HKr)
        obtain ⟨R6, hR6⟩ : ∃ R6, R6 = Go.splice R k X := ⟨_, rfl⟩
        have HR6 : Hid (w6.heap[O]? = some (.cells R6.toArray t (0, 0))) := by rw [hR6]; exact HG6.out
        have HF6 : Hid (Filled R6 row S a0 (k + n)) := by
          rw [hR6]
          exact HFi.out.splice (by omega) (by rw [HX1.out, HA.out])
        have HK6 : Hid (Kept (fun k => k = O) w w6) := HK.out.drew.trans HKr.out (fun k hk => Or.inl hk)
        clear hR6 HR HFi HK HX1 HG6 HKr HSrc HXl HOne HRl HMin
        by_cases hcn : c' = n
        · subst hcn
          go_wp2
          go_roundw
          case rel =>
            have hz9 : L - c' = 0 := by omega
            refine ⟨k + c', L - c', A + c', 0, some ⟨O, k, none⟩, R6, by omega, by rw [HA.out]; omega, by go_num, by rw [hz9], fun h => ?_, by omega, by omega, HR6.out, HF6.out, HK6.out⟩
            rw [hz9] at h
            exact absurd h (Nat.lt_irrefl _)
          case measure => simp [slen]; omega
        · go_wp2
          go_roundw
          case rel => exact ⟨k + n, L - n, A + n, c' - n, some ⟨O, k + n, none⟩, R6, by omega, by rw [HA.out]; omega, by go_num, by go_num, fun _ => rfl, by omega, by omega, HR6.out, HF6.out, HK6.out⟩
          case measure => simp [slen]; omega

end Go.Proofs.YtdhjjlnabbpinaaGreatDoor

/- The contract of package mem's number. -/
namespace Go.Proofs.YtdhjjlnabbpinaaGreatDoor
open Go.RowKit Go.Maps
set_option linter.unusedVariables false
set_option maxRecDepth 100000

/-- The byte at j of n from a on; 0 behind them. -/
def Mm.pad (S : Mm) (a n j : Nat) : Int := if j < n then S.byte (a + j) else 0

theorem num_zeros : ∀ k, num (List.replicate k 0) = 0
  | 0 => rfl
  | k + 1 => by simp [List.replicate_succ, num, num_zeros k]

def Mm.eight (S : Mm) (a n : Nat) : List Int := [S.pad a n 0, S.pad a n 1, S.pad a n 2, S.pad a n 3, S.pad a n 4, S.pad a n 5, S.pad a n 6, S.pad a n 7]

theorem Mm.eight_num (S : Mm) (a n : Nat) (h : n ≤ 8) : num (S.eight a n) = num (S.read a n) := by
  have h9 : n = 0 ∨ n = 1 ∨ n = 2 ∨ n = 3 ∨ n = 4 ∨ n = 5 ∨ n = 6 ∨ n = 7 ∨ n = 8 := by omega
  rcases h9 with rfl | rfl | rfl | rfl | rfl | rfl | rfl | rfl | rfl <;> simp [Mm.eight, Mm.pad, Mm.read, List.range_succ, num]

theorem Mm.eight_bytes {S : Mm} (h : S.Good) (a n : Nat) : Bytes (S.eight a n) := by
  have h1 : ∀ j, 0 ≤ S.pad a n j ∧ S.pad a n j ≤ 255 := fun j => by
    unfold Mm.pad
    split
    · exact h.byte _
    · omega
  intro x hx
  simp only [Mm.eight, List.mem_cons, List.not_mem_nil, or_false] at hx
  rcases hx with rfl | rfl | rfl | rfl | rfl | rfl | rfl | rfl <;> exact h1 _

theorem eight_list {R : List Value} {S : Mm} {a n : Nat} (hn : n ≤ 8) (h : Filled R (List.replicate 8 (.int .u8 0)) S a n) : R = (S.eight a n).map (Value.int .u8) := by
  apply List.ext_getElem?
  intro j
  rw [h.2 j]
  by_cases hj : j < 8
  · have h9 : j = 0 ∨ j = 1 ∨ j = 2 ∨ j = 3 ∨ j = 4 ∨ j = 5 ∨ j = 6 ∨ j = 7 := by omega
    rcases h9 with rfl | rfl | rfl | rfl | rfl | rfl | rfl | rfl <;> (simp only [Mm.eight, Mm.pad, List.map_cons, List.map_nil]; split <;> simp)
  · rw [if_neg (by omega), List.getElem?_eq_none (by simp; omega), List.getElem?_eq_none (by simp [Mm.eight]; omega)]

theorem index8_0 (x0 x1 x2 x3 x4 x5 x6 x7 : Int) (w : World) : (Instr.index 151 (.agg #[.int .u8 x0, .int .u8 x1, .int .u8 x2, .int .u8 x3, .int .u8 x4, .int .u8 x5, .int .u8 x6, .int .u8 x7]) (.int .i64 0)).run Tryz.prog w = .ok (.int .u8 x0) w := by kernel_rfl
theorem index8_1 (x0 x1 x2 x3 x4 x5 x6 x7 : Int) (w : World) : (Instr.index 151 (.agg #[.int .u8 x0, .int .u8 x1, .int .u8 x2, .int .u8 x3, .int .u8 x4, .int .u8 x5, .int .u8 x6, .int .u8 x7]) (.int .i64 1)).run Tryz.prog w = .ok (.int .u8 x1) w := by kernel_rfl
theorem index8_2 (x0 x1 x2 x3 x4 x5 x6 x7 : Int) (w : World) : (Instr.index 151 (.agg #[.int .u8 x0, .int .u8 x1, .int .u8 x2, .int .u8 x3, .int .u8 x4, .int .u8 x5, .int .u8 x6, .int .u8 x7]) (.int .i64 2)).run Tryz.prog w = .ok (.int .u8 x2) w := by kernel_rfl
theorem index8_3 (x0 x1 x2 x3 x4 x5 x6 x7 : Int) (w : World) : (Instr.index 151 (.agg #[.int .u8 x0, .int .u8 x1, .int .u8 x2, .int .u8 x3, .int .u8 x4, .int .u8 x5, .int .u8 x6, .int .u8 x7]) (.int .i64 3)).run Tryz.prog w = .ok (.int .u8 x3) w := by kernel_rfl
theorem index8_4 (x0 x1 x2 x3 x4 x5 x6 x7 : Int) (w : World) : (Instr.index 151 (.agg #[.int .u8 x0, .int .u8 x1, .int .u8 x2, .int .u8 x3, .int .u8 x4, .int .u8 x5, .int .u8 x6, .int .u8 x7]) (.int .i64 4)).run Tryz.prog w = .ok (.int .u8 x4) w := by kernel_rfl
theorem index8_5 (x0 x1 x2 x3 x4 x5 x6 x7 : Int) (w : World) : (Instr.index 151 (.agg #[.int .u8 x0, .int .u8 x1, .int .u8 x2, .int .u8 x3, .int .u8 x4, .int .u8 x5, .int .u8 x6, .int .u8 x7]) (.int .i64 5)).run Tryz.prog w = .ok (.int .u8 x5) w := by kernel_rfl
theorem index8_6 (x0 x1 x2 x3 x4 x5 x6 x7 : Int) (w : World) : (Instr.index 151 (.agg #[.int .u8 x0, .int .u8 x1, .int .u8 x2, .int .u8 x3, .int .u8 x4, .int .u8 x5, .int .u8 x6, .int .u8 x7]) (.int .i64 6)).run Tryz.prog w = .ok (.int .u8 x6) w := by kernel_rfl
theorem index8_7 (x0 x1 x2 x3 x4 x5 x6 x7 : Int) (w : World) : (Instr.index 151 (.agg #[.int .u8 x0, .int .u8 x1, .int .u8 x2, .int .u8 x3, .int .u8 x4, .int .u8 x5, .int .u8 x6, .int .u8 x7]) (.int .i64 7)).run Tryz.prog w = .ok (.int .u8 x7) w := by kernel_rfl

theorem index8 (x0 x1 x2 x3 x4 x5 x6 x7 : Int) (k : Nat) (hk : k < 8) (w : World) :
    (Instr.index 151 (.agg #[.int .u8 x0, .int .u8 x1, .int .u8 x2, .int .u8 x3, .int .u8 x4, .int .u8 x5, .int .u8 x6, .int .u8 x7]) (.int .i64 (k : Int))).run Tryz.prog w = .ok (.int .u8 ([x0, x1, x2, x3, x4, x5, x6, x7][k]?.getD 0)) w := by
  have h9 : k = 0 ∨ k = 1 ∨ k = 2 ∨ k = 3 ∨ k = 4 ∨ k = 5 ∨ k = 6 ∨ k = 7 := by omega
  rcases h9 with rfl | rfl | rfl | rfl | rfl | rfl | rfl | rfl
  · exact index8_0 x0 x1 x2 x3 x4 x5 x6 x7 w
  · exact index8_1 x0 x1 x2 x3 x4 x5 x6 x7 w
  · exact index8_2 x0 x1 x2 x3 x4 x5 x6 x7 w
  · exact index8_3 x0 x1 x2 x3 x4 x5 x6 x7 w
  · exact index8_4 x0 x1 x2 x3 x4 x5 x6 x7 w
  · exact index8_5 x0 x1 x2 x3 x4 x5 x6 x7 w
  · exact index8_6 x0 x1 x2 x3 x4 x5 x6 x7 w
  · exact index8_7 x0 x1 x2 x3 x4 x5 x6 x7 w

theorem slice8_0 (O : Nat) (w : World) : (Instr.sliceAt 151 (.pointer (some ⟨O, 0, none⟩)) none (some (.int .i64 0)) none).run Tryz.prog w = .ok (.slice (some ⟨O, 0, none⟩) 0 8) w := by kernel_rfl
theorem slice8_1 (O : Nat) (w : World) : (Instr.sliceAt 151 (.pointer (some ⟨O, 0, none⟩)) none (some (.int .i64 1)) none).run Tryz.prog w = .ok (.slice (some ⟨O, 0, none⟩) 1 8) w := by kernel_rfl
theorem slice8_2 (O : Nat) (w : World) : (Instr.sliceAt 151 (.pointer (some ⟨O, 0, none⟩)) none (some (.int .i64 2)) none).run Tryz.prog w = .ok (.slice (some ⟨O, 0, none⟩) 2 8) w := by kernel_rfl
theorem slice8_3 (O : Nat) (w : World) : (Instr.sliceAt 151 (.pointer (some ⟨O, 0, none⟩)) none (some (.int .i64 3)) none).run Tryz.prog w = .ok (.slice (some ⟨O, 0, none⟩) 3 8) w := by kernel_rfl
theorem slice8_4 (O : Nat) (w : World) : (Instr.sliceAt 151 (.pointer (some ⟨O, 0, none⟩)) none (some (.int .i64 4)) none).run Tryz.prog w = .ok (.slice (some ⟨O, 0, none⟩) 4 8) w := by kernel_rfl
theorem slice8_5 (O : Nat) (w : World) : (Instr.sliceAt 151 (.pointer (some ⟨O, 0, none⟩)) none (some (.int .i64 5)) none).run Tryz.prog w = .ok (.slice (some ⟨O, 0, none⟩) 5 8) w := by kernel_rfl
theorem slice8_6 (O : Nat) (w : World) : (Instr.sliceAt 151 (.pointer (some ⟨O, 0, none⟩)) none (some (.int .i64 6)) none).run Tryz.prog w = .ok (.slice (some ⟨O, 0, none⟩) 6 8) w := by kernel_rfl
theorem slice8_7 (O : Nat) (w : World) : (Instr.sliceAt 151 (.pointer (some ⟨O, 0, none⟩)) none (some (.int .i64 7)) none).run Tryz.prog w = .ok (.slice (some ⟨O, 0, none⟩) 7 8) w := by kernel_rfl
theorem slice8_8 (O : Nat) (w : World) : (Instr.sliceAt 151 (.pointer (some ⟨O, 0, none⟩)) none (some (.int .i64 8)) none).run Tryz.prog w = .ok (.slice (some ⟨O, 0, none⟩) 8 8) w := by kernel_rfl

theorem slice8 (O : Nat) (n : Nat) (hn : n ≤ 8) (w : World) :
    (Instr.sliceAt 151 (.pointer (some ⟨O, 0, none⟩)) none (some (.int .i64 (n : Int))) none).run Tryz.prog w = .ok (.slice (some ⟨O, 0, none⟩) n 8) w := by
  have h9 : n = 0 ∨ n = 1 ∨ n = 2 ∨ n = 3 ∨ n = 4 ∨ n = 5 ∨ n = 6 ∨ n = 7 ∨ n = 8 := by omega
  rcases h9 with rfl | rfl | rfl | rfl | rfl | rfl | rfl | rfl | rfl
  · exact slice8_0 O w
  · exact slice8_1 O w
  · exact slice8_2 O w
  · exact slice8_3 O w
  · exact slice8_4 O w
  · exact slice8_5 O w
  · exact slice8_6 O w
  · exact slice8_7 O w
  · exact slice8_8 O w

set_option maxHeartbeats 1600000 in
theorem number_any (m : Nat) (S : Mm) (F : Nat → Prop) (a n : Nat) (p : Int) (w : World) (h : PM w m S F) (ha : a ≤ 18446744073709551615) (h1 : 1 ≤ n) (h8 : n ≤ 8) (hp : bits .and .i64 0 p = 0) :
    Calls Tryz.prog 104 #[.pointer (some ⟨m, 0, none⟩), .int .u64 (a : Int), .int .i64 (n : Int), .int .i64 p] w fun e w' =>
      e = .returned (.tuple #[.int .u64 (if mayB S a n p then num (S.read a n) else 0), .bool (mayB S a n p)]) ∧ Below w.heap.size w w' := by
  have HMay := hide (may_any m S F a n p w h ha (by omega) hp)
  by_cases hm : Mayp S a n p
  · rw [mayB_yes hm] at HMay
    rw [mayB_yes hm, if_pos rfl]
    have HM := hide hm
    have HP := hide h
    clear h hm
    go_enter Tryz.func104, Tryz.ntmps104
    go_wp2_with fail
    refine HMay.out.mono ?_
    rintro e w' ⟨rfl, rfl⟩
    clear HMay
    have hsl := slice8
    have hsl' := fun O w => hsl O n h8 w
    clear hsl
    go_wp2_with fail
    obtain ⟨O, hO⟩ : ∃ O, O = w'.heap.size := ⟨_, rfl⟩
    rw [← hO]
    obtain ⟨U, hU⟩ : ∃ U, U = w'.alloc (.cells #[.int .u8 0, .int .u8 0, .int .u8 0, .int .u8 0, .int .u8 0, .int .u8 0, .int .u8 0, .int .u8 0] 151) := ⟨_, rfl⟩
    rw [← hU]
    have hBU : Below w'.heap.size w' U := by rw [hU]; exact (Below.refl _ _).alloc (Nat.le_refl _) _
    have hUO : U.heap[O]? = some (.cells (List.replicate 8 (Value.int .u8 0)).toArray 151 (0, 0)) := by rw [hU, hO]; exact heap_alloc_new w' _
    have hFO : ¬ F O := fun hf => by have := HP.out.flt O hf; omega
    refine (get_fills m S F a O n 8 151 (List.replicate 8 (.int .u8 0)) U (HP.out.below hBU) ha hUO hFO h8 (by omega) (by rw [List.length_replicate]; exact h8) (fun j hj => by rw [List.getElem?_replicate, if_pos (by omega)]) (fun i h1 h2 h3 => HM.out.mapped hp h1 h2 (by omega))).mono ?_
    rintro e W ⟨rfl, ⟨R, hR, hfi⟩, hK⟩
    obtain rfl := eight_list h8 hfi
    have HB : Hid (Below w'.heap.size w' W) := hBU.trans (hK.below hBU.size (fun k hk => by subst hk; rw [hO]; exact Nat.le_refl _))
    have HE := hide (S.eight_num a n h8)
    have hby := Mm.eight_bytes HP.out.good a n
    have hxs : ∃ x0 x1 x2 x3 x4 x5 x6 x7, S.eight a n = [x0, x1, x2, x3, x4, x5, x6, x7] := ⟨_, _, _, _, _, _, _, _, rfl⟩
    obtain ⟨x0, x1, x2, x3, x4, x5, x6, x7, hxe⟩ := hxs
    rw [hxe] at hR HE hby
    clear hxe hfi hK hUO hFO hBU hU hsl' HM HP
    have hc0 : W.cell? ⟨O, 0, none⟩ = some (.int .u8 x0) := by rw [cell_of_row _ _ _ _ _ _ hR]; rfl
    have hc1 : W.cell? ⟨O, 1, none⟩ = some (.int .u8 x1) := by rw [cell_of_row _ _ _ _ _ _ hR]; rfl
    have hc2 : W.cell? ⟨O, 2, none⟩ = some (.int .u8 x2) := by rw [cell_of_row _ _ _ _ _ _ hR]; rfl
    have hc3 : W.cell? ⟨O, 3, none⟩ = some (.int .u8 x3) := by rw [cell_of_row _ _ _ _ _ _ hR]; rfl
    have hc4 : W.cell? ⟨O, 4, none⟩ = some (.int .u8 x4) := by rw [cell_of_row _ _ _ _ _ _ hR]; rfl
    have hc5 : W.cell? ⟨O, 5, none⟩ = some (.int .u8 x5) := by rw [cell_of_row _ _ _ _ _ _ hR]; rfl
    have hc6 : W.cell? ⟨O, 6, none⟩ = some (.int .u8 x6) := by rw [cell_of_row _ _ _ _ _ _ hR]; rfl
    have hc7 : W.cell? ⟨O, 7, none⟩ = some (.int .u8 x7) := by rw [cell_of_row _ _ _ _ _ _ hR]; rfl
    have hix := index8 x0 x1 x2 x3 x4 x5 x6 x7
    have HBy := hide hby
    have HIx := hide hix
    clear hR hby hix hO
    go_wp2
    go_loop [11, 27] (fun v i => ∃ k : Nat, k ≤ 8 ∧ i = .int .i64 (k : Int) ∧ v = .int .u64 (num ([x0, x1, x2, x3, x4, x5, x6, x7].take k))) (fun _ i => 8 - (intOf i).toNat)
    case atStart => exact ⟨0, by omega, rfl, rfl⟩
    case round =>
      obtain ⟨k, hk, rfl, rfl⟩ := hrel
      by_cases hlt : k < 8
      · have hix := HIx.out k hlt W
        have hb1 := HBy.out.at k
        have HU := hide (num_up [x0, x1, x2, x3, x4, x5, x6, x7] k HBy.out hlt hlt)
        obtain ⟨y, hy⟩ : ∃ y, y = [x0, x1, x2, x3, x4, x5, x6, x7][k]?.getD 0 := ⟨_, rfl⟩
        rw [← hy] at hix hb1 HU
        obtain ⟨v0, hv0⟩ : ∃ v0, v0 = num ([x0, x1, x2, x3, x4, x5, x6, x7].take k) := ⟨_, rfl⟩
        rw [← hv0] at HU
        rw [← hv0]
        clear hy hv0
        go_wp2
        go_round
        case rel => exact ⟨k + 1, by omega, by go_num, by rw [← HU.out]⟩
        case measure => simp [intOf]; omega
      · obtain rfl : k = 8 := by omega
        go_wp2
        go_ret2
        exact ⟨ret_num HE.out, HB.out⟩
  · rw [mayB_no hm] at HMay
    rw [mayB_no hm, if_neg (by decide)]
    clear h hm
    go_enter Tryz.func104, Tryz.ntmps104
    go_wp2_with fail
    refine HMay.out.mono ?_
    rintro e w' ⟨rfl, rfl⟩
    go_wp2
    go_ret2
    exact ⟨rfl, Below.refl _ _⟩

end Go.Proofs.YtdhjjlnabbpinaaGreatDoor

/- Contracts of package mem's Load, Fetch, Read, Write, Store. -/
namespace Go.Proofs.YtdhjjlnabbpinaaGreatDoor
open Go.RowKit Go.Maps
set_option linter.unusedVariables false
set_option maxRecDepth 100000

theorem and_4 : bits .and .i64 0 4 = 0 := by decide
theorem and_2 : bits .and .i64 0 2 = 0 := by decide
theorem and_1 : bits .and .i64 0 1 = 0 := by decide

/-- Whether n bytes from a on may be loaded, stored, as a number. -/
noncomputable def numOk (S : Mm) (a : Nat) (n : Int) (p : Int) : Bool := decide (WidthOk n) && mayB S a n.toNat p
noncomputable def loadV (S : Mm) (a : Nat) (n : Int) : Int := if numOk S a n 4 = true then num (S.read a n.toNat) else 0

theorem read_num_bd {S : Mm} (h : S.Good) (a n : Nat) (h8 : n ≤ 8) : 0 ≤ num (S.read a n) ∧ num (S.read a n) < 2 ^ (8 * n) ∧ num (S.read a n) ≤ 18446744073709551615 := by
  have h1 := Mm.read_bytes h a n
  have h2 := num_lt h1
  rw [Mm.read_length, pow_256] at h2
  have h3 := pow_le_64 h8
  exact ⟨num_nonneg h1, h2, by omega⟩

theorem load_any (m : Nat) (S : Mm) (F : Nat → Prop) (a : Nat) (n : Int) (w : World) (h : PM w m S F) (ha : a ≤ 18446744073709551615) (hn0 : -9223372036854775808 ≤ n) (hn1 : n ≤ 9223372036854775807) :
    Calls Tryz.prog 114 #[.pointer (some ⟨m, 0, none⟩), .int .u64 (a : Int), .int .i64 n] w fun e w' =>
      e = .returned (.tuple #[.int .u64 (loadV S a n), .bool (numOk S a n 4)]) ∧ Below w.heap.size w w' := by
  have HW := hide (widthGood_any n)
  by_cases hw : WidthOk n
  · obtain ⟨k, rfl⟩ : ∃ k : Nat, n = k := ⟨n.toNat, by unfold WidthOk at hw; omega⟩
    have hk8 : 1 ≤ k ∧ k ≤ 8 := by unfold WidthOk at hw; omega
    have HN := hide (number_any m S F a k 4 w h ha hk8.1 hk8.2 and_4)
    have e1 : numOk S a (k : Int) 4 = mayB S a k 4 := by simp [numOk, hw]
    have e2 : loadV S a (k : Int) = if mayB S a k 4 = true then num (S.read a k) else 0 := by simp [loadV, e1]
    rw [e1, e2]
    have HW2 : Hid (∀ w, Calls Tryz.prog 126 #[.int .i64 (k : Int)] w fun e w' => e = .returned (.bool true) ∧ w' = w) := fun w => by
      have := HW.out w
      rwa [decide_eq_true hw] at this
    generalize (if mayB S a k 4 = true then num (S.read a k) else 0) = v at *
    generalize mayB S a k 4 = t at *
    clear HW h hw e1 e2
    go_enter Tryz.func114, Tryz.ntmps114
    go_wp2_with fail
    refine (HW2.out _).mono ?_
    rintro e w' ⟨rfl, rfl⟩
    go_wp2_with fail
    refine HN.out.mono ?_
    rintro e w2 ⟨rfl, hb⟩
    have HB := hide hb
    clear hb
    go_wp2
    go_ret2
    exact ⟨rfl, HB.out⟩
  · have e1 : numOk S a n 4 = false := by simp [numOk, hw]
    have e2 : loadV S a n = 0 := by simp [loadV, e1]
    rw [e1, e2]
    have HW2 : Hid (∀ w, Calls Tryz.prog 126 #[.int .i64 n] w fun e w' => e = .returned (.bool false) ∧ w' = w) := fun w => by
      have := HW.out w
      rwa [decide_eq_false hw] at this
    clear HW h hw e1 e2
    go_enter Tryz.func114, Tryz.ntmps114
    go_wp2_with fail
    refine (HW2.out _).mono ?_
    rintro e w' ⟨rfl, rfl⟩
    go_wp2
    go_ret2
    exact ⟨rfl, Below.refl _ _⟩

noncomputable def fetchV (S : Mm) (a : Nat) : Int := if mayB S a 4 1 = true then num (S.read a 4) else 0

theorem fetchV_bd {S : Mm} (h : S.Good) (a : Nat) : 0 ≤ fetchV S a ∧ fetchV S a ≤ 4294967295 := by
  have h1 := read_num_bd h a 4 (by omega)
  have e : (2 : Int) ^ (8 * 4) = 4294967296 := by decide
  rw [e] at h1
  unfold fetchV
  split <;> omega

theorem fetch_any (m : Nat) (S : Mm) (F : Nat → Prop) (a : Nat) (w : World) (h : PM w m S F) (ha : a ≤ 18446744073709551615) :
    Calls Tryz.prog 71 #[.pointer (some ⟨m, 0, none⟩), .int .u64 (a : Int)] w fun e w' =>
      e = .returned (.tuple #[.int .u32 (fetchV S a), .bool (mayB S a 4 1)]) ∧ Below w.heap.size w w' := by
  have HN := hide (number_any m S F a 4 1 w h ha (by omega) (by omega) and_1)
  have hb := fetchV_bd h.good a
  have e2 : (if mayB S a 4 1 = true then num (S.read a 4) else 0) = fetchV S a := rfl
  rw [e2] at HN
  generalize fetchV S a = v at *
  generalize mayB S a 4 1 = t at *
  clear h e2
  go_enter Tryz.func71, Tryz.ntmps71
  go_wp2_with fail
  refine HN.out.mono ?_
  rintro e w2 ⟨rfl, hb⟩
  have HB := hide hb
  clear hb
  go_wp2
  go_ret2
  exact ⟨rfl, HB.out⟩

/-- Whether n bytes may be read, written at once. -/
noncomputable def manyOk (S : Mm) (a n : Nat) (p : Int) : Bool := decide (n ≤ 65536) && mayB S a n p

set_option maxHeartbeats 800000 in
theorem read_any (m : Nat) (S : Mm) (F : Nat → Prop) (a n : Nat) (w : World) (h : PM w m S F) (ha : a ≤ 18446744073709551615) (hn : n ≤ 18446744073709551615) :
    Calls Tryz.prog 27 #[.pointer (some ⟨m, 0, none⟩), .int .u64 (a : Int), .int .u64 (n : Int)] w fun e w' =>
      (manyOk S a n 4 = false → e = .returned (.tuple #[.slice none 0 0, .bool false])) ∧
      (manyOk S a n 4 = true → ∃ O, e = .returned (.tuple #[.slice (some ⟨O, 0, none⟩) n n, .bool true]) ∧ w.heap.size ≤ O ∧ w'.heap[O]? = some (.cells ((S.read a n).map (Value.int .u8)).toArray 5 (0, 0))) ∧
      Below w.heap.size w w' := by
  have HMay := hide (may_any m S F a n 4 w h ha hn and_4)
  by_cases hle : n ≤ 65536
  · by_cases hm : Mayp S a n 4
    · have e1 : manyOk S a n 4 = true := by simp [manyOk, hle, mayB_yes hm]
      rw [mayB_yes hm] at HMay
      rw [e1]
      obtain ⟨i0, hi, hz0, hz1, hz2⟩ := info_parts Tryz.info8
      have hmk := fun w => run_make (P := Tryz.prog) w 24 5 i0 (.int .u8 0) Tryz.underlying24 hi hz0 .u64 .u64 (n : Int) (n : Int) (by omega) (by omega) (by rw [hz2]; omega) (by omega)
      rw [hz1, Int.toNat_natCast] at hmk
      have hcs : (Value.int .u8 0).cells = #[.int .u8 0] := rfl
      rw [hcs, Nat.mul_one] at hmk
      obtain ⟨Y, hY⟩ : ∃ Y : List Value, Y = (madeCells #[.int .u8 0] n).toList := ⟨_, rfl⟩
      have hY2 : madeCells #[.int .u8 0] n = Y.toArray := by rw [hY]
      have hYl : Y.length = n := by rw [hY]; simp [madeCells]
      have hYz : ∀ j, j < n → Y[j]? = some (.int .u8 0) := fun j hj => by rw [hY]; unfold madeCells; simp [hj, Nat.mod_one]
      rw [hY2] at hmk
      have HM := hide hm
      have HP := hide h
      have HYl := hide hYl
      have HYz := hide hYz
      clear h hm hY hY2 hYl hYz e1 hcs hi hz0 hz1 hz2
      have hle' : decide ((65536 : Int) < (n : Int)) = false := by simp; omega
      go_enter Tryz.func27, Tryz.ntmps27
      go_wp2_with fail
      refine HMay.out.mono ?_
      rintro e w' ⟨rfl, rfl⟩
      clear HMay
      go_wp2_with fail
      obtain ⟨O, hO⟩ : ∃ O, O = w'.heap.size := ⟨_, rfl⟩
      rw [← hO]
      obtain ⟨U, hU⟩ : ∃ U, U = w'.alloc (.cells Y.toArray 5) := ⟨_, rfl⟩
      rw [← hU]
      have hBU : Below w'.heap.size w' U := by rw [hU]; exact (Below.refl _ _).alloc (Nat.le_refl _) _
      have hUO : U.heap[O]? = some (.cells Y.toArray 5 (0, 0)) := by rw [hU, hO]; exact heap_alloc_new w' _
      have hFO : ¬ F O := fun hf => by have := HP.out.flt O hf; omega
      refine (get_fills m S F a O n n 5 Y U (HP.out.below hBU) ha hUO hFO (Nat.le_refl _) (by omega) (by rw [HYl.out]; exact Nat.le_refl _) HYz.out (fun i h1 h2 h3 => HM.out.mapped and_4 h1 h2 (by omega))).mono ?_
      rintro e W ⟨rfl, ⟨R, hR, hfi⟩, hK⟩
      have hRe : R = (S.read a n).map (Value.int .u8) := by
        apply List.ext_getElem?
        intro j
        rw [hfi.2 j]
        by_cases hj : j < n
        · rw [if_pos hj, List.getElem?_map, Mm.read_at _ _ _ _ hj]; rfl
        · have h9 := HYl.out
          rw [if_neg hj, List.getElem?_eq_none (by omega), List.getElem?_eq_none (by rw [List.length_map, Mm.read_length]; omega)]
      subst hRe
      have HB : Hid (Below w'.heap.size w' W) := hBU.trans (hK.below hBU.size (fun k hk => by subst hk; rw [hO]; exact Nat.le_refl _))
      have HR := hide hR
      have HO : Hid (w'.heap.size ≤ O) := by rw [hO]; exact Nat.le_refl _
      clear hR hfi hK hUO hFO hBU hU HM HP HYl HYz hmk hO
      go_wp2
      go_ret2
      exact ⟨(fun h => by cases h), fun _ => ⟨O, rfl, HO.out, HR.out⟩, HB.out⟩
    · have e1 : manyOk S a n 4 = false := by simp [manyOk, hle, mayB_no hm]
      rw [mayB_no hm] at HMay
      rw [e1]
      have hle' : decide ((65536 : Int) < (n : Int)) = false := by simp; omega
      clear h hm e1
      go_enter Tryz.func27, Tryz.ntmps27
      go_wp2_with fail
      refine HMay.out.mono ?_
      rintro e w' ⟨rfl, rfl⟩
      go_wp2
      go_ret2
      exact ⟨fun _ => rfl, (fun h => by cases h), Below.refl _ _⟩
  · have e1 : manyOk S a n 4 = false := by simp [manyOk, hle]
    rw [e1]
    clear h e1 HMay
    go_enter Tryz.func27, Tryz.ntmps27
    go_wp2_with fail
    go_ret2
    exact ⟨rfl, Below.refl _ _⟩

set_option maxHeartbeats 800000 in
theorem write_any (m : Nat) (S : Mm) (F : Nat → Prop) (a0 : Nat) (a : Option Addr) (len cap : Nat) (bs : List Int) (w : World) (h : PM w m S F) (ha : a0 ≤ 18446744073709551615) (r : Rd w a len cap bs)
    (hsep : 0 < len → ∀ x, a = some x → ¬ F x.block) :
    Calls Tryz.prog 130 #[.pointer (some ⟨m, 0, none⟩), .int .u64 (a0 : Int), .slice a len cap] w fun e w' =>
      e = .returned (.bool (manyOk S a0 len 2)) ∧ ∃ F', PM w' m (if manyOk S a0 len 2 = true then S.lay a0 bs else S) F' ∧ Went F w F' w' := by
  have hle0 := r.le
  have hmx := r.max
  have HMay := hide (may_any m S F a0 len 2 w h ha (by omega) and_2)
  by_cases hle : len ≤ 65536
  · have hle' : decide ((65536 : Int) < (len : Int)) = false := by simp; omega
    by_cases hm : Mayp S a0 len 2
    · have e1 : manyOk S a0 len 2 = true := by simp [manyOk, hle, mayB_yes hm]
      rw [mayB_yes hm] at HMay
      rw [e1, if_pos rfl]
      have HPut := hide (mput_any m S F a0 a len cap bs w h ha r hsep (fun i h1 h2 h3 => hm.mapped and_2 h1 h2 (by omega)))
      clear h hm r hsep e1
      go_enter Tryz.func130, Tryz.ntmps130
      go_wp2_with fail
      refine HMay.out.mono ?_
      rintro e w' ⟨rfl, rfl⟩
      clear HMay
      go_wp2_with fail
      refine HPut.out.mono ?_
      rintro e W ⟨rfl, F', hP, hW⟩
      have HP := hide hP
      have HW := hide hW
      clear hP hW HPut
      go_wp2
      go_ret
      exact ⟨rfl, F', HP.out, HW.out⟩
    · have e1 : manyOk S a0 len 2 = false := by simp [manyOk, mayB_no hm]
      rw [mayB_no hm] at HMay
      rw [e1, if_neg (by decide)]
      have HP := hide h
      clear h hm r hsep e1
      go_enter Tryz.func130, Tryz.ntmps130
      go_wp2_with fail
      refine HMay.out.mono ?_
      rintro e w' ⟨rfl, rfl⟩
      clear HMay
      go_wp2
      go_ret
      exact ⟨rfl, F, HP.out, Went.refl _ _⟩
  · have e1 : manyOk S a0 len 2 = false := by simp [manyOk, hle]
    rw [e1, if_neg (by decide)]
    have HP := hide h
    clear h r hsep e1 HMay
    go_enter Tryz.func130, Tryz.ntmps130
    go_wp2_with fail
    go_ret
    exact ⟨rfl, F, HP.out, Went.refl _ _⟩

end Go.Proofs.YtdhjjlnabbpinaaGreatDoor

/- The contract of package mem's Store. -/
namespace Go.Proofs.YtdhjjlnabbpinaaGreatDoor
open Go.RowKit Go.Maps
set_option linter.unusedVariables false
set_option maxRecDepth 100000

theorem map_set_u8 (l : List Int) (j : Nat) (x : Int) : (l.map (Value.int .u8)).set j (.int .u8 x) = (l.set j x).map (Value.int .u8) := by
  rw [List.map_set]

theorem bytesOf_take (v : Int) (n k : Nat) (h : n ≤ k) : (bytesOf v k).take n = bytesOf v n := by
  unfold bytesOf
  rw [← List.map_take, List.take_range, Nat.min_eq_left h]

/-- The memory behind a store. -/
noncomputable def stored (S : Mm) (a : Nat) (n : Int) (v : Int) : Mm := if numOk S a n 2 = true then S.lay a (bytesOf v n.toNat) else S

set_option maxHeartbeats 1600000 in
theorem store_any (m : Nat) (S : Mm) (F : Nat → Prop) (a : Nat) (n v : Int) (w : World) (h : PM w m S F) (ha : a ≤ 18446744073709551615) (hn0 : -9223372036854775808 ≤ n) (hn1 : n ≤ 9223372036854775807) (hv0 : 0 ≤ v) (hv1 : v ≤ 18446744073709551615) :
    Calls Tryz.prog 115 #[.pointer (some ⟨m, 0, none⟩), .int .u64 (a : Int), .int .i64 n, .int .u64 v] w fun e w' =>
      e = .returned (.bool (numOk S a n 2)) ∧ ∃ F', PM w' m (stored S a n v) F' ∧ Went F w F' w' := by
  have HW := hide (widthGood_any n)
  by_cases hw : WidthOk n
  · obtain ⟨k, rfl⟩ : ∃ k : Nat, n = k := ⟨n.toNat, by unfold WidthOk at hw; omega⟩
    have hk8 : 1 ≤ k ∧ k ≤ 8 := by unfold WidthOk at hw; omega
    have HMay := hide (may_any m S F a k 2 w h ha (by omega) and_2)
    have e1 : numOk S a (k : Int) 2 = mayB S a k 2 := by simp [numOk, hw]
    have HW2 : Hid (∀ w, Calls Tryz.prog 126 #[.int .i64 (k : Int)] w fun e w' => e = .returned (.bool true) ∧ w' = w) := fun w => by
      have := HW.out w
      rwa [decide_eq_true hw] at this
    clear HW
    by_cases hm : Mayp S a k 2
    · rw [mayB_yes hm] at HMay e1
      have e2 : stored S a (k : Int) v = S.lay a (bytesOf v k) := by simp [stored, e1]
      rw [e1, e2]
      have HM := hide hm
      have HP := hide h
      have hk1 := hk8.1
      have hk2 := hk8.2
      clear h hw e1 e2 hm hk8
      have hsl := slice8
      have hsl' := fun O w => hsl O k hk2 w
      clear hsl
      go_enter Tryz.func115, Tryz.ntmps115
      go_wp2_with fail
      refine (HW2.out _).mono ?_
      rintro e w' ⟨rfl, rfl⟩
      go_wp2_with fail
      refine HMay.out.mono ?_
      rintro e w' ⟨rfl, rfl⟩
      clear HMay HW2
      go_wp2
      go_loopw [22] (fun i wr => ∃ j : Nat, j ≤ 8 ∧ i = .int .i64 (j : Int) ∧ wr.ownsRow w'.heap.size 151 1 (.slice (some ⟨w'.heap.size, 0, none⟩) 8 8) 8 ((setLe (List.replicate 8 0) 0 v j).map (Value.int .u8)) ∧ Below w'.heap.size w' wr) (fun i _ => 8 - (intOf i).toNat)
      case atStart =>
        refine ⟨0, by omega, rfl, ?_, (Below.refl _ _).alloc (Nat.le_refl _) _⟩
        rw [setOf_zero]
        exact ⟨rfl, .inr ⟨w'.heap.size, 8, _, rfl, Nat.le_refl _, heap_alloc_new w' _, by omega, by unfold maxLen; omega, rfl, rfl⟩⟩
      case round =>
        obtain ⟨j, hj, rfl, hown2, hbel2⟩ := hrel
        by_cases hlt : j < 8
        · have hcell := hown2.cellAt (0 + j) (by omega)
          have hfz := hown2.frozenAt (0 + j)
          have hst := hown2.stored (0 + j) (.int .u8 (byteOf v j))
          rw [map_set_u8, setOf_succ (List.replicate 8 0) 0 v j (by simp; omega)] at hst
          rw [Nat.zero_add] at hcell hfz hst
          have HST := hide hst
          have HB2 := hide hbel2
          clear hown2 hst hbel2
          obtain ⟨u0, hu0⟩ : ∃ u0, ((setLe (List.replicate 8 0) 0 v j).map (Value.int .u8))[j]? = some u0 := ⟨_, List.getElem?_eq_getElem (by rw [List.length_map, setOf_length _ _ _ _ (by simp; omega)]; simp; omega)⟩
          rw [hu0] at hcell
          clear hu0
          go_wp2
          go_roundw
          case rel => exact ⟨j + 1, by omega, by go_num, HST.out.1, HB2.out.setCell (Nat.le_refl _) _⟩
          case measure => simp [intOf]; omega
        · obtain rfl : j = 8 := by omega
          have HO := hide hown2
          have HB := hide hbel2
          clear hown2 hbel2
          go_wp2_with fail
          obtain ⟨O, hO⟩ : ∃ O, O = w'.heap.size := ⟨_, rfl⟩
          rw [← hO]
          have hr : Rd wr (some ⟨O, 0, none⟩) k 8 (bytesOf v k) := by
            have h1 := HO.out
            rw [← hO] at h1
            have h2 : setLe (List.replicate 8 0) 0 v 8 = bytesOf v 8 := by simp [setLe]
            rw [h2] at h1
            refine ⟨bytesOf_length v k, hk2, by omega, bytesOf_bytes v k, (fun h => by cases h), fun x hx i hi => ?_⟩
            cases hx
            rw [show (⟨O, 0, none⟩ : Addr).add i = ⟨O, i, none⟩ by unfold Addr.add; split <;> simp_all, h1.cellAt i (by omega)]
            rw [← bytesOf_take v k 8 hk2]
            have h3 : i < (bytesOf v 8).length := by rw [bytesOf_length]; omega
            simp [h3, hi]
          have hFO : ∀ x, some (⟨O, 0, none⟩ : Addr) = some x → ¬ F x.block := fun x hx hf => by
            cases hx
            have := HP.out.flt O hf
            omega
          refine (mput_any m S F a (some ⟨O, 0, none⟩) k 8 (bytesOf v k) wr (HP.out.below HB.out) ha hr (fun _ => hFO) (fun i h1 h2 h3 => HM.out.mapped and_2 h1 h2 (by omega))).mono ?_
          rintro e W ⟨rfl, F', hP, hW⟩
          have HP2 := hide hP
          have HW2 : Hid (Went F w' F' W) := ⟨(kept_of_below HB.out F).trans hW.1 (fun k hk => Or.inl hk), fun k hk => by
            rcases hW.2 k hk with h1 | h1
            · exact Or.inl h1
            · have := HB.out.size; exact Or.inr (by omega)⟩
          clear hP hW hr hFO hsl' HO HB
          go_wp2
          go_ret
          exact ⟨rfl, F', HP2.out, HW2.out⟩
    · rw [mayB_no hm] at HMay e1
      have e2 : stored S a (k : Int) v = S := by simp [stored, e1]
      rw [e1, e2]
      have HP := hide h
      clear h hw e1 e2 hm
      go_enter Tryz.func115, Tryz.ntmps115
      go_wp2_with fail
      refine (HW2.out _).mono ?_
      rintro e w' ⟨rfl, rfl⟩
      go_wp2_with fail
      refine HMay.out.mono ?_
      rintro e w' ⟨rfl, rfl⟩
      clear HMay HW2
      go_wp2
      go_ret
      exact ⟨rfl, F, HP.out, Went.refl _ _⟩
  · have e1 : numOk S a n 2 = false := by simp [numOk, hw]
    have e2 : stored S a n v = S := by simp [stored, e1]
    rw [e1, e2]
    have HW2 : Hid (∀ w, Calls Tryz.prog 126 #[.int .i64 n] w fun e w' => e = .returned (.bool false) ∧ w' = w) := fun w => by
      have := HW.out w
      rwa [decide_eq_false hw] at this
    have HP := hide h
    clear HW h hw e1 e2
    go_enter Tryz.func115, Tryz.ntmps115
    go_wp2_with fail
    refine (HW2.out _).mono ?_
    rintro e w' ⟨rfl, rfl⟩
    go_wp2_with fail
    go_ret
    exact ⟨rfl, F, HP.out, Went.refl _ _⟩

end Go.Proofs.YtdhjjlnabbpinaaGreatDoor

/- An environment in memory: the bytes that wait, the events that were noted; how it lasts, how an event joins it. -/
namespace Go.Proofs.YtdhjjlnabbpinaaGreatDoor
open Go.RowKit
set_option linter.unusedVariables false
set_option maxRecDepth 100000

/-- An event as it lies in memory, and its bytes. -/
structure Evt where
  kind : Int
  fd : Int
  a : Option Addr
  len : Nat
  cap : Nat
  n : Int
  bs : List Int

def Evt.cells (x : Evt) : List Value := [.int .i64 x.kind, .int .i64 x.fd, .slice x.a x.len x.cap, .int .i64 x.n]

structure Evt.Ok (x : Evt) (w : World) : Prop where
  kind : -9223372036854775808 ≤ x.kind ∧ x.kind ≤ 9223372036854775807
  fd : -9223372036854775808 ≤ x.fd ∧ x.fd ≤ 9223372036854775807
  n : -9223372036854775808 ≤ x.n ∧ x.n ≤ 9223372036854775807
  b : Rd w x.a x.len x.cap x.bs

/-- What an event says. -/
structure Says where
  kind : Int
  fd : Int
  bs : List Int
  n : Int

def Evt.says (x : Evt) : Says := ⟨x.kind, x.fd, x.bs, x.n⟩

def evCells (l : List Evt) : List Value := l.flatMap Evt.cells

theorem evCells_append (l r : List Evt) : evCells (l ++ r) = evCells l ++ evCells r := List.flatMap_append ..
theorem evCells_one (x : Evt) : evCells [x] = x.cells := by simp [evCells]
theorem evCells_length : ∀ l : List Evt, (evCells l).length = l.length * 4
  | [] => rfl
  | x :: l => by
    have h := evCells_length l
    unfold evCells at h ⊢
    rw [List.flatMap_cons, List.length_append, h, List.length_cons]
    simp [Evt.cells]
    omega
theorem evCells_at : ∀ (l : List Evt) (i j : Nat) (x : Evt), l[i]? = some x → j < 4 → (evCells l)[i * 4 + j]? = x.cells[j]?
  | [], i, j, x, h, hj => by simp at h
  | y :: l, 0, j, x, h, hj => by
    simp at h
    subst h
    unfold evCells
    rw [List.flatMap_cons, List.getElem?_append_left (by simp [Evt.cells]; omega)]
    simp
  | y :: l, i + 1, j, x, h, hj => by
    have h1 := evCells_at l i j x (by simpa using h) hj
    unfold evCells at h1 ⊢
    rw [List.flatMap_cons, List.getElem?_append_right (by simp [Evt.cells]; omega)]
    rw [← h1]
    congr 1
    simp [Evt.cells]
    omega
theorem evCells_oneCell (l : List Evt) : ∀ u ∈ evCells l, u.oneCell' = true := by
  intro u hu
  unfold evCells at hu
  obtain ⟨x, hx, hc⟩ := List.mem_flatMap.1 hu
  simp [Evt.cells] at hc
  rcases hc with rfl | rfl | rfl | rfl <;> rfl

theorem Evt.Ok.below {x : Evt} {w w' : World} (h : x.Ok w) (hb : Below w.heap.size w w') : x.Ok w' := ⟨h.kind, h.fd, h.n, h.b.below hb⟩

/-- Events in a slice that is read. -/
structure Evs (w : World) (a : Option Addr) (len : Nat) (es : List Evt) : Prop where
  length : es.length = len
  max : len ≤ 9223372036854775807
  ok : ∀ x ∈ es, x.Ok w
  cell : ∀ i x, es[i]? = some x → ∃ b o, a = some ⟨b, o, none⟩ ∧ ∀ j, j < 4 → w.cell? ⟨b, o + i * 4 + j, none⟩ = x.cells[j]?

theorem Evs.below {w w' : World} {a : Option Addr} {len : Nat} {es : List Evt} (h : Evs w a len es) (hb : Below w.heap.size w w') : Evs w' a len es :=
  ⟨h.length, h.max, fun x hx => (h.ok x hx).below hb, fun i x hx => by
    obtain ⟨b, o, h1, h2⟩ := h.cell i x hx
    refine ⟨b, o, h1, fun j hj => ?_⟩
    have h3 := h2 j hj
    have h4 : x.cells[j]? = some (x.cells[j]'(by simpa [Evt.cells] using hj)) := List.getElem?_eq_getElem _
    rw [h4] at h3 ⊢
    rw [hb.cell (World.block_lt_of_cell? w _ h3)]
    exact h3⟩

/-- A row of the call's own, as a slice that is read. -/
theorem Evs.own {w : World} {base : Nat} {v : Value} {n : Nat} {es : List Evt} (h : w.ownsRow base 115 4 v n (evCells es)) (hok : ∀ x ∈ es, x.Ok w) : ∃ a cap, v = .slice a n cap ∧ Evs w a n es ∧ n ≤ cap ∧ cap ≤ 9223372036854775807 := by
  have hl : es.length = n := by have := h.1; rw [evCells_length] at this; omega
  rcases h.2 with ⟨rfl, h2⟩ | ⟨g, cap, cur, rfl, hbg, hg, hnc, hcm, hcs, htake⟩
  · subst h2
    obtain rfl : es = [] := List.eq_nil_of_length_eq_zero hl
    exact ⟨none, 0, rfl, ⟨rfl, by omega, hok, fun i x hx => by simp at hx⟩, by omega, by omega⟩
  · refine ⟨_, cap, rfl, ⟨hl, by unfold maxLen at hcm; omega, hok, fun i x hx => ⟨g, 0, rfl, fun j hj => ?_⟩⟩, hnc, by unfold maxLen at hcm; omega⟩
    have h4 : x.cells[j]? = some (x.cells[j]'(by simpa [Evt.cells] using hj)) := List.getElem?_eq_getElem _
    have h5 := evCells_at es i j x hx hj
    rw [h4] at h5 ⊢
    have h6 := h.cells (g := g) rfl (i * 4 + j) _ h5
    have e : (⟨g, 0, none⟩ : Addr).add (i * 4 + j) = ⟨g, 0 + i * 4 + j, none⟩ := by unfold Addr.add; split <;> simp_all
    rw [← e]
    exact h6

/-! ### An environment -/

/-- Block m is an environment of type t: the bytes that wait, the events. Its blocks are among F, or lie below B and are never written. -/
structure EVx (B : Nat) (t : TypeId) (w : World) (m : Nat) (F : Nat → Prop) (ins : List Int) (wa : Option Addr) (wl wc : Nat) (ev : Value) (es : List Evt) : Prop where
  head : w.heap[m]? = some (.cells #[.slice wa wl wc, ev] t (0, 0))
  waits : Rd w wa wl wc ins
  row : w.ownsRow 0 115 4 ev es.length (evCells es)
  ok : ∀ x ∈ es, x.Ok w
  fm : F m
  fg : ∀ g, ev.ownBlock = some g → F g ∧ g ≠ m
  sw : 0 < wl → ∀ x, wa = some x → (F x.block ∨ x.block < B) ∧ x.block ≠ m ∧ ev.ownBlock ≠ some x.block
  se : ∀ x ∈ es, 0 < x.len → ∀ y, x.a = some y → (F y.block ∨ y.block < B) ∧ y.block ≠ m ∧ ev.ownBlock ≠ some y.block
  flt : ∀ k, F k → k < w.heap.size

def EV (B : Nat) (t : TypeId) (m : Nat) (ins : List Int) (tr : List Says) (w : World) (F : Nat → Prop) : Prop := ∃ wa wl wc ev es, EVx B t w m F ins wa wl wc ev es ∧ es.map Evt.says = tr

theorem ownsRow_kept {w w' : World} {base : Nat} {e : TypeId} {size : Nat} {v : Value} {n : Nat} {xs : List Value} (h : w.ownsRow base e size v n xs) (hk : ∀ g, v.ownBlock = some g → w'.heap[g]? = w.heap[g]?) : w'.ownsRow base e size v n xs := by
  refine ⟨h.1, ?_⟩
  rcases h.2 with h1 | ⟨g, cap, cur, rfl, h2, h3, h4⟩
  · exact Or.inl h1
  · exact Or.inr ⟨g, cap, cur, rfl, h2, (hk g rfl).trans h3, h4⟩

theorem ownsRow_blk {w : World} {base : Nat} {e : TypeId} {size : Nat} {v : Value} {n : Nat} {xs : List Value} (h : w.ownsRow base e size v n xs) : ∀ g, v.ownBlock = some g → g < w.heap.size := by
  intro g hg
  rcases h.2 with ⟨rfl, _⟩ | ⟨g', cap, cur, rfl, h2, h3, h4⟩
  · cases hg
  · cases hg
    exact (Array.getElem?_eq_some_iff.1 h3).1

section
variable {B : Nat} {t : TypeId} {w w' : World} {m : Nat} {F G : Nat → Prop} {ins : List Int} {wa : Option Addr} {wl wc : Nat} {ev : Value} {es : List Evt} {tr : List Says}

theorem EVx.kept (h : EVx B t w m F ins wa wl wc ev es) (hk : Kept G w w') (hd : ∀ k, F k → ¬ G k) (hG : ∀ k, G k → B ≤ k) : EVx B t w' m F ins wa wl wc ev es := by
  have same : ∀ k, F k → w'.heap[k]? = w.heap[k]? := fun k hF => hk.block k (h.flt k hF) (hd k hF)
  have off : ∀ k, (F k ∨ k < B) → ¬ G k := fun k hk hg => by
    rcases hk with h1 | h1
    · exact hd k h1 hg
    · have := hG k hg; omega
  exact ⟨(same m h.fm).trans h.head, hk.rd h.waits (fun hl x hx => off _ (h.sw hl x hx).1), ownsRow_kept h.row (fun g hg => same g (h.fg g hg).1),
    fun x hx => ⟨(h.ok x hx).kind, (h.ok x hx).fd, (h.ok x hx).n, hk.rd (h.ok x hx).b (fun hl y hy => off _ (h.se x hx hl y hy).1)⟩,
    h.fm, h.fg, h.sw, h.se, fun k hF => Nat.lt_of_lt_of_le (h.flt k hF) hk.size⟩

theorem ev_stays (B : Nat) (t : TypeId) (m : Nat) (ins : List Int) (tr : List Says) : Stays B (EV B t m ins tr) :=
  ⟨fun ⟨wa, wl, wc, ev, es, h, e⟩ hk hd hG => ⟨wa, wl, wc, ev, es, h.kept hk hd hG, e⟩, fun ⟨wa, wl, wc, ev, es, h, e⟩ => h.flt⟩

theorem EVx.cell0 (h : EVx B t w m F ins wa wl wc ev es) : w.cell? ⟨m, 0, none⟩ = some (.slice wa wl wc) := by rw [cell_of_row _ _ 0 _ _ _ h.head]; rfl
theorem EVx.cell1 (h : EVx B t w m F ins wa wl wc ev es) : w.cell? ⟨m, 1, none⟩ = some ev := by rw [cell_of_row _ _ 1 _ _ _ h.head]; rfl
theorem EVx.lt (h : EVx B t w m F ins wa wl wc ev es) : m < w.heap.size := h.flt m h.fm
theorem EVx.frozen (h : EVx B t w m F ins wa wl wc ev es) (i : Nat) : w.frozen? ⟨m, i, none⟩ = false := by
  unfold World.frozen?
  simp only [h.head]
  simp

theorem setCell_head {u : Value} (h : w.heap[m]? = some (.cells #[.slice wa wl wc, ev] t (0, 0))) : (w.setCell ⟨m, 1, none⟩ u).heap[m]? = some (.cells #[.slice wa wl wc, u] t (0, 0)) := by
  unfold World.setCell
  simp [Array.getElem?_modify, h]
theorem setCell_head0 {u : Value} (h : w.heap[m]? = some (.cells #[.slice wa wl wc, ev] t (0, 0))) : (w.setCell ⟨m, 0, none⟩ u).heap[m]? = some (.cells #[u, ev] t (0, 0)) := by
  unfold World.setCell
  simp [Array.getElem?_modify, h]

end

end Go.Proofs.YtdhjjlnabbpinaaGreatDoor

/- What the document says of immediates, as plain functions of numbers, and the facts on them. Nothing of the program is named. -/
namespace Go.Proofs.YtdhjjlnabbpinaaGreatDoor
open Go.RowKit
set_option linter.unusedVariables false
set_option maxRecDepth 100000
set_option linter.unusedSimpArgs false

/-- The immediate's bits, without a sign. -/
def rawOf (form x : Int) : Int :=
  if form = 1 then fld x 20 12 0
  else if form = 2 then fld x 25 7 5 + fld x 7 5 0
  else if form = 3 then fld x 31 1 12 + fld x 7 1 11 + fld x 25 6 5 + fld x 8 4 1
  else if form = 4 then fld x 12 20 0
  else if form = 5 then fld x 31 1 20 + fld x 12 8 12 + fld x 20 1 11 + fld x 21 10 1
  else 0
def getOf (form x : Int) : Int :=
  if form = 1 then sgn 12 (rawOf 1 x)
  else if form = 2 then sgn 12 (rawOf 2 x)
  else if form = 3 then sgn 13 (rawOf 3 x)
  else if form = 4 then sgn 20 (rawOf 4 x)
  else if form = 5 then sgn 21 (rawOf 5 x)
  else 0
/-- A number's bits in an immediate's places. -/
def sprOf (form v : Int) : Int :=
  if form = 1 then fld v 0 12 20
  else if form = 2 then fld v 5 7 25 + fld v 0 5 7
  else if form = 3 then fld v 12 1 31 + fld v 11 1 7 + fld v 5 6 25 + fld v 1 4 8
  else if form = 4 then fld v 0 20 12
  else if form = 5 then fld v 20 1 31 + fld v 12 8 12 + fld v 11 1 20 + fld v 1 10 21
  else 0
/-- A word's bits that are the immediate's. -/
def mskOf (form x : Int) : Int :=
  if form = 1 then fld x 20 12 20
  else if form = 2 then fld x 25 7 25 + fld x 7 5 7
  else if form = 3 then fld x 31 1 31 + fld x 7 1 7 + fld x 25 6 25 + fld x 8 4 8
  else if form = 4 then fld x 12 20 12
  else if form = 5 then fld x 31 1 31 + fld x 12 8 12 + fld x 20 1 20 + fld x 21 10 21
  else 0
def fitsOf (form v : Int) : Bool :=
  if form = 1 then decide (-2048 ≤ v ∧ v ≤ 2047)
  else if form = 2 then decide (-2048 ≤ v ∧ v ≤ 2047)
  else if form = 3 then decide (-4096 ≤ v ∧ v ≤ 4095 ∧ v % 2 = 0)
  else if form = 4 then decide (-524288 ≤ v ∧ v ≤ 524287)
  else if form = 5 then decide (-1048576 ≤ v ∧ v ≤ 1048575 ∧ v % 2 = 0)
  else decide (v = 0)
/-- The mask of a form's places. -/
def fmOf (form : Int) : Nat :=
  if form = 1 then 4293918720 else if form = 2 then 4261416832 else if form = 3 then 4261416832 else if form = 4 then 4294963200 else if form = 5 then 4294963200 else 0
def setOf (form x v : Int) : Int := x - mskOf form x + sprOf form v
def putOf (form x v : Int) : Int := if fitsOf form v = true then setOf form x v else 0
def signOf (x b : Int) : Int := if b < 1 then 0 else sgn (min b 64).toNat x
def hiOf (v : Int) : Int := wrap64 (v + 2048) / 4096
def loOf (v : Int) : Int := signOf v 12

theorem sgn12 (x : Int) : sgn 12 x = (x + 2048) % 4096 - 2048 := rfl
theorem sgn13 (x : Int) : sgn 13 x = (x + 4096) % 8192 - 4096 := rfl
theorem sgn20 (x : Int) : sgn 20 x = (x + 524288) % 1048576 - 524288 := rfl
theorem sgn21 (x : Int) : sgn 21 x = (x + 1048576) % 2097152 - 1048576 := rfl
theorem sgn64 (x : Int) : sgn 64 x = wrap64 x := by simp [sgn, wrap64]

theorem forms (P : Int → Prop) (h1 : P 1) (h2 : P 2) (h3 : P 3) (h4 : P 4) (h5 : P 5) (h : ∀ f, f ≠ 1 → f ≠ 2 → f ≠ 3 → f ≠ 4 → f ≠ 5 → P f) (f : Int) : P f := by
  by_cases e1 : f = 1
  · rw [e1]; exact h1
  by_cases e2 : f = 2
  · rw [e2]; exact h2
  by_cases e3 : f = 3
  · rw [e3]; exact h3
  by_cases e4 : f = 4
  · rw [e4]; exact h4
  by_cases e5 : f = 5
  · rw [e5]; exact h5
  exact h f e1 e2 e3 e4 e5

theorem spr_bd (f v : Int) : 0 ≤ sprOf f v ∧ sprOf f v ≤ 4294967295 := by
  revert v
  refine forms (fun f => ∀ v, 0 ≤ sprOf f v ∧ sprOf f v ≤ 4294967295) ?_ ?_ ?_ ?_ ?_ ?_ f
  case refine_6 => intro f e1 e2 e3 e4 e5 v; simp [sprOf, e1, e2, e3, e4, e5]
  all_goals (intro v; simp [sprOf, fld]; omega)

theorem msk_bd (f x : Int) (h0 : 0 ≤ x) (h1 : x ≤ 4294967295) : 0 ≤ mskOf f x ∧ mskOf f x ≤ x := by
  revert x
  refine forms (fun f => ∀ x, 0 ≤ x → x ≤ 4294967295 → 0 ≤ mskOf f x ∧ mskOf f x ≤ x) ?_ ?_ ?_ ?_ ?_ ?_ f
  case refine_6 => intro f e1 e2 e3 e4 e5 x h0 h1; simp [mskOf, e1, e2, e3, e4, e5, h0]
  all_goals (intro x h0 h1; simp [mskOf, fld]; omega)

theorem raw_bd (f x : Int) : 0 ≤ rawOf f x ∧ rawOf f x ≤ 2097151 := by
  revert x
  refine forms (fun f => ∀ x, 0 ≤ rawOf f x ∧ rawOf f x ≤ 2097151) ?_ ?_ ?_ ?_ ?_ ?_ f
  case refine_6 => intro f e1 e2 e3 e4 e5 v; simp [rawOf, e1, e2, e3, e4, e5]
  all_goals (intro v; simp [rawOf, fld]; omega)

theorem get_bd (f x : Int) : -1048576 ≤ getOf f x ∧ getOf f x ≤ 1048575 := by
  revert x
  refine forms (fun f => ∀ x, -1048576 ≤ getOf f x ∧ getOf f x ≤ 1048575) ?_ ?_ ?_ ?_ ?_ ?_ f
  case refine_6 => intro f e1 e2 e3 e4 e5 v; simp [getOf, e1, e2, e3, e4, e5]
  all_goals (intro v; simp only [getOf, sgn12, sgn13, sgn20, sgn21]; simp; omega)

/-- Words and numbers, part by part, for the forms of branches and jumps. -/
theorem decB {x : Int} (h0 : 0 ≤ x) (h1 : x ≤ 4294967295) : ∃ a b c d e g : Int, x = 2147483648 * a + 33554432 * b + 4096 * c + 256 * d + 128 * e + g ∧ (0 ≤ a ∧ a < 2) ∧ (0 ≤ b ∧ b < 64) ∧ (0 ≤ c ∧ c < 8192) ∧ (0 ≤ d ∧ d < 16) ∧ (0 ≤ e ∧ e < 2) ∧ 0 ≤ g ∧ g < 128 :=
  ⟨x / 2147483648, x / 33554432 % 64, x / 4096 % 8192, x / 256 % 16, x / 128 % 2, x % 128, by omega, by omega, by omega, by omega, by omega, by omega, by omega, by omega⟩
theorem flB {x a b c d e g : Int} (hx : x = 2147483648 * a + 33554432 * b + 4096 * c + 256 * d + 128 * e + g) (ha : 0 ≤ a ∧ a < 2) (hb : 0 ≤ b ∧ b < 64) (hc : 0 ≤ c ∧ c < 8192) (hd : 0 ≤ d ∧ d < 16) (he : 0 ≤ e ∧ e < 2) (hg : 0 ≤ g ∧ g < 128) :
    x / 2147483648 % 2 = a ∧ x / 33554432 % 64 = b ∧ x / 256 % 16 = d ∧ x / 128 % 2 = e :=
  ⟨by omega, by omega, by omega, by omega⟩
theorem decBv (v : Int) : ∃ q a b d e z : Int, v = 8192 * q + 4096 * a + 2048 * e + 32 * b + 2 * d + z ∧ (0 ≤ a ∧ a < 2) ∧ (0 ≤ b ∧ b < 64) ∧ (0 ≤ d ∧ d < 16) ∧ (0 ≤ e ∧ e < 2) ∧ 0 ≤ z ∧ z < 2 :=
  ⟨v / 8192, v / 4096 % 2, v / 32 % 64, v / 2 % 16, v / 2048 % 2, v % 2, by omega, by omega, by omega, by omega, by omega, by omega, by omega⟩
theorem flBv {v q a b d e z : Int} (hx : v = 8192 * q + 4096 * a + 2048 * e + 32 * b + 2 * d + z) (ha : 0 ≤ a ∧ a < 2) (hb : 0 ≤ b ∧ b < 64) (hd : 0 ≤ d ∧ d < 16) (he : 0 ≤ e ∧ e < 2) (hz : 0 ≤ z ∧ z < 2) :
    v / 4096 % 2 = a ∧ v / 32 % 64 = b ∧ v / 2 % 16 = d ∧ v / 2048 % 2 = e :=
  ⟨by omega, by omega, by omega, by omega⟩
theorem decJ {x : Int} (h0 : 0 ≤ x) (h1 : x ≤ 4294967295) : ∃ a b c d g : Int, x = 2147483648 * a + 2097152 * b + 1048576 * c + 4096 * d + g ∧ (0 ≤ a ∧ a < 2) ∧ (0 ≤ b ∧ b < 1024) ∧ (0 ≤ c ∧ c < 2) ∧ (0 ≤ d ∧ d < 256) ∧ 0 ≤ g ∧ g < 4096 :=
  ⟨x / 2147483648, x / 2097152 % 1024, x / 1048576 % 2, x / 4096 % 256, x % 4096, by omega, by omega, by omega, by omega, by omega, by omega, by omega⟩
theorem flJ {x a b c d g : Int} (hx : x = 2147483648 * a + 2097152 * b + 1048576 * c + 4096 * d + g) (ha : 0 ≤ a ∧ a < 2) (hb : 0 ≤ b ∧ b < 1024) (hc : 0 ≤ c ∧ c < 2) (hd : 0 ≤ d ∧ d < 256) (hg : 0 ≤ g ∧ g < 4096) :
    x / 2147483648 % 2 = a ∧ x / 2097152 % 1024 = b ∧ x / 1048576 % 2 = c ∧ x / 4096 % 256 = d :=
  ⟨by omega, by omega, by omega, by omega⟩
theorem decJv (v : Int) : ∃ q a b c d z : Int, v = 2097152 * q + 1048576 * a + 4096 * d + 2048 * c + 2 * b + z ∧ (0 ≤ a ∧ a < 2) ∧ (0 ≤ b ∧ b < 1024) ∧ (0 ≤ c ∧ c < 2) ∧ (0 ≤ d ∧ d < 256) ∧ 0 ≤ z ∧ z < 2 :=
  ⟨v / 2097152, v / 1048576 % 2, v / 2 % 1024, v / 2048 % 2, v / 4096 % 256, v % 2, by omega, by omega, by omega, by omega, by omega, by omega, by omega⟩
theorem flJv {v q a b c d z : Int} (hx : v = 2097152 * q + 1048576 * a + 4096 * d + 2048 * c + 2 * b + z) (ha : 0 ≤ a ∧ a < 2) (hb : 0 ≤ b ∧ b < 1024) (hc : 0 ≤ c ∧ c < 2) (hd : 0 ≤ d ∧ d < 256) (hz : 0 ≤ z ∧ z < 2) :
    v / 1048576 % 2 = a ∧ v / 2 % 1024 = b ∧ v / 2048 % 2 = c ∧ v / 4096 % 256 = d :=
  ⟨by omega, by omega, by omega, by omega⟩

theorem raw3 (x : Int) : rawOf 3 x = x / 2147483648 % 2 * 4096 + x / 128 % 2 * 2048 + x / 33554432 % 64 * 32 + x / 256 % 16 * 2 := by simp [rawOf, fld]
theorem raw5 (x : Int) : rawOf 5 x = x / 2147483648 % 2 * 1048576 + x / 4096 % 256 * 4096 + x / 1048576 % 2 * 2048 + x / 2097152 % 1024 * 2 := by simp [rawOf, fld]
theorem spr3 (v : Int) : sprOf 3 v = v / 4096 % 2 * 2147483648 + v / 2048 % 2 * 128 + v / 32 % 64 * 33554432 + v / 2 % 16 * 256 := by simp [sprOf, fld]
theorem spr5 (v : Int) : sprOf 5 v = v / 1048576 % 2 * 2147483648 + v / 4096 % 256 * 4096 + v / 2048 % 2 * 1048576 + v / 2 % 1024 * 2097152 := by simp [sprOf, fld]
theorem msk3 (x : Int) : mskOf 3 x = x / 2147483648 % 2 * 2147483648 + x / 128 % 2 * 128 + x / 33554432 % 64 * 33554432 + x / 256 % 16 * 256 := by simp [mskOf, fld]
theorem msk5 (x : Int) : mskOf 5 x = x / 2147483648 % 2 * 2147483648 + x / 4096 % 256 * 4096 + x / 1048576 % 2 * 1048576 + x / 2097152 % 1024 * 2097152 := by simp [mskOf, fld]

/-- A word in which a number was set, part by part. -/
theorem set3 {x v a b c d e g q a' b' d' e' z : Int} (hx : x = 2147483648 * a + 33554432 * b + 4096 * c + 256 * d + 128 * e + g) (ha : 0 ≤ a ∧ a < 2) (hb : 0 ≤ b ∧ b < 64) (hc : 0 ≤ c ∧ c < 8192) (hd : 0 ≤ d ∧ d < 16) (he : 0 ≤ e ∧ e < 2) (hg : 0 ≤ g ∧ g < 128)
    (hv : v = 8192 * q + 4096 * a' + 2048 * e' + 32 * b' + 2 * d' + z) (ha' : 0 ≤ a' ∧ a' < 2) (hb' : 0 ≤ b' ∧ b' < 64) (hd' : 0 ≤ d' ∧ d' < 16) (he' : 0 ≤ e' ∧ e' < 2) (hz : 0 ≤ z ∧ z < 2) :
    setOf 3 x v = 2147483648 * a' + 33554432 * b' + 4096 * c + 256 * d' + 128 * e' + g := by
  obtain ⟨f1, f2, f3, f4⟩ := flB hx ha hb hc hd he hg
  obtain ⟨g1, g2, g3, g4⟩ := flBv hv ha' hb' hd' he' hz
  unfold setOf
  rw [msk3, spr3, f1, f2, f3, f4, g1, g2, g3, g4]
  omega
theorem set5 {x v a b c d g q a' b' c' d' z : Int} (hx : x = 2147483648 * a + 2097152 * b + 1048576 * c + 4096 * d + g) (ha : 0 ≤ a ∧ a < 2) (hb : 0 ≤ b ∧ b < 1024) (hc : 0 ≤ c ∧ c < 2) (hd : 0 ≤ d ∧ d < 256) (hg : 0 ≤ g ∧ g < 4096)
    (hv : v = 2097152 * q + 1048576 * a' + 4096 * d' + 2048 * c' + 2 * b' + z) (ha' : 0 ≤ a' ∧ a' < 2) (hb' : 0 ≤ b' ∧ b' < 1024) (hc' : 0 ≤ c' ∧ c' < 2) (hd' : 0 ≤ d' ∧ d' < 256) (hz : 0 ≤ z ∧ z < 2) :
    setOf 5 x v = 2147483648 * a' + 2097152 * b' + 1048576 * c' + 4096 * d' + g := by
  obtain ⟨f1, f2, f3, f4⟩ := flJ hx ha hb hc hd hg
  obtain ⟨g1, g2, g3, g4⟩ := flJv hv ha' hb' hc' hd' hz
  unfold setOf
  rw [msk5, spr5, f1, f2, f3, f4, g1, g2, g3, g4]
  omega

/-- What is put is got. -/
theorem get_set (f x v : Int) (h0 : 0 ≤ x) (h1 : x ≤ 4294967295) (h : fitsOf f v = true) : getOf f (setOf f x v) = v := by
  revert x v
  refine forms (fun f => ∀ x v, 0 ≤ x → x ≤ 4294967295 → fitsOf f v = true → getOf f (setOf f x v) = v) ?_ ?_ ?_ ?_ ?_ ?_ f
  case refine_6 => intro f e1 e2 e3 e4 e5 x v h0 h1 h; simp [fitsOf, getOf, e1, e2, e3, e4, e5] at h ⊢; omega
  case refine_3 =>
    intro x v h0 h1 h
    obtain ⟨a, b, c, d, e, g, hx, ha, hb, hc, hd, he, hg⟩ := decB h0 h1
    obtain ⟨q, a', b', d', e', z, hv, ha', hb', hd', he', hz⟩ := decBv v
    obtain ⟨f1, f2, f3, f4⟩ := flB (set3 hx ha hb hc hd he hg hv ha' hb' hd' he' hz) ha' hb' hc hd' he' hg
    have e : getOf 3 (setOf 3 x v) = sgn 13 (rawOf 3 (setOf 3 x v)) := rfl
    rw [e, raw3, f1, f2, f3, f4, sgn13]
    simp [fitsOf] at h
    clear f1 f2 f3 f4 hx e
    omega
  case refine_5 =>
    intro x v h0 h1 h
    obtain ⟨a, b, c, d, g, hx, ha, hb, hc, hd, hg⟩ := decJ h0 h1
    obtain ⟨q, a', b', c', d', z, hv, ha', hb', hc', hd', hz⟩ := decJv v
    obtain ⟨f1, f2, f3, f4⟩ := flJ (set5 hx ha hb hc hd hg hv ha' hb' hc' hd' hz) ha' hb' hc' hd' hg
    have e : getOf 5 (setOf 5 x v) = sgn 21 (rawOf 5 (setOf 5 x v)) := rfl
    rw [e, raw5, f1, f2, f3, f4, sgn21]
    simp [fitsOf] at h
    clear f1 f2 f3 f4 hx e
    omega
  all_goals (intro x v h0 h1 h; simp [fitsOf, getOf, sgn12, sgn20, rawOf, setOf, mskOf, sprOf, fld] at h ⊢; omega)

/-- What is got fits. -/
theorem fits_get (f x : Int) : fitsOf f (getOf f x) = true := by
  revert x
  refine forms (fun f => ∀ x, fitsOf f (getOf f x) = true) ?_ ?_ ?_ ?_ ?_ ?_ f
  case refine_6 => intro f e1 e2 e3 e4 e5 x; simp [fitsOf, getOf, e1, e2, e3, e4, e5]
  all_goals (intro x; simp [fitsOf, getOf, sgn12, sgn13, sgn20, sgn21, rawOf, fld]; omega)

/-- What was got, put again, changes nothing. -/
theorem set_get (f x : Int) (h0 : 0 ≤ x) (h1 : x ≤ 4294967295) : setOf f x (getOf f x) = x := by
  revert x
  refine forms (fun f => ∀ x, 0 ≤ x → x ≤ 4294967295 → setOf f x (getOf f x) = x) ?_ ?_ ?_ ?_ ?_ ?_ f
  case refine_6 => intro f e1 e2 e3 e4 e5 x h0 h1; simp [setOf, mskOf, sprOf, e1, e2, e3, e4, e5]
  case refine_3 =>
    intro x h0 h1
    obtain ⟨a, b, c, d, e, g, hx, ha, hb, hc, hd, he, hg⟩ := decB h0 h1
    obtain ⟨f1, f2, f3, f4⟩ := flB hx ha hb hc hd he hg
    have e1 : getOf 3 x = sgn 13 (rawOf 3 x) := rfl
    rw [raw3, f1, f2, f3, f4, sgn13] at e1
    rw [set3 hx ha hb hc hd he hg (v := getOf 3 x) (q := -a) (a' := a) (b' := b) (d' := d) (e' := e) (z := 0) (by clear f1 f2 f3 f4 hx; omega) ha hb hd he (by decide)]
    exact hx.symm
  case refine_5 =>
    intro x h0 h1
    obtain ⟨a, b, c, d, g, hx, ha, hb, hc, hd, hg⟩ := decJ h0 h1
    obtain ⟨f1, f2, f3, f4⟩ := flJ hx ha hb hc hd hg
    have e1 : getOf 5 x = sgn 21 (rawOf 5 x) := rfl
    rw [raw5, f1, f2, f3, f4, sgn21] at e1
    rw [set5 hx ha hb hc hd hg (v := getOf 5 x) (q := -a) (a' := a) (b' := b) (c' := c) (d' := d) (z := 0) (by clear f1 f2 f3 f4 hx; omega) ha hb hc hd (by decide)]
    exact hx.symm
  all_goals (intro x h0 h1; simp [setOf, mskOf, sprOf, getOf, sgn12, sgn20, rawOf, fld]; try omega)

/-- A number fits where it comes back from its places. -/
theorem fits_spr (f v : Int) : decide (getOf f (sprOf f v) = v) = fitsOf f v := by
  cases h : fitsOf f v with
  | true =>
    have := get_set f 0 v (by decide) (by decide) h
    have e : setOf f 0 v = sprOf f v := by
      have := msk_bd f 0 (by decide) (by decide)
      unfold setOf; omega
    rw [e] at this
    simp [this]
  | false =>
    simp only [decide_eq_false_iff_not]
    intro e
    have := fits_get f (sprOf f v)
    rw [e, h] at this
    cases this

end Go.Proofs.YtdhjjlnabbpinaaGreatDoor

/- Contracts of package imm's calls: each returns what the plain functions say. -/
namespace Go.Proofs.YtdhjjlnabbpinaaGreatDoor
open Go.RowKit
set_option linter.unusedVariables false
set_option maxRecDepth 100000

theorem field_val {x : Int} {f n t : Nat} (h0 : 0 ≤ x) (h1 : x ≤ 4294967295) (hn : n ≤ 31) (ht : n + t ≤ 32) :
    bits .and .u32 (x / 2 ^ f) ((2 ^ n - 1) % 4294967296) * 2 ^ t % 4294967296 = fld x f n t := by
  have hn0 : (0 : Int) < 2 ^ n := Int.pow_pos (by decide)
  have hf0 : (0 : Int) < 2 ^ f := Int.pow_pos (by decide)
  have hn1 : (2 : Int) ^ n ≤ 2147483648 := by
    have := Nat.pow_le_pow_right (n := 2) (by decide) hn
    rw [two_cast]; omega
  have y0 : 0 ≤ x / 2 ^ f := Int.ediv_nonneg h0 (by omega)
  have y1 : x / 2 ^ f ≤ x := Int.ediv_le_self _ h0
  rw [Int.emod_eq_of_lt (a := 2 ^ n - 1) (by omega) (by omega), bits_mask .u32 32 (by decide) wraps_u32 n (by omega) _ y0 (by omega)]
  have hb := fld_lies x f n t
  have h2 := hb.1
  have h3 := hb.le
  have h4 : (2 ^ n - 1) * 2 ^ t < 2 ^ 32 := by
    have e : 2 ^ n * 2 ^ t ≤ 2 ^ 32 := by rw [← Nat.pow_add]; exact Nat.pow_le_pow_right (by decide) ht
    have := Nat.two_pow_pos t
    rw [Nat.sub_mul, Nat.one_mul]; omega
  unfold fld at *
  omega

theorem field_any (x : Int) (f n t : Nat) (w : World) (h0 : 0 ≤ x) (h1 : x ≤ 4294967295) (hf : f ≤ 31) (hn : n ≤ 31) (ht : n + t ≤ 32) (ht' : t ≤ 31) :
    Calls Tryz.prog 125 #[.int .u32 x, .int .u64 f, .int .u64 n, .int .u64 t] w fun e w' => e = .returned (.int .u32 (fld x f n t)) ∧ w' = w := by
  have H := hide (field_val (f := f) h0 h1 hn ht)
  go_enter Tryz.func125, Tryz.ntmps125
  go_wp2
  go_ret
  exact ⟨by rw [← H.out]; rfl, rfl⟩

theorem sign_any (x b : Int) (w : World) (h0 : 0 ≤ x) (h1 : x ≤ 18446744073709551615) (b0 : -9223372036854775808 ≤ b) (b1 : b ≤ 9223372036854775807) :
    Calls Tryz.prog 132 #[.int .u64 x, .int .i64 b] w fun e w' => e = .returned (.int .i64 (signOf x b)) ∧ w' = w := by
  by_cases hb : b < 1
  · go_enter Tryz.func132, Tryz.ntmps132
    go_wp2
    go_ret
    exact ⟨by unfold signOf; rw [if_pos hb]; rfl, rfl⟩
  · by_cases hc : b ≤ 64
    · have H := hide (sgn_shift (k := b.toNat) (u := (64 - b).toNat) (by omega) (by omega) x)
      go_enter Tryz.func132, Tryz.ntmps132
      go_wp2
      go_ret
      exact ⟨by unfold signOf; rw [if_neg (by omega), show (min b 64).toNat = b.toNat by omega, ← H.out]; rfl, rfl⟩
    · go_enter Tryz.func132, Tryz.ntmps132
      go_wp2
      go_ret
      exact ⟨by unfold signOf; rw [if_neg (by omega), show (min b 64).toNat = 64 by omega, sgn64]; rfl, rfl⟩

theorem sgn_of {x : Int} {b : Nat} (h0 : 1 ≤ b) (h1 : b ≤ 64) : signOf x b = sgn b x := by
  unfold signOf; rw [if_neg (by omega), show (min (b : Int) 64).toNat = b by omega]

theorem signed_any (x : Int) (b : Nat) (w : World) (h0 : 0 ≤ x) (h1 : x ≤ 4294967295) (b0 : 1 ≤ b) (b1 : b ≤ 32) :
    Calls Tryz.prog 124 #[.int .u32 x, .int .i64 b] w fun e w' => e = .returned (.int .i64 (sgn b x)) ∧ w' = w := by
  have hc := sign_any x b w h0 (by omega) (by omega) (by omega)
  rw [sgn_of b0 (by omega)] at hc
  go_enter Tryz.func124, Tryz.ntmps124
  go_wp2_with (go_at_call 132; refine hc.mono ?_; rintro e w' ⟨rfl, rfl⟩)
  go_ret
  exact ⟨rfl, rfl⟩

theorem get1 (x : Int) (w : World) (h0 : 0 ≤ x) (h1 : x ≤ 4294967295) :
    Calls Tryz.prog 108 #[.int .i64 1, .int .u32 x] w fun e w' => e = .returned (.int .i64 (getOf 1 x)) ∧ w' = w := by
  have l0 : Lies (fld x 20 12 0) 4095 := fld_lies x 20 12 0
  have hb0 := l0.1
  have hb1 := l0.le
  clear l0
  have E : Hid (getOf 1 x = sgn 12 (fld x 20 12 0)) := rfl
  have cs := hide (fun W : World => signed_any (fld x 20 12 0) 12 W hb0 (by omega) (by decide) (by decide))
  have cf := hide (fun (f n t : Nat) (hf : f ≤ 31) (hn : n ≤ 31) (ht : n + t ≤ 32) (ht' : t ≤ 31) (W : World) => field_any x f n t W h0 h1 hf hn ht ht')
  go_enter Tryz.func108, Tryz.ntmps108
  go_wp2_with fail
  refine (cf.out 20 12 0 (by decide) (by decide) (by decide) (by decide) _).mono ?_
  rintro e W ⟨rfl, hW⟩
  rw [hW]
  clear hW W
  go_wp2_with fail
  refine (cs.out _).mono ?_
  rintro e W ⟨rfl, hW⟩
  rw [hW]
  clear hW W
  go_wp2
  go_ret
  exact ⟨by rw [E.out]; rfl, rfl⟩



theorem get2 (x : Int) (w : World) (h0 : 0 ≤ x) (h1 : x ≤ 4294967295) :
    Calls Tryz.prog 108 #[.int .i64 2, .int .u32 x] w fun e w' => e = .returned (.int .i64 (getOf 2 x)) ∧ w' = w := by
  have l0 : Lies (fld x 25 7 5) 4064 := fld_lies x 25 7 5
  have k1 : Lies (fld x 7 5 0) 31 := fld_lies x 7 5 0
  have q1 := hide (l0.or k1 (by decide) (by decide) (by decide))
  have l1 : Lies ((fld x 25 7 5) + fld x 7 5 0) 4095 := l0.add k1 (by decide)
  have hb0 := l1.1
  have hb1 := l1.le
  clear l0 k1
  clear l1
  have E : Hid (getOf 2 x = sgn 12 (fld x 25 7 5 + fld x 7 5 0)) := rfl
  have cs := hide (fun W : World => signed_any (fld x 25 7 5 + fld x 7 5 0) 12 W hb0 (by omega) (by decide) (by decide))
  have cf := hide (fun (f n t : Nat) (hf : f ≤ 31) (hn : n ≤ 31) (ht : n + t ≤ 32) (ht' : t ≤ 31) (W : World) => field_any x f n t W h0 h1 hf hn ht ht')
  go_enter Tryz.func108, Tryz.ntmps108
  go_wp2_with fail
  refine (cf.out 25 7 5 (by decide) (by decide) (by decide) (by decide) _).mono ?_
  rintro e W ⟨rfl, hW⟩
  rw [hW]
  clear hW W
  go_wp2_with fail
  refine (cf.out 7 5 0 (by decide) (by decide) (by decide) (by decide) _).mono ?_
  rintro e W ⟨rfl, hW⟩
  rw [hW]
  clear hW W
  go_wp2_with fail
  rw [q1.out]
  refine (cs.out _).mono ?_
  rintro e W ⟨rfl, hW⟩
  rw [hW]
  clear hW W
  go_wp2
  go_ret
  exact ⟨by rw [E.out]; rfl, rfl⟩



theorem get3 (x : Int) (w : World) (h0 : 0 ≤ x) (h1 : x ≤ 4294967295) :
    Calls Tryz.prog 108 #[.int .i64 3, .int .u32 x] w fun e w' => e = .returned (.int .i64 (getOf 3 x)) ∧ w' = w := by
  have l0 : Lies (fld x 31 1 12) 4096 := fld_lies x 31 1 12
  have k1 : Lies (fld x 7 1 11) 2048 := fld_lies x 7 1 11
  have q1 := hide (l0.or k1 (by decide) (by decide) (by decide))
  have l1 : Lies ((fld x 31 1 12) + fld x 7 1 11) 6144 := l0.add k1 (by decide)
  have k2 : Lies (fld x 25 6 5) 2016 := fld_lies x 25 6 5
  have q2 := hide (l1.or k2 (by decide) (by decide) (by decide))
  have l2 : Lies (((fld x 31 1 12) + fld x 7 1 11) + fld x 25 6 5) 8160 := l1.add k2 (by decide)
  have k3 : Lies (fld x 8 4 1) 30 := fld_lies x 8 4 1
  have q3 := hide (l2.or k3 (by decide) (by decide) (by decide))
  have l3 : Lies ((((fld x 31 1 12) + fld x 7 1 11) + fld x 25 6 5) + fld x 8 4 1) 8190 := l2.add k3 (by decide)
  have hb0 := l3.1
  have hb1 := l3.le
  clear l0 k1
  clear l1 k2
  clear l2 k3
  clear l3
  have E : Hid (getOf 3 x = sgn 13 (fld x 31 1 12 + fld x 7 1 11 + fld x 25 6 5 + fld x 8 4 1)) := rfl
  have cs := hide (fun W : World => signed_any (fld x 31 1 12 + fld x 7 1 11 + fld x 25 6 5 + fld x 8 4 1) 13 W hb0 (by omega) (by decide) (by decide))
  have cf := hide (fun (f n t : Nat) (hf : f ≤ 31) (hn : n ≤ 31) (ht : n + t ≤ 32) (ht' : t ≤ 31) (W : World) => field_any x f n t W h0 h1 hf hn ht ht')
  go_enter Tryz.func108, Tryz.ntmps108
  go_wp2_with fail
  refine (cf.out 31 1 12 (by decide) (by decide) (by decide) (by decide) _).mono ?_
  rintro e W ⟨rfl, hW⟩
  rw [hW]
  clear hW W
  go_wp2_with fail
  refine (cf.out 7 1 11 (by decide) (by decide) (by decide) (by decide) _).mono ?_
  rintro e W ⟨rfl, hW⟩
  rw [hW]
  clear hW W
  go_wp2_with fail
  refine (cf.out 25 6 5 (by decide) (by decide) (by decide) (by decide) _).mono ?_
  rintro e W ⟨rfl, hW⟩
  rw [hW]
  clear hW W
  go_wp2_with fail
  refine (cf.out 8 4 1 (by decide) (by decide) (by decide) (by decide) _).mono ?_
  rintro e W ⟨rfl, hW⟩
  rw [hW]
  clear hW W
  go_wp2_with fail
  rw [q1.out]
  rw [q2.out]
  rw [q3.out]
  refine (cs.out _).mono ?_
  rintro e W ⟨rfl, hW⟩
  rw [hW]
  clear hW W
  go_wp2
  go_ret
  exact ⟨by rw [E.out]; rfl, rfl⟩



theorem get4 (x : Int) (w : World) (h0 : 0 ≤ x) (h1 : x ≤ 4294967295) :
    Calls Tryz.prog 108 #[.int .i64 4, .int .u32 x] w fun e w' => e = .returned (.int .i64 (getOf 4 x)) ∧ w' = w := by
  have l0 : Lies (fld x 12 20 0) 1048575 := fld_lies x 12 20 0
  have hb0 := l0.1
  have hb1 := l0.le
  clear l0
  have E : Hid (getOf 4 x = sgn 20 (fld x 12 20 0)) := rfl
  have cs := hide (fun W : World => signed_any (fld x 12 20 0) 20 W hb0 (by omega) (by decide) (by decide))
  have cf := hide (fun (f n t : Nat) (hf : f ≤ 31) (hn : n ≤ 31) (ht : n + t ≤ 32) (ht' : t ≤ 31) (W : World) => field_any x f n t W h0 h1 hf hn ht ht')
  go_enter Tryz.func108, Tryz.ntmps108
  go_wp2_with fail
  refine (cf.out 12 20 0 (by decide) (by decide) (by decide) (by decide) _).mono ?_
  rintro e W ⟨rfl, hW⟩
  rw [hW]
  clear hW W
  go_wp2_with fail
  refine (cs.out _).mono ?_
  rintro e W ⟨rfl, hW⟩
  rw [hW]
  clear hW W
  go_wp2
  go_ret
  exact ⟨by rw [E.out]; rfl, rfl⟩



theorem get5 (x : Int) (w : World) (h0 : 0 ≤ x) (h1 : x ≤ 4294967295) :
    Calls Tryz.prog 108 #[.int .i64 5, .int .u32 x] w fun e w' => e = .returned (.int .i64 (getOf 5 x)) ∧ w' = w := by
  have l0 : Lies (fld x 31 1 20) 1048576 := fld_lies x 31 1 20
  have k1 : Lies (fld x 12 8 12) 1044480 := fld_lies x 12 8 12
  have q1 := hide (l0.or k1 (by decide) (by decide) (by decide))
  have l1 : Lies ((fld x 31 1 20) + fld x 12 8 12) 2093056 := l0.add k1 (by decide)
  have k2 : Lies (fld x 20 1 11) 2048 := fld_lies x 20 1 11
  have q2 := hide (l1.or k2 (by decide) (by decide) (by decide))
  have l2 : Lies (((fld x 31 1 20) + fld x 12 8 12) + fld x 20 1 11) 2095104 := l1.add k2 (by decide)
  have k3 : Lies (fld x 21 10 1) 2046 := fld_lies x 21 10 1
  have q3 := hide (l2.or k3 (by decide) (by decide) (by decide))
  have l3 : Lies ((((fld x 31 1 20) + fld x 12 8 12) + fld x 20 1 11) + fld x 21 10 1) 2097150 := l2.add k3 (by decide)
  have hb0 := l3.1
  have hb1 := l3.le
  clear l0 k1
  clear l1 k2
  clear l2 k3
  clear l3
  have E : Hid (getOf 5 x = sgn 21 (fld x 31 1 20 + fld x 12 8 12 + fld x 20 1 11 + fld x 21 10 1)) := rfl
  have cs := hide (fun W : World => signed_any (fld x 31 1 20 + fld x 12 8 12 + fld x 20 1 11 + fld x 21 10 1) 21 W hb0 (by omega) (by decide) (by decide))
  have cf := hide (fun (f n t : Nat) (hf : f ≤ 31) (hn : n ≤ 31) (ht : n + t ≤ 32) (ht' : t ≤ 31) (W : World) => field_any x f n t W h0 h1 hf hn ht ht')
  go_enter Tryz.func108, Tryz.ntmps108
  go_wp2_with fail
  refine (cf.out 31 1 20 (by decide) (by decide) (by decide) (by decide) _).mono ?_
  rintro e W ⟨rfl, hW⟩
  rw [hW]
  clear hW W
  go_wp2_with fail
  refine (cf.out 12 8 12 (by decide) (by decide) (by decide) (by decide) _).mono ?_
  rintro e W ⟨rfl, hW⟩
  rw [hW]
  clear hW W
  go_wp2_with fail
  refine (cf.out 20 1 11 (by decide) (by decide) (by decide) (by decide) _).mono ?_
  rintro e W ⟨rfl, hW⟩
  rw [hW]
  clear hW W
  go_wp2_with fail
  refine (cf.out 21 10 1 (by decide) (by decide) (by decide) (by decide) _).mono ?_
  rintro e W ⟨rfl, hW⟩
  rw [hW]
  clear hW W
  go_wp2_with fail
  rw [q1.out]
  rw [q2.out]
  rw [q3.out]
  refine (cs.out _).mono ?_
  rintro e W ⟨rfl, hW⟩
  rw [hW]
  clear hW W
  go_wp2
  go_ret
  exact ⟨by rw [E.out]; rfl, rfl⟩



theorem get_any (f x : Int) (w : World) (h0 : 0 ≤ x) (h1 : x ≤ 4294967295) :
    Calls Tryz.prog 108 #[.int .i64 f, .int .u32 x] w fun e w' => e = .returned (.int .i64 (getOf f x)) ∧ w' = w := by
  refine forms (fun f => Calls Tryz.prog 108 #[.int .i64 f, .int .u32 x] w fun e w' => e = .returned (.int .i64 (getOf f x)) ∧ w' = w) (get1 x w h0 h1) (get2 x w h0 h1) (get3 x w h0 h1) (get4 x w h0 h1) (get5 x w h0 h1) ?_ f
  intro f e1 e2 e3 e4 e5
  have E := hide (show getOf f x = 0 by simp [getOf, e1, e2, e3, e4, e5])
  go_enter Tryz.func108, Tryz.ntmps108
  go_wp2
  go_ret
  exact ⟨by rw [E.out]; rfl, rfl⟩



end Go.Proofs.YtdhjjlnabbpinaaGreatDoor

/- Contracts of imm.Fits, Put, Hi, Lo, over those of Get and spread. -/
namespace Go.Proofs.YtdhjjlnabbpinaaGreatDoor
open Go.RowKit
set_option linter.unusedVariables false
set_option maxRecDepth 100000
set_option linter.unusedSimpArgs false

theorem fm_le (f : Int) : fmOf f ≤ 4294967295 := by unfold fmOf; split <;> (try split) <;> (try split) <;> (try split) <;> (try split) <;> omega

theorem spr_ones (f : Int) : sprOf f 4294967295 = fmOf f := by
  refine forms (fun f => sprOf f 4294967295 = fmOf f) rfl rfl rfl rfl rfl ?_ f
  intro f e1 e2 e3 e4 e5
  simp [sprOf, fmOf, e1, e2, e3, e4, e5]

theorem spr_mod (f v : Int) : sprOf f (v % 4294967296) = sprOf f v := by
  refine forms (fun f => sprOf f (v % 4294967296) = sprOf f v) ?_ ?_ ?_ ?_ ?_ ?_ f
  case refine_6 => intro f e1 e2 e3 e4 e5; simp [sprOf, e1, e2, e3, e4, e5]
  case refine_1 =>
    have a1 : v % 4294967296 % 4096 = v % 4096 := by omega
    simp [sprOf, fld, a1]
  case refine_2 =>
    have a1 : v % 4294967296 / 32 % 128 = v / 32 % 128 := by omega
    have a2 : v % 4294967296 % 32 = v % 32 := by omega
    simp [sprOf, fld, a1, a2]
  case refine_3 =>
    have a1 : v % 4294967296 / 4096 % 2 = v / 4096 % 2 := by omega
    have a2 : v % 4294967296 / 2048 % 2 = v / 2048 % 2 := by omega
    have a3 : v % 4294967296 / 32 % 64 = v / 32 % 64 := by omega
    have a4 : v % 4294967296 / 2 % 16 = v / 2 % 16 := by omega
    simp [sprOf, fld, a1, a2, a3, a4]
  case refine_4 =>
    have a1 : v % 4294967296 % 1048576 = v % 1048576 := by omega
    simp [sprOf, fld, a1]
  case refine_5 =>
    have a1 : v % 4294967296 / 1048576 % 2 = v / 1048576 % 2 := by omega
    have a2 : v % 4294967296 / 4096 % 256 = v / 4096 % 256 := by omega
    have a3 : v % 4294967296 / 2048 % 2 = v / 2048 % 2 := by omega
    have a4 : v % 4294967296 / 2 % 1024 = v / 2 % 1024 := by omega
    simp [sprOf, fld, a1, a2, a3, a4]

theorem spr_lies (f v : Int) : Lies (sprOf f v) (fmOf f) := by
  refine forms (fun f => Lies (sprOf f v) (fmOf f)) ?_ ?_ ?_ ?_ ?_ ?_ f
  case refine_6 => intro f e1 e2 e3 e4 e5; simp [sprOf, fmOf, Lies, e1, e2, e3, e4, e5]
  case refine_1 => exact fld_lies v 0 12 20
  case refine_2 => exact (fld_lies v 5 7 25).add (fld_lies v 0 5 7) (by decide)
  case refine_3 => exact (((fld_lies v 12 1 31).add (fld_lies v 11 1 7) (by decide)).add (fld_lies v 5 6 25) (by decide)).add (fld_lies v 1 4 8) (by decide)
  case refine_4 => exact fld_lies v 0 20 12
  case refine_5 => exact (((fld_lies v 20 1 31).add (fld_lies v 12 8 12) (by decide)).add (fld_lies v 11 1 20) (by decide)).add (fld_lies v 1 10 21) (by decide)

/-- The parts that a mask of several fields takes. -/
theorem take_one (x : Nat) (n t : Nat) : ((x &&& ((2 ^ n - 1) * 2 ^ t) : Nat) : Int) = fld x t n t := by
  rw [and_field, fld_nat]
theorem take_two (x m1 m2 : Nat) (h : m1 &&& m2 = 0) : ((x &&& (m1 ||| m2) : Nat) : Int) = ((x &&& m1 : Nat) : Int) + ((x &&& m2 : Nat) : Int) := by
  rw [Nat.and_or_distrib_left, or_of_and]
  · simp
  · rw [Nat.and_comm x m1, Nat.and_assoc, ← Nat.and_assoc x, Nat.and_self, Nat.and_comm x m2, ← Nat.and_assoc, h, Nat.zero_and]

theorem msk_take (f : Int) (x : Nat) : ((x &&& fmOf f : Nat) : Int) = mskOf f x := by
  refine forms (fun f => ((x &&& fmOf f : Nat) : Int) = mskOf f x) ?_ ?_ ?_ ?_ ?_ ?_ f
  case refine_6 => intro f e1 e2 e3 e4 e5; simp [mskOf, fmOf, e1, e2, e3, e4, e5]
  case refine_1 => exact take_one x 12 20
  case refine_2 =>
    have e : fmOf 2 = ((2 ^ 7 - 1) * 2 ^ 25) ||| ((2 ^ 5 - 1) * 2 ^ 7) := by decide
    rw [e, take_two _ _ _ (by decide), take_one, take_one]; rfl
  case refine_3 =>
    have e : fmOf 3 = ((((2 ^ 1 - 1) * 2 ^ 31) ||| ((2 ^ 1 - 1) * 2 ^ 7)) ||| ((2 ^ 6 - 1) * 2 ^ 25)) ||| ((2 ^ 4 - 1) * 2 ^ 8) := by decide
    rw [e, take_two _ _ _ (by decide), take_two _ _ _ (by decide), take_two _ _ _ (by decide), take_one, take_one, take_one, take_one]; rfl
  case refine_4 => exact take_one x 20 12
  case refine_5 =>
    have e : fmOf 5 = ((((2 ^ 1 - 1) * 2 ^ 31) ||| ((2 ^ 8 - 1) * 2 ^ 12)) ||| ((2 ^ 1 - 1) * 2 ^ 20)) ||| ((2 ^ 10 - 1) * 2 ^ 21) := by decide
    rw [e, take_two _ _ _ (by decide), take_two _ _ _ (by decide), take_two _ _ _ (by decide), take_one, take_one, take_one, take_one]; rfl

theorem fm_apart (f : Int) : (4294967295 - fmOf f) &&& fmOf f = 0 := by
  refine forms (fun f => (4294967295 - fmOf f) &&& fmOf f = 0) (by decide) (by decide) (by decide) (by decide) (by decide) ?_ f
  intro f e1 e2 e3 e4 e5
  simp [fmOf, e1, e2, e3, e4, e5]

theorem left_val (f x : Int) (h0 : 0 ≤ x) (h1 : x ≤ 4294967295) : bits .andNot .u32 x (fmOf f) = x - mskOf f x := by
  rw [not_and x (fmOf f) h0 h1 (fm_le f), msk_take f x.toNat, Int.toNat_of_nonneg h0]

theorem set_val (f x v : Int) (h0 : 0 ≤ x) (h1 : x ≤ 4294967295) : bits .or .u32 (bits .andNot .u32 x (fmOf f)) (sprOf f v) = setOf f x v := by
  have hl := fm_le f
  have hn := not_lies x (fmOf f) hl
  rw [hn.or (spr_lies f v) (fm_apart f) (by omega) (by omega), left_val f x h0 h1]
  rfl

theorem set_bd (f x v : Int) (h0 : 0 ≤ x) (h1 : x ≤ 4294967295) : 0 ≤ setOf f x v ∧ setOf f x v ≤ 4294967295 := by
  rw [← set_val f x v h0 h1]
  exact bits_bd ..
theorem put_bd (f x v : Int) (h0 : 0 ≤ x) (h1 : x ≤ 4294967295) : 0 ≤ putOf f x v ∧ putOf f x v ≤ 4294967295 := by
  have := set_bd f x v h0 h1
  unfold putOf; split <;> omega







theorem sign_mod (v : Int) : signOf (v % 18446744073709551616) 12 = loOf v := by
  have e : ∀ x, signOf x 12 = sgn 12 x := fun x => rfl
  unfold loOf
  rw [e, e, sgn12, sgn12]; omega



end Go.Proofs.YtdhjjlnabbpinaaGreatDoor

/- Plain facts on the words of instructions: the tables of the program, what the layer's calls say in numbers. Nothing is walked here. -/
namespace Go.Proofs.YtdhjjlnabbpinaaGreatDoor
open Go.RowKit
set_option linter.unusedVariables false
set_option maxRecDepth 100000

def wordsL : List Int := [0, 55, 23, 111, 103, 99, 4195, 16483, 20579, 24675, 28771, 3, 4099, 8195, 12291, 16387, 20483, 24579, 35, 4131, 8227, 12323, 19, 8211, 12307, 16403, 24595, 28691, 4115, 20499, 1073762323, 51, 1073741875, 4147, 8243, 12339, 16435, 20531, 1073762355, 24627, 28723, 27, 4123, 20507, 1073762331, 59, 1073741883, 4155, 20539, 1073762363, 33554483, 33558579, 33562675, 33566771, 33570867, 33574963, 33579059, 33583155, 33554491, 33570875, 33574971, 33579067, 33583163, 15, 115, 1048691]
def namesL : List (List UInt8) := [[], [108, 117, 105], [97, 117, 105, 112, 99], [106, 97, 108], [106, 97, 108, 114], [98, 101, 113], [98, 110, 101], [98, 108, 116], [98, 103, 101], [98, 108, 116, 117], [98, 103, 101, 117], [108, 98], [108, 104], [108, 119], [108, 100], [108, 98, 117], [108, 104, 117], [108, 119, 117], [115, 98], [115, 104], [115, 119], [115, 100], [97, 100, 100, 105], [115, 108, 116, 105], [115, 108, 116, 105, 117], [120, 111, 114, 105], [111, 114, 105], [97, 110, 100, 105], [115, 108, 108, 105], [115, 114, 108, 105], [115, 114, 97, 105], [97, 100, 100], [115, 117, 98], [115, 108, 108], [115, 108, 116], [115, 108, 116, 117], [120, 111, 114], [115, 114, 108], [115, 114, 97], [111, 114], [97, 110, 100], [97, 100, 100, 105, 119], [115, 108, 108, 105, 119], [115, 114, 108, 105, 119], [115, 114, 97, 105, 119], [97, 100, 100, 119], [115, 117, 98, 119], [115, 108, 108, 119], [115, 114, 108, 119], [115, 114, 97, 119], [109, 117, 108], [109, 117, 108, 104], [109, 117, 108, 104, 115, 117], [109, 117, 108, 104, 117], [100, 105, 118], [100, 105, 118, 117], [114, 101, 109], [114, 101, 109, 117], [109, 117, 108, 119], [100, 105, 118, 119], [100, 105, 118, 117, 119], [114, 101, 109, 119], [114, 101, 109, 117, 119], [102, 101, 110, 99, 101], [101, 99, 97, 108, 108], [101, 98, 114, 101, 97, 107]]

/-- The word, the name in the tables at a place. -/
def wd (k : Nat) : Int := wordsL.getD k 0
def nm (k : Nat) : ByteArray := ⟨(namesL.getD k []).toArray⟩

/-- A word's opcode, its funct3. -/
def cd (x : Int) : Int := x / 2 ^ 0 % 2 ^ 7
def f3 (x : Int) : Int := x / 2 ^ 12 % 2 ^ 3
theorem cd_is (x : Int) : cd x = x % 128 := by unfold cd; simp
theorem f3_is (x : Int) : f3 x = x / 4096 % 8 := by unfold f3; simp

/-- The form of an opcode. -/
def fmc (c : Int) : Int :=
  if c = 51 ∨ c = 59 then 0 else if c = 103 ∨ c = 3 ∨ c = 19 ∨ c = 27 then 1 else if c = 35 then 2 else if c = 99 then 3 else if c = 55 ∨ c = 23 then 4 else if c = 111 then 5 else 6
/-- How many bits say how far. -/
def shb (x : Int) : Int :=
  if f3 x ≠ 1 ∧ f3 x ≠ 5 then 0 else if cd x = 19 then 6 else if cd x = 27 then 5 else 0
def upp (x : Int) : Int :=
  if shb x = 6 then x / 67108864 else if shb x = 5 then x / 33554432 else if fmc (cd x) = 0 then x / 33554432 else 0
def ke2 (x : Int) : Int := if cd x = 55 ∨ cd x = 23 ∨ cd x = 111 ∨ cd x = 115 then 0 else f3 x
def ke3 (x : Int) : Int := if cd x = 55 ∨ cd x = 23 ∨ cd x = 111 then 0 else if cd x = 115 then x / 128 else upp x

/-- The word is one of the operation's. -/
def Mt (k : Nat) (x : Int) : Prop := cd (wd k) = cd x ∧ ke2 (wd k) = ke2 x ∧ ke3 (wd k) = ke3 x
instance (k : Nat) (x : Int) : Decidable (Mt k x) := by unfold Mt; infer_instance

def knw (op : Int) : Bool := decide (0 < op) && decide (op < 66)
def fmo (op : Int) : Int := if knw op = true then fmc (cd (wd op.toNat)) else 6
def nmo (op : Int) : ByteArray := if knw op = true then nm op.toNat else ⟨#[]⟩
def hasD (f : Int) : Bool := decide (f = 0 ∨ f = 1 ∨ f = 4 ∨ f = 5)
def has1 (f : Int) : Bool := decide (f = 0 ∨ f = 1 ∨ f = 2 ∨ f = 3)
def has2 (f : Int) : Bool := decide (f = 0 ∨ f = 2 ∨ f = 3)
def isr (r : Int) : Bool := decide (0 ≤ r) && decide (r < 32)

theorem cd_bd (x : Int) : 0 ≤ cd x ∧ cd x ≤ 127 := by rw [cd_is]; omega
theorem f3_bd (x : Int) : 0 ≤ f3 x ∧ f3 x ≤ 7 := by rw [f3_is]; omega
theorem shb_cases (x : Int) : shb x = 0 ∨ shb x = 5 ∨ shb x = 6 := by unfold shb; split <;> (try split) <;> (try split) <;> simp
theorem upp_bd {x : Int} (h0 : 0 ≤ x) (h1 : x ≤ 4294967295) : 0 ≤ upp x ∧ upp x ≤ 127 := by unfold upp; split <;> (try split) <;> (try split) <;> omega
theorem ke2_bd (x : Int) : 0 ≤ ke2 x ∧ ke2 x ≤ 7 := by
  have := f3_bd x
  unfold ke2; split <;> omega
theorem ke3_bd {x : Int} (h0 : 0 ≤ x) (h1 : x ≤ 4294967295) : 0 ≤ ke3 x ∧ ke3 x ≤ 33554431 := by
  have := upp_bd h0 h1
  unfold ke3; split <;> (try split) <;> omega
theorem fmc_bd (c : Int) : 0 ≤ fmc c ∧ fmc c ≤ 6 := by unfold fmc; repeat' split
                                                       all_goals omega
theorem wd_all : ∀ k, k < 66 → 0 ≤ wd k ∧ wd k ≤ 4294967295 := by decide +kernel
theorem wd_bd (k : Nat) : 0 ≤ wd k ∧ wd k ≤ 4294967295 := by
  by_cases h : k < 66
  · exact wd_all k h
  · have : wd k = 0 := by
      have hl : wordsL.length = 66 := by decide
      unfold wd
      rw [List.getD_eq_getElem?_getD, List.getElem?_eq_none (by omega)]
      rfl
    omega

end Go.Proofs.YtdhjjlnabbpinaaGreatDoor
