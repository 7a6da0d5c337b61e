/- Texts of this claim, joined: Nums, Flds, AluPlain, Plain, Read, Make, MemMap. -/
import Derived.Test.YtgjfelkbblbjfaaGreatDoorRows
import Derived.WalkKit
import Derived.OpenShut
import Derived.Laws.BitsLemmas
import Derived.Lib.EndianBits
import Derived.RowKit
import Derived.Laws.CopyOwn
import Derived.Laws.AppendOwnNone
import Derived.Maps.OwnSet
/- Slices of numbers that are read, whatever the program is: what they hold, how they last over a call, what a slice that came in is to the contracts. -/
namespace Go.Proofs.YtgjfelkbblbjfaaGreatDoor
open Go.RowKit
set_option linter.unusedVariables false
set_option maxRecDepth 100000

theorem hide {p : Prop} (h : p) : Hid p := h
theorem ret_bool {a b : Bool} (h : a = b) : Ending.returned (.bool a) = .returned (.bool b) := by rw [h]
theorem ret_int {k : IntKind} {a b : Int} (h : a = b) : Ending.returned (.int k a) = .returned (.int k b) := by rw [h]
theorem ret_num {k : IntKind} {a b : Int} {c : Bool} (h : a = b) : Ending.returned (.tuple #[.int k a, .bool c]) = .returned (.tuple #[.int k b, .bool c]) := by rw [h]

theorem take_snoc (l : List Int) (k : Nat) (h : k < l.length) : l.take (k + 1) = l.take k ++ [l[k]?.getD 0] := by
  rw [List.take_succ_eq_append_getElem h]; simp [h]

/-- A slice of numbers of a kind that is read. -/
structure Rn (k : IntKind) (top : Int) (w : World) (a : Option Addr) (len cap : Nat) (xs : List Int) : Prop where
  length : xs.length = len
  le : len ≤ cap
  max : cap ≤ 9223372036854775807
  fit : ∀ x ∈ xs, 0 ≤ x ∧ x ≤ top
  top0 : 0 ≤ top
  nil : a = none → cap = 0
  cell : ∀ x, a = some x → ∀ i, i < len → w.cell? (x.add i) = some (.int k (xs.getD i 0))

theorem Rn.addr {k : IntKind} {top : Int} {w : World} {a : Option Addr} {len cap : Nat} {bs : List Int} (r : Rn k top w a len cap bs) (h : 0 < len) :
    ∃ b o, a = some ⟨b, o, none⟩ ∧ ∀ i, i < len → w.cell? ⟨b, o + i, none⟩ = some (.int k (bs.getD i 0)) := by
  cases a with
  | none => have h1 := r.nil rfl; have h2 := r.le; omega
  | some x =>
    obtain ⟨b, o, spot⟩ := x
    have hs : spot = none := by simpa [Addr.add] using World.cell?_spot (r.cell _ rfl 0 h)
    subst hs
    exact ⟨b, o, rfl, fun i hi => by have := r.cell _ rfl i hi; rwa [show (⟨b, o, none⟩ : Addr).add i = ⟨b, o + i, none⟩ by unfold Addr.add; split <;> simp_all] at this⟩

theorem Rn.below {k : IntKind} {top : Int} {w w' : World} {a : Option Addr} {len cap : Nat} {bs : List Int} (r : Rn k top w a len cap bs) (hb : Below w.heap.size w w') : Rn k top w' a len cap bs :=
  ⟨r.length, r.le, r.max, r.fit, r.top0, r.nil, fun x hx i hi => by
    have h1 := r.cell x hx i hi
    rw [hb.cell (World.block_lt_of_cell? w _ h1)]; exact h1⟩

theorem Rn.at {k : IntKind} {top : Int} {w : World} {a : Option Addr} {len cap : Nat} {xs : List Int} (r : Rn k top w a len cap xs) (j : Nat) : 0 ≤ xs[j]?.getD 0 ∧ xs[j]?.getD 0 ≤ top := by
  by_cases hk : j < xs.length
  · simpa [hk] using r.fit _ (List.getElem_mem hk)
  · simpa [List.getElem?_eq_none (Nat.le_of_not_lt hk)] using r.top0

theorem Rn.lit (k : IntKind) (top : Int) (t : TypeId) (w : World) (xs : List Int) (hf : ∀ x ∈ xs, 0 ≤ x ∧ x ≤ top) (h0 : 0 ≤ top) (hl : xs.length ≤ 9223372036854775807) :
    Rn k top (w.alloc (.cells (xs.map (Value.int k)).toArray t)) (some ⟨w.heap.size, 0, none⟩) xs.length xs.length xs := by
  refine ⟨rfl, Nat.le_refl _, hl, hf, h0, (fun h => by cases h), fun x hx i hi => ?_⟩
  cases hx
  have e : (⟨w.heap.size, 0, none⟩ : Addr).add i = ⟨w.heap.size, i, none⟩ := by unfold Addr.add; split <;> simp_all
  rw [e, cell_of_row _ _ i _ t (0, 0) (heap_alloc_new w _)]
  simp [hi]

theorem Rn.drew {k : IntKind} {top : Int} {w : World} {a : Option Addr} {len cap : Nat} {bs : List Int} (r : Rn k top w a len cap bs) : Rn k top w.drew a len cap bs :=
  ⟨r.length, r.le, r.max, r.fit, r.top0, r.nil, fun x hx i hi => by simpa using r.cell x hx i hi⟩

/-- A row of the call's own, as a slice that is read. -/
theorem Rn.own {k : IntKind} {top : Int} {w : World} {base : Nat} {e : TypeId} {v : Value} {n : Nat} {xs : List Int} (h : w.ownsRow base e 1 v n (xs.map (Value.int k))) (hf : ∀ x ∈ xs, 0 ≤ x ∧ x ≤ top) (h0 : 0 ≤ top) :
    ∃ a cap, v = .slice a n cap ∧ Rn k top w a n cap xs := by
  have hl : xs.length = n := by simpa using h.1
  rcases h.2 with ⟨rfl, h2⟩ | ⟨g, cap, cur, rfl, hbg, hg, hnc, hcm, hcs, htake⟩
  · subst h2
    obtain rfl : xs = [] := List.eq_nil_of_length_eq_zero hl
    exact ⟨none, 0, rfl, rfl, Nat.le_refl _, by omega, hf, h0, fun _ => rfl, fun x hx => by cases hx⟩
  · refine ⟨_, cap, rfl, hl, hnc, by unfold maxLen at hcm; omega, hf, h0, (fun h => by cases h), fun x hx i hi => ?_⟩
    cases hx
    have := h.cells (g := g) rfl i (.int k (xs.getD i 0)) (by simp [show i < xs.length by omega])
    exact this

/-- A part of a slice that is read. -/
theorem Rn.part {k : IntKind} {top : Int} {w : World} {b o : Nat} {len cap : Nat} {xs : List Int} (r : Rn k top w (some ⟨b, o, none⟩) len cap xs) (f m : Nat) (h : f + m ≤ len) (c : Nat) (hc : m ≤ c) (hc' : c ≤ cap) :
    Rn k top w (some ⟨b, o + f, none⟩) m c ((xs.drop f).take m) := by
  have hl := r.length
  have h1 := r.le
  have h2 := r.max
  refine ⟨by simp; omega, hc, by omega, fun x hx => r.fit x (List.mem_of_mem_drop (List.mem_of_mem_take hx)), r.top0, (fun h3 => by cases h3), ?_⟩
  intro y hy i hi
  cases hy
  have h3 := r.cell _ rfl (f + i) (by omega)
  have e1 : (⟨b, o, none⟩ : Addr).add (f + i) = ⟨b, o + (f + i), none⟩ := by unfold Addr.add; split <;> simp_all
  have e2 : (⟨b, o + f, none⟩ : Addr).add i = ⟨b, o + f + i, none⟩ := by unfold Addr.add; split <;> simp_all
  rw [e1, ← Nat.add_assoc] at h3
  rw [e2, h3]
  simp [hi]

/-- A slice of integers that came in: nil, or a row of 'cap' cells, the numbers zs, each fitting its kind; the first 'len' are its elements. -/
def IsRow (k : IntKind) (w : World) (a : Option Addr) (len cap : Nat) (zs : List Int) : Prop :=
  (a = none ∧ len = 0 ∧ cap = 0 ∧ zs = []) ∨
  ∃ x, a = some x ∧ len ≤ cap ∧ cap ≤ maxLen ∧ zs.length = cap ∧ (∀ i, i < zs.length → w.cell? (x.add i) = some (.int k (zs.getD i 0))) ∧ ∀ n ∈ zs, (Lit.int k n).wf = true

theorem IsRow.rn {k : IntKind} {top : Int} (h0 : 0 ≤ top) (hk : ∀ n, (Lit.int k n).wf = true → 0 ≤ n ∧ n ≤ top) {w : World} {a : Option Addr} {len cap : Nat} {zs : List Int} (h : IsRow k w a len cap zs) :
    Rn k top w a len cap (zs.take len) := by
  rcases h with ⟨rfl, rfl, rfl, rfl⟩ | ⟨x, rfl, hl, hm, hz, hc, hwf⟩
  · exact ⟨rfl, Nat.le_refl _, by omega, (fun x hx => by cases hx), h0, fun _ => rfl, fun x hx => by cases hx⟩
  · refine ⟨by simp; omega, hl, by unfold maxLen at hm; omega, fun n hn => hk n (hwf n (List.mem_of_mem_take hn)), h0, (fun h => by cases h), fun y hy i hi => ?_⟩
    cases hy
    rw [hc i (by omega)]
    simp [hi]

end Go.Proofs.YtgjfelkbblbjfaaGreatDoor

/- Plain facts on the bits of words of 32 bits and on fields of numbers: nothing of the program is named. -/
namespace Go.Proofs.YtgjfelkbblbjfaaGreatDoor
open Go.RowKit
set_option linter.unusedVariables false
set_option maxRecDepth 100000

/-- n bits of a number, from the bit f on, brought to the bit t. -/
def fld (x : Int) (f n t : Nat) : Int := x / 2 ^ f % 2 ^ n * 2 ^ t

/-- The lowest b bits of a number, with a sign. -/
def sgn (b : Nat) (x : Int) : Int := (x + 2 ^ (b - 1)) % 2 ^ b - 2 ^ (b - 1)

theorem two_cast (k : Nat) : (2 : Int) ^ k = ((2 ^ k : Nat) : Int) := by simp

theorem sgn_shift {k u : Nat} (hk : 1 ≤ k) (hs : k + u = 64) (x : Int) :
    wrap64 (IntKind.u64.wrap (x * 2 ^ u)) / 2 ^ u = sgn k x := by
  have hu : (0 : Int) < 2 ^ u := Int.pow_pos (by decide)
  have e64 : (18446744073709551616 : Int) = 2 ^ k * 2 ^ u := by rw [← Int.pow_add, hs]; rfl
  have e63 : (9223372036854775808 : Int) = 2 ^ (k - 1) * 2 ^ u := by rw [← Int.pow_add, show k - 1 + u = 63 by omega]; rfl
  unfold wrap64 sgn
  rw [IntKind.wrap_u64, Int.emod_add_emod, e64, e63, ← Int.add_mul, Int.mul_comm (x + _), Int.mul_comm (2 ^ k), Int.mul_emod_mul_of_pos _ _ hu, Int.mul_comm (2 ^ u), ← Int.sub_mul, Int.mul_ediv_cancel _ (by omega)]

theorem sgn_lo {k : Nat} (hk : 1 ≤ k) (x : Int) : -2 ^ (k - 1) ≤ sgn k x := by
  have h : (0 : Int) < 2 ^ k := Int.pow_pos (by decide)
  have := Int.emod_nonneg (x + 2 ^ (k - 1)) (show (2 : Int) ^ k ≠ 0 by omega)
  unfold sgn; omega
theorem sgn_hi {k : Nat} (hk : 1 ≤ k) (x : Int) : sgn k x < 2 ^ (k - 1) := by
  have h : (0 : Int) < 2 ^ k := Int.pow_pos (by decide)
  have e : (2 : Int) ^ k = 2 ^ (k - 1) + 2 ^ (k - 1) := by
    have : (2 : Int) ^ (k - 1 + 1) = 2 ^ (k - 1) * 2 := Int.pow_succ ..
    rw [show k - 1 + 1 = k by omega] at this
    omega
  have := Int.emod_lt_of_pos (x + 2 ^ (k - 1)) h
  unfold sgn; omega

theorem pow_le_top {j : Nat} (h : j ≤ 63) : (2 : Int) ^ j ≤ 9223372036854775808 := by
  have := Nat.pow_le_pow_right (n := 2) (by decide) h
  rw [two_cast]; omega
theorem pow_le_half {j : Nat} (h : j ≤ 62) : (2 : Int) ^ j ≤ 4611686018427387904 := by
  have := Nat.pow_le_pow_right (n := 2) (by decide) h
  rw [two_cast]; omega
theorem sgn_emod (k : Nat) (x : Int) : sgn k (x % 2 ^ k) = sgn k x := by
  unfold sgn; rw [Int.emod_add_emod]
/-- A number with a sign has the bits of which it was made. -/
theorem sgn_low {k : Nat} (hk : k ≤ 64) (x : Int) : sgn k x % 18446744073709551616 % 2 ^ k = x % 2 ^ k := by
  have h : (2 : Int) ^ k ∣ 18446744073709551616 := by
    rw [show (18446744073709551616 : Int) = 2 ^ (k + (64 - k)) by rw [show k + (64 - k) = 64 by omega]; rfl, Int.pow_add]
    exact Int.dvd_mul_right _ _
  rw [Int.emod_emod_of_dvd _ h]
  unfold sgn
  rw [Int.emod_sub_emod, Int.add_sub_cancel]

/-- Whether a number's bits all lie in a mask. -/
def Lies (a : Int) (m : Nat) : Prop := 0 ≤ a ∧ a.toNat &&& m = a.toNat

theorem Lies.le {a : Int} {m : Nat} (h : Lies a m) : a ≤ m := by
  have h1 := h.2
  have h2 := h.1
  have := Nat.and_le_right (n := a.toNat) (m := m)
  omega

theorem and_field (x n t : Nat) : x &&& ((2 ^ n - 1) * 2 ^ t) = x / 2 ^ t % 2 ^ n * 2 ^ t := by
  apply Nat.eq_of_testBit_eq
  intro i
  rw [Nat.testBit_and, Nat.testBit_mul_two_pow, Nat.testBit_mul_two_pow, Nat.testBit_mod_two_pow, Nat.testBit_two_pow_sub_one, Nat.testBit_div_two_pow]
  by_cases h : t ≤ i
  · rw [show i - t + t = i by omega]
    by_cases h2 : i - t < n <;> simp [h, h2]
  · simp [h]

theorem fld_nat (x f n t : Nat) : fld x f n t = ((x / 2 ^ f % 2 ^ n * 2 ^ t : Nat) : Int) := by
  unfold fld; simp

theorem fld_nonneg (x : Int) (f n t : Nat) : 0 ≤ fld x f n t := by
  unfold fld
  have h : (0 : Int) < 2 ^ n := Int.pow_pos (by decide)
  have h' : (0 : Int) < 2 ^ t := Int.pow_pos (by decide)
  exact Int.mul_nonneg (Int.emod_nonneg _ (by omega)) (by omega)

theorem fld_lies (x : Int) (f n t : Nat) : Lies (fld x f n t) ((2 ^ n - 1) * 2 ^ t) := by
  refine ⟨fld_nonneg .., ?_⟩
  have h : (0 : Int) < 2 ^ n := Int.pow_pos (by decide)
  obtain ⟨y, hy⟩ := Int.eq_ofNat_of_zero_le (Int.emod_nonneg (x / 2 ^ f) (show (2 : Int) ^ n ≠ 0 by omega))
  have hl := Int.emod_lt_of_pos (x / 2 ^ f) h
  rw [hy, two_cast] at hl
  have e : fld x f n t = ((y * 2 ^ t : Nat) : Int) := by unfold fld; rw [hy]; simp
  rw [e, Int.toNat_natCast, and_field, Nat.mul_div_cancel _ (Nat.two_pow_pos t), Nat.mod_eq_of_lt (by omega)]

theorem or_of_and {a b : Nat} (h : a &&& b = 0) : a ||| b = a + b := by
  have key : ∀ (n : Nat) (a b : Nat), a < 2 ^ n → b < 2 ^ n → a &&& b = 0 → a ||| b = a + b := by
    intro n
    induction n with
    | zero => intro a b ha hb _; simp at ha hb; subst ha; subst hb; rfl
    | succ n ih =>
      intro a b ha hb h
      have h2 : a / 2 &&& b / 2 = 0 := by rw [← Nat.and_div_two, h]
      have h3 := ih (a / 2) (b / 2) (by rw [Nat.pow_succ] at ha; omega) (by rw [Nat.pow_succ] at hb; omega) h2
      rw [← Nat.or_div_two] at h3
      have h4 : (a &&& b) % 2 = 0 := by rw [h]
      have h5 : (a ||| b) % 2 = a % 2 + b % 2 := by
        have t1 := Nat.and_mod_two_pow (n := 1) (a := a) (b := b)
        have t2 := Nat.or_mod_two_pow (n := 1) (a := a) (b := b)
        rw [Nat.pow_one] at t1 t2
        rw [t1] at h4
        rw [t2]
        rcases Nat.mod_two_eq_zero_or_one a with ha0 | ha0 <;> rcases Nat.mod_two_eq_zero_or_one b with hb0 | hb0 <;> rw [ha0, hb0] at h4 ⊢ <;> first | rfl | exact absurd h4 (by decide)
      omega
  exact key (a + b) a b (Nat.lt_of_le_of_lt (Nat.le_add_right a b) Nat.lt_two_pow_self) (Nat.lt_of_le_of_lt (Nat.le_add_left b a) Nat.lt_two_pow_self) h

theorem Lies.apart {a b : Int} {m n : Nat} (ha : Lies a m) (hb : Lies b n) (h : m &&& n = 0) : a.toNat &&& b.toNat = 0 := by
  rw [← ha.2, ← hb.2, Nat.and_comm a.toNat m, Nat.and_assoc, ← Nat.and_assoc a.toNat, Nat.and_comm a.toNat b.toNat, Nat.and_assoc, Nat.and_comm a.toNat n, ← Nat.and_assoc b.toNat, Nat.and_comm b.toNat n, ← Nat.and_assoc, ← Nat.and_assoc, h]
  simp

theorem Lies.add {a b : Int} {m n : Nat} (ha : Lies a m) (hb : Lies b n) (h : m &&& n = 0) : Lies (a + b) (m ||| n) := by
  have h1 := ha.1
  have h2 := hb.1
  have e : (a + b).toNat = a.toNat ||| b.toNat := by rw [or_of_and (ha.apart hb h)]; omega
  refine ⟨by omega, ?_⟩
  rw [e]
  apply Nat.eq_of_testBit_eq
  intro i
  have q1 := congrArg (fun z => z.testBit i) ha.2
  have q2 := congrArg (fun z => z.testBit i) hb.2
  simp only [Nat.testBit_and, Nat.testBit_or] at q1 q2 ⊢
  revert q1 q2
  cases a.toNat.testBit i <;> cases b.toNat.testBit i <;> cases m.testBit i <;> cases n.testBit i <;> simp

theorem Lies.or {a b : Int} {m n : Nat} (ha : Lies a m) (hb : Lies b n) (h : m &&& n = 0) (hm : m < 4294967296) (hn : n < 4294967296) : bits .or .u32 a b = a + b := by
  have h1 := ha.1
  have h2 := hb.1
  have h3 := ha.le
  have h4 := hb.le
  have e1 : a = (a.toNat : Int) := by omega
  have e2 : b = (b.toNat : Int) := by omega
  have h5 := (bits_nat .u32 32 (by decide) wraps_u32 a.toNat b.toNat (by omega) (by omega)).2
  rw [← e1, ← e2, or_of_and (ha.apart hb h)] at h5
  rw [h5]; omega

/-- A word of 32 bits. -/
def bv (a : Int) : BitVec 32 := BitVec.ofInt 32 a

theorem bv_nat {a : Int} (h0 : 0 ≤ a) (h1 : a ≤ 4294967295) : ((bv a).toNat : Int) = a := by
  obtain ⟨n, rfl⟩ := Int.eq_ofNat_of_zero_le h0
  unfold bv
  rw [BitVec.ofInt_natCast, BitVec.toNat_ofNat, Nat.mod_eq_of_lt (by omega)]
theorem bv_of (v : BitVec 32) : bv (v.toNat : Int) = v := by
  unfold bv
  rw [BitVec.ofInt_natCast]; simp
theorem wrap_bv (v : BitVec 32) : IntKind.u32.wrap (v.toNat : Int) = v.toNat := by
  have := v.isLt
  rw [IntKind.wrap_u32]; omega
theorem bits_and_bv (a b : Int) : bits .and .u32 a b = (bv a &&& bv b).toNat := wrap_bv _
theorem bits_or_bv (a b : Int) : bits .or .u32 a b = (bv a ||| bv b).toNat := wrap_bv _
theorem bits_xor_bv (a b : Int) : bits .xor .u32 a b = (bv a ^^^ bv b).toNat := wrap_bv _
theorem bits_not_bv (a b : Int) : bits .andNot .u32 a b = (bv a &&& ~~~ bv b).toNat := wrap_bv _
theorem bv_inj {a b : Int} (a0 : 0 ≤ a) (a1 : a ≤ 4294967295) (b0 : 0 ≤ b) (b1 : b ≤ 4294967295) (h : bv a = bv b) : a = b := by
  rw [← bv_nat a0 a1, ← bv_nat b0 b1, h]
theorem bv_bd (v : BitVec 32) : 0 ≤ (v.toNat : Int) ∧ (v.toNat : Int) ≤ 4294967295 := by have := v.isLt; omega
theorem bits_bd (op : BinOp) (a b : Int) : 0 ≤ bits op .u32 a b ∧ bits op .u32 a b ≤ 4294967295 := by
  have h : ∀ n : Int, 0 ≤ IntKind.u32.wrap n ∧ IntKind.u32.wrap n ≤ 4294967295 := fun n => by rw [IntKind.wrap_u32]; omega
  exact h _

/-- What a mask takes of a word, and what it leaves, are the word. -/
theorem not_and (a : Int) (m : Nat) (a0 : 0 ≤ a) (a1 : a ≤ 4294967295) (hm : m ≤ 4294967295) : bits .andNot .u32 a m = a - ((a.toNat &&& m : Nat) : Int) := by
  have e : (bv a &&& ~~~ bv m) + (bv a &&& bv m) = bv a := by
    rw [BitVec.add_eq_or_of_and_eq_zero]
    · ext i
      simp only [BitVec.getElem_or, BitVec.getElem_and, BitVec.getElem_not]
      cases (bv a)[i] <;> cases (bv (m : Int))[i] <;> rfl
    · ext i
      simp only [BitVec.getElem_and, BitVec.getElem_not, BitVec.getElem_zero]
      cases (bv a)[i] <;> cases (bv (m : Int))[i] <;> rfl
  have e2 : bv a &&& ~~~ bv m = bv a - (bv a &&& bv m) := BitVec.eq_sub_iff_add_eq.2 e
  have h1 := bv_nat a0 a1
  have h2 := bv_nat (a := (m : Int)) (by omega) (by omega)
  have e3 : (bv a).toNat = a.toNat := by omega
  have e4 : (bv (m : Int)).toNat = m := by omega
  have e5 : (bv a &&& bv (m : Int)).toNat = a.toNat &&& m := by rw [BitVec.toNat_and, e3, e4]
  have h6 : a.toNat &&& m ≤ a.toNat := Nat.and_le_left
  rw [bits_not_bv, e2, BitVec.toNat_sub, e5, e3]
  omega

theorem not_lies (a : Int) (m : Nat) (hm : m ≤ 4294967295) : Lies (bits .andNot .u32 a m) (4294967295 - m) := by
  have hb := bits_bd .andNot a m
  refine ⟨hb.1, ?_⟩
  rw [bits_not_bv, Int.toNat_natCast]
  have e : 4294967295 - m = (~~~ bv (m : Int)).toNat := by
    have h2 := bv_nat (a := (m : Int)) (by omega) (by omega)
    rw [BitVec.toNat_not]; omega
  rw [e, ← BitVec.toNat_and, BitVec.and_assoc, BitVec.and_self]

theorem Lies.bv_and {a : Int} {m : Nat} (h : Lies a m) (hm : m ≤ 4294967295) : bv a &&& bv m = bv a := by
  have h0 := h.1
  have h1 := h.le
  have e1 := bv_nat h0 (by omega)
  have e2 := bv_nat (a := (m : Int)) (by omega) (by omega)
  apply BitVec.eq_of_toNat_eq
  rw [BitVec.toNat_and, show (bv a).toNat = a.toNat by omega, show (bv (m : Int)).toNat = m by omega, h.2]

end Go.Proofs.YtgjfelkbblbjfaaGreatDoor

/- Numbers of 64 and 32 bits, with signs and without: what each operation makes of two numbers. Nothing is walked here. -/
namespace Go.Proofs.YtgjfelkbblbjfaaGreatDoor
open Go.RowKit
set_option linter.unusedVariables false
set_option maxRecDepth 100000

def u64 (z : Int) : Int := z % 18446744073709551616
def s64 (z : Int) : Int := (z + 9223372036854775808) % 18446744073709551616 - 9223372036854775808
def u32 (z : Int) : Int := z % 4294967296
def s32 (z : Int) : Int := (z + 2147483648) % 4294967296 - 2147483648
/-- A word with its sign. -/
def sx (z : Int) : Int := u64 (s32 z)

theorem u64_bd (z : Int) : 0 ≤ u64 z ∧ u64 z ≤ 18446744073709551615 := by unfold u64; omega
theorem s64_bd (z : Int) : -9223372036854775808 ≤ s64 z ∧ s64 z ≤ 9223372036854775807 := by unfold s64; omega
theorem u32_bd (z : Int) : 0 ≤ u32 z ∧ u32 z ≤ 4294967295 := by unfold u32; omega
theorem s32_bd (z : Int) : -2147483648 ≤ s32 z ∧ s32 z ≤ 2147483647 := by unfold s32; omega
theorem sx_bd (z : Int) : 0 ≤ sx z ∧ sx z ≤ 18446744073709551615 := u64_bd _

theorem wrap_u64 (z : Int) : IntKind.u64.wrap z = u64 z := by rw [IntKind.wrap_u64]; rfl
theorem wrap_u32 (z : Int) : IntKind.u32.wrap z = u32 z := by rw [IntKind.wrap_u32]; rfl
theorem wrap_s64 (z : Int) : IntKind.i64.wrap z = s64 z := by simp [IntKind.wrap, IntKind.signed, IntKind.bits, s64]; split <;> omega
theorem wrap_s32 (z : Int) : IntKind.i32.wrap z = s32 z := by simp [IntKind.wrap, IntKind.signed, IntKind.bits, s32]; split <;> omega

/-- What operation o makes of a and b. -/
def aluF (o : Nat) (a b : Int) : Int :=
  match o with
  | 22 => u64 (a + b) | 31 => u64 (a + b)
  | 32 => u64 (a - b)
  | 23 => if s64 a < s64 b then 1 else 0 | 34 => if s64 a < s64 b then 1 else 0
  | 24 => if a < b then 1 else 0 | 35 => if a < b then 1 else 0
  | 25 => bits .xor .u64 a b | 36 => bits .xor .u64 a b
  | 26 => bits .or .u64 a b | 39 => bits .or .u64 a b
  | 27 => bits .and .u64 a b | 40 => bits .and .u64 a b
  | 28 => u64 (a * 2 ^ (b % 64).toNat) | 33 => u64 (a * 2 ^ (b % 64).toNat)
  | 29 => a / 2 ^ (b % 64).toNat | 37 => a / 2 ^ (b % 64).toNat
  | 30 => u64 (s64 a / 2 ^ (b % 64).toNat) | 38 => u64 (s64 a / 2 ^ (b % 64).toNat)
  | 41 => sx (a + b) | 45 => sx (a + b)
  | 46 => sx (a - b)
  | 42 => sx (a * 2 ^ (b % 32).toNat) | 47 => sx (a * 2 ^ (b % 32).toNat)
  | 43 => sx (u32 a / 2 ^ (b % 32).toNat) | 48 => sx (u32 a / 2 ^ (b % 32).toNat)
  | 44 => u64 (s32 a / 2 ^ (b % 32).toNat) | 49 => u64 (s32 a / 2 ^ (b % 32).toNat)
  | 50 => u64 (a * b)
  | 51 => u64 (a * b / 18446744073709551616 - (if s64 a < 0 then b else 0) - (if s64 b < 0 then a else 0))
  | 52 => u64 (a * b / 18446744073709551616 - (if s64 a < 0 then b else 0))
  | 53 => a * b / 18446744073709551616
  | 54 => if b = 0 then 18446744073709551615 else u64 ((s64 a).tdiv (s64 b))
  | 55 => if b = 0 then 18446744073709551615 else a / b
  | 56 => if b = 0 then a else u64 ((s64 a).tmod (s64 b))
  | 57 => if b = 0 then a else a % b
  | 58 => sx (a * b)
  | 59 => if u32 b = 0 then 18446744073709551615 else sx ((s32 a).tdiv (s32 b))
  | 60 => if u32 b = 0 then 18446744073709551615 else sx (u32 a / u32 b)
  | 61 => if u32 b = 0 then sx a else sx ((s32 a).tmod (s32 b))
  | 62 => if u32 b = 0 then sx a else sx (u32 a % u32 b)
  | _ => 0

end Go.Proofs.YtgjfelkbblbjfaaGreatDoor

/- Plain facts on numbers in bytes: what a list of bytes is as a number, the lowest byte first. Nothing of the program is named. -/
namespace Go.Proofs.YtgjfelkbblbjfaaGreatDoor

def num : List Int → Int
  | [] => 0
  | x :: r => x + 256 * num r

def Bytes (l : List Int) : Prop := ∀ x ∈ l, 0 ≤ x ∧ x ≤ 255

theorem Bytes.take {l : List Int} (h : Bytes l) (k : Nat) : Bytes (l.take k) := fun x hx => h x (List.mem_of_mem_take hx)
theorem Bytes.drop {l : List Int} (h : Bytes l) (k : Nat) : Bytes (l.drop k) := fun x hx => h x (List.mem_of_mem_drop hx)
theorem Bytes.nil : Bytes [] := fun _ h => by cases h
theorem Bytes.append {l m : List Int} (h : Bytes l) (k : Bytes m) : Bytes (l ++ m) := fun x hx => by
  rcases List.mem_append.1 hx with hx | hx
  · exact h x hx
  · exact k x hx
theorem Bytes.at {l : List Int} (h : Bytes l) (k : Nat) : 0 ≤ l[k]?.getD 0 ∧ l[k]?.getD 0 ≤ 255 := by
  by_cases hk : k < l.length
  · simpa [hk] using h _ (List.getElem_mem hk)
  · simp [List.getElem?_eq_none (Nat.le_of_not_lt hk)]

theorem num_nonneg : ∀ {l : List Int}, Bytes l → 0 ≤ num l
  | [], _ => by simp [num]
  | x :: r, h => by
    have h1 := h x (by simp)
    have h2 := num_nonneg (l := r) fun y hy => h y (by simp [hy])
    simp only [num]; omega

theorem num_lt : ∀ {l : List Int}, Bytes l → num l < 256 ^ l.length
  | [], _ => by simp [num]
  | x :: r, h => by
    have h1 := h x (by simp)
    have h2 := num_lt (l := r) fun y hy => h y (by simp [hy])
    have e : (256 : Int) ^ (x :: r).length = 256 * 256 ^ r.length := by rw [List.length_cons, Int.pow_succ, Int.mul_comm]
    rw [e]; simp only [num]; omega

theorem num_append : ∀ (l m : List Int), num (l ++ m) = num l + 256 ^ l.length * num m
  | [], m => by simp [num]
  | x :: r, m => by
    have e : (256 : Int) ^ (x :: r).length = 256 * 256 ^ r.length := by rw [List.length_cons, Int.pow_succ, Int.mul_comm]
    rw [e, List.cons_append]; simp only [num]
    rw [num_append r m, Int.mul_add, Int.mul_assoc, Int.add_assoc]

theorem pow_256 (k : Nat) : (256 : Int) ^ k = 2 ^ (8 * k) := by
  rw [Int.pow_mul]; rfl

theorem pow_le_64 {k : Nat} (h : k ≤ 8) : (2 : Int) ^ (8 * k) ≤ 18446744073709551616 := by
  have : k = 0 ∨ k = 1 ∨ k = 2 ∨ k = 3 ∨ k = 4 ∨ k = 5 ∨ k = 6 ∨ k = 7 ∨ k = 8 := by omega
  rcases this with rfl | rfl | rfl | rfl | rfl | rfl | rfl | rfl | rfl <;> decide

theorem num_lt_64 {l : List Int} (h : Bytes l) (hl : l.length ≤ 8) : num l < 18446744073709551616 := by
  have h1 := num_lt h
  rw [pow_256] at h1
  have h2 := pow_le_64 hl
  omega

/-- One step from the lowest byte up. -/
theorem num_up (l : List Int) (k : Nat) (hb : Bytes l) (hk : k < l.length) (h8 : k < 8) :
    bits .or .u64 (num (l.take k)) (IntKind.u64.wrap (l[k]?.getD 0 * 2 ^ (8 * k))) = num (l.take (k + 1)) := by
  have hx := hb.at k
  have hlen : (l.take k).length = k := by simp; omega
  have h0 := num_nonneg (hb.take k)
  have h1 := num_lt (hb.take k)
  rw [hlen, pow_256] at h1
  have hp : (0 : Int) < 2 ^ (8 * k) := Int.pow_pos (by decide)
  have hs : (2 : Int) ^ (8 * (k + 1)) = 2 ^ (8 * k) * 256 := by rw [Nat.mul_add, Int.pow_add]; rfl
  have hq := pow_le_64 (k := k + 1) (by omega)
  rw [hs] at hq
  have hm : l[k]?.getD 0 * 2 ^ (8 * k) ≤ 255 * 2 ^ (8 * k) := Int.mul_le_mul_of_nonneg_right hx.2 (Int.le_of_lt hp)
  have hm0 : 0 ≤ l[k]?.getD 0 * 2 ^ (8 * k) := Int.mul_nonneg hx.1 (Int.le_of_lt hp)
  rw [u64_wrap_id _ hm0 (by omega)]
  rw [bits_join_low .u64 64 (by decide) wraps_u64 (8 * k) _ _ h0 h1 (by omega) hm0 (Int.mul_emod_left _ _) (by omega)]
  rw [take_snoc l k hk, num_append, hlen, pow_256]
  simp [num, Int.mul_comm]

/-- One step from the highest byte down: the bytes from k on are the number so far, shifted, and the byte at k below it. -/
theorem num_down (l : List Int) (k : Nat) (hb : Bytes l) (hk : k < l.length) (h8 : l.length ≤ 8) :
    bits .or .u64 (IntKind.u64.wrap (num (l.drop (k + 1)) * 256)) (l[k]?.getD 0) = num (l.drop k) := by
  have hx := hb.at k
  have h0 := num_nonneg (hb.drop (k + 1))
  have h1 := num_lt (hb.drop (k + 1))
  have hlen : (l.drop (k + 1)).length ≤ 7 := by simp; omega
  have h2 : (256 : Int) ^ (l.drop (k + 1)).length ≤ 2 ^ (8 * 7) := by
    rw [pow_256]
    have : (l.drop (k + 1)).length = 0 ∨ (l.drop (k + 1)).length = 1 ∨ (l.drop (k + 1)).length = 2 ∨ (l.drop (k + 1)).length = 3 ∨ (l.drop (k + 1)).length = 4 ∨ (l.drop (k + 1)).length = 5 ∨ (l.drop (k + 1)).length = 6 ∨ (l.drop (k + 1)).length = 7 := by omega
    rcases this with h | h | h | h | h | h | h | h <;> rw [h] <;> decide
  have e7 : (2 : Int) ^ (8 * 7) = 72057594037927936 := by decide
  have e8 : (2 : Int) ^ 8 = 256 := by decide
  rw [e7] at h2
  rw [u64_wrap_id _ (by omega) (by omega)]
  rw [bits_join .u64 64 (by decide) wraps_u64 8 _ _ (by omega) (by rw [e8]; exact Int.mul_emod_left _ _) (by omega) hx.1 (by omega) (by omega)]
  rw [List.drop_eq_getElem_cons hk]
  simp [num, hk]; omega

/-- The byte of a number at a place. -/
def byteOf (v : Int) (k : Nat) : Int := v / 2 ^ (8 * k) % 256
theorem byteOf_bd (v : Int) (k : Nat) : 0 ≤ byteOf v k ∧ byteOf v k ≤ 255 := by unfold byteOf; omega
/-- The lowest n bytes of a number. -/
def bytesOf (v : Int) (n : Nat) : List Int := (List.range n).map (byteOf v)
theorem bytesOf_bytes (v : Int) (n : Nat) : Bytes (bytesOf v n) := by
  intro x hx
  obtain ⟨k, _, rfl⟩ := List.mem_map.1 hx
  exact byteOf_bd v k
theorem bytesOf_length (v : Int) (n : Nat) : (bytesOf v n).length = n := by simp [bytesOf]
theorem bytesOf_succ (v : Int) (n : Nat) : bytesOf v (n + 1) = bytesOf v n ++ [byteOf v n] := by simp [bytesOf, List.range_succ]

/-- The bytes with k of them, from f on, replaced by a number's lowest. -/
def setLe (bs : List Int) (f : Nat) (v : Int) (k : Nat) : List Int := bs.take f ++ (bytesOf v k ++ bs.drop (f + k))
theorem setOf_length (bs : List Int) (f : Nat) (v : Int) (k : Nat) (h : f + k ≤ bs.length) : (setLe bs f v k).length = bs.length := by
  simp [setLe, bytesOf_length]; omega
theorem setOf_zero (bs : List Int) (f : Nat) (v : Int) : setLe bs f v 0 = bs := by simp [setLe, bytesOf]
theorem setOf_bytes {bs : List Int} (h : Bytes bs) (f : Nat) (v : Int) (k : Nat) : Bytes (setLe bs f v k) := (h.take f).append ((bytesOf_bytes v k).append (h.drop _))
theorem setOf_succ (bs : List Int) (f : Nat) (v : Int) (k : Nat) (h : f + k < bs.length) : (setLe bs f v k).set (f + k) (byteOf v k) = setLe bs f v (k + 1) := by
  unfold setLe
  have h1 : (bs.take f).length = f := by simp; omega
  rw [List.set_append_right _ _ (by omega), h1, List.set_append_right _ _ (by rw [bytesOf_length]; omega), bytesOf_length]
  have e : f + k - f - k = 0 := by omega
  rw [e, List.drop_eq_getElem_cons h, List.set_cons_zero, bytesOf_succ, ← Nat.add_assoc]
  simp

end Go.Proofs.YtgjfelkbblbjfaaGreatDoor

/- Contracts of le.within, le.get, le.U16, le.U32, le.U64 and of the document's Num: each returns what the bytes from the offset on are as a number, or 0 and false; the world stays. -/
namespace Go.Proofs.YtgjfelkbblbjfaaGreatDoor
open Go.RowKit
set_option linter.unusedVariables false
set_option maxRecDepth 100000

/-- A slice of bytes that is read: its elements are the bytes bs. -/
structure Rd (w : World) (a : Option Addr) (len cap : Nat) (bs : List Int) : Prop where
  length : bs.length = len
  le : len ≤ cap
  max : cap ≤ 9223372036854775807
  bytes : Bytes bs
  nil : a = none → cap = 0
  cell : ∀ x, a = some x → ∀ i, i < len → w.cell? (x.add i) = some (.int .u8 (bs.getD i 0))

theorem Rd.addr {w : World} {a : Option Addr} {len cap : Nat} {bs : List Int} (r : Rd w a len cap bs) (h : 0 < len) :
    ∃ b o, a = some ⟨b, o, none⟩ ∧ ∀ i, i < len → w.cell? ⟨b, o + i, none⟩ = some (.int .u8 (bs.getD i 0)) := by
  cases a with
  | none => have h1 := r.nil rfl; have h2 := r.le; omega
  | some x =>
    obtain ⟨b, o, spot⟩ := x
    have hs : spot = none := by simpa [Addr.add] using World.cell?_spot (r.cell _ rfl 0 h)
    subst hs
    exact ⟨b, o, rfl, fun i hi => by have := r.cell _ rfl i hi; rwa [show (⟨b, o, none⟩ : Addr).add i = ⟨b, o + i, none⟩ by unfold Addr.add; split <;> simp_all] at this⟩









/-- What is read of the bytes bs from the offset on: n bytes, as a number; 0 and false where they don't all lie within. -/
def got (bs : List Int) (off : Int) (n : Nat) : Int := if off + n ≤ bs.length then num ((bs.drop off.toNat).take n) else 0
def has (bs : List Int) (off : Int) (n : Nat) : Bool := decide (off + n ≤ bs.length)

theorem got_nonneg {bs : List Int} (h : Bytes bs) (off : Int) (n : Nat) : 0 ≤ got bs off n := by
  unfold got; split
  · exact num_nonneg ((h.drop _).take _)
  · omega
theorem got_lt {bs : List Int} (h : Bytes bs) (off : Int) (n : Nat) : got bs off n < 2 ^ (8 * n) := by
  have hp : (0 : Int) < 2 ^ (8 * n) := Int.pow_pos (by decide)
  unfold got; split
  · have h1 := num_lt ((h.drop off.toNat).take n)
    have h2 : ((bs.drop off.toNat).take n).length ≤ n := List.length_take_le _ _
    rw [pow_256] at h1
    have h3 : (2 : Int) ^ (8 * ((bs.drop off.toNat).take n).length) ≤ 2 ^ (8 * n) := by
      have := Nat.pow_le_pow_right (n := 2) (by decide) (show 8 * ((bs.drop off.toNat).take n).length ≤ 8 * n by omega)
      exact_mod_cast this
    omega
  · omega















end Go.Proofs.YtgjfelkbblbjfaaGreatDoor

/- Contracts of le.room, le.Cut and of the document's Cut: each makes a new row that holds the bytes asked for; what was there stays. -/
namespace Go.Proofs.YtgjfelkbblbjfaaGreatDoor
open Go.RowKit
set_option linter.unusedVariables false
set_option maxRecDepth 100000

theorem Tryz.info8 : (Tryz.prog.info? 5).map (fun i => (i.zero, i.size, i.bytes)) = some (some (.int .u8 0), 1, 1) := by kernel_rfl
theorem Tryz.size8 : (Tryz.prog.info? 5).map (·.size) = some 1 := by kernel_rfl

theorem Rd.cells {w : World} {a : Option Addr} {len cap : Nat} {bs : List Int} (r : Rd w a len cap bs) (x : Addr) (hx : a = some x) (j : Nat) (u : Value)
    (h : (bs.map (Value.int .u8))[j]? = some u) : w.cell? (x.add j) = some u := by
  have hj : j < bs.length := by
    rcases Nat.lt_or_ge j bs.length with h1 | h1
    · exact h1
    · rw [List.getElem?_eq_none (by simpa using h1)] at h; cases h
  have hl := r.length
  rw [r.cell x hx j (by omega)]
  simp [hj] at h
  subst h
  simp [hj]

theorem Rd.below {w w' : World} {a : Option Addr} {len cap : Nat} {bs : List Int} (r : Rd w a len cap bs) (hb : Below w.heap.size w w') : Rd w' a len cap bs :=
  ⟨r.length, r.le, r.max, r.bytes, r.nil, fun x hx i hi => by
    have h1 := r.cell x hx i hi
    rw [hb.cell (World.block_lt_of_cell? w _ h1)]; exact h1⟩

theorem Rd.own {w : World} {base : Nat} {v : Value} {n : Nat} {bs : List Int} (h : w.ownsRow base 5 1 v n (bs.map (Value.int .u8))) (hb : Bytes bs) :
    ∃ a cap, v = .slice a n cap ∧ Rd w a n cap bs := by
  have hl : bs.length = n := by simpa using h.1
  rcases h.2 with ⟨rfl, h2⟩ | ⟨g, cap, cur, rfl, hbg, hg, hnc, hcm, hcs, htake⟩
  · subst h2
    obtain rfl : bs = [] := List.eq_nil_of_length_eq_zero hl
    exact ⟨none, 0, rfl, rfl, Nat.le_refl _, by omega, hb, fun _ => rfl, fun x hx => by cases hx⟩
  · refine ⟨_, cap, rfl, hl, hnc, by unfold maxLen at hcm; omega, hb, (fun h => by cases h), fun x hx i hi => ?_⟩
    cases hx
    have := h.cells (g := g) rfl i (.int .u8 (bs.getD i 0)) (by simp [show i < bs.length by omega])
    exact this

theorem Rd.str {w : World} {a : Option Addr} {len cap : Nat} {bs : List Int} (r : Rd w a len cap bs) :
    Sem.run Tryz.prog (convert 24 9 (.slice a len cap)) w = .ok (.string (strOfNums bs)) w := by
  have hl := r.length
  by_cases h0 : len = 0
  · subst h0
    obtain rfl : bs = [] := List.eq_nil_of_length_eq_zero hl
    cases a with
    | none => exact run_convert_bytes_nil w 24 5 Tryz.underlying24 Tryz.underlying5 0 cap 9 Tryz.underlying9
    | some x =>
      have hlc : (loadCells x 0).run Tryz.prog w = .ok #[] w := by simpa using run_loadCells_list (P := Tryz.prog) w x [] (by simp)
      rw [run_convert_bytes_string w 24 9 5 _ 0 cap Tryz.underlying24 Tryz.underlying5 Tryz.underlying9, run_bytesToString w x 0 cap [] (by simpa using hlc)]
      rfl
  · obtain ⟨b, o, rfl, hc⟩ := r.addr (by omega)
    exact run_convert_bytes_arg w 24 5 Tryz.underlying24 Tryz.underlying5 b o len cap bs hl hc 9 Tryz.underlying9

/-- 'make' of len bytes with room for c, and what is copied into it: the run of the two, the worlds behind a name. -/
theorem copied {w : World} {a : Option Addr} {len cap : Nat} {bs : List Int} (r : Rd w a len cap bs) (c : Nat) (hc : len ≤ c) (hb : c ≤ 140737488355328) (ty : TypeId) :
    ∃ W1 W2, Sem.run Tryz.prog (Instr.makeSlice 24 (.int .i64 (len : Int)) (.int .i64 (c : Int))) w = .ok (.slice (some ⟨w.heap.size, 0, none⟩) len c) W1 ∧
      Sem.run Tryz.prog (Builtin.copy_ #[24, 24] ty #[.slice (some ⟨w.heap.size, 0, none⟩) len c, .slice a len cap]) W1 = .ok (goInt len) W2 ∧
      W2.ownsRow w.heap.size 5 1 (.slice (some ⟨w.heap.size, 0, none⟩) len c) len (bs.map (Value.int .u8)) ∧ Below w.heap.size w W2 := by
  obtain ⟨i0, hi, hz0, hz1, hz2⟩ := info_parts Tryz.info8
  have hbl := r.length
  have hmk := run_make (P := Tryz.prog) w 24 5 i0 (.int .u8 0) Tryz.underlying24 hi hz0 .i64 .i64 (len : Int) (c : Int) (by omega) (by omega) (by rw [hz2]; omega) (by omega)
  rw [hz1, Int.toNat_natCast, Int.toNat_natCast] at hmk
  have hcs : (Value.int .u8 0).cells = #[.int .u8 0] := rfl
  rw [hcs, Nat.mul_one] at hmk
  have hw1 : (w.alloc (.cells (madeCells #[.int .u8 0] c) 5)).heap[w.heap.size]? = some (.cells (madeCells #[.int .u8 0] c) 5 (0, 0)) := heap_alloc_new w _
  have hsz : (madeCells #[Value.int .u8 0] c).size = c := by simp [madeCells]
  have hb1 : Below w.heap.size w (w.alloc (.cells (madeCells #[.int .u8 0] c) 5)) := (Below.refl _ _).alloc (Nat.le_refl _) _
  by_cases h0 : len = 0
  · subst h0
    obtain rfl : bs = [] := List.eq_nil_of_length_eq_zero hbl
    refine ⟨_, _, hmk, ?_, ?_, hb1⟩
    · have := run_copy_none (P := Tryz.prog) (w.alloc (.cells (madeCells #[.int .u8 0] c) 5)) 24 24 ty 5 (some ⟨w.heap.size, 0, none⟩) a 0 c 0 cap Tryz.underlying24 Tryz.size8 rfl
      exact this
    · exact ⟨by simp, .inr ⟨w.heap.size, c, _, rfl, Nat.le_refl _, hw1, by omega, by unfold maxLen; omega, by rw [hsz]; omega, by simp⟩⟩
  · obtain ⟨b, o, rfl, hcell⟩ := r.addr (by omega)
    have r1 : Rd (w.alloc (.cells (madeCells #[.int .u8 0] c) 5)) (some ⟨b, o, none⟩) len cap bs := r.below hb1
    have hcp := run_copy_row (P := Tryz.prog) (w.alloc (.cells (madeCells #[.int .u8 0] c) 5)) 24 24 ty 5 w.heap.size 0 len c ⟨b, o, none⟩ len cap _ 5 (bs.map (Value.int .u8))
      Tryz.underlying24 Tryz.size8 hw1 (by simp [hbl]) (r1.cells _ rfl) (by rw [hsz]; simp; omega) (ints_oneCell _ _)
    rw [List.length_map, hbl] at hcp
    refine ⟨_, _, hmk, hcp, ?_, below_setRow hb1 (Nat.le_refl _) _⟩
    refine ⟨by simp [hbl], .inr ⟨w.heap.size, c, _, rfl, Nat.le_refl _, setRow_heap _ _ _ _ _ _ hw1, hc, by unfold maxLen; omega, ?_, ?_⟩⟩
    · simp [hbl, hsz]; omega
    · simp [hbl]



/-- What is cut out of the bytes. -/
def cutOf (bs : List Int) (off n : Int) : List Int := if off + n ≤ bs.length then (bs.drop off.toNat).take n.toNat else []
def cutOk (bs : List Int) (off n : Int) : Bool := decide (off + n ≤ bs.length)
theorem cutOf_bytes {bs : List Int} (h : Bytes bs) (off n : Int) : Bytes (cutOf bs off n) := by
  unfold cutOf; split
  · exact (h.drop _).take _
  · exact Bytes.nil

theorem Rd.part {w : World} {x : Addr} {len cap : Nat} {bs : List Int} (r : Rd w (some x) len cap bs) (f m : Nat) (h : f + m ≤ len) : Rd w (some (x.add f)) m (cap - f) ((bs.drop f).take m) := by
  have hl := r.length
  have h1 := r.le
  have h2 := r.max
  refine ⟨by simp; omega, by omega, by omega, (r.bytes.drop f).take m, (fun h3 => by cases h3), ?_⟩
  intro y hy i hi
  obtain ⟨b, o, hx, hc⟩ := r.addr (by omega)
  cases hx
  cases hy
  have e : ((⟨b, o, none⟩ : Addr).add f).add i = ⟨b, o + (f + i), none⟩ := by unfold Addr.add; repeat' split <;> simp_all [Nat.add_assoc]
  rw [e, hc (f + i) (by omega)]
  simp [hi]

theorem Rd.part_end {w : World} {a : Option Addr} {len cap : Nat} {bs : List Int} (r : Rd w a len cap bs) (f m : Nat) (h : f + m ≤ len) (hf : cap = f) : Rd w a m 0 ((bs.drop f).take m) := by
  have h1 := r.le
  obtain rfl : m = 0 := by omega
  exact ⟨by simp, Nat.le_refl _, by omega, by simpa using Bytes.nil, fun _ => rfl, fun x hx i hi => by omega⟩





theorem Rd.nothing (w : World) : Rd w none 0 0 [] := ⟨rfl, Nat.le_refl _, by omega, Bytes.nil, fun _ => rfl, fun x hx => by cases hx⟩









end Go.Proofs.YtgjfelkbblbjfaaGreatDoor

/- A map keyed by numbers of 64 bits whose elements are kept as the values they are: what is looked up, stored, counted. -/
namespace Go.Proofs.YtgjfelkbblbjfaaGreatDoor
open Go.RowKit Go.Maps
set_option linter.unusedVariables false
set_option maxRecDepth 100000

theorem law64 : Keyed Tryz.prog 39 := int_keyed Tryz.underlying39

/-- An element reads as the value that it is. -/
def raw (v : Value) : Option (DataW Value × List MemPlace) := some (.held v, [])

/-- A key. -/
def k64 (i : Nat) : Lit := .int .u64 (i : Int)
theorem k64_key (i : Nat) : WideAt.IsKeyLit (k64 i) := trivial
theorem k64_of (i : Nat) (h : i ≤ 18446744073709551615) : keyOf Tryz.prog 39 (.int .u64 (i : Int)) = some (k64 i) :=
  keyOf_int_mk Tryz.underlying39 (by simp [Lit.wf, IntKind.min, IntKind.max, IntKind.signed, IntKind.bits]; omega)
theorem k64_ne {i j : Nat} (h : i ≠ j) : k64 i ≠ k64 j := by
  unfold k64; intro e; injection e with e1 e2; omega

/-- Block b is a map of n entries that holds f i at the key i. -/
def MapAt (w : World) (b n : Nat) (f : Nat → Option Value) : Prop :=
  ∃ D : DataW Value, w.ownsMap Tryz.prog 39 raw b n D ∧ Maps.size D = n ∧
    ∀ i, i ≤ 18446744073709551615 → Maps.has D (k64 i) = (f i).isSome ∧ ∀ v, f i = some v → ∀ z, D.atKey (k64 i) z = .held v

theorem MapAt.lt {w : World} {b n : Nat} {f : Nat → Option Value} (h : MapAt w b n f) : b < w.heap.size := by
  obtain ⟨D, h1, _⟩ := h
  exact h1.lt

theorem MapAt.kept {w w' : World} {b n : Nat} {f : Nat → Option Value} (h : MapAt w b n f) (hb : w'.heap[b]? = w.heap[b]?) : MapAt w' b n f := by
  obtain ⟨D, ⟨es, clock, h1, h2⟩, h3⟩ := h
  exact ⟨D, ⟨es, clock, hb.trans h1, h2⟩, h3⟩

theorem MapAt.congr {w : World} {b n : Nat} {f g : Nat → Option Value} (h : MapAt w b n f) (hfg : ∀ i, i ≤ 18446744073709551615 → f i = g i) : MapAt w b n g := by
  obtain ⟨D, h1, h2, h3⟩ := h
  exact ⟨D, h1, h2, fun i hi => by rw [← hfg i hi]; exact h3 i hi⟩

theorem MapAt.made (w : World) : MapAt (w.alloc (.map #[] 0)) w.heap.size 0 (fun _ => none) :=
  ⟨.map [], World.ownsMap_made w _ _ _, rfl, fun i hi => ⟨rfl, fun v hv => by cases hv⟩⟩

theorem MapAt.noCells {w : World} {b n : Nat} {f : Nat → Option Value} (h : MapAt w b n f) {cs : Array Value} {t : TypeId} {fz : Nat × Nat} (hc : w.heap[b]? = some (.cells cs t fz)) : False := by
  obtain ⟨D, ⟨es, clock, h1, h2⟩, h3⟩ := h
  rw [h1] at hc
  cases hc

theorem MapAt.look {w : World} {b n : Nat} {f : Nat → Option Value} (h : MapAt w b n f) {t e : TypeId} (ht : Tryz.prog.underlying t = some (.map 39 e)) {z : Value} (hz : (zeroValue e).run Tryz.prog w = .ok z w) (i : Nat) (hi : i ≤ 18446744073709551615) :
    (Instr.lookup t (.map (some b)) (.int .u64 (i : Int)) false).run Tryz.prog w = .ok ((f i).getD z) w := by
  obtain ⟨D, hown, _, hf⟩ := h
  obtain ⟨h1, h2⟩ := hf i hi
  obtain ⟨v, ps, hrun, hv⟩ := hown.lookup law64 ht hz (zd := .held z) (zp := []) rfl (k64_of i hi)
  have hv' : DataW.held v = D.atKey (k64 i) (.held z) := by have h9 := hv; simp [raw] at h9; exact h9.1
  cases hfi : f i with
  | none =>
    rw [hfi] at h1
    rw [atKey_of_not_has h1] at hv'
    injection hv' with e
    subst e
    exact hrun
  | some u =>
    rw [h2 u hfi] at hv'
    injection hv' with e
    subst e
    exact hrun

theorem MapAt.lookOk {w : World} {b n : Nat} {f : Nat → Option Value} (h : MapAt w b n f) {t e : TypeId} (ht : Tryz.prog.underlying t = some (.map 39 e)) {z : Value} (hz : (zeroValue e).run Tryz.prog w = .ok z w) (i : Nat) (hi : i ≤ 18446744073709551615) :
    (Instr.lookup t (.map (some b)) (.int .u64 (i : Int)) true).run Tryz.prog w = .ok (.tuple #[(f i).getD z, .bool (f i).isSome]) w := by
  obtain ⟨D, hown, _, hf⟩ := h
  obtain ⟨h1, h2⟩ := hf i hi
  obtain ⟨v, ps, hrun, hv⟩ := hown.look_ok law64 ht hz (zd := .held z) (zp := []) rfl (k64_of i hi)
  have hv' : DataW.held v = D.atKey (k64 i) (.held z) := by have h9 := hv; simp [raw] at h9; exact h9.1
  rw [h1] at hrun
  cases hfi : f i with
  | none =>
    rw [hfi] at h1 hrun
    rw [atKey_of_not_has h1] at hv'
    injection hv' with e
    subst e
    exact hrun
  | some u =>
    rw [hfi] at hrun
    rw [h2 u hfi] at hv'
    injection hv' with e
    subst e
    exact hrun

theorem MapAt.len {w : World} {b n : Nat} {f : Nat → Option Value} (h : MapAt w b n f) {t e : TypeId} (ht : Tryz.prog.underlying t = some (.map 39 e)) (ty : TypeId) :
    (Builtin.len_ #[t] ty #[.map (some b)]).run Tryz.prog w = .ok (.int .i64 (n : Int)) w := by
  obtain ⟨D, hown, hs, hf⟩ := h
  have := hown.len ht ty
  rwa [hs] at this

/-- f with v at i. -/
def upd (f : Nat → Option Value) (i : Nat) (v : Value) (j : Nat) : Option Value := if j = i then some v else f j

theorem MapAt.store {w : World} {b n : Nat} {f : Nat → Option Value} (h : MapAt w b n f) {t e : TypeId} (ht : Tryz.prog.underlying t = some (.map 39 e)) (hn : n < maxLen) (i : Nat) (hi : i ≤ 18446744073709551615) (v : Value) :
    ∃ w', (Instr.mapUpdate t (.map (some b)) (.int .u64 (i : Int)) v).run Tryz.prog w = .ok () w' ∧ MapAt w' b (if (f i).isSome then n else n + 1) (upd f i v) ∧ w.grownBy w' (some b) ∧ w'.heap.size = w.heap.size := by
  obtain ⟨D, hown, hs, hf⟩ := h
  obtain ⟨w', hrun, hown', hturn⟩ := hown.store law64 ht hn (k64_of i hi) (d := .held v) (ps := []) rfl
  have htd := hown.tidy law64
  have hsz : Maps.size (D.put (k64 i) (.held v)) = if (f i).isSome then n else n + 1 := by
    rw [size_put htd, (hf i hi).1, hs]
  refine ⟨w', hrun, ⟨D.put (k64 i) (.held v), ?_, hsz, fun j hj => ?_⟩, hturn.grown, ?_⟩
  · obtain ⟨es, clock, h1, h2, h3, h4⟩ := hown'
    refine ⟨es, clock, h1, h2, ?_, h4⟩
    have e1 : Maps.size (D.put (k64 i) (.held v)) = es.size := by rw [h4]; simp [Maps.size, length_sorted]
    omega
  · by_cases hji : j = i
    · subst hji
      refine ⟨by rw [has_put_same htd.isMap (k64_key _)]; simp [upd], fun u hu z => ?_⟩
      rw [atKey_put_same htd.isMap (k64_key _)]
      simp [upd] at hu
      rw [hu]
    · rw [has_put_other (k64_ne hji), (hf j hj).1]
      refine ⟨by simp [upd, hji], fun u hu z => ?_⟩
      rw [atKey_put_other (k64_ne hji)]
      exact (hf j hj).2 u (by simpa [upd, hji] using hu) z
  · obtain ⟨es, clock, es', clock', hb, rfl⟩ := hturn
    simp [ChangeMaps.setBlock]

#print axioms MapAt.store

end Go.Proofs.YtgjfelkbblbjfaaGreatDoor
