/- Plain facts on an object's head: its bytes, when bytes are one, what they begin as. Nothing of the program is named. -/
import Derived.Test.YtmmcnkdefpfkiaaDoorRput
namespace Go.Proofs.YtmmcnkdefpfkiaaDoor
open Go.RowKit
set_option linter.unusedVariables false
set_option maxRecDepth 100000
set_option maxRecDepth 20000
set_option linter.unusedSimpArgs false

theorem num_bytesN (v : Nat) : ∀ n : Nat, num (bytesOf (v : Int) n) = ((v % 256 ^ n : Nat) : Int)
  | 0 => by simp [bytesOf, num, Nat.mod_one]
  | n + 1 => by
    rw [bytesOf_succ, num_append, num_bytesN v n, bytesOf_length]
    have e : (2 : Int) ^ (8 * n) = ((256 ^ n : Nat) : Int) := by rw [← pow_256]; simp
    have e2 : byteOf (v : Int) n = ((v / 256 ^ n % 256 : Nat) : Int) := by unfold byteOf; rw [e]; simp
    rw [Nat.pow_succ, Nat.mod_mul]
    simp only [num, e2]
    simp

theorem num_bytesZ (v : Int) (n : Nat) (h0 : 0 ≤ v) (h1 : v < 256 ^ n) : num (bytesOf v n) = v := by
  obtain ⟨m, rfl⟩ := Int.eq_ofNat_of_zero_le h0
  have h2 : (m : Int) < ((256 ^ n : Nat) : Int) := by simpa using h1
  rw [num_bytesN m n, Nat.mod_eq_of_lt (Int.ofNat_lt.mp h2)]

theorem byteOf_low (x r : Int) (n : Nat) (h0 : 0 ≤ x) (hx : x ≤ 255) (k : Nat) : byteOf (x + 256 * r) (k + 1) = byteOf r k := by
  unfold byteOf
  have e : (2 : Int) ^ (8 * (k + 1)) = 256 * 2 ^ (8 * k) := by rw [Nat.mul_add, Int.pow_add, Int.mul_comm]; rfl
  rw [e, ← Int.ediv_ediv_of_nonneg (by decide)]
  congr 2
  omega

theorem bytesOf_cons (x r : Int) (n : Nat) (h0 : 0 ≤ x) (hx : x ≤ 255) : bytesOf (x + 256 * r) (n + 1) = x :: bytesOf r n := by
  unfold bytesOf
  rw [List.range_succ_eq_map, List.map_cons, List.map_map]
  have e0 : byteOf (x + 256 * r) 0 = x := by unfold byteOf; simp; omega
  rw [e0]
  congr 1
  apply List.map_congr_left
  intro k _
  exact byteOf_low x r n h0 hx k

theorem bytesOf_numL : ∀ (l : List Int), Bytes l → bytesOf (num l) l.length = l
  | [], _ => rfl
  | x :: r, h => by
    have hx := h x (by simp)
    have hr : Bytes r := fun y hy => h y (by simp [hy])
    rw [List.length_cons, num, bytesOf_cons x (num r) r.length hx.1 hx.2, bytesOf_numL r hr]

theorem bytes_eq_iff {l : List Int} (hb : Bytes l) (n : Nat) (hn : l.length = n) (c : Int) (h0 : 0 ≤ c) (hc : c < 256 ^ n) : l = bytesOf c n ↔ num l = c := by
  constructor
  · intro e; rw [e, num_bytesZ c n h0 hc]
  · intro e; rw [← e, ← hn, bytesOf_numL l hb]

def seg (bs : List Int) (f n : Nat) : List Int := (bs.drop f).take n
theorem seg_len (bs : List Int) (f n : Nat) (h : f + n ≤ bs.length) : (seg bs f n).length = n := by simp [seg]; omega
theorem seg_bytes {bs : List Int} (h : Bytes bs) (f n : Nat) : Bytes (seg bs f n) := (h.drop f).take n
theorem got_seg (bs : List Int) (f n : Nat) (h : f + n ≤ bs.length) : got bs (f : Int) n = num (seg bs f n) := by
  unfold got seg; rw [if_pos (by omega), Int.toNat_natCast]
theorem seg_add (bs : List Int) (f n m : Nat) : seg bs f (n + m) = seg bs f n ++ seg bs (f + n) m := by
  unfold seg; rw [List.take_add, List.drop_drop]

def identL : List Int := [127, 69, 76, 70, 2, 1, 1, 0, 0, 0, 0, 0, 0, 0, 0, 0]
def elfL : List Int := [127, 69, 76, 70]
def archL : List Int := [33, 60, 97, 114, 99, 104, 62, 10]

/-- A head's bytes, each number as it is given. -/
def hbg (t m v e p o f s a b c n x : Int) : List Int :=
  identL ++ (bytesOf t 2 ++ (bytesOf m 2 ++ (bytesOf v 4 ++ (bytesOf e 8 ++ (bytesOf p 8 ++ (bytesOf o 8 ++ (bytesOf f 4 ++ (bytesOf s 2 ++ (bytesOf a 2 ++ (bytesOf b 2 ++ (bytesOf c 2 ++ (bytesOf n 2 ++ bytesOf x 2))))))))))))
def hb (o n x : Int) : List Int := hbg 1 243 1 0 0 o 0 64 0 0 64 n x
theorem hbg_len (t m v e p o f s a b c n x : Int) : (hbg t m v e p o f s a b c n x).length = 64 := by simp [hbg, bytesOf_length, identL]
theorem identL_bytes : Bytes identL := by intro x hx; simp [identL] at hx; omega
theorem hbg_bytes (t m v e p o f s a b c n x : Int) : Bytes (hbg t m v e p o f s a b c n x) := by
  unfold hbg
  refine identL_bytes.append ?_
  repeat (first | exact bytesOf_bytes _ _ | refine (bytesOf_bytes _ _).append ?_)
theorem hb_len (o n x : Int) : (hb o n x).length = 64 := hbg_len _ _ _ _ _ _ _ _ _ _ _ _ _
theorem hb_bytes (o n x : Int) : Bytes (hb o n x) := hbg_bytes _ _ _ _ _ _ _ _ _ _ _ _ _

def hdNums (bs : List Int) : Prop :=
  got bs 16 2 = 1 ∧ got bs 18 2 = 243 ∧ got bs 20 4 = 1 ∧ got bs 24 8 = 0 ∧ got bs 32 8 = 0 ∧ got bs 48 4 ≤ 7 ∧ got bs 52 2 = 64 ∧ got bs 54 2 = 0 ∧ got bs 56 2 = 0 ∧ got bs 58 2 = 64
def hdFits (o n x len : Int) : Prop := 1 ≤ n ∧ n ≤ 400 ∧ x < n ∧ o % 8 = 0 ∧ o + n * 64 ≤ len
/-- The bytes begin with a head. -/
def hdOk (bs : List Int) : Prop :=
  64 ≤ bs.length ∧ bs.length ≤ 1048576 ∧ bs.take 16 = identL ∧ hdNums bs ∧ hdFits (got bs 40 8) (got bs 60 2) (got bs 62 2) bs.length

theorem app_iff {a b c d : List Int} (h : a.length = c.length) : a ++ b = c ++ d ↔ a = c ∧ b = d :=
  ⟨fun e => List.append_inj e h, by rintro ⟨rfl, rfl⟩; rfl⟩

theorem formed_iff (bs : List Int) (hb' : Bytes bs) (h : 64 ≤ bs.length) :
    (got bs 48 4 / 8 = 0 ∧ setLe (bs.take 64) 48 0 4 = hb (got bs 40 8) (got bs 60 2) (got bs 62 2)) ↔ (bs.take 16 = identL ∧ hdNums bs) := by
  have g16 : got bs 16 2 = num (seg bs 16 2) := got_seg bs 16 2 (by omega)
  have g18 : got bs 18 2 = num (seg bs 18 2) := got_seg bs 18 2 (by omega)
  have g20 : got bs 20 4 = num (seg bs 20 4) := got_seg bs 20 4 (by omega)
  have g24 : got bs 24 8 = num (seg bs 24 8) := got_seg bs 24 8 (by omega)
  have g32 : got bs 32 8 = num (seg bs 32 8) := got_seg bs 32 8 (by omega)
  have g40 : got bs 40 8 = num (seg bs 40 8) := got_seg bs 40 8 (by omega)
  have g52 : got bs 52 2 = num (seg bs 52 2) := got_seg bs 52 2 (by omega)
  have g54 : got bs 54 2 = num (seg bs 54 2) := got_seg bs 54 2 (by omega)
  have g56 : got bs 56 2 = num (seg bs 56 2) := got_seg bs 56 2 (by omega)
  have g58 : got bs 58 2 = num (seg bs 58 2) := got_seg bs 58 2 (by omega)
  have g60 : got bs 60 2 = num (seg bs 60 2) := got_seg bs 60 2 (by omega)
  have g62 : got bs 62 2 = num (seg bs 62 2) := got_seg bs 62 2 (by omega)
  have f0 := got_nonneg hb' 48 4
  have e40 : bytesOf (num (seg bs 40 8)) 8 = seg bs 40 8 := by have := bytesOf_numL (seg bs 40 8) (seg_bytes hb' _ _); rwa [seg_len bs 40 8 (by omega)] at this
  have e60 : bytesOf (num (seg bs 60 2)) 2 = seg bs 60 2 := by have := bytesOf_numL (seg bs 60 2) (seg_bytes hb' _ _); rwa [seg_len bs 60 2 (by omega)] at this
  have e62 : bytesOf (num (seg bs 62 2)) 2 = seg bs 62 2 := by have := bytesOf_numL (seg bs 62 2) (seg_bytes hb' _ _); rwa [seg_len bs 62 2 (by omega)] at this
  have L : setLe (bs.take 64) 48 0 4 = seg bs 0 16 ++ (seg bs 16 2 ++ (seg bs 18 2 ++ (seg bs 20 4 ++ (seg bs 24 8 ++ (seg bs 32 8 ++ (seg bs 40 8 ++ (bytesOf 0 4 ++ (seg bs 52 2 ++ (seg bs 54 2 ++ (seg bs 56 2 ++ (seg bs 58 2 ++ (seg bs 60 2 ++ seg bs 62 2)))))))))))) := by
    have a : (bs.take 64).take 48 = seg bs 0 (16 + (2 + (2 + (4 + (8 + (8 + 8)))))) := by simp [seg, List.take_take]
    have b : (bs.take 64).drop 52 = seg bs 52 (2 + (2 + (2 + (2 + (2 + 2))))) := by simp [seg, List.drop_take]
    unfold setLe
    rw [a, b]
    simp only [seg_add, List.append_assoc]
  have T : bs.take 16 = seg bs 0 16 := by simp [seg]
  rw [L, T]
  unfold hb hbg hdNums
  rw [g16, g18, g20, g24, g32, g40, g52, g54, g56, g58, g60, g62, e40, e60, e62]
  rw [app_iff (by rw [seg_len _ _ _ (by omega)]; rfl), app_iff (by rw [seg_len _ _ _ (by omega), bytesOf_length]), app_iff (by rw [seg_len _ _ _ (by omega), bytesOf_length]), app_iff (by rw [seg_len _ _ _ (by omega), bytesOf_length]),
    app_iff (by rw [seg_len _ _ _ (by omega), bytesOf_length]), app_iff (by rw [seg_len _ _ _ (by omega), bytesOf_length]), app_iff rfl, app_iff rfl,
    app_iff (by rw [seg_len _ _ _ (by omega), bytesOf_length]), app_iff (by rw [seg_len _ _ _ (by omega), bytesOf_length]), app_iff (by rw [seg_len _ _ _ (by omega), bytesOf_length]), app_iff (by rw [seg_len _ _ _ (by omega), bytesOf_length])]
  rw [bytes_eq_iff (seg_bytes hb' 16 2) 2 (seg_len _ _ _ (by omega)) 1 (by decide) (by decide), bytes_eq_iff (seg_bytes hb' 18 2) 2 (seg_len _ _ _ (by omega)) 243 (by decide) (by decide),
    bytes_eq_iff (seg_bytes hb' 20 4) 4 (seg_len _ _ _ (by omega)) 1 (by decide) (by decide), bytes_eq_iff (seg_bytes hb' 24 8) 8 (seg_len _ _ _ (by omega)) 0 (by decide) (by decide),
    bytes_eq_iff (seg_bytes hb' 32 8) 8 (seg_len _ _ _ (by omega)) 0 (by decide) (by decide), bytes_eq_iff (seg_bytes hb' 52 2) 2 (seg_len _ _ _ (by omega)) 64 (by decide) (by decide),
    bytes_eq_iff (seg_bytes hb' 54 2) 2 (seg_len _ _ _ (by omega)) 0 (by decide) (by decide), bytes_eq_iff (seg_bytes hb' 56 2) 2 (seg_len _ _ _ (by omega)) 0 (by decide) (by decide),
    bytes_eq_iff (seg_bytes hb' 58 2) 2 (seg_len _ _ _ (by omega)) 64 (by decide) (by decide)]
  have F : got bs 48 4 / 8 = 0 ↔ got bs 48 4 ≤ 7 := by omega
  rw [F]
  constructor
  · rintro ⟨a, b, c, d, e, f, g, -, -, i, j, k, l, -⟩; exact ⟨b, c, d, e, f, g, a, i, j, k, l⟩
  · rintro ⟨b, c, d, e, f, g, a, i, j, k, l⟩; exact ⟨a, b, c, d, e, f, g, rfl, rfl, i, j, k, l, rfl⟩

theorem last_split (bs : List Int) (hb' : Bytes bs) (h : 64 ≤ bs.length) : got bs 56 8 / 4294967296 % 65536 = got bs 60 2 ∧ got bs 56 8 / 281474976710656 = got bs 62 2 := by
  have g56 : got bs 56 8 = num (seg bs 56 8) := got_seg bs 56 8 (by omega)
  have g60 : got bs 60 2 = num (seg bs 60 2) := got_seg bs 60 2 (by omega)
  have g62 : got bs 62 2 = num (seg bs 62 2) := got_seg bs 62 2 (by omega)
  have e : seg bs 56 8 = seg bs 56 4 ++ (seg bs 60 2 ++ seg bs 62 2) := by
    have : seg bs 56 (4 + (2 + 2)) = _ := seg_add bs 56 4 (2 + 2)
    rw [seg_add bs (56 + 4) 2 2] at this
    exact this
  have l4 : (seg bs 56 4).length = 4 := seg_len _ _ _ (by omega)
  have l2 : (seg bs 60 2).length = 2 := seg_len _ _ _ (by omega)
  have l3 : (seg bs 62 2).length = 2 := seg_len _ _ _ (by omega)
  have a0 := num_nonneg (seg_bytes hb' 56 4)
  have a1 := num_lt (seg_bytes hb' 56 4)
  have b0 := num_nonneg (seg_bytes hb' 60 2)
  have b1 := num_lt (seg_bytes hb' 60 2)
  have c0 := num_nonneg (seg_bytes hb' 62 2)
  have c1 := num_lt (seg_bytes hb' 62 2)
  rw [g56, g60, g62, e, num_append, num_append, l4, l2]
  rw [l4] at a1
  rw [l2] at b1
  rw [l3] at c1
  have p4 : (256 : Int) ^ 4 = 4294967296 := by decide
  have p2 : (256 : Int) ^ 2 = 65536 := by decide
  rw [p4] at *
  rw [p2] at *
  omega

def kd (bs : List Int) : Int := if bs.take 4 = elfL then 1 else if bs.take 8 = archL then 2 else 0

theorem strN_inj {l m : List Int} (hl : Bytes l) (hm : Bytes m) : strOfNums l = strOfNums m ↔ l = m := by
  constructor
  · intro e
    have h1 : l.map (fun n => UInt8.ofNat n.toNat) = m.map (fun n => UInt8.ofNat n.toNat) := by
      have := congrArg (fun b : ByteArray => b.data.toList) e
      simpa [strOfNums] using this
    have back : ∀ z : List Int, Bytes z → (z.map (fun n => UInt8.ofNat n.toNat)).map (fun b => (b.toNat : Int)) = z := by
      intro z hz
      rw [List.map_map]
      conv => rhs; rw [← List.map_id z]
      apply List.map_congr_left
      intro x hx
      have := hz x hx
      simp only [Function.comp, id]
      rw [UInt8.toNat_ofNat']
      omega
    rw [← back l hl, ← back m hm, h1]
  · intro e; rw [e]

theorem ba_beq (a b : ByteArray) : (a == b) = decide (a = b) := by
  show (a.data == b.data) = decide (a = b)
  rw [Bool.eq_iff_iff]
  simp [ByteArray.ext_iff]

theorem strN_beq {l m : List Int} (hl : Bytes l) (hm : Bytes m) : (strOfNums l == strOfNums m) = decide (l = m) := by
  rw [ba_beq]; simp only [strN_inj hl hm]

end Go.Proofs.YtmmcnkdefpfkiaaDoor
