/- Plain facts on numbers in bytes: what a list of bytes is as a number, the lowest byte first. Nothing of the program is named. -/
import Derived.Lib.EndianBits
import Derived.Test.YtmmcnkdefpfkiaaDoorNums
namespace Go.Proofs.YtmmcnkdefpfkiaaDoor

def num : List Int → Int
  | [] => 0
  | x :: r => x + 256 * num r

def Bytes (l : List Int) : Prop := ∀ x ∈ l, 0 ≤ x ∧ x ≤ 255

theorem Bytes.take {l : List Int} (h : Bytes l) (k : Nat) : Bytes (l.take k) := fun x hx => h x (List.mem_of_mem_take hx)
theorem Bytes.drop {l : List Int} (h : Bytes l) (k : Nat) : Bytes (l.drop k) := fun x hx => h x (List.mem_of_mem_drop hx)
theorem Bytes.nil : Bytes [] := fun _ h => by cases h
theorem Bytes.append {l m : List Int} (h : Bytes l) (k : Bytes m) : Bytes (l ++ m) := fun x hx => by
  rcases List.mem_append.1 hx with hx | hx
  · exact h x hx
  · exact k x hx
theorem Bytes.at {l : List Int} (h : Bytes l) (k : Nat) : 0 ≤ l[k]?.getD 0 ∧ l[k]?.getD 0 ≤ 255 := by
  by_cases hk : k < l.length
  · simpa [hk] using h _ (List.getElem_mem hk)
  · simp [List.getElem?_eq_none (Nat.le_of_not_lt hk)]

theorem num_nonneg : ∀ {l : List Int}, Bytes l → 0 ≤ num l
  | [], _ => by simp [num]
  | x :: r, h => by
    have h1 := h x (by simp)
    have h2 := num_nonneg (l := r) fun y hy => h y (by simp [hy])
    simp only [num]; omega

theorem num_lt : ∀ {l : List Int}, Bytes l → num l < 256 ^ l.length
  | [], _ => by simp [num]
  | x :: r, h => by
    have h1 := h x (by simp)
    have h2 := num_lt (l := r) fun y hy => h y (by simp [hy])
    have e : (256 : Int) ^ (x :: r).length = 256 * 256 ^ r.length := by rw [List.length_cons, Int.pow_succ, Int.mul_comm]
    rw [e]; simp only [num]; omega

theorem num_append : ∀ (l m : List Int), num (l ++ m) = num l + 256 ^ l.length * num m
  | [], m => by simp [num]
  | x :: r, m => by
    have e : (256 : Int) ^ (x :: r).length = 256 * 256 ^ r.length := by rw [List.length_cons, Int.pow_succ, Int.mul_comm]
    rw [e, List.cons_append]; simp only [num]
    rw [num_append r m, Int.mul_add, Int.mul_assoc, Int.add_assoc]

theorem pow_256 (k : Nat) : (256 : Int) ^ k = 2 ^ (8 * k) := by
  rw [Int.pow_mul]; rfl

theorem pow_le_64 {k : Nat} (h : k ≤ 8) : (2 : Int) ^ (8 * k) ≤ 18446744073709551616 := by
  have : k = 0 ∨ k = 1 ∨ k = 2 ∨ k = 3 ∨ k = 4 ∨ k = 5 ∨ k = 6 ∨ k = 7 ∨ k = 8 := by omega
  rcases this with rfl | rfl | rfl | rfl | rfl | rfl | rfl | rfl | rfl <;> decide

theorem num_lt_64 {l : List Int} (h : Bytes l) (hl : l.length ≤ 8) : num l < 18446744073709551616 := by
  have h1 := num_lt h
  rw [pow_256] at h1
  have h2 := pow_le_64 hl
  omega

/-- One step from the lowest byte up. -/
theorem num_up (l : List Int) (k : Nat) (hb : Bytes l) (hk : k < l.length) (h8 : k < 8) :
    bits .or .u64 (num (l.take k)) (IntKind.u64.wrap (l[k]?.getD 0 * 2 ^ (8 * k))) = num (l.take (k + 1)) := by
  have hx := hb.at k
  have hlen : (l.take k).length = k := by simp; omega
  have h0 := num_nonneg (hb.take k)
  have h1 := num_lt (hb.take k)
  rw [hlen, pow_256] at h1
  have hp : (0 : Int) < 2 ^ (8 * k) := Int.pow_pos (by decide)
  have hs : (2 : Int) ^ (8 * (k + 1)) = 2 ^ (8 * k) * 256 := by rw [Nat.mul_add, Int.pow_add]; rfl
  have hq := pow_le_64 (k := k + 1) (by omega)
  rw [hs] at hq
  have hm : l[k]?.getD 0 * 2 ^ (8 * k) ≤ 255 * 2 ^ (8 * k) := Int.mul_le_mul_of_nonneg_right hx.2 (Int.le_of_lt hp)
  have hm0 : 0 ≤ l[k]?.getD 0 * 2 ^ (8 * k) := Int.mul_nonneg hx.1 (Int.le_of_lt hp)
  rw [u64_wrap_id _ hm0 (by omega)]
  rw [bits_join_low .u64 64 (by decide) wraps_u64 (8 * k) _ _ h0 h1 (by omega) hm0 (Int.mul_emod_left _ _) (by omega)]
  rw [take_snoc l k hk, num_append, hlen, pow_256]
  simp [num, Int.mul_comm]

/-- One step from the highest byte down: the bytes from k on are the number so far, shifted, and the byte at k below it. -/
theorem num_down (l : List Int) (k : Nat) (hb : Bytes l) (hk : k < l.length) (h8 : l.length ≤ 8) :
    bits .or .u64 (IntKind.u64.wrap (num (l.drop (k + 1)) * 256)) (l[k]?.getD 0) = num (l.drop k) := by
  have hx := hb.at k
  have h0 := num_nonneg (hb.drop (k + 1))
  have h1 := num_lt (hb.drop (k + 1))
  have hlen : (l.drop (k + 1)).length ≤ 7 := by simp; omega
  have h2 : (256 : Int) ^ (l.drop (k + 1)).length ≤ 2 ^ (8 * 7) := by
    rw [pow_256]
    have : (l.drop (k + 1)).length = 0 ∨ (l.drop (k + 1)).length = 1 ∨ (l.drop (k + 1)).length = 2 ∨ (l.drop (k + 1)).length = 3 ∨ (l.drop (k + 1)).length = 4 ∨ (l.drop (k + 1)).length = 5 ∨ (l.drop (k + 1)).length = 6 ∨ (l.drop (k + 1)).length = 7 := by omega
    rcases this with h | h | h | h | h | h | h | h <;> rw [h] <;> decide
  have e7 : (2 : Int) ^ (8 * 7) = 72057594037927936 := by decide
  have e8 : (2 : Int) ^ 8 = 256 := by decide
  rw [e7] at h2
  rw [u64_wrap_id _ (by omega) (by omega)]
  rw [bits_join .u64 64 (by decide) wraps_u64 8 _ _ (by omega) (by rw [e8]; exact Int.mul_emod_left _ _) (by omega) hx.1 (by omega) (by omega)]
  rw [List.drop_eq_getElem_cons hk]
  simp [num, hk]; omega

/-- The byte of a number at a place. -/
def byteOf (v : Int) (k : Nat) : Int := v / 2 ^ (8 * k) % 256
theorem byteOf_bd (v : Int) (k : Nat) : 0 ≤ byteOf v k ∧ byteOf v k ≤ 255 := by unfold byteOf; omega
/-- The lowest n bytes of a number. -/
def bytesOf (v : Int) (n : Nat) : List Int := (List.range n).map (byteOf v)
theorem bytesOf_bytes (v : Int) (n : Nat) : Bytes (bytesOf v n) := by
  intro x hx
  obtain ⟨k, _, rfl⟩ := List.mem_map.1 hx
  exact byteOf_bd v k
theorem bytesOf_length (v : Int) (n : Nat) : (bytesOf v n).length = n := by simp [bytesOf]
theorem bytesOf_succ (v : Int) (n : Nat) : bytesOf v (n + 1) = bytesOf v n ++ [byteOf v n] := by simp [bytesOf, List.range_succ]

/-- The bytes with k of them, from f on, replaced by a number's lowest. -/
def setLe (bs : List Int) (f : Nat) (v : Int) (k : Nat) : List Int := bs.take f ++ (bytesOf v k ++ bs.drop (f + k))
theorem setOf_length (bs : List Int) (f : Nat) (v : Int) (k : Nat) (h : f + k ≤ bs.length) : (setLe bs f v k).length = bs.length := by
  simp [setLe, bytesOf_length]; omega
theorem setOf_zero (bs : List Int) (f : Nat) (v : Int) : setLe bs f v 0 = bs := by simp [setLe, bytesOf]
theorem setOf_bytes {bs : List Int} (h : Bytes bs) (f : Nat) (v : Int) (k : Nat) : Bytes (setLe bs f v k) := (h.take f).append ((bytesOf_bytes v k).append (h.drop _))
theorem setOf_succ (bs : List Int) (f : Nat) (v : Int) (k : Nat) (h : f + k < bs.length) : (setLe bs f v k).set (f + k) (byteOf v k) = setLe bs f v (k + 1) := by
  unfold setLe
  have h1 : (bs.take f).length = f := by simp; omega
  rw [List.set_append_right _ _ (by omega), h1, List.set_append_right _ _ (by rw [bytesOf_length]; omega), bytesOf_length]
  have e : f + k - f - k = 0 := by omega
  rw [e, List.drop_eq_getElem_cons h, List.set_cons_zero, bytesOf_succ, ← Nat.add_assoc]
  simp

end Go.Proofs.YtmmcnkdefpfkiaaDoor
