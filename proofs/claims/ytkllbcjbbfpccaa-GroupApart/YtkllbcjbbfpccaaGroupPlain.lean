/- Plain facts on groups of sections: their bytes, what is read of them, the rules; groups that share no number. Nothing of the program is named. -/
import Derived.Test.YtkllbcjbbfpccaaShdrPlain
namespace Go.Proofs.Ytkllbcjbbfpccaa
open Go.RowKit
set_option linter.unusedVariables false
set_option linter.unusedSimpArgs false

theorem bytesOf_low32 (x : Int) : bytesOf (x % 4294967296) 4 = bytesOf x 4 := by
  simp only [bytesOf, List.range, List.range.loop, List.map, byteOf]
  simp only [show (2 : Int) ^ (8 * 0) = 1 by decide, show (2 : Int) ^ (8 * 1) = 256 by decide, show (2 : Int) ^ (8 * 2) = 65536 by decide, show (2 : Int) ^ (8 * 3) = 16777216 by decide]
  congr 1
  · omega
  congr 1
  · omega
  congr 1
  · omega
  congr 1
  omega
theorem bytesOf_low64 (x : Int) : bytesOf (x % 18446744073709551616) 4 = bytesOf x 4 := by
  rw [← bytesOf_low32 (x % 18446744073709551616), ← bytesOf_low32 x]
  congr 1
  omega

/-- A group's bytes: 1, and its members. -/
def grL (l : List Int) : List Int := bytesOf 1 4 ++ flat 4 l
theorem grL_len (l : List Int) : (grL l).length = 4 + l.length * 4 := by rw [grL, List.length_append, bytesOf_length, flat_length]
theorem grL_bytes (l : List Int) : Bytes (grL l) := (bytesOf_bytes _ _).append (flat_bytes _ _)
theorem grL_take (l : List Int) (j : Nat) (hj : j < l.length) : grL (l.take (j + 1)) = grL (l.take j) ++ bytesOf (l[j]?.getD 0) 4 := by
  unfold grL
  rw [take_step l j hj, flat_append, List.append_assoc]
  simp [flat]
/-- Number i of a group's bytes. -/
def grAt (bs : List Int) (i : Nat) : Int := got bs ((4 * i : Nat) : Int) 4
theorem grAt_bd {bs : List Int} (hb : Bytes bs) (i : Nat) : 0 ≤ grAt bs i ∧ grAt bs i ≤ 4294967295 := by
  have h0 := got_nonneg hb ((4 * i : Nat) : Int) 4
  have h1 := got_lt hb ((4 * i : Nat) : Int) 4
  rw [show (2 : Int) ^ (8 * 4) = 4294967296 by decide] at h1
  unfold grAt
  omega
theorem got_flat (A C : List Int) (x : Int) : got (A ++ (bytesOf x 4 ++ C)) (A.length : Int) 4 = x % 4294967296 := by
  obtain ⟨v, hv⟩ : ∃ v : Nat, x % 4294967296 = (v : Int) := ⟨(x % 4294967296).toNat, by omega⟩
  have := got_mid A (bytesOf x 4) C v 4 (by rw [← hv, bytesOf_low32]) (by omega)
  rw [this, hv]
theorem grL_at0 (l : List Int) : grAt (grL l) 0 = 1 := by
  have := got_flat [] (flat 4 l) 1
  unfold grAt grL
  simpa using this
theorem grL_at (l : List Int) (i : Nat) (x : Int) (h : l[i]? = some x) : grAt (grL l) (i + 1) = x % 4294967296 := by
  have hlt : i < l.length := by
    rcases Nat.lt_or_ge i l.length with h5 | h5
    · exact h5
    · rw [List.getElem?_eq_none h5] at h; cases h
  have e : l = l.take i ++ (x :: l.drop (i + 1)) := by
    have h1 := List.take_append_drop i l
    rw [List.drop_eq_getElem_cons hlt] at h1
    rw [List.getElem?_eq_getElem hlt] at h
    cases h
    exact h1.symm
  have e2 : grL l = grL (l.take i) ++ (bytesOf x 4 ++ flat 4 (l.drop (i + 1))) := by
    conv => lhs; rw [e]
    unfold grL
    rw [flat_append, List.append_assoc]
    simp [flat]
  have e3 : 4 * (i + 1) = (grL (l.take i)).length := by rw [grL_len, List.length_take, Nat.min_eq_left (by omega)]; omega
  unfold grAt
  rw [e2, e3]
  exact got_flat _ _ x

/-- The members that are read. -/
def grM (bs : List Int) : List Int := (List.range (bs.length / 4 - 1)).map (fun i => grAt bs (i + 1))
theorem grM_len (bs : List Int) : (grM bs).length = bs.length / 4 - 1 := by simp [grM]
theorem grM_at (bs : List Int) (i : Nat) (h : i < bs.length / 4 - 1) : (grM bs)[i]? = some (grAt bs (i + 1)) := by simp [grM, h]
/-- May member number i stand there? -/
def grB (bs : List Int) (sects : Int) (i : Nat) : Bool := decide (1 ≤ grAt bs (i + 1)) && decide (grAt bs (i + 1) < sects) && (decide (i = 0) || decide (grAt bs i < grAt bs (i + 1)))
/-- The rules of a group. -/
def grOk (bs : List Int) (sects : Int) : Prop := bs.length % 4 = 0 ∧ 4 ≤ bs.length ∧ grAt bs 0 = 1 ∧ ∀ i, i < bs.length / 4 - 1 → grB bs sects i = true

/-- A number that stands in two of them. -/
def grTwo (l : List (List Int)) : Prop := ∃ (i k : Nat) (x : Int), k < i ∧ (∃ m, l[i]? = some m ∧ x ∈ m) ∧ (∃ m, l[k]? = some m ∧ x ∈ m)
theorem grTwo_nil : ¬ grTwo [] := by rintro ⟨i, k, x, _, ⟨m, h, _⟩, _⟩; simp at h
/-- .. found going on: the first n share none, and the next one has one of theirs. -/
theorem grTwo_take (l : List (List Int)) (n : Nat) (m : List Int) (h : l[n]? = some m) (h0 : ¬ grTwo (l.take n)) : grTwo (l.take (n + 1)) ↔ ∃ x ∈ m, ∃ k m', k < n ∧ l[k]? = some m' ∧ x ∈ m' := by
  have ta : ∀ j q, j < q → (l.take q)[j]? = l[j]? := fun j q hq => by rw [List.getElem?_take, if_pos hq]
  have tl : ∀ j q a, (l.take q)[j]? = some a → j < q := fun j q a hj => by
    rcases Nat.lt_or_ge j q with h5 | h5
    · exact h5
    · rw [List.getElem?_take, if_neg (by omega)] at hj; cases hj
  constructor
  · rintro ⟨i, k, x, hk, ⟨a, ha, hxa⟩, ⟨c, hc, hxc⟩⟩
    have hi := tl _ _ _ ha
    rcases (show i < n ∨ i = n by omega) with h5 | h5
    · exfalso
      refine h0 ⟨i, k, x, hk, ⟨a, ?_, hxa⟩, ⟨c, ?_, hxc⟩⟩
      · rw [ta _ _ h5, ← ta _ _ hi]; exact ha
      · rw [ta _ _ (by omega), ← ta _ (n + 1) (by omega)]; exact hc
    · subst h5
      rw [ta _ _ hi, h] at ha
      cases ha
      rw [ta _ _ (by omega)] at hc
      exact ⟨x, hxa, k, c, hk, hc, hxc⟩
  · rintro ⟨x, hx, k, c, hk, hc, hxc⟩
    exact ⟨n, k, x, hk, ⟨m, by rw [ta _ _ (by omega)]; exact h, hx⟩, ⟨c, by rw [ta _ _ (by omega)]; exact hc, hxc⟩⟩
theorem grTwo_all (l : List (List Int)) (n : Nat) (h : grTwo (l.take n)) : grTwo l := by
  obtain ⟨i, k, x, hk, ⟨a, ha, hxa⟩, ⟨c, hc, hxc⟩⟩ := h
  have lf : ∀ j a, (l.take n)[j]? = some a → l[j]? = some a := fun j a hj => by
    rw [List.getElem?_take] at hj
    split at hj
    · exact hj
    · cases hj
  exact ⟨i, k, x, hk, ⟨a, lf _ _ ha, hxa⟩, ⟨c, lf _ _ hc, hxc⟩⟩

end Go.Proofs.Ytkllbcjbbfpccaa
