/- Names as lists of bytes: what lies ahead of a name's first nought, and where that nought is. -/
import Derived.Test.YtmmcnkdefpfkiaaDoorMake
import Derived.Lib.BytesEntry
namespace Go.Proofs.YtmmcnkdefpfkiaaDoor
open Go.RowKit
set_option linter.unusedVariables false
set_option maxRecDepth 100000
set_option maxRecDepth 20000

/-- A text of bytes. -/
abbrev str (l : List UInt8) : ByteArray := ⟨l.toArray⟩
theorem str_size (l : List UInt8) : (str l).size = l.length := by simp [ByteArray.size]
theorem str_list (l : List UInt8) : (str l).data.toList = l := by simp
theorem str_of (s : ByteArray) : str s.data.toList = s := by cases s; simp
theorem str_inj {l m : List UInt8} (h : str l = str m) : l = m := by
  have := congrArg (fun s : ByteArray => s.data.toList) h
  simpa using this

/-- What lies ahead of the first nought. -/
def nmO (l : List UInt8) : List UInt8 := l.takeWhile (· != 0)

theorem nmO_nil : nmO [] = [] := rfl
theorem nmO_zero (l : List UInt8) : nmO (0 :: l) = [] := by simp [nmO]
theorem nmO_cons {b : UInt8} (h : b ≠ 0) (l : List UInt8) : nmO (b :: l) = b :: nmO l := by simp [nmO, h]

theorem nmO_le : ∀ l : List UInt8, (nmO l).length ≤ l.length
  | [] => Nat.le_refl _
  | b :: l => by
    by_cases h : b = 0
    · subst h; rw [nmO_zero]; simp
    · rw [nmO_cons h]; simpa using nmO_le l

theorem nmO_take : ∀ l : List UInt8, l.take (nmO l).length = nmO l
  | [] => rfl
  | b :: l => by
    by_cases h : b = 0
    · subst h; rw [nmO_zero]; rfl
    · rw [nmO_cons h]; simp [nmO_take l]

theorem nmO_clean : ∀ l : List UInt8, (0 : UInt8) ∉ nmO l
  | [] => by simp [nmO_nil]
  | b :: l => by
    by_cases h : b = 0
    · subst h; rw [nmO_zero]; simp
    · rw [nmO_cons h]; simp [nmO_clean l, Ne.symm h]

theorem nmO_same : ∀ {l : List UInt8}, (0 : UInt8) ∉ l → nmO l = l
  | [], _ => rfl
  | b :: l, h => by
    simp at h
    rw [nmO_cons (Ne.symm h.1), nmO_same h.2]

theorem nmO_app : ∀ {l : List UInt8} (r : List UInt8), (0 : UInt8) ∉ l → nmO (l ++ 0 :: r) = l
  | [], r, _ => by simp [nmO_zero]
  | b :: l, r, h => by
    simp at h
    rw [List.cons_append, nmO_cons (Ne.symm h.1), nmO_app r h.2]

theorem nmO_lt : ∀ {l : List UInt8}, (0 : UInt8) ∈ l → (nmO l).length < l.length
  | [], h => by cases h
  | b :: l, h => by
    by_cases hb : b = 0
    · subst hb; rw [nmO_zero]; simp
    · rw [nmO_cons hb]
      have : (0 : UInt8) ∈ l := by simpa [Ne.symm hb] using h
      simpa using nmO_lt this

theorem index_none : ∀ {l : List UInt8}, (0 : UInt8) ∉ l → Lib.indexByte l 0 = -1
  | [], _ => rfl
  | b :: l, h => by
    simp at h
    have h1 : (b == 0) = false := by simpa using Ne.symm h.1
    unfold Lib.indexByte
    rw [h1, index_none h.2]
    rfl

theorem index_some : ∀ {l : List UInt8}, (0 : UInt8) ∈ l → Lib.indexByte l 0 = ((nmO l).length : Int)
  | [], h => by cases h
  | b :: l, h => by
    unfold Lib.indexByte
    by_cases hb : b = 0
    · subst hb; rw [nmO_zero]; rfl
    · have h1 : (b == 0) = false := by simpa using hb
      have ih := index_some (l := l) (by simpa [Ne.symm hb] using h)
      have h2 : (((nmO l).length : Int) == -1) = false := by simp
      rw [h1, ih, h2, nmO_cons hb]
      simp

end Go.Proofs.YtmmcnkdefpfkiaaDoor
