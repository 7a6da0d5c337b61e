/- Ahead of the document's Parse: where a name ends, which numbers there are. -/
import Derived.Test.YtcghekkhbiomgaaGreatDoorAsmRefNum
import Derived.Test.YtcghekkhbiomgaaGreatDoorAsmRefX
import Derived.Test.YtcghekkhbiomgaaGreatDoorAsmParse
import Derived.Test.YtcghekkhbiomgaaGreatDoorInstRefEncs
import Derived.Deep.RegionHeld3
namespace Go.Proofs.YtcghekkhbiomgaaGreatDoor
open Go.RowKit
set_option linter.unusedVariables false
set_option maxRecDepth 100000
set_option linter.unusedSimpArgs false

/-- What stands ahead of the first blank, and from it on. -/
theorem hd_at {l : List UInt8} {i : Nat} (h : l[i]? = some 32) (hno : ∀ j, j < i → l[j]? ≠ some 32) : hdB 32 l = l.take i ∧ l.drop i = 32 :: tlB 32 l := by
  have e : l = l.take i ++ 32 :: l.drop (i + 1) := by
    rw [← drop_at h]; exact (List.take_append_drop i l).symm
  have hn : (32 : UInt8) ∉ l.take i := fun hm => by
    obtain ⟨j, hj, hje⟩ := List.getElem_of_mem hm
    simp at hj
    refine hno j (by omega) ?_
    rw [List.getElem?_eq_getElem (by omega)]
    simp at hje
    rw [hje]
  have := hdB_app (l.drop (i + 1)) hn
  rw [← e] at this
  exact ⟨this.1, by rw [this.2]; exact drop_at h⟩
theorem hd_none {l : List UInt8} (hno : ∀ j, j < l.length → l[j]? ≠ some 32) : hdB 32 l = l ∧ tlB 32 l = [] := hdB_no (fun hm => by
  obtain ⟨j, hj, hje⟩ := List.getElem_of_mem hm
  exact hno j hj (by rw [List.getElem?_eq_getElem hj, hje]))
theorem take_str (l : List UInt8) (i : Nat) : (str l).extract 0 i = str (l.take i) := by
  rw [Lib.extract_mk]; simp
theorem drop_str (l : List UInt8) (i : Nat) : (str l).extract i (str l).size = str (l.drop i) := by
  rw [Lib.extract_mk]
  congr 2
  rw [List.take_of_length_le (by rw [List.length_drop, str_size]; omega)]
theorem nmsG_bd : ∀ (f : Nat) (b : Bool) (l : List UInt8), ∀ x ∈ nmsG f b l, -10995116277769 ≤ x ∧ x ≤ 10995116277769
  | 0, b, l, x, h => by simp [nmsG] at h
  | f + 1, b, [], x, h => by simp [nmsG] at h
  | f + 1, b, c :: r, x, h => by
    unfold nmsG at h
    split at h
    · have hb := acc_bd ((c :: r).takeWhile isD) 0 (fun d hd => by
        have := List.all_takeWhile (p := isD) (l := c :: r)
        rw [List.all_eq_true] at this
        exact this d hd) (by decide) (by decide)
      rcases List.mem_cons.1 h with h | h
      · subst h; split <;> omega
      · split at h
        · cases h
        · exact nmsG_bd f _ _ x h
    · exact nmsG_bd f _ r x h
theorem nms_bd {b : Bool} {l : List UInt8} {x : Int} (h : x ∈ nms b l) : -10995116277769 ≤ x ∧ x ≤ 10995116277769 := nmsG_bd _ _ _ x h
theorem getD_bd {xs : List Int} (h : ∀ x ∈ xs, -10995116277769 ≤ x ∧ x ≤ 10995116277769) (k : Nat) : -10995116277769 ≤ xs.getD k 0 ∧ xs.getD k 0 ≤ 10995116277769 := by
  by_cases hk : k < xs.length
  · rw [List.getD_eq_getElem?_getD, List.getElem?_eq_getElem hk]
    exact h _ (List.getElem_mem hk)
  · rw [List.getD_eq_getElem?_getD, List.getElem?_eq_none (by omega)]
    decide
theorem asg_fit (op : Int) {xs : List Int} (h : ∀ x ∈ xs, -10995116277769 ≤ x ∧ x ≤ 10995116277769) : (asg op xs).Fit := by
  have h0 := getD_bd h 0
  have h1 := getD_bd h 1
  have h2 := getD_bd h 2
  unfold asg
  repeat' split
  all_goals (unfold Ns.Fit; dsimp only; omega)
theorem pad_at (xs : List Int) (j k : Nat) : (xs ++ List.replicate j 0).getD k 0 = xs.getD k 0 := by
  rw [List.getD_eq_getElem?_getD, List.getD_eq_getElem?_getD, List.getElem?_append]
  by_cases h : k < xs.length
  · rw [if_pos h]
  · rw [if_neg h, List.getElem?_eq_none (Nat.le_of_not_lt h), List.getElem?_replicate]
    split <;> rfl
theorem own_sl {w : World} {base : Nat} {e : TypeId} {v : Value} {n : Nat} {xs : List Value} (h : w.ownsRow base e 1 v n xs) : ∃ a cap, v = .slice a n cap := by
  rcases h.2 with ⟨rfl, h0⟩ | ⟨g, cap, cur, rfl, _⟩
  · exact ⟨none, 0, by rw [h0]⟩
  · exact ⟨_, _, rfl⟩
theorem nms_sp (r : List UInt8) : nms false (32 :: r) = nms false r := nms_skip (by decide) r

end Go.Proofs.YtcghekkhbiomgaaGreatDoor
