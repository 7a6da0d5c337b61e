/- Groups that were laid are read back; slices of slices that were just built. -/
import Derived.Test.YtkllbcjbbfpccaaGroupParse
import Derived.Test.YtkllbcjbbfpccaaGroupChk
namespace Go.Proofs.Ytkllbcjbbfpccaa
open Go.RowKit
set_option linter.unusedVariables false
set_option linter.unusedSimpArgs false

/-- Members that rise, each a section's number. -/
def grGood (l : List Int) (sects : Int) : Prop := ∀ i x, l[i]? = some x → 1 ≤ x ∧ x < sects ∧ ∀ j y, i = j + 1 → l[j]? = some y → y < x
def Low (l : List Int) : Prop := ∀ x ∈ l, 0 ≤ x ∧ x ≤ 4294967295
theorem gr_at (l : List Int) (hl : Low l) (i : Nat) (x : Int) (h : l[i]? = some x) : grAt (grL l) (i + 1) = x := by
  rw [grL_at l i x h]
  have := hl x (List.mem_of_getElem? h)
  omega
theorem gr_len (l : List Int) : (grL l).length / 4 - 1 = l.length := by rw [grL_len]; omega
theorem gr_back (l : List Int) (hl : Low l) : grM (grL l) = l := by
  apply List.ext_getElem?
  intro i
  rcases Nat.lt_or_ge i l.length with h | h
  · obtain ⟨x, hx⟩ : ∃ x, l[i]? = some x := ⟨_, List.getElem?_eq_getElem h⟩
    rw [grM_at _ _ (by rw [gr_len]; exact h), hx, gr_at l hl i x hx]
  · rw [List.getElem?_eq_none (by rw [grM_len, gr_len]; exact h), List.getElem?_eq_none h]
theorem gr_ok (l : List Int) (sects : Int) (hl : Low l) : grOk (grL l) sects ↔ grGood l sects := by
  have key : ∀ i x, l[i]? = some x → (grB (grL l) sects i = true ↔ (1 ≤ x ∧ x < sects ∧ ∀ j y, i = j + 1 → l[j]? = some y → y < x)) := by
    intro i x hx
    unfold grB
    rw [gr_at l hl i x hx]
    rcases i with _ | j
    · simp
    · have hj : j + 1 < l.length := (List.getElem?_eq_some_iff.1 hx).1
      obtain ⟨y, hy⟩ : ∃ y, l[j]? = some y := ⟨_, List.getElem?_eq_getElem (by omega)⟩
      rw [gr_at l hl j y hy]
      simp only [Bool.and_eq_true, decide_eq_true_eq, Bool.or_eq_true, Nat.add_eq_zero_iff, Nat.one_ne_zero, and_false, false_or]
      constructor
      · rintro ⟨⟨h1, h2⟩, h3⟩
        refine ⟨h1, h2, fun j' y' he hy' => ?_⟩
        obtain rfl : j' = j := by omega
        rw [hy] at hy'
        cases hy'
        exact h3
      · rintro ⟨h1, h2, h3⟩
        exact ⟨⟨h1, h2⟩, h3 j y rfl hy⟩
  unfold grOk
  rw [gr_len]
  constructor
  · rintro ⟨_, _, _, h⟩ i x hx
    exact (key i x hx).1 (h i (List.getElem?_eq_some_iff.1 hx).1)
  · intro h
    refine ⟨by rw [grL_len]; omega, by rw [grL_len]; omega, grL_at0 l, fun i hi => ?_⟩
    obtain ⟨x, hx⟩ : ∃ x, l[i]? = some x := ⟨_, List.getElem?_eq_getElem hi⟩
    exact (key i x hx).2 (h i x hx)
theorem gr_yes {l : List Int} {sects : Int} (hl : Low l) (hg : grGood l sects) {e : Ending} {w : World} (h : GrR (grL l) sects e w) : ∃ a c, e = .returned (.tuple #[.slice a l.length c, .int .i64 0]) ∧ Ri w a l.length c l := by
  rcases h with ⟨_, h⟩ | ⟨h, _⟩
  · rw [gr_len, gr_back l hl] at h
    exact h
  · exact absurd ((gr_ok l sects hl).2 hg) h
theorem gr_no {l : List Int} {sects : Int} (hl : Low l) (hg : ¬ grGood l sects) {e : Ending} {w : World} (h : GrR (grL l) sects e w) : e = .returned (.tuple #[.slice none 0 0, .int .i64 34]) := by
  rcases h with ⟨h, _⟩ | ⟨_, h⟩
  · exact absurd ((gr_ok l sects hl).1 h) hg
  · exact h

/-- A slice of slices from its cells. -/
theorem Rii.of {w : World} {a : Option Addr} {n cap : Nat} {vs : List Value} {L : List (List Int)} (r : Rv w a n cap vs) (hl : L.length = n) (h : ∀ (i : Nat) (m : List Int), L[i]? = some m → ∃ (a' : Option Addr) (c' : Nat), vs[i]? = some (Value.slice a' m.length c') ∧ Ri w a' m.length c' m) : Rii w a n cap L := ⟨vs, r, hl, h⟩

theorem chk_yes {L : List (List Int)} {e : Ending} (hL : grTwo L) (h : GrC L e) : e = .returned (.int .i64 34) := by
  rcases h with ⟨_, h⟩ | ⟨h, _⟩
  · exact h
  · exact absurd hL h
theorem chk_no {L : List (List Int)} {e : Ending} (hL : ¬ grTwo L) (h : GrC L e) : e = .returned (.int .i64 0) := by
  rcases h with ⟨h, _⟩ | ⟨_, h⟩
  · exact absurd h hL
  · exact h

end Go.Proofs.Ytkllbcjbbfpccaa
