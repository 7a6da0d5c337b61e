/- Plain facts for MemApart: the memory of two pages, what a store leaves of it. -/
import Derived.Test.YtggmeopohpbmlaaMemRightsW
namespace Go.Proofs.Ytggmeopohpbmlaa
open Go.RowKit Go.Maps
set_option linter.unusedVariables false

/-- The permission of the second page. -/
def aq (k : Nat) : Int := match k with | 0 => 6 | 1 => 4 | _ => 0
theorem aq_tab (W : World) (k : Nat) (hk : k < 3) : (W.alloc (.cells #[.int .i64 6, .int .i64 4, .int .i64 0] 3)).cell? ⟨W.heap.size, k, none⟩ = some (.int .i64 (aq k)) := by
  match k, hk with
  | 0, _ => simp [aq]
  | 1, _ => simp [aq]
  | 2, _ => simp [aq]
theorem aq_is (k : Nat) : aq k = 6 ∨ aq k = 4 ∨ aq k = 0 := by unfold aq; split <;> omega
/-- The width of the store. -/
def aw (k : Nat) : Nat := match k with | 0 => 1 | 1 => 2 | 2 => 4 | _ => 8
theorem aw_tab (W : World) (k : Nat) (hk : k < 4) : (W.alloc (.cells #[.int .i64 1, .int .i64 2, .int .i64 4, .int .i64 8] 3)).cell? ⟨W.heap.size, k, none⟩ = some (.int .i64 ((aw k : Nat) : Int)) := by
  match k, hk with
  | 0, _ => simp [aw]
  | 1, _ => simp [aw]
  | 2, _ => simp [aw]
  | 3, _ => simp [aw]
theorem aw_is (k : Nat) : aw k = 1 ∨ aw k = 2 ∨ aw k = 4 ∨ aw k = 8 := by unfold aw; split <;> omega

noncomputable def ap1 : Mm := mappedTo Mm.new 0 4096 6 [1, 2, 3]
theorem ap1_ok : mapB Mm.new 0 4096 6 3 = true := mapB_yes ⟨by decide, by decide, by decide, by decide, fun i _ _ => rfl⟩
theorem ap1_eq : ap1 = (Mm.new.mapped 0 1 6).lay 0 [1, 2, 3] := by unfold ap1 mappedTo; exact if_pos ap1_ok
theorem ap1_perm (i : Nat) : ap1.perm i = if i = 0 then 6 else 0 := by
  rw [ap1_eq]; simp only [Mm.lay, Mm.mapped, Mm.new]
  by_cases h : i = 0
  · rw [if_pos h, if_pos (by omega)]
  · rw [if_neg h, if_neg (by omega)]
noncomputable def ap2 (q : Int) : Mm := mappedTo ap1 4096 4096 q [9, 8, 7]
theorem ap2_ok {q : Int} (hq : PermOk q) : mapB ap1 4096 4096 q 3 = true := mapB_yes ⟨by decide, hq, by decide, by rw [ap1_eq]; decide, fun i h1 h2 => by rw [ap1_perm, if_neg (by omega)]⟩
theorem ap2_perm {q : Int} (hq : PermOk q) (i : Nat) : (ap2 q).perm i = if i = 1 then q else if i = 0 then 6 else 0 := by
  have e : ap2 q = (ap1.mapped 1 1 q).lay 4096 [9, 8, 7] := by unfold ap2 mappedTo; exact if_pos (ap2_ok hq)
  rw [e]; simp only [Mm.lay, Mm.mapped]
  rw [ap1_perm]
  by_cases h : i = 1
  · rw [if_pos h, if_pos (by omega)]
  · rw [if_neg h, if_neg (by omega)]

/-- Page 0 may be read and written, of page 1 q says it, no other is there. -/
def TwoP (S : Mm) (q : Int) : Prop := ∀ i, S.perm i = if i = 1 then q else if i = 0 then 6 else 0
theorem ap1_two : TwoP ap1 0 := fun i => by
  rw [ap1_perm]
  by_cases h : i = 1
  · rw [if_pos h, if_neg (by omega)]
  · rw [if_neg h]
theorem ap2_two {q : Int} (hq : PermOk q) : TwoP (ap2 q) q := ap2_perm hq

theorem TwoP.store {S : Mm} {q : Int} (h : TwoP S q) (at' k : Nat) (hk : 1 ≤ k ∧ k ≤ 8) (ha : at' < 4120) : mayB S at' k 2 = (decide (at' + k ≤ 4096) || !(bits .and .i64 q 2 == 0)) := by
  by_cases h1 : at' + k ≤ 4096
  · rw [mayB_one (i := 0) (q := 6) (by omega) (by omega) (by omega) (by rw [h]; rfl), decide_eq_true h1, Bool.true_or]
    decide
  · rw [decide_eq_false h1, Bool.false_or]
    by_cases hz : bits .and .i64 q 2 = 0
    · rw [mayB_no]
      · simp [hz]
      · rintro (h2 | h2)
        · omega
        · refine h2 1 (by omega) (by omega) ?_
          rw [h]; exact hz
    · rw [mayB_yes]
      · simp [hz]
      · refine Or.inr (fun i h2 h3 => ?_)
        have h4 : i = 0 ∨ i = 1 := by omega
        rcases h4 with rfl | rfl
        · rw [h]; show bits .and .i64 6 2 ≠ 0; decide
        · rw [h]; exact hz

theorem TwoP.read0 {S : Mm} {q : Int} (h : TwoP S q) : manyOk S 0 4096 4 = true := by
  unfold manyOk
  rw [mayB_one (i := 0) (q := 6) (by decide) (by decide) (by decide) (by rw [h]; rfl)]
  decide
theorem TwoP.read1 {S : Mm} {q : Int} (h : TwoP S q) : manyOk S 4096 4096 4 = !(bits .and .i64 q 4 == 0) := by
  unfold manyOk
  rw [mayB_one (i := 1) (q := q) (by decide) (by decide) (by decide) (by rw [h]; rfl)]
  simp
theorem TwoP.lay {S : Mm} {q : Int} (h : TwoP S q) (a : Nat) (bs : List Int) : TwoP (S.lay a bs) q := fun i => h i

/-- A row that is some bytes of a memory. -/
def RowOf (w : World) (O : Nat) (S : Mm) (a n : Nat) : Prop := w.heap[O]? = some (.cells ((S.read a n).map (Value.int .u8)).toArray 5 (0, 0))

theorem RowOf.rd {w : World} {O : Nat} {S : Mm} {a n : Nat} (h : RowOf w O S a n) (hg : S.Good) (hn : n ≤ 9223372036854775807) : Rd w (some ⟨O, 0, none⟩) n n (S.read a n) := by
  refine ⟨S.read_length a n, Nat.le_refl _, hn, Mm.read_bytes hg a n, (fun h => by cases h), fun x hx i hi => ?_⟩
  cases hx
  rw [show (⟨O, 0, none⟩ : Addr).add i = ⟨O, i, none⟩ by unfold Addr.add; split <;> simp_all, cell_of_row _ _ _ _ _ _ h]
  simp [Mm.read_at S a n i hi]

theorem RowOf.cell {w : World} {O : Nat} {S : Mm} {a n : Nat} (h : RowOf w O S a n) (j : Nat) (hj : j < n) : w.cell? ⟨O, j, none⟩ = some (.int .u8 (S.byte (a + j))) := by
  rw [cell_of_row _ _ _ _ _ _ h]
  simp [Mm.read_at S a n j hj]

theorem RowOf.frozen {w : World} {O : Nat} {S : Mm} {a n : Nat} (h : RowOf w O S a n) (j : Nat) : w.frozen? ⟨O, j, none⟩ = false := frozen_of_row w O j _ 5 h

/-- One byte more is laid in the row. -/
theorem RowOf.store {w : World} {O : Nat} {S : Mm} {a n : Nat} (h : RowOf w O S a n) (b : Nat) (bs : List Int) (x : Int) (hS : ∃ T : Mm, S = T.lay b bs) (j : Nat) (hj : a + j = b + bs.length) (hjn : j < n) :
    ∀ T : Mm, S = T.lay b bs → RowOf (w.setCell ⟨O, j, none⟩ (.int .u8 x)) O (T.lay b (bs ++ [x])) a n := by
  intro T hT
  unfold RowOf
  rw [heap_setCell_same w O j _ 5 (.int .u8 x) h]
  have e : (((S.read a n).map (Value.int .u8)).toArray.setIfInBounds j (.int .u8 x)) = (((T.lay b (bs ++ [x])).read a n).map (Value.int .u8)).toArray := by
    rw [List.setIfInBounds_toArray]
    congr 1
    apply List.ext_getElem?
    intro i
    rw [List.getElem?_set]
    by_cases hij : j = i
    · subst hij
      rw [if_pos rfl, if_pos (by simp [Mm.read_length, hjn]), List.getElem?_map, Mm.read_at _ _ _ _ hjn]
      simp only [Mm.lay, Option.map_some]
      rw [if_pos (by simp; omega)]
      have e2 : a + j - b = bs.length := by omega
      rw [e2]; simp
    · rw [if_neg hij, List.getElem?_map, List.getElem?_map]
      by_cases hi : i < n
      · rw [Mm.read_at _ _ _ _ hi, Mm.read_at _ _ _ _ hi, hT]
        have := Mm.lay_more T b bs [x]
        rw [← this]
        congr 2
        simp only [Mm.lay]
        symm
        rw [if_neg (by simp; omega)]
      · rw [List.getElem?_eq_none (by rw [Mm.read_length]; omega), List.getElem?_eq_none (by rw [Mm.read_length]; omega)]
  rw [e]

/-- A byte that lies elsewhere leaves the row. -/
theorem RowOf.other {w w' : World} {O : Nat} {T : Mm} {b : Nat} {bs : List Int} {a n : Nat} (h : RowOf w O (T.lay b bs) a n) (x : Int) (hx : b + bs.length < a ∨ a + n ≤ b + bs.length) (hw : w'.heap[O]? = w.heap[O]?) : RowOf w' O (T.lay b (bs ++ [x])) a n := by
  unfold RowOf at *
  rw [hw, h]
  have e : (T.lay b bs).read a n = (T.lay b (bs ++ [x])).read a n := by
    apply List.ext_getElem?
    intro i
    by_cases hi : i < n
    · rw [Mm.read_at _ _ _ _ hi, Mm.read_at _ _ _ _ hi]
      have := Mm.lay_more T b bs [x]
      rw [← this]
      congr 1
      conv => rhs; unfold Mm.lay
      simp only
      rw [if_neg (by simp; omega)]
      rfl
    · rw [List.getElem?_eq_none (by rw [Mm.read_length]; omega), List.getElem?_eq_none (by rw [Mm.read_length]; omega)]
  rw [e]

theorem RowOf.kept {w w' : World} {O : Nat} {S : Mm} {a n : Nat} (h : RowOf w O S a n) (hw : w'.heap[O]? = w.heap[O]?) : RowOf w' O S a n := by
  unfold RowOf at *
  rw [hw, h]

theorem RowOf.lt {w : World} {O : Nat} {S : Mm} {a n : Nat} (h : RowOf w O S a n) : O < w.heap.size := (Array.getElem?_eq_some_iff.1 h).1

end Go.Proofs.Ytggmeopohpbmlaa
