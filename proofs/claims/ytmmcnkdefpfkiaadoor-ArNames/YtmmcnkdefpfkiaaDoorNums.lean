/- Slices of numbers that are read, whatever the program is: what they hold, how they last over a call, what a slice that came in is to the contracts. -/
import Derived.Test.YtmmcnkdefpfkiaaDoorRows
import Derived.WalkKit
import Derived.OpenShut
namespace Go.Proofs.YtmmcnkdefpfkiaaDoor
open Go.RowKit
set_option linter.unusedVariables false
set_option maxRecDepth 100000

theorem hide {p : Prop} (h : p) : Hid p := h
theorem ret_bool {a b : Bool} (h : a = b) : Ending.returned (.bool a) = .returned (.bool b) := by rw [h]
theorem ret_int {k : IntKind} {a b : Int} (h : a = b) : Ending.returned (.int k a) = .returned (.int k b) := by rw [h]
theorem ret_num {k : IntKind} {a b : Int} {c : Bool} (h : a = b) : Ending.returned (.tuple #[.int k a, .bool c]) = .returned (.tuple #[.int k b, .bool c]) := by rw [h]

theorem take_snoc (l : List Int) (k : Nat) (h : k < l.length) : l.take (k + 1) = l.take k ++ [l[k]?.getD 0] := by
  rw [List.take_succ_eq_append_getElem h]; simp [h]

/-- A slice of numbers of a kind that is read. -/
structure Rn (k : IntKind) (top : Int) (w : World) (a : Option Addr) (len cap : Nat) (xs : List Int) : Prop where
  length : xs.length = len
  le : len ≤ cap
  max : cap ≤ 9223372036854775807
  fit : ∀ x ∈ xs, 0 ≤ x ∧ x ≤ top
  top0 : 0 ≤ top
  nil : a = none → cap = 0
  cell : ∀ x, a = some x → ∀ i, i < len → w.cell? (x.add i) = some (.int k (xs.getD i 0))

theorem Rn.addr {k : IntKind} {top : Int} {w : World} {a : Option Addr} {len cap : Nat} {bs : List Int} (r : Rn k top w a len cap bs) (h : 0 < len) :
    ∃ b o, a = some ⟨b, o, none⟩ ∧ ∀ i, i < len → w.cell? ⟨b, o + i, none⟩ = some (.int k (bs.getD i 0)) := by
  cases a with
  | none => have h1 := r.nil rfl; have h2 := r.le; omega
  | some x =>
    obtain ⟨b, o, spot⟩ := x
    have hs : spot = none := by simpa [Addr.add] using World.cell?_spot (r.cell _ rfl 0 h)
    subst hs
    exact ⟨b, o, rfl, fun i hi => by have := r.cell _ rfl i hi; rwa [show (⟨b, o, none⟩ : Addr).add i = ⟨b, o + i, none⟩ by unfold Addr.add; split <;> simp_all] at this⟩

theorem Rn.below {k : IntKind} {top : Int} {w w' : World} {a : Option Addr} {len cap : Nat} {bs : List Int} (r : Rn k top w a len cap bs) (hb : Below w.heap.size w w') : Rn k top w' a len cap bs :=
  ⟨r.length, r.le, r.max, r.fit, r.top0, r.nil, fun x hx i hi => by
    have h1 := r.cell x hx i hi
    rw [hb.cell (World.block_lt_of_cell? w _ h1)]; exact h1⟩

theorem Rn.at {k : IntKind} {top : Int} {w : World} {a : Option Addr} {len cap : Nat} {xs : List Int} (r : Rn k top w a len cap xs) (j : Nat) : 0 ≤ xs[j]?.getD 0 ∧ xs[j]?.getD 0 ≤ top := by
  by_cases hk : j < xs.length
  · simpa [hk] using r.fit _ (List.getElem_mem hk)
  · simpa [List.getElem?_eq_none (Nat.le_of_not_lt hk)] using r.top0

theorem Rn.lit (k : IntKind) (top : Int) (t : TypeId) (w : World) (xs : List Int) (hf : ∀ x ∈ xs, 0 ≤ x ∧ x ≤ top) (h0 : 0 ≤ top) (hl : xs.length ≤ 9223372036854775807) :
    Rn k top (w.alloc (.cells (xs.map (Value.int k)).toArray t)) (some ⟨w.heap.size, 0, none⟩) xs.length xs.length xs := by
  refine ⟨rfl, Nat.le_refl _, hl, hf, h0, (fun h => by cases h), fun x hx i hi => ?_⟩
  cases hx
  have e : (⟨w.heap.size, 0, none⟩ : Addr).add i = ⟨w.heap.size, i, none⟩ := by unfold Addr.add; split <;> simp_all
  rw [e, cell_of_row _ _ i _ t (0, 0) (heap_alloc_new w _)]
  simp [hi]

theorem Rn.drew {k : IntKind} {top : Int} {w : World} {a : Option Addr} {len cap : Nat} {bs : List Int} (r : Rn k top w a len cap bs) : Rn k top w.drew a len cap bs :=
  ⟨r.length, r.le, r.max, r.fit, r.top0, r.nil, fun x hx i hi => by simpa using r.cell x hx i hi⟩

/-- A row of the call's own, as a slice that is read. -/
theorem Rn.own {k : IntKind} {top : Int} {w : World} {base : Nat} {e : TypeId} {v : Value} {n : Nat} {xs : List Int} (h : w.ownsRow base e 1 v n (xs.map (Value.int k))) (hf : ∀ x ∈ xs, 0 ≤ x ∧ x ≤ top) (h0 : 0 ≤ top) :
    ∃ a cap, v = .slice a n cap ∧ Rn k top w a n cap xs := by
  have hl : xs.length = n := by simpa using h.1
  rcases h.2 with ⟨rfl, h2⟩ | ⟨g, cap, cur, rfl, hbg, hg, hnc, hcm, hcs, htake⟩
  · subst h2
    obtain rfl : xs = [] := List.eq_nil_of_length_eq_zero hl
    exact ⟨none, 0, rfl, rfl, Nat.le_refl _, by omega, hf, h0, fun _ => rfl, fun x hx => by cases hx⟩
  · refine ⟨_, cap, rfl, hl, hnc, by unfold maxLen at hcm; omega, hf, h0, (fun h => by cases h), fun x hx i hi => ?_⟩
    cases hx
    have := h.cells (g := g) rfl i (.int k (xs.getD i 0)) (by simp [show i < xs.length by omega])
    exact this

/-- A part of a slice that is read. -/
theorem Rn.part {k : IntKind} {top : Int} {w : World} {b o : Nat} {len cap : Nat} {xs : List Int} (r : Rn k top w (some ⟨b, o, none⟩) len cap xs) (f m : Nat) (h : f + m ≤ len) (c : Nat) (hc : m ≤ c) (hc' : c ≤ cap) :
    Rn k top w (some ⟨b, o + f, none⟩) m c ((xs.drop f).take m) := by
  have hl := r.length
  have h1 := r.le
  have h2 := r.max
  refine ⟨by simp; omega, hc, by omega, fun x hx => r.fit x (List.mem_of_mem_drop (List.mem_of_mem_take hx)), r.top0, (fun h3 => by cases h3), ?_⟩
  intro y hy i hi
  cases hy
  have h3 := r.cell _ rfl (f + i) (by omega)
  have e1 : (⟨b, o, none⟩ : Addr).add (f + i) = ⟨b, o + (f + i), none⟩ := by unfold Addr.add; split <;> simp_all
  have e2 : (⟨b, o + f, none⟩ : Addr).add i = ⟨b, o + f + i, none⟩ := by unfold Addr.add; split <;> simp_all
  rw [e1, ← Nat.add_assoc] at h3
  rw [e2, h3]
  simp [hi]

/-- A slice of integers that came in: nil, or a row of 'cap' cells, the numbers zs, each fitting its kind; the first 'len' are its elements. -/
def IsRow (k : IntKind) (w : World) (a : Option Addr) (len cap : Nat) (zs : List Int) : Prop :=
  (a = none ∧ len = 0 ∧ cap = 0 ∧ zs = []) ∨
  ∃ x, a = some x ∧ len ≤ cap ∧ cap ≤ maxLen ∧ zs.length = cap ∧ (∀ i, i < zs.length → w.cell? (x.add i) = some (.int k (zs.getD i 0))) ∧ ∀ n ∈ zs, (Lit.int k n).wf = true

theorem IsRow.rn {k : IntKind} {top : Int} (h0 : 0 ≤ top) (hk : ∀ n, (Lit.int k n).wf = true → 0 ≤ n ∧ n ≤ top) {w : World} {a : Option Addr} {len cap : Nat} {zs : List Int} (h : IsRow k w a len cap zs) :
    Rn k top w a len cap (zs.take len) := by
  rcases h with ⟨rfl, rfl, rfl, rfl⟩ | ⟨x, rfl, hl, hm, hz, hc, hwf⟩
  · exact ⟨rfl, Nat.le_refl _, by omega, (fun x hx => by cases hx), h0, fun _ => rfl, fun x hx => by cases hx⟩
  · refine ⟨by simp; omega, hl, by unfold maxLen at hm; omega, fun n hn => hk n (hwf n (List.mem_of_mem_take hn)), h0, (fun h => by cases h), fun y hy i hi => ?_⟩
    cases hy
    rw [hc i (by omega)]
    simp [hi]

end Go.Proofs.YtmmcnkdefpfkiaaDoor
