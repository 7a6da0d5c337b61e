/- What a slice of numbers that came in is to the contracts: from what the row's step hands over to the slices that are read. -/
import Derived.Test.YtenpjddjoebljaaKnown
import Derived.OpenShut
namespace Go.Proofs.Ytenpjddjoebljaa
open Go.RowKit

/-- A slice of integers that came in: nil, or a row of 'cap' cells, the numbers zs, each fitting its kind; the first 'len' are its elements. -/
def IsRow (k : IntKind) (w : World) (a : Option Addr) (len cap : Nat) (zs : List Int) : Prop :=
  (a = none ∧ len = 0 ∧ cap = 0 ∧ zs = []) ∨
  ∃ x, a = some x ∧ len ≤ cap ∧ cap ≤ maxLen ∧ zs.length = cap ∧ (∀ i, i < zs.length → w.cell? (x.add i) = some (.int k (zs.getD i 0))) ∧ ∀ n ∈ zs, (Lit.int k n).wf = true

theorem IsRow.rn {k : IntKind} {top : Int} (h0 : 0 ≤ top) (hk : ∀ n, (Lit.int k n).wf = true → 0 ≤ n ∧ n ≤ top) {w : World} {a : Option Addr} {len cap : Nat} {zs : List Int} (h : IsRow k w a len cap zs) :
    Rn k top w a len cap (zs.take len) := by
  rcases h with ⟨rfl, rfl, rfl, rfl⟩ | ⟨x, rfl, hl, hm, hz, hc, hwf⟩
  · exact ⟨rfl, Nat.le_refl _, by omega, (fun x hx => by cases hx), h0, fun _ => rfl, fun x hx => by cases hx⟩
  · refine ⟨by simp; omega, hl, by unfold maxLen at hm; omega, fun n hn => hk n (hwf n (List.mem_of_mem_take hn)), h0, (fun h => by cases h), fun y hy i hi => ?_⟩
    cases hy
    rw [hc i (by omega)]
    simp [hi]

theorem IsRow.rd {w : World} {a : Option Addr} {len cap : Nat} {zs : List Int} (h : IsRow .u8 w a len cap zs) : Rd w a len cap (zs.take len) := by
  have r := h.rn (top := 255) (by decide) (fun n hn => bounds_u8 hn)
  exact ⟨r.length, r.le, r.max, r.fit, r.nil, r.cell⟩

end Go.Proofs.Ytenpjddjoebljaa
