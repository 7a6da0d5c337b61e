/- A slice of texts that is read. -/
import Derived.Test.YtmmcnkdefpfkiaaDoorStrPlain
namespace Go.Proofs.YtmmcnkdefpfkiaaDoor
open Go.RowKit
set_option linter.unusedVariables false
set_option maxRecDepth 100000
set_option maxRecDepth 20000

/-- A slice of texts that is read. -/
structure Rs (w : World) (a : Option Addr) (len cap : Nat) (ns : List (List UInt8)) : Prop where
  length : ns.length = len
  le : len ≤ cap
  max : cap ≤ 9223372036854775807
  nil : a = none → cap = 0
  cell : ∀ x, a = some x → ∀ i, i < len → w.cell? (x.add i) = some (.string (str (ns.getD i [])))

theorem Rs.addr {w : World} {a : Option Addr} {len cap : Nat} {ns : List (List UInt8)} (r : Rs w a len cap ns) (h : 0 < len) :
    ∃ b o, a = some ⟨b, o, none⟩ ∧ ∀ i, i < len → w.cell? ⟨b, o + i, none⟩ = some (.string (str (ns.getD i []))) := by
  cases a with
  | none => have h1 := r.nil rfl; have h2 := r.le; omega
  | some x =>
    obtain ⟨b, o, spot⟩ := x
    have hs : spot = none := by simpa [Addr.add] using World.cell?_spot (r.cell _ rfl 0 h)
    subst hs
    exact ⟨b, o, rfl, fun i hi => by have := r.cell _ rfl i hi; rwa [show (⟨b, o, none⟩ : Addr).add i = ⟨b, o + i, none⟩ by unfold Addr.add; split <;> simp_all] at this⟩

theorem Rs.below {w w' : World} {a : Option Addr} {len cap : Nat} {ns : List (List UInt8)} (r : Rs w a len cap ns) (hb : Below w.heap.size w w') : Rs w' a len cap ns :=
  ⟨r.length, r.le, r.max, r.nil, fun x hx i hi => by
    have h1 := r.cell x hx i hi
    rw [hb.cell (World.block_lt_of_cell? w _ h1)]; exact h1⟩

theorem Rs.cells {w : World} {a : Option Addr} {len cap : Nat} {ns : List (List UInt8)} (r : Rs w a len cap ns) (x : Addr) (hx : a = some x) (j : Nat) (u : Value)
    (h : (ns.map (fun l => Value.string (str l)))[j]? = some u) : w.cell? (x.add j) = some u := by
  have hj : j < ns.length := by
    rcases Nat.lt_or_ge j ns.length with h1 | h1
    · exact h1
    · rw [List.getElem?_eq_none (by simpa using h1)] at h; cases h
  have hl := r.length
  rw [r.cell x hx j (by omega)]
  simp [hj] at h
  subst h
  simp [hj]

end Go.Proofs.YtmmcnkdefpfkiaaDoor
