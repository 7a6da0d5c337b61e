/- The contract of the statements' example, known: it returns true, and what was there stays. -/
import Derived.Test.YtmmcnkdefpfkiaaDoorPuts
namespace Go.Proofs.YtmmcnkdefpfkiaaDoor
open Go.RowKit
set_option linter.unusedVariables false
set_option maxRecDepth 100000
set_option maxRecDepth 20000

theorem Rd.lit (w : World) (bs : List Int) (hb : Bytes bs) (hl : bs.length ≤ 9223372036854775807) (hp : 0 < bs.length) :
    Rd (w.alloc (.cells (bs.map (Value.int .u8)).toArray 5)) (some ⟨w.heap.size, 0, none⟩) bs.length bs.length bs := by
  have ho := World.ownsRow_lit (e := 5) (size := 1) (base := w.heap.size) w (bs.map (Value.int .u8)).toArray bs.length (Nat.le_refl _) (by unfold maxLen; omega) (by simp)
  obtain ⟨a, c, he, hr⟩ := Rd.own (by simpa using ho) hb
  cases he
  exact hr

theorem got12 : got [1, 2] 0 2 = 513 := by decide
theorem has12 : has [1, 2] 0 2 = true := by decide
theorem has14 : has [1, 2] 0 4 = false := by decide
theorem bytes12 : Bytes [1, 2] := by intro x hx; simp at hx; omega
theorem bytes000 : Bytes [0, 0, 0] := by intro x hx; simp at hx; omega
theorem set000 : strOfNums (setLe [0, 0, 0] 1 772 2) = ⟨#[0, 4, 3]⟩ := by decide
theorem flat258 : strOfNums ([] ++ flat 2 [258]) = ⟨#[2, 1]⟩ := by decide



end Go.Proofs.YtmmcnkdefpfkiaaDoor
