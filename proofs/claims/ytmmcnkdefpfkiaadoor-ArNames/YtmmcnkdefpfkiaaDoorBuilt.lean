/- A struct that is built in a region that draws its order: in one step. -/
import Derived.Test.YtmmcnkdefpfkiaaDoorNums
import Derived.Laws.Tables
import Derived.Great.Walk
import Derived.Deep.RegionHeld3
namespace Go.Proofs.YtmmcnkdefpfkiaaDoor
open Go.RowKit
set_option linter.unusedVariables false
set_option maxRecDepth 100000

theorem run_exec_build {P : Program} {d : Option Tmp} {ty : TypeId} {pos : String} {af : Array Edge} {g : Option (Nat × Bool)} {ρ : Operand → Value} {t : TypeId} {parts : Array (Nat × Operand)} (l : List (Nat × Value)) (cells : Array Value) (hl : (parts.map fun (i, x) => (i, ρ x)).toList = l) (h : P.built t l = some cells) (w : World) :
    (execOp ρ ⟨d, .build t parts, ty, pos, af, g⟩).run P w = .ok (.value (.agg cells)) w := by
  unfold execOp
  rw [← hl] at h
  simp only [Sem.run_bind, run_build w t _ cells h, Result.andThen_ok]
  rfl
/-- A slice literal of few parts, what the parts are said by the caller. -/
theorem wpList_buildOne {P : Program} {ops : Array Oper} {rest : List Oper} {o : Oper} {a : Act} {w : World} {Q : Exit → Act → World → Prop} (hg : o.guard = none) (t e : TypeId) (len : Nat) (parts : Array (Nat × Operand)) (ho : o.op = .buildSlice t len parts) (l : List (Nat × Value)) (cells : Array Value)
    (hl : (parts.map fun (i, x) => (i, a.eval x)).toList = l) (hu : P.underlying t = some (.slice e)) (hf : P.builtSlice e len l = some cells)
    (h : wpList P ops Q rest (a.put o.dst (.slice (some ⟨w.heap.size, 0, none⟩) len len)) (w.alloc (.cells cells e))) : wpList P ops Q (o :: rest) a w :=
  Go.Great.wpList_buildSliceTo hg t e len parts ho w.heap.size rfl o.dst rfl hu cells (by rw [hl]; exact hf) h

end Go.Proofs.YtmmcnkdefpfkiaaDoor
