/- The contract of the document's Put: the bytes, and behind them a number's lowest bytes; the slice that is handed in is full, or the call's own. -/
import Derived.Test.YtmmcnkdefpfkiaaDoorArg
import Derived.Deep.LoopGhost
import Derived.Deep.RegionWith
import Derived.Deep.QuietTactic
import Derived.BigQuiet
namespace Go.Proofs.YtmmcnkdefpfkiaaDoor
open Go.RowKit
set_option linter.unusedVariables false
set_option maxRecDepth 100000
set_option maxRecDepth 20000

theorem ownsRow_mono {w : World} {B B2 : Nat} {e : TypeId} {size : Nat} {v : Value} {n : Nat} {xs : List Value} (h : w.ownsRow B2 e size v n xs) (hB : B ≤ B2) : w.ownsRow B e size v n xs := by
  refine ⟨h.1, ?_⟩
  rcases h.2 with h2 | ⟨g, cap, cur, h1, h2, h3⟩
  · exact .inl h2
  · exact .inr ⟨g, cap, cur, h1, Nat.le_trans hB h2, h3⟩

/-- A slice that may be appended to without a write to what was there in w0: it is full, or a row made since. -/
def Ext (w0 w : World) (v : Value) (n : Nat) (bs : List Int) : Prop :=
  Below w0.heap.size w0 w ∧ ((∃ a, v = .slice a n n ∧ Rd w0 a n n bs) ∨ (w.ownsRow w0.heap.size 5 1 v n (bs.map (Value.int .u8)) ∧ Bytes bs))

theorem Ext.rd {w0 w : World} {v : Value} {n : Nat} {bs : List Int} (h : Ext w0 w v n bs) : ∃ a c, v = .slice a n c ∧ Rd w a n c bs := by
  obtain ⟨hb, ⟨a, rfl, hr⟩ | ⟨ho, hby⟩⟩ := h
  · exact ⟨a, n, rfl, hr.below hb⟩
  · exact Rd.own ho hby



end Go.Proofs.YtmmcnkdefpfkiaaDoor
