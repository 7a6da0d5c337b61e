/- What a slice of numbers that came in is to the contracts: from what the row's step hands over to the slices that are read. -/
import Derived.Test.YtmmcnkdefpfkiaaDoorKnown
import Derived.OpenShut
namespace Go.Proofs.YtmmcnkdefpfkiaaDoor
open Go.RowKit

theorem IsRow.rd {w : World} {a : Option Addr} {len cap : Nat} {zs : List Int} (h : IsRow .u8 w a len cap zs) : Rd w a len cap (zs.take len) := by
  have r := h.rn (top := 255) (by decide) (fun n hn => bounds_u8 hn)
  exact ⟨r.length, r.le, r.max, r.fit, r.nil, r.cell⟩

end Go.Proofs.YtmmcnkdefpfkiaaDoor
