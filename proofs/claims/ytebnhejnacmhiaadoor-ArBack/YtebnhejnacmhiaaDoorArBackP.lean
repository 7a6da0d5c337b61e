/- ArBack's walk, for arguments as a law's opening has them. -/
import Derived.Test.YtebnhejnacmhiaaDoorArBackW
import Derived.Test.YtebnhejnacmhiaaDoorArOpen
namespace Go.Proofs.YtebnhejnacmhiaaDoor
open Go.RowKit Go.Maps
set_option linter.unusedVariables false
set_option maxRecDepth 100000

theorem back_law (a : Option Addr) (len cap : Nat) (l : List Mb) (ai : Option Addr) (leni ci : Nat) (bs : List Int) (w : World) (r : Rmb w a len cap l) (rd : Rd w ai leni ci bs) (L : LaidR w) :
    Calls Tryd.prog 3 #[.slice a len cap, .slice ai leni ci] w fun e w' => e = .returned (.bool true) ∧ Below w.heap.size w w' := by
  obtain rfl := r.length
  obtain ⟨idx, rfl⟩ := nI_of rd.bytes
  obtain rfl : idx.length = leni := by simpa [nI] using rd.length
  exact back_walk a cap l ai ci idx w r rd L

end Go.Proofs.YtebnhejnacmhiaaDoor
