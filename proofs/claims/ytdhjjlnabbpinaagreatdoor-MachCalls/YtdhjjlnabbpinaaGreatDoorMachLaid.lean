/- From the rows' condition on the table of words to what the contracts ask; the world in which the condition is met. -/
import Derived.Test.YtdhjjlnabbpinaaGreatDoorJ01
import Derived.Lib.LaidTab
import Derived.ProofKit
import Derived.LaidMore
import Derived.Stop.LaidErr
import Derived.Stop.Joined
namespace Go.Proofs.YtdhjjlnabbpinaaGreatDoor
open Go.RowKit
set_option linter.unusedVariables false
set_option maxRecDepth 100000

def lay : List (String × DataW Unit) := [("dovetail/inst.words", Rows.laid_dovetail_inst_words)]

theorem gW : Tryz.prog.globalNamed "dovetail/inst.words" = some 0 := by kernel_rfl
theorem tW : (Tryz.prog.globals[0]?).map (·.type) = some 157 := by kernel_rfl
theorem cW : Tryz.prog.cellsOf 157 = 66 := by kernel_rfl
theorem cU : Tryz.prog.cellsOf 48 = 1 := by kernel_rfl
theorem words_is : (Rows.laid_dovetail_inst_words : DataW Unit) = Lib.tabData .u32 wordsL := by kernel_rfl
theorem words_len : wordsL.length = 66 := by decide

theorem laid_of {W : World} (h : laidMetH Tryz.prog lay W) : Laid W := by
  rw [MakeChecks.laidMetH_plain _ _ _ (by kernel_rfl)] at h
  unfold lay at h
  rw [words_is] at h
  have hT := Lib.tabIs_of_head gW tW Tryz.underlying157 Tryz.underlying48 cU cW h
  have hc : ∀ k : Nat, k < 66 → W.cell? ⟨0, k, none⟩ = some (.int .u32 (wd k)) := fun k hk => hT.cell gW k (by rw [words_len]; exact hk)
  exact ⟨World.block_lt_of_cell? _ _ (hc 0 (by decide)), hc, trivial⟩

/-- The door's own heap meets the condition. -/
theorem door_met (os : Os) (args : Array Value) : laidMetH Tryz.prog lay ((World.doorLaid Tryz.prog 400 os).forCall (fun _ _ => 0) ⟨#[], args, []⟩).memory :=
  laidMetH_of_parts3 (fuel := 8) (laidMet_of_run' 8 (by kernel_rfl) (by kernel_rfl)) (by kernel_rfl) (by kernel_rfl)

end Go.Proofs.YtdhjjlnabbpinaaGreatDoor
