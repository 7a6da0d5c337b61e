/- From the rows' condition on the two tables to what the contracts ask; the world in which the condition is met. -/
import Derived.Test.YtnlngagcpcpbkaaDoorInstKnown
import Derived.Lib.LaidTab
import Derived.ProofKit
import Derived.LaidMore
import Derived.Stop.LaidErr
import Derived.Stop.Joined
namespace Go.Proofs.YtnlngagcpcpbkaaDoor
open Go.RowKit
set_option linter.unusedVariables false

def lay : List (String × DataW Unit) := [("dovetail/inst.words", Rows.laid_dovetail_inst_words), ("dovetail/inst.names", Rows.laid_dovetail_inst_names)]

/-- An array of texts that reads as the table holds the table's texts, cell for cell. -/
theorem cells_of_strs {H : Type} {enc : TypeId × Value → H} {P : Program} {w : World} {base : Nat} {sp : Nat → Bool} {held : Bool} {fuel : Nat} {t e : TypeId} {n : Nat} {cs : List Value} {zs : List (List UInt8)} {p : List MemPlace}
    (ht : P.underlying t = some (.array n e)) (he : P.underlying e = some .string) (hce : P.cellsOf e = 1) (hct : P.cellsOf t = n)
    (h : DataW.trod enc P w base sp held fuel t cs = some (.agg (zs.map fun z => .lit (.string z)), p)) : cs = zs.map fun z => Value.string ⟨z.toArray⟩ := by
  cases fuel with
  | zero => simp [DataW.trod] at h
  | succ fuel =>
    simp only [DataW.trod, ht, hce, hct, Nat.mul_one] at h
    split at h
    · rename_i hl
      obtain ⟨xs, hm, hx⟩ := Option.map_eq_some_iff.1 h
      have hxs : xs.map (·.1) = zs.map fun z => (DataW.lit (.string z) : DataW H) := by
        have := congrArg Prod.fst hx
        simpa using this
      have hxl : xs.length = n := by simpa using Lib.mapM_length hm
      have hzl : zs.length = n := by
        have := congrArg List.length hxs
        simp at this
        omega
      apply List.ext_getElem?
      intro i
      by_cases hi : i < n
      · obtain ⟨b, hb, hf⟩ := Lib.mapM_at hm i i (by simp [hi])
        obtain ⟨z, hc, rfl, _⟩ := DataW.trod_string he hf
        have h1 : cs[i]? = some (.string z) := by
          have := congrArg (·[0]?) hc
          simpa [List.getElem?_take, List.getElem?_drop] using this
        have h2 : (xs.map (·.1))[i]? = some (DataW.lit (.string z.data.toList) : DataW H) := by simp [hb]
        rw [hxs] at h2
        simp only [List.getElem?_map, Option.map_eq_some_iff, DataW.lit.injEq, Lit.string.injEq] at h2
        obtain ⟨z', hz', rfl⟩ := h2
        rw [h1]
        simp [hz']
      · rw [List.getElem?_eq_none (by omega), List.getElem?_eq_none (by simp; omega)]
    · cases h

theorem gW : Tryd.prog.globalNamed "dovetail/inst.words" = some 0 := by kernel_rfl
theorem gN : Tryd.prog.globalNamed "dovetail/inst.names" = some 1 := by kernel_rfl
theorem tW : (Tryd.prog.globals[0]?).map (·.type) = some 56 := by kernel_rfl
theorem tN : (Tryd.prog.globals[1]?).map (·.type) = some 61 := by kernel_rfl
theorem cW : Tryd.prog.cellsOf 56 = 66 := by kernel_rfl
theorem cN : Tryd.prog.cellsOf 61 = 66 := by kernel_rfl
theorem cU : Tryd.prog.cellsOf 22 = 1 := by kernel_rfl
theorem cS : Tryd.prog.cellsOf 9 = 1 := by kernel_rfl
theorem words_is : (Rows.laid_dovetail_inst_words : DataW Unit) = Lib.tabData .u32 wordsL := by kernel_rfl
theorem names_is : (Rows.laid_dovetail_inst_names : DataW Unit) = .agg (namesL.map fun z => .lit (.string z)) := by kernel_rfl
theorem words_len : wordsL.length = 66 := by decide
theorem names_len : namesL.length = 66 := by decide

theorem laid_of {W : World} (h : laidMetH Tryd.prog lay W) : Laid W := by
  rw [MakeChecks.laidMetH_plain _ _ _ (by kernel_rfl)] at h
  unfold lay at h
  rw [words_is] at h
  have hT := Lib.tabIs_of_head gW tW Tryd.underlying56 Tryd.underlying22 cU cW h
  have h2 := h.tail
  obtain ⟨ps, ⟨g', t', cs, fuel, p, q, hg', ht', hvar, hd, _, _⟩, _⟩ := h2
  obtain rfl := Option.some.inj (gN.symm.trans hg')
  obtain rfl := Option.some.inj (tN.symm.trans ht')
  rw [names_is] at hd
  have hcs := cells_of_strs Tryd.underlying61 Tryd.underlying9 cS cN hd
  have hn : ∀ k : Nat, k < 66 → W.cell? ⟨1, k, none⟩ = some (.string (nm k)) := fun k hk => by
    have := World.var?_cell hg' hvar k
    rw [this]
    have e : cs[k]? = cs.toList[k]? := by simp
    rw [e, hcs]
    simp [nm, List.getD, names_len, hk]
  refine ⟨?_, fun k hk => hT.cell gW k (by rw [words_len]; exact hk), hn⟩
  have := World.block_lt_of_cell? _ _ (hn 0 (by decide))
  exact this

/-- The door's own heap meets the condition. -/
theorem door_met (os : Os) (args : Array Value) : laidMetH Tryd.prog lay ((World.doorLaid Tryd.prog 400 os).forCall (fun _ _ => 0) ⟨#[], args, []⟩).memory :=
  laidMetH_of_parts3 (fuel := 8) (laidMet_of_run' 8 (by kernel_rfl) (by kernel_rfl)) (by kernel_rfl) (by kernel_rfl)

end Go.Proofs.YtnlngagcpcpbkaaDoor
