/- Contracts of the helps Strings (where both sides are the same) and Place. -/
import Derived.Test.YteknmlcgdjoccaaTxtRow
import Derived.Deep.QuietTactic
import Derived.BigQuiet
import Derived.Deep.DeepCutAuto
namespace Go.Proofs.Yteknmlcgdjoccaa
open Go.RowKit
set_option linter.unusedVariables false
set_option maxRecDepth 20000
set_option linter.unusedSimpArgs false

theorem bel_drewS (w : World) (n : Nat) : Below w.heap.size w (w.drewN n) := ⟨rfl, rfl, rfl, Nat.le_refl _, fun _ _ => rfl⟩
theorem strq_yes (a : ByteArray) : (a.toList == a.toList) = true := by simp

set_option maxRecDepth 20000 in
theorem strs_eq (a : Option Addr) (len cap : Nat) (ns : List (List UInt8)) (a2 : Option Addr) (cap2 : Nat) (w : World) (r : Rs w a len cap ns) (r2 : Rs w a2 len cap2 ns) :
    Calls Try.prog 11 #[.slice a len cap, .slice a2 len cap2] w fun e w' => e = .returned (.bool true) ∧ Below w.heap.size w w' := by
  have hl := r.length
  have hle := r.le
  have hmx := r.max
  have HR := hide r
  have HR2 := hide r2
  clear r r2
  by_cases h0 : len = 0
  · subst h0
    go_enter Try.func11, Try.ntmps11
    go_wp2
    go_loopg [5] 0 (fun g kv wi => wi = w ∧ kv = .int .i64 0)
    case atStart => exact ⟨rfl, rfl⟩
    case round =>
      obtain ⟨rfl, rfl⟩ := hrel
      go_wp2
      go_ret
      exact ⟨rfl, Below.refl _ _⟩
  · obtain ⟨b, o, rfl, hc⟩ := HR.out.addr (by omega)
    obtain ⟨b2, o2, rfl, hc2⟩ := HR2.out.addr (by omega)
    clear hc hc2 h0
    go_enter Try.func11, Try.ntmps11
    go_wp2
    go_loopg [5] len (fun g kv wi => ∃ i : Nat, i ≤ len ∧ g = len - i ∧ kv = .int .i64 (i : Int) ∧ Hid (Below w.heap.size w wi))
    case atStart => exact ⟨0, by omega, by omega, rfl, Below.refl _ _⟩
    case round =>
      obtain ⟨i, hi, rfl, rfl, HB⟩ := hrel
      by_cases hlt : i < len
      · have r1 := HR.out.below HB.out
        have r2 := HR2.out.below HB.out
        obtain ⟨b', o', e, hc⟩ := r1.addr (by omega)
        cases e
        obtain ⟨b', o', e, hc2⟩ := r2.addr (by omega)
        cases e
        have hcell := hc i hlt
        have hcell2 := hc2 i hlt
        have hs := strq_yes (str (ns.getD i []))
        have hlt' : (i : Int) < (len : Int) := by omega
        have HB2 := hide (fun q => HB.out.trans ((bel_drewS wr q).mono HB.out.size))
        generalize str (ns.getD i []) = S at *
        clear HR HR2 r1 r2 hc hc2 HB
        go_upto_region 6 with fail
        go_quiet (fail)
        go_wp2
        go_roundg (len - (i + 1))
        case measure => omega
        case rel => exact ⟨i + 1, by omega, rfl, by go_num, HB2.out _⟩
      · go_wp2
        go_ret
        exact ⟨rfl, HB.out⟩



end Go.Proofs.Yteknmlcgdjoccaa
