/- The walk of MachTraps: each run that can't go on is trapped, and registers and place stay as they were. -/
import Derived.Test.YtejmifokceoofaaDoorMachTrapsA
import Derived.Test.YtejmifokceoofaaDoorMachTrapsB
import Derived.Test.YtejmifokceoofaaDoorMachTrapsC
import Derived.Test.YtejmifokceoofaaDoorMachTrapsD
namespace Go.Proofs.YtejmifokceoofaaDoor
open Go.RowKit Go.Maps
set_option linter.unusedVariables false
set_option maxRecDepth 100000

theorem traps_walk (k v : Int) (a : Option Addr) (n c : Nat) (ds : List Int) (w : World) (hk : 0 ≤ k ∧ k ≤ 255) (hv : 0 ≤ v ∧ v ≤ 65535) (r : Rd w a n c ds) (hL : Laid w) :
    Calls Tryd.prog 8 #[.int .u8 k, .int .u16 v, .slice a n c] w fun e w' => e = .returned (.bool true) ∧ Below w.heap.size w w' := by
  by_cases hn : n ≤ 100
  · rcases (show k % 8 = 0 ∨ k % 8 = 1 ∨ k % 8 = 2 ∨ k % 8 = 3 ∨ k % 8 = 4 ∨ k % 8 = 5 ∨ k % 8 = 6 ∨ k % 8 = 7 by omega) with h | h | h | h | h | h | h | h
    · exact traps_0 k v a n c ds w hk hv h hn r hL
    · exact traps_1 k v a n c ds w hk hv h hn r hL
    · exact traps_2 k v a n c ds w hk hv h hn r hL
    · exact traps_3 k v a n c ds w hk hv h hn r hL
    · exact traps_4 k v a n c ds w hk hv h hn r hL
    · exact traps_5 k v a n c ds w hk hv h hn r hL
    · exact traps_6 k v a n c ds w hk hv h hn r hL
    · exact traps_7 k v a n c ds w hk hv h hn r hL
  · have HK := hide (known_8 w hL)
    have hl := r.le
    have hm := r.max
    have t3 : decide ((100 : Int) < (n : Int)) = true := by simp; omega
    clear r hL
    go_enter Tryd.func8, Tryd.ntmps8
    go_wp2_with fail
    refine HK.out.mono ?_
    rintro e W ⟨rfl, hb⟩
    have HB := hide hb
    clear hb HK
    go_wp2
    go_ret
    exact ⟨rfl, HB.out⟩

end Go.Proofs.YtejmifokceoofaaDoor
