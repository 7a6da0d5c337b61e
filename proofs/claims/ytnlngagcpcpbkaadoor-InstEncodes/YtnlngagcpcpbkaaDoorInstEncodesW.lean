/- The walk of the law that any instruction has the document's word, or none. -/
import Derived.Test.YtnlngagcpcpbkaaDoorInstRefEncs
import Derived.Test.YtnlngagcpcpbkaaDoorInstRefName
import Derived.Test.YtnlngagcpcpbkaaDoorInstOpen
import Derived.Deep.QuietTactic
import Derived.BigQuiet
namespace Go.Proofs.YtnlngagcpcpbkaaDoor
open Go.RowKit
set_option linter.unusedVariables false
set_option linter.unusedSimpArgs false

set_option maxRecDepth 100000 in
set_option maxHeartbeats 1600000 in
theorem encodew (o r0 r1 r2 im x f : Int) (s : ByteArray) (b : Bool) (w : World) (hL : Laid w)
    (HK : Hid (∀ w, Laid w → Calls Tryd.prog 9 #[] w fun e w' => e = .returned (.bool true) ∧ Below w.heap.size w w'))
    (HE : Hid (∀ w, Laid w → Calls Tryd.prog 12 #[.agg #[.int .i64 o, .int .i64 r0, .int .i64 r1, .int .i64 r2, .int .i64 im]] w fun e w' => e = .returned (.tuple #[.int .u32 x, .bool b]) ∧ Below w.heap.size w w'))
    (HR : Hid (∀ w, Calls Tryd.prog 13 #[.agg #[.int .i64 o, .int .i64 r0, .int .i64 r1, .int .i64 r2, .int .i64 im]] w fun e w' => e = .returned (.tuple #[.int .u32 x, .bool b]) ∧ Below w.heap.size w w'))
    (HF : Hid (∀ w, Laid w → Calls Tryd.prog 14 #[.int .i64 o] w fun e w' => e = .returned (.int .i64 f) ∧ w' = w))
    (HF2 : Hid (∀ w, Calls Tryd.prog 15 #[.int .i64 o] w fun e w' => e = .returned (.int .i64 f) ∧ w' = w))
    (HN : Hid (∀ w, Laid w → Calls Tryd.prog 16 #[.int .i64 o] w fun e w' => e = .returned (.string s) ∧ w' = w))
    (HN2 : Hid (∀ w, Calls Tryd.prog 17 #[.int .i64 o] w fun e w' => e = .returned (.string s) ∧ w' = w)) :
    Calls Tryd.prog 4 #[.agg #[.int .i64 o, .int .i64 r0, .int .i64 r1, .int .i64 r2, .int .i64 im]] w fun e w' => e = .returned (.bool true) ∧ Below w.heap.size w w' := by
  have HL := hide hL
  clear hL
  go_enter Tryd.func4, Tryd.ntmps4
  go_wp2_with fail
  refine (HK.out _ (HL.out.alloc _)).mono ?_
  rintro e W1 ⟨rfl, hB⟩
  have f0 : W1.cell? ⟨w.heap.size, 0, none⟩ = some (.int .i64 o) := cell_below hB (by go_simp)
  have f1 : W1.cell? ⟨w.heap.size, 1, none⟩ = some (.int .i64 r0) := cell_below hB (by go_simp)
  have f2 : W1.cell? ⟨w.heap.size, 2, none⟩ = some (.int .i64 r1) := cell_below hB (by go_simp)
  have f3 : W1.cell? ⟨w.heap.size, 3, none⟩ = some (.int .i64 r2) := cell_below hB (by go_simp)
  have f4 : W1.cell? ⟨w.heap.size, 4, none⟩ = some (.int .i64 im) := cell_below hB (by go_simp)
  have B1 : Hid (Below w.heap.size w W1) := hide (((Below.refl _ w).alloc (Nat.le_refl _) _).trans (hB.mono (by simp)))
  have L1 := hide (HL.out.then B1.out)
  clear hB HK HL
  go_wp2_with fail
  refine (HE.out _ L1.out).mono ?_
  rintro e W2 ⟨rfl, hB⟩
  have g0 := cell_below hB f0
  have g1 := cell_below hB f1
  have g2 := cell_below hB f2
  have g3 := cell_below hB f3
  have g4 := cell_below hB f4
  have L2 := hide (L1.out.then hB)
  have B2 : Hid (Below w.heap.size w W2) := hide (B1.out.trans (hB.mono B1.out.size))
  clear hB HE f0 f1 f2 f3 f4 B1 L1
  go_wp2_with fail
  refine (HR.out _).mono ?_
  rintro e W3 ⟨rfl, hB⟩
  have f0 := cell_below hB g0
  have L3 := L2.out.then hB
  have LD : Hid (∀ n, Laid (W3.drewN n)) := hide (fun n => L3.then ⟨rfl, rfl, rfl, Nat.le_refl _, fun _ _ => rfl⟩)
  have B3 : Hid (Below w.heap.size w W3) := hide (B2.out.trans (hB.mono B2.out.size))
  clear hB HR g0 g1 g2 g3 g4 B2 L2 L3
  cases b
  all_goals go_wp2_with fail
  all_goals go_quiet (first
    | (go_at_call 14; refine Calls.quiet_of_same (HF.out _ (LD.out _)))
    | (go_at_call 15; refine Calls.quiet_of_same (HF2.out _))
    | (go_at_call 16; refine Calls.quiet_of_same (HN.out _ (LD.out _)))
    | (go_at_call 17; refine Calls.quiet_of_same (HN2.out _)))
  all_goals go_wp2
  all_goals go_ret
  all_goals exact ⟨rfl, B3.out.trans ⟨rfl, rfl, rfl, Nat.le_refl _, fun _ _ => rfl⟩⟩

theorem encode_walk (o r0 r1 r2 im : Int) (w : World) (hL : Laid w) (v0 : -9223372036854775808 ≤ im) (v1 : im ≤ 9223372036854775807) :
    Calls Tryd.prog 4 #[inst o r0 r1 r2 im] w fun e w' => e = .returned (.bool true) ∧ Below w.heap.size w w' :=
  encodew o r0 r1 r2 im _ _ _ _ w hL (hide (fun w hL => known_any w hL)) (hide (fun w hL => enc_any o r0 r1 r2 im w v0 v1 hL)) (hide (fun w => renc_any o r0 r1 r2 im w v0 v1)) (hide (fun w hL => form_any o w hL)) (hide (fun w => rform_any o w)) (hide (fun w hL => name_any o w hL)) (hide (fun w => rname_any o w))

end Go.Proofs.YtnlngagcpcpbkaaDoor
