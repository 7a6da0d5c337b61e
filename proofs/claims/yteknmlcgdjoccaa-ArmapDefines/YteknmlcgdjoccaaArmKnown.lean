/- What stage 18's laws ask first: known is true. -/
import Derived.Test.YteknmlcgdjoccaaArmIx
import Derived.Test.YteknmlcgdjoccaaArmIndex
import Derived.Test.YteknmlcgdjoccaaArmDef
import Derived.Test.YteknmlcgdjoccaaTxtSame
namespace Go.Proofs.Yteknmlcgdjoccaa
open Go.RowKit Go.Maps
set_option linter.unusedVariables false
set_option maxRecDepth 20000
set_option linter.unusedSimpArgs false

def kE : List En := [⟨[102], 3⟩]
theorem kE_b : ixB kE = [0, 0, 0, 1, 0, 0, 0, 3, 102, 0] := by decide
theorem kE_4 : ixO [0, 0, 0, 1, 0, 0, 0, 3, 102, 0] 4 = some [[102]] := by decide
theorem kE_0 : ixO [0, 0, 0, 1, 0, 0, 0, 3, 102, 0] 0 = none := by decide
theorem kE_ok : ∀ e ∈ kE, En.Ok e := by
  intro e he
  simp [kE] at he
  subst he
  exact ⟨by decide, by decide, by decide⟩

set_option maxHeartbeats 8000000 in
theorem known_18 (w : World) : Calls Try.prog 6 #[] w fun e w' => e = .returned (.bool true) ∧ Below w.heap.size w w' := by
  have hR1 : Ren (w.alloc (.cells #[.string ⟨#[102]⟩, .int .i64 3] 27)) (some ⟨w.heap.size, 0, none⟩) 1 1 kE := Rr.lit (C := enC) (ok := En.Ok) w 27 kE kE_ok (by decide)
  have HW := hide (ixbytes_any _ _ _ _ _ hR1 (by decide) (by decide))
  have HB1 : Hid (Below w.heap.size w (w.alloc (.cells #[.string ⟨#[102]⟩, .int .i64 3] 27))) := (Below.refl _ _).alloc (Nat.le_refl _) _
  rw [kE_b] at HW
  clear hR1
  go_enter Try.func6, Try.ntmps6
  go_wp2_with fail
  refine HW.out.mono ?_
  rintro e W2 ⟨v2, rfl, hp⟩
  have HB2 := hide (HB1.out.trans (hp.bel.mono HB1.out.size))
  obtain ⟨a2, c2, hv2, hrt⟩ := hp.rt
  obtain rfl : v2 = .slice a2 10 c2 := hv2
  have hc2 := hrt.le
  have hc2' : 10 ≤ c2 := hc2
  have HRT := hide hrt
  have HP := hide (ixparse_any a2 c2 _ W2 hrt 4 (by decide) (by decide))
  rw [kE_4] at HP
  clear HW HB1 hp hrt hc2
  go_wp2_with fail
  refine HP.out.mono ?_
  rintro e W3 ⟨hb3, v3, rfl, ho3⟩
  have HO3 := hide ho3
  have HB3 := hide (HB2.out.trans (hb3.mono HB2.out.size))
  have hrt3 : Rt W3 a2 c2 _ := Rd.below HRT.out hb3
  have HRT3 := hide hrt3
  have HP0 := hide (ixparse_any a2 c2 _ W3 hrt3 0 (by decide) (by decide))
  rw [kE_0] at HP0
  clear HP hb3 ho3 hrt3 HRT
  go_wp2_with fail
  refine HP0.out.mono ?_
  rintro e W4 ⟨hb4, he4⟩
  obtain rfl : e = .returned (.tuple #[.slice none 0 0, .int .i64 41]) := he4
  have HB4 := hide (HB3.out.trans (hb4.mono HB3.out.size))
  have hcv := Rt.txt (show Rt W4 a2 c2 _ from Rd.below HRT3.out hb4) 10 rfl
  have hq : ((str [0, 0, 0, 1, 0, 0, 0, 3, 102, 0]).toList == [0, 0, 0, 1, 0, 0, 0, 3, 102, 0]) = true := (strq _ _).trans (decide_eq_true rfl)
  obtain ⟨a3, c3, hv3, hr3⟩ := Rs.own (rowKept (B0 := 0) HO3.out hb4)
  obtain rfl : v3 = .slice a3 1 c3 := hv3
  have hS2 := Rs.lit W4 9 [[102]] (by decide)
  have hS1 := Rs.below hr3 ((Below.refl _ _).alloc (Nat.le_refl _) (.cells (csT [[102]]).toArray 9))
  have HS := hide (strs_eq _ _ _ _ _ _ _ hS1 hS2)
  have HB5 : Hid (Below w.heap.size w (W4.alloc (.cells #[.string ⟨#[102]⟩] 9))) := HB4.out.alloc HB4.out.size _
  have hc3 := hr3.le
  clear HP0 hb4 HO3 HRT3 hr3 hS1 hS2
  generalize str [0, 0, 0, 1, 0, 0, 0, 3, 102, 0] = S at *
  trace_state
  go_wp2_with fail
  refine HS.out.mono ?_
  rintro e W6 ⟨rfl, hb6⟩
  have HB6 := hide (HB5.out.trans (hb6.mono HB5.out.size))
  have HD := hide (dfn_any (.slice none 0 0) (.slice none 0 0) none 0 0 [] W6 (Rr.nothing W6) (by decide) (fun s hs => by cases hs))
  clear HS hb6
  go_wp2_with fail
  refine HD.out.mono ?_
  rintro e W7 ⟨v7, rfl, ho7, hb7⟩
  obtain ⟨a7, c7, hv7, _⟩ := Rs.own ho7
  obtain rfl : v7 = .slice a7 0 c7 := hv7
  have HB7 := hide (HB6.out.trans (hb7.mono HB6.out.size))
  clear HD ho7 hb7
  go_wp2_with fail
  go_ret
  exact ⟨rfl, HB7.out⟩

end Go.Proofs.Yteknmlcgdjoccaa
