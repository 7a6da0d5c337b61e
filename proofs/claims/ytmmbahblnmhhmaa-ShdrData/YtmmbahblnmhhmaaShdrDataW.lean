/- The walk of ShdrData. -/
import Derived.Test.YtmmbahblnmhhmaaShdrKnown
namespace Go.Proofs.Ytmmbahblnmhhmaa
open Go.RowKit
set_option linter.unusedVariables false
set_option linter.unusedSimpArgs false

set_option maxHeartbeats 1600000 in
set_option maxRecDepth 20000 in
theorem data_walk (a : Option Addr) (len cap : Nat) (bs : List Int) (s : Sh) (w : World) (r : Rd w a len cap bs) (hs : s.Ok) :
    Calls Try.prog 5 #[.slice a len cap, shV s] w fun e w' => e = .returned (.bool true) ∧ Below w.heap.size w w' := by
  have hmx := r.max
  have hle := r.le
  have b0 := (Below.refl w.heap.size w).alloc (Nat.le_refl _) (.cells s.cells.toArray 47)
  have z0 := b0.size
  have H0 := hide (ShB.new w s)
  have R0 := hide (r.below b0)
  have B0 := hide b0
  have KN := hide (known_11 (w.alloc (.cells s.cells.toArray 47)))
  have z0' : (w.alloc (.cells s.cells.toArray 47)).heap.size = w.heap.size + 1 := by simp
  clear r b0
  unfold shV
  by_cases h : 300 < len
  · have h' : (300 : Int) < (len : Int) := by omega
    go_enter Try.func5, Try.ntmps5
    go_wp2_with fail
    refine KN.out.mono ?_
    rintro e W1 ⟨rfl, b1⟩
    have B1 := hide (B0.out.trans (b1.mono z0))
    clear b1
    go_wp2
    go_ret
    exact ⟨rfl, B1.out⟩
  · have h' : (len : Int) ≤ 300 := by omega
    go_enter Try.func5, Try.ntmps5
    go_wp2_with fail
    refine KN.out.mono ?_
    rintro e W1 ⟨rfl, b1⟩
    have H1 := hide (H0.out.below (by omega) b1)
    have R1 := hide (R0.out.below b1)
    have B1 := hide (B0.out.trans (b1.mono z0))
    have z1 := B1.out.size
    have DA := hide (sdata_any a len cap bs s W1 R1.out hs (by omega))
    unfold shV at DA
    obtain ⟨c0, c1, c2, c3, c4, c5, c6, c7, c8, c9⟩ := H1.out.at
    simp only [Nat.zero_add] at c0 c1 c2 c3 c4 c5 c6 c7 c8 c9
    clear b1 H0 R0 B0 KN z0 z0'
    go_wp2_with fail
    refine DA.out.mono ?_
    rintro e W2 ⟨a2, l2, k2, rfl, r2, b2⟩
    have H2 := hide (H1.out.below H1.out.lt b2)
    have R2 := hide (R1.out.below b2)
    have B2 := hide (B1.out.trans (b2.mono z1))
    have z2 := B2.out.size
    have D2 := hide r2
    have DB := hide (rdata_any a len cap bs s W2 R2.out hs (by omega))
    unfold shV at DB
    clear c0 c1 c2 c3 c4 c5 c6 c7 c8 c9 r2 b2 H1 R1 B1 DA z1
    obtain ⟨c0, c1, c2, c3, c4, c5, c6, c7, c8, c9⟩ := H2.out.at
    simp only [Nat.zero_add] at c0 c1 c2 c3 c4 c5 c6 c7 c8 c9
    go_wp2_with fail
    refine DB.out.mono ?_
    rintro e W3 ⟨a3, l3, k3, rfl, r3, b3⟩
    have s2 := (D2.out.below b3).str
    have s3 := r3.str
    have B3 := hide (B2.out.trans (b3.mono z2))
    have hq := strq_yes (strOfNums (dtL bs s))
    generalize strOfNums (dtL bs s) = S at *
    generalize dtB bs s = t at *
    clear c0 c1 c2 c3 c4 c5 c6 c7 c8 c9 r3 b3 H2 R2 B2 DB z2 D2
    go_wp2
    go_ret
    exact ⟨ret_bool (by simp), B3.out⟩

end Go.Proofs.Ytmmbahblnmhhmaa
