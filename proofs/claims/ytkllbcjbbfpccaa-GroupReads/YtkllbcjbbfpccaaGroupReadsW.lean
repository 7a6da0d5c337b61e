/- The walk of GroupReads. -/
import Derived.Test.YtkllbcjbbfpccaaGroupKnown
import Derived.Test.YtkllbcjbbfpccaaGroupRef
import Derived.Test.YtkllbcjbbfpccaaGroupDoc
namespace Go.Proofs.Ytkllbcjbbfpccaa
open Go.RowKit
set_option linter.unusedVariables false
set_option linter.unusedSimpArgs false

/-- What is told of a group hangs on its bytes alone. -/
theorem gr_told (bs : List Int) (sects : Int) : ∃ (m : Nat) (te : Int) (L : List Int), ∀ e W, GrR bs sects e W → ∃ a c, e = .returned (.tuple #[.slice a m c, .int .i64 te]) ∧ Ri W a m c L := by
  by_cases h : grOk bs sects
  · refine ⟨bs.length / 4 - 1, 0, grM bs, fun e W hs => ?_⟩
    rcases hs with ⟨_, a, c, he, h1⟩ | ⟨h1, _⟩
    · exact ⟨a, c, he, h1⟩
    · exact absurd h h1
  · refine ⟨0, 34, [], fun e W hs => ?_⟩
    rcases hs with ⟨h1, _⟩ | ⟨_, he⟩
    · exact absurd h1 h
    · exact ⟨none, 0, he, Ri.nothing W⟩

set_option maxHeartbeats 3200000 in
set_option maxRecDepth 20000 in
theorem groupreads_walk (a1 : Option Addr) (len1 cap1 : Nat) (b1 : List Int) (a : Option Addr) (n cap : Nat) (l : List Int) (sects : Int) (w : World) (r1 : Rd w a1 len1 cap1 b1) (r : Ri w a n cap l) (y0 : -9223372036854775808 ≤ sects) (y1 : sects ≤ 9223372036854775807) :
    Calls Try.prog 3 #[.slice a1 len1 cap1, .slice a n cap, .int .i64 sects] w fun e w' => e = .returned (.bool true) ∧ Below w.heap.size w w' := by
  have hmx := r.row.max
  have hle := r.row.le
  have hmx1 := r1.max
  have hle1 := r1.le
  have HR := hide r
  have HR1 := hide r1
  have KN := hide (known_14 w)
  clear r r1
  by_cases h1 : 200 < len1
  · have h1' : (200 : Int) < (len1 : Int) := by omega
    go_enter Try.func3, Try.ntmps3
    go_wp2_with fail
    refine KN.out.mono ?_
    rintro e W1 ⟨rfl, b1⟩
    have B1 := hide b1
    clear b1
    go_wp2
    go_ret
    exact ⟨rfl, B1.out⟩
  have h1' : ¬ ((200 : Int) < (len1 : Int)) := by omega
  by_cases h : 20 < n
  · have h' : (20 : Int) < (n : Int) := by omega
    go_enter Try.func3, Try.ntmps3
    go_wp2_with fail
    refine KN.out.mono ?_
    rintro e W1 ⟨rfl, b1⟩
    have B1 := hide b1
    clear b1
    go_wp2
    go_ret
    exact ⟨rfl, B1.out⟩
  have h' : ¬ ((20 : Int) < (n : Int)) := by omega
  go_enter Try.func3, Try.ntmps3
  go_wp2_with fail
  refine KN.out.mono ?_
  rintro e W1 ⟨rfl, bw1⟩
  have B1 := hide bw1
  have z1 := bw1.size
  have R1 := hide (HR.out.below bw1)
  have P1 := hide (HR1.out.below bw1)
  have hlen := HR.out.length
  clear bw1 KN HR HR1
  have MA := hide (grbytes_any a n cap l W1 R1.out (by omega))
  go_wp2_with fail
  refine MA.out.mono ?_
  rintro e W2 ⟨a3, c3, rfl, r3, bw2⟩
  have B2 := hide (B1.out.trans (bw2.mono z1))
  have z2 := B2.out.size
  have R2 := hide (R1.out.below bw2)
  have P2 := hide (P1.out.below bw2)
  obtain ⟨ln, hln⟩ : ∃ ln, 4 + n * 4 = ln := ⟨_, rfl⟩
  have hln2 : ln ≤ 480 := by omega
  rw [hln] at r3 ⊢
  have T2 := hide r3
  have MB := hide (fun W (bb : Below W2.heap.size W2 W) => rgrb_any a n cap l W (R2.out.below bb) (by omega))
  rw [hln] at MB
  obtain ⟨B, hB⟩ : ∃ B, strOfNums (grL l) = B := ⟨_, rfl⟩
  have s0 := (r3.below ((Below.refl W2.heap.size W2).drew)).str
  rw [hB] at s0
  have HBB := hide hB
  clear bw2 MA R1 P1 B1 z1 r3 hB
  go_upto_region 6 with fail
  have hq := strq_yes B
  go_cut [31] (fun u wx => u = .bool false ∧ Hid (Below W2.heap.size W2 wx))
  case first =>
    go_region_with (first
      | (go_at_call 9; refine (MB.out _ (Below.refl _ _).drew).mono ?_; rintro e W3 ⟨v3, rfl, o3, bw3⟩; obtain ⟨a4, c4, hv4, r4⟩ := Rd.own o3 (grL_bytes l); subst hv4; have s3 := (T2.out.below ((Below.refl W2.heap.size W2).drew.trans bw3)).str; have s4 := r4.str; rw [HBB.out] at s3 s4; have B3 := hide ((Below.refl W2.heap.size W2).drew.trans bw3); clear o3 bw3 r4 s0))
    all_goals
      go_wp2
      go_meet
      case rel => exact ⟨rfl, B3⟩
  case rest =>
    obtain ⟨rfl, BC⟩ := hcut
    have B4 := hide (B2.out.trans (BC.out.mono z2))
    have z4 := B4.out.size
    have T4 := hide (T2.out.below BC.out)
    have P4 := hide (P2.out.below BC.out)
    clear R2 P2 T2 BC B2 z2 MB s0 hq HBB
    have b5 := (Below.refl wc.heap.size wc).alloc (Nat.le_refl _) (.cells #[.slice a1 len1 cap1, .slice a3 ln c3] 22)
    have X5 := heap_alloc_new wc (.cells #[.slice a1 len1 cap1, .slice a3 ln c3] 22)
    go_upto_region 9 with fail
    obtain ⟨Y, hY⟩ : ∃ Y, wc.heap.size = Y := ⟨_, rfl⟩
    obtain ⟨V, hV⟩ : ∃ V, wc.alloc (.cells #[.slice a1 len1 cap1, .slice a3 ln c3] 22) = V := ⟨_, rfl⟩
    have B5 := hide (B4.out.trans (b5.mono z4))
    have T5 := hide (T4.out.below b5)
    have P5 := hide (P4.out.below b5)
    rw [hV] at X5 B5 T5 P5 ⊢
    rw [hY] at X5 ⊢
    have HX := hide X5
    have hYV := (Array.getElem?_eq_some_iff.1 X5).1
    have z5 := B5.out.size
    clear hV hY b5 X5 B4 z4 T4 P4
    go_loopg [36] 2 (fun gg i wr => ∃ k : Nat, k ≤ 2 ∧ gg = 2 - k ∧ i = .int .i64 (k : Int) ∧ Hid (Below V.heap.size V wr))
    case atStart => exact ⟨0, by omega, rfl, rfl, Below.refl _ _⟩
    case round =>
      obtain ⟨k, hk, rfl, rfl, BK⟩ := hrel
      have zk := BK.out.size
      by_cases hlt : k < 2
      · have hlt' : (k : Int) < 2 := by omega
        obtain ⟨ay, ly, cy, bs, hc, ry, hly⟩ : ∃ ay ly cy bs, wr.cell? ⟨Y, k, none⟩ = some (.slice ay ly cy) ∧ Rd wr ay ly cy bs ∧ ly ≤ 1000000 := by
          have hx := (BK.out.block Y hYV).trans HX.out
          rcases (show k = 0 ∨ k = 1 by omega) with rfl | rfl
          · exact ⟨a1, len1, cap1, _, by rw [cell_of_row _ _ 0 _ _ (0, 0) hx]; rfl, P5.out.below BK.out, by omega⟩
          · exact ⟨a3, ln, c3, _, by rw [cell_of_row _ _ 1 _ _ (0, 0) hx]; rfl, T5.out.below BK.out, by omega⟩
        obtain ⟨m, te, L, told⟩ := gr_told bs sects
        have HTO := hide told
        have RY := hide ry
        have PA := hide (grparse_any ay ly cy bs sects wr ry y0 y1 hly)
        clear told ry
        go_wp2_with fail
        refine PA.out.mono ?_
        rintro e W5 ⟨hp, b6⟩
        obtain ⟨p1, q1, rfl, rl1⟩ := HTO.out e W5 hp
        have RL1 := hide rl1
        have PB := hide (rgrof_any ay ly cy bs sects W5 (RY.out.below b6) y0 y1 hly)
        have B6 := hide (BK.out.trans (b6.mono zk))
        have z6 := B6.out.size
        clear rl1 hp b6 PA RY hc
        go_wp2_with fail
        refine PB.out.mono ?_
        rintro e W6 ⟨hp, b7⟩
        obtain ⟨p3, q3, rfl, rl2⟩ := HTO.out e W6 hp
        have SM := hide (ints_eq p1 m q1 L p3 q3 W6 (RL1.out.below b7) rl2)
        have B7 := hide (B6.out.trans (b7.mono z6))
        have z7 := B7.out.size
        clear rl2 hp b7 PB B6 z6 RL1 HTO
        go_wp2_with fail
        refine SM.out.mono ?_
        rintro e W7 ⟨rfl, b8⟩
        have B9 := hide (B7.out.trans (b8.mono z7))
        clear b8 SM B7
        go_wp2
        go_roundg (2 - (k + 1))
        case measure => omega
        case rel => exact ⟨k + 1, by omega, rfl, by go_num, B9⟩
      · have BF := hide (B5.out.trans (BK.out.mono z5))
        clear BK
        go_wp2
        go_ret
        exact ⟨rfl, BF.out⟩

end Go.Proofs.Ytkllbcjbbfpccaa
