/- The walk of HeadBounds. -/
import Derived.Test.YtijjkhigomkokaaHeadKnown
import Derived.Test.YtijjkhigomkokaaHeadMore
namespace Go.Proofs.Ytijjkhigomkokaa
open Go.RowKit
set_option linter.unusedVariables false
set_option linter.unusedSimpArgs false

theorem bounds_ok (k y z : Nat) (hk : k < 420) (hz : z ≤ 8 + 64 * k) (hz' : 6 + 64 * k ≤ z) (hy : y = k - 1) : hdOk (hb 72 (k : Int) (y : Int) ++ List.replicate z 0) ↔ 1 ≤ k ∧ k ≤ 400 ∧ z = 8 + 64 * k := by
  have := hdOk_hbg 1 243 1 0 0 72 0 64 0 0 64 k y (List.replicate z 0)
  refine this.trans ?_
  rw [List.length_replicate]
  omega
theorem bounds_got (k y z : Nat) (hk : k < 420) (hy : y = k - 1) : got (hb 72 (k : Int) (y : Int) ++ List.replicate z 0) 40 8 = 72 ∧ got (hb 72 (k : Int) (y : Int) ++ List.replicate z 0) 60 2 = (k : Int) ∧ got (hb 72 (k : Int) (y : Int) ++ List.replicate z 0) 62 2 = (y : Int) := by
  obtain ⟨h1, h2, h3, h4, h5, h6, h7, h8, h9, h10, h11, h12, h13⟩ := got_hbg 1 243 1 0 0 72 0 64 0 0 64 k y (List.replicate z 0)
  refine ⟨h6, ?_, ?_⟩
  · refine h12.trans ?_; omega
  · refine h13.trans ?_; omega

set_option maxHeartbeats 1000000 in
theorem bounds_walk (n l : Int) (w : World) (hn : 0 ≤ n) (hn' : n ≤ 65535) (hl : 0 ≤ l) (hl' : l ≤ 255) :
    Calls Try.prog 5 #[.int .u16 n, .int .u8 l] w fun e w' => e = .returned (.bool true) ∧ Below w.heap.size w w' := by
  obtain ⟨i0, hi, hz0, hz1, hz2⟩ := info_parts Try.info8
  obtain ⟨k, hk⟩ : ∃ k : Nat, n % 420 = (k : Int) := ⟨(n % 420).toNat, by omega⟩
  obtain ⟨r, hr⟩ : ∃ r : Nat, l % 3 = (r : Int) := ⟨(l % 3).toNat, by omega⟩
  have hk4 : k < 420 := by omega
  have hr3 : r < 3 := by omega
  obtain ⟨y, hy⟩ : ∃ y : Nat, y = k - 1 := ⟨_, rfl⟩
  have hmax : max ((k : Int) - 1) 0 = (y : Int) := by omega
  obtain ⟨z, hz⟩ : ∃ z : Nat, z = 8 + 64 * k := ⟨_, rfl⟩
  have hzz : (8 : Int) + 64 * (k : Int) = (z : Int) := by omega
  by_cases hk0 : k < 1
  case pos =>
    go_enter Try.func5, Try.ntmps5
    go_wp2_with fail
    refine (known_10 _).mono ?_
    rintro e W1 ⟨rfl, hb1⟩
    have B1 := hide hb1
    have z1 := hb1.size
    clear hb1
    have key : Hid (∀ X, X = (y : Int) → Calls Try.prog 14 #[.agg #[.int .u64 72, .int .i64 (k : Int), .int .i64 X]] W1 fun e w' => ∃ v', e = .returned v' ∧ w'.ownsRow W1.heap.size 5 1 v' 64 ((hb 72 (k : Int) (y : Int)).map (Value.int .u8)) ∧ Below W1.heap.size W1 w') := by
      intro X hX
      subst hX
      exact rhb_any 72 k y W1 (by decide) (by decide) (by omega) (by omega) (by omega) (by omega)
    have HB1 := hide (fun (z2 : Nat) (h2 : 64 + z ≤ 140737488355328) => Bytes.append (hb_bytes 72 (k : Int) (y : Int)) (zeros_bytes z2))
    have hzb : z ≤ 26900 := by omega
    have HT1 := hide (bounds_ok k y z hk4 (by omega) (by omega) hy)
    have HT2 := hide (bounds_ok k y (z - r) hk4 (by omega) (by omega) hy)
    have HG1 := hide (bounds_got k y z hk4 hy)
    have HG2 := hide (bounds_got k y (z - r) hk4 hy)
    have hlen : 64 + z - r = 64 + (z - r) := by omega
    have htk : Hid ((hb 72 (k : Int) (y : Int) ++ List.replicate z 0).take (64 + z - r) = hb 72 (k : Int) (y : Int) ++ List.replicate (z - r) 0) := by
      refine hide ?_
      rw [hlen, List.take_append, hb_len, List.take_of_length_le (by rw [hb_len]; omega), List.take_replicate, show min (64 + (z - r) - 64) z = z - r by omega]
    have HZ := hide hz
    have HY := hide hy
    have HLN := hide hlen
    clear hy hz hlen
    go_wp2_with fail
    all_goals
      refine (key.out _ (by omega)).mono ?_
      rintro e W2 ⟨v2, rfl, o2, b2⟩
      have z2 : W1.heap.size ≤ W2.heap.size := b2.size
      have O2 := hide o2
      have L2 := hide o2.lt
      have B2 := hide (B1.out.trans (b2.mono z1))
      clear o2 b2 key B1
      go_wp2_with (at_builtin; refine wpList_append_zeros _ rfl _ _ 22 3 rfl W1.heap.size 5 i0 (.int .u8 0) Try.underlying22 Try.underlying3 hi hz0 hz1 hz2 rfl rfl _ 64 _ rfl O2.out (by decide) z rfl (by omega) z2 ?_)
      intro v3 W3 o3 g3
      have b3 : Below W1.heap.size W2 W3 := (Below.refl _ _).grown g3 z2 (fun j hj => (L2.out j hj).1)
      have B3 := hide (B2.out.trans (b3.mono z1))
      rw [zeros_map, ← List.map_append] at o3
      obtain ⟨a3, c3, hv3, r3⟩ := Rd.own o3 (HB1.out z (by omega))
      obtain ⟨bb, q, rfl, _⟩ := r3.addr (by omega)
      subst hv3
      have hc3 := r3.le
      have hm3 := r3.max
      obtain ⟨ln, hln⟩ : ∃ ln : Nat, ln = 64 + z := ⟨_, rfl⟩
      have R3 := hide r3
      rw [← hln] at R3 hc3 htk ⊢
      have HLN' := hide hln
      have z3 := B3.out.size
      have hmin : min (r : Int) (ln : Int) = (r : Int) := by omega
      have P1 := hide (parse_any _ _ _ _ W3 R3.out)
      have ln0 : 64 ≤ ln := by omega
      have ln1 : ln ≤ 27000 := by omega
      clear o3 g3 b3 r3 O2 L2 B2 z2 hln
      obtain ⟨L1, hL1⟩ : ∃ L1, L1 = hb 72 (k : Int) (y : Int) ++ List.replicate z 0 := ⟨_, rfl⟩
      obtain ⟨L2, hL2⟩ : ∃ L2, L2 = hb 72 (k : Int) (y : Int) ++ List.replicate (z - r) 0 := ⟨_, rfl⟩
      rw [← hL1] at R3 P1 HT1 HG1 htk
      rw [← hL2] at HT2 HG2 htk
      clear hL1 hL2 HB1
      obtain ⟨l2, hl2n⟩ : ∃ l2 : Nat, ln - r = l2 := ⟨_, rfl⟩
      have hl2 : (ln : Int) - (r : Int) = (l2 : Int) := by omega
      have hl2b : l2 ≤ ln := by omega
      have hkk : ¬ (1 ≤ k ∧ k ≤ 400) := by omega
      have hT1 := hdT_no (fun h => hkk ⟨(HT1.out.1 h).1, (HT1.out.1 h).2.1⟩)
      have hT2 := hdT_no (fun h => hkk ⟨(HT2.out.1 h).1, (HT2.out.1 h).2.1⟩)
      have d1 : decide ((k : Int) < 1) = true := by simp; omega
      clear HT1 HT2 HG1 HG2 hkk HZ HY HLN HLN'
      unfold hdV at hT1 hT2
      rw [hT1] at P1
      go_wp2_with fail
      refine P1.out.mono ?_
      rintro e W4 ⟨rfl, hb4⟩
      have b4 := hb4.alloc hb4.size (.cells #[.int .u64 0, .int .i64 0, .int .i64 0] 26)
      have Q4 := hide (HdB.new W4 0 0 0)
      have y4 : W4.heap.size < (W4.alloc (.cells #[.int .u64 0, .int .i64 0, .int .i64 0] 26)).heap.size := by simp
      have P2 := hide (parse_any _ _ _ _ _ ((R3.out.below b4).front l2 (by omega)))
      rw [← hl2n, htk.out, hT2] at P2
      rw [hl2n] at P2
      have B4 := hide (B3.out.trans (b4.mono z3))
      have z4 := B4.out.size
      clear hb4 b4 P1 B3 z3 R3 hT1 hT2 htk
      go_wp2_with fail
      refine P2.out.mono ?_
      rintro e W5 ⟨rfl, hb5⟩
      generalize hV4 : W4.alloc (.cells #[.int .u64 0, .int .i64 0, .int .i64 0] 26) = V4 at *
      have b5 := hb5.alloc hb5.size (.cells #[.int .u64 0, .int .i64 0, .int .i64 0] 26)
      have B5 := hide (B4.out.trans (b5.mono z4))
      obtain ⟨q0, q1, q2, _, _, _⟩ := (Q4.out.below y4 b5).at
      clear hV4 hb5 b5 P2 B4 Q4 y4 z4
      go_wp2
      go_ret
      exact ⟨rfl, B5.out⟩
  have hk1 : (1 : Int) ≤ (k : Int) := by omega
  go_enter Try.func5, Try.ntmps5
  go_wp2_with fail
  refine (known_10 _).mono ?_
  rintro e W1 ⟨rfl, hb1⟩
  have B1 := hide hb1
  have z1 := hb1.size
  clear hb1
  have key : Hid (∀ X, X = (y : Int) → Calls Try.prog 14 #[.agg #[.int .u64 72, .int .i64 (k : Int), .int .i64 X]] W1 fun e w' => ∃ v', e = .returned v' ∧ w'.ownsRow W1.heap.size 5 1 v' 64 ((hb 72 (k : Int) (y : Int)).map (Value.int .u8)) ∧ Below W1.heap.size W1 w') := by
    intro X hX
    subst hX
    exact rhb_any 72 k y W1 (by decide) (by decide) (by omega) (by omega) (by omega) (by omega)
  have HB1 := hide (fun (z2 : Nat) (h2 : 64 + z ≤ 140737488355328) => Bytes.append (hb_bytes 72 (k : Int) (y : Int)) (zeros_bytes z2))
  have hzb : z ≤ 26900 := by omega
  have HT1 := hide (bounds_ok k y z hk4 (by omega) (by omega) hy)
  have HT2 := hide (bounds_ok k y (z - r) hk4 (by omega) (by omega) hy)
  have HG1 := hide (bounds_got k y z hk4 hy)
  have HG2 := hide (bounds_got k y (z - r) hk4 hy)
  have hlen : 64 + z - r = 64 + (z - r) := by omega
  have htk : Hid ((hb 72 (k : Int) (y : Int) ++ List.replicate z 0).take (64 + z - r) = hb 72 (k : Int) (y : Int) ++ List.replicate (z - r) 0) := by
    refine hide ?_
    rw [hlen, List.take_append, hb_len, List.take_of_length_le (by rw [hb_len]; omega), List.take_replicate, show min (64 + (z - r) - 64) z = z - r by omega]
  have HZ := hide hz
  have HY := hide hy
  have HLN := hide hlen
  clear hy hz hlen
  go_wp2_with fail
  all_goals
    refine (key.out _ (by omega)).mono ?_
    rintro e W2 ⟨v2, rfl, o2, b2⟩
    have z2 : W1.heap.size ≤ W2.heap.size := b2.size
    have O2 := hide o2
    have L2 := hide o2.lt
    have B2 := hide (B1.out.trans (b2.mono z1))
    clear o2 b2 key B1
    go_wp2_with (at_builtin; refine wpList_append_zeros _ rfl _ _ 22 3 rfl W1.heap.size 5 i0 (.int .u8 0) Try.underlying22 Try.underlying3 hi hz0 hz1 hz2 rfl rfl _ 64 _ rfl O2.out (by decide) z rfl (by omega) z2 ?_)
    intro v3 W3 o3 g3
    have b3 : Below W1.heap.size W2 W3 := (Below.refl _ _).grown g3 z2 (fun j hj => (L2.out j hj).1)
    have B3 := hide (B2.out.trans (b3.mono z1))
    rw [zeros_map, ← List.map_append] at o3
    obtain ⟨a3, c3, hv3, r3⟩ := Rd.own o3 (HB1.out z (by omega))
    obtain ⟨bb, q, rfl, _⟩ := r3.addr (by omega)
    subst hv3
    have hc3 := r3.le
    have hm3 := r3.max
    obtain ⟨ln, hln⟩ : ∃ ln : Nat, ln = 64 + z := ⟨_, rfl⟩
    have R3 := hide r3
    rw [← hln] at R3 hc3 htk ⊢
    have HLN' := hide hln
    have z3 := B3.out.size
    have hmin : min (r : Int) (ln : Int) = (r : Int) := by omega
    have P1 := hide (parse_any _ _ _ _ W3 R3.out)
    have ln0 : 64 ≤ ln := by omega
    have ln1 : ln ≤ 27000 := by omega
    clear o3 g3 b3 r3 O2 L2 B2 z2 hln
    obtain ⟨L1, hL1⟩ : ∃ L1, L1 = hb 72 (k : Int) (y : Int) ++ List.replicate z 0 := ⟨_, rfl⟩
    obtain ⟨L2, hL2⟩ : ∃ L2, L2 = hb 72 (k : Int) (y : Int) ++ List.replicate (z - r) 0 := ⟨_, rfl⟩
    rw [← hL1] at R3 P1 HT1 HG1 htk
    rw [← hL2] at HT2 HG2 htk
    clear hL1 hL2 HB1
    obtain ⟨l2, hl2n⟩ : ∃ l2 : Nat, ln - r = l2 := ⟨_, rfl⟩
    have hl2 : (ln : Int) - (r : Int) = (l2 : Int) := by omega
    have hl2b : l2 ≤ ln := by omega
    by_cases hkk : 1 ≤ k ∧ k ≤ 400
    · have d1 : decide ((k : Int) < 1) = false := by simp; omega
      have d2 : decide ((400 : Int) < (k : Int)) = false := by simp; omega
      have hyk : ((y : Int) == (k : Int) - 1) = true := by simp; omega
      have hT1 := hdT_yes (HT1.out.2 ⟨hkk.1, hkk.2, HZ.out⟩)
      rw [HG1.out.1, HG1.out.2.1, HG1.out.2.2] at hT1
      by_cases hr0 : r = 0
      · have hT2 := hdT_yes (HT2.out.2 ⟨hkk.1, hkk.2, by have := HZ.out; omega⟩)
        rw [HG2.out.1, HG2.out.2.1, HG2.out.2.2] at hT2
        have hd : ((r : Int) == 0) = true := by simp; omega
        clear HT1 HT2 HG1 HG2 hkk hr0 HZ HY HLN HLN'
        unfold hdV at hT1 hT2
        rw [hT1] at P1
        go_wp2_with fail
        refine P1.out.mono ?_
        rintro e W4 ⟨rfl, hb4⟩
        have b4 := hb4.alloc hb4.size (.cells #[.int .u64 72, .int .i64 (k : Int), .int .i64 (y : Int)] 26)
        have Q4 := hide (HdB.new W4 72 (k : Int) (y : Int))
        have y4 : W4.heap.size < (W4.alloc (.cells #[.int .u64 72, .int .i64 (k : Int), .int .i64 (y : Int)] 26)).heap.size := by simp
        have P2 := hide (parse_any _ _ _ _ _ ((R3.out.below b4).front l2 (by omega)))
        rw [← hl2n, htk.out, hT2] at P2
        rw [hl2n] at P2
        have B4 := hide (B3.out.trans (b4.mono z3))
        have z4 := B4.out.size
        clear hb4 b4 P1 B3 z3 R3 hT1 hT2 htk
        go_wp2_with fail
        refine P2.out.mono ?_
        rintro e W5 ⟨rfl, hb5⟩
        generalize hV4 : W4.alloc (.cells #[.int .u64 72, .int .i64 (k : Int), .int .i64 (y : Int)] 26) = V4 at *
        have b5 := hb5.alloc hb5.size (.cells #[.int .u64 72, .int .i64 (k : Int), .int .i64 (y : Int)] 26)
        have B5 := hide (B4.out.trans (b5.mono z4))
        obtain ⟨q0, q1, q2, _, _, _⟩ := (Q4.out.below y4 b5).at
        clear hV4 hb5 b5 P2 B4 Q4 y4 z4
        go_wp2
        go_ret
        exact ⟨rfl, B5.out⟩
      · have hT2 := hdT_no (fun h => by have h1 := (HT2.out.1 h).2.2; omega)
        have hd : ((r : Int) == 0) = false := by simp; omega
        clear HT1 HT2 HG1 HG2 hkk hr0 HZ HY HLN HLN'
        unfold hdV at hT1 hT2
        rw [hT1] at P1
        go_wp2_with fail
        refine P1.out.mono ?_
        rintro e W4 ⟨rfl, hb4⟩
        have b4 := hb4.alloc hb4.size (.cells #[.int .u64 72, .int .i64 (k : Int), .int .i64 (y : Int)] 26)
        have Q4 := hide (HdB.new W4 72 (k : Int) (y : Int))
        have y4 : W4.heap.size < (W4.alloc (.cells #[.int .u64 72, .int .i64 (k : Int), .int .i64 (y : Int)] 26)).heap.size := by simp
        have P2 := hide (parse_any _ _ _ _ _ ((R3.out.below b4).front l2 (by omega)))
        rw [← hl2n, htk.out, hT2] at P2
        rw [hl2n] at P2
        have B4 := hide (B3.out.trans (b4.mono z3))
        have z4 := B4.out.size
        clear hb4 b4 P1 B3 z3 R3 hT1 hT2 htk
        go_wp2_with fail
        refine P2.out.mono ?_
        rintro e W5 ⟨rfl, hb5⟩
        generalize hV4 : W4.alloc (.cells #[.int .u64 72, .int .i64 (k : Int), .int .i64 (y : Int)] 26) = V4 at *
        have b5 := hb5.alloc hb5.size (.cells #[.int .u64 0, .int .i64 0, .int .i64 0] 26)
        have B5 := hide (B4.out.trans (b5.mono z4))
        obtain ⟨q0, q1, q2, _, _, _⟩ := (Q4.out.below y4 b5).at
        clear hV4 hb5 b5 P2 B4 Q4 y4 z4
        go_wp2
        go_ret
        exact ⟨rfl, B5.out⟩
    · have hT1 := hdT_no (fun h => hkk ⟨(HT1.out.1 h).1, (HT1.out.1 h).2.1⟩)
      have hT2 := hdT_no (fun h => hkk ⟨(HT2.out.1 h).1, (HT2.out.1 h).2.1⟩)
      have d1 : decide ((k : Int) < 1) = false := by simp; omega
      have d2 : decide ((400 : Int) < (k : Int)) = true := by simp; omega
      clear HT1 HT2 HG1 HG2 hkk HZ HY HLN HLN'
      unfold hdV at hT1 hT2
      rw [hT1] at P1
      go_wp2_with fail
      refine P1.out.mono ?_
      rintro e W4 ⟨rfl, hb4⟩
      have b4 := hb4.alloc hb4.size (.cells #[.int .u64 0, .int .i64 0, .int .i64 0] 26)
      have Q4 := hide (HdB.new W4 0 0 0)
      have y4 : W4.heap.size < (W4.alloc (.cells #[.int .u64 0, .int .i64 0, .int .i64 0] 26)).heap.size := by simp
      have P2 := hide (parse_any _ _ _ _ _ ((R3.out.below b4).front l2 (by omega)))
      rw [← hl2n, htk.out, hT2] at P2
      rw [hl2n] at P2
      have B4 := hide (B3.out.trans (b4.mono z3))
      have z4 := B4.out.size
      clear hb4 b4 P1 B3 z3 R3 hT1 hT2 htk
      go_wp2_with fail
      refine P2.out.mono ?_
      rintro e W5 ⟨rfl, hb5⟩
      generalize hV4 : W4.alloc (.cells #[.int .u64 0, .int .i64 0, .int .i64 0] 26) = V4 at *
      have b5 := hb5.alloc hb5.size (.cells #[.int .u64 0, .int .i64 0, .int .i64 0] 26)
      have B5 := hide (B4.out.trans (b5.mono z4))
      obtain ⟨q0, q1, q2, _, _, _⟩ := (Q4.out.below y4 b5).at
      clear hV4 hb5 b5 P2 B4 Q4 y4 z4
      go_wp2
      go_ret
      exact ⟨rfl, B5.out⟩

end Go.Proofs.Ytijjkhigomkokaa
