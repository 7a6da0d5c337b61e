/- The chapter's example (known of layer 10); the walk of HeadReads. -/
import Derived.Test.YtijjkhigomkokaaHeadOf
import Derived.Test.YtijjkhigomkokaaHeadRef
namespace Go.Proofs.Ytijjkhigomkokaa
open Go.RowKit
set_option linter.unusedVariables false
set_option linter.unusedSimpArgs false

theorem zeros_map (m : Nat) : List.replicate m (Value.int .u8 0) = (List.replicate m (0 : Int)).map (Value.int .u8) := by simp
theorem zeros_bytes (m : Nat) : Bytes (List.replicate m (0 : Int)) := fun x hx => by rw [List.eq_of_mem_replicate hx]; omega

def knL : List Int := hb 64 1 0 ++ List.replicate 64 0
theorem kn_bytes : Bytes knL := (hb_bytes _ _ _).append (zeros_bytes _)
theorem kn_T : hdT knL = .tuple #[hdV 64 1 0, .int .i64 0] := by
  have h : hdOk knL := by decide +kernel
  have e1 : got knL 40 8 = 64 := by decide +kernel
  have e2 : got knL 60 2 = 1 := by decide +kernel
  have e3 : got knL 62 2 = 0 := by decide +kernel
  rw [hdT_yes h, e1, e2, e3]
theorem kn_T2 : hdT (knL.take 64) = .tuple #[hdV 0 0 0, .int .i64 30] := hdT_no (by decide +kernel)
theorem kn_k : kd knL = 1 := by decide +kernel
theorem kn_k2 : kd archL = 2 := by decide +kernel
theorem kn_k3 : kd [] = 0 := by decide +kernel

set_option maxHeartbeats 1600000 in
theorem known_10 (w : World) : Calls Try.prog 8 #[] w fun e w' => e = .returned (.bool true) ∧ Below w.heap.size w w' := by
  obtain ⟨i0, hi, hz0, hz1, hz2⟩ := info_parts Try.info8
  go_enter Try.func8, Try.ntmps8
  go_wp2_with fail
  refine (hbytes_any 64 1 0 w (by decide) (by decide) (by decide) (by decide) (by decide) (by decide)).mono ?_
  rintro e W1 ⟨v1, rfl, o1, b1⟩
  have hz : w.heap.size ≤ W1.heap.size := b1.size
  have O1 := hide o1
  have B1 := hide b1
  have L1 := hide o1.lt
  clear o1 b1
  go_wp2_with (at_builtin; refine wpList_append_zeros _ rfl _ _ 22 3 rfl w.heap.size 5 i0 (.int .u8 0) Try.underlying22 Try.underlying3 hi hz0 hz1 hz2 rfl rfl _ 64 _ rfl O1.out (by decide) 64 rfl (by decide) hz ?_)
  intro v2 W2 o2 g2
  have b2 : Below w.heap.size w W2 := B1.out.grown g2 hz (fun j hj => (L1.out j hj).1)
  have o3 : W2.ownsRow w.heap.size 5 1 v2 128 (knL.map (Value.int .u8)) := by
    unfold knL
    rw [List.map_append, ← zeros_map]
    exact o2
  obtain ⟨a2, c2, rfl, r2⟩ := Rd.own o3 kn_bytes
  have R2 := hide r2
  have B2 := hide b2
  have hc2 := r2.le
  have hm2 := r2.max
  obtain ⟨bb, q, rfl, _⟩ := r2.addr (by decide)
  clear o2 o3 g2 b2 r2 O1 B1 L1
  have p1 := parse_any _ _ _ knL W2 R2.out
  rw [kn_T] at p1
  unfold hdV at p1
  have P1 := hide p1
  clear p1
  go_wp2_with fail
  refine P1.out.mono ?_
  rintro e W3 ⟨rfl, hb3⟩
  clear P1
  have z2 : w.heap.size ≤ W2.heap.size := B2.out.size
  have B3 : Hid (Below w.heap.size w (W3.alloc (.cells #[.int .u64 64, .int .i64 1, .int .i64 0] 26))) := (B2.out.trans (hb3.mono z2)).alloc (by have := hb3.size; omega) _
  have R3 := hide ((R2.out.below hb3).below ((Below.refl _ _).alloc (Nat.le_refl _) (.cells #[.int .u64 64, .int .i64 1, .int .i64 0] 26)))
  have Q3 := hide (HdB.new W3 64 1 0)
  clear hb3 R2 B2
  have k0 := fun (W : World) (C : Array Value) (l c : Nat) => kc_zero W C l c
  go_wp2_with fail
  obtain ⟨V3, hV3⟩ : ∃ V3, V3 = W3.alloc (.cells #[.int .u64 64, .int .i64 1, .int .i64 0] 26) := ⟨_, rfl⟩
  obtain ⟨c3, hc3⟩ : ∃ c3, c3 = W3.heap.size := ⟨_, rfl⟩
  have y3 : c3 < V3.heap.size := by rw [hV3, hc3]; simp
  rw [← hV3] at B3 R3 Q3 ⊢
  rw [← hc3] at Q3 ⊢
  clear hV3 hc3
  have p2 := parse_any _ _ _ _ V3 (R3.out.front 64 (by decide))
  rw [kn_T2] at p2
  unfold hdV at p2
  refine p2.mono ?_
  rintro e W4 ⟨rfl, hb4⟩
  clear p2
  have z3 : w.heap.size ≤ V3.heap.size := B3.out.size
  have bv : Below W4.heap.size W4 (W4.alloc (.cells #[.int .u64 0, .int .i64 0, .int .i64 0] 26)) := (Below.refl _ _).alloc (Nat.le_refl _) _
  have z4 := hb4.size
  have b4 := hb4.trans (bv.mono z4)
  obtain ⟨V4, hV4⟩ : ∃ V4, V4 = W4.alloc (.cells #[.int .u64 0, .int .i64 0, .int .i64 0] 26) := ⟨_, rfl⟩
  rw [← hV4] at b4
  have B4 : Hid (Below w.heap.size w V4) := B3.out.trans (b4.mono z3)
  have R4 := hide (R3.out.below b4)
  obtain ⟨q0, q1, q2, _, _, _⟩ := (Q3.out.below y3 b4).at
  have z5 := B4.out.size
  have K4 := hide (kind_any _ _ _ _ V4 R4.out)
  rw [kn_k] at K4
  clear hb4 bv b4 B3 R3 Q3
  go_upto_region 4 with fail
  rw [← hV4]
  clear hV4
  go_wp2_with fail
  refine K4.out.mono ?_
  rintro e W5 ⟨rfl, hb5⟩
  have B5 : Hid (Below w.heap.size w W5) := B4.out.trans (hb5.mono z5)
  have z6 := B5.out.size
  have K5 := hide (kind_any _ _ _ _ _ (Rd.litm (t := 5) (fr := (8, 9)) archL (heap_alloc_new W5 _) arch_bytes (by decide)))
  rw [kn_k2] at K5
  clear K4 hb5 R4 q0 q1 q2
  go_wp2_with fail
  refine K5.out.mono ?_
  rintro e W6 ⟨rfl, hb6⟩
  have B6 : Hid (Below w.heap.size w W6) := (B5.out.alloc z6 _).trans (hb6.mono (by simp; omega))
  have z7 := B6.out.size
  have K6 := hide (kind_any none 0 0 [] W6 (Rd.nothing _))
  rw [kn_k3] at K6
  clear K5 hb6
  go_wp2_with fail
  refine K6.out.mono ?_
  rintro e W7 ⟨rfl, hb7⟩
  have B7 : Hid (Below w.heap.size w W7) := B6.out.trans (hb7.mono z7)
  clear K6 hb7
  go_wp2
  go_ret
  exact ⟨rfl, B7.out⟩

theorem reads_walk (a : Option Addr) (len cap : Nat) (bs : List Int) (w : World) (r : Rd w a len cap bs) :
    Calls Try.prog 3 #[.slice a len cap] w fun e w' => e = .returned (.bool true) ∧ Below w.heap.size w w' := by
  have hmx := r.max
  have hle := r.le
  have HR := hide r
  clear r
  by_cases h : 2000 < len
  · have h' : (2000 : Int) < (len : Int) := by omega
    go_enter Try.func3, Try.ntmps3
    go_wp2_with fail
    refine (known_10 _).mono ?_
    rintro e W1 ⟨rfl, hb⟩
    have HB := hide hb
    clear hb
    go_wp2
    go_ret
    exact ⟨rfl, HB.out⟩
  · have h' : (len : Int) ≤ 2000 := by omega
    obtain ⟨o, n, x, er, hT⟩ : ∃ o n x er, hdT bs = .tuple #[.agg #[.int .u64 o, .int .i64 n, .int .i64 x], .int .i64 er] := by
      by_cases hk : hdOk bs
      · exact ⟨_, _, _, _, hdT_yes hk⟩
      · exact ⟨_, _, _, _, hdT_no hk⟩
    go_enter Try.func3, Try.ntmps3
    go_wp2_with fail
    refine (known_10 _).mono ?_
    rintro e W1 ⟨rfl, hb1⟩
    have R1 := hide (HR.out.below hb1)
    have B1 := hide hb1
    have z1 := hb1.size
    have P1 := hide (parse_any _ _ _ _ W1 R1.out)
    rw [hT] at P1
    clear hb1 HR
    go_wp2_with fail
    refine P1.out.mono ?_
    rintro e W2 ⟨rfl, hb2⟩
    have bv : Below W2.heap.size W2 (W2.alloc (.cells #[.int .u64 o, .int .i64 n, .int .i64 x] 26)) := (Below.refl _ _).alloc (Nat.le_refl _) _
    have z2 := hb2.size
    have b2 := hb2.trans (bv.mono z2)
    have Q2 := hide (HdB.new W2 o n x)
    have y2 : W2.heap.size < (W2.alloc (.cells #[.int .u64 o, .int .i64 n, .int .i64 x] 26)).heap.size := by simp
    have R2 := hide (R1.out.below b2)
    have B2 := hide (B1.out.trans (b2.mono z1))
    have z2' := B2.out.size
    have P2 := hide (rhead_any _ _ _ _ _ R2.out)
    rw [hT] at P2
    clear hb2 bv b2 P1 R1 B1 z2 z1
    go_wp2_with fail
    refine P2.out.mono ?_
    rintro e W3 ⟨rfl, hb3⟩
    generalize hV2 : W2.alloc (.cells #[.int .u64 o, .int .i64 n, .int .i64 x] 26) = V2 at *
    have b3 := hb3.alloc hb3.size (.cells #[.int .u64 o, .int .i64 n, .int .i64 x] 26)
    have Q3 := hide (HdB.new W3 o n x)
    have y3 : W3.heap.size < (W3.alloc (.cells #[.int .u64 o, .int .i64 n, .int .i64 x] 26)).heap.size := by simp
    have R3 := hide (R2.out.below b3)
    have B3 := hide (B2.out.trans (b3.mono z2'))
    have Q2' := hide (Q2.out.below y2 b3)
    obtain ⟨q0, q1, q2, _, _, _⟩ := Q2'.out.at
    obtain ⟨s0, s1, s2, _, _, _⟩ := Q3.out.at
    have K1 := hide (kind_any _ _ _ _ _ R3.out)
    have K2 := hide (fun W (hb : Below w.heap.size w W) (hr : Rd W a len cap bs) => rkind_any _ _ _ _ W hr)
    have z3 := B3.out.size
    generalize kd bs = kk at *
    clear hV2 hb3 b3 P2 R2 B2 Q2 Q2' Q3 y2 y3 hT z2'
    go_wp2_with fail
    refine K1.out.mono ?_
    rintro e W4 ⟨rfl, hb4⟩
    have B4 := hide (B3.out.trans (hb4.mono z3))
    have R4 := hide (R3.out.below hb4)
    clear q0 q1 q2 s0 s1 s2 K1 hb4 R3 B3
    go_wp2_with fail
    refine (K2.out W4 B4.out R4.out).mono ?_
    rintro e w' ⟨rfl, rfl⟩
    go_wp2
    go_ret
    exact ⟨rfl, B4.out⟩

end Go.Proofs.Ytijjkhigomkokaa
