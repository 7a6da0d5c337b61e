/- The walk of HeadSpoilt. -/
import Derived.Test.YtijjkhigomkokaaHeadKnown
import Derived.Laws.BitsAllLaws
namespace Go.Proofs.Ytijjkhigomkokaa
open Go.RowKit
set_option linter.unusedVariables false
set_option linter.unusedSimpArgs false

theorem xor_u8 (a b : Nat) (ha : a ≤ 255) (hb : b ≤ 255) : bits .xor .u8 (a : Int) (b : Int) = ((a ^^^ b : Nat) : Int) ∧ a ^^^ b ≤ 255 := by
  have h := u8_xor_nat a b (by omega) (by omega)
  have h2 : a ^^^ b < 2 ^ 8 := Nat.xor_lt_two_pow (by omega) (by omega)
  exact ⟨h, by omega⟩

theorem own_below {w w' : World} {B : Nat} {e : TypeId} {size : Nat} {v : Value} {n : Nat} {xs : List Value} (h : w.ownsRow B e size v n xs) (hb : Below w.heap.size w w') : w'.ownsRow B e size v n xs := by
  refine ⟨h.1, ?_⟩
  rcases h.2 with h1 | ⟨g, cap, cur, h1, h2, h3, h4⟩
  · exact .inl h1
  · have hg : g < w.heap.size := by
      rcases Nat.lt_or_ge g w.heap.size with h5 | h5
      · exact h5
      · rw [Array.getElem?_eq_none h5] at h3; cases h3
    exact .inr ⟨g, cap, cur, h1, h2, (hb.block g hg).trans h3, h4⟩

theorem hdT_form (bs : List Int) : ∃ o n x er, hdT bs = .tuple #[.agg #[.int .u64 o, .int .i64 n, .int .i64 x], .int .i64 er] := by
  by_cases hk : hdOk bs
  · exact ⟨_, _, _, _, hdT_yes hk⟩
  · exact ⟨_, _, _, _, hdT_no hk⟩

set_option maxHeartbeats 3200000 in
theorem spoilt_walk (o n x mo at' y : Int) (cut : Bool) (w : World) (ho : 0 ≤ o) (ho' : o ≤ 18446744073709551615) (hn : -9223372036854775808 ≤ n) (hn' : n ≤ 9223372036854775807) (hx : -9223372036854775808 ≤ x) (hx' : x ≤ 9223372036854775807)
    (hmo : 0 ≤ mo) (hmo' : mo ≤ 65535) (hat : 0 ≤ at') (hat' : at' ≤ 65535) (hy : 0 ≤ y) (hy' : y ≤ 255) :
    Calls Try.prog 4 #[.int .u64 o, .int .i64 n, .int .i64 x, .int .u16 mo, .int .u16 at', .int .u8 y, .bool cut] w fun e w' => e = .returned (.bool true) ∧ Below w.heap.size w w' := by
  obtain ⟨i0, hi, hz0, hz1, hz2⟩ := info_parts Try.info8
  obtain ⟨m, hm⟩ : ∃ m : Nat, mo % 3000 = (m : Int) := ⟨(mo % 3000).toNat, by omega⟩
  have hm3 : m < 3000 := by omega
  go_enter Try.func4, Try.ntmps4
  go_wp2_with fail
  refine (known_10 _).mono ?_
  rintro e W1 ⟨rfl, hb1⟩
  have B1 := hide hb1
  have z1 := hb1.size
  clear hb1
  go_wp2_with fail
  have B2 := hide (B1.out.alloc z1 (.cells #[.int .u64 o, .int .i64 n, .int .i64 x] 26))
  have Q2 := hide (HdB.new W1 o n x)
  obtain ⟨V2, hV2⟩ : ∃ V2, V2 = W1.alloc (.cells #[.int .u64 o, .int .i64 n, .int .i64 x] 26) := ⟨_, rfl⟩
  obtain ⟨c2, hc2⟩ : ∃ c2, c2 = W1.heap.size := ⟨_, rfl⟩
  have y2 : c2 < V2.heap.size := by rw [hV2, hc2]; simp
  have z2 := B2.out.size
  rw [← hV2] at B2 Q2 z2 ⊢
  rw [← hc2] at Q2 ⊢
  clear hV2 hc2 B1
  refine (hbytes_any o n x V2 ho ho' hn hn' hx hx').mono ?_
  rintro e W3 ⟨v3, rfl, o3, b3⟩
  have B3 := hide (B2.out.trans (b3.mono z2))
  have Q3 := hide (Q2.out.below y2 b3)
  have O3 := hide o3
  have L3 := hide o3.lt
  have z3 : V2.heap.size ≤ W3.heap.size := b3.size
  have K3 := hide b3
  clear o3 b3 B2 Q2
  go_wp2_with (at_builtin; refine wpList_append_zeros _ rfl _ _ 22 3 rfl V2.heap.size 5 i0 (.int .u8 0) Try.underlying22 Try.underlying3 hi hz0 hz1 hz2 rfl rfl _ 64 _ rfl O3.out (by decide) m rfl (by omega) z3 ?_)
  intro v4 W4 o4 g4
  have b4 : Below V2.heap.size W3 W4 := (Below.refl _ _).grown g4 z3 (fun j hj => (L3.out j hj).1)
  have B4 := hide (B3.out.trans (b4.mono z2))
  have Q4 := hide (Q3.out.below y2 b4)
  rw [zeros_map, ← List.map_append] at o4
  have hbL : Bytes (hb o n x ++ List.replicate m 0) := (hb_bytes _ _ _).append (zeros_bytes _)
  obtain ⟨L, hL⟩ : ∃ L, L = hb o n x ++ List.replicate m 0 := ⟨_, rfl⟩
  have hLt : L.take 64 = hb o n x := by rw [hL, ← hb_len o n x, List.take_left]
  have hLl : L.length = 64 + m := by rw [hL]; simp [hb_len]
  rw [← hL] at o4 hbL
  obtain ⟨ln, hln⟩ : ∃ ln : Nat, ln = 64 + m := ⟨_, rfl⟩
  rw [← hln] at o4 hLl
  have ln0 : 64 ≤ ln := by omega
  have ln1 : ln < 3064 := by omega
  obtain ⟨g, k, hv5, hgl⟩ : ∃ g k, v4 = .slice (some ⟨g, 0, none⟩) ln k ∧ V2.heap.size ≤ g := by
    rcases o4.2 with ⟨_, h3⟩ | ⟨g, c, cur, h3, h4, _⟩
    · omega
    · exact ⟨g, c, h3, h4⟩
  subst hv5
  obtain ⟨a4, k4, hv4, r4⟩ := Rd.own o4 hbL
  cases hv4
  have hk4 := r4.le
  have hk5 := r4.max
  have O4 := hide o4
  have R4 := hide r4
  have z4 := b4.size
  have y4 : c2 < W4.heap.size := by omega
  clear o4 r4 g4 b4 O3 L3 B3 Q3 K3 z3 hL hln hm hm3
  go_upto_region 5 with fail
  obtain ⟨S, hS⟩ : ∃ S, strOfNums (hb o n x) = S := ⟨_, rfl⟩
  have w4 : Below W4.heap.size W4 W4.drew := (Below.refl _ _).drew
  have s4 := ((R4.out.below w4).front 64 ln0).str
  rw [hLt, hS] at s4
  have HRH := hide (rhb_any o n x W4.drew ho ho' hn hn' hx hx')
  obtain ⟨q0, q1, q2, _, _, _⟩ := (Q4.out.below y4 w4).at
  go_cut [40] (fun t wx => t = .bool false ∧ Hid (Below W4.heap.size W4 wx))
  case first =>
    go_region_with (first
      | (go_at_call 14; refine HRH.out.mono ?_; rintro e W5 ⟨v5, rfl, o5, b5⟩; obtain ⟨a5, k5, rfl, r5⟩ := Rd.own o5 (hb_bytes o n x); have s5 := r5.str; have s6 := (((R4.out.below w4).below b5).front 64 ln0).str; rw [hLt, hS] at s6; rw [hS] at s5; have HB5 := hide (w4.trans b5); clear o5 b5 r5 HRH q0 q1 q2))
    all_goals
      go_wp2_with fail
      go_meet
      case rel => exact ⟨rfl, HB5.out⟩
  case rest =>
    obtain ⟨rfl, H5⟩ := hcut
    have O5 := own_below O4.out H5.out
    have B5 := hide (B4.out.trans (H5.out.mono B4.out.size))
    obtain ⟨p, hp⟩ : ∃ p : Nat, at' % (ln : Int) = (p : Int) := ⟨(at' % (ln : Int)).toNat, by have := Int.emod_nonneg at' (b := (ln : Int)) (by omega); omega⟩
    have hp1 : p < ln := by have := Int.emod_lt_of_pos at' (b := (ln : Int)) (by omega); omega
    have hp2 : at'.tmod (ln : Int) = (p : Int) := by rw [Int.tmod_eq_emod_of_nonneg hat, hp]
    have hln0 : ¬ (ln : Int) = 0 := by omega
    have hcell := O5.cellAt p (by omega)
    have hfz := O5.frozenAt p
    have hu : L[p]? = some (L.getD p 0) := by
      rw [List.getElem?_eq_getElem (by omega)]
      simp [show p < L.length by omega]
    obtain ⟨u, hu2⟩ : ∃ u, u = L.getD p 0 := ⟨_, rfl⟩
    have hub : 0 ≤ u ∧ u ≤ 255 := by rw [hu2]; have := hbL.at p; simpa using this
    rw [List.getElem?_map, hu, ← hu2] at hcell
    replace hcell : wc.cell? ⟨g, p, none⟩ = some (.int .u8 u) := hcell
    obtain ⟨q, hq⟩ : ∃ q, bits .xor .u8 u y = q := ⟨_, rfl⟩
    have hqb : 0 ≤ q ∧ q ≤ 255 := by
      obtain ⟨u', hu'⟩ := Int.eq_ofNat_of_zero_le hub.1
      obtain ⟨y', hy''⟩ := Int.eq_ofNat_of_zero_le hy
      have := xor_u8 u' y' (by omega) (by omega)
      rw [← hq, hu', hy'', this.1]
      omega
    have hst := O5.stored p (.int .u8 q)
    rw [map_set_int] at hst
    have hbS : Bytes (L.set p q) := fun z hz => by
      rcases List.mem_or_eq_of_mem_set hz with h | h
      · exact hbL z h
      · rw [h]; exact hqb
    obtain ⟨a6, k6, hv6, r6⟩ := Rd.own hst.1 hbS
    cases hv6
    have B6 : Hid (Below w.heap.size w (wc.setCell ⟨g, p, none⟩ (.int .u8 q))) := hide (B5.out.setCell (show w.heap.size ≤ g by omega) _)
    have R6 := hide r6
    have hu0 := hub.1
    have hu1 := hub.2
    clear hst r6 O5 H5 O4 R4 B4 B5 Q4 HRH s4 hS S q0 q1 q2 w4 hbS hbL hu hu2 hub hLt hqb
    cases cut
    · obtain ⟨tq, tn, tx, te, hT⟩ := hdT_form (L.set p q)
      go_upto_region 11 with fail
      generalize hV6 : wc.setCell ⟨g, p, none⟩ (.int .u8 q) = V6 at *
      have z6 := B6.out.size
      clear hV6 hcell hfz
      have P1 := hide (parse_any _ _ _ _ _ R6.out)
      rw [hT] at P1
      go_wp2_with fail
      refine P1.out.mono ?_
      rintro e W7 ⟨rfl, hb7⟩
      have b7 := hb7.alloc hb7.size (.cells #[.int .u64 tq, .int .i64 tn, .int .i64 tx] 26)
      have Q7 := hide (HdB.new W7 tq tn tx)
      have y7 : W7.heap.size < (W7.alloc (.cells #[.int .u64 tq, .int .i64 tn, .int .i64 tx] 26)).heap.size := by simp
      have P2 := hide (rhead_any _ _ _ _ _ (R6.out.below b7))
      rw [hT] at P2
      have B7 := hide (B6.out.trans (b7.mono z6))
      have z7 := B7.out.size
      clear hb7 b7 P1 B6 z6 R6
      go_wp2_with fail
      refine P2.out.mono ?_
      rintro e W8 ⟨rfl, hb8⟩
      generalize hV7 : W7.alloc (.cells #[.int .u64 tq, .int .i64 tn, .int .i64 tx] 26) = V7 at *
      have b8 := hb8.alloc hb8.size (.cells #[.int .u64 tq, .int .i64 tn, .int .i64 tx] 26)
      have B8 := hide (B7.out.trans (b8.mono z7))
      obtain ⟨q0, q1, q2, _, _, _⟩ := (Q7.out.below y7 b8).at
      clear hV7 hb8 b8 P2 B7 Q7 y7 hT z7
      go_wp2
      go_ret
      exact ⟨rfl, B8.out⟩
    · obtain ⟨tq, tn, tx, te, hT⟩ := hdT_form ((L.set p q).take p)
      go_upto_region 11 with fail
      generalize hV6 : wc.setCell ⟨g, p, none⟩ (.int .u8 q) = V6 at *
      have z6 := B6.out.size
      clear hV6 hcell hfz
      have P1 := hide (parse_any _ _ _ _ _ (R6.out.front p (by omega)))
      rw [hT] at P1
      go_wp2_with fail
      refine P1.out.mono ?_
      rintro e W7 ⟨rfl, hb7⟩
      have b7 := hb7.alloc hb7.size (.cells #[.int .u64 tq, .int .i64 tn, .int .i64 tx] 26)
      have Q7 := hide (HdB.new W7 tq tn tx)
      have y7 : W7.heap.size < (W7.alloc (.cells #[.int .u64 tq, .int .i64 tn, .int .i64 tx] 26)).heap.size := by simp
      have P2 := hide (rhead_any _ _ _ _ _ ((R6.out.front p (by omega)).below b7))
      rw [hT] at P2
      have B7 := hide (B6.out.trans (b7.mono z6))
      have z7 := B7.out.size
      clear hb7 b7 P1 B6 z6 R6
      go_wp2_with fail
      refine P2.out.mono ?_
      rintro e W8 ⟨rfl, hb8⟩
      generalize hV7 : W7.alloc (.cells #[.int .u64 tq, .int .i64 tn, .int .i64 tx] 26) = V7 at *
      have b8 := hb8.alloc hb8.size (.cells #[.int .u64 tq, .int .i64 tn, .int .i64 tx] 26)
      have B8 := hide (B7.out.trans (b8.mono z7))
      obtain ⟨q0, q1, q2, _, _, _⟩ := (Q7.out.below y7 b8).at
      clear hV7 hb8 b8 P2 B7 Q7 y7 hT z7
      go_wp2
      go_ret
      exact ⟨rfl, B8.out⟩

end Go.Proofs.Ytijjkhigomkokaa
