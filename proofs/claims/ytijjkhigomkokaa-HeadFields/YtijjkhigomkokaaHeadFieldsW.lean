/- The walk of HeadFields. -/
import Derived.Test.YtijjkhigomkokaaHeadSpoiltW
import Derived.Test.YtijjkhigomkokaaHeadMore
namespace Go.Proofs.Ytijjkhigomkokaa
open Go.RowKit
set_option linter.unusedVariables false
set_option linter.unusedSimpArgs false

def fAt (t : Nat) : Nat := [16, 18, 20, 24, 32, 40, 48, 52, 54, 56, 58, 60, 62].getD t 0
def fN (t : Nat) : Nat := [2, 2, 4, 8, 8, 8, 4, 2, 2, 2, 2, 2, 2].getD t 0
def fV (t : Nat) : Nat := [1, 243, 1, 0, 0, 128, 5, 64, 0, 0, 64, 5, 3].getD t 0
def flL : List Int := hb 64 4 2 ++ List.replicate 320 0
theorem fl_len : flL.length = 384 := by unfold flL; rw [List.length_append, hb_len, List.length_replicate]
theorem fl_bytes : Bytes flL := (hb_bytes _ _ _).append (zeros_bytes _)
theorem f_bd (t : Nat) (h : t < 13) : fAt t + fN t ≤ 64 ∧ 2 ≤ fN t ∧ fN t ≤ 8 ∧ fV t ≤ 243 := by
  match t, h with
  | 0, _ => decide
  | 1, _ => decide
  | 2, _ => decide
  | 3, _ => decide
  | 4, _ => decide
  | 5, _ => decide
  | 6, _ => decide
  | 7, _ => decide
  | 8, _ => decide
  | 9, _ => decide
  | 10, _ => decide
  | 11, _ => decide
  | 12, _ => decide

theorem hdT_te {bs : List Int} {o n x te : Int} (h : hdT bs = .tuple #[.agg #[.int .u64 o, .int .i64 n, .int .i64 x], .int .i64 te]) : te = hdE bs := by
  unfold hdT at h
  injection h with h
  have h2 := congrArg (fun a => a[1]?) h
  simp at h2
  exact h2.symm

theorem mask_u64 (n k : Nat) (hn : n < 18446744073709551616) (hk : k ≤ 63) : bits .and .u64 (n : Int) ((2 ^ k - 1 : Nat) : Int) = ((n % 2 ^ k : Nat) : Int) := by
  have h1 : (2 : Nat) ^ k ≤ 2 ^ 63 := Nat.pow_le_pow_right (by decide) hk
  rw [u64_and_nat n (2 ^ k - 1) hn (by omega), Nat.and_two_pow_sub_one_eq_mod]

set_option maxRecDepth 20000 in
set_option maxHeartbeats 6400000 in
theorem fields_walk (t : Nat) (wh v : Int) (w : World) (ht : t < 13) (hwh : wh % 13 = (t : Int)) (hw0 : 0 ≤ wh) (hw1 : wh ≤ 255) (hv0 : 0 ≤ v) (hv1 : v ≤ 18446744073709551615) :
    Calls Try.prog 6 #[.int .u8 wh, .int .u64 v] w fun e w' => e = .returned (.bool true) ∧ Below w.heap.size w w' := by
  obtain ⟨i0, hi, hz0, hz1, hz2⟩ := info_parts Try.info8
  obtain ⟨hf1, hf2, hf3, hf4⟩ := f_bd t ht
  have ht' : (t : Int) < 13 := by omega
  obtain ⟨m0, hm0⟩ : ∃ m0 : Nat, m0 = 320 := ⟨_, rfl⟩
  have HM0 := hide hm0
  clear hm0
  go_enter Try.func6, Try.ntmps6
  go_wp2_with fail
  refine (known_10 _).mono ?_
  rintro e W1 ⟨rfl, hb1⟩
  have B1 := hide hb1
  have z1 := hb1.size
  clear hb1
  go_wp2_with fail
  refine (rhb_any 64 4 2 W1 (by decide) (by decide) (by decide) (by decide) (by decide) (by decide)).mono ?_
  rintro e W2 ⟨v2, rfl, o2, b2⟩
  have z2 : W1.heap.size ≤ W2.heap.size := b2.size
  have O2 := hide o2
  have L2 := hide o2.lt
  have B2 := hide (B1.out.trans (b2.mono z1))
  clear o2 b2 B1
  go_wp2_with (at_builtin; refine wpList_append_zeros _ rfl _ _ 22 3 rfl W1.heap.size 5 i0 (.int .u8 0) Try.underlying22 Try.underlying3 hi hz0 hz1 hz2 rfl rfl _ 64 _ rfl O2.out (by decide) m0 (by rw [HM0.out]; rfl) (by have := HM0.out; omega) z2 ?_)
  intro v3 W3 o3 g3
  have b3 : Below W1.heap.size W2 W3 := (Below.refl _ _).grown g3 z2 (fun j hj => (L2.out j hj).1)
  have B3 := hide (B2.out.trans (b3.mono z1))
  have o4 : W3.ownsRow W1.heap.size 5 1 v3 384 (flL.map (Value.int .u8)) := by
    unfold flL
    rw [List.map_append, ← zeros_map, ← HM0.out, show 384 = 64 + m0 by have := HM0.out; omega]
    exact o3
  obtain ⟨g, k, hv3, hgl⟩ : ∃ g k, v3 = .slice (some ⟨g, 0, none⟩) 384 k ∧ W1.heap.size ≤ g := by
    rcases o4.2 with ⟨_, h3⟩ | ⟨g, c, cur, h3, h4, _⟩
    · omega
    · exact ⟨g, c, h3, h4⟩
  subst hv3
  have O4 := hide o4
  have z3 := B3.out.size
  clear o3 g3 b3 o4 O2 L2 B2 z2
  have cA : ∀ W : World, (W.alloc (.cells #[.int .i64 16, .int .i64 18, .int .i64 20, .int .i64 24, .int .i64 32, .int .i64 40, .int .i64 48, .int .i64 52, .int .i64 54, .int .i64 56, .int .i64 58, .int .i64 60, .int .i64 62] 3)).cell? ⟨W.heap.size, t, none⟩ = some (.int .i64 (fAt t : Int)) := by
    intro W
    rw [cell_of_row _ _ t _ _ (0, 0) (heap_alloc_new W _)]
    clear O4
    match t, ht with
    | 0, _ => rfl
    | 1, _ => rfl
    | 2, _ => rfl
    | 3, _ => rfl
    | 4, _ => rfl
    | 5, _ => rfl
    | 6, _ => rfl
    | 7, _ => rfl
    | 8, _ => rfl
    | 9, _ => rfl
    | 10, _ => rfl
    | 11, _ => rfl
    | 12, _ => rfl
  have cN : ∀ W : World, (W.alloc (.cells #[.int .i64 2, .int .i64 2, .int .i64 4, .int .i64 8, .int .i64 8, .int .i64 8, .int .i64 4, .int .i64 2, .int .i64 2, .int .i64 2, .int .i64 2, .int .i64 2, .int .i64 2] 3)).cell? ⟨W.heap.size, t, none⟩ = some (.int .i64 (fN t : Int)) := by
    intro W
    rw [cell_of_row _ _ t _ _ (0, 0) (heap_alloc_new W _)]
    clear O4
    match t, ht with
    | 0, _ => rfl
    | 1, _ => rfl
    | 2, _ => rfl
    | 3, _ => rfl
    | 4, _ => rfl
    | 5, _ => rfl
    | 6, _ => rfl
    | 7, _ => rfl
    | 8, _ => rfl
    | 9, _ => rfl
    | 10, _ => rfl
    | 11, _ => rfl
    | 12, _ => rfl
  have cV : ∀ W : World, (W.alloc (.cells #[.int .u64 1, .int .u64 243, .int .u64 1, .int .u64 0, .int .u64 0, .int .u64 128, .int .u64 5, .int .u64 64, .int .u64 0, .int .u64 0, .int .u64 64, .int .u64 5, .int .u64 3] 24)).cell? ⟨W.heap.size, t, none⟩ = some (.int .u64 (fV t : Int)) := by
    intro W
    rw [cell_of_row _ _ t _ _ (0, 0) (heap_alloc_new W _)]
    clear O4
    match t, ht with
    | 0, _ => rfl
    | 1, _ => rfl
    | 2, _ => rfl
    | 3, _ => rfl
    | 4, _ => rfl
    | 5, _ => rfl
    | 6, _ => rfl
    | 7, _ => rfl
    | 8, _ => rfl
    | 9, _ => rfl
    | 10, _ => rfl
    | 11, _ => rfl
    | 12, _ => rfl
  obtain ⟨f, hf⟩ : ∃ f, f = fAt t := ⟨_, rfl⟩
  obtain ⟨m, hm⟩ : ∃ m, m = fN t := ⟨_, rfl⟩
  obtain ⟨d, hd⟩ : ∃ d, d = fV t := ⟨_, rfl⟩
  rw [← hf] at cA hf1
  rw [← hm] at cN hf1 hf2 hf3
  rw [← hd] at cV hf4
  have HF := hide hf
  have HM := hide hm
  have HD := hide hd
  clear hf hm hd
  have CA := hide cA
  have CN := hide cN
  have CV := hide cV
  clear cA cN cV
  go_upto_region 4 with fail
  have a4 := CA.out W3
  have O5 := hide (own_below O4.out ((Below.refl _ _).alloc (Nat.le_refl _) (.cells #[.int .i64 16, .int .i64 18, .int .i64 20, .int .i64 24, .int .i64 32, .int .i64 40, .int .i64 48, .int .i64 52, .int .i64 54, .int .i64 56, .int .i64 58, .int .i64 60, .int .i64 62] 3)))
  have B5 := hide (B3.out.alloc z3 (.cells #[.int .i64 16, .int .i64 18, .int .i64 20, .int .i64 24, .int .i64 32, .int .i64 40, .int .i64 48, .int .i64 52, .int .i64 54, .int .i64 56, .int .i64 58, .int .i64 60, .int .i64 62] 3))
  go_upto_region 5 with fail
  generalize W3.alloc (.cells #[.int .i64 16, .int .i64 18, .int .i64 20, .int .i64 24, .int .i64 32, .int .i64 40, .int .i64 48, .int .i64 52, .int .i64 54, .int .i64 56, .int .i64 58, .int .i64 60, .int .i64 62] 3) = W5 at *
  have z5 := B5.out.size
  have a5 := CN.out W5
  have O6 := hide (own_below O5.out ((Below.refl _ _).alloc (Nat.le_refl _) (.cells #[.int .i64 2, .int .i64 2, .int .i64 4, .int .i64 8, .int .i64 8, .int .i64 8, .int .i64 4, .int .i64 2, .int .i64 2, .int .i64 2, .int .i64 2, .int .i64 2, .int .i64 2] 3)))
  have B6 := hide (B5.out.alloc z5 (.cells #[.int .i64 2, .int .i64 2, .int .i64 4, .int .i64 8, .int .i64 8, .int .i64 8, .int .i64 4, .int .i64 2, .int .i64 2, .int .i64 2, .int .i64 2, .int .i64 2, .int .i64 2] 3))
  clear a4 O4 B3 z3 O5 B5
  go_upto_region 6 with fail
  generalize W5.alloc (.cells #[.int .i64 2, .int .i64 2, .int .i64 4, .int .i64 8, .int .i64 8, .int .i64 8, .int .i64 4, .int .i64 2, .int .i64 2, .int .i64 2, .int .i64 2, .int .i64 2, .int .i64 2] 3) = W6 at *
  have z6 := B6.out.size
  clear a5 z5
  -- REGION 6
  by_cases h3 : v % 3 = 0
  · have a7 := CV.out W6
    have O7 := hide (own_below O6.out ((Below.refl _ _).alloc (Nat.le_refl _) (.cells #[.int .u64 1, .int .u64 243, .int .u64 1, .int .u64 0, .int .u64 0, .int .u64 128, .int .u64 5, .int .u64 64, .int .u64 0, .int .u64 0, .int .u64 64, .int .u64 5, .int .u64 3] 24)))
    have B7 := hide (B6.out.alloc z6 (.cells #[.int .u64 1, .int .u64 243, .int .u64 1, .int .u64 0, .int .u64 0, .int .u64 128, .int .u64 5, .int .u64 64, .int .u64 0, .int .u64 0, .int .u64 64, .int .u64 5, .int .u64 3] 24))
    obtain ⟨n1, hn1d⟩ : ∃ n1 : Nat, n1 = d := ⟨_, rfl⟩
    have hn1 : n1 < 18446744073709551616 := by omega
    rw [← hn1d] at a7
    clear hn1d CA CN CV O6 B6 z6
    go_upto_region 8 with fail
    clear a7 h3 hv0 hv1
    generalize hWq : W6.alloc (.cells #[.int .u64 1, .int .u64 243, .int .u64 1, .int .u64 0, .int .u64 0, .int .u64 128, .int .u64 5, .int .u64 64, .int .u64 0, .int .u64 0, .int .u64 64, .int .u64 5, .int .u64 3] 24) = W7 at *
    clear hWq
    go_wp2
    go_loopg [8] m (fun gg i wr => ∃ j : Nat, j ≤ m ∧ gg = m - j ∧ i = .int .i64 (j : Int) ∧ Hid (wr.ownsRow W1.heap.size 5 1 (.slice (some ⟨g, 0, none⟩) 384 k) 384 ((setLe flL f (n1 : Int) j).map (Value.int .u8))) ∧ Hid (Below w.heap.size w wr))
    case atStart => exact ⟨0, by omega, rfl, rfl, by rw [setOf_zero]; exact O7.out, B7.out⟩
    case round =>
      obtain ⟨j, hj, rfl, rfl, HO, HB⟩ := hrel
      clear O7 B7
      by_cases hlt : j < m
      · have hlt' : (j : Int) < (m : Int) := by omega
        have hcell := HO.out.cellAt (f + j) (by omega)
        have hfz := HO.out.frozenAt (f + j)
        have hst := HO.out.stored (f + j) (.int .u8 (byteOf (n1 : Int) j))
        rw [map_set_int, setOf_succ flL f (n1 : Int) j (by rw [fl_len]; omega)] at hst
        have HST := hide hst
        obtain ⟨u0, hu0⟩ : ∃ u0, ((setLe flL f (n1 : Int) j).map (Value.int .u8))[f + j]? = some u0 := ⟨_, List.getElem?_eq_getElem (by rw [List.length_map, setOf_length _ _ _ _ (by rw [fl_len]; omega), fl_len]; omega)⟩
        rw [hu0] at hcell
        clear hu0 hst HO
        go_wp2
        go_roundg (m - (j + 1))
        case measure => omega
        case rel => exact ⟨j + 1, by omega, rfl, by go_num, HST.out.1, HB.out.setCell (show w.heap.size ≤ g by omega) _⟩
      · obtain rfl : j = m := by omega
        obtain ⟨a9, k9, hv9, r9⟩ := Rd.own HO.out (setOf_bytes fl_bytes f (n1 : Int) j)
        cases hv9
        have R9 := hide r9
        have B9 := HB
        have z9 := B9.out.size
        clear HO HB r9 hlt
        have hcs : t = 0 ∨ t = 1 ∨ t = 2 ∨ t = 3 ∨ t = 4 ∨ t = 5 ∨ t = 6 ∨ t = 7 ∨ t = 8 ∨ t = 9 ∨ t = 10 ∨ t = 11 ∨ t = 12 := by omega
        clear ht ht'
        rcases hcs with rfl | rfl | rfl | rfl | rfl | rfl | rfl | rfl | rfl | rfl | rfl | rfl | rfl
        · have hf' : f = 16 := HF.out
          subst hf'
          have hm' : j = 2 := HM.out
          subst hm'
          have hLL : setLe flL 16 (n1 : Int) 2 = hbg (n1 : Int) 243 1 0 0 64 0 64 0 0 64 4 2 ++ List.replicate 320 0 := rfl
          have hcd := hdOk_hbg n1 243 1 0 0 64 0 64 0 0 64 4 2 (List.replicate 320 0)
          rw [List.length_replicate] at hcd
          obtain ⟨v2, hv2⟩ : ∃ v2 : Nat, v2 = n1 % 65536 := ⟨_, rfl⟩
          have hv2b : v2 < 65536 := by omega
          have hOK : hdOk (setLe flL 16 (n1 : Int) 2) ↔ (v2 = 1) := by
            rw [hLL]
            refine hcd.trans ?_
            omega
          have hand : bits .and .u64 (n1 : Int) 65535 = (v2 : Int) := by
            rw [hv2]
            exact mask_u64 n1 16 hn1 (by decide)
          clear hcd hLL HF HM HD hv2
          obtain ⟨LL, hLL⟩ : ∃ LL, LL = setLe flL 16 (n1 : Int) 2 := ⟨_, rfl⟩
          rw [← hLL] at R9 hOK
          clear hLL
          by_cases hc : v2 = 1
          · obtain ⟨tq, tn, tx, te, hT⟩ := hdT_form LL
            have he : te = 0 := by rw [hdT_te hT]; unfold hdE; rw [if_pos (hOK.2 hc)]
            subst he
            have kq : ((v2 : Int) == 1) = true := by simp; omega
            clear hOK hc
            have P1 := hide (parse_any _ _ _ _ _ R9.out)
            rw [hT] at P1
            go_wp2_with fail
            refine P1.out.mono ?_
            rintro e W7 ⟨rfl, hb7⟩
            have b7 := hb7.alloc hb7.size (.cells #[.int .u64 tq, .int .i64 tn, .int .i64 tx] 26)
            have Q7 := hide (HdB.new W7 tq tn tx)
            have y7 : W7.heap.size < (W7.alloc (.cells #[.int .u64 tq, .int .i64 tn, .int .i64 tx] 26)).heap.size := by simp
            have P2 := hide (rhead_any _ _ _ _ _ (R9.out.below b7))
            rw [hT] at P2
            have B7 := hide (B9.out.trans (b7.mono z9))
            have z7 := B7.out.size
            clear hb7 b7 P1 B9 z9 R9
            go_wp2_with fail
            refine P2.out.mono ?_
            rintro e W8 ⟨rfl, hb8⟩
            generalize hV7 : W7.alloc (.cells #[.int .u64 tq, .int .i64 tn, .int .i64 tx] 26) = V7 at *
            have b8 := hb8.alloc hb8.size (.cells #[.int .u64 tq, .int .i64 tn, .int .i64 tx] 26)
            have B8 := hide (B7.out.trans (b8.mono z7))
            obtain ⟨q0, q1, q2, _, _, _⟩ := (Q7.out.below y7 b8).at
            clear hV7 hb8 b8 P2 B7 Q7 y7 hT z7
            go_wp2
            go_ret
            exact ⟨rfl, B8.out⟩
          · obtain ⟨tq, tn, tx, te, hT⟩ := hdT_form LL
            have he : te = 30 := by rw [hdT_te hT]; unfold hdE; rw [if_neg (fun h => hc (hOK.1 h))]
            subst he
            have kq : ((v2 : Int) == 1) = false := by simp; omega
            clear hOK hc
            have P1 := hide (parse_any _ _ _ _ _ R9.out)
            rw [hT] at P1
            go_wp2_with fail
            refine P1.out.mono ?_
            rintro e W7 ⟨rfl, hb7⟩
            have b7 := hb7.alloc hb7.size (.cells #[.int .u64 tq, .int .i64 tn, .int .i64 tx] 26)
            have Q7 := hide (HdB.new W7 tq tn tx)
            have y7 : W7.heap.size < (W7.alloc (.cells #[.int .u64 tq, .int .i64 tn, .int .i64 tx] 26)).heap.size := by simp
            have P2 := hide (rhead_any _ _ _ _ _ (R9.out.below b7))
            rw [hT] at P2
            have B7 := hide (B9.out.trans (b7.mono z9))
            have z7 := B7.out.size
            clear hb7 b7 P1 B9 z9 R9
            go_wp2_with fail
            refine P2.out.mono ?_
            rintro e W8 ⟨rfl, hb8⟩
            generalize hV7 : W7.alloc (.cells #[.int .u64 tq, .int .i64 tn, .int .i64 tx] 26) = V7 at *
            have b8 := hb8.alloc hb8.size (.cells #[.int .u64 tq, .int .i64 tn, .int .i64 tx] 26)
            have B8 := hide (B7.out.trans (b8.mono z7))
            obtain ⟨q0, q1, q2, _, _, _⟩ := (Q7.out.below y7 b8).at
            clear hV7 hb8 b8 P2 B7 Q7 y7 hT z7
            go_wp2
            go_ret
            exact ⟨rfl, B8.out⟩
        · have hf' : f = 18 := HF.out
          subst hf'
          have hm' : j = 2 := HM.out
          subst hm'
          have hLL : setLe flL 18 (n1 : Int) 2 = hbg 1 (n1 : Int) 1 0 0 64 0 64 0 0 64 4 2 ++ List.replicate 320 0 := rfl
          have hcd := hdOk_hbg 1 n1 1 0 0 64 0 64 0 0 64 4 2 (List.replicate 320 0)
          rw [List.length_replicate] at hcd
          obtain ⟨v2, hv2⟩ : ∃ v2 : Nat, v2 = n1 % 65536 := ⟨_, rfl⟩
          have hv2b : v2 < 65536 := by omega
          have hOK : hdOk (setLe flL 18 (n1 : Int) 2) ↔ (v2 = 243) := by
            rw [hLL]
            refine hcd.trans ?_
            omega
          have hand : bits .and .u64 (n1 : Int) 65535 = (v2 : Int) := by
            rw [hv2]
            exact mask_u64 n1 16 hn1 (by decide)
          clear hcd hLL HF HM HD hv2
          obtain ⟨LL, hLL⟩ : ∃ LL, LL = setLe flL 18 (n1 : Int) 2 := ⟨_, rfl⟩
          rw [← hLL] at R9 hOK
          clear hLL
          by_cases hc : v2 = 243
          · obtain ⟨tq, tn, tx, te, hT⟩ := hdT_form LL
            have he : te = 0 := by rw [hdT_te hT]; unfold hdE; rw [if_pos (hOK.2 hc)]
            subst he
            have kq : ((v2 : Int) == 243) = true := by simp; omega
            clear hOK hc
            have P1 := hide (parse_any _ _ _ _ _ R9.out)
            rw [hT] at P1
            go_wp2_with fail
            refine P1.out.mono ?_
            rintro e W7 ⟨rfl, hb7⟩
            have b7 := hb7.alloc hb7.size (.cells #[.int .u64 tq, .int .i64 tn, .int .i64 tx] 26)
            have Q7 := hide (HdB.new W7 tq tn tx)
            have y7 : W7.heap.size < (W7.alloc (.cells #[.int .u64 tq, .int .i64 tn, .int .i64 tx] 26)).heap.size := by simp
            have P2 := hide (rhead_any _ _ _ _ _ (R9.out.below b7))
            rw [hT] at P2
            have B7 := hide (B9.out.trans (b7.mono z9))
            have z7 := B7.out.size
            clear hb7 b7 P1 B9 z9 R9
            go_wp2_with fail
            refine P2.out.mono ?_
            rintro e W8 ⟨rfl, hb8⟩
            generalize hV7 : W7.alloc (.cells #[.int .u64 tq, .int .i64 tn, .int .i64 tx] 26) = V7 at *
            have b8 := hb8.alloc hb8.size (.cells #[.int .u64 tq, .int .i64 tn, .int .i64 tx] 26)
            have B8 := hide (B7.out.trans (b8.mono z7))
            obtain ⟨q0, q1, q2, _, _, _⟩ := (Q7.out.below y7 b8).at
            clear hV7 hb8 b8 P2 B7 Q7 y7 hT z7
            go_wp2
            go_ret
            exact ⟨rfl, B8.out⟩
          · obtain ⟨tq, tn, tx, te, hT⟩ := hdT_form LL
            have he : te = 30 := by rw [hdT_te hT]; unfold hdE; rw [if_neg (fun h => hc (hOK.1 h))]
            subst he
            have kq : ((v2 : Int) == 243) = false := by simp; omega
            clear hOK hc
            have P1 := hide (parse_any _ _ _ _ _ R9.out)
            rw [hT] at P1
            go_wp2_with fail
            refine P1.out.mono ?_
            rintro e W7 ⟨rfl, hb7⟩
            have b7 := hb7.alloc hb7.size (.cells #[.int .u64 tq, .int .i64 tn, .int .i64 tx] 26)
            have Q7 := hide (HdB.new W7 tq tn tx)
            have y7 : W7.heap.size < (W7.alloc (.cells #[.int .u64 tq, .int .i64 tn, .int .i64 tx] 26)).heap.size := by simp
            have P2 := hide (rhead_any _ _ _ _ _ (R9.out.below b7))
            rw [hT] at P2
            have B7 := hide (B9.out.trans (b7.mono z9))
            have z7 := B7.out.size
            clear hb7 b7 P1 B9 z9 R9
            go_wp2_with fail
            refine P2.out.mono ?_
            rintro e W8 ⟨rfl, hb8⟩
            generalize hV7 : W7.alloc (.cells #[.int .u64 tq, .int .i64 tn, .int .i64 tx] 26) = V7 at *
            have b8 := hb8.alloc hb8.size (.cells #[.int .u64 tq, .int .i64 tn, .int .i64 tx] 26)
            have B8 := hide (B7.out.trans (b8.mono z7))
            obtain ⟨q0, q1, q2, _, _, _⟩ := (Q7.out.below y7 b8).at
            clear hV7 hb8 b8 P2 B7 Q7 y7 hT z7
            go_wp2
            go_ret
            exact ⟨rfl, B8.out⟩
        · have hf' : f = 20 := HF.out
          subst hf'
          have hm' : j = 4 := HM.out
          subst hm'
          have hLL : setLe flL 20 (n1 : Int) 4 = hbg 1 243 (n1 : Int) 0 0 64 0 64 0 0 64 4 2 ++ List.replicate 320 0 := rfl
          have hcd := hdOk_hbg 1 243 n1 0 0 64 0 64 0 0 64 4 2 (List.replicate 320 0)
          rw [List.length_replicate] at hcd
          obtain ⟨v2, hv2⟩ : ∃ v2 : Nat, v2 = n1 % 4294967296 := ⟨_, rfl⟩
          have hv2b : v2 < 4294967296 := by omega
          have hOK : hdOk (setLe flL 20 (n1 : Int) 4) ↔ (v2 = 1) := by
            rw [hLL]
            refine hcd.trans ?_
            omega
          have hand : bits .and .u64 (n1 : Int) 4294967295 = (v2 : Int) := by
            rw [hv2]
            exact mask_u64 n1 32 hn1 (by decide)
          clear hcd hLL HF HM HD hv2
          obtain ⟨LL, hLL⟩ : ∃ LL, LL = setLe flL 20 (n1 : Int) 4 := ⟨_, rfl⟩
          rw [← hLL] at R9 hOK
          clear hLL
          by_cases hc : v2 = 1
          · obtain ⟨tq, tn, tx, te, hT⟩ := hdT_form LL
            have he : te = 0 := by rw [hdT_te hT]; unfold hdE; rw [if_pos (hOK.2 hc)]
            subst he
            have kq : ((v2 : Int) == 1) = true := by simp; omega
            clear hOK hc
            have P1 := hide (parse_any _ _ _ _ _ R9.out)
            rw [hT] at P1
            go_wp2_with fail
            refine P1.out.mono ?_
            rintro e W7 ⟨rfl, hb7⟩
            have b7 := hb7.alloc hb7.size (.cells #[.int .u64 tq, .int .i64 tn, .int .i64 tx] 26)
            have Q7 := hide (HdB.new W7 tq tn tx)
            have y7 : W7.heap.size < (W7.alloc (.cells #[.int .u64 tq, .int .i64 tn, .int .i64 tx] 26)).heap.size := by simp
            have P2 := hide (rhead_any _ _ _ _ _ (R9.out.below b7))
            rw [hT] at P2
            have B7 := hide (B9.out.trans (b7.mono z9))
            have z7 := B7.out.size
            clear hb7 b7 P1 B9 z9 R9
            go_wp2_with fail
            refine P2.out.mono ?_
            rintro e W8 ⟨rfl, hb8⟩
            generalize hV7 : W7.alloc (.cells #[.int .u64 tq, .int .i64 tn, .int .i64 tx] 26) = V7 at *
            have b8 := hb8.alloc hb8.size (.cells #[.int .u64 tq, .int .i64 tn, .int .i64 tx] 26)
            have B8 := hide (B7.out.trans (b8.mono z7))
            obtain ⟨q0, q1, q2, _, _, _⟩ := (Q7.out.below y7 b8).at
            clear hV7 hb8 b8 P2 B7 Q7 y7 hT z7
            go_wp2
            go_ret
            exact ⟨rfl, B8.out⟩
          · obtain ⟨tq, tn, tx, te, hT⟩ := hdT_form LL
            have he : te = 30 := by rw [hdT_te hT]; unfold hdE; rw [if_neg (fun h => hc (hOK.1 h))]
            subst he
            have kq : ((v2 : Int) == 1) = false := by simp; omega
            clear hOK hc
            have P1 := hide (parse_any _ _ _ _ _ R9.out)
            rw [hT] at P1
            go_wp2_with fail
            refine P1.out.mono ?_
            rintro e W7 ⟨rfl, hb7⟩
            have b7 := hb7.alloc hb7.size (.cells #[.int .u64 tq, .int .i64 tn, .int .i64 tx] 26)
            have Q7 := hide (HdB.new W7 tq tn tx)
            have y7 : W7.heap.size < (W7.alloc (.cells #[.int .u64 tq, .int .i64 tn, .int .i64 tx] 26)).heap.size := by simp
            have P2 := hide (rhead_any _ _ _ _ _ (R9.out.below b7))
            rw [hT] at P2
            have B7 := hide (B9.out.trans (b7.mono z9))
            have z7 := B7.out.size
            clear hb7 b7 P1 B9 z9 R9
            go_wp2_with fail
            refine P2.out.mono ?_
            rintro e W8 ⟨rfl, hb8⟩
            generalize hV7 : W7.alloc (.cells #[.int .u64 tq, .int .i64 tn, .int .i64 tx] 26) = V7 at *
            have b8 := hb8.alloc hb8.size (.cells #[.int .u64 tq, .int .i64 tn, .int .i64 tx] 26)
            have B8 := hide (B7.out.trans (b8.mono z7))
            obtain ⟨q0, q1, q2, _, _, _⟩ := (Q7.out.below y7 b8).at
            clear hV7 hb8 b8 P2 B7 Q7 y7 hT z7
            go_wp2
            go_ret
            exact ⟨rfl, B8.out⟩
        · have hf' : f = 24 := HF.out
          subst hf'
          have hm' : j = 8 := HM.out
          subst hm'
          have hLL : setLe flL 24 (n1 : Int) 8 = hbg 1 243 1 (n1 : Int) 0 64 0 64 0 0 64 4 2 ++ List.replicate 320 0 := rfl
          have hcd := hdOk_hbg 1 243 1 n1 0 64 0 64 0 0 64 4 2 (List.replicate 320 0)
          rw [List.length_replicate] at hcd
          obtain ⟨v2, hv2⟩ : ∃ v2 : Nat, v2 = n1 % 18446744073709551616 := ⟨_, rfl⟩
          have hv2b : v2 < 18446744073709551616 := by omega
          have hOK : hdOk (setLe flL 24 (n1 : Int) 8) ↔ (v2 = 0) := by
            rw [hLL]
            refine hcd.trans ?_
            omega
          obtain rfl : n1 = v2 := by omega
          clear hcd hLL HF HM HD hv2
          obtain ⟨LL, hLL⟩ : ∃ LL, LL = setLe flL 24 (n1 : Int) 8 := ⟨_, rfl⟩
          rw [← hLL] at R9 hOK
          clear hLL
          by_cases hc : n1 = 0
          · obtain ⟨tq, tn, tx, te, hT⟩ := hdT_form LL
            have he : te = 0 := by rw [hdT_te hT]; unfold hdE; rw [if_pos (hOK.2 hc)]
            subst he
            have kq : ((n1 : Int) == 0) = true := by simp; omega
            clear hOK hc
            have P1 := hide (parse_any _ _ _ _ _ R9.out)
            rw [hT] at P1
            go_wp2_with fail
            refine P1.out.mono ?_
            rintro e W7 ⟨rfl, hb7⟩
            have b7 := hb7.alloc hb7.size (.cells #[.int .u64 tq, .int .i64 tn, .int .i64 tx] 26)
            have Q7 := hide (HdB.new W7 tq tn tx)
            have y7 : W7.heap.size < (W7.alloc (.cells #[.int .u64 tq, .int .i64 tn, .int .i64 tx] 26)).heap.size := by simp
            have P2 := hide (rhead_any _ _ _ _ _ (R9.out.below b7))
            rw [hT] at P2
            have B7 := hide (B9.out.trans (b7.mono z9))
            have z7 := B7.out.size
            clear hb7 b7 P1 B9 z9 R9
            go_wp2_with fail
            refine P2.out.mono ?_
            rintro e W8 ⟨rfl, hb8⟩
            generalize hV7 : W7.alloc (.cells #[.int .u64 tq, .int .i64 tn, .int .i64 tx] 26) = V7 at *
            have b8 := hb8.alloc hb8.size (.cells #[.int .u64 tq, .int .i64 tn, .int .i64 tx] 26)
            have B8 := hide (B7.out.trans (b8.mono z7))
            obtain ⟨q0, q1, q2, _, _, _⟩ := (Q7.out.below y7 b8).at
            clear hV7 hb8 b8 P2 B7 Q7 y7 hT z7
            go_wp2
            go_ret
            exact ⟨rfl, B8.out⟩
          · obtain ⟨tq, tn, tx, te, hT⟩ := hdT_form LL
            have he : te = 30 := by rw [hdT_te hT]; unfold hdE; rw [if_neg (fun h => hc (hOK.1 h))]
            subst he
            have kq : ((n1 : Int) == 0) = false := by simp; omega
            clear hOK hc
            have P1 := hide (parse_any _ _ _ _ _ R9.out)
            rw [hT] at P1
            go_wp2_with fail
            refine P1.out.mono ?_
            rintro e W7 ⟨rfl, hb7⟩
            have b7 := hb7.alloc hb7.size (.cells #[.int .u64 tq, .int .i64 tn, .int .i64 tx] 26)
            have Q7 := hide (HdB.new W7 tq tn tx)
            have y7 : W7.heap.size < (W7.alloc (.cells #[.int .u64 tq, .int .i64 tn, .int .i64 tx] 26)).heap.size := by simp
            have P2 := hide (rhead_any _ _ _ _ _ (R9.out.below b7))
            rw [hT] at P2
            have B7 := hide (B9.out.trans (b7.mono z9))
            have z7 := B7.out.size
            clear hb7 b7 P1 B9 z9 R9
            go_wp2_with fail
            refine P2.out.mono ?_
            rintro e W8 ⟨rfl, hb8⟩
            generalize hV7 : W7.alloc (.cells #[.int .u64 tq, .int .i64 tn, .int .i64 tx] 26) = V7 at *
            have b8 := hb8.alloc hb8.size (.cells #[.int .u64 tq, .int .i64 tn, .int .i64 tx] 26)
            have B8 := hide (B7.out.trans (b8.mono z7))
            obtain ⟨q0, q1, q2, _, _, _⟩ := (Q7.out.below y7 b8).at
            clear hV7 hb8 b8 P2 B7 Q7 y7 hT z7
            go_wp2
            go_ret
            exact ⟨rfl, B8.out⟩
        · have hf' : f = 32 := HF.out
          subst hf'
          have hm' : j = 8 := HM.out
          subst hm'
          have hLL : setLe flL 32 (n1 : Int) 8 = hbg 1 243 1 0 (n1 : Int) 64 0 64 0 0 64 4 2 ++ List.replicate 320 0 := rfl
          have hcd := hdOk_hbg 1 243 1 0 n1 64 0 64 0 0 64 4 2 (List.replicate 320 0)
          rw [List.length_replicate] at hcd
          obtain ⟨v2, hv2⟩ : ∃ v2 : Nat, v2 = n1 % 18446744073709551616 := ⟨_, rfl⟩
          have hv2b : v2 < 18446744073709551616 := by omega
          have hOK : hdOk (setLe flL 32 (n1 : Int) 8) ↔ (v2 = 0) := by
            rw [hLL]
            refine hcd.trans ?_
            omega
          obtain rfl : n1 = v2 := by omega
          clear hcd hLL HF HM HD hv2
          obtain ⟨LL, hLL⟩ : ∃ LL, LL = setLe flL 32 (n1 : Int) 8 := ⟨_, rfl⟩
          rw [← hLL] at R9 hOK
          clear hLL
          by_cases hc : n1 = 0
          · obtain ⟨tq, tn, tx, te, hT⟩ := hdT_form LL
            have he : te = 0 := by rw [hdT_te hT]; unfold hdE; rw [if_pos (hOK.2 hc)]
            subst he
            have kq : ((n1 : Int) == 0) = true := by simp; omega
            clear hOK hc
            have P1 := hide (parse_any _ _ _ _ _ R9.out)
            rw [hT] at P1
            go_wp2_with fail
            refine P1.out.mono ?_
            rintro e W7 ⟨rfl, hb7⟩
            have b7 := hb7.alloc hb7.size (.cells #[.int .u64 tq, .int .i64 tn, .int .i64 tx] 26)
            have Q7 := hide (HdB.new W7 tq tn tx)
            have y7 : W7.heap.size < (W7.alloc (.cells #[.int .u64 tq, .int .i64 tn, .int .i64 tx] 26)).heap.size := by simp
            have P2 := hide (rhead_any _ _ _ _ _ (R9.out.below b7))
            rw [hT] at P2
            have B7 := hide (B9.out.trans (b7.mono z9))
            have z7 := B7.out.size
            clear hb7 b7 P1 B9 z9 R9
            go_wp2_with fail
            refine P2.out.mono ?_
            rintro e W8 ⟨rfl, hb8⟩
            generalize hV7 : W7.alloc (.cells #[.int .u64 tq, .int .i64 tn, .int .i64 tx] 26) = V7 at *
            have b8 := hb8.alloc hb8.size (.cells #[.int .u64 tq, .int .i64 tn, .int .i64 tx] 26)
            have B8 := hide (B7.out.trans (b8.mono z7))
            obtain ⟨q0, q1, q2, _, _, _⟩ := (Q7.out.below y7 b8).at
            clear hV7 hb8 b8 P2 B7 Q7 y7 hT z7
            go_wp2
            go_ret
            exact ⟨rfl, B8.out⟩
          · obtain ⟨tq, tn, tx, te, hT⟩ := hdT_form LL
            have he : te = 30 := by rw [hdT_te hT]; unfold hdE; rw [if_neg (fun h => hc (hOK.1 h))]
            subst he
            have kq : ((n1 : Int) == 0) = false := by simp; omega
            clear hOK hc
            have P1 := hide (parse_any _ _ _ _ _ R9.out)
            rw [hT] at P1
            go_wp2_with fail
            refine P1.out.mono ?_
            rintro e W7 ⟨rfl, hb7⟩
            have b7 := hb7.alloc hb7.size (.cells #[.int .u64 tq, .int .i64 tn, .int .i64 tx] 26)
            have Q7 := hide (HdB.new W7 tq tn tx)
            have y7 : W7.heap.size < (W7.alloc (.cells #[.int .u64 tq, .int .i64 tn, .int .i64 tx] 26)).heap.size := by simp
            have P2 := hide (rhead_any _ _ _ _ _ (R9.out.below b7))
            rw [hT] at P2
            have B7 := hide (B9.out.trans (b7.mono z9))
            have z7 := B7.out.size
            clear hb7 b7 P1 B9 z9 R9
            go_wp2_with fail
            refine P2.out.mono ?_
            rintro e W8 ⟨rfl, hb8⟩
            generalize hV7 : W7.alloc (.cells #[.int .u64 tq, .int .i64 tn, .int .i64 tx] 26) = V7 at *
            have b8 := hb8.alloc hb8.size (.cells #[.int .u64 tq, .int .i64 tn, .int .i64 tx] 26)
            have B8 := hide (B7.out.trans (b8.mono z7))
            obtain ⟨q0, q1, q2, _, _, _⟩ := (Q7.out.below y7 b8).at
            clear hV7 hb8 b8 P2 B7 Q7 y7 hT z7
            go_wp2
            go_ret
            exact ⟨rfl, B8.out⟩
        · have hf' : f = 40 := HF.out
          subst hf'
          have hm' : j = 8 := HM.out
          subst hm'
          have hLL : setLe flL 40 (n1 : Int) 8 = hbg 1 243 1 0 0 (n1 : Int) 0 64 0 0 64 4 2 ++ List.replicate 320 0 := rfl
          have hcd := hdOk_hbg 1 243 1 0 0 n1 0 64 0 0 64 4 2 (List.replicate 320 0)
          rw [List.length_replicate] at hcd
          obtain ⟨v2, hv2⟩ : ∃ v2 : Nat, v2 = n1 % 18446744073709551616 := ⟨_, rfl⟩
          have hv2b : v2 < 18446744073709551616 := by omega
          have hOK : hdOk (setLe flL 40 (n1 : Int) 8) ↔ (v2 % 8 = 0 ∧ v2 ≤ 128) := by
            rw [hLL]
            refine hcd.trans ?_
            omega
          obtain rfl : n1 = v2 := by omega
          clear hcd hLL HF HM HD hv2
          obtain ⟨LL, hLL⟩ : ∃ LL, LL = setLe flL 40 (n1 : Int) 8 := ⟨_, rfl⟩
          rw [← hLL] at R9 hOK
          clear hLL
          by_cases hc : n1 % 8 = 0 ∧ n1 ≤ 128
          · obtain ⟨tq, tn, tx, te, hT⟩ := hdT_form LL
            have he : te = 0 := by rw [hdT_te hT]; unfold hdE; rw [if_pos (hOK.2 hc)]
            subst he
            have kq : ((n1 : Int) % 8 == 0) = true := by simp; omega
            have kr : decide ((n1 : Int) ≤ 128) = true := by simp; omega
            clear hOK hc
            have P1 := hide (parse_any _ _ _ _ _ R9.out)
            rw [hT] at P1
            go_wp2_with fail
            refine P1.out.mono ?_
            rintro e W7 ⟨rfl, hb7⟩
            have b7 := hb7.alloc hb7.size (.cells #[.int .u64 tq, .int .i64 tn, .int .i64 tx] 26)
            have Q7 := hide (HdB.new W7 tq tn tx)
            have y7 : W7.heap.size < (W7.alloc (.cells #[.int .u64 tq, .int .i64 tn, .int .i64 tx] 26)).heap.size := by simp
            have P2 := hide (rhead_any _ _ _ _ _ (R9.out.below b7))
            rw [hT] at P2
            have B7 := hide (B9.out.trans (b7.mono z9))
            have z7 := B7.out.size
            clear hb7 b7 P1 B9 z9 R9
            go_wp2_with fail
            refine P2.out.mono ?_
            rintro e W8 ⟨rfl, hb8⟩
            generalize hV7 : W7.alloc (.cells #[.int .u64 tq, .int .i64 tn, .int .i64 tx] 26) = V7 at *
            have b8 := hb8.alloc hb8.size (.cells #[.int .u64 tq, .int .i64 tn, .int .i64 tx] 26)
            have B8 := hide (B7.out.trans (b8.mono z7))
            obtain ⟨q0, q1, q2, _, _, _⟩ := (Q7.out.below y7 b8).at
            clear hV7 hb8 b8 P2 B7 Q7 y7 hT z7
            go_wp2
            go_ret
            exact ⟨rfl, B8.out⟩
          · by_cases hc2 : n1 % 8 = 0
            · obtain ⟨tq, tn, tx, te, hT⟩ := hdT_form LL
              have he : te = 30 := by rw [hdT_te hT]; unfold hdE; rw [if_neg (fun h => hc (hOK.1 h))]
              subst he
              have kq : ((n1 : Int) % 8 == 0) = true := by simp; omega
              have kr : decide ((n1 : Int) ≤ 128) = false := by simp; omega
              clear hOK hc
              have P1 := hide (parse_any _ _ _ _ _ R9.out)
              rw [hT] at P1
              go_wp2_with fail
              refine P1.out.mono ?_
              rintro e W7 ⟨rfl, hb7⟩
              have b7 := hb7.alloc hb7.size (.cells #[.int .u64 tq, .int .i64 tn, .int .i64 tx] 26)
              have Q7 := hide (HdB.new W7 tq tn tx)
              have y7 : W7.heap.size < (W7.alloc (.cells #[.int .u64 tq, .int .i64 tn, .int .i64 tx] 26)).heap.size := by simp
              have P2 := hide (rhead_any _ _ _ _ _ (R9.out.below b7))
              rw [hT] at P2
              have B7 := hide (B9.out.trans (b7.mono z9))
              have z7 := B7.out.size
              clear hb7 b7 P1 B9 z9 R9
              go_wp2_with fail
              refine P2.out.mono ?_
              rintro e W8 ⟨rfl, hb8⟩
              generalize hV7 : W7.alloc (.cells #[.int .u64 tq, .int .i64 tn, .int .i64 tx] 26) = V7 at *
              have b8 := hb8.alloc hb8.size (.cells #[.int .u64 tq, .int .i64 tn, .int .i64 tx] 26)
              have B8 := hide (B7.out.trans (b8.mono z7))
              obtain ⟨q0, q1, q2, _, _, _⟩ := (Q7.out.below y7 b8).at
              clear hV7 hb8 b8 P2 B7 Q7 y7 hT z7
              go_wp2
              go_ret
              exact ⟨rfl, B8.out⟩
            · obtain ⟨tq, tn, tx, te, hT⟩ := hdT_form LL
              have he : te = 30 := by rw [hdT_te hT]; unfold hdE; rw [if_neg (fun h => hc (hOK.1 h))]
              subst he
              have kq : ((n1 : Int) % 8 == 0) = false := by simp; omega
              clear hOK hc
              have P1 := hide (parse_any _ _ _ _ _ R9.out)
              rw [hT] at P1
              go_wp2_with fail
              refine P1.out.mono ?_
              rintro e W7 ⟨rfl, hb7⟩
              have b7 := hb7.alloc hb7.size (.cells #[.int .u64 tq, .int .i64 tn, .int .i64 tx] 26)
              have Q7 := hide (HdB.new W7 tq tn tx)
              have y7 : W7.heap.size < (W7.alloc (.cells #[.int .u64 tq, .int .i64 tn, .int .i64 tx] 26)).heap.size := by simp
              have P2 := hide (rhead_any _ _ _ _ _ (R9.out.below b7))
              rw [hT] at P2
              have B7 := hide (B9.out.trans (b7.mono z9))
              have z7 := B7.out.size
              clear hb7 b7 P1 B9 z9 R9
              go_wp2_with fail
              refine P2.out.mono ?_
              rintro e W8 ⟨rfl, hb8⟩
              generalize hV7 : W7.alloc (.cells #[.int .u64 tq, .int .i64 tn, .int .i64 tx] 26) = V7 at *
              have b8 := hb8.alloc hb8.size (.cells #[.int .u64 tq, .int .i64 tn, .int .i64 tx] 26)
              have B8 := hide (B7.out.trans (b8.mono z7))
              obtain ⟨q0, q1, q2, _, _, _⟩ := (Q7.out.below y7 b8).at
              clear hV7 hb8 b8 P2 B7 Q7 y7 hT z7
              go_wp2
              go_ret
              exact ⟨rfl, B8.out⟩
        · have hf' : f = 48 := HF.out
          subst hf'
          have hm' : j = 4 := HM.out
          subst hm'
          have hLL : setLe flL 48 (n1 : Int) 4 = hbg 1 243 1 0 0 64 (n1 : Int) 64 0 0 64 4 2 ++ List.replicate 320 0 := rfl
          have hcd := hdOk_hbg 1 243 1 0 0 64 n1 64 0 0 64 4 2 (List.replicate 320 0)
          rw [List.length_replicate] at hcd
          obtain ⟨v2, hv2⟩ : ∃ v2 : Nat, v2 = n1 % 4294967296 := ⟨_, rfl⟩
          have hv2b : v2 < 4294967296 := by omega
          have hOK : hdOk (setLe flL 48 (n1 : Int) 4) ↔ (v2 ≤ 7) := by
            rw [hLL]
            refine hcd.trans ?_
            omega
          have hand : bits .and .u64 (n1 : Int) 4294967295 = (v2 : Int) := by
            rw [hv2]
            exact mask_u64 n1 32 hn1 (by decide)
          clear hcd hLL HF HM HD hv2
          obtain ⟨LL, hLL⟩ : ∃ LL, LL = setLe flL 48 (n1 : Int) 4 := ⟨_, rfl⟩
          rw [← hLL] at R9 hOK
          clear hLL
          by_cases hc : v2 ≤ 7
          · obtain ⟨tq, tn, tx, te, hT⟩ := hdT_form LL
            have he : te = 0 := by rw [hdT_te hT]; unfold hdE; rw [if_pos (hOK.2 hc)]
            subst he
            have kq : decide ((v2 : Int) ≤ 7) = true := by simp; omega
            clear hOK hc
            have P1 := hide (parse_any _ _ _ _ _ R9.out)
            rw [hT] at P1
            go_wp2_with fail
            refine P1.out.mono ?_
            rintro e W7 ⟨rfl, hb7⟩
            have b7 := hb7.alloc hb7.size (.cells #[.int .u64 tq, .int .i64 tn, .int .i64 tx] 26)
            have Q7 := hide (HdB.new W7 tq tn tx)
            have y7 : W7.heap.size < (W7.alloc (.cells #[.int .u64 tq, .int .i64 tn, .int .i64 tx] 26)).heap.size := by simp
            have P2 := hide (rhead_any _ _ _ _ _ (R9.out.below b7))
            rw [hT] at P2
            have B7 := hide (B9.out.trans (b7.mono z9))
            have z7 := B7.out.size
            clear hb7 b7 P1 B9 z9 R9
            go_wp2_with fail
            refine P2.out.mono ?_
            rintro e W8 ⟨rfl, hb8⟩
            generalize hV7 : W7.alloc (.cells #[.int .u64 tq, .int .i64 tn, .int .i64 tx] 26) = V7 at *
            have b8 := hb8.alloc hb8.size (.cells #[.int .u64 tq, .int .i64 tn, .int .i64 tx] 26)
            have B8 := hide (B7.out.trans (b8.mono z7))
            obtain ⟨q0, q1, q2, _, _, _⟩ := (Q7.out.below y7 b8).at
            clear hV7 hb8 b8 P2 B7 Q7 y7 hT z7
            go_wp2
            go_ret
            exact ⟨rfl, B8.out⟩
          · obtain ⟨tq, tn, tx, te, hT⟩ := hdT_form LL
            have he : te = 30 := by rw [hdT_te hT]; unfold hdE; rw [if_neg (fun h => hc (hOK.1 h))]
            subst he
            have kq : decide ((v2 : Int) ≤ 7) = false := by simp; omega
            clear hOK hc
            have P1 := hide (parse_any _ _ _ _ _ R9.out)
            rw [hT] at P1
            go_wp2_with fail
            refine P1.out.mono ?_
            rintro e W7 ⟨rfl, hb7⟩
            have b7 := hb7.alloc hb7.size (.cells #[.int .u64 tq, .int .i64 tn, .int .i64 tx] 26)
            have Q7 := hide (HdB.new W7 tq tn tx)
            have y7 : W7.heap.size < (W7.alloc (.cells #[.int .u64 tq, .int .i64 tn, .int .i64 tx] 26)).heap.size := by simp
            have P2 := hide (rhead_any _ _ _ _ _ (R9.out.below b7))
            rw [hT] at P2
            have B7 := hide (B9.out.trans (b7.mono z9))
            have z7 := B7.out.size
            clear hb7 b7 P1 B9 z9 R9
            go_wp2_with fail
            refine P2.out.mono ?_
            rintro e W8 ⟨rfl, hb8⟩
            generalize hV7 : W7.alloc (.cells #[.int .u64 tq, .int .i64 tn, .int .i64 tx] 26) = V7 at *
            have b8 := hb8.alloc hb8.size (.cells #[.int .u64 tq, .int .i64 tn, .int .i64 tx] 26)
            have B8 := hide (B7.out.trans (b8.mono z7))
            obtain ⟨q0, q1, q2, _, _, _⟩ := (Q7.out.below y7 b8).at
            clear hV7 hb8 b8 P2 B7 Q7 y7 hT z7
            go_wp2
            go_ret
            exact ⟨rfl, B8.out⟩
        · have hf' : f = 52 := HF.out
          subst hf'
          have hm' : j = 2 := HM.out
          subst hm'
          have hLL : setLe flL 52 (n1 : Int) 2 = hbg 1 243 1 0 0 64 0 (n1 : Int) 0 0 64 4 2 ++ List.replicate 320 0 := rfl
          have hcd := hdOk_hbg 1 243 1 0 0 64 0 n1 0 0 64 4 2 (List.replicate 320 0)
          rw [List.length_replicate] at hcd
          obtain ⟨v2, hv2⟩ : ∃ v2 : Nat, v2 = n1 % 65536 := ⟨_, rfl⟩
          have hv2b : v2 < 65536 := by omega
          have hOK : hdOk (setLe flL 52 (n1 : Int) 2) ↔ (v2 = 64) := by
            rw [hLL]
            refine hcd.trans ?_
            omega
          have hand : bits .and .u64 (n1 : Int) 65535 = (v2 : Int) := by
            rw [hv2]
            exact mask_u64 n1 16 hn1 (by decide)
          clear hcd hLL HF HM HD hv2
          obtain ⟨LL, hLL⟩ : ∃ LL, LL = setLe flL 52 (n1 : Int) 2 := ⟨_, rfl⟩
          rw [← hLL] at R9 hOK
          clear hLL
          by_cases hc : v2 = 64
          · obtain ⟨tq, tn, tx, te, hT⟩ := hdT_form LL
            have he : te = 0 := by rw [hdT_te hT]; unfold hdE; rw [if_pos (hOK.2 hc)]
            subst he
            have kq : ((v2 : Int) == 64) = true := by simp; omega
            clear hOK hc
            have P1 := hide (parse_any _ _ _ _ _ R9.out)
            rw [hT] at P1
            go_wp2_with fail
            refine P1.out.mono ?_
            rintro e W7 ⟨rfl, hb7⟩
            have b7 := hb7.alloc hb7.size (.cells #[.int .u64 tq, .int .i64 tn, .int .i64 tx] 26)
            have Q7 := hide (HdB.new W7 tq tn tx)
            have y7 : W7.heap.size < (W7.alloc (.cells #[.int .u64 tq, .int .i64 tn, .int .i64 tx] 26)).heap.size := by simp
            have P2 := hide (rhead_any _ _ _ _ _ (R9.out.below b7))
            rw [hT] at P2
            have B7 := hide (B9.out.trans (b7.mono z9))
            have z7 := B7.out.size
            clear hb7 b7 P1 B9 z9 R9
            go_wp2_with fail
            refine P2.out.mono ?_
            rintro e W8 ⟨rfl, hb8⟩
            generalize hV7 : W7.alloc (.cells #[.int .u64 tq, .int .i64 tn, .int .i64 tx] 26) = V7 at *
            have b8 := hb8.alloc hb8.size (.cells #[.int .u64 tq, .int .i64 tn, .int .i64 tx] 26)
            have B8 := hide (B7.out.trans (b8.mono z7))
            obtain ⟨q0, q1, q2, _, _, _⟩ := (Q7.out.below y7 b8).at
            clear hV7 hb8 b8 P2 B7 Q7 y7 hT z7
            go_wp2
            go_ret
            exact ⟨rfl, B8.out⟩
          · obtain ⟨tq, tn, tx, te, hT⟩ := hdT_form LL
            have he : te = 30 := by rw [hdT_te hT]; unfold hdE; rw [if_neg (fun h => hc (hOK.1 h))]
            subst he
            have kq : ((v2 : Int) == 64) = false := by simp; omega
            clear hOK hc
            have P1 := hide (parse_any _ _ _ _ _ R9.out)
            rw [hT] at P1
            go_wp2_with fail
            refine P1.out.mono ?_
            rintro e W7 ⟨rfl, hb7⟩
            have b7 := hb7.alloc hb7.size (.cells #[.int .u64 tq, .int .i64 tn, .int .i64 tx] 26)
            have Q7 := hide (HdB.new W7 tq tn tx)
            have y7 : W7.heap.size < (W7.alloc (.cells #[.int .u64 tq, .int .i64 tn, .int .i64 tx] 26)).heap.size := by simp
            have P2 := hide (rhead_any _ _ _ _ _ (R9.out.below b7))
            rw [hT] at P2
            have B7 := hide (B9.out.trans (b7.mono z9))
            have z7 := B7.out.size
            clear hb7 b7 P1 B9 z9 R9
            go_wp2_with fail
            refine P2.out.mono ?_
            rintro e W8 ⟨rfl, hb8⟩
            generalize hV7 : W7.alloc (.cells #[.int .u64 tq, .int .i64 tn, .int .i64 tx] 26) = V7 at *
            have b8 := hb8.alloc hb8.size (.cells #[.int .u64 tq, .int .i64 tn, .int .i64 tx] 26)
            have B8 := hide (B7.out.trans (b8.mono z7))
            obtain ⟨q0, q1, q2, _, _, _⟩ := (Q7.out.below y7 b8).at
            clear hV7 hb8 b8 P2 B7 Q7 y7 hT z7
            go_wp2
            go_ret
            exact ⟨rfl, B8.out⟩
        · have hf' : f = 54 := HF.out
          subst hf'
          have hm' : j = 2 := HM.out
          subst hm'
          have hLL : setLe flL 54 (n1 : Int) 2 = hbg 1 243 1 0 0 64 0 64 (n1 : Int) 0 64 4 2 ++ List.replicate 320 0 := rfl
          have hcd := hdOk_hbg 1 243 1 0 0 64 0 64 n1 0 64 4 2 (List.replicate 320 0)
          rw [List.length_replicate] at hcd
          obtain ⟨v2, hv2⟩ : ∃ v2 : Nat, v2 = n1 % 65536 := ⟨_, rfl⟩
          have hv2b : v2 < 65536 := by omega
          have hOK : hdOk (setLe flL 54 (n1 : Int) 2) ↔ (v2 = 0) := by
            rw [hLL]
            refine hcd.trans ?_
            omega
          have hand : bits .and .u64 (n1 : Int) 65535 = (v2 : Int) := by
            rw [hv2]
            exact mask_u64 n1 16 hn1 (by decide)
          clear hcd hLL HF HM HD hv2
          obtain ⟨LL, hLL⟩ : ∃ LL, LL = setLe flL 54 (n1 : Int) 2 := ⟨_, rfl⟩
          rw [← hLL] at R9 hOK
          clear hLL
          by_cases hc : v2 = 0
          · obtain ⟨tq, tn, tx, te, hT⟩ := hdT_form LL
            have he : te = 0 := by rw [hdT_te hT]; unfold hdE; rw [if_pos (hOK.2 hc)]
            subst he
            have kq : ((v2 : Int) == 0) = true := by simp; omega
            clear hOK hc
            have P1 := hide (parse_any _ _ _ _ _ R9.out)
            rw [hT] at P1
            go_wp2_with fail
            refine P1.out.mono ?_
            rintro e W7 ⟨rfl, hb7⟩
            have b7 := hb7.alloc hb7.size (.cells #[.int .u64 tq, .int .i64 tn, .int .i64 tx] 26)
            have Q7 := hide (HdB.new W7 tq tn tx)
            have y7 : W7.heap.size < (W7.alloc (.cells #[.int .u64 tq, .int .i64 tn, .int .i64 tx] 26)).heap.size := by simp
            have P2 := hide (rhead_any _ _ _ _ _ (R9.out.below b7))
            rw [hT] at P2
            have B7 := hide (B9.out.trans (b7.mono z9))
            have z7 := B7.out.size
            clear hb7 b7 P1 B9 z9 R9
            go_wp2_with fail
            refine P2.out.mono ?_
            rintro e W8 ⟨rfl, hb8⟩
            generalize hV7 : W7.alloc (.cells #[.int .u64 tq, .int .i64 tn, .int .i64 tx] 26) = V7 at *
            have b8 := hb8.alloc hb8.size (.cells #[.int .u64 tq, .int .i64 tn, .int .i64 tx] 26)
            have B8 := hide (B7.out.trans (b8.mono z7))
            obtain ⟨q0, q1, q2, _, _, _⟩ := (Q7.out.below y7 b8).at
            clear hV7 hb8 b8 P2 B7 Q7 y7 hT z7
            go_wp2
            go_ret
            exact ⟨rfl, B8.out⟩
          · obtain ⟨tq, tn, tx, te, hT⟩ := hdT_form LL
            have he : te = 30 := by rw [hdT_te hT]; unfold hdE; rw [if_neg (fun h => hc (hOK.1 h))]
            subst he
            have kq : ((v2 : Int) == 0) = false := by simp; omega
            clear hOK hc
            have P1 := hide (parse_any _ _ _ _ _ R9.out)
            rw [hT] at P1
            go_wp2_with fail
            refine P1.out.mono ?_
            rintro e W7 ⟨rfl, hb7⟩
            have b7 := hb7.alloc hb7.size (.cells #[.int .u64 tq, .int .i64 tn, .int .i64 tx] 26)
            have Q7 := hide (HdB.new W7 tq tn tx)
            have y7 : W7.heap.size < (W7.alloc (.cells #[.int .u64 tq, .int .i64 tn, .int .i64 tx] 26)).heap.size := by simp
            have P2 := hide (rhead_any _ _ _ _ _ (R9.out.below b7))
            rw [hT] at P2
            have B7 := hide (B9.out.trans (b7.mono z9))
            have z7 := B7.out.size
            clear hb7 b7 P1 B9 z9 R9
            go_wp2_with fail
            refine P2.out.mono ?_
            rintro e W8 ⟨rfl, hb8⟩
            generalize hV7 : W7.alloc (.cells #[.int .u64 tq, .int .i64 tn, .int .i64 tx] 26) = V7 at *
            have b8 := hb8.alloc hb8.size (.cells #[.int .u64 tq, .int .i64 tn, .int .i64 tx] 26)
            have B8 := hide (B7.out.trans (b8.mono z7))
            obtain ⟨q0, q1, q2, _, _, _⟩ := (Q7.out.below y7 b8).at
            clear hV7 hb8 b8 P2 B7 Q7 y7 hT z7
            go_wp2
            go_ret
            exact ⟨rfl, B8.out⟩
        · have hf' : f = 56 := HF.out
          subst hf'
          have hm' : j = 2 := HM.out
          subst hm'
          have hLL : setLe flL 56 (n1 : Int) 2 = hbg 1 243 1 0 0 64 0 64 0 (n1 : Int) 64 4 2 ++ List.replicate 320 0 := rfl
          have hcd := hdOk_hbg 1 243 1 0 0 64 0 64 0 n1 64 4 2 (List.replicate 320 0)
          rw [List.length_replicate] at hcd
          obtain ⟨v2, hv2⟩ : ∃ v2 : Nat, v2 = n1 % 65536 := ⟨_, rfl⟩
          have hv2b : v2 < 65536 := by omega
          have hOK : hdOk (setLe flL 56 (n1 : Int) 2) ↔ (v2 = 0) := by
            rw [hLL]
            refine hcd.trans ?_
            omega
          have hand : bits .and .u64 (n1 : Int) 65535 = (v2 : Int) := by
            rw [hv2]
            exact mask_u64 n1 16 hn1 (by decide)
          clear hcd hLL HF HM HD hv2
          obtain ⟨LL, hLL⟩ : ∃ LL, LL = setLe flL 56 (n1 : Int) 2 := ⟨_, rfl⟩
          rw [← hLL] at R9 hOK
          clear hLL
          by_cases hc : v2 = 0
          · obtain ⟨tq, tn, tx, te, hT⟩ := hdT_form LL
            have he : te = 0 := by rw [hdT_te hT]; unfold hdE; rw [if_pos (hOK.2 hc)]
            subst he
            have kq : ((v2 : Int) == 0) = true := by simp; omega
            clear hOK hc
            have P1 := hide (parse_any _ _ _ _ _ R9.out)
            rw [hT] at P1
            go_wp2_with fail
            refine P1.out.mono ?_
            rintro e W7 ⟨rfl, hb7⟩
            have b7 := hb7.alloc hb7.size (.cells #[.int .u64 tq, .int .i64 tn, .int .i64 tx] 26)
            have Q7 := hide (HdB.new W7 tq tn tx)
            have y7 : W7.heap.size < (W7.alloc (.cells #[.int .u64 tq, .int .i64 tn, .int .i64 tx] 26)).heap.size := by simp
            have P2 := hide (rhead_any _ _ _ _ _ (R9.out.below b7))
            rw [hT] at P2
            have B7 := hide (B9.out.trans (b7.mono z9))
            have z7 := B7.out.size
            clear hb7 b7 P1 B9 z9 R9
            go_wp2_with fail
            refine P2.out.mono ?_
            rintro e W8 ⟨rfl, hb8⟩
            generalize hV7 : W7.alloc (.cells #[.int .u64 tq, .int .i64 tn, .int .i64 tx] 26) = V7 at *
            have b8 := hb8.alloc hb8.size (.cells #[.int .u64 tq, .int .i64 tn, .int .i64 tx] 26)
            have B8 := hide (B7.out.trans (b8.mono z7))
            obtain ⟨q0, q1, q2, _, _, _⟩ := (Q7.out.below y7 b8).at
            clear hV7 hb8 b8 P2 B7 Q7 y7 hT z7
            go_wp2
            go_ret
            exact ⟨rfl, B8.out⟩
          · obtain ⟨tq, tn, tx, te, hT⟩ := hdT_form LL
            have he : te = 30 := by rw [hdT_te hT]; unfold hdE; rw [if_neg (fun h => hc (hOK.1 h))]
            subst he
            have kq : ((v2 : Int) == 0) = false := by simp; omega
            clear hOK hc
            have P1 := hide (parse_any _ _ _ _ _ R9.out)
            rw [hT] at P1
            go_wp2_with fail
            refine P1.out.mono ?_
            rintro e W7 ⟨rfl, hb7⟩
            have b7 := hb7.alloc hb7.size (.cells #[.int .u64 tq, .int .i64 tn, .int .i64 tx] 26)
            have Q7 := hide (HdB.new W7 tq tn tx)
            have y7 : W7.heap.size < (W7.alloc (.cells #[.int .u64 tq, .int .i64 tn, .int .i64 tx] 26)).heap.size := by simp
            have P2 := hide (rhead_any _ _ _ _ _ (R9.out.below b7))
            rw [hT] at P2
            have B7 := hide (B9.out.trans (b7.mono z9))
            have z7 := B7.out.size
            clear hb7 b7 P1 B9 z9 R9
            go_wp2_with fail
            refine P2.out.mono ?_
            rintro e W8 ⟨rfl, hb8⟩
            generalize hV7 : W7.alloc (.cells #[.int .u64 tq, .int .i64 tn, .int .i64 tx] 26) = V7 at *
            have b8 := hb8.alloc hb8.size (.cells #[.int .u64 tq, .int .i64 tn, .int .i64 tx] 26)
            have B8 := hide (B7.out.trans (b8.mono z7))
            obtain ⟨q0, q1, q2, _, _, _⟩ := (Q7.out.below y7 b8).at
            clear hV7 hb8 b8 P2 B7 Q7 y7 hT z7
            go_wp2
            go_ret
            exact ⟨rfl, B8.out⟩
        · have hf' : f = 58 := HF.out
          subst hf'
          have hm' : j = 2 := HM.out
          subst hm'
          have hLL : setLe flL 58 (n1 : Int) 2 = hbg 1 243 1 0 0 64 0 64 0 0 (n1 : Int) 4 2 ++ List.replicate 320 0 := rfl
          have hcd := hdOk_hbg 1 243 1 0 0 64 0 64 0 0 n1 4 2 (List.replicate 320 0)
          rw [List.length_replicate] at hcd
          obtain ⟨v2, hv2⟩ : ∃ v2 : Nat, v2 = n1 % 65536 := ⟨_, rfl⟩
          have hv2b : v2 < 65536 := by omega
          have hOK : hdOk (setLe flL 58 (n1 : Int) 2) ↔ (v2 = 64) := by
            rw [hLL]
            refine hcd.trans ?_
            omega
          have hand : bits .and .u64 (n1 : Int) 65535 = (v2 : Int) := by
            rw [hv2]
            exact mask_u64 n1 16 hn1 (by decide)
          clear hcd hLL HF HM HD hv2
          obtain ⟨LL, hLL⟩ : ∃ LL, LL = setLe flL 58 (n1 : Int) 2 := ⟨_, rfl⟩
          rw [← hLL] at R9 hOK
          clear hLL
          by_cases hc : v2 = 64
          · obtain ⟨tq, tn, tx, te, hT⟩ := hdT_form LL
            have he : te = 0 := by rw [hdT_te hT]; unfold hdE; rw [if_pos (hOK.2 hc)]
            subst he
            have kq : ((v2 : Int) == 64) = true := by simp; omega
            clear hOK hc
            have P1 := hide (parse_any _ _ _ _ _ R9.out)
            rw [hT] at P1
            go_wp2_with fail
            refine P1.out.mono ?_
            rintro e W7 ⟨rfl, hb7⟩
            have b7 := hb7.alloc hb7.size (.cells #[.int .u64 tq, .int .i64 tn, .int .i64 tx] 26)
            have Q7 := hide (HdB.new W7 tq tn tx)
            have y7 : W7.heap.size < (W7.alloc (.cells #[.int .u64 tq, .int .i64 tn, .int .i64 tx] 26)).heap.size := by simp
            have P2 := hide (rhead_any _ _ _ _ _ (R9.out.below b7))
            rw [hT] at P2
            have B7 := hide (B9.out.trans (b7.mono z9))
            have z7 := B7.out.size
            clear hb7 b7 P1 B9 z9 R9
            go_wp2_with fail
            refine P2.out.mono ?_
            rintro e W8 ⟨rfl, hb8⟩
            generalize hV7 : W7.alloc (.cells #[.int .u64 tq, .int .i64 tn, .int .i64 tx] 26) = V7 at *
            have b8 := hb8.alloc hb8.size (.cells #[.int .u64 tq, .int .i64 tn, .int .i64 tx] 26)
            have B8 := hide (B7.out.trans (b8.mono z7))
            obtain ⟨q0, q1, q2, _, _, _⟩ := (Q7.out.below y7 b8).at
            clear hV7 hb8 b8 P2 B7 Q7 y7 hT z7
            go_wp2
            go_ret
            exact ⟨rfl, B8.out⟩
          · obtain ⟨tq, tn, tx, te, hT⟩ := hdT_form LL
            have he : te = 30 := by rw [hdT_te hT]; unfold hdE; rw [if_neg (fun h => hc (hOK.1 h))]
            subst he
            have kq : ((v2 : Int) == 64) = false := by simp; omega
            clear hOK hc
            have P1 := hide (parse_any _ _ _ _ _ R9.out)
            rw [hT] at P1
            go_wp2_with fail
            refine P1.out.mono ?_
            rintro e W7 ⟨rfl, hb7⟩
            have b7 := hb7.alloc hb7.size (.cells #[.int .u64 tq, .int .i64 tn, .int .i64 tx] 26)
            have Q7 := hide (HdB.new W7 tq tn tx)
            have y7 : W7.heap.size < (W7.alloc (.cells #[.int .u64 tq, .int .i64 tn, .int .i64 tx] 26)).heap.size := by simp
            have P2 := hide (rhead_any _ _ _ _ _ (R9.out.below b7))
            rw [hT] at P2
            have B7 := hide (B9.out.trans (b7.mono z9))
            have z7 := B7.out.size
            clear hb7 b7 P1 B9 z9 R9
            go_wp2_with fail
            refine P2.out.mono ?_
            rintro e W8 ⟨rfl, hb8⟩
            generalize hV7 : W7.alloc (.cells #[.int .u64 tq, .int .i64 tn, .int .i64 tx] 26) = V7 at *
            have b8 := hb8.alloc hb8.size (.cells #[.int .u64 tq, .int .i64 tn, .int .i64 tx] 26)
            have B8 := hide (B7.out.trans (b8.mono z7))
            obtain ⟨q0, q1, q2, _, _, _⟩ := (Q7.out.below y7 b8).at
            clear hV7 hb8 b8 P2 B7 Q7 y7 hT z7
            go_wp2
            go_ret
            exact ⟨rfl, B8.out⟩
        · have hf' : f = 60 := HF.out
          subst hf'
          have hm' : j = 2 := HM.out
          subst hm'
          have hLL : setLe flL 60 (n1 : Int) 2 = hbg 1 243 1 0 0 64 0 64 0 0 64 (n1 : Int) 2 ++ List.replicate 320 0 := rfl
          have hcd := hdOk_hbg 1 243 1 0 0 64 0 64 0 0 64 n1 2 (List.replicate 320 0)
          rw [List.length_replicate] at hcd
          obtain ⟨v2, hv2⟩ : ∃ v2 : Nat, v2 = n1 % 65536 := ⟨_, rfl⟩
          have hv2b : v2 < 65536 := by omega
          have hOK : hdOk (setLe flL 60 (n1 : Int) 2) ↔ (3 ≤ v2 ∧ v2 ≤ 5) := by
            rw [hLL]
            refine hcd.trans ?_
            omega
          have hand : bits .and .u64 (n1 : Int) 65535 = (v2 : Int) := by
            rw [hv2]
            exact mask_u64 n1 16 hn1 (by decide)
          clear hcd hLL HF HM HD hv2
          obtain ⟨LL, hLL⟩ : ∃ LL, LL = setLe flL 60 (n1 : Int) 2 := ⟨_, rfl⟩
          rw [← hLL] at R9 hOK
          clear hLL
          by_cases hc : 3 ≤ v2 ∧ v2 ≤ 5
          · obtain ⟨tq, tn, tx, te, hT⟩ := hdT_form LL
            have he : te = 0 := by rw [hdT_te hT]; unfold hdE; rw [if_pos (hOK.2 hc)]
            subst he
            have kq : decide (3 ≤ (v2 : Int)) = true := by simp; omega
            have kr : decide ((v2 : Int) ≤ 5) = true := by simp; omega
            clear hOK hc
            have P1 := hide (parse_any _ _ _ _ _ R9.out)
            rw [hT] at P1
            go_wp2_with fail
            refine P1.out.mono ?_
            rintro e W7 ⟨rfl, hb7⟩
            have b7 := hb7.alloc hb7.size (.cells #[.int .u64 tq, .int .i64 tn, .int .i64 tx] 26)
            have Q7 := hide (HdB.new W7 tq tn tx)
            have y7 : W7.heap.size < (W7.alloc (.cells #[.int .u64 tq, .int .i64 tn, .int .i64 tx] 26)).heap.size := by simp
            have P2 := hide (rhead_any _ _ _ _ _ (R9.out.below b7))
            rw [hT] at P2
            have B7 := hide (B9.out.trans (b7.mono z9))
            have z7 := B7.out.size
            clear hb7 b7 P1 B9 z9 R9
            go_wp2_with fail
            refine P2.out.mono ?_
            rintro e W8 ⟨rfl, hb8⟩
            generalize hV7 : W7.alloc (.cells #[.int .u64 tq, .int .i64 tn, .int .i64 tx] 26) = V7 at *
            have b8 := hb8.alloc hb8.size (.cells #[.int .u64 tq, .int .i64 tn, .int .i64 tx] 26)
            have B8 := hide (B7.out.trans (b8.mono z7))
            obtain ⟨q0, q1, q2, _, _, _⟩ := (Q7.out.below y7 b8).at
            clear hV7 hb8 b8 P2 B7 Q7 y7 hT z7
            go_wp2
            go_ret
            exact ⟨rfl, B8.out⟩
          · by_cases hc2 : 3 ≤ v2
            · obtain ⟨tq, tn, tx, te, hT⟩ := hdT_form LL
              have he : te = 30 := by rw [hdT_te hT]; unfold hdE; rw [if_neg (fun h => hc (hOK.1 h))]
              subst he
              have kq : decide (3 ≤ (v2 : Int)) = true := by simp; omega
              have kr : decide ((v2 : Int) ≤ 5) = false := by simp; omega
              clear hOK hc
              have P1 := hide (parse_any _ _ _ _ _ R9.out)
              rw [hT] at P1
              go_wp2_with fail
              refine P1.out.mono ?_
              rintro e W7 ⟨rfl, hb7⟩
              have b7 := hb7.alloc hb7.size (.cells #[.int .u64 tq, .int .i64 tn, .int .i64 tx] 26)
              have Q7 := hide (HdB.new W7 tq tn tx)
              have y7 : W7.heap.size < (W7.alloc (.cells #[.int .u64 tq, .int .i64 tn, .int .i64 tx] 26)).heap.size := by simp
              have P2 := hide (rhead_any _ _ _ _ _ (R9.out.below b7))
              rw [hT] at P2
              have B7 := hide (B9.out.trans (b7.mono z9))
              have z7 := B7.out.size
              clear hb7 b7 P1 B9 z9 R9
              go_wp2_with fail
              refine P2.out.mono ?_
              rintro e W8 ⟨rfl, hb8⟩
              generalize hV7 : W7.alloc (.cells #[.int .u64 tq, .int .i64 tn, .int .i64 tx] 26) = V7 at *
              have b8 := hb8.alloc hb8.size (.cells #[.int .u64 tq, .int .i64 tn, .int .i64 tx] 26)
              have B8 := hide (B7.out.trans (b8.mono z7))
              obtain ⟨q0, q1, q2, _, _, _⟩ := (Q7.out.below y7 b8).at
              clear hV7 hb8 b8 P2 B7 Q7 y7 hT z7
              go_wp2
              go_ret
              exact ⟨rfl, B8.out⟩
            · obtain ⟨tq, tn, tx, te, hT⟩ := hdT_form LL
              have he : te = 30 := by rw [hdT_te hT]; unfold hdE; rw [if_neg (fun h => hc (hOK.1 h))]
              subst he
              have kq : decide (3 ≤ (v2 : Int)) = false := by simp; omega
              clear hOK hc
              have P1 := hide (parse_any _ _ _ _ _ R9.out)
              rw [hT] at P1
              go_wp2_with fail
              refine P1.out.mono ?_
              rintro e W7 ⟨rfl, hb7⟩
              have b7 := hb7.alloc hb7.size (.cells #[.int .u64 tq, .int .i64 tn, .int .i64 tx] 26)
              have Q7 := hide (HdB.new W7 tq tn tx)
              have y7 : W7.heap.size < (W7.alloc (.cells #[.int .u64 tq, .int .i64 tn, .int .i64 tx] 26)).heap.size := by simp
              have P2 := hide (rhead_any _ _ _ _ _ (R9.out.below b7))
              rw [hT] at P2
              have B7 := hide (B9.out.trans (b7.mono z9))
              have z7 := B7.out.size
              clear hb7 b7 P1 B9 z9 R9
              go_wp2_with fail
              refine P2.out.mono ?_
              rintro e W8 ⟨rfl, hb8⟩
              generalize hV7 : W7.alloc (.cells #[.int .u64 tq, .int .i64 tn, .int .i64 tx] 26) = V7 at *
              have b8 := hb8.alloc hb8.size (.cells #[.int .u64 tq, .int .i64 tn, .int .i64 tx] 26)
              have B8 := hide (B7.out.trans (b8.mono z7))
              obtain ⟨q0, q1, q2, _, _, _⟩ := (Q7.out.below y7 b8).at
              clear hV7 hb8 b8 P2 B7 Q7 y7 hT z7
              go_wp2
              go_ret
              exact ⟨rfl, B8.out⟩
        · have hf' : f = 62 := HF.out
          subst hf'
          have hm' : j = 2 := HM.out
          subst hm'
          have hLL : setLe flL 62 (n1 : Int) 2 = hbg 1 243 1 0 0 64 0 64 0 0 64 4 (n1 : Int) ++ List.replicate 320 0 := rfl
          have hcd := hdOk_hbg 1 243 1 0 0 64 0 64 0 0 64 4 n1 (List.replicate 320 0)
          rw [List.length_replicate] at hcd
          obtain ⟨v2, hv2⟩ : ∃ v2 : Nat, v2 = n1 % 65536 := ⟨_, rfl⟩
          have hv2b : v2 < 65536 := by omega
          have hOK : hdOk (setLe flL 62 (n1 : Int) 2) ↔ (v2 < 4) := by
            rw [hLL]
            refine hcd.trans ?_
            omega
          have hand : bits .and .u64 (n1 : Int) 65535 = (v2 : Int) := by
            rw [hv2]
            exact mask_u64 n1 16 hn1 (by decide)
          clear hcd hLL HF HM HD hv2
          obtain ⟨LL, hLL⟩ : ∃ LL, LL = setLe flL 62 (n1 : Int) 2 := ⟨_, rfl⟩
          rw [← hLL] at R9 hOK
          clear hLL
          by_cases hc : v2 < 4
          · obtain ⟨tq, tn, tx, te, hT⟩ := hdT_form LL
            have he : te = 0 := by rw [hdT_te hT]; unfold hdE; rw [if_pos (hOK.2 hc)]
            subst he
            have kq : decide ((v2 : Int) < 4) = true := by simp; omega
            clear hOK hc
            have P1 := hide (parse_any _ _ _ _ _ R9.out)
            rw [hT] at P1
            go_wp2_with fail
            refine P1.out.mono ?_
            rintro e W7 ⟨rfl, hb7⟩
            have b7 := hb7.alloc hb7.size (.cells #[.int .u64 tq, .int .i64 tn, .int .i64 tx] 26)
            have Q7 := hide (HdB.new W7 tq tn tx)
            have y7 : W7.heap.size < (W7.alloc (.cells #[.int .u64 tq, .int .i64 tn, .int .i64 tx] 26)).heap.size := by simp
            have P2 := hide (rhead_any _ _ _ _ _ (R9.out.below b7))
            rw [hT] at P2
            have B7 := hide (B9.out.trans (b7.mono z9))
            have z7 := B7.out.size
            clear hb7 b7 P1 B9 z9 R9
            go_wp2_with fail
            refine P2.out.mono ?_
            rintro e W8 ⟨rfl, hb8⟩
            generalize hV7 : W7.alloc (.cells #[.int .u64 tq, .int .i64 tn, .int .i64 tx] 26) = V7 at *
            have b8 := hb8.alloc hb8.size (.cells #[.int .u64 tq, .int .i64 tn, .int .i64 tx] 26)
            have B8 := hide (B7.out.trans (b8.mono z7))
            obtain ⟨q0, q1, q2, _, _, _⟩ := (Q7.out.below y7 b8).at
            clear hV7 hb8 b8 P2 B7 Q7 y7 hT z7
            go_wp2
            go_ret
            exact ⟨rfl, B8.out⟩
          · obtain ⟨tq, tn, tx, te, hT⟩ := hdT_form LL
            have he : te = 30 := by rw [hdT_te hT]; unfold hdE; rw [if_neg (fun h => hc (hOK.1 h))]
            subst he
            have kq : decide ((v2 : Int) < 4) = false := by simp; omega
            clear hOK hc
            have P1 := hide (parse_any _ _ _ _ _ R9.out)
            rw [hT] at P1
            go_wp2_with fail
            refine P1.out.mono ?_
            rintro e W7 ⟨rfl, hb7⟩
            have b7 := hb7.alloc hb7.size (.cells #[.int .u64 tq, .int .i64 tn, .int .i64 tx] 26)
            have Q7 := hide (HdB.new W7 tq tn tx)
            have y7 : W7.heap.size < (W7.alloc (.cells #[.int .u64 tq, .int .i64 tn, .int .i64 tx] 26)).heap.size := by simp
            have P2 := hide (rhead_any _ _ _ _ _ (R9.out.below b7))
            rw [hT] at P2
            have B7 := hide (B9.out.trans (b7.mono z9))
            have z7 := B7.out.size
            clear hb7 b7 P1 B9 z9 R9
            go_wp2_with fail
            refine P2.out.mono ?_
            rintro e W8 ⟨rfl, hb8⟩
            generalize hV7 : W7.alloc (.cells #[.int .u64 tq, .int .i64 tn, .int .i64 tx] 26) = V7 at *
            have b8 := hb8.alloc hb8.size (.cells #[.int .u64 tq, .int .i64 tn, .int .i64 tx] 26)
            have B8 := hide (B7.out.trans (b8.mono z7))
            obtain ⟨q0, q1, q2, _, _, _⟩ := (Q7.out.below y7 b8).at
            clear hV7 hb8 b8 P2 B7 Q7 y7 hT z7
            go_wp2
            go_ret
            exact ⟨rfl, B8.out⟩
  · have O7 := O6
    have B7 := B6
    obtain ⟨n1, rfl⟩ := Int.eq_ofNat_of_zero_le hv0
    have hn1 : n1 < 18446744073709551616 := by omega
    clear CA CN CV O6 B6 z6 hv0 hv1
    go_upto_region 8 with fail
    clear h3
    generalize hWq : W6 = W7 at *
    clear hWq
    go_wp2
    go_loopg [8] m (fun gg i wr => ∃ j : Nat, j ≤ m ∧ gg = m - j ∧ i = .int .i64 (j : Int) ∧ Hid (wr.ownsRow W1.heap.size 5 1 (.slice (some ⟨g, 0, none⟩) 384 k) 384 ((setLe flL f (n1 : Int) j).map (Value.int .u8))) ∧ Hid (Below w.heap.size w wr))
    case atStart => exact ⟨0, by omega, rfl, rfl, by rw [setOf_zero]; exact O7.out, B7.out⟩
    case round =>
      obtain ⟨j, hj, rfl, rfl, HO, HB⟩ := hrel
      clear O7 B7
      by_cases hlt : j < m
      · have hlt' : (j : Int) < (m : Int) := by omega
        have hcell := HO.out.cellAt (f + j) (by omega)
        have hfz := HO.out.frozenAt (f + j)
        have hst := HO.out.stored (f + j) (.int .u8 (byteOf (n1 : Int) j))
        rw [map_set_int, setOf_succ flL f (n1 : Int) j (by rw [fl_len]; omega)] at hst
        have HST := hide hst
        obtain ⟨u0, hu0⟩ : ∃ u0, ((setLe flL f (n1 : Int) j).map (Value.int .u8))[f + j]? = some u0 := ⟨_, List.getElem?_eq_getElem (by rw [List.length_map, setOf_length _ _ _ _ (by rw [fl_len]; omega), fl_len]; omega)⟩
        rw [hu0] at hcell
        clear hu0 hst HO
        go_wp2
        go_roundg (m - (j + 1))
        case measure => omega
        case rel => exact ⟨j + 1, by omega, rfl, by go_num, HST.out.1, HB.out.setCell (show w.heap.size ≤ g by omega) _⟩
      · obtain rfl : j = m := by omega
        obtain ⟨a9, k9, hv9, r9⟩ := Rd.own HO.out (setOf_bytes fl_bytes f (n1 : Int) j)
        cases hv9
        have R9 := hide r9
        have B9 := HB
        have z9 := B9.out.size
        clear HO HB r9 hlt
        have hcs : t = 0 ∨ t = 1 ∨ t = 2 ∨ t = 3 ∨ t = 4 ∨ t = 5 ∨ t = 6 ∨ t = 7 ∨ t = 8 ∨ t = 9 ∨ t = 10 ∨ t = 11 ∨ t = 12 := by omega
        clear ht ht'
        rcases hcs with rfl | rfl | rfl | rfl | rfl | rfl | rfl | rfl | rfl | rfl | rfl | rfl | rfl
        · have hf' : f = 16 := HF.out
          subst hf'
          have hm' : j = 2 := HM.out
          subst hm'
          have hLL : setLe flL 16 (n1 : Int) 2 = hbg (n1 : Int) 243 1 0 0 64 0 64 0 0 64 4 2 ++ List.replicate 320 0 := rfl
          have hcd := hdOk_hbg n1 243 1 0 0 64 0 64 0 0 64 4 2 (List.replicate 320 0)
          rw [List.length_replicate] at hcd
          obtain ⟨v2, hv2⟩ : ∃ v2 : Nat, v2 = n1 % 65536 := ⟨_, rfl⟩
          have hv2b : v2 < 65536 := by omega
          have hOK : hdOk (setLe flL 16 (n1 : Int) 2) ↔ (v2 = 1) := by
            rw [hLL]
            refine hcd.trans ?_
            omega
          have hand : bits .and .u64 (n1 : Int) 65535 = (v2 : Int) := by
            rw [hv2]
            exact mask_u64 n1 16 hn1 (by decide)
          clear hcd hLL HF HM HD hv2
          obtain ⟨LL, hLL⟩ : ∃ LL, LL = setLe flL 16 (n1 : Int) 2 := ⟨_, rfl⟩
          rw [← hLL] at R9 hOK
          clear hLL
          by_cases hc : v2 = 1
          · obtain ⟨tq, tn, tx, te, hT⟩ := hdT_form LL
            have he : te = 0 := by rw [hdT_te hT]; unfold hdE; rw [if_pos (hOK.2 hc)]
            subst he
            have kq : ((v2 : Int) == 1) = true := by simp; omega
            clear hOK hc
            have P1 := hide (parse_any _ _ _ _ _ R9.out)
            rw [hT] at P1
            go_wp2_with fail
            refine P1.out.mono ?_
            rintro e W7 ⟨rfl, hb7⟩
            have b7 := hb7.alloc hb7.size (.cells #[.int .u64 tq, .int .i64 tn, .int .i64 tx] 26)
            have Q7 := hide (HdB.new W7 tq tn tx)
            have y7 : W7.heap.size < (W7.alloc (.cells #[.int .u64 tq, .int .i64 tn, .int .i64 tx] 26)).heap.size := by simp
            have P2 := hide (rhead_any _ _ _ _ _ (R9.out.below b7))
            rw [hT] at P2
            have B7 := hide (B9.out.trans (b7.mono z9))
            have z7 := B7.out.size
            clear hb7 b7 P1 B9 z9 R9
            go_wp2_with fail
            refine P2.out.mono ?_
            rintro e W8 ⟨rfl, hb8⟩
            generalize hV7 : W7.alloc (.cells #[.int .u64 tq, .int .i64 tn, .int .i64 tx] 26) = V7 at *
            have b8 := hb8.alloc hb8.size (.cells #[.int .u64 tq, .int .i64 tn, .int .i64 tx] 26)
            have B8 := hide (B7.out.trans (b8.mono z7))
            obtain ⟨q0, q1, q2, _, _, _⟩ := (Q7.out.below y7 b8).at
            clear hV7 hb8 b8 P2 B7 Q7 y7 hT z7
            go_wp2
            go_ret
            exact ⟨rfl, B8.out⟩
          · obtain ⟨tq, tn, tx, te, hT⟩ := hdT_form LL
            have he : te = 30 := by rw [hdT_te hT]; unfold hdE; rw [if_neg (fun h => hc (hOK.1 h))]
            subst he
            have kq : ((v2 : Int) == 1) = false := by simp; omega
            clear hOK hc
            have P1 := hide (parse_any _ _ _ _ _ R9.out)
            rw [hT] at P1
            go_wp2_with fail
            refine P1.out.mono ?_
            rintro e W7 ⟨rfl, hb7⟩
            have b7 := hb7.alloc hb7.size (.cells #[.int .u64 tq, .int .i64 tn, .int .i64 tx] 26)
            have Q7 := hide (HdB.new W7 tq tn tx)
            have y7 : W7.heap.size < (W7.alloc (.cells #[.int .u64 tq, .int .i64 tn, .int .i64 tx] 26)).heap.size := by simp
            have P2 := hide (rhead_any _ _ _ _ _ (R9.out.below b7))
            rw [hT] at P2
            have B7 := hide (B9.out.trans (b7.mono z9))
            have z7 := B7.out.size
            clear hb7 b7 P1 B9 z9 R9
            go_wp2_with fail
            refine P2.out.mono ?_
            rintro e W8 ⟨rfl, hb8⟩
            generalize hV7 : W7.alloc (.cells #[.int .u64 tq, .int .i64 tn, .int .i64 tx] 26) = V7 at *
            have b8 := hb8.alloc hb8.size (.cells #[.int .u64 tq, .int .i64 tn, .int .i64 tx] 26)
            have B8 := hide (B7.out.trans (b8.mono z7))
            obtain ⟨q0, q1, q2, _, _, _⟩ := (Q7.out.below y7 b8).at
            clear hV7 hb8 b8 P2 B7 Q7 y7 hT z7
            go_wp2
            go_ret
            exact ⟨rfl, B8.out⟩
        · have hf' : f = 18 := HF.out
          subst hf'
          have hm' : j = 2 := HM.out
          subst hm'
          have hLL : setLe flL 18 (n1 : Int) 2 = hbg 1 (n1 : Int) 1 0 0 64 0 64 0 0 64 4 2 ++ List.replicate 320 0 := rfl
          have hcd := hdOk_hbg 1 n1 1 0 0 64 0 64 0 0 64 4 2 (List.replicate 320 0)
          rw [List.length_replicate] at hcd
          obtain ⟨v2, hv2⟩ : ∃ v2 : Nat, v2 = n1 % 65536 := ⟨_, rfl⟩
          have hv2b : v2 < 65536 := by omega
          have hOK : hdOk (setLe flL 18 (n1 : Int) 2) ↔ (v2 = 243) := by
            rw [hLL]
            refine hcd.trans ?_
            omega
          have hand : bits .and .u64 (n1 : Int) 65535 = (v2 : Int) := by
            rw [hv2]
            exact mask_u64 n1 16 hn1 (by decide)
          clear hcd hLL HF HM HD hv2
          obtain ⟨LL, hLL⟩ : ∃ LL, LL = setLe flL 18 (n1 : Int) 2 := ⟨_, rfl⟩
          rw [← hLL] at R9 hOK
          clear hLL
          by_cases hc : v2 = 243
          · obtain ⟨tq, tn, tx, te, hT⟩ := hdT_form LL
            have he : te = 0 := by rw [hdT_te hT]; unfold hdE; rw [if_pos (hOK.2 hc)]
            subst he
            have kq : ((v2 : Int) == 243) = true := by simp; omega
            clear hOK hc
            have P1 := hide (parse_any _ _ _ _ _ R9.out)
            rw [hT] at P1
            go_wp2_with fail
            refine P1.out.mono ?_
            rintro e W7 ⟨rfl, hb7⟩
            have b7 := hb7.alloc hb7.size (.cells #[.int .u64 tq, .int .i64 tn, .int .i64 tx] 26)
            have Q7 := hide (HdB.new W7 tq tn tx)
            have y7 : W7.heap.size < (W7.alloc (.cells #[.int .u64 tq, .int .i64 tn, .int .i64 tx] 26)).heap.size := by simp
            have P2 := hide (rhead_any _ _ _ _ _ (R9.out.below b7))
            rw [hT] at P2
            have B7 := hide (B9.out.trans (b7.mono z9))
            have z7 := B7.out.size
            clear hb7 b7 P1 B9 z9 R9
            go_wp2_with fail
            refine P2.out.mono ?_
            rintro e W8 ⟨rfl, hb8⟩
            generalize hV7 : W7.alloc (.cells #[.int .u64 tq, .int .i64 tn, .int .i64 tx] 26) = V7 at *
            have b8 := hb8.alloc hb8.size (.cells #[.int .u64 tq, .int .i64 tn, .int .i64 tx] 26)
            have B8 := hide (B7.out.trans (b8.mono z7))
            obtain ⟨q0, q1, q2, _, _, _⟩ := (Q7.out.below y7 b8).at
            clear hV7 hb8 b8 P2 B7 Q7 y7 hT z7
            go_wp2
            go_ret
            exact ⟨rfl, B8.out⟩
          · obtain ⟨tq, tn, tx, te, hT⟩ := hdT_form LL
            have he : te = 30 := by rw [hdT_te hT]; unfold hdE; rw [if_neg (fun h => hc (hOK.1 h))]
            subst he
            have kq : ((v2 : Int) == 243) = false := by simp; omega
            clear hOK hc
            have P1 := hide (parse_any _ _ _ _ _ R9.out)
            rw [hT] at P1
            go_wp2_with fail
            refine P1.out.mono ?_
            rintro e W7 ⟨rfl, hb7⟩
            have b7 := hb7.alloc hb7.size (.cells #[.int .u64 tq, .int .i64 tn, .int .i64 tx] 26)
            have Q7 := hide (HdB.new W7 tq tn tx)
            have y7 : W7.heap.size < (W7.alloc (.cells #[.int .u64 tq, .int .i64 tn, .int .i64 tx] 26)).heap.size := by simp
            have P2 := hide (rhead_any _ _ _ _ _ (R9.out.below b7))
            rw [hT] at P2
            have B7 := hide (B9.out.trans (b7.mono z9))
            have z7 := B7.out.size
            clear hb7 b7 P1 B9 z9 R9
            go_wp2_with fail
            refine P2.out.mono ?_
            rintro e W8 ⟨rfl, hb8⟩
            generalize hV7 : W7.alloc (.cells #[.int .u64 tq, .int .i64 tn, .int .i64 tx] 26) = V7 at *
            have b8 := hb8.alloc hb8.size (.cells #[.int .u64 tq, .int .i64 tn, .int .i64 tx] 26)
            have B8 := hide (B7.out.trans (b8.mono z7))
            obtain ⟨q0, q1, q2, _, _, _⟩ := (Q7.out.below y7 b8).at
            clear hV7 hb8 b8 P2 B7 Q7 y7 hT z7
            go_wp2
            go_ret
            exact ⟨rfl, B8.out⟩
        · have hf' : f = 20 := HF.out
          subst hf'
          have hm' : j = 4 := HM.out
          subst hm'
          have hLL : setLe flL 20 (n1 : Int) 4 = hbg 1 243 (n1 : Int) 0 0 64 0 64 0 0 64 4 2 ++ List.replicate 320 0 := rfl
          have hcd := hdOk_hbg 1 243 n1 0 0 64 0 64 0 0 64 4 2 (List.replicate 320 0)
          rw [List.length_replicate] at hcd
          obtain ⟨v2, hv2⟩ : ∃ v2 : Nat, v2 = n1 % 4294967296 := ⟨_, rfl⟩
          have hv2b : v2 < 4294967296 := by omega
          have hOK : hdOk (setLe flL 20 (n1 : Int) 4) ↔ (v2 = 1) := by
            rw [hLL]
            refine hcd.trans ?_
            omega
          have hand : bits .and .u64 (n1 : Int) 4294967295 = (v2 : Int) := by
            rw [hv2]
            exact mask_u64 n1 32 hn1 (by decide)
          clear hcd hLL HF HM HD hv2
          obtain ⟨LL, hLL⟩ : ∃ LL, LL = setLe flL 20 (n1 : Int) 4 := ⟨_, rfl⟩
          rw [← hLL] at R9 hOK
          clear hLL
          by_cases hc : v2 = 1
          · obtain ⟨tq, tn, tx, te, hT⟩ := hdT_form LL
            have he : te = 0 := by rw [hdT_te hT]; unfold hdE; rw [if_pos (hOK.2 hc)]
            subst he
            have kq : ((v2 : Int) == 1) = true := by simp; omega
            clear hOK hc
            have P1 := hide (parse_any _ _ _ _ _ R9.out)
            rw [hT] at P1
            go_wp2_with fail
            refine P1.out.mono ?_
            rintro e W7 ⟨rfl, hb7⟩
            have b7 := hb7.alloc hb7.size (.cells #[.int .u64 tq, .int .i64 tn, .int .i64 tx] 26)
            have Q7 := hide (HdB.new W7 tq tn tx)
            have y7 : W7.heap.size < (W7.alloc (.cells #[.int .u64 tq, .int .i64 tn, .int .i64 tx] 26)).heap.size := by simp
            have P2 := hide (rhead_any _ _ _ _ _ (R9.out.below b7))
            rw [hT] at P2
            have B7 := hide (B9.out.trans (b7.mono z9))
            have z7 := B7.out.size
            clear hb7 b7 P1 B9 z9 R9
            go_wp2_with fail
            refine P2.out.mono ?_
            rintro e W8 ⟨rfl, hb8⟩
            generalize hV7 : W7.alloc (.cells #[.int .u64 tq, .int .i64 tn, .int .i64 tx] 26) = V7 at *
            have b8 := hb8.alloc hb8.size (.cells #[.int .u64 tq, .int .i64 tn, .int .i64 tx] 26)
            have B8 := hide (B7.out.trans (b8.mono z7))
            obtain ⟨q0, q1, q2, _, _, _⟩ := (Q7.out.below y7 b8).at
            clear hV7 hb8 b8 P2 B7 Q7 y7 hT z7
            go_wp2
            go_ret
            exact ⟨rfl, B8.out⟩
          · obtain ⟨tq, tn, tx, te, hT⟩ := hdT_form LL
            have he : te = 30 := by rw [hdT_te hT]; unfold hdE; rw [if_neg (fun h => hc (hOK.1 h))]
            subst he
            have kq : ((v2 : Int) == 1) = false := by simp; omega
            clear hOK hc
            have P1 := hide (parse_any _ _ _ _ _ R9.out)
            rw [hT] at P1
            go_wp2_with fail
            refine P1.out.mono ?_
            rintro e W7 ⟨rfl, hb7⟩
            have b7 := hb7.alloc hb7.size (.cells #[.int .u64 tq, .int .i64 tn, .int .i64 tx] 26)
            have Q7 := hide (HdB.new W7 tq tn tx)
            have y7 : W7.heap.size < (W7.alloc (.cells #[.int .u64 tq, .int .i64 tn, .int .i64 tx] 26)).heap.size := by simp
            have P2 := hide (rhead_any _ _ _ _ _ (R9.out.below b7))
            rw [hT] at P2
            have B7 := hide (B9.out.trans (b7.mono z9))
            have z7 := B7.out.size
            clear hb7 b7 P1 B9 z9 R9
            go_wp2_with fail
            refine P2.out.mono ?_
            rintro e W8 ⟨rfl, hb8⟩
            generalize hV7 : W7.alloc (.cells #[.int .u64 tq, .int .i64 tn, .int .i64 tx] 26) = V7 at *
            have b8 := hb8.alloc hb8.size (.cells #[.int .u64 tq, .int .i64 tn, .int .i64 tx] 26)
            have B8 := hide (B7.out.trans (b8.mono z7))
            obtain ⟨q0, q1, q2, _, _, _⟩ := (Q7.out.below y7 b8).at
            clear hV7 hb8 b8 P2 B7 Q7 y7 hT z7
            go_wp2
            go_ret
            exact ⟨rfl, B8.out⟩
        · have hf' : f = 24 := HF.out
          subst hf'
          have hm' : j = 8 := HM.out
          subst hm'
          have hLL : setLe flL 24 (n1 : Int) 8 = hbg 1 243 1 (n1 : Int) 0 64 0 64 0 0 64 4 2 ++ List.replicate 320 0 := rfl
          have hcd := hdOk_hbg 1 243 1 n1 0 64 0 64 0 0 64 4 2 (List.replicate 320 0)
          rw [List.length_replicate] at hcd
          obtain ⟨v2, hv2⟩ : ∃ v2 : Nat, v2 = n1 % 18446744073709551616 := ⟨_, rfl⟩
          have hv2b : v2 < 18446744073709551616 := by omega
          have hOK : hdOk (setLe flL 24 (n1 : Int) 8) ↔ (v2 = 0) := by
            rw [hLL]
            refine hcd.trans ?_
            omega
          obtain rfl : n1 = v2 := by omega
          clear hcd hLL HF HM HD hv2
          obtain ⟨LL, hLL⟩ : ∃ LL, LL = setLe flL 24 (n1 : Int) 8 := ⟨_, rfl⟩
          rw [← hLL] at R9 hOK
          clear hLL
          by_cases hc : n1 = 0
          · obtain ⟨tq, tn, tx, te, hT⟩ := hdT_form LL
            have he : te = 0 := by rw [hdT_te hT]; unfold hdE; rw [if_pos (hOK.2 hc)]
            subst he
            have kq : ((n1 : Int) == 0) = true := by simp; omega
            clear hOK hc
            have P1 := hide (parse_any _ _ _ _ _ R9.out)
            rw [hT] at P1
            go_wp2_with fail
            refine P1.out.mono ?_
            rintro e W7 ⟨rfl, hb7⟩
            have b7 := hb7.alloc hb7.size (.cells #[.int .u64 tq, .int .i64 tn, .int .i64 tx] 26)
            have Q7 := hide (HdB.new W7 tq tn tx)
            have y7 : W7.heap.size < (W7.alloc (.cells #[.int .u64 tq, .int .i64 tn, .int .i64 tx] 26)).heap.size := by simp
            have P2 := hide (rhead_any _ _ _ _ _ (R9.out.below b7))
            rw [hT] at P2
            have B7 := hide (B9.out.trans (b7.mono z9))
            have z7 := B7.out.size
            clear hb7 b7 P1 B9 z9 R9
            go_wp2_with fail
            refine P2.out.mono ?_
            rintro e W8 ⟨rfl, hb8⟩
            generalize hV7 : W7.alloc (.cells #[.int .u64 tq, .int .i64 tn, .int .i64 tx] 26) = V7 at *
            have b8 := hb8.alloc hb8.size (.cells #[.int .u64 tq, .int .i64 tn, .int .i64 tx] 26)
            have B8 := hide (B7.out.trans (b8.mono z7))
            obtain ⟨q0, q1, q2, _, _, _⟩ := (Q7.out.below y7 b8).at
            clear hV7 hb8 b8 P2 B7 Q7 y7 hT z7
            go_wp2
            go_ret
            exact ⟨rfl, B8.out⟩
          · obtain ⟨tq, tn, tx, te, hT⟩ := hdT_form LL
            have he : te = 30 := by rw [hdT_te hT]; unfold hdE; rw [if_neg (fun h => hc (hOK.1 h))]
            subst he
            have kq : ((n1 : Int) == 0) = false := by simp; omega
            clear hOK hc
            have P1 := hide (parse_any _ _ _ _ _ R9.out)
            rw [hT] at P1
            go_wp2_with fail
            refine P1.out.mono ?_
            rintro e W7 ⟨rfl, hb7⟩
            have b7 := hb7.alloc hb7.size (.cells #[.int .u64 tq, .int .i64 tn, .int .i64 tx] 26)
            have Q7 := hide (HdB.new W7 tq tn tx)
            have y7 : W7.heap.size < (W7.alloc (.cells #[.int .u64 tq, .int .i64 tn, .int .i64 tx] 26)).heap.size := by simp
            have P2 := hide (rhead_any _ _ _ _ _ (R9.out.below b7))
            rw [hT] at P2
            have B7 := hide (B9.out.trans (b7.mono z9))
            have z7 := B7.out.size
            clear hb7 b7 P1 B9 z9 R9
            go_wp2_with fail
            refine P2.out.mono ?_
            rintro e W8 ⟨rfl, hb8⟩
            generalize hV7 : W7.alloc (.cells #[.int .u64 tq, .int .i64 tn, .int .i64 tx] 26) = V7 at *
            have b8 := hb8.alloc hb8.size (.cells #[.int .u64 tq, .int .i64 tn, .int .i64 tx] 26)
            have B8 := hide (B7.out.trans (b8.mono z7))
            obtain ⟨q0, q1, q2, _, _, _⟩ := (Q7.out.below y7 b8).at
            clear hV7 hb8 b8 P2 B7 Q7 y7 hT z7
            go_wp2
            go_ret
            exact ⟨rfl, B8.out⟩
        · have hf' : f = 32 := HF.out
          subst hf'
          have hm' : j = 8 := HM.out
          subst hm'
          have hLL : setLe flL 32 (n1 : Int) 8 = hbg 1 243 1 0 (n1 : Int) 64 0 64 0 0 64 4 2 ++ List.replicate 320 0 := rfl
          have hcd := hdOk_hbg 1 243 1 0 n1 64 0 64 0 0 64 4 2 (List.replicate 320 0)
          rw [List.length_replicate] at hcd
          obtain ⟨v2, hv2⟩ : ∃ v2 : Nat, v2 = n1 % 18446744073709551616 := ⟨_, rfl⟩
          have hv2b : v2 < 18446744073709551616 := by omega
          have hOK : hdOk (setLe flL 32 (n1 : Int) 8) ↔ (v2 = 0) := by
            rw [hLL]
            refine hcd.trans ?_
            omega
          obtain rfl : n1 = v2 := by omega
          clear hcd hLL HF HM HD hv2
          obtain ⟨LL, hLL⟩ : ∃ LL, LL = setLe flL 32 (n1 : Int) 8 := ⟨_, rfl⟩
          rw [← hLL] at R9 hOK
          clear hLL
          by_cases hc : n1 = 0
          · obtain ⟨tq, tn, tx, te, hT⟩ := hdT_form LL
            have he : te = 0 := by rw [hdT_te hT]; unfold hdE; rw [if_pos (hOK.2 hc)]
            subst he
            have kq : ((n1 : Int) == 0) = true := by simp; omega
            clear hOK hc
            have P1 := hide (parse_any _ _ _ _ _ R9.out)
            rw [hT] at P1
            go_wp2_with fail
            refine P1.out.mono ?_
            rintro e W7 ⟨rfl, hb7⟩
            have b7 := hb7.alloc hb7.size (.cells #[.int .u64 tq, .int .i64 tn, .int .i64 tx] 26)
            have Q7 := hide (HdB.new W7 tq tn tx)
            have y7 : W7.heap.size < (W7.alloc (.cells #[.int .u64 tq, .int .i64 tn, .int .i64 tx] 26)).heap.size := by simp
            have P2 := hide (rhead_any _ _ _ _ _ (R9.out.below b7))
            rw [hT] at P2
            have B7 := hide (B9.out.trans (b7.mono z9))
            have z7 := B7.out.size
            clear hb7 b7 P1 B9 z9 R9
            go_wp2_with fail
            refine P2.out.mono ?_
            rintro e W8 ⟨rfl, hb8⟩
            generalize hV7 : W7.alloc (.cells #[.int .u64 tq, .int .i64 tn, .int .i64 tx] 26) = V7 at *
            have b8 := hb8.alloc hb8.size (.cells #[.int .u64 tq, .int .i64 tn, .int .i64 tx] 26)
            have B8 := hide (B7.out.trans (b8.mono z7))
            obtain ⟨q0, q1, q2, _, _, _⟩ := (Q7.out.below y7 b8).at
            clear hV7 hb8 b8 P2 B7 Q7 y7 hT z7
            go_wp2
            go_ret
            exact ⟨rfl, B8.out⟩
          · obtain ⟨tq, tn, tx, te, hT⟩ := hdT_form LL
            have he : te = 30 := by rw [hdT_te hT]; unfold hdE; rw [if_neg (fun h => hc (hOK.1 h))]
            subst he
            have kq : ((n1 : Int) == 0) = false := by simp; omega
            clear hOK hc
            have P1 := hide (parse_any _ _ _ _ _ R9.out)
            rw [hT] at P1
            go_wp2_with fail
            refine P1.out.mono ?_
            rintro e W7 ⟨rfl, hb7⟩
            have b7 := hb7.alloc hb7.size (.cells #[.int .u64 tq, .int .i64 tn, .int .i64 tx] 26)
            have Q7 := hide (HdB.new W7 tq tn tx)
            have y7 : W7.heap.size < (W7.alloc (.cells #[.int .u64 tq, .int .i64 tn, .int .i64 tx] 26)).heap.size := by simp
            have P2 := hide (rhead_any _ _ _ _ _ (R9.out.below b7))
            rw [hT] at P2
            have B7 := hide (B9.out.trans (b7.mono z9))
            have z7 := B7.out.size
            clear hb7 b7 P1 B9 z9 R9
            go_wp2_with fail
            refine P2.out.mono ?_
            rintro e W8 ⟨rfl, hb8⟩
            generalize hV7 : W7.alloc (.cells #[.int .u64 tq, .int .i64 tn, .int .i64 tx] 26) = V7 at *
            have b8 := hb8.alloc hb8.size (.cells #[.int .u64 tq, .int .i64 tn, .int .i64 tx] 26)
            have B8 := hide (B7.out.trans (b8.mono z7))
            obtain ⟨q0, q1, q2, _, _, _⟩ := (Q7.out.below y7 b8).at
            clear hV7 hb8 b8 P2 B7 Q7 y7 hT z7
            go_wp2
            go_ret
            exact ⟨rfl, B8.out⟩
        · have hf' : f = 40 := HF.out
          subst hf'
          have hm' : j = 8 := HM.out
          subst hm'
          have hLL : setLe flL 40 (n1 : Int) 8 = hbg 1 243 1 0 0 (n1 : Int) 0 64 0 0 64 4 2 ++ List.replicate 320 0 := rfl
          have hcd := hdOk_hbg 1 243 1 0 0 n1 0 64 0 0 64 4 2 (List.replicate 320 0)
          rw [List.length_replicate] at hcd
          obtain ⟨v2, hv2⟩ : ∃ v2 : Nat, v2 = n1 % 18446744073709551616 := ⟨_, rfl⟩
          have hv2b : v2 < 18446744073709551616 := by omega
          have hOK : hdOk (setLe flL 40 (n1 : Int) 8) ↔ (v2 % 8 = 0 ∧ v2 ≤ 128) := by
            rw [hLL]
            refine hcd.trans ?_
            omega
          obtain rfl : n1 = v2 := by omega
          clear hcd hLL HF HM HD hv2
          obtain ⟨LL, hLL⟩ : ∃ LL, LL = setLe flL 40 (n1 : Int) 8 := ⟨_, rfl⟩
          rw [← hLL] at R9 hOK
          clear hLL
          by_cases hc : n1 % 8 = 0 ∧ n1 ≤ 128
          · obtain ⟨tq, tn, tx, te, hT⟩ := hdT_form LL
            have he : te = 0 := by rw [hdT_te hT]; unfold hdE; rw [if_pos (hOK.2 hc)]
            subst he
            have kq : ((n1 : Int) % 8 == 0) = true := by simp; omega
            have kr : decide ((n1 : Int) ≤ 128) = true := by simp; omega
            clear hOK hc
            have P1 := hide (parse_any _ _ _ _ _ R9.out)
            rw [hT] at P1
            go_wp2_with fail
            refine P1.out.mono ?_
            rintro e W7 ⟨rfl, hb7⟩
            have b7 := hb7.alloc hb7.size (.cells #[.int .u64 tq, .int .i64 tn, .int .i64 tx] 26)
            have Q7 := hide (HdB.new W7 tq tn tx)
            have y7 : W7.heap.size < (W7.alloc (.cells #[.int .u64 tq, .int .i64 tn, .int .i64 tx] 26)).heap.size := by simp
            have P2 := hide (rhead_any _ _ _ _ _ (R9.out.below b7))
            rw [hT] at P2
            have B7 := hide (B9.out.trans (b7.mono z9))
            have z7 := B7.out.size
            clear hb7 b7 P1 B9 z9 R9
            go_wp2_with fail
            refine P2.out.mono ?_
            rintro e W8 ⟨rfl, hb8⟩
            generalize hV7 : W7.alloc (.cells #[.int .u64 tq, .int .i64 tn, .int .i64 tx] 26) = V7 at *
            have b8 := hb8.alloc hb8.size (.cells #[.int .u64 tq, .int .i64 tn, .int .i64 tx] 26)
            have B8 := hide (B7.out.trans (b8.mono z7))
            obtain ⟨q0, q1, q2, _, _, _⟩ := (Q7.out.below y7 b8).at
            clear hV7 hb8 b8 P2 B7 Q7 y7 hT z7
            go_wp2
            go_ret
            exact ⟨rfl, B8.out⟩
          · by_cases hc2 : n1 % 8 = 0
            · obtain ⟨tq, tn, tx, te, hT⟩ := hdT_form LL
              have he : te = 30 := by rw [hdT_te hT]; unfold hdE; rw [if_neg (fun h => hc (hOK.1 h))]
              subst he
              have kq : ((n1 : Int) % 8 == 0) = true := by simp; omega
              have kr : decide ((n1 : Int) ≤ 128) = false := by simp; omega
              clear hOK hc
              have P1 := hide (parse_any _ _ _ _ _ R9.out)
              rw [hT] at P1
              go_wp2_with fail
              refine P1.out.mono ?_
              rintro e W7 ⟨rfl, hb7⟩
              have b7 := hb7.alloc hb7.size (.cells #[.int .u64 tq, .int .i64 tn, .int .i64 tx] 26)
              have Q7 := hide (HdB.new W7 tq tn tx)
              have y7 : W7.heap.size < (W7.alloc (.cells #[.int .u64 tq, .int .i64 tn, .int .i64 tx] 26)).heap.size := by simp
              have P2 := hide (rhead_any _ _ _ _ _ (R9.out.below b7))
              rw [hT] at P2
              have B7 := hide (B9.out.trans (b7.mono z9))
              have z7 := B7.out.size
              clear hb7 b7 P1 B9 z9 R9
              go_wp2_with fail
              refine P2.out.mono ?_
              rintro e W8 ⟨rfl, hb8⟩
              generalize hV7 : W7.alloc (.cells #[.int .u64 tq, .int .i64 tn, .int .i64 tx] 26) = V7 at *
              have b8 := hb8.alloc hb8.size (.cells #[.int .u64 tq, .int .i64 tn, .int .i64 tx] 26)
              have B8 := hide (B7.out.trans (b8.mono z7))
              obtain ⟨q0, q1, q2, _, _, _⟩ := (Q7.out.below y7 b8).at
              clear hV7 hb8 b8 P2 B7 Q7 y7 hT z7
              go_wp2
              go_ret
              exact ⟨rfl, B8.out⟩
            · obtain ⟨tq, tn, tx, te, hT⟩ := hdT_form LL
              have he : te = 30 := by rw [hdT_te hT]; unfold hdE; rw [if_neg (fun h => hc (hOK.1 h))]
              subst he
              have kq : ((n1 : Int) % 8 == 0) = false := by simp; omega
              clear hOK hc
              have P1 := hide (parse_any _ _ _ _ _ R9.out)
              rw [hT] at P1
              go_wp2_with fail
              refine P1.out.mono ?_
              rintro e W7 ⟨rfl, hb7⟩
              have b7 := hb7.alloc hb7.size (.cells #[.int .u64 tq, .int .i64 tn, .int .i64 tx] 26)
              have Q7 := hide (HdB.new W7 tq tn tx)
              have y7 : W7.heap.size < (W7.alloc (.cells #[.int .u64 tq, .int .i64 tn, .int .i64 tx] 26)).heap.size := by simp
              have P2 := hide (rhead_any _ _ _ _ _ (R9.out.below b7))
              rw [hT] at P2
              have B7 := hide (B9.out.trans (b7.mono z9))
              have z7 := B7.out.size
              clear hb7 b7 P1 B9 z9 R9
              go_wp2_with fail
              refine P2.out.mono ?_
              rintro e W8 ⟨rfl, hb8⟩
              generalize hV7 : W7.alloc (.cells #[.int .u64 tq, .int .i64 tn, .int .i64 tx] 26) = V7 at *
              have b8 := hb8.alloc hb8.size (.cells #[.int .u64 tq, .int .i64 tn, .int .i64 tx] 26)
              have B8 := hide (B7.out.trans (b8.mono z7))
              obtain ⟨q0, q1, q2, _, _, _⟩ := (Q7.out.below y7 b8).at
              clear hV7 hb8 b8 P2 B7 Q7 y7 hT z7
              go_wp2
              go_ret
              exact ⟨rfl, B8.out⟩
        · have hf' : f = 48 := HF.out
          subst hf'
          have hm' : j = 4 := HM.out
          subst hm'
          have hLL : setLe flL 48 (n1 : Int) 4 = hbg 1 243 1 0 0 64 (n1 : Int) 64 0 0 64 4 2 ++ List.replicate 320 0 := rfl
          have hcd := hdOk_hbg 1 243 1 0 0 64 n1 64 0 0 64 4 2 (List.replicate 320 0)
          rw [List.length_replicate] at hcd
          obtain ⟨v2, hv2⟩ : ∃ v2 : Nat, v2 = n1 % 4294967296 := ⟨_, rfl⟩
          have hv2b : v2 < 4294967296 := by omega
          have hOK : hdOk (setLe flL 48 (n1 : Int) 4) ↔ (v2 ≤ 7) := by
            rw [hLL]
            refine hcd.trans ?_
            omega
          have hand : bits .and .u64 (n1 : Int) 4294967295 = (v2 : Int) := by
            rw [hv2]
            exact mask_u64 n1 32 hn1 (by decide)
          clear hcd hLL HF HM HD hv2
          obtain ⟨LL, hLL⟩ : ∃ LL, LL = setLe flL 48 (n1 : Int) 4 := ⟨_, rfl⟩
          rw [← hLL] at R9 hOK
          clear hLL
          by_cases hc : v2 ≤ 7
          · obtain ⟨tq, tn, tx, te, hT⟩ := hdT_form LL
            have he : te = 0 := by rw [hdT_te hT]; unfold hdE; rw [if_pos (hOK.2 hc)]
            subst he
            have kq : decide ((v2 : Int) ≤ 7) = true := by simp; omega
            clear hOK hc
            have P1 := hide (parse_any _ _ _ _ _ R9.out)
            rw [hT] at P1
            go_wp2_with fail
            refine P1.out.mono ?_
            rintro e W7 ⟨rfl, hb7⟩
            have b7 := hb7.alloc hb7.size (.cells #[.int .u64 tq, .int .i64 tn, .int .i64 tx] 26)
            have Q7 := hide (HdB.new W7 tq tn tx)
            have y7 : W7.heap.size < (W7.alloc (.cells #[.int .u64 tq, .int .i64 tn, .int .i64 tx] 26)).heap.size := by simp
            have P2 := hide (rhead_any _ _ _ _ _ (R9.out.below b7))
            rw [hT] at P2
            have B7 := hide (B9.out.trans (b7.mono z9))
            have z7 := B7.out.size
            clear hb7 b7 P1 B9 z9 R9
            go_wp2_with fail
            refine P2.out.mono ?_
            rintro e W8 ⟨rfl, hb8⟩
            generalize hV7 : W7.alloc (.cells #[.int .u64 tq, .int .i64 tn, .int .i64 tx] 26) = V7 at *
            have b8 := hb8.alloc hb8.size (.cells #[.int .u64 tq, .int .i64 tn, .int .i64 tx] 26)
            have B8 := hide (B7.out.trans (b8.mono z7))
            obtain ⟨q0, q1, q2, _, _, _⟩ := (Q7.out.below y7 b8).at
            clear hV7 hb8 b8 P2 B7 Q7 y7 hT z7
            go_wp2
            go_ret
            exact ⟨rfl, B8.out⟩
          · obtain ⟨tq, tn, tx, te, hT⟩ := hdT_form LL
            have he : te = 30 := by rw [hdT_te hT]; unfold hdE; rw [if_neg (fun h => hc (hOK.1 h))]
            subst he
            have kq : decide ((v2 : Int) ≤ 7) = false := by simp; omega
            clear hOK hc
            have P1 := hide (parse_any _ _ _ _ _ R9.out)
            rw [hT] at P1
            go_wp2_with fail
            refine P1.out.mono ?_
            rintro e W7 ⟨rfl, hb7⟩
            have b7 := hb7.alloc hb7.size (.cells #[.int .u64 tq, .int .i64 tn, .int .i64 tx] 26)
            have Q7 := hide (HdB.new W7 tq tn tx)
            have y7 : W7.heap.size < (W7.alloc (.cells #[.int .u64 tq, .int .i64 tn, .int .i64 tx] 26)).heap.size := by simp
            have P2 := hide (rhead_any _ _ _ _ _ (R9.out.below b7))
            rw [hT] at P2
            have B7 := hide (B9.out.trans (b7.mono z9))
            have z7 := B7.out.size
            clear hb7 b7 P1 B9 z9 R9
            go_wp2_with fail
            refine P2.out.mono ?_
            rintro e W8 ⟨rfl, hb8⟩
            generalize hV7 : W7.alloc (.cells #[.int .u64 tq, .int .i64 tn, .int .i64 tx] 26) = V7 at *
            have b8 := hb8.alloc hb8.size (.cells #[.int .u64 tq, .int .i64 tn, .int .i64 tx] 26)
            have B8 := hide (B7.out.trans (b8.mono z7))
            obtain ⟨q0, q1, q2, _, _, _⟩ := (Q7.out.below y7 b8).at
            clear hV7 hb8 b8 P2 B7 Q7 y7 hT z7
            go_wp2
            go_ret
            exact ⟨rfl, B8.out⟩
        · have hf' : f = 52 := HF.out
          subst hf'
          have hm' : j = 2 := HM.out
          subst hm'
          have hLL : setLe flL 52 (n1 : Int) 2 = hbg 1 243 1 0 0 64 0 (n1 : Int) 0 0 64 4 2 ++ List.replicate 320 0 := rfl
          have hcd := hdOk_hbg 1 243 1 0 0 64 0 n1 0 0 64 4 2 (List.replicate 320 0)
          rw [List.length_replicate] at hcd
          obtain ⟨v2, hv2⟩ : ∃ v2 : Nat, v2 = n1 % 65536 := ⟨_, rfl⟩
          have hv2b : v2 < 65536 := by omega
          have hOK : hdOk (setLe flL 52 (n1 : Int) 2) ↔ (v2 = 64) := by
            rw [hLL]
            refine hcd.trans ?_
            omega
          have hand : bits .and .u64 (n1 : Int) 65535 = (v2 : Int) := by
            rw [hv2]
            exact mask_u64 n1 16 hn1 (by decide)
          clear hcd hLL HF HM HD hv2
          obtain ⟨LL, hLL⟩ : ∃ LL, LL = setLe flL 52 (n1 : Int) 2 := ⟨_, rfl⟩
          rw [← hLL] at R9 hOK
          clear hLL
          by_cases hc : v2 = 64
          · obtain ⟨tq, tn, tx, te, hT⟩ := hdT_form LL
            have he : te = 0 := by rw [hdT_te hT]; unfold hdE; rw [if_pos (hOK.2 hc)]
            subst he
            have kq : ((v2 : Int) == 64) = true := by simp; omega
            clear hOK hc
            have P1 := hide (parse_any _ _ _ _ _ R9.out)
            rw [hT] at P1
            go_wp2_with fail
            refine P1.out.mono ?_
            rintro e W7 ⟨rfl, hb7⟩
            have b7 := hb7.alloc hb7.size (.cells #[.int .u64 tq, .int .i64 tn, .int .i64 tx] 26)
            have Q7 := hide (HdB.new W7 tq tn tx)
            have y7 : W7.heap.size < (W7.alloc (.cells #[.int .u64 tq, .int .i64 tn, .int .i64 tx] 26)).heap.size := by simp
            have P2 := hide (rhead_any _ _ _ _ _ (R9.out.below b7))
            rw [hT] at P2
            have B7 := hide (B9.out.trans (b7.mono z9))
            have z7 := B7.out.size
            clear hb7 b7 P1 B9 z9 R9
            go_wp2_with fail
            refine P2.out.mono ?_
            rintro e W8 ⟨rfl, hb8⟩
            generalize hV7 : W7.alloc (.cells #[.int .u64 tq, .int .i64 tn, .int .i64 tx] 26) = V7 at *
            have b8 := hb8.alloc hb8.size (.cells #[.int .u64 tq, .int .i64 tn, .int .i64 tx] 26)
            have B8 := hide (B7.out.trans (b8.mono z7))
            obtain ⟨q0, q1, q2, _, _, _⟩ := (Q7.out.below y7 b8).at
            clear hV7 hb8 b8 P2 B7 Q7 y7 hT z7
            go_wp2
            go_ret
            exact ⟨rfl, B8.out⟩
          · obtain ⟨tq, tn, tx, te, hT⟩ := hdT_form LL
            have he : te = 30 := by rw [hdT_te hT]; unfold hdE; rw [if_neg (fun h => hc (hOK.1 h))]
            subst he
            have kq : ((v2 : Int) == 64) = false := by simp; omega
            clear hOK hc
            have P1 := hide (parse_any _ _ _ _ _ R9.out)
            rw [hT] at P1
            go_wp2_with fail
            refine P1.out.mono ?_
            rintro e W7 ⟨rfl, hb7⟩
            have b7 := hb7.alloc hb7.size (.cells #[.int .u64 tq, .int .i64 tn, .int .i64 tx] 26)
            have Q7 := hide (HdB.new W7 tq tn tx)
            have y7 : W7.heap.size < (W7.alloc (.cells #[.int .u64 tq, .int .i64 tn, .int .i64 tx] 26)).heap.size := by simp
            have P2 := hide (rhead_any _ _ _ _ _ (R9.out.below b7))
            rw [hT] at P2
            have B7 := hide (B9.out.trans (b7.mono z9))
            have z7 := B7.out.size
            clear hb7 b7 P1 B9 z9 R9
            go_wp2_with fail
            refine P2.out.mono ?_
            rintro e W8 ⟨rfl, hb8⟩
            generalize hV7 : W7.alloc (.cells #[.int .u64 tq, .int .i64 tn, .int .i64 tx] 26) = V7 at *
            have b8 := hb8.alloc hb8.size (.cells #[.int .u64 tq, .int .i64 tn, .int .i64 tx] 26)
            have B8 := hide (B7.out.trans (b8.mono z7))
            obtain ⟨q0, q1, q2, _, _, _⟩ := (Q7.out.below y7 b8).at
            clear hV7 hb8 b8 P2 B7 Q7 y7 hT z7
            go_wp2
            go_ret
            exact ⟨rfl, B8.out⟩
        · have hf' : f = 54 := HF.out
          subst hf'
          have hm' : j = 2 := HM.out
          subst hm'
          have hLL : setLe flL 54 (n1 : Int) 2 = hbg 1 243 1 0 0 64 0 64 (n1 : Int) 0 64 4 2 ++ List.replicate 320 0 := rfl
          have hcd := hdOk_hbg 1 243 1 0 0 64 0 64 n1 0 64 4 2 (List.replicate 320 0)
          rw [List.length_replicate] at hcd
          obtain ⟨v2, hv2⟩ : ∃ v2 : Nat, v2 = n1 % 65536 := ⟨_, rfl⟩
          have hv2b : v2 < 65536 := by omega
          have hOK : hdOk (setLe flL 54 (n1 : Int) 2) ↔ (v2 = 0) := by
            rw [hLL]
            refine hcd.trans ?_
            omega
          have hand : bits .and .u64 (n1 : Int) 65535 = (v2 : Int) := by
            rw [hv2]
            exact mask_u64 n1 16 hn1 (by decide)
          clear hcd hLL HF HM HD hv2
          obtain ⟨LL, hLL⟩ : ∃ LL, LL = setLe flL 54 (n1 : Int) 2 := ⟨_, rfl⟩
          rw [← hLL] at R9 hOK
          clear hLL
          by_cases hc : v2 = 0
          · obtain ⟨tq, tn, tx, te, hT⟩ := hdT_form LL
            have he : te = 0 := by rw [hdT_te hT]; unfold hdE; rw [if_pos (hOK.2 hc)]
            subst he
            have kq : ((v2 : Int) == 0) = true := by simp; omega
            clear hOK hc
            have P1 := hide (parse_any _ _ _ _ _ R9.out)
            rw [hT] at P1
            go_wp2_with fail
            refine P1.out.mono ?_
            rintro e W7 ⟨rfl, hb7⟩
            have b7 := hb7.alloc hb7.size (.cells #[.int .u64 tq, .int .i64 tn, .int .i64 tx] 26)
            have Q7 := hide (HdB.new W7 tq tn tx)
            have y7 : W7.heap.size < (W7.alloc (.cells #[.int .u64 tq, .int .i64 tn, .int .i64 tx] 26)).heap.size := by simp
            have P2 := hide (rhead_any _ _ _ _ _ (R9.out.below b7))
            rw [hT] at P2
            have B7 := hide (B9.out.trans (b7.mono z9))
            have z7 := B7.out.size
            clear hb7 b7 P1 B9 z9 R9
            go_wp2_with fail
            refine P2.out.mono ?_
            rintro e W8 ⟨rfl, hb8⟩
            generalize hV7 : W7.alloc (.cells #[.int .u64 tq, .int .i64 tn, .int .i64 tx] 26) = V7 at *
            have b8 := hb8.alloc hb8.size (.cells #[.int .u64 tq, .int .i64 tn, .int .i64 tx] 26)
            have B8 := hide (B7.out.trans (b8.mono z7))
            obtain ⟨q0, q1, q2, _, _, _⟩ := (Q7.out.below y7 b8).at
            clear hV7 hb8 b8 P2 B7 Q7 y7 hT z7
            go_wp2
            go_ret
            exact ⟨rfl, B8.out⟩
          · obtain ⟨tq, tn, tx, te, hT⟩ := hdT_form LL
            have he : te = 30 := by rw [hdT_te hT]; unfold hdE; rw [if_neg (fun h => hc (hOK.1 h))]
            subst he
            have kq : ((v2 : Int) == 0) = false := by simp; omega
            clear hOK hc
            have P1 := hide (parse_any _ _ _ _ _ R9.out)
            rw [hT] at P1
            go_wp2_with fail
            refine P1.out.mono ?_
            rintro e W7 ⟨rfl, hb7⟩
            have b7 := hb7.alloc hb7.size (.cells #[.int .u64 tq, .int .i64 tn, .int .i64 tx] 26)
            have Q7 := hide (HdB.new W7 tq tn tx)
            have y7 : W7.heap.size < (W7.alloc (.cells #[.int .u64 tq, .int .i64 tn, .int .i64 tx] 26)).heap.size := by simp
            have P2 := hide (rhead_any _ _ _ _ _ (R9.out.below b7))
            rw [hT] at P2
            have B7 := hide (B9.out.trans (b7.mono z9))
            have z7 := B7.out.size
            clear hb7 b7 P1 B9 z9 R9
            go_wp2_with fail
            refine P2.out.mono ?_
            rintro e W8 ⟨rfl, hb8⟩
            generalize hV7 : W7.alloc (.cells #[.int .u64 tq, .int .i64 tn, .int .i64 tx] 26) = V7 at *
            have b8 := hb8.alloc hb8.size (.cells #[.int .u64 tq, .int .i64 tn, .int .i64 tx] 26)
            have B8 := hide (B7.out.trans (b8.mono z7))
            obtain ⟨q0, q1, q2, _, _, _⟩ := (Q7.out.below y7 b8).at
            clear hV7 hb8 b8 P2 B7 Q7 y7 hT z7
            go_wp2
            go_ret
            exact ⟨rfl, B8.out⟩
        · have hf' : f = 56 := HF.out
          subst hf'
          have hm' : j = 2 := HM.out
          subst hm'
          have hLL : setLe flL 56 (n1 : Int) 2 = hbg 1 243 1 0 0 64 0 64 0 (n1 : Int) 64 4 2 ++ List.replicate 320 0 := rfl
          have hcd := hdOk_hbg 1 243 1 0 0 64 0 64 0 n1 64 4 2 (List.replicate 320 0)
          rw [List.length_replicate] at hcd
          obtain ⟨v2, hv2⟩ : ∃ v2 : Nat, v2 = n1 % 65536 := ⟨_, rfl⟩
          have hv2b : v2 < 65536 := by omega
          have hOK : hdOk (setLe flL 56 (n1 : Int) 2) ↔ (v2 = 0) := by
            rw [hLL]
            refine hcd.trans ?_
            omega
          have hand : bits .and .u64 (n1 : Int) 65535 = (v2 : Int) := by
            rw [hv2]
            exact mask_u64 n1 16 hn1 (by decide)
          clear hcd hLL HF HM HD hv2
          obtain ⟨LL, hLL⟩ : ∃ LL, LL = setLe flL 56 (n1 : Int) 2 := ⟨_, rfl⟩
          rw [← hLL] at R9 hOK
          clear hLL
          by_cases hc : v2 = 0
          · obtain ⟨tq, tn, tx, te, hT⟩ := hdT_form LL
            have he : te = 0 := by rw [hdT_te hT]; unfold hdE; rw [if_pos (hOK.2 hc)]
            subst he
            have kq : ((v2 : Int) == 0) = true := by simp; omega
            clear hOK hc
            have P1 := hide (parse_any _ _ _ _ _ R9.out)
            rw [hT] at P1
            go_wp2_with fail
            refine P1.out.mono ?_
            rintro e W7 ⟨rfl, hb7⟩
            have b7 := hb7.alloc hb7.size (.cells #[.int .u64 tq, .int .i64 tn, .int .i64 tx] 26)
            have Q7 := hide (HdB.new W7 tq tn tx)
            have y7 : W7.heap.size < (W7.alloc (.cells #[.int .u64 tq, .int .i64 tn, .int .i64 tx] 26)).heap.size := by simp
            have P2 := hide (rhead_any _ _ _ _ _ (R9.out.below b7))
            rw [hT] at P2
            have B7 := hide (B9.out.trans (b7.mono z9))
            have z7 := B7.out.size
            clear hb7 b7 P1 B9 z9 R9
            go_wp2_with fail
            refine P2.out.mono ?_
            rintro e W8 ⟨rfl, hb8⟩
            generalize hV7 : W7.alloc (.cells #[.int .u64 tq, .int .i64 tn, .int .i64 tx] 26) = V7 at *
            have b8 := hb8.alloc hb8.size (.cells #[.int .u64 tq, .int .i64 tn, .int .i64 tx] 26)
            have B8 := hide (B7.out.trans (b8.mono z7))
            obtain ⟨q0, q1, q2, _, _, _⟩ := (Q7.out.below y7 b8).at
            clear hV7 hb8 b8 P2 B7 Q7 y7 hT z7
            go_wp2
            go_ret
            exact ⟨rfl, B8.out⟩
          · obtain ⟨tq, tn, tx, te, hT⟩ := hdT_form LL
            have he : te = 30 := by rw [hdT_te hT]; unfold hdE; rw [if_neg (fun h => hc (hOK.1 h))]
            subst he
            have kq : ((v2 : Int) == 0) = false := by simp; omega
            clear hOK hc
            have P1 := hide (parse_any _ _ _ _ _ R9.out)
            rw [hT] at P1
            go_wp2_with fail
            refine P1.out.mono ?_
            rintro e W7 ⟨rfl, hb7⟩
            have b7 := hb7.alloc hb7.size (.cells #[.int .u64 tq, .int .i64 tn, .int .i64 tx] 26)
            have Q7 := hide (HdB.new W7 tq tn tx)
            have y7 : W7.heap.size < (W7.alloc (.cells #[.int .u64 tq, .int .i64 tn, .int .i64 tx] 26)).heap.size := by simp
            have P2 := hide (rhead_any _ _ _ _ _ (R9.out.below b7))
            rw [hT] at P2
            have B7 := hide (B9.out.trans (b7.mono z9))
            have z7 := B7.out.size
            clear hb7 b7 P1 B9 z9 R9
            go_wp2_with fail
            refine P2.out.mono ?_
            rintro e W8 ⟨rfl, hb8⟩
            generalize hV7 : W7.alloc (.cells #[.int .u64 tq, .int .i64 tn, .int .i64 tx] 26) = V7 at *
            have b8 := hb8.alloc hb8.size (.cells #[.int .u64 tq, .int .i64 tn, .int .i64 tx] 26)
            have B8 := hide (B7.out.trans (b8.mono z7))
            obtain ⟨q0, q1, q2, _, _, _⟩ := (Q7.out.below y7 b8).at
            clear hV7 hb8 b8 P2 B7 Q7 y7 hT z7
            go_wp2
            go_ret
            exact ⟨rfl, B8.out⟩
        · have hf' : f = 58 := HF.out
          subst hf'
          have hm' : j = 2 := HM.out
          subst hm'
          have hLL : setLe flL 58 (n1 : Int) 2 = hbg 1 243 1 0 0 64 0 64 0 0 (n1 : Int) 4 2 ++ List.replicate 320 0 := rfl
          have hcd := hdOk_hbg 1 243 1 0 0 64 0 64 0 0 n1 4 2 (List.replicate 320 0)
          rw [List.length_replicate] at hcd
          obtain ⟨v2, hv2⟩ : ∃ v2 : Nat, v2 = n1 % 65536 := ⟨_, rfl⟩
          have hv2b : v2 < 65536 := by omega
          have hOK : hdOk (setLe flL 58 (n1 : Int) 2) ↔ (v2 = 64) := by
            rw [hLL]
            refine hcd.trans ?_
            omega
          have hand : bits .and .u64 (n1 : Int) 65535 = (v2 : Int) := by
            rw [hv2]
            exact mask_u64 n1 16 hn1 (by decide)
          clear hcd hLL HF HM HD hv2
          obtain ⟨LL, hLL⟩ : ∃ LL, LL = setLe flL 58 (n1 : Int) 2 := ⟨_, rfl⟩
          rw [← hLL] at R9 hOK
          clear hLL
          by_cases hc : v2 = 64
          · obtain ⟨tq, tn, tx, te, hT⟩ := hdT_form LL
            have he : te = 0 := by rw [hdT_te hT]; unfold hdE; rw [if_pos (hOK.2 hc)]
            subst he
            have kq : ((v2 : Int) == 64) = true := by simp; omega
            clear hOK hc
            have P1 := hide (parse_any _ _ _ _ _ R9.out)
            rw [hT] at P1
            go_wp2_with fail
            refine P1.out.mono ?_
            rintro e W7 ⟨rfl, hb7⟩
            have b7 := hb7.alloc hb7.size (.cells #[.int .u64 tq, .int .i64 tn, .int .i64 tx] 26)
            have Q7 := hide (HdB.new W7 tq tn tx)
            have y7 : W7.heap.size < (W7.alloc (.cells #[.int .u64 tq, .int .i64 tn, .int .i64 tx] 26)).heap.size := by simp
            have P2 := hide (rhead_any _ _ _ _ _ (R9.out.below b7))
            rw [hT] at P2
            have B7 := hide (B9.out.trans (b7.mono z9))
            have z7 := B7.out.size
            clear hb7 b7 P1 B9 z9 R9
            go_wp2_with fail
            refine P2.out.mono ?_
            rintro e W8 ⟨rfl, hb8⟩
            generalize hV7 : W7.alloc (.cells #[.int .u64 tq, .int .i64 tn, .int .i64 tx] 26) = V7 at *
            have b8 := hb8.alloc hb8.size (.cells #[.int .u64 tq, .int .i64 tn, .int .i64 tx] 26)
            have B8 := hide (B7.out.trans (b8.mono z7))
            obtain ⟨q0, q1, q2, _, _, _⟩ := (Q7.out.below y7 b8).at
            clear hV7 hb8 b8 P2 B7 Q7 y7 hT z7
            go_wp2
            go_ret
            exact ⟨rfl, B8.out⟩
          · obtain ⟨tq, tn, tx, te, hT⟩ := hdT_form LL
            have he : te = 30 := by rw [hdT_te hT]; unfold hdE; rw [if_neg (fun h => hc (hOK.1 h))]
            subst he
            have kq : ((v2 : Int) == 64) = false := by simp; omega
            clear hOK hc
            have P1 := hide (parse_any _ _ _ _ _ R9.out)
            rw [hT] at P1
            go_wp2_with fail
            refine P1.out.mono ?_
            rintro e W7 ⟨rfl, hb7⟩
            have b7 := hb7.alloc hb7.size (.cells #[.int .u64 tq, .int .i64 tn, .int .i64 tx] 26)
            have Q7 := hide (HdB.new W7 tq tn tx)
            have y7 : W7.heap.size < (W7.alloc (.cells #[.int .u64 tq, .int .i64 tn, .int .i64 tx] 26)).heap.size := by simp
            have P2 := hide (rhead_any _ _ _ _ _ (R9.out.below b7))
            rw [hT] at P2
            have B7 := hide (B9.out.trans (b7.mono z9))
            have z7 := B7.out.size
            clear hb7 b7 P1 B9 z9 R9
            go_wp2_with fail
            refine P2.out.mono ?_
            rintro e W8 ⟨rfl, hb8⟩
            generalize hV7 : W7.alloc (.cells #[.int .u64 tq, .int .i64 tn, .int .i64 tx] 26) = V7 at *
            have b8 := hb8.alloc hb8.size (.cells #[.int .u64 tq, .int .i64 tn, .int .i64 tx] 26)
            have B8 := hide (B7.out.trans (b8.mono z7))
            obtain ⟨q0, q1, q2, _, _, _⟩ := (Q7.out.below y7 b8).at
            clear hV7 hb8 b8 P2 B7 Q7 y7 hT z7
            go_wp2
            go_ret
            exact ⟨rfl, B8.out⟩
        · have hf' : f = 60 := HF.out
          subst hf'
          have hm' : j = 2 := HM.out
          subst hm'
          have hLL : setLe flL 60 (n1 : Int) 2 = hbg 1 243 1 0 0 64 0 64 0 0 64 (n1 : Int) 2 ++ List.replicate 320 0 := rfl
          have hcd := hdOk_hbg 1 243 1 0 0 64 0 64 0 0 64 n1 2 (List.replicate 320 0)
          rw [List.length_replicate] at hcd
          obtain ⟨v2, hv2⟩ : ∃ v2 : Nat, v2 = n1 % 65536 := ⟨_, rfl⟩
          have hv2b : v2 < 65536 := by omega
          have hOK : hdOk (setLe flL 60 (n1 : Int) 2) ↔ (3 ≤ v2 ∧ v2 ≤ 5) := by
            rw [hLL]
            refine hcd.trans ?_
            omega
          have hand : bits .and .u64 (n1 : Int) 65535 = (v2 : Int) := by
            rw [hv2]
            exact mask_u64 n1 16 hn1 (by decide)
          clear hcd hLL HF HM HD hv2
          obtain ⟨LL, hLL⟩ : ∃ LL, LL = setLe flL 60 (n1 : Int) 2 := ⟨_, rfl⟩
          rw [← hLL] at R9 hOK
          clear hLL
          by_cases hc : 3 ≤ v2 ∧ v2 ≤ 5
          · obtain ⟨tq, tn, tx, te, hT⟩ := hdT_form LL
            have he : te = 0 := by rw [hdT_te hT]; unfold hdE; rw [if_pos (hOK.2 hc)]
            subst he
            have kq : decide (3 ≤ (v2 : Int)) = true := by simp; omega
            have kr : decide ((v2 : Int) ≤ 5) = true := by simp; omega
            clear hOK hc
            have P1 := hide (parse_any _ _ _ _ _ R9.out)
            rw [hT] at P1
            go_wp2_with fail
            refine P1.out.mono ?_
            rintro e W7 ⟨rfl, hb7⟩
            have b7 := hb7.alloc hb7.size (.cells #[.int .u64 tq, .int .i64 tn, .int .i64 tx] 26)
            have Q7 := hide (HdB.new W7 tq tn tx)
            have y7 : W7.heap.size < (W7.alloc (.cells #[.int .u64 tq, .int .i64 tn, .int .i64 tx] 26)).heap.size := by simp
            have P2 := hide (rhead_any _ _ _ _ _ (R9.out.below b7))
            rw [hT] at P2
            have B7 := hide (B9.out.trans (b7.mono z9))
            have z7 := B7.out.size
            clear hb7 b7 P1 B9 z9 R9
            go_wp2_with fail
            refine P2.out.mono ?_
            rintro e W8 ⟨rfl, hb8⟩
            generalize hV7 : W7.alloc (.cells #[.int .u64 tq, .int .i64 tn, .int .i64 tx] 26) = V7 at *
            have b8 := hb8.alloc hb8.size (.cells #[.int .u64 tq, .int .i64 tn, .int .i64 tx] 26)
            have B8 := hide (B7.out.trans (b8.mono z7))
            obtain ⟨q0, q1, q2, _, _, _⟩ := (Q7.out.below y7 b8).at
            clear hV7 hb8 b8 P2 B7 Q7 y7 hT z7
            go_wp2
            go_ret
            exact ⟨rfl, B8.out⟩
          · by_cases hc2 : 3 ≤ v2
            · obtain ⟨tq, tn, tx, te, hT⟩ := hdT_form LL
              have he : te = 30 := by rw [hdT_te hT]; unfold hdE; rw [if_neg (fun h => hc (hOK.1 h))]
              subst he
              have kq : decide (3 ≤ (v2 : Int)) = true := by simp; omega
              have kr : decide ((v2 : Int) ≤ 5) = false := by simp; omega
              clear hOK hc
              have P1 := hide (parse_any _ _ _ _ _ R9.out)
              rw [hT] at P1
              go_wp2_with fail
              refine P1.out.mono ?_
              rintro e W7 ⟨rfl, hb7⟩
              have b7 := hb7.alloc hb7.size (.cells #[.int .u64 tq, .int .i64 tn, .int .i64 tx] 26)
              have Q7 := hide (HdB.new W7 tq tn tx)
              have y7 : W7.heap.size < (W7.alloc (.cells #[.int .u64 tq, .int .i64 tn, .int .i64 tx] 26)).heap.size := by simp
              have P2 := hide (rhead_any _ _ _ _ _ (R9.out.below b7))
              rw [hT] at P2
              have B7 := hide (B9.out.trans (b7.mono z9))
              have z7 := B7.out.size
              clear hb7 b7 P1 B9 z9 R9
              go_wp2_with fail
              refine P2.out.mono ?_
              rintro e W8 ⟨rfl, hb8⟩
              generalize hV7 : W7.alloc (.cells #[.int .u64 tq, .int .i64 tn, .int .i64 tx] 26) = V7 at *
              have b8 := hb8.alloc hb8.size (.cells #[.int .u64 tq, .int .i64 tn, .int .i64 tx] 26)
              have B8 := hide (B7.out.trans (b8.mono z7))
              obtain ⟨q0, q1, q2, _, _, _⟩ := (Q7.out.below y7 b8).at
              clear hV7 hb8 b8 P2 B7 Q7 y7 hT z7
              go_wp2
              go_ret
              exact ⟨rfl, B8.out⟩
            · obtain ⟨tq, tn, tx, te, hT⟩ := hdT_form LL
              have he : te = 30 := by rw [hdT_te hT]; unfold hdE; rw [if_neg (fun h => hc (hOK.1 h))]
              subst he
              have kq : decide (3 ≤ (v2 : Int)) = false := by simp; omega
              clear hOK hc
              have P1 := hide (parse_any _ _ _ _ _ R9.out)
              rw [hT] at P1
              go_wp2_with fail
              refine P1.out.mono ?_
              rintro e W7 ⟨rfl, hb7⟩
              have b7 := hb7.alloc hb7.size (.cells #[.int .u64 tq, .int .i64 tn, .int .i64 tx] 26)
              have Q7 := hide (HdB.new W7 tq tn tx)
              have y7 : W7.heap.size < (W7.alloc (.cells #[.int .u64 tq, .int .i64 tn, .int .i64 tx] 26)).heap.size := by simp
              have P2 := hide (rhead_any _ _ _ _ _ (R9.out.below b7))
              rw [hT] at P2
              have B7 := hide (B9.out.trans (b7.mono z9))
              have z7 := B7.out.size
              clear hb7 b7 P1 B9 z9 R9
              go_wp2_with fail
              refine P2.out.mono ?_
              rintro e W8 ⟨rfl, hb8⟩
              generalize hV7 : W7.alloc (.cells #[.int .u64 tq, .int .i64 tn, .int .i64 tx] 26) = V7 at *
              have b8 := hb8.alloc hb8.size (.cells #[.int .u64 tq, .int .i64 tn, .int .i64 tx] 26)
              have B8 := hide (B7.out.trans (b8.mono z7))
              obtain ⟨q0, q1, q2, _, _, _⟩ := (Q7.out.below y7 b8).at
              clear hV7 hb8 b8 P2 B7 Q7 y7 hT z7
              go_wp2
              go_ret
              exact ⟨rfl, B8.out⟩
        · have hf' : f = 62 := HF.out
          subst hf'
          have hm' : j = 2 := HM.out
          subst hm'
          have hLL : setLe flL 62 (n1 : Int) 2 = hbg 1 243 1 0 0 64 0 64 0 0 64 4 (n1 : Int) ++ List.replicate 320 0 := rfl
          have hcd := hdOk_hbg 1 243 1 0 0 64 0 64 0 0 64 4 n1 (List.replicate 320 0)
          rw [List.length_replicate] at hcd
          obtain ⟨v2, hv2⟩ : ∃ v2 : Nat, v2 = n1 % 65536 := ⟨_, rfl⟩
          have hv2b : v2 < 65536 := by omega
          have hOK : hdOk (setLe flL 62 (n1 : Int) 2) ↔ (v2 < 4) := by
            rw [hLL]
            refine hcd.trans ?_
            omega
          have hand : bits .and .u64 (n1 : Int) 65535 = (v2 : Int) := by
            rw [hv2]
            exact mask_u64 n1 16 hn1 (by decide)
          clear hcd hLL HF HM HD hv2
          obtain ⟨LL, hLL⟩ : ∃ LL, LL = setLe flL 62 (n1 : Int) 2 := ⟨_, rfl⟩
          rw [← hLL] at R9 hOK
          clear hLL
          by_cases hc : v2 < 4
          · obtain ⟨tq, tn, tx, te, hT⟩ := hdT_form LL
            have he : te = 0 := by rw [hdT_te hT]; unfold hdE; rw [if_pos (hOK.2 hc)]
            subst he
            have kq : decide ((v2 : Int) < 4) = true := by simp; omega
            clear hOK hc
            have P1 := hide (parse_any _ _ _ _ _ R9.out)
            rw [hT] at P1
            go_wp2_with fail
            refine P1.out.mono ?_
            rintro e W7 ⟨rfl, hb7⟩
            have b7 := hb7.alloc hb7.size (.cells #[.int .u64 tq, .int .i64 tn, .int .i64 tx] 26)
            have Q7 := hide (HdB.new W7 tq tn tx)
            have y7 : W7.heap.size < (W7.alloc (.cells #[.int .u64 tq, .int .i64 tn, .int .i64 tx] 26)).heap.size := by simp
            have P2 := hide (rhead_any _ _ _ _ _ (R9.out.below b7))
            rw [hT] at P2
            have B7 := hide (B9.out.trans (b7.mono z9))
            have z7 := B7.out.size
            clear hb7 b7 P1 B9 z9 R9
            go_wp2_with fail
            refine P2.out.mono ?_
            rintro e W8 ⟨rfl, hb8⟩
            generalize hV7 : W7.alloc (.cells #[.int .u64 tq, .int .i64 tn, .int .i64 tx] 26) = V7 at *
            have b8 := hb8.alloc hb8.size (.cells #[.int .u64 tq, .int .i64 tn, .int .i64 tx] 26)
            have B8 := hide (B7.out.trans (b8.mono z7))
            obtain ⟨q0, q1, q2, _, _, _⟩ := (Q7.out.below y7 b8).at
            clear hV7 hb8 b8 P2 B7 Q7 y7 hT z7
            go_wp2
            go_ret
            exact ⟨rfl, B8.out⟩
          · obtain ⟨tq, tn, tx, te, hT⟩ := hdT_form LL
            have he : te = 30 := by rw [hdT_te hT]; unfold hdE; rw [if_neg (fun h => hc (hOK.1 h))]
            subst he
            have kq : decide ((v2 : Int) < 4) = false := by simp; omega
            clear hOK hc
            have P1 := hide (parse_any _ _ _ _ _ R9.out)
            rw [hT] at P1
            go_wp2_with fail
            refine P1.out.mono ?_
            rintro e W7 ⟨rfl, hb7⟩
            have b7 := hb7.alloc hb7.size (.cells #[.int .u64 tq, .int .i64 tn, .int .i64 tx] 26)
            have Q7 := hide (HdB.new W7 tq tn tx)
            have y7 : W7.heap.size < (W7.alloc (.cells #[.int .u64 tq, .int .i64 tn, .int .i64 tx] 26)).heap.size := by simp
            have P2 := hide (rhead_any _ _ _ _ _ (R9.out.below b7))
            rw [hT] at P2
            have B7 := hide (B9.out.trans (b7.mono z9))
            have z7 := B7.out.size
            clear hb7 b7 P1 B9 z9 R9
            go_wp2_with fail
            refine P2.out.mono ?_
            rintro e W8 ⟨rfl, hb8⟩
            generalize hV7 : W7.alloc (.cells #[.int .u64 tq, .int .i64 tn, .int .i64 tx] 26) = V7 at *
            have b8 := hb8.alloc hb8.size (.cells #[.int .u64 tq, .int .i64 tn, .int .i64 tx] 26)
            have B8 := hide (B7.out.trans (b8.mono z7))
            obtain ⟨q0, q1, q2, _, _, _⟩ := (Q7.out.below y7 b8).at
            clear hV7 hb8 b8 P2 B7 Q7 y7 hT z7
            go_wp2
            go_ret
            exact ⟨rfl, B8.out⟩

end Go.Proofs.Ytijjkhigomkokaa
