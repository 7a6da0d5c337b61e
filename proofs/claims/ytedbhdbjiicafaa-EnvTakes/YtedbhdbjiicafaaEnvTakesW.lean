/- The walk of EnvTakes: in whatever pieces input is taken, it is taken in order, once, and no more than there is. -/
import Derived.Test.YtedbhdbjiicafaaEnvKnown
import Derived.Deep.LoopGhost
import Derived.Deep.QuietTactic
import Derived.BigQuiet
namespace Go.Proofs.Ytedbhdbjiicafaa
open Go.RowKit
set_option linter.unusedVariables false

theorem Rd.mid {w : World} {a : Option Addr} {len cap : Nat} {bs : List Int} (r : Rd w a len cap bs) (t k : Nat) (h : t + k ≤ len) (x : Addr) (hx : a = some x) : Rd w (some (x.add t)) k (cap - t) ((bs.drop t).take k) := by
  subst hx
  exact r.part t k h
theorem Rd.mid_end {w : World} {a : Option Addr} {len cap : Nat} {bs : List Int} (r : Rd w a len cap bs) (t k : Nat) (h : t + k ≤ len) (hc : cap = t) : Rd w a k 0 ((bs.drop t).take k) := r.part_end t k h hc

set_option maxHeartbeats 6400000 in
theorem takes_walk (a : Option Addr) (len cap : Nat) (bs : List Int) (a1 : Option Addr) (len1 cap1 : Nat) (ps : List Int) (w : World) (r : Rd w a len cap bs) (r1 : Rd w a1 len1 cap1 ps) :
    Calls Try.prog 5 #[.slice a len cap, .slice a1 len1 cap1] w fun e w' => e = .returned (.bool true) ∧ Below w.heap.size w w' := by
  have hle := r.le
  have hmx := r.max
  have hbl := r.length
  have hle1 := r1.le
  have hmx1 := r1.max
  have hnil := r.nil
  have HR := hide r
  have HR1 := hide r1
  clear r r1
  cases a with
  | none =>
    obtain rfl : cap = 0 := hnil rfl
    obtain rfl : len = 0 := by omega
    clear hnil
    by_cases h4 : 30 < len1
    · go_enter Try.func5, Try.ntmps5
      go_wp2_with fail
      refine (known_any _).mono ?_
      rintro e W1 ⟨rfl, hB1⟩
      have HB1 := hide hB1
      clear hB1
      have h4' : (30 : Int) < (len1 : Int) := by omega
      go_wp2
      go_ret
      exact ⟨rfl, HB1.out⟩
    go_enter Try.func5, Try.ntmps5
    go_wp2_with fail
    refine (known_any _).mono ?_
    rintro e W1 ⟨rfl, hB1⟩
    have HB1 := hide hB1
    clear hB1
    go_wp2_with fail
    refine (has_new (Has.start HB1.out) (HR.out.below HB1.out) (by omega)).mono ?_
    rintro e W2 ⟨m, rfl, hH⟩
    have H2 := hide hH
    clear hH HB1
    go_wp2
    go_loopw [6, 7] (fun at' i wr => ∃ (j t : Nat), j ≤ len1 ∧ t ≤ 0 ∧ i = .int .i64 (j : Int) ∧ at' = .int .i64 (t : Int) ∧ Has w wr [EV w.heap.size 46 m (bs.drop t) []]) (fun _ i _ => len1 - (intOf i).toNat)
    case atStart => exact ⟨0, 0, by omega, by omega, rfl, rfl, H2.out⟩
    case round =>
      obtain ⟨j, t, hj, ht, rfl, rfl, hH⟩ := hrel
      clear H2
      by_cases hlt : j < len1
      · obtain ⟨b, o, rfl, hc⟩ := (HR1.out.below hH.bel).addr (by omega)
        have hcell := hc j hlt
        have hyb := HR1.out.bytes.at j
        have hyb' : 0 ≤ ps.getD j 0 ∧ ps.getD j 0 ≤ 255 := by simpa using hyb
        generalize ps.getD j 0 = y at hcell hyb'
        obtain ⟨u, hu⟩ : ∃ u : Nat, (0 : Int) - (t : Int) = (u : Int) := ⟨0 - t, by omega⟩
        obtain ⟨n, hn⟩ : ∃ n : Int, y - 20 = n := ⟨_, rfl⟩
        have hn1 : -20 ≤ n ∧ n ≤ 235 := by omega
        have hdl : (bs.drop t).length = u := by simp; omega
        have HT0 := hide (has_take hH n (by omega))
        obtain ⟨K, hK⟩ : ∃ K, K = min n.toNat u := ⟨_, rfl⟩
        have e1 : (bs.drop t).take n.toNat = (bs.drop t).take K := by
          rcases Nat.le_total n.toNat u with h1 | h1
          · rw [hK, Nat.min_eq_left h1]
          · rw [hK, Nat.min_eq_right h1, List.take_of_length_le (by omega), List.take_of_length_le (by omega)]
        have e2 : (bs.drop t).drop n.toNat = bs.drop (t + K) := by
          rw [← List.drop_drop]
          rcases Nat.le_total n.toNat u with h1 | h1
          · rw [hK, Nat.min_eq_left h1]
          · rw [hK, Nat.min_eq_right h1, List.drop_eq_nil_of_le (by omega), List.drop_eq_nil_of_le (by omega)]
        have e3 : ((bs.drop t).take K).length = K := by
          rw [List.length_take, hdl]
          omega
        have hKu : K ≤ u := by omega
        obtain ⟨v, hv⟩ : ∃ v : Nat, (0 : Int) - ((t : Int) + (K : Int)) = (v : Int) := ⟨0 - (t + K), by omega⟩
        have HV : Hid ((bs.drop (t + K)).length = v) := hide (by rw [List.length_drop]; omega)
        rw [e1, e2, e3] at HT0
        have HT := HT0
        clear HT0 hH hc hyb e1 e2 e3 hdl
        have hn2 : IntKind.i64.wrap n = n := by rw [IntKind.wrap_i64]; omega
        obtain rfl : t = 0 := by omega
        obtain rfl : u = 0 := by omega
        obtain rfl : K = 0 := by omega
        obtain rfl : v = 0 := by omega
        clear hK hu hv
        rcases (show n < 0 ∨ n = 0 ∨ 0 < n by omega) with h0 | rfl | h0
        · go_wp2_with fail
          refine HT.out.mono ?_
          rintro e W2 ⟨a2, c2, rfl, hH⟩
          have hbel := hH.bel
          have s2 := fun q => (hH.swap.rd.below (bel_drewN W2 q)).str
          have s3 := fun q => (((HR.out.below hbel).mid_end 0 0 (by omega) rfl).below (bel_drewN W2 q)).str
          have H2 := hide hH.swap.drop
          clear hH hbel HT
          generalize strOfNums ((bs.drop 0).take 0) = S at *
          go_upto_region 13 with fail
          go_quiet (fail)
          clear s2 s3
          go_wp2_with fail
          refine (has_left (H2.out.below (bel_drewN W2 _))).mono ?_
          rintro e W3 ⟨rfl, rfl⟩
          rw [HV.out]
          go_wp2
          go_roundw
          case rel => exact ⟨j + 1, 0 + 0, by omega, by omega, by go_num, by go_num, H2.out.below (bel_drewN W2 _)⟩
          case measure => simp [intOf]; omega
        · go_wp2_with fail
          refine HT.out.mono ?_
          rintro e W2 ⟨a2, c2, rfl, hH⟩
          have hbel := hH.bel
          have s2 := fun q => (hH.swap.rd.below (bel_drewN W2 q)).str
          have s3 := fun q => (((HR.out.below hbel).mid_end 0 0 (by omega) rfl).below (bel_drewN W2 q)).str
          have H2 := hide hH.swap.drop
          clear hH hbel HT
          generalize strOfNums ((bs.drop 0).take 0) = S at *
          go_upto_region 13 with fail
          go_quiet (fail)
          clear s2 s3
          go_wp2_with fail
          refine (has_left (H2.out.below (bel_drewN W2 _))).mono ?_
          rintro e W3 ⟨rfl, rfl⟩
          rw [HV.out]
          go_wp2
          go_roundw
          case rel => exact ⟨j + 1, 0 + 0, by omega, by omega, by go_num, by go_num, H2.out.below (bel_drewN W2 _)⟩
          case measure => simp [intOf]; omega
        · go_wp2_with fail
          refine HT.out.mono ?_
          rintro e W2 ⟨a2, c2, rfl, hH⟩
          have hbel := hH.bel
          have s2 := fun q => (hH.swap.rd.below (bel_drewN W2 q)).str
          have s3 := fun q => (((HR.out.below hbel).mid_end 0 0 (by omega) rfl).below (bel_drewN W2 q)).str
          have H2 := hide hH.swap.drop
          clear hH hbel HT
          generalize strOfNums ((bs.drop 0).take 0) = S at *
          go_upto_region 13 with fail
          go_quiet (fail)
          clear s2 s3
          go_wp2_with fail
          refine (has_left (H2.out.below (bel_drewN W2 _))).mono ?_
          rintro e W3 ⟨rfl, rfl⟩
          rw [HV.out]
          go_wp2
          go_roundw
          case rel => exact ⟨j + 1, 0 + 0, by omega, by omega, by go_num, by go_num, H2.out.below (bel_drewN W2 _)⟩
          case measure => simp [intOf]; omega
      · have H2 := hide hH
        clear hH
        go_wp2_with fail
        refine (has_trace H2.out (by intro s hs; cases hs) (by simp)).mono ?_
        rintro e W5 ⟨a5, c5, es5, rfl, _, _, hb⟩
        have H5 := hide (H2.out.below hb)
        clear hb H2
        go_wp2
        go_ret
        exact ⟨rfl, H5.out.bel⟩
  | some x =>
    clear hnil
    by_cases h3 : 300 < len
    · go_enter Try.func5, Try.ntmps5
      go_wp2_with fail
      refine (known_any _).mono ?_
      rintro e W1 ⟨rfl, hB1⟩
      have HB1 := hide hB1
      clear hB1
      have h3' : (300 : Int) < (len : Int) := by omega
      go_wp2
      go_ret
      exact ⟨rfl, HB1.out⟩
    by_cases h4 : 30 < len1
    · go_enter Try.func5, Try.ntmps5
      go_wp2_with fail
      refine (known_any _).mono ?_
      rintro e W1 ⟨rfl, hB1⟩
      have HB1 := hide hB1
      clear hB1
      have h4' : (30 : Int) < (len1 : Int) := by omega
      go_wp2
      go_ret
      exact ⟨rfl, HB1.out⟩
    go_enter Try.func5, Try.ntmps5
    go_wp2_with fail
    refine (known_any _).mono ?_
    rintro e W1 ⟨rfl, hB1⟩
    have HB1 := hide hB1
    clear hB1
    go_wp2_with fail
    refine (has_new (Has.start HB1.out) (HR.out.below HB1.out) (by omega)).mono ?_
    rintro e W2 ⟨m, rfl, hH⟩
    have H2 := hide hH
    clear hH HB1
    go_wp2
    go_loopw [6, 7] (fun at' i wr => ∃ (j t : Nat), j ≤ len1 ∧ t ≤ len ∧ i = .int .i64 (j : Int) ∧ at' = .int .i64 (t : Int) ∧ Has w wr [EV w.heap.size 46 m (bs.drop t) []]) (fun _ i _ => len1 - (intOf i).toNat)
    case atStart => exact ⟨0, 0, by omega, by omega, rfl, rfl, H2.out⟩
    case round =>
      obtain ⟨j, t, hj, ht, rfl, rfl, hH⟩ := hrel
      clear H2
      by_cases hlt : j < len1
      · obtain ⟨b, o, rfl, hc⟩ := (HR1.out.below hH.bel).addr (by omega)
        have hcell := hc j hlt
        have hyb := HR1.out.bytes.at j
        have hyb' : 0 ≤ ps.getD j 0 ∧ ps.getD j 0 ≤ 255 := by simpa using hyb
        generalize ps.getD j 0 = y at hcell hyb'
        obtain ⟨u, hu⟩ : ∃ u : Nat, (len : Int) - (t : Int) = (u : Int) := ⟨len - t, by omega⟩
        obtain ⟨n, hn⟩ : ∃ n : Int, y - 20 = n := ⟨_, rfl⟩
        have hn1 : -20 ≤ n ∧ n ≤ 235 := by omega
        have hdl : (bs.drop t).length = u := by simp; omega
        have HT0 := hide (has_take hH n (by omega))
        obtain ⟨K, hK⟩ : ∃ K, K = min n.toNat u := ⟨_, rfl⟩
        have e1 : (bs.drop t).take n.toNat = (bs.drop t).take K := by
          rcases Nat.le_total n.toNat u with h1 | h1
          · rw [hK, Nat.min_eq_left h1]
          · rw [hK, Nat.min_eq_right h1, List.take_of_length_le (by omega), List.take_of_length_le (by omega)]
        have e2 : (bs.drop t).drop n.toNat = bs.drop (t + K) := by
          rw [← List.drop_drop]
          rcases Nat.le_total n.toNat u with h1 | h1
          · rw [hK, Nat.min_eq_left h1]
          · rw [hK, Nat.min_eq_right h1, List.drop_eq_nil_of_le (by omega), List.drop_eq_nil_of_le (by omega)]
        have e3 : ((bs.drop t).take K).length = K := by
          rw [List.length_take, hdl]
          omega
        have hKu : K ≤ u := by omega
        obtain ⟨v, hv⟩ : ∃ v : Nat, (len : Int) - ((t : Int) + (K : Int)) = (v : Int) := ⟨len - (t + K), by omega⟩
        have HV : Hid ((bs.drop (t + K)).length = v) := hide (by rw [List.length_drop]; omega)
        rw [e1, e2, e3] at HT0
        have HT := HT0
        clear HT0 hH hc hyb e1 e2 e3 hdl
        have hn2 : IntKind.i64.wrap n = n := by rw [IntKind.wrap_i64]; omega
        by_cases hcap : cap = t
        · obtain rfl := hcap
          obtain rfl : u = 0 := by omega
          obtain rfl : K = 0 := by omega
          obtain rfl : v = 0 := by omega
          clear hK hv
          rcases (show n < 0 ∨ n = 0 ∨ 0 < n by omega) with h0 | rfl | h0
          · go_wp2_with fail
            refine HT.out.mono ?_
            rintro e W2 ⟨a2, c2, rfl, hH⟩
            have hbel := hH.bel
            have s2 := fun q => (hH.swap.rd.below (bel_drewN W2 q)).str
            have s3 := fun q => (((HR.out.below hbel).mid_end cap 0 (by omega) rfl).below (bel_drewN W2 q)).str
            have H2 := hide hH.swap.drop
            clear hH hbel HT
            generalize strOfNums ((bs.drop cap).take 0) = S at *
            go_upto_region 13 with fail
            go_quiet (fail)
            clear s2 s3
            go_wp2_with fail
            refine (has_left (H2.out.below (bel_drewN W2 _))).mono ?_
            rintro e W3 ⟨rfl, rfl⟩
            rw [HV.out]
            go_wp2
            go_roundw
            case rel => exact ⟨j + 1, cap + 0, by omega, by omega, by go_num, by go_num, H2.out.below (bel_drewN W2 _)⟩
            case measure => simp [intOf]; omega
          · go_wp2_with fail
            refine HT.out.mono ?_
            rintro e W2 ⟨a2, c2, rfl, hH⟩
            have hbel := hH.bel
            have s2 := fun q => (hH.swap.rd.below (bel_drewN W2 q)).str
            have s3 := fun q => (((HR.out.below hbel).mid_end cap 0 (by omega) rfl).below (bel_drewN W2 q)).str
            have H2 := hide hH.swap.drop
            clear hH hbel HT
            generalize strOfNums ((bs.drop cap).take 0) = S at *
            go_upto_region 13 with fail
            go_quiet (fail)
            clear s2 s3
            go_wp2_with fail
            refine (has_left (H2.out.below (bel_drewN W2 _))).mono ?_
            rintro e W3 ⟨rfl, rfl⟩
            rw [HV.out]
            go_wp2
            go_roundw
            case rel => exact ⟨j + 1, cap + 0, by omega, by omega, by go_num, by go_num, H2.out.below (bel_drewN W2 _)⟩
            case measure => simp [intOf]; omega
          · go_wp2_with fail
            refine HT.out.mono ?_
            rintro e W2 ⟨a2, c2, rfl, hH⟩
            have hbel := hH.bel
            have s2 := fun q => (hH.swap.rd.below (bel_drewN W2 q)).str
            have s3 := fun q => (((HR.out.below hbel).mid_end cap 0 (by omega) rfl).below (bel_drewN W2 q)).str
            have H2 := hide hH.swap.drop
            clear hH hbel HT
            generalize strOfNums ((bs.drop cap).take 0) = S at *
            go_upto_region 13 with fail
            go_quiet (fail)
            clear s2 s3
            go_wp2_with fail
            refine (has_left (H2.out.below (bel_drewN W2 _))).mono ?_
            rintro e W3 ⟨rfl, rfl⟩
            rw [HV.out]
            go_wp2
            go_roundw
            case rel => exact ⟨j + 1, cap + 0, by omega, by omega, by go_num, by go_num, H2.out.below (bel_drewN W2 _)⟩
            case measure => simp [intOf]; omega
        · rcases (show n < 0 ∨ (0 ≤ n ∧ n.toNat ≤ u) ∨ (u : Int) < n by omega) with h0 | h0 | h0
          · obtain rfl : K = 0 := by omega
            clear hK
            go_wp2_with fail
            refine HT.out.mono ?_
            rintro e W2 ⟨a2, c2, rfl, hH⟩
            have hbel := hH.bel
            have s2 := fun q => (hH.swap.rd.below (bel_drewN W2 q)).str
            have s3 := fun q => (((HR.out.below hbel).mid t 0 (by omega) x rfl).below (bel_drewN W2 q)).str
            have H2 := hide hH.swap.drop
            clear hH hbel HT
            generalize strOfNums ((bs.drop t).take 0) = S at *
            go_upto_region 13 with fail
            go_quiet (fail)
            clear s2 s3
            go_wp2_with fail
            refine (has_left (H2.out.below (bel_drewN W2 _))).mono ?_
            rintro e W3 ⟨rfl, rfl⟩
            rw [HV.out]
            go_wp2
            go_roundw
            case rel => exact ⟨j + 1, t + 0, by omega, by omega, by go_num, by go_num, H2.out.below (bel_drewN W2 _)⟩
            case measure => simp [intOf]; omega
          · obtain ⟨z, rfl⟩ := Int.eq_ofNat_of_zero_le h0.1
            obtain rfl : K = z := by omega
            clear hK
            go_wp2_with fail
            refine HT.out.mono ?_
            rintro e W2 ⟨a2, c2, rfl, hH⟩
            have hbel := hH.bel
            have s2 := fun q => (hH.swap.rd.below (bel_drewN W2 q)).str
            have s3 := fun q => (((HR.out.below hbel).mid t K (by omega) x rfl).below (bel_drewN W2 q)).str
            have H2 := hide hH.swap.drop
            clear hH hbel HT
            generalize strOfNums ((bs.drop t).take K) = S at *
            go_upto_region 13 with fail
            go_quiet (fail)
            clear s2 s3
            go_wp2_with fail
            refine (has_left (H2.out.below (bel_drewN W2 _))).mono ?_
            rintro e W3 ⟨rfl, rfl⟩
            rw [HV.out]
            go_wp2
            go_roundw
            case rel => exact ⟨j + 1, t + K, by omega, by omega, by go_num, by go_num, H2.out.below (bel_drewN W2 _)⟩
            case measure => simp [intOf]; omega
          · obtain rfl : K = u := by omega
            clear hK
            go_wp2_with fail
            refine HT.out.mono ?_
            rintro e W2 ⟨a2, c2, rfl, hH⟩
            have hbel := hH.bel
            have s2 := fun q => (hH.swap.rd.below (bel_drewN W2 q)).str
            have s3 := fun q => (((HR.out.below hbel).mid t K (by omega) x rfl).below (bel_drewN W2 q)).str
            have H2 := hide hH.swap.drop
            clear hH hbel HT
            generalize strOfNums ((bs.drop t).take K) = S at *
            go_upto_region 13 with fail
            go_quiet (fail)
            clear s2 s3
            go_wp2_with fail
            refine (has_left (H2.out.below (bel_drewN W2 _))).mono ?_
            rintro e W3 ⟨rfl, rfl⟩
            rw [HV.out]
            go_wp2
            go_roundw
            case rel => exact ⟨j + 1, t + K, by omega, by omega, by go_num, by go_num, H2.out.below (bel_drewN W2 _)⟩
            case measure => simp [intOf]; omega
      · have H2 := hide hH
        clear hH
        go_wp2_with fail
        refine (has_trace H2.out (by intro s hs; cases hs) (by simp)).mono ?_
        rintro e W5 ⟨a5, c5, es5, rfl, _, _, hb⟩
        have H5 := hide (H2.out.below hb)
        clear hb H2
        go_wp2
        go_ret
        exact ⟨rfl, H5.out.bel⟩

end Go.Proofs.Ytedbhdbjiicafaa
