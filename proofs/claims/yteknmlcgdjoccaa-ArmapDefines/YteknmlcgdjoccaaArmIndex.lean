/- An index read, the document's way: the contract of its Index. -/
import Derived.Test.YteknmlcgdjoccaaArmParse
namespace Go.Proofs.Yteknmlcgdjoccaa
open Go.RowKit
set_option linter.unusedVariables false
set_option maxRecDepth 20000
set_option linter.unusedSimpArgs false

theorem nmO_at : ∀ (r : T8) (k : Nat), k < (nmO r).length → (r.getD k 0).toNat ≠ 0
  | [], k, h => by simp [nmO_nil] at h
  | b :: r, k, h => by
    by_cases hb : b = 0
    · subst hb; rw [nmO_zero] at h; simp at h
    · rw [nmO_cons hb] at h
      cases k with
      | zero => simpa using fun e => hb (by simpa using congrArg UInt8.ofNat e)
      | succ k => simpa using nmO_at r k (by simpa using h)
theorem nmO_end : ∀ (r : T8), (nmO r).length < r.length → (r.getD (nmO r).length 0).toNat = 0
  | [], h => by simp at h
  | b :: r, h => by
    by_cases hb : b = 0
    · subst hb; rw [nmO_zero]; rfl
    · rw [nmO_cons hb] at h ⊢
      simpa using nmO_end r (by simpa using h)

set_option maxHeartbeats 6400000 in
theorem rindex_any (a : Option Addr) (cap : Nat) (l : T8) (w : World) (r : Rt w a cap l) (count : Int) (hc0 : -9223372036854775808 ≤ count) (hc1 : count ≤ 9223372036854775807) :
    Calls Try.prog 10 #[.slice a l.length cap, .int .i64 count] w fun e w' => Below w.heap.size w w' ∧ PxR w w' (ixO l count) e := by
  obtain ⟨i0, hi, hz0, hz1, hz2⟩ := info_parts Try.infoStr
  have hle := r.le
  have hmx := r.max
  by_cases h0 : l = []
  · subst h0
    go_enter Try.func10, Try.ntmps10
    go_wp2_with fail
    go_ret2
    exact ⟨Below.refl _ _, PxR.yes (ns := []) _ (ixO_nil count) (World.ownsRow_nil _ _ _ _)⟩
  have hl0 : ((l.length : Int) == 0) = false := by simp; exact h0
  by_cases h4 : l.length < 4
  · have hd : decide ((l.length : Int) < 4) = true := decide_eq_true (by omega)
    have HZ : Hid (ixO l count = none) := by
      show _ = _
      unfold ixO
      rw [if_neg h0, if_pos h4]
    clear h0
    go_enter Try.func10, Try.ntmps10
    go_wp2_with fail
    go_ret2
    exact ⟨Below.refl _ _, PxR.no HZ.out⟩
  have hd : decide ((l.length : Int) < 4) = false := decide_eq_false (by omega)
  have HF := hide (big_any a cap l w r (by omega))
  have hnb := nb4_lt l
  have hI : ixO l count = if 2000 < nb4 l ∨ (0 < nb4 l ∧ count < 1) then none else nbO (nb4 l) (l.drop 4) := by unfold ixO; rw [if_neg h0, if_neg h4]
  have HT1 := hide (fun n (hn : 4 + 4 * n ≤ l.length) (hc : cap = 4 + 4 * n) => r.tail_end (4 + 4 * n) hn hc)
  have HT2 := hide (fun n (hn : 4 + 4 * n ≤ l.length) => r.tailM (4 + 4 * n) hn)
  clear h0 r
  generalize nb4 l = n at *
  have bad : ∀ (h20 : Bool) (hg1 : Bool) (hg2 : Bool) (hg3 : Bool), decide ((2000 : Int) < (n : Int)) = h20 → decide (0 < n) = hg1 → decide (count < (1 : Int)) = hg2 → decide ((l.length : Int) - 4 < 4 * (n : Int)) = hg3 → (h20 || (hg1 && hg2) || hg3) = true →
      Calls Try.prog 10 #[.slice a l.length cap, .int .i64 count] w fun e w' => Below w.heap.size w w' ∧ e = .returned (.tuple #[.slice none 0 0, .int .i64 41]) := by
    intro h20 hg1 hg2 hg3 e1 e2 e3 e4 ht
    have hm : 0 ≤ 4 * (n : Int) ∧ 4 * (n : Int) ≤ 20000000000 := by omega
    clear hI HT1 HT2
    go_enter Try.func10, Try.ntmps10
    go_wp2_with fail
    refine HF.out.mono ?_
    rintro e W0 ⟨rfl, q, hq⟩
    have HBQ : Hid (Below w.heap.size w W0) := by rw [hq]; exact bel_drewN w q
    clear hq
    cases h20 <;> cases hg1 <;> cases hg2 <;> cases hg3 <;> first | (exact absurd ht (by decide)) | skip
    all_goals
      go_wp2_with fail
      go_ret2
      exact ⟨HBQ.out, rfl⟩
  by_cases hbad : 2000 < n ∨ (0 < n ∧ count < 1)
  · refine (bad _ _ _ _ rfl rfl rfl rfl ?_).mono (fun e w' ⟨h1, h2⟩ => ⟨h1, ?_⟩)
    · simp
      omega
    · rw [h2]
      exact PxR.no (by rw [hI, if_pos hbad])
  rw [if_neg hbad] at hI
  by_cases hs : l.length - 4 < n * 4
  · refine (bad _ _ _ _ rfl rfl rfl rfl ?_).mono (fun e w' ⟨h1, h2⟩ => ⟨h1, ?_⟩)
    · simp
      omega
    · rw [h2]
      exact PxR.no (by rw [hI]; unfold nbO; rw [if_neg (by simp; omega)])
  clear bad
  have hI2 : ixO l count = nmsO n (l.drop (4 + 4 * n)) := by
    rw [hI]
    unfold nbO
    rw [if_pos (by simp; omega), List.drop_drop, Nat.mul_comm n 4]
  have HI := hide hI2
  have hn2 : n ≤ 2000 := by omega
  have e1 : decide ((2000 : Int) < (n : Int)) = false := decide_eq_false (by omega)
  have e4 : decide ((l.length : Int) - 4 < 4 * (n : Int)) = false := decide_eq_false (by omega)
  have hrl : (l.drop (4 + 4 * n)).length = l.length - (4 + 4 * n) := by simp
  have hlen : 4 + 4 * n ≤ l.length := by omega
  have hb2 : ¬ (0 < n ∧ count < 1) := fun h => hbad (.inr h)
  clear hI hI2 hbad hs
  have hm : 0 ≤ 4 * (n : Int) ∧ 4 * (n : Int) ≤ 20000000000 := by omega
  by_cases hn0 : n = 0
  · subst hn0
    obtain ⟨b0, hb0⟩ : ∃ b0 : Bool, decide (0 < l.length - 4) = b0 := ⟨_, rfl⟩
    have HZ : Hid (ixO l count = if b0 = true then none else some []) := by
      show _ = _
      rw [HI.out]
      unfold nmsO
      by_cases hz : l.length - 4 = 0
      · rw [if_pos (List.eq_nil_of_length_eq_zero (by rw [hrl]; exact hz)), ← hb0, if_neg (by simp; omega)]
      · rw [if_neg (fun e => hz (by rw [← hrl, e]; rfl)), ← hb0, if_pos (by simp; omega)]
    clear HI HT1 HT2 hrl hlen
    go_enter Try.func10, Try.ntmps10
    go_upto_region 6 with fail
    refine HF.out.mono ?_
    rintro e W0 ⟨rfl, q, hq⟩
    have HBQ : Hid (Below w.heap.size w W0) := by rw [hq]; exact bel_drewN w q
    clear hq HF
    go_wp2_with fail
    all_goals
      go_loopg [0, 7, 8, 9] 0 (fun gg v0 v7 v8 v9 wr => wr = W0 ∧ (∃ aa cc, v0 = .slice aa (l.length - 4) cc) ∧ v7 = .slice none 0 0 ∧ v8 = .int .i64 0)
      case atStart => exact ⟨rfl, ⟨_, _, rfl⟩, rfl, rfl⟩
      case round =>
        obtain ⟨rfl, ⟨aa, cc, rfl⟩, rfl, rfl⟩ := hrel
        cases b0
        · go_wp2_with fail
          go_ret2
          exact ⟨HBQ.out, PxR.yes (ns := []) _ HZ.out (World.ownsRow_nil _ _ _ _)⟩
        · go_wp2_with fail
          go_ret2
          exact ⟨HBQ.out, PxR.no HZ.out⟩
  have hg2 : decide (0 < n) = true := decide_eq_true (by omega)
  have hg3 : decide (count < (1 : Int)) = false := decide_eq_false (by omega)
  by_cases hc4 : cap = 4 + 4 * n
  · have hz : l.length - (4 + 4 * n) = 0 := by omega
    have HZ : Hid (ixO l count = none) := by
      show _ = _
      obtain ⟨p, rfl⟩ : ∃ p, n = p + 1 := ⟨n - 1, by omega⟩
      rw [HI.out, List.eq_nil_of_length_eq_zero (hrl.trans hz)]
      unfold nmsO
      rw [if_neg (by simp)]
    clear HI HT1 HT2 hrl hb2 hnb hm h4 hl0
    have hd2 : decide ((0 : Int) < (n : Int)) = true := decide_eq_true (by omega)
    have HZ2 := hide hz
    subst hc4
    clear hz
    go_enter Try.func10, Try.ntmps10
    go_upto_region 6 with fail
    refine HF.out.mono ?_
    rintro e W0 ⟨rfl, q, hq⟩
    have HBQ : Hid (Below w.heap.size w W0) := by rw [hq]; exact bel_drewN w q
    clear hq HF
    go_upto_region 9 with fail
    rw [HZ2.out]
    generalize 4 + 4 * n - (4 + 4 * n) = cc
    go_wp2_with fail
    go_loopg [0, 7, 8, 9] 1 (fun gg v0 v7 v8 v9 wr => gg = 1 ∧ wr = W0 ∧ (∃ cc, v0 = .slice a 0 cc) ∧ v8 = .int .i64 0)
    case atStart => exact ⟨rfl, rfl, ⟨_, rfl⟩, rfl⟩
    case round =>
      obtain ⟨rfl, rfl, ⟨cc, rfl⟩, rfl⟩ := hrel
      go_wp2_with fail
      go_loopg [9] 0 (fun gg v9 wx => wx = wr ∧ v9 = .int .i64 0)
      case atStart => exact ⟨rfl, rfl⟩
      case round =>
        obtain ⟨rfl, rfl⟩ := hrel
        go_wp2_with fail
        go_ret2
        exact ⟨HBQ.out, PxR.no HZ.out⟩
  · have HX := hide (HT2.out n hlen)
    clear HT1 HT2 hb2 hnb h4 hl0
    have hd2 : decide ((0 : Int) < (n : Int)) = true := decide_eq_true (by omega)
    go_enter Try.func10, Try.ntmps10
    go_upto_region 6 with fail
    refine HF.out.mono ?_
    rintro e W0 ⟨rfl, q, hq⟩
    have HBQ : Hid (Below w.heap.size w W0) := by rw [hq]; exact bel_drewN w q
    clear hq HF
    have HX2 := hide (show Rt W0 _ _ _ from Rd.below HX.out HBQ.out)
    go_upto_region 9 with fail
    rw [← hrl]
    generalize l.drop (4 + 4 * n) = r0 at *
    generalize Option.map (fun x => x.add (4 + 4 * n)) a = a2 at *
    generalize cap - (4 + 4 * n) = c2 at *
    clear HX hrl hlen e1 e4 hd hg2 hg3 hc4 hn0 hm hd2
    have hO1 : Hid (W0.ownsRow W0.heap.size 9 1 (.slice none 0 0) 0 (csT [])) := World.ownsRow_nil _ _ _ _
    have HM0 : Hid (nmsO n r0 = (nmsO (n - 0) r0).map (([] : List T8) ++ ·)) := by
      show _ = _
      rw [Nat.sub_zero]
      cases nmsO n r0 <;> rfl
    go_wp2_with fail
    go_loopg [0, 7, 8, 9] n (fun gg v0 v7 i v9 wr => ∃ (k : Nat) (aq : Option Addr) (cq : Nat) (r : T8) (N : List T8), k ≤ n ∧ gg = n - k ∧ i = .int .i64 (k : Int) ∧ v0 = .slice aq r.length cq ∧ Hid (Rt W0 aq cq r) ∧ N.length = k ∧ Hid (nmsO n r0 = (nmsO (n - k) r).map (N ++ ·)) ∧ Hid (wr.ownsRow W0.heap.size 9 1 v7 k (csT N)) ∧ Hid (Below W0.heap.size W0 wr))
    case atStart => exact ⟨0, _, _, r0, [], by omega, rfl, rfl, rfl, HX2, rfl, HM0, hO1, Below.refl _ _⟩
    case round =>
      obtain ⟨k, aq, cq, r, N, hk, rfl, rfl, rfl, HQ, hN, HM, HW, HB⟩ := hrel
      clear hO1 HX2 HM0
      by_cases hlt : k < n
      · have hd2 : decide ((k : Int) < (n : Int)) = true := decide_eq_true (by omega)
        have hd2n : decide (k < n) = true := decide_eq_true hlt
        obtain ⟨p, hp⟩ : ∃ p, n - k = p + 1 := ⟨n - k - 1, by omega⟩
        have hp2 : n - (k + 1) = p := by omega
        rw [hp] at HM
        have HQ2 := hide (show Rt wr aq cq r from Rd.below HQ.out HB.out)
        have hml := nmO_le r
        have HAT := hide (nmO_at r)
        have HEND := hide (nmO_end r)
        have hcq := HQ.out.le
        have hcx := HQ.out.max
        obtain ⟨ml, hmL⟩ : ∃ ml, (nmO r).length = ml := ⟨_, rfl⟩
        rw [hmL] at hml HAT HEND
        have HML := hide hmL
        clear hmL
        go_wp2_with fail
        go_loopg [9] ml (fun gg v9 wx => ∃ j : Nat, j ≤ ml ∧ gg = ml - j ∧ v9 = .int .i64 (j : Int) ∧ wx = wr)
        case atStart => exact ⟨0, by omega, rfl, rfl, rfl⟩
        case round =>
          obtain ⟨j, hj, rfl, rfl, rfl⟩ := hrel
          by_cases hjm : j < ml
          · obtain ⟨b, o, rfl, hc⟩ := Rt.addr HQ2.out (by omega)
            have c0 := hc j (by omega)
            have hne := HAT.out j hjm
            have hby := (r.getD j 0).toNat_lt
            generalize (r.getD j 0).toNat = y at *
            have hyb : (((y : Nat) : Int) != 0) = true := by simp; omega
            have hjr : decide ((j : Int) < (r.length : Int)) = true := decide_eq_true (by omega)
            have hjr2 : decide (j < r.length) = true := decide_eq_true (by omega)
            clear hc
            go_wp2_with fail
            go_roundg (ml - (j + 1))
            case measure => omega
            case rel => exact ⟨j + 1, by omega, rfl, by go_num, rfl⟩
          · obtain rfl : j = ml := by omega
            by_cases h0 : (0 : UInt8) ∈ r
            · have hlt0 := nmO_lt h0
              rw [HML.out] at hlt0
              obtain ⟨b, o, rfl, hc⟩ := Rt.addr HQ2.out (by omega)
              have c0 := hc j (by omega)
              have hz0' := HEND.out hlt0
              rw [hz0'] at c0
              have hm1 : nmsO (p + 1) r = (nmsO p (r.drop (j + 1))).map (nmO r :: ·) := by conv => lhs; unfold nmsO; rw [if_pos h0, HML.out]
              have htk := nmO_take r
              rw [HML.out] at htk
              have HN := hide (Rt.txt (Rt.front HQ2.out j (by omega)) j (by rw [List.length_take]; omega))
              rw [htk] at HN
              have HT1 := hide (fun hc : cq = j + 1 => HQ.out.tail_end (j + 1) (by omega) hc)
              have HT2 := hide (HQ.out.tailM (j + 1) (by omega))
              have HM2 : Hid (nmsO n r0 = (nmsO p (r.drop (j + 1))).map ((N ++ [nmO r]) ++ ·)) := by
                show _ = _
                rw [HM.out, hm1, Option.map_map]
                congr 1
                funext x
                simp
              have hrl : (r.drop (j + 1)).length = r.length - (j + 1) := by simp
              have hcs : csT (N ++ [nmO r]) = csT N ++ [.string (str (nmO r))] := by simp [csT]
              generalize hm : nmO r = m at *
              generalize hrt : r.drop (j + 1) = rt at *
              generalize csT N = xs at *
              generalize hsm : str m = S at *
              have hjr : decide ((j : Int) < (r.length : Int)) = true := decide_eq_true (by omega)
              have hjr2 : decide (j < r.length) = true := decide_eq_true (by omega)
              have hje : ((j : Int) == (r.length : Int)) = false := by simp; omega
              have hcv := HN.out
              have zr := HB.out.size
              have zw := HBQ.out.size
              clear hc HM hm1 htk HQ HQ2 hrt hz0' HAT HEND HML HN
              go_upto_region 19 with (at_builtin; refine wpList_append_own _ rfl _ _ 31 rfl W0.heap.size 9 i0 (.string ⟨#[]⟩) 1 16 Try.underlying31 hi hz0 hz1 hz2 rfl (by decide) _ _ _ rfl (HW.out.alloc _) ⟨wr.heap.size, 0, none⟩ 1 1 [.string S] rfl rfl (World.news_of_block (cs := #[.string S]) (t := 9) (fr := (0, 0)) (heap_alloc_new wr _)) (by simp [Value.oneCell']) (by unfold maxLen; omega) (by omega) (by simp; omega) ?_; intro v9 W9 hown9 hgrow9 _; refine Hid.out ?_)
              refine hide ?_
              have hcv2 : xs ++ [.string S] = csT (N ++ [m]) := hcs.symm
              have O9 : Hid (W9.ownsRow W0.heap.size 9 1 v9 (k + 1) (csT (N ++ [m]))) := by
                show W9.ownsRow _ _ _ _ _ _
                rw [← hcv2]
                exact hown9
              have B9 := hide ((HB.out.alloc zr _).grown hgrow9 (by simp; omega) (fun j hj => (HW.out.lt j hj).1))
              have hN2 : (N ++ [m]).length = k + 1 := by simp [hN]
              clear hown9 hgrow9 HW HB hcs hcv hcv2 hsm
              by_cases hce : cq = j + 1
              · have HT := hide (HT1.out hce)
                clear HT1 HT2
                go_wp2_with fail
                rw [← hrl]
                go_roundg (n - (k + 1))
                case measure => omega
                case rel => exact ⟨k + 1, _, _, rt, N ++ [m], by omega, rfl, by go_num, rfl, HT.out, hN2, by rw [hp2]; exact HM2.out, O9.out, B9.out⟩
              · have HT := HT2
                clear HT1 HT2
                go_wp2_with fail
                rw [← hrl]
                go_roundg (n - (k + 1))
                case measure => omega
                case rel => exact ⟨k + 1, _, _, rt, N ++ [m], by omega, rfl, by go_num, rfl, HT.out, hN2, by rw [hp2]; exact HM2.out, O9.out, B9.out⟩
            · have hje0 : j = r.length := by rw [← HML.out, nmO_same h0]
              have HZ : Hid (ixO l count = none) := by
                show _ = _
                have hm1 : nmsO (p + 1) r = none := by unfold nmsO; rw [if_neg h0]
                rw [HI.out, HM.out, hm1]
                rfl
              have hjr : decide ((j : Int) < (r.length : Int)) = false := decide_eq_false (by omega)
              have hjr2 : decide (j < r.length) = false := decide_eq_false (by omega)
              have hje : ((j : Int) == (r.length : Int)) = true := by simp; omega
              have HB2 := hide (HBQ.out.trans (HB.out.mono HBQ.out.size))
              clear HM HQ HQ2 HAT HEND HML hje0 HW HB
              go_wp2_with fail
              go_ret2
              exact ⟨HB2.out, PxR.no HZ.out⟩
      · obtain rfl : k = n := by omega
        rw [Nat.sub_self] at HM
        have hd2 : decide ((k : Int) < (k : Int)) = false := decide_eq_false (by omega)
        have HB2 := hide (HBQ.out.trans (HB.out.mono HBQ.out.size))
        have HW2 := hide (row_low HW.out HBQ.out.size)
        by_cases hr0 : r = []
        · subst hr0
          have HZ : Hid (ixO l count = some N) := by
            show _ = _
            rw [HI.out, HM.out]
            simp [nmsO]
          clear HM HW HB HI
          go_wp2_with fail
          go_ret2
          exact ⟨HB2.out, PxR.yes _ HZ.out (by rw [hN]; exact HW2.out)⟩
        · have HZ : Hid (ixO l count = none) := by
            show _ = _
            rw [HI.out, HM.out]
            unfold nmsO
            rw [if_neg hr0]
            rfl
          have hrl2 : decide (0 < r.length) = true := decide_eq_true (List.length_pos_iff.2 hr0)
          have hrl : decide ((0 : Int) < (r.length : Int)) = true := by
            have := List.length_pos_iff.2 hr0
            exact decide_eq_true (by omega)
          clear HM hr0 HI HW HB
          go_wp2_with fail
          go_ret2
          exact ⟨HB2.out, PxR.no HZ.out⟩

end Go.Proofs.Yteknmlcgdjoccaa
