/- The law ArmapBack, walked: entries' names are read back from their index. -/
import Derived.Test.YteknmlcgdjoccaaArmKeep
namespace Go.Proofs.Yteknmlcgdjoccaa
open Go.RowKit Go.Maps
set_option linter.unusedVariables false
set_option maxRecDepth 20000
set_option linter.unusedSimpArgs false

theorem str_at (l : T8) (j : Nat) (h : j < (str l).size) (h2 : j < l.length) : (str l)[j] = l[j] := rfl

set_option maxHeartbeats 8000000 in
theorem armback_walk (a : Option Addr) (n cap : Nat) (l : List En) (count : Nat) (w : World) (r : Ren w a n cap l) (hc : count ≤ 255) :
    Calls Try.prog 5 #[.slice a n cap, .int .u8 (count : Int)] w fun e w' => e = .returned (.bool true) ∧ Below w.heap.size w w' := by
  obtain ⟨i0, hi, hz0, hz1, hz2⟩ := info_parts Try.infoStr
  have hl := r.length
  have hle := r.le
  have hmx := r.max
  have HR := hide r
  have HK := hide (known_18 w)
  clear r
  by_cases h20 : 20 < n
  · have hd : decide ((20 : Int) < (n : Int)) = true := decide_eq_true (by omega)
    go_enter Try.func5, Try.ntmps5
    go_wp2_with fail
    refine HK.out.mono ?_
    rintro e wk ⟨rfl, hbk⟩
    have HBK := hide hbk
    clear hbk
    go_wp2_with fail
    go_ret
    exact ⟨rfl, HBK.out⟩
  have hd : decide ((20 : Int) < (n : Int)) = false := decide_eq_false (by omega)
  go_enter Try.func5, Try.ntmps5
  go_wp2_with fail
  refine HK.out.mono ?_
  rintro e wk ⟨rfl, hbk⟩
  have HBK := hide hbk
  have hszk := hbk.size
  clear hbk HK
  have hO0 : Hid (wk.ownsRow wk.heap.size 9 1 (.slice none 0 0) 0 (csT ((l.take 0).map En.nm))) := World.ownsRow_nil _ _ _ _
  go_wp2_with fail
  go_loopg [5, 6, 7] n (fun gg v i s7 wr => ∃ k : Nat, k ≤ n ∧ gg = n - k ∧ i = .int .i64 (k : Int) ∧ Hid (wr.ownsRow wk.heap.size 9 1 v k (csT ((l.take k).map En.nm))) ∧ Hid (Below wk.heap.size wk wr) ∧ Hid (∀ e ∈ l.take k, e.nm.length ≤ 60 ∧ (0 : UInt8) ∉ e.nm))
  case atStart => exact ⟨0, by omega, rfl, rfl, hO0, Below.refl _ _, fun e he => by simp at he⟩
  case round =>
    obtain ⟨k, hk, rfl, rfl, HW, HB, HA⟩ := hrel
    clear hO0
    by_cases hlt : k < n
    · have hlt' : (k : Int) < (n : Int) := by omega
      obtain ⟨t, ht⟩ : ∃ t, l[k]? = some t := ⟨_, List.getElem?_eq_getElem (by omega)⟩
      have HB2 := hide (HBK.out.trans (HB.out.mono hszk))
      obtain ⟨b2, o2, rfl, hc2⟩ := Ren.addr (Rr.below HR.out HB2.out) (by omega)
      obtain ⟨c0, c1⟩ := hc2 k t ht
      have hok := (Rr.ok HR.out) t (List.mem_of_getElem? ht)
      have hsz := str_size t.nm
      have htk : l.take (k + 1) = l.take k ++ [t] := by rw [List.take_add_one, ht]; rfl
      have HTK := hide htk
      clear hc2 ht htk
      by_cases h60 : 60 < t.nm.length
      · have hd6 : decide ((60 : Int) < (t.nm.length : Int)) = true := decide_eq_true (by omega)
        have hd6b : decide (60 < t.nm.length) = true := decide_eq_true (by omega)
        go_wp2_with fail
        go_ret
        exact ⟨rfl, HB2.out⟩
      have hd6 : decide ((60 : Int) < (t.nm.length : Int)) = false := decide_eq_false (by omega)
      have hd6b : decide (60 < t.nm.length) = false := decide_eq_false (by omega)
      go_wp2_with fail
      go_loopg [7] t.nm.length (fun gg v wx => ∃ j : Nat, j ≤ t.nm.length ∧ gg = t.nm.length - j ∧ v = .int .i64 (j : Int) ∧ wx = wr ∧ Hid (∀ i, i < j → t.nm.getD i 0 ≠ 0))
      case atStart => exact ⟨0, by omega, rfl, rfl, rfl, fun i hi => by omega⟩
      case round =>
        obtain ⟨j, hj, rfl, rfl, rfl, HZ⟩ := hrel
        by_cases hjl : j < t.nm.length
        · have hjd : decide ((j : Int) < (t.nm.length : Int)) = true := decide_eq_true (by omega)
          have hjs : j < (str t.nm).size := by omega
          have hat := str_at t.nm j hjs hjl
          have hgd : t.nm.getD j 0 = t.nm[j] := by simp [List.getD, hjl]
          go_wp2_with fail
          · go_ret
            exact ⟨rfl, HB2.out⟩
          · rename_i hz
            have hnz : t.nm.getD j 0 ≠ 0 := fun e => by
              rw [hgd] at e
              rw [e] at hz
              simp at hz
            go_roundg (t.nm.length - (j + 1))
            case measure => omega
            case rel => exact ⟨j + 1, by omega, rfl, by go_num, rfl, fun i hi => by
              rcases Nat.lt_or_ge i j with h | h
              · exact HZ.out i h
              · obtain rfl : i = j := by omega
                exact hnz⟩
        · obtain rfl : j = t.nm.length := by omega
          have hjd : decide ((t.nm.length : Int) < (t.nm.length : Int)) = false := decide_eq_false (by omega)
          have hcl : Hid ((0 : UInt8) ∉ t.nm) := fun hm => by
            obtain ⟨i, hi, hx⟩ := List.mem_iff_getElem.1 hm
            exact HZ.out i hi (by simp [List.getD, hi, hx])
          have zr := HB.out.size
          have hcs : csT ((l.take (k + 1)).map En.nm) = csT ((l.take k).map En.nm) ++ [.string (str t.nm)] := by rw [HTK.out]; simp [csT]
          have HA2 : Hid (∀ e ∈ l.take (k + 1), e.nm.length ≤ 60 ∧ (0 : UInt8) ∉ e.nm) := fun e he => by
            rw [HTK.out] at he
            rcases List.mem_append.1 he with h | h
            · exact HA.out e h
            · rw [List.mem_singleton.1 h]
              exact ⟨by omega, hcl.out⟩
          generalize csT ((l.take k).map En.nm) = xs at *
          generalize str t.nm = S at *
          clear HZ HA HTK hcl
          go_wp2_with (at_builtin; refine wpList_append_own _ rfl _ _ 31 rfl wk.heap.size 9 i0 (.string ⟨#[]⟩) 1 16 Try.underlying31 hi hz0 hz1 hz2 rfl (by decide) _ _ _ rfl (HW.out.alloc _) ⟨wr.heap.size, 0, none⟩ 1 1 [.string S] rfl rfl (World.news_of_block (cs := #[.string S]) (t := 9) (fr := (0, 0)) (heap_alloc_new wr _)) (by simp [Value.oneCell']) (by unfold maxLen; omega) (by omega) (by simp; omega) ?_; intro v9 W9 hown9 hgrow9 _; refine Hid.out ?_)
          refine hide ?_
          have O9 : Hid (W9.ownsRow wk.heap.size 9 1 v9 (k + 1) (csT ((l.take (k + 1)).map En.nm))) := by
            show W9.ownsRow _ _ _ _ _ _
            rw [hcs]
            exact hown9
          have B9 := hide ((HB.out.alloc zr _).grown hgrow9 (by simp; omega) (fun j hj => (HW.out.lt j hj).1))
          clear hown9 hgrow9 HW HB hcs
          go_wp2_with fail
          go_roundg (n - (k + 1))
          case measure => omega
          case rel => exact ⟨k + 1, by omega, rfl, by go_num, O9.out, B9.out, HA2.out⟩
    · obtain rfl : k = n := by omega
      have HB2 := hide (HBK.out.trans (HB.out.mono hszk))
      have hall : l.take k = l := List.take_of_length_le (by omega)
      rw [hall] at HW HA
      have hg : ixG l := fun e he => (HA.out e he).2
      have hT := ixT_le l 60 (fun e he => (HA.out e he).1)
      have hk20 : k ≤ 20 := by omega
      have hTb : ixT l ≤ 1220 := by rw [hl] at hT; omega
      have hlenB : (ixB l).length = 4 + (4 * k + ixT l) := by unfold ixB; rw [List.length_append, List.length_append, be4_len, ixM_len, ixN_len, hl]
      have HWB := hide (ixbytes_any a k cap l wr (Rr.below HR.out HB2.out) (by omega) (by omega))
      have Y1 := hide (ix_yes l (by omega) hg (count : Int))
      have Y2 := hide (ix_more l (by omega) hg (count : Int))
      have Y3 := hide (ix_less l (by omega) hg (count : Int))
      have HWn := hide (row_low HW.out hszk)
      have HWk := HW
      generalize hBB : ixB l = BB at *
      obtain ⟨M, hLL⟩ : ∃ M, BB.length = M + 1 := ⟨BB.length - 1, by omega⟩
      rw [hLL] at hlenB
      have hL5 : 3 ≤ M ∧ M ≤ 2000 := by omega
      clear HA hT hTb hlenB HW HWn hd
      go_wp2_with fail
      refine HWB.out.mono ?_
      rintro e W1 ⟨v8, rfl, hp⟩
      obtain ⟨a8, c8, hv8, hrt⟩ := hp.rt
      have hc8 := hrt.le
      have hm8 := hrt.max
      have HPB := hide hp
      have HB3 := hide (HB2.out.trans (hp.bel.mono HB2.out.size))
      have HPK := hide (HB.out.trans (hp.bel.mono HB.out.size))
      have HP := hide (ixparse_any a8 c8 BB W1 hrt (count : Int) (by omega) (by omega))
      have HV8 := hide hv8
      rw [hLL] at HP hv8
      have hc8' : M + 1 ≤ c8 := by omega
      subst hv8
      clear HWB hp hrt hc8
      have hwc : IntKind.i64.wrap (count : Int) = (count : Int) := wraps_i64 _ (by omega) (by omega)
      go_wp2_with fail
      refine HP.out.mono ?_
      rintro e W2 ⟨hb2, he2⟩
      rw [Y1.out] at he2
      have HB4 := hide (HB3.out.trans (hb2.mono HB3.out.size))
      have HPK2 := hide (HPK.out.trans (hb2.mono HPK.out.size))
      have HP2 := hide (HPB.out.on hb2)
      by_cases hz : 0 < k ∧ count = 0
      · rw [if_pos ⟨by omega, by omega⟩] at he2
        obtain rfl : e = .returned (.tuple #[.slice none 0 0, .int .i64 41]) := he2
        have h1 : decide (0 < k) = true := decide_eq_true hz.1
        obtain rfl : count = 0 := hz.2
        clear hb2 HP HPB
        go_wp2_with fail
        go_ret
        exact ⟨rfl, HB4.out⟩
      · rw [if_neg (fun h => hz ⟨by omega, by omega⟩)] at he2
        obtain ⟨v9, rfl, ho9⟩ := he2
        have HO9 := hide ho9
        have ht : decide (0 < k) = false ∨ (decide (0 < k) = true ∧ ((count : Int) == 0) = false) := by
          by_cases hk0 : 0 < k
          · exact .inr ⟨decide_eq_true hk0, by simp; omega⟩
          · exact .inl (decide_eq_false hk0)
        clear hb2 HP HPB ho9 hz
        have hdl : BB.dropLast = BB.take M := by rw [List.dropLast_eq_take, hLL]; rfl
        rw [hdl] at Y3
        have e10 : (BB ++ [0]).length = M + 1 + 1 := by rw [List.length_append, hLL]; rfl
        have e11 : (BB.take M).length = M := by rw [List.length_take]; omega
        have e12 : (l.map En.nm).length = k := by rw [List.length_map, hl]
        clear hdl
        rcases ht with hk0 | ⟨hk0, hk1⟩
        all_goals
          go_wp2_with (at_builtin; refine wpList_pb_keep (w := wr) rfl _ _ rfl _ BB 0 1 ⟨W2.heap.size, 0, none⟩ rfl rfl (HP2.out.on ((Below.refl _ _).alloc (Nat.le_refl _) _)) (by omega) (blkRt (l := [0]) (heap_alloc_new W2 _) (by decide)) (by omega) ?_; intro v10 W10 h10 k10 b10 t10; refine Hid.out ?_)
          refine hide ?_
          obtain ⟨a10, c10, hv10, r10⟩ := h10
          rw [hLL] at hv10 k10
          subst hv10
          have o10 := k10 a8 c8 rfl
          have HR9 := hide (t10.row (by decide) (rowKept (B0 := 0) HO9.out ((Below.refl _ _).alloc (Nat.le_refl _) (.cells #[.int .u8 0] 5))))
          have HPa := hide (ixparse_any a10 c10 (BB ++ [0]) W10 r10 (count : Int) (by omega) (by omega))
          rw [e10] at HPa
          rw [Y2.out] at HPa
          have hr10 := r10.le
          rw [e10] at hr10
          have HB10 := hide (HB2.out.trans (b10.mono HB2.out.size))
          have HK10 := hide b10
          have HO10 := hide o10
          clear k10 b10 t10 r10 o10
          go_wp2_with fail
          refine HPa.out.mono ?_
          rintro e W11 ⟨hb11, he11⟩
          obtain rfl : e = .returned (.tuple #[.slice none 0 0, .int .i64 41]) := he11
          have o11 : Rt W11 a8 c8 BB := Rd.below HO10.out hb11
          have HR11 := hide (rowKept (B0 := 0) HR9.out hb11)
          have HB11 := hide (HB10.out.trans (hb11.mono HB10.out.size))
          have HK11 := hide (HK10.out.trans (hb11.mono HK10.out.size))
          have HPb := hide (ixparse_any a8 c8 (BB.take M) W11 (o11.front M (by omega)) (count : Int) (by omega) (by omega))
          rw [e11] at HPb
          rw [Y3.out] at HPb
          clear HPa hb11 o11 HO10 HR9 HB10 HK10
          go_wp2_with fail
          refine HPb.out.mono ?_
          rintro e W12 ⟨hb12, he12⟩
          obtain rfl : e = .returned (.tuple #[.slice none 0 0, .int .i64 41]) := he12
          have HB12 := hide (HB11.out.trans (hb12.mono HB11.out.size))
          have HK12 := HK11.out.trans (hb12.mono HK11.out.size)
          have q1 := rowKept (B0 := 0) HR11.out hb12
          rw [e12] at q1
          obtain ⟨a13, c13, hv13, r13⟩ := Rs.own q1
          have q2 := rowKept (B0 := 0) HWk.out HK12
          obtain ⟨a14, c14, hv14, r14⟩ := Rs.own q2
          have HS := hide (strs_eq _ _ _ _ _ _ _ r13 r14)
          subst hv13 hv14
          have hr13 := r13.le
          have hr14 := r14.le
          clear HPb hb12 HR11 HB11 HK11 HK12 q1 q2 r13 r14 HWk HO9
          go_wp2_with fail
          refine HS.out.mono ?_
          rintro e W13 ⟨rfl, hb13⟩
          have HB13 := hide (HB12.out.trans (hb13.mono HB12.out.size))
          clear HS hb13
          go_wp2_with fail
          go_ret
          exact ⟨rfl, HB13.out⟩

end Go.Proofs.Yteknmlcgdjoccaa
