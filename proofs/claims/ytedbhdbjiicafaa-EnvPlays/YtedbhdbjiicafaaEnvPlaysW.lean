/- The walk of EnvPlays: any script of takes and notes comes to just the document's input, events and output. -/
import Derived.Test.YtedbhdbjiicafaaEnvPlaysP
import Derived.Deep.RegionHeld3
import Derived.Deep.RegionLaw
import Derived.Deep.LoopGhost
import Derived.Deep.DeepCutAuto
import Derived.BigQuiet
namespace Go.Proofs.Ytedbhdbjiicafaa
open Go.RowKit
set_option linter.unusedVariables false

set_option maxRecDepth 20000 in
set_option maxHeartbeats 25600000 in
theorem plays_walk (a : Option Addr) (len cap : Nat) (bs : List Int) (a1 : Option Addr) (len1 cap1 : Nat) (fd : Int) (w : World) (r : Rd w a len cap bs) (hA : IsActE w a1 len1) :
    Calls Try.prog 3 #[.slice a len cap, .slice a1 len1 cap1, .int .i64 fd] w fun e w' => e = .returned (.bool true) ∧ Below w.heap.size w w' := by
  obtain ⟨i8, hi8, hz80, hz81, hz82⟩ := info_parts Try.info8
  obtain ⟨i0, hi, hz0, hz1, hz2⟩ := info_parts Try.infoEv
  have hle := r.le
  have hmx := r.max
  have hbl := r.length
  have hmx1 := hA.1
  have HR := hide r
  have HA := hide hA.2
  clear r hA
  by_cases h3 : 300 < len
  · have h3' : (300 : Int) < (len : Int) := by omega
    go_enter Try.func3, Try.ntmps3
    go_wp2_with fail
    refine (known_any _).mono ?_
    rintro e W1 ⟨rfl, hB1⟩
    have HB1 := hide hB1
    clear hB1
    go_wp2
    go_ret
    exact ⟨rfl, HB1.out⟩
  by_cases h4 : 40 < len1
  · have h4' : (40 : Int) < (len1 : Int) := by omega
    go_enter Try.func3, Try.ntmps3
    go_wp2_with fail
    refine (known_any _).mono ?_
    rintro e W1 ⟨rfl, hB1⟩
    have HB1 := hide hB1
    clear hB1
    go_wp2
    go_ret
    exact ⟨rfl, HB1.out⟩
  go_enter Try.func3, Try.ntmps3
  go_wp2_with fail
  refine (known_any _).mono ?_
  rintro e W1 ⟨rfl, hB1⟩
  have HB1 := hide hB1
  clear hB1
  go_wp2_with fail
  refine (has_new (Has.start HB1.out) (HR.out.below HB1.out) (by omega)).mono ?_
  rintro e W2 ⟨m1, rfl, hH⟩
  have H2 := hide (has_row (has_ref hH HR.out).swap).rot
  clear hH HB1
  go_wp2
  obtain ⟨m2, hm2⟩ : ∃ m2, m2 = W2.heap.size := ⟨_, rfl⟩
  rw [← hm2] at H2 ⊢
  obtain ⟨V2, hV2⟩ : ∃ V2, V2 = W2.alloc (.cells #[.slice a len cap, .slice none 0 0] 30) := ⟨_, rfl⟩
  rw [← hV2] at H2 ⊢
  clear hm2 hV2
  go_loopw [9, 10] (fun v i wr => ∃ (j t : Nat) (tr : List Says), j ≤ len1 ∧ t ≤ len ∧ i = .int .i64 (j : Int) ∧ tr.length ≤ j ∧ (∀ s ∈ tr, s.bs.length ≤ 50) ∧ Has w wr [EV w.heap.size 46 m1 (bs.drop t) tr, EV w.heap.size 30 m2 (bs.drop t) tr, RowT v (bs.take t)]) (fun _ i _ => len1 - (intOf i).toNat)
  case atStart => exact ⟨0, 0, [], by omega, by omega, rfl, by simp, (fun s hs => by cases hs), H2.out⟩
  case round =>
    obtain ⟨j, t, tr, hj, ht, rfl, htj, hts, hH⟩ := hrel
    clear H2
    by_cases hlt : j < len1
    · obtain ⟨b, o, rfl, y, hy, hcy⟩ := HA.out j hlt
      have hcw : ∀ k, k < 6 → wr.cell? ⟨b, o + j * 6 + k, none⟩ = y.cells[k]? := fun k hk => by
        have h1 := hcy k hk
        have h2 : y.cells[k]? = some (y.cells[k]'(by simpa [ActE.cells] using hk)) := List.getElem?_eq_getElem _
        rw [h2] at h1 ⊢
        rw [hH.bel.cell (World.block_lt_of_cell? w _ h1)]
        exact h1
      have hbw : b < w.heap.size := World.block_lt_of_cell? w ⟨b, o + j * 6 + 0, none⟩ ((hcy 0 (by omega)).trans rfl)
      obtain ⟨wh, nn, kind, fdx, xa, xl, xc, xn, xb⟩ := y
      have k0 : wr.cell? ⟨b, o + j * 6, none⟩ = some (.int .u8 (wh : Int)) := hcw 0 (by omega)
      have k1 : wr.cell? ⟨b, o + j * 6 + 1, none⟩ = some (.int .i64 nn) := hcw 1 (by omega)
      have k2 : wr.cell? ⟨b, o + j * 6 + 2, none⟩ = some (.int .i64 kind) := hcw 2 (by omega)
      have k3 : wr.cell? ⟨b, o + j * 6 + 3, none⟩ = some (.int .i64 fdx) := hcw 3 (by omega)
      have k4 : wr.cell? ⟨b, o + j * 6 + 4, none⟩ = some (.slice xa xl xc) := hcw 4 (by omega)
      have k5 : wr.cell? ⟨b, o + j * 6 + 5, none⟩ = some (.int .i64 xn) := hcw 5 (by omega)
      have hwh : wh ≤ 255 := hy.wh
      have HX : Hid (Evt.Ok ⟨kind, fdx, xa, xl, xc, xn, xb⟩ w) := hide hy.x
      have HC6 := hide hcy
      have HTS := hide hts
      have H3 := hide hH
      have HBW := hide hbw
      clear hcw hcy hy hts hH hbw
      by_cases h5 : 50 < xl
      · have h5' : (50 : Int) < (xl : Int) := by omega
        go_wp2
        go_ret
        exact ⟨rfl, H3.out.bel⟩
      · have h5' : decide ((50 : Int) < (xl : Int)) = false := by simp; omega
        by_cases h6 : wh % 3 = 2
        · have h6' : (wh : Int) % 3 = 2 := by omega
          go_wp2_with fail
          have hN := (H3.out.arg1 ((Below.refl _ _).alloc (Nat.le_refl _) _) (x := ⟨kind, fdx, xa, xl, xc, xn, xb⟩) (t := 32) (Nat.le_refl _) (heap_alloc_new wr _) (HX.out.below (H3.out.bel.trans (((Below.refl _ _).alloc (Nat.le_refl _) _).mono H3.out.bel.size))) (fun hl y hy => Or.inr (HX.out.b.blk hl y hy))).swap
          refine (has_note (cap := 1) hN (by intro z hz; simp at hz; subst hz; dsimp only; omega) (by simp; omega)).mono ?_
          rintro e W4 ⟨rfl, hH⟩
          have H4 := hide hH.swap.drop.swap
          clear hN hH H3
          have hc4 : ∀ k, k < 6 → W4.cell? ⟨b, o + j * 6 + k, none⟩ = (ActE.cells ⟨wh, nn, ⟨kind, fdx, xa, xl, xc, xn, xb⟩⟩)[k]? := fun k hk => by
            have h1 := HC6.out k hk
            have h2 : (ActE.cells ⟨wh, nn, ⟨kind, fdx, xa, xl, xc, xn, xb⟩⟩)[k]? = some ((ActE.cells ⟨wh, nn, ⟨kind, fdx, xa, xl, xc, xn, xb⟩⟩)[k]'(by simpa [ActE.cells] using hk)) := List.getElem?_eq_getElem _
            rw [h2] at h1 ⊢
            rw [H4.out.bel.cell (World.block_lt_of_cell? w _ h1)]
            exact h1
          clear k0 k1 k2 k3 k4 k5
          have k2 : W4.cell? ⟨b, o + j * 6 + 2, none⟩ = some (.int .i64 kind) := hc4 2 (by omega)
          have k3 : W4.cell? ⟨b, o + j * 6 + 3, none⟩ = some (.int .i64 fdx) := hc4 3 (by omega)
          have k4 : W4.cell? ⟨b, o + j * 6 + 4, none⟩ = some (.slice xa xl xc) := hc4 4 (by omega)
          have k5 : W4.cell? ⟨b, o + j * 6 + 5, none⟩ = some (.int .i64 xn) := hc4 5 (by omega)
          clear hc4
          go_upto_region 14 with fail
          obtain ⟨F, ⟨wa, wl, wc, ev, es1, hx1, ht1⟩, hF, hcont⟩ := H4.out.drew.step
          have hbel4 := H4.out.bel
          have hb4 : b < W4.heap.size := Nat.lt_of_lt_of_le HBW.out hbel4.size
          have hm4 : m2 < W4.heap.size := hx1.lt
          have cm : W4.cell? ⟨m2, 1, none⟩ = some ev := by simpa using hx1.cell1
          obtain ⟨L, hL⟩ : ∃ L, es1.length = L := ⟨_, rfl⟩
          have hL4 : L ≤ 40 := by
            have h1 := congrArg List.length ht1
            rw [List.length_map] at h1
            omega
          have HROW : Hid (∀ o, (W4.drew.alloc o).ownsRow 0 32 4 ev L (evCells es1)) := hide (fun o => by
            have h1 := hx1.row
            rw [hL] at h1
            exact World.ownsRow.alloc h1 o)
          have HFAR : Hid (∀ o W2, (W4.drew.alloc o).grownBy W2 ev.ownBlock → W2.cell? ⟨m2, 1, none⟩ = some ev ∧ W2.frozen? ⟨m2, 1, none⟩ = false) := hide (fun o W2 hg => by
            have h1 : m2 < (W4.drew.alloc o).heap.size := by simp; omega
            have h2 : some m2 ≠ ev.ownBlock := fun e => (hx1.fg m2 e.symm).2 rfl
            have h3 : Below W4.drew.heap.size W4.drew (W4.drew.alloc o) := (Below.refl _ _).alloc (Nat.le_refl _) _
            exact ⟨(hg.cell_far ⟨m2, 1, none⟩ h1 h2).trans ((h3.cell hx1.lt).trans hx1.cell1), (hg.frozen_far ⟨m2, 1, none⟩ h1 h2).trans ((h3.frozen hx1.lt).trans (hx1.frozen 1))⟩)
          have HXD : Hid (Evt.Ok ⟨kind, fdx, xa, xl, xc, xn, xb⟩ W4.drew) := hide (HX.out.below hbel4.drew)
          have HSX : Hid (0 < xl → ∀ y, xa = some y → W4.drew.heap.size ≤ y.block ∨ (y.block < w.heap.size ∧ ¬ F y.block)) := hide (fun hl y hy => Or.inr ⟨HX.out.b.blk hl y hy, fun hf => by
            have h1 := HX.out.b.blk hl y hy
            have h2 := hF _ hf
            omega⟩)
          have HX1 := hide hx1
          have HT1 := hide ht1
          have HL := hide hL
          have HCO := hide hcont
          clear hx1 ht1 hL hcont hF hbel4 H4
          go_region_law (refine step_append_lies _ (by rfl) _ _ _ (by rfl) 0 32 i0 _ 4 48 Try.underlying28 hi hz0 hz1 hz2 rfl (by omega) ev L (evCells es1) (by rfl) (HROW.out _) ⟨W4.heap.size, 0, none⟩ 1 1 [.int .i64 kind, .int .i64 fdx, .slice xa xl xc, .int .i64 xn] (by rfl) (by rfl) (World.news_of_block (cs := #[.int .i64 kind, .int .i64 fdx, .slice xa xl xc, .int .i64 xn]) (t := 32) (fr := (0, 0)) (heap_alloc_new W4.drew _)) (by simp [Value.oneCell']) (by omega) (by unfold maxLen; omega) (by omega) (by omega) (W4.heap.size + 1) (by simp) ?_; intro gg cap2 W5 hown2 hgrow hat hlt2; obtain ⟨cm2, fm2⟩ := HFAR.out _ W5 hgrow; have HO2 := hide hown2; have HG2 := hide hgrow; have HAT := hide hat; have HLT := hide hlt2; clear hown2 hgrow hat hlt2)
          all_goals
            have H5 : Hid (Has w (W5.setCell ⟨m2, 1, none⟩ (.slice (some ⟨gg, 0, none⟩) (L + 1) cap2)) [EV w.heap.size 46 m1 (bs.drop t) (tr ++ [Evt.says ⟨kind, fdx, xa, xl, xc, xn, xb⟩]), EV w.heap.size 30 m2 (bs.drop t) (tr ++ [Evt.says ⟨kind, fdx, xa, xl, xc, xn, xb⟩]), RowT u9 (bs.take t)]) := by
              refine hide ?_
              obtain ⟨F2, h1, h2⟩ := note_fin HX1.out HT1.out HL.out (Below.refl _ _) ⟨kind, fdx, xa, xl, xc, xn, xb⟩ HXD.out HSX.out _ gg cap2 HO2.out HG2.out HAT.out HLT.out
              exact (HCO.out _ _ F2 h1 h2 (ev_stays _ _ _ _ _)).swap
            clear HX1 HT1 HL HXD HSX HCO HO2 HG2 HAT HLT HROW HFAR cm2 fm2 cm k2 k3 k4 k5
            go_wp2
            go_roundw
            case rel =>
              refine ⟨j + 1, t, _, by omega, ht, by go_num, ?_, ?_, H5.out⟩
              · simp
                omega
              · intro s hs
                rcases List.mem_append.1 hs with hs | hs
                · exact HTS.out s hs
                · simp at hs
                  subst hs
                  have h1 := HX.out.b.length
                  simp only [Evt.says]
                  dsimp only at h1
                  omega
            case measure => simp [intOf]; omega
        · have h6' : ((wh : Int) % 3 == 2) = false := by simp; omega
          have h6'' : decide ((wh : Int) % 3 = 2) = false := by simp; omega
          obtain ⟨K, hK⟩ : ∃ K, K = min nn.toNat (len - t) := ⟨_, rfl⟩
          have hdl : (bs.drop t).length = len - t := by simp; omega
          have e1 : (bs.drop t).take nn.toNat = (bs.drop t).take K := by
            rcases Nat.le_total nn.toNat (len - t) with h1 | h1
            · rw [hK, Nat.min_eq_left h1]
            · rw [hK, Nat.min_eq_right h1, List.take_of_length_le (by omega), List.take_of_length_le (by omega)]
          have e2 : (bs.drop t).drop nn.toNat = bs.drop (t + K) := by
            rw [← List.drop_drop]
            rcases Nat.le_total nn.toNat (len - t) with h1 | h1
            · rw [hK, Nat.min_eq_left h1]
            · rw [hK, Nat.min_eq_right h1, List.drop_eq_nil_of_le (by omega), List.drop_eq_nil_of_le (by omega)]
          have e3 : ((bs.drop t).take K).length = K := by
            rw [List.length_take, hdl]
            omega
          have hKt : t + K ≤ len := by omega
          have e4 : bs.take t ++ (bs.drop t).take K = bs.take (t + K) := (List.take_add ..).symm
          obtain ⟨T1, hT1⟩ : ∃ T1, (bs.drop t).take K = T1 := ⟨_, rfl⟩
          have HL := hide (has_take H3.out.drew nn (by rw [hdl]; omega))
          have HRL := hide (fun (a5 : Option Addr) (c5 : Nat) (W : World) (h : Has w W [EV w.heap.size 46 m1 (bs.drop (t + K)) tr, RdT a5 K c5 T1, EV w.heap.size 30 m2 (bs.drop t) tr, RowT u9 (bs.take t)]) => has_rtake h.back nn (by rw [hdl]; omega))
          rw [e1, e2, e3, hT1] at HL HRL
          rw [hT1] at e4 e3
          have HE4 := hide e4
          have HE3 := hide e3
          have HCEL : Hid (∀ W, Below w.heap.size w W → W.cell? ⟨b, o + j * 6 + 1, none⟩ = some (.int .i64 nn)) := hide (fun W hW => by
            have h1 := HC6.out 1 (by omega)
            exact (hW.cell (p := ⟨b, o + j * 6 + 1, none⟩) HBW.out).trans h1)
          have HBY : Hid (Bytes T1) := hide (by rw [← hT1]; exact (HR.out.bytes.drop t).take K)
          clear hK hdl e1 e2 e3 e4 hT1 H3
          go_upto_region 15 with fail
          clear k0 k2 k3 k4 k5
          go_region_held3 (fun w' => w'.cell? ⟨b, o + j * 6 + 1, none⟩ = some (.int .i64 nn)) (go_keep)
            (first | (go_at_call 9; refine HL.out.mono ?_; rintro e W5 ⟨a5, c5, rfl, hH5⟩; have g5 := HCEL.out W5 hH5.bel; have HP5 := hide hH5; clear hH5) | (go_at_call 10; refine (HRL.out a5 c5 _ HP5.out).mono ?_; rintro e W6 ⟨a6, c6, rfl, hH6⟩; have g6 := HCEL.out W6 hH6.bel; have HP6 := hide hH6; clear hH6))
          clear HL HRL g5 g6 k1 HP5 HCEL
          obtain ⟨F, wa, wl, wc, ev, es, hx, _⟩ := HP6.out.top
          have c0 := hx.cell0
          have HWL := hide hx.waits.length
          clear hx
          have s5 := fun q => (HP6.out.drop.drop.drop.rd.below (bel_drewN W6 q)).str
          have s6 := fun q => (HP6.out.drop.rd.below (bel_drewN W6 q)).str
          generalize hS : strOfNums T1 = S at s5 s6
          have HLEFT : Hid (∀ q, Calls Try.prog 11 #[.pointer (some ⟨m1, 0, none⟩)] (W6.drewN q) fun e w' => e = .returned (.int .i64 (wl : Int)) ∧ w' = W6.drewN q) := hide (fun q => by
            have h1 := has_left (HP6.out.drop.drop.below (bel_drewN W6 q))
            rw [HWL.out] at h1
            exact h1)
          clear hS
          go_upto_region 16 with fail
          go_quiet (first | (go_at_call 11; refine Calls.quiet_of_same (HLEFT.out _)))
          have H7 := hide ((HP6.out.swap.drop.below (bel_drewN W6 nq)).perm (List.perm_append_comm (l₁ := [_, _, _]) (l₂ := [_])))
          obtain ⟨W7, hW7⟩ : ∃ W7, W7 = W6.drewN nq := ⟨_, rfl⟩
          rw [← hW7] at H7 ⊢
          clear hW7 s5 s6 c0 HLEFT HWL HP6
          obtain ⟨F7, r7, b7, o7, l7⟩ := H7.out.top
          have htl : (bs.take t).length = t := by simp; omega
          have HROW : Hid (W7.ownsRow 0 5 1 u9 t ((bs.take t).map (Value.int .u8))) := hide (by
            have h1 := r7
            unfold RowB at h1
            rw [htl] at h1
            exact h1)
          have HTL := hide htl
          have HRA := hide (H7.out.perm (List.perm_append_comm (l₁ := [_, _, _]) (l₂ := [_]))).rd
          clear r7 b7 o7 l7 htl F7
          cases a5 with
          | none =>
            have hK0 : K = 0 := by
              have h1 := HRA.out.nil rfl
              have h2 := HRA.out.le
              omega
            have hc5 : c5 = 0 := HRA.out.nil rfl
            subst hK0 hc5
            have hT0 : T1 = [] := List.eq_nil_of_length_eq_zero HE3.out
            have H8 : Hid (Has w W7 [EV w.heap.size 46 m1 (bs.drop (t + 0)) tr, EV w.heap.size 30 m2 (bs.drop (t + 0)) tr, RowT u9 (bs.take (t + 0))]) := hide ((H7.out.perm (List.reverse_perm _).symm).drop)
            clear H7 HRA hT0
            go_wp2_with (at_builtin; refine wpList_append_own_none rfl _ _ 22 rfl 0 5 i8 1 Try.underlying22 hi8 u9 t ((bs.take t).map (Value.int .u8)) rfl HROW.out rfl ?_; refine Hid.out ?_)
            refine hide ?_
            clear HROW
            go_wp2
            go_roundw
            case rel => exact ⟨j + 1, t + 0, tr, by omega, by omega, by go_num, by omega, HTS.out, H8.out⟩
            case measure => simp [intOf]; omega
          | some x =>
            have HXC := hide (HRA.out.cells x rfl)
            clear HRA
            go_wp2_with (at_builtin; refine wpList_append_own_at _ rfl _ _ 22 rfl 0 5 i8 (.int .u8 0) 1 1 Try.underlying22 hi8 hz80 hz81 hz82 rfl (by decide) u9 t ((bs.take t).map (Value.int .u8)) rfl HROW.out x K c5 (T1.map (Value.int .u8)) rfl (by rw [List.length_map, HE3.out, Nat.mul_one]) HXC.out (ints_oneCell _ _) (by unfold maxLen; omega) (by omega) (by omega) ?_; intro v8 W8 hown8 hgrow8 hnn8 hat8; refine Hid.out ?_)
            refine hide ?_
            have H8 : Hid (Has w W8 [EV w.heap.size 46 m1 (bs.drop (t + K)) tr, EV w.heap.size 30 m2 (bs.drop (t + K)) tr, RowT v8 (bs.take (t + K))]) := by
              refine hide ?_
              have h1 := H7.out.grow HTL.out HE3.out HBY.out hown8 hgrow8 hat8
              rw [HE4.out] at h1
              exact (h1.perm (List.reverse_perm _).symm).drop
            clear H7 hown8 hgrow8 hnn8 hat8 HROW HXC
            go_wp2
            go_roundw
            case rel => exact ⟨j + 1, t + K, tr, by omega, by omega, by go_num, by omega, HTS.out, H8.out⟩
            case measure => simp [intOf]; omega
    · have H3 := hide hH
      have HTS := hide hts
      clear hH hts
      have e1 : (bs.drop t).take (len : Int).toNat = bs.drop t := List.take_of_length_le (by simp; omega)
      have e2 : (bs.drop t).drop (len : Int).toNat = [] := List.drop_eq_nil_of_le (by simp; omega)
      have HT := hide (has_take H3.out (len : Int) (by simp; omega))
      rw [e1, e2] at HT
      obtain ⟨n5, hn5⟩ : ∃ n5, (bs.drop t).length = n5 := ⟨_, rfl⟩
      rw [hn5] at HT
      have HN5 := hide hn5
      clear e1 e2 hn5
      go_wp2_with fail
      refine HT.out.mono ?_
      rintro e W5 ⟨a5, c5, rfl, hH5⟩
      have H5 := hide hH5
      clear hH5 HT H3
      go_upto_region 20 with fail
      have hts50 := HTS.out
      have hsm := fun fd => outOf_short fd tr hts50
      have htl40 : tr.length ≤ 40 := by omega
      obtain ⟨a9, c9, hu9, r9⟩ := H5.out.drop.drop.drop.row
      subst hu9
      obtain ⟨F, wa, wl, wc, ev, es2, hx, ht2⟩ := H5.out.drop.drop.top
      have c1 := hx.cell1
      have hm2l := hx.lt
      obtain ⟨a14, c14, hev, hE14, _⟩ := Evs.own hx.row hx.ok
      have hel : es2.length = tr.length := by rw [← ht2, List.length_map]
      rw [hel] at hev hE14
      subst hev
      have CT := hide (fun (W : World) (h : Below W5.heap.size W5 W) => has_trace (H5.out.below h) (fun s hs => Nat.le_trans (hts50 s hs) (by omega)) (by omega))
      have CE := hide (fun (W : World) (h : Below W5.heap.size W5 W) (a10 : Option Addr) (c10 : Nat) (es10 : List Evt) (hE : Evs W a10 tr.length es10) (hs : es10.map Evt.says = tr) => events_any a10 a14 tr.length c10 c14 es10 es2 W hE (hE14.below h) (hs.trans ht2.symm))
      have CO := hide (fun (W : World) (h : Below W5.heap.size W5 W) => has_output (H5.out.below h) fd (by omega) (by have := hsm fd; omega))
      have CRO := hide (fun (W : World) (h : Below W5.heap.size W5 W) => has_routput (H5.out.drop.drop.below h) fd (by omega) (by have := hsm fd; omega))
      have CP := hide (fun (W : World) (h : Below W5.heap.size W5 W) => has_output (H5.out.below h) 1 (by omega) (by have := hsm 1; omega))
      have CRP := hide (fun (W : World) (h : Below W5.heap.size W5 W) => has_routput (H5.out.drop.drop.below h) 1 (by omega) (by have := hsm 1; omega))
      generalize outOf fd tr = O1 at CO CRO
      generalize outOf 1 tr = O2 at CP CRP
      generalize tr.length = n at *
      have hadd0 : strOfNums (bs.take t) ++ strOfNums (bs.drop t) = strOfNums bs := by rw [str_append, List.take_append_drop]
      have z1 : (strOfNums (bs.take t)).size ≤ 300 := by rw [strOfNums_size]; simp; omega
      have z2 : (strOfNums (bs.drop t)).size ≤ 300 := by rw [strOfNums_size]; simp; omega
      have z3 : ¬ (9223372036854775807 < (strOfNums (bs.take t)).size + (strOfNums (bs.drop t)).size) := by omega
      have C9 : Hid (∀ W, Below W5.heap.size W5 W → Sem.run Try.prog (convert 22 9 (.slice a9 (bs.take t).length c9)) W = .ok (.string (strOfNums (bs.take t))) W) := hide (fun W h => (r9.below h).str)
      have C5 : Hid (∀ W, Below W5.heap.size W5 W → Sem.run Try.prog (convert 22 9 (.slice a5 n5 c5)) W = .ok (.string (strOfNums (bs.drop t))) W) := hide (fun W h => (H5.out.swap.rd.below h).str)
      have hb5 := H5.out.bel
      have CI : Hid (∀ W, Below W5.heap.size W5 W → Sem.run Try.prog (convert 22 9 (.slice a len cap)) W = .ok (.string (strOfNums bs)) W) := hide (fun W h => ((HR.out.below hb5).below h).str)
      generalize strOfNums (bs.take t) = A1 at *
      generalize strOfNums (bs.drop t) = A2 at *
      generalize strOfNums bs = A3 at *
      generalize (bs.take t).length = n9 at *
      have CC : Hid (∀ W, Below W5.heap.size W5 W → W.cell? ⟨m2, 1, none⟩ = some (.slice a14 n c14)) := hide (fun W h => (h.cell hm2l).trans c1)
      have HBE := hide hb5
      clear hx ht2 c1 hm2l hE14 hel hts50 hsm r9 HTS hb5 HA HR
      refine wp_region_held_drew (S := fun w' => Below W5.heap.size W5 w') (by kernel_rfl) (Below.refl _ _).drew (fun hHeld => ?_)
      refine wpAnyH_take (i := 0) (oi := ⟨some 108, _, _, _, _, _⟩) (v := ?_) rfl (by kernel_rfl) (by kernel_rfl) (by kernel_rfl) (fun _ _ _ h => h) (Or.inl ⟨by rfl, ?_⟩) hHeld ?_
      rotate_left
      · intro w' hSw; go_simp; try with_reducible rfl
      try simp only [Act.put, List.setIfInBounds_toArray, List.set_cons_zero, List.set_cons_succ]
      refine wpAnyH_take (i := 1) (oi := ⟨some 109, _, _, _, _, _⟩) (v := ?_) rfl (by kernel_rfl) (by kernel_rfl) (by kernel_rfl) (fun _ _ _ h => h) (Or.inl ⟨by rfl, ?_⟩) hHeld ?_
      rotate_left
      · intro w' hSw; have sx := C9.out w' hSw; go_simp; try with_reducible rfl
      try simp only [Act.put, List.setIfInBounds_toArray, List.set_cons_zero, List.set_cons_succ]
      refine wpAnyH_take (i := 2) (oi := ⟨some 110, _, _, _, _, _⟩) (v := ?_) rfl (by kernel_rfl) (by kernel_rfl) (by kernel_rfl) (fun _ _ _ h => h) (Or.inl ⟨by rfl, ?_⟩) hHeld ?_
      rotate_left
      · intro w' hSw; go_simp; try with_reducible rfl
      try simp only [Act.put, List.setIfInBounds_toArray, List.set_cons_zero, List.set_cons_succ]
      refine wpAnyH_take (i := 3) (oi := ⟨some 111, _, _, _, _, _⟩) (v := ?_) rfl (by kernel_rfl) (by kernel_rfl) (by kernel_rfl) (fun _ _ _ h => h) (Or.inl ⟨by rfl, ?_⟩) hHeld ?_
      rotate_left
      · intro w' hSw; have sx := C5.out w' hSw; go_simp; try with_reducible rfl
      try simp only [Act.put, List.setIfInBounds_toArray, List.set_cons_zero, List.set_cons_succ]
      refine wpAnyH_take (i := 4) (oi := ⟨some 112, _, _, _, _, _⟩) (v := ?_) rfl (by kernel_rfl) (by kernel_rfl) (by kernel_rfl) (fun _ _ _ h => h) (Or.inl ⟨by rfl, ?_⟩) hHeld ?_
      rotate_left
      · intro w' hSw; go_simp; try with_reducible rfl
      try simp only [Act.put, List.setIfInBounds_toArray, List.set_cons_zero, List.set_cons_succ]
      refine wpAnyH_take (i := 5) (oi := ⟨some 113, _, _, _, _, _⟩) (v := ?_) rfl (by kernel_rfl) (by kernel_rfl) (by kernel_rfl) (fun _ _ _ h => h) (Or.inl ⟨by rfl, ?_⟩) hHeld ?_
      rotate_left
      · intro w' hSw; go_simp; try with_reducible rfl
      try simp only [Act.put, List.setIfInBounds_toArray, List.set_cons_zero, List.set_cons_succ]
      refine wpAnyH_take (i := 6) (oi := ⟨some 114, _, _, _, _, _⟩) (v := ?_) rfl (by kernel_rfl) (by kernel_rfl) (by kernel_rfl) (fun _ _ _ h => h) (Or.inl ⟨by rfl, ?_⟩) hHeld ?_
      rotate_left
      · intro w' hSw; have sx := CI.out w' hSw; go_simp; try with_reducible rfl
      try simp only [Act.put, List.setIfInBounds_toArray, List.set_cons_zero, List.set_cons_succ]
      refine wpAnyH_take (i := 7) (oi := ⟨some 115, _, _, _, _, _⟩) (v := ?_) rfl (by kernel_rfl) (by kernel_rfl) (by kernel_rfl) (fun _ _ _ h => h) (Or.inl ⟨by rfl, ?_⟩) hHeld ?_
      rotate_left
      · intro w' hSw; go_simp; try with_reducible rfl
      try simp only [Act.put, List.setIfInBounds_toArray, List.set_cons_zero, List.set_cons_succ]
      refine wpAnyH_take (i := 8) (oi := ⟨some 116, _, _, _, _, _⟩) (v := ?_) rfl (by kernel_rfl) (by kernel_rfl) (by kernel_rfl) (fun _ _ _ h => h) (Or.inl ⟨by rfl, ?_⟩) hHeld ?_
      rotate_left
      · intro w' hSw; go_simp; try with_reducible rfl
      try simp only [Act.put, List.setIfInBounds_toArray, List.set_cons_zero, List.set_cons_succ]
      refine wpAnyH_take (i := 9) (oi := ⟨some 117, _, _, _, _, _⟩) (v := ?_) rfl (by kernel_rfl) (by kernel_rfl) (by kernel_rfl) (fun _ _ _ h => h) (Or.inl ⟨by rfl, ?_⟩) hHeld ?_
      rotate_left
      · intro w' hSw; go_simp; try with_reducible rfl
      try simp only [Act.put, List.setIfInBounds_toArray, List.set_cons_zero, List.set_cons_succ]
      refine wpAnyH_take (i := 11) (oi := ⟨some 119, _, _, _, _, _⟩) (v := ?_) rfl (by kernel_rfl) (by kernel_rfl) (by kernel_rfl) (fun _ _ _ h => h) (Or.inl ⟨by rfl, ?_⟩) hHeld ?_
      rotate_left
      · intro w' hSw; go_simp; try with_reducible rfl
      try simp only [Act.put, List.setIfInBounds_toArray, List.set_cons_zero, List.set_cons_succ]
      refine wpAnyH_take (i := 12) (oi := ⟨some 120, _, _, _, _, _⟩) (v := ?_) rfl (by kernel_rfl) (by kernel_rfl) (by kernel_rfl) (fun _ _ _ h => h) (Or.inl ⟨by rfl, ?_⟩) hHeld ?_
      rotate_left
      · intro w' hSw; go_simp; try with_reducible rfl
      try simp only [Act.put, List.setIfInBounds_toArray, List.set_cons_zero, List.set_cons_succ]
      refine wpAnyH_take (i := 13) (oi := ⟨some 121, _, _, _, _, _⟩) (v := ?_) rfl (by kernel_rfl) (by kernel_rfl) (by kernel_rfl) (fun _ _ _ h => h) (Or.inl ⟨by rfl, ?_⟩) hHeld ?_
      rotate_left
      · intro w' hSw; go_simp; try with_reducible rfl
      try simp only [Act.put, List.setIfInBounds_toArray, List.set_cons_zero, List.set_cons_succ]
      refine wpAnyH_take (i := 14) (oi := ⟨some 122, _, _, _, _, _⟩) (v := ?_) rfl (by kernel_rfl) (by kernel_rfl) (by kernel_rfl) (fun _ _ _ h => h) (Or.inl ⟨by rfl, ?_⟩) hHeld ?_
      rotate_left
      · intro w' hSw; have sx := CC.out w' hSw; go_simp; try with_reducible rfl
      try simp only [Act.put, List.setIfInBounds_toArray, List.set_cons_zero, List.set_cons_succ]
      refine wpAnyH_ready (rs := [10]) (by kernel_rfl) (by simp) ?_
      refine AllReadyH.cons (o := ⟨some 118, _, _, _, _, _⟩) rfl (fun K hK => ?_) AllReadyH.nil
      go_simp
      refine (CT.out _ hHeld).mono ?_
      rintro e w10 ⟨a10, c10, es10, rfl, hE10, hs10, hb10⟩
      have G10 : Below W5.heap.size W5 w10 := hHeld.trans (hb10.mono hHeld.size)
      have HE10 := hide hE10
      have HS10 := hide hs10
      clear hE10 hs10 hb10
      try go_wp2_with fail
      refine hK.out _ _ (G10) (fun hHeld => ?_)
      clear hK K
      try simp only [Act.put, List.setIfInBounds_toArray, List.set_cons_zero, List.set_cons_succ]
      refine wpAnyH_ready (rs := [15]) (by kernel_rfl) (by simp) ?_
      refine AllReadyH.cons (o := ⟨some 123, _, _, _, _, _⟩) rfl (fun K hK => ?_) AllReadyH.nil
      go_simp
      refine (CE.out _ hHeld a10 c10 es10 HE10.out HS10.out).mono ?_
      rintro e w15 ⟨rfl, hb15⟩
      have G15 : Below W5.heap.size W5 w15 := hHeld.trans (hb15.mono hHeld.size)
      clear hb15
      try go_wp2_with fail
      refine hK.out _ _ (G15) (fun hHeld => ?_)
      clear hK K
      try simp only [Act.put, List.setIfInBounds_toArray, List.set_cons_zero, List.set_cons_succ]
      refine wpAnyH_take (i := 16) (oi := ⟨some 124, _, _, _, _, _⟩) (v := ?_) rfl (by kernel_rfl) (by kernel_rfl) (by kernel_rfl) (fun _ _ _ h => h) (Or.inl ⟨by rfl, ?_⟩) hHeld ?_
      rotate_left
      · intro w' hSw; go_simp; try with_reducible rfl
      try simp only [Act.put, List.setIfInBounds_toArray, List.set_cons_zero, List.set_cons_succ]
      refine wpAnyH_take (i := 17) (oi := ⟨some 125, _, _, _, _, _⟩) (v := ?_) rfl (by kernel_rfl) (by kernel_rfl) (by kernel_rfl) (fun _ _ _ h => h) (Or.inl ⟨by rfl, ?_⟩) hHeld ?_
      rotate_left
      · intro w' hSw; go_simp; try with_reducible rfl
      try simp only [Act.put, List.setIfInBounds_toArray, List.set_cons_zero, List.set_cons_succ]
      refine wpAnyH_take (i := 18) (oi := ⟨some 126, _, _, _, _, _⟩) (v := ?_) rfl (by kernel_rfl) (by kernel_rfl) (by kernel_rfl) (fun _ _ _ h => h) (Or.inl ⟨by rfl, ?_⟩) hHeld ?_
      rotate_left
      · intro w' hSw; go_simp; try with_reducible rfl
      try simp only [Act.put, List.setIfInBounds_toArray, List.set_cons_zero, List.set_cons_succ]
      refine wpAnyH_take (i := 19) (oi := ⟨some 127, _, _, _, _, _⟩) (v := ?_) rfl (by kernel_rfl) (by kernel_rfl) (by kernel_rfl) (fun _ _ _ h => h) (Or.inl ⟨by rfl, ?_⟩) hHeld ?_
      rotate_left
      · intro w' hSw; go_simp; try with_reducible rfl
      try simp only [Act.put, List.setIfInBounds_toArray, List.set_cons_zero, List.set_cons_succ]
      refine wpAnyH_take (i := 22) (oi := ⟨some 130, _, _, _, _, _⟩) (v := ?_) rfl (by kernel_rfl) (by kernel_rfl) (by kernel_rfl) (fun _ _ _ h => h) (Or.inl ⟨by rfl, ?_⟩) hHeld ?_
      rotate_left
      · intro w' hSw; go_simp; try with_reducible rfl
      try simp only [Act.put, List.setIfInBounds_toArray, List.set_cons_zero, List.set_cons_succ]
      refine wpAnyH_take (i := 23) (oi := ⟨some 131, _, _, _, _, _⟩) (v := ?_) rfl (by kernel_rfl) (by kernel_rfl) (by kernel_rfl) (fun _ _ _ h => h) (Or.inl ⟨by rfl, ?_⟩) hHeld ?_
      rotate_left
      · intro w' hSw; go_simp; try with_reducible rfl
      try simp only [Act.put, List.setIfInBounds_toArray, List.set_cons_zero, List.set_cons_succ]
      refine wpAnyH_ready (rs := [20]) (by kernel_rfl) (by simp) ?_
      refine AllReadyH.cons (o := ⟨some 128, _, _, _, _, _⟩) rfl (fun K hK => ?_) AllReadyH.nil
      go_simp
      refine (CO.out _ hHeld).mono ?_
      rintro e w20 ⟨a20, l20, c20, rfl, hr20, hb20⟩
      have s20 := hr20.str
      have G20 : Below W5.heap.size W5 w20 := hHeld.trans (hb20.mono hHeld.size)
      try go_wp2_with fail
      refine hK.out _ _ (G20) (fun hHeld => ?_)
      clear hK K
      try simp only [Act.put, List.setIfInBounds_toArray, List.set_cons_zero, List.set_cons_succ]
      refine wpAnyH_ready (rs := [21, 24]) (by kernel_rfl) (by simp) ?_
      refine AllReadyH.cons (o := ⟨some 129, _, _, _, _, _⟩) rfl (fun K hK => ?_) (AllReadyH.cons (o := ⟨some 132, _, _, _, _, _⟩) rfl (fun K hK => ?_) AllReadyH.nil)
      · go_simp
        refine hK.out _ _ (hHeld) (fun hHeld => ?_)
        clear hK K
        try simp only [Act.put, List.setIfInBounds_toArray, List.set_cons_zero, List.set_cons_succ]
        refine wpAnyH_ready (rs := [24]) (by kernel_rfl) (by simp) ?_
        refine AllReadyH.cons (o := ⟨some 132, _, _, _, _, _⟩) rfl (fun K hK => ?_) AllReadyH.nil
        go_simp
        refine (CRO.out _ hHeld).mono ?_
        rintro e w24 ⟨a24, l24, c24, rfl, hr24, hb24⟩
        have s24 := hr24.str
        have G24 : Below W5.heap.size W5 w24 := hHeld.trans (hb24.mono hHeld.size)
        try go_wp2_with fail
        refine hK.out _ _ (G24) (fun hHeld => ?_)
        clear hK K
        try simp only [Act.put, List.setIfInBounds_toArray, List.set_cons_zero, List.set_cons_succ]
        refine wpAnyH_ready (rs := [25]) (by kernel_rfl) (by simp) ?_
        refine AllReadyH.cons (o := ⟨some 133, _, _, _, _, _⟩) rfl (fun K hK => ?_) AllReadyH.nil
        go_simp
        refine hK.out _ _ (hHeld) (fun hHeld => ?_)
        clear hK K
        try simp only [Act.put, List.setIfInBounds_toArray, List.set_cons_zero, List.set_cons_succ]
        refine wpAnyH_take (i := 26) (oi := ⟨some 134, _, _, _, _, _⟩) (v := ?_) rfl (by kernel_rfl) (by kernel_rfl) (by kernel_rfl) (fun _ _ _ h => h) (Or.inl ⟨by rfl, ?_⟩) hHeld ?_
        rotate_left
        · intro w' hSw; go_simp; try with_reducible rfl
        try simp only [Act.put, List.setIfInBounds_toArray, List.set_cons_zero, List.set_cons_succ]
        refine wpAnyH_take (i := 27) (oi := ⟨some 135, _, _, _, _, _⟩) (v := ?_) rfl (by kernel_rfl) (by kernel_rfl) (by kernel_rfl) (fun _ _ _ h => h) (Or.inl ⟨by rfl, ?_⟩) hHeld ?_
        rotate_left
        · intro w' hSw; go_simp; try with_reducible rfl
        try simp only [Act.put, List.setIfInBounds_toArray, List.set_cons_zero, List.set_cons_succ]
        refine wpAnyH_take (i := 28) (oi := ⟨some 136, _, _, _, _, _⟩) (v := ?_) rfl (by kernel_rfl) (by kernel_rfl) (by kernel_rfl) (fun _ _ _ h => h) (Or.inl ⟨by rfl, ?_⟩) hHeld ?_
        rotate_left
        · intro w' hSw; go_simp; try with_reducible rfl
        try simp only [Act.put, List.setIfInBounds_toArray, List.set_cons_zero, List.set_cons_succ]
        refine wpAnyH_take (i := 29) (oi := ⟨some 137, _, _, _, _, _⟩) (v := ?_) rfl (by kernel_rfl) (by kernel_rfl) (by kernel_rfl) (fun _ _ _ h => h) (Or.inl ⟨by rfl, ?_⟩) hHeld ?_
        rotate_left
        · intro w' hSw; go_simp; try with_reducible rfl
        try simp only [Act.put, List.setIfInBounds_toArray, List.set_cons_zero, List.set_cons_succ]
        refine wpAnyH_take (i := 32) (oi := ⟨some 140, _, _, _, _, _⟩) (v := ?_) rfl (by kernel_rfl) (by kernel_rfl) (by kernel_rfl) (fun _ _ _ h => h) (Or.inl ⟨by rfl, ?_⟩) hHeld ?_
        rotate_left
        · intro w' hSw; go_simp; try with_reducible rfl
        try simp only [Act.put, List.setIfInBounds_toArray, List.set_cons_zero, List.set_cons_succ]
        refine wpAnyH_ready (rs := [30]) (by kernel_rfl) (by simp) ?_
        refine AllReadyH.cons (o := ⟨some 138, _, _, _, _, _⟩) rfl (fun K hK => ?_) AllReadyH.nil
        go_simp
        refine (CP.out _ hHeld).mono ?_
        rintro e w30 ⟨a30, l30, c30, rfl, hr30, hb30⟩
        have s30 := hr30.str
        have G30 : Below W5.heap.size W5 w30 := hHeld.trans (hb30.mono hHeld.size)
        try go_wp2_with fail
        refine hK.out _ _ (G30) (fun hHeld => ?_)
        clear hK K
        try simp only [Act.put, List.setIfInBounds_toArray, List.set_cons_zero, List.set_cons_succ]
        refine wpAnyH_ready (rs := [31, 33]) (by kernel_rfl) (by simp) ?_
        refine AllReadyH.cons (o := ⟨some 139, _, _, _, _, _⟩) rfl (fun K hK => ?_) (AllReadyH.cons (o := ⟨some 141, _, _, _, _, _⟩) rfl (fun K hK => ?_) AllReadyH.nil)
        · go_simp
          refine hK.out _ _ (hHeld) (fun hHeld => ?_)
          clear hK K
          try simp only [Act.put, List.setIfInBounds_toArray, List.set_cons_zero, List.set_cons_succ]
          refine wpAnyH_ready (rs := [33]) (by kernel_rfl) (by simp) ?_
          refine AllReadyH.cons (o := ⟨some 141, _, _, _, _, _⟩) rfl (fun K hK => ?_) AllReadyH.nil
          go_simp
          refine (CRP.out _ hHeld).mono ?_
          rintro e w33 ⟨a33, l33, c33, rfl, hr33, hb33⟩
          have s33 := hr33.str
          have G33 : Below W5.heap.size W5 w33 := hHeld.trans (hb33.mono hHeld.size)
          try go_wp2_with fail
          refine hK.out _ _ (G33) (fun hHeld => ?_)
          clear hK K
          try simp only [Act.put, List.setIfInBounds_toArray, List.set_cons_zero, List.set_cons_succ]
          refine wpAnyH_ready (rs := [34]) (by kernel_rfl) (by simp) ?_
          refine AllReadyH.cons (o := ⟨some 142, _, _, _, _, _⟩) rfl (fun K hK => ?_) AllReadyH.nil
          go_simp
          refine hK.out _ _ (hHeld) (fun hHeld => ?_)
          clear hK K
          try simp only [Act.put, List.setIfInBounds_toArray, List.set_cons_zero, List.set_cons_succ]
          refine wpAnyH_take (i := 35) (oi := ⟨some 143, _, _, _, _, _⟩) (v := ?_) rfl (by kernel_rfl) (by kernel_rfl) (by kernel_rfl) (fun _ _ _ h => h) (Or.inl ⟨by rfl, ?_⟩) hHeld ?_
          rotate_left
          · intro w' hSw; go_simp; try with_reducible rfl
          try simp only [Act.put, List.setIfInBounds_toArray, List.set_cons_zero, List.set_cons_succ]
          refine wpAnyH_take (i := 36) (oi := ⟨some 144, _, _, _, _, _⟩) (v := ?_) rfl (by kernel_rfl) (by kernel_rfl) (by kernel_rfl) (fun _ _ _ h => h) (Or.inl ⟨by rfl, ?_⟩) hHeld ?_
          rotate_left
          · intro w' hSw; go_simp; try with_reducible rfl
          try simp only [Act.put, List.setIfInBounds_toArray, List.set_cons_zero, List.set_cons_succ]
          refine wpAnyH_take (i := 37) (oi := ⟨some 6, _, _, _, _, _⟩) (v := ?_) rfl (by kernel_rfl) (by kernel_rfl) (by kernel_rfl) (fun _ _ _ h => h) (Or.inl ⟨by rfl, ?_⟩) hHeld ?_
          rotate_left
          · intro w' hSw; go_simp; try with_reducible rfl
          try simp only [Act.put, List.setIfInBounds_toArray, List.set_cons_zero, List.set_cons_succ]
          refine wpAnyH_done (by kernel_rfl) ?_ _
          go_wp2
          go_ret
          exact ⟨rfl, HBE.out.trans (hHeld.mono HBE.out.size)⟩
        · go_simp
          refine (CRP.out _ hHeld).mono ?_
          rintro e w33 ⟨a33, l33, c33, rfl, hr33, hb33⟩
          have s33 := hr33.str
          have G33 : Below W5.heap.size W5 w33 := hHeld.trans (hb33.mono hHeld.size)
          have s3033 := (hr30.below hb33).str
          try go_wp2_with fail
          refine hK.out _ _ (G33) (fun hHeld => ?_)
          clear hK K
          try simp only [Act.put, List.setIfInBounds_toArray, List.set_cons_zero, List.set_cons_succ]
          refine wpAnyH_ready (rs := [31, 34]) (by kernel_rfl) (by simp) ?_
          refine AllReadyH.cons (o := ⟨some 139, _, _, _, _, _⟩) rfl (fun K hK => ?_) (AllReadyH.cons (o := ⟨some 142, _, _, _, _, _⟩) rfl (fun K hK => ?_) AllReadyH.nil)
          · go_simp
            refine hK.out _ _ (hHeld) (fun hHeld => ?_)
            clear hK K
            try simp only [Act.put, List.setIfInBounds_toArray, List.set_cons_zero, List.set_cons_succ]
            refine wpAnyH_ready (rs := [34]) (by kernel_rfl) (by simp) ?_
            refine AllReadyH.cons (o := ⟨some 142, _, _, _, _, _⟩) rfl (fun K hK => ?_) AllReadyH.nil
            go_simp
            refine hK.out _ _ (hHeld) (fun hHeld => ?_)
            clear hK K
            try simp only [Act.put, List.setIfInBounds_toArray, List.set_cons_zero, List.set_cons_succ]
            refine wpAnyH_take (i := 35) (oi := ⟨some 143, _, _, _, _, _⟩) (v := ?_) rfl (by kernel_rfl) (by kernel_rfl) (by kernel_rfl) (fun _ _ _ h => h) (Or.inl ⟨by rfl, ?_⟩) hHeld ?_
            rotate_left
            · intro w' hSw; go_simp; try with_reducible rfl
            try simp only [Act.put, List.setIfInBounds_toArray, List.set_cons_zero, List.set_cons_succ]
            refine wpAnyH_take (i := 36) (oi := ⟨some 144, _, _, _, _, _⟩) (v := ?_) rfl (by kernel_rfl) (by kernel_rfl) (by kernel_rfl) (fun _ _ _ h => h) (Or.inl ⟨by rfl, ?_⟩) hHeld ?_
            rotate_left
            · intro w' hSw; go_simp; try with_reducible rfl
            try simp only [Act.put, List.setIfInBounds_toArray, List.set_cons_zero, List.set_cons_succ]
            refine wpAnyH_take (i := 37) (oi := ⟨some 6, _, _, _, _, _⟩) (v := ?_) rfl (by kernel_rfl) (by kernel_rfl) (by kernel_rfl) (fun _ _ _ h => h) (Or.inl ⟨by rfl, ?_⟩) hHeld ?_
            rotate_left
            · intro w' hSw; go_simp; try with_reducible rfl
            try simp only [Act.put, List.setIfInBounds_toArray, List.set_cons_zero, List.set_cons_succ]
            refine wpAnyH_done (by kernel_rfl) ?_ _
            go_wp2
            go_ret
            exact ⟨rfl, HBE.out.trans (hHeld.mono HBE.out.size)⟩
          · go_simp
            refine hK.out _ _ (hHeld) (fun hHeld => ?_)
            clear hK K
            try simp only [Act.put, List.setIfInBounds_toArray, List.set_cons_zero, List.set_cons_succ]
            refine wpAnyH_ready (rs := [31]) (by kernel_rfl) (by simp) ?_
            refine AllReadyH.cons (o := ⟨some 139, _, _, _, _, _⟩) rfl (fun K hK => ?_) AllReadyH.nil
            go_simp
            refine hK.out _ _ (hHeld) (fun hHeld => ?_)
            clear hK K
            try simp only [Act.put, List.setIfInBounds_toArray, List.set_cons_zero, List.set_cons_succ]
            refine wpAnyH_take (i := 35) (oi := ⟨some 143, _, _, _, _, _⟩) (v := ?_) rfl (by kernel_rfl) (by kernel_rfl) (by kernel_rfl) (fun _ _ _ h => h) (Or.inl ⟨by rfl, ?_⟩) hHeld ?_
            rotate_left
            · intro w' hSw; go_simp; try with_reducible rfl
            try simp only [Act.put, List.setIfInBounds_toArray, List.set_cons_zero, List.set_cons_succ]
            refine wpAnyH_take (i := 36) (oi := ⟨some 144, _, _, _, _, _⟩) (v := ?_) rfl (by kernel_rfl) (by kernel_rfl) (by kernel_rfl) (fun _ _ _ h => h) (Or.inl ⟨by rfl, ?_⟩) hHeld ?_
            rotate_left
            · intro w' hSw; go_simp; try with_reducible rfl
            try simp only [Act.put, List.setIfInBounds_toArray, List.set_cons_zero, List.set_cons_succ]
            refine wpAnyH_take (i := 37) (oi := ⟨some 6, _, _, _, _, _⟩) (v := ?_) rfl (by kernel_rfl) (by kernel_rfl) (by kernel_rfl) (fun _ _ _ h => h) (Or.inl ⟨by rfl, ?_⟩) hHeld ?_
            rotate_left
            · intro w' hSw; go_simp; try with_reducible rfl
            try simp only [Act.put, List.setIfInBounds_toArray, List.set_cons_zero, List.set_cons_succ]
            refine wpAnyH_done (by kernel_rfl) ?_ _
            go_wp2
            go_ret
            exact ⟨rfl, HBE.out.trans (hHeld.mono HBE.out.size)⟩
      · go_simp
        refine (CRO.out _ hHeld).mono ?_
        rintro e w24 ⟨a24, l24, c24, rfl, hr24, hb24⟩
        have s24 := hr24.str
        have G24 : Below W5.heap.size W5 w24 := hHeld.trans (hb24.mono hHeld.size)
        have s2024 := (hr20.below hb24).str
        try go_wp2_with fail
        refine hK.out _ _ (G24) (fun hHeld => ?_)
        clear hK K
        try simp only [Act.put, List.setIfInBounds_toArray, List.set_cons_zero, List.set_cons_succ]
        refine wpAnyH_ready (rs := [21, 25]) (by kernel_rfl) (by simp) ?_
        refine AllReadyH.cons (o := ⟨some 129, _, _, _, _, _⟩) rfl (fun K hK => ?_) (AllReadyH.cons (o := ⟨some 133, _, _, _, _, _⟩) rfl (fun K hK => ?_) AllReadyH.nil)
        · go_simp
          refine hK.out _ _ (hHeld) (fun hHeld => ?_)
          clear hK K
          try simp only [Act.put, List.setIfInBounds_toArray, List.set_cons_zero, List.set_cons_succ]
          refine wpAnyH_ready (rs := [25]) (by kernel_rfl) (by simp) ?_
          refine AllReadyH.cons (o := ⟨some 133, _, _, _, _, _⟩) rfl (fun K hK => ?_) AllReadyH.nil
          go_simp
          refine hK.out _ _ (hHeld) (fun hHeld => ?_)
          clear hK K
          try simp only [Act.put, List.setIfInBounds_toArray, List.set_cons_zero, List.set_cons_succ]
          refine wpAnyH_take (i := 26) (oi := ⟨some 134, _, _, _, _, _⟩) (v := ?_) rfl (by kernel_rfl) (by kernel_rfl) (by kernel_rfl) (fun _ _ _ h => h) (Or.inl ⟨by rfl, ?_⟩) hHeld ?_
          rotate_left
          · intro w' hSw; go_simp; try with_reducible rfl
          try simp only [Act.put, List.setIfInBounds_toArray, List.set_cons_zero, List.set_cons_succ]
          refine wpAnyH_take (i := 27) (oi := ⟨some 135, _, _, _, _, _⟩) (v := ?_) rfl (by kernel_rfl) (by kernel_rfl) (by kernel_rfl) (fun _ _ _ h => h) (Or.inl ⟨by rfl, ?_⟩) hHeld ?_
          rotate_left
          · intro w' hSw; go_simp; try with_reducible rfl
          try simp only [Act.put, List.setIfInBounds_toArray, List.set_cons_zero, List.set_cons_succ]
          refine wpAnyH_take (i := 28) (oi := ⟨some 136, _, _, _, _, _⟩) (v := ?_) rfl (by kernel_rfl) (by kernel_rfl) (by kernel_rfl) (fun _ _ _ h => h) (Or.inl ⟨by rfl, ?_⟩) hHeld ?_
          rotate_left
          · intro w' hSw; go_simp; try with_reducible rfl
          try simp only [Act.put, List.setIfInBounds_toArray, List.set_cons_zero, List.set_cons_succ]
          refine wpAnyH_take (i := 29) (oi := ⟨some 137, _, _, _, _, _⟩) (v := ?_) rfl (by kernel_rfl) (by kernel_rfl) (by kernel_rfl) (fun _ _ _ h => h) (Or.inl ⟨by rfl, ?_⟩) hHeld ?_
          rotate_left
          · intro w' hSw; go_simp; try with_reducible rfl
          try simp only [Act.put, List.setIfInBounds_toArray, List.set_cons_zero, List.set_cons_succ]
          refine wpAnyH_take (i := 32) (oi := ⟨some 140, _, _, _, _, _⟩) (v := ?_) rfl (by kernel_rfl) (by kernel_rfl) (by kernel_rfl) (fun _ _ _ h => h) (Or.inl ⟨by rfl, ?_⟩) hHeld ?_
          rotate_left
          · intro w' hSw; go_simp; try with_reducible rfl
          try simp only [Act.put, List.setIfInBounds_toArray, List.set_cons_zero, List.set_cons_succ]
          refine wpAnyH_ready (rs := [30]) (by kernel_rfl) (by simp) ?_
          refine AllReadyH.cons (o := ⟨some 138, _, _, _, _, _⟩) rfl (fun K hK => ?_) AllReadyH.nil
          go_simp
          refine (CP.out _ hHeld).mono ?_
          rintro e w30 ⟨a30, l30, c30, rfl, hr30, hb30⟩
          have s30 := hr30.str
          have G30 : Below W5.heap.size W5 w30 := hHeld.trans (hb30.mono hHeld.size)
          try go_wp2_with fail
          refine hK.out _ _ (G30) (fun hHeld => ?_)
          clear hK K
          try simp only [Act.put, List.setIfInBounds_toArray, List.set_cons_zero, List.set_cons_succ]
          refine wpAnyH_ready (rs := [31, 33]) (by kernel_rfl) (by simp) ?_
          refine AllReadyH.cons (o := ⟨some 139, _, _, _, _, _⟩) rfl (fun K hK => ?_) (AllReadyH.cons (o := ⟨some 141, _, _, _, _, _⟩) rfl (fun K hK => ?_) AllReadyH.nil)
          · go_simp
            refine hK.out _ _ (hHeld) (fun hHeld => ?_)
            clear hK K
            try simp only [Act.put, List.setIfInBounds_toArray, List.set_cons_zero, List.set_cons_succ]
            refine wpAnyH_ready (rs := [33]) (by kernel_rfl) (by simp) ?_
            refine AllReadyH.cons (o := ⟨some 141, _, _, _, _, _⟩) rfl (fun K hK => ?_) AllReadyH.nil
            go_simp
            refine (CRP.out _ hHeld).mono ?_
            rintro e w33 ⟨a33, l33, c33, rfl, hr33, hb33⟩
            have s33 := hr33.str
            have G33 : Below W5.heap.size W5 w33 := hHeld.trans (hb33.mono hHeld.size)
            try go_wp2_with fail
            refine hK.out _ _ (G33) (fun hHeld => ?_)
            clear hK K
            try simp only [Act.put, List.setIfInBounds_toArray, List.set_cons_zero, List.set_cons_succ]
            refine wpAnyH_ready (rs := [34]) (by kernel_rfl) (by simp) ?_
            refine AllReadyH.cons (o := ⟨some 142, _, _, _, _, _⟩) rfl (fun K hK => ?_) AllReadyH.nil
            go_simp
            refine hK.out _ _ (hHeld) (fun hHeld => ?_)
            clear hK K
            try simp only [Act.put, List.setIfInBounds_toArray, List.set_cons_zero, List.set_cons_succ]
            refine wpAnyH_take (i := 35) (oi := ⟨some 143, _, _, _, _, _⟩) (v := ?_) rfl (by kernel_rfl) (by kernel_rfl) (by kernel_rfl) (fun _ _ _ h => h) (Or.inl ⟨by rfl, ?_⟩) hHeld ?_
            rotate_left
            · intro w' hSw; go_simp; try with_reducible rfl
            try simp only [Act.put, List.setIfInBounds_toArray, List.set_cons_zero, List.set_cons_succ]
            refine wpAnyH_take (i := 36) (oi := ⟨some 144, _, _, _, _, _⟩) (v := ?_) rfl (by kernel_rfl) (by kernel_rfl) (by kernel_rfl) (fun _ _ _ h => h) (Or.inl ⟨by rfl, ?_⟩) hHeld ?_
            rotate_left
            · intro w' hSw; go_simp; try with_reducible rfl
            try simp only [Act.put, List.setIfInBounds_toArray, List.set_cons_zero, List.set_cons_succ]
            refine wpAnyH_take (i := 37) (oi := ⟨some 6, _, _, _, _, _⟩) (v := ?_) rfl (by kernel_rfl) (by kernel_rfl) (by kernel_rfl) (fun _ _ _ h => h) (Or.inl ⟨by rfl, ?_⟩) hHeld ?_
            rotate_left
            · intro w' hSw; go_simp; try with_reducible rfl
            try simp only [Act.put, List.setIfInBounds_toArray, List.set_cons_zero, List.set_cons_succ]
            refine wpAnyH_done (by kernel_rfl) ?_ _
            go_wp2
            go_ret
            exact ⟨rfl, HBE.out.trans (hHeld.mono HBE.out.size)⟩
          · go_simp
            refine (CRP.out _ hHeld).mono ?_
            rintro e w33 ⟨a33, l33, c33, rfl, hr33, hb33⟩
            have s33 := hr33.str
            have G33 : Below W5.heap.size W5 w33 := hHeld.trans (hb33.mono hHeld.size)
            have s3033 := (hr30.below hb33).str
            try go_wp2_with fail
            refine hK.out _ _ (G33) (fun hHeld => ?_)
            clear hK K
            try simp only [Act.put, List.setIfInBounds_toArray, List.set_cons_zero, List.set_cons_succ]
            refine wpAnyH_ready (rs := [31, 34]) (by kernel_rfl) (by simp) ?_
            refine AllReadyH.cons (o := ⟨some 139, _, _, _, _, _⟩) rfl (fun K hK => ?_) (AllReadyH.cons (o := ⟨some 142, _, _, _, _, _⟩) rfl (fun K hK => ?_) AllReadyH.nil)
            · go_simp
              refine hK.out _ _ (hHeld) (fun hHeld => ?_)
              clear hK K
              try simp only [Act.put, List.setIfInBounds_toArray, List.set_cons_zero, List.set_cons_succ]
              refine wpAnyH_ready (rs := [34]) (by kernel_rfl) (by simp) ?_
              refine AllReadyH.cons (o := ⟨some 142, _, _, _, _, _⟩) rfl (fun K hK => ?_) AllReadyH.nil
              go_simp
              refine hK.out _ _ (hHeld) (fun hHeld => ?_)
              clear hK K
              try simp only [Act.put, List.setIfInBounds_toArray, List.set_cons_zero, List.set_cons_succ]
              refine wpAnyH_take (i := 35) (oi := ⟨some 143, _, _, _, _, _⟩) (v := ?_) rfl (by kernel_rfl) (by kernel_rfl) (by kernel_rfl) (fun _ _ _ h => h) (Or.inl ⟨by rfl, ?_⟩) hHeld ?_
              rotate_left
              · intro w' hSw; go_simp; try with_reducible rfl
              try simp only [Act.put, List.setIfInBounds_toArray, List.set_cons_zero, List.set_cons_succ]
              refine wpAnyH_take (i := 36) (oi := ⟨some 144, _, _, _, _, _⟩) (v := ?_) rfl (by kernel_rfl) (by kernel_rfl) (by kernel_rfl) (fun _ _ _ h => h) (Or.inl ⟨by rfl, ?_⟩) hHeld ?_
              rotate_left
              · intro w' hSw; go_simp; try with_reducible rfl
              try simp only [Act.put, List.setIfInBounds_toArray, List.set_cons_zero, List.set_cons_succ]
              refine wpAnyH_take (i := 37) (oi := ⟨some 6, _, _, _, _, _⟩) (v := ?_) rfl (by kernel_rfl) (by kernel_rfl) (by kernel_rfl) (fun _ _ _ h => h) (Or.inl ⟨by rfl, ?_⟩) hHeld ?_
              rotate_left
              · intro w' hSw; go_simp; try with_reducible rfl
              try simp only [Act.put, List.setIfInBounds_toArray, List.set_cons_zero, List.set_cons_succ]
              refine wpAnyH_done (by kernel_rfl) ?_ _
              go_wp2
              go_ret
              exact ⟨rfl, HBE.out.trans (hHeld.mono HBE.out.size)⟩
            · go_simp
              refine hK.out _ _ (hHeld) (fun hHeld => ?_)
              clear hK K
              try simp only [Act.put, List.setIfInBounds_toArray, List.set_cons_zero, List.set_cons_succ]
              refine wpAnyH_ready (rs := [31]) (by kernel_rfl) (by simp) ?_
              refine AllReadyH.cons (o := ⟨some 139, _, _, _, _, _⟩) rfl (fun K hK => ?_) AllReadyH.nil
              go_simp
              refine hK.out _ _ (hHeld) (fun hHeld => ?_)
              clear hK K
              try simp only [Act.put, List.setIfInBounds_toArray, List.set_cons_zero, List.set_cons_succ]
              refine wpAnyH_take (i := 35) (oi := ⟨some 143, _, _, _, _, _⟩) (v := ?_) rfl (by kernel_rfl) (by kernel_rfl) (by kernel_rfl) (fun _ _ _ h => h) (Or.inl ⟨by rfl, ?_⟩) hHeld ?_
              rotate_left
              · intro w' hSw; go_simp; try with_reducible rfl
              try simp only [Act.put, List.setIfInBounds_toArray, List.set_cons_zero, List.set_cons_succ]
              refine wpAnyH_take (i := 36) (oi := ⟨some 144, _, _, _, _, _⟩) (v := ?_) rfl (by kernel_rfl) (by kernel_rfl) (by kernel_rfl) (fun _ _ _ h => h) (Or.inl ⟨by rfl, ?_⟩) hHeld ?_
              rotate_left
              · intro w' hSw; go_simp; try with_reducible rfl
              try simp only [Act.put, List.setIfInBounds_toArray, List.set_cons_zero, List.set_cons_succ]
              refine wpAnyH_take (i := 37) (oi := ⟨some 6, _, _, _, _, _⟩) (v := ?_) rfl (by kernel_rfl) (by kernel_rfl) (by kernel_rfl) (fun _ _ _ h => h) (Or.inl ⟨by rfl, ?_⟩) hHeld ?_
              rotate_left
              · intro w' hSw; go_simp; try with_reducible rfl
              try simp only [Act.put, List.setIfInBounds_toArray, List.set_cons_zero, List.set_cons_succ]
              refine wpAnyH_done (by kernel_rfl) ?_ _
              go_wp2
              go_ret
              exact ⟨rfl, HBE.out.trans (hHeld.mono HBE.out.size)⟩
        · go_simp
          refine hK.out _ _ (hHeld) (fun hHeld => ?_)
          clear hK K
          try simp only [Act.put, List.setIfInBounds_toArray, List.set_cons_zero, List.set_cons_succ]
          refine wpAnyH_ready (rs := [21]) (by kernel_rfl) (by simp) ?_
          refine AllReadyH.cons (o := ⟨some 129, _, _, _, _, _⟩) rfl (fun K hK => ?_) AllReadyH.nil
          go_simp
          refine hK.out _ _ (hHeld) (fun hHeld => ?_)
          clear hK K
          try simp only [Act.put, List.setIfInBounds_toArray, List.set_cons_zero, List.set_cons_succ]
          refine wpAnyH_take (i := 26) (oi := ⟨some 134, _, _, _, _, _⟩) (v := ?_) rfl (by kernel_rfl) (by kernel_rfl) (by kernel_rfl) (fun _ _ _ h => h) (Or.inl ⟨by rfl, ?_⟩) hHeld ?_
          rotate_left
          · intro w' hSw; go_simp; try with_reducible rfl
          try simp only [Act.put, List.setIfInBounds_toArray, List.set_cons_zero, List.set_cons_succ]
          refine wpAnyH_take (i := 27) (oi := ⟨some 135, _, _, _, _, _⟩) (v := ?_) rfl (by kernel_rfl) (by kernel_rfl) (by kernel_rfl) (fun _ _ _ h => h) (Or.inl ⟨by rfl, ?_⟩) hHeld ?_
          rotate_left
          · intro w' hSw; go_simp; try with_reducible rfl
          try simp only [Act.put, List.setIfInBounds_toArray, List.set_cons_zero, List.set_cons_succ]
          refine wpAnyH_take (i := 28) (oi := ⟨some 136, _, _, _, _, _⟩) (v := ?_) rfl (by kernel_rfl) (by kernel_rfl) (by kernel_rfl) (fun _ _ _ h => h) (Or.inl ⟨by rfl, ?_⟩) hHeld ?_
          rotate_left
          · intro w' hSw; go_simp; try with_reducible rfl
          try simp only [Act.put, List.setIfInBounds_toArray, List.set_cons_zero, List.set_cons_succ]
          refine wpAnyH_take (i := 29) (oi := ⟨some 137, _, _, _, _, _⟩) (v := ?_) rfl (by kernel_rfl) (by kernel_rfl) (by kernel_rfl) (fun _ _ _ h => h) (Or.inl ⟨by rfl, ?_⟩) hHeld ?_
          rotate_left
          · intro w' hSw; go_simp; try with_reducible rfl
          try simp only [Act.put, List.setIfInBounds_toArray, List.set_cons_zero, List.set_cons_succ]
          refine wpAnyH_take (i := 32) (oi := ⟨some 140, _, _, _, _, _⟩) (v := ?_) rfl (by kernel_rfl) (by kernel_rfl) (by kernel_rfl) (fun _ _ _ h => h) (Or.inl ⟨by rfl, ?_⟩) hHeld ?_
          rotate_left
          · intro w' hSw; go_simp; try with_reducible rfl
          try simp only [Act.put, List.setIfInBounds_toArray, List.set_cons_zero, List.set_cons_succ]
          refine wpAnyH_ready (rs := [30]) (by kernel_rfl) (by simp) ?_
          refine AllReadyH.cons (o := ⟨some 138, _, _, _, _, _⟩) rfl (fun K hK => ?_) AllReadyH.nil
          go_simp
          refine (CP.out _ hHeld).mono ?_
          rintro e w30 ⟨a30, l30, c30, rfl, hr30, hb30⟩
          have s30 := hr30.str
          have G30 : Below W5.heap.size W5 w30 := hHeld.trans (hb30.mono hHeld.size)
          try go_wp2_with fail
          refine hK.out _ _ (G30) (fun hHeld => ?_)
          clear hK K
          try simp only [Act.put, List.setIfInBounds_toArray, List.set_cons_zero, List.set_cons_succ]
          refine wpAnyH_ready (rs := [31, 33]) (by kernel_rfl) (by simp) ?_
          refine AllReadyH.cons (o := ⟨some 139, _, _, _, _, _⟩) rfl (fun K hK => ?_) (AllReadyH.cons (o := ⟨some 141, _, _, _, _, _⟩) rfl (fun K hK => ?_) AllReadyH.nil)
          · go_simp
            refine hK.out _ _ (hHeld) (fun hHeld => ?_)
            clear hK K
            try simp only [Act.put, List.setIfInBounds_toArray, List.set_cons_zero, List.set_cons_succ]
            refine wpAnyH_ready (rs := [33]) (by kernel_rfl) (by simp) ?_
            refine AllReadyH.cons (o := ⟨some 141, _, _, _, _, _⟩) rfl (fun K hK => ?_) AllReadyH.nil
            go_simp
            refine (CRP.out _ hHeld).mono ?_
            rintro e w33 ⟨a33, l33, c33, rfl, hr33, hb33⟩
            have s33 := hr33.str
            have G33 : Below W5.heap.size W5 w33 := hHeld.trans (hb33.mono hHeld.size)
            try go_wp2_with fail
            refine hK.out _ _ (G33) (fun hHeld => ?_)
            clear hK K
            try simp only [Act.put, List.setIfInBounds_toArray, List.set_cons_zero, List.set_cons_succ]
            refine wpAnyH_ready (rs := [34]) (by kernel_rfl) (by simp) ?_
            refine AllReadyH.cons (o := ⟨some 142, _, _, _, _, _⟩) rfl (fun K hK => ?_) AllReadyH.nil
            go_simp
            refine hK.out _ _ (hHeld) (fun hHeld => ?_)
            clear hK K
            try simp only [Act.put, List.setIfInBounds_toArray, List.set_cons_zero, List.set_cons_succ]
            refine wpAnyH_take (i := 35) (oi := ⟨some 143, _, _, _, _, _⟩) (v := ?_) rfl (by kernel_rfl) (by kernel_rfl) (by kernel_rfl) (fun _ _ _ h => h) (Or.inl ⟨by rfl, ?_⟩) hHeld ?_
            rotate_left
            · intro w' hSw; go_simp; try with_reducible rfl
            try simp only [Act.put, List.setIfInBounds_toArray, List.set_cons_zero, List.set_cons_succ]
            refine wpAnyH_take (i := 36) (oi := ⟨some 144, _, _, _, _, _⟩) (v := ?_) rfl (by kernel_rfl) (by kernel_rfl) (by kernel_rfl) (fun _ _ _ h => h) (Or.inl ⟨by rfl, ?_⟩) hHeld ?_
            rotate_left
            · intro w' hSw; go_simp; try with_reducible rfl
            try simp only [Act.put, List.setIfInBounds_toArray, List.set_cons_zero, List.set_cons_succ]
            refine wpAnyH_take (i := 37) (oi := ⟨some 6, _, _, _, _, _⟩) (v := ?_) rfl (by kernel_rfl) (by kernel_rfl) (by kernel_rfl) (fun _ _ _ h => h) (Or.inl ⟨by rfl, ?_⟩) hHeld ?_
            rotate_left
            · intro w' hSw; go_simp; try with_reducible rfl
            try simp only [Act.put, List.setIfInBounds_toArray, List.set_cons_zero, List.set_cons_succ]
            refine wpAnyH_done (by kernel_rfl) ?_ _
            go_wp2
            go_ret
            exact ⟨rfl, HBE.out.trans (hHeld.mono HBE.out.size)⟩
          · go_simp
            refine (CRP.out _ hHeld).mono ?_
            rintro e w33 ⟨a33, l33, c33, rfl, hr33, hb33⟩
            have s33 := hr33.str
            have G33 : Below W5.heap.size W5 w33 := hHeld.trans (hb33.mono hHeld.size)
            have s3033 := (hr30.below hb33).str
            try go_wp2_with fail
            refine hK.out _ _ (G33) (fun hHeld => ?_)
            clear hK K
            try simp only [Act.put, List.setIfInBounds_toArray, List.set_cons_zero, List.set_cons_succ]
            refine wpAnyH_ready (rs := [31, 34]) (by kernel_rfl) (by simp) ?_
            refine AllReadyH.cons (o := ⟨some 139, _, _, _, _, _⟩) rfl (fun K hK => ?_) (AllReadyH.cons (o := ⟨some 142, _, _, _, _, _⟩) rfl (fun K hK => ?_) AllReadyH.nil)
            · go_simp
              refine hK.out _ _ (hHeld) (fun hHeld => ?_)
              clear hK K
              try simp only [Act.put, List.setIfInBounds_toArray, List.set_cons_zero, List.set_cons_succ]
              refine wpAnyH_ready (rs := [34]) (by kernel_rfl) (by simp) ?_
              refine AllReadyH.cons (o := ⟨some 142, _, _, _, _, _⟩) rfl (fun K hK => ?_) AllReadyH.nil
              go_simp
              refine hK.out _ _ (hHeld) (fun hHeld => ?_)
              clear hK K
              try simp only [Act.put, List.setIfInBounds_toArray, List.set_cons_zero, List.set_cons_succ]
              refine wpAnyH_take (i := 35) (oi := ⟨some 143, _, _, _, _, _⟩) (v := ?_) rfl (by kernel_rfl) (by kernel_rfl) (by kernel_rfl) (fun _ _ _ h => h) (Or.inl ⟨by rfl, ?_⟩) hHeld ?_
              rotate_left
              · intro w' hSw; go_simp; try with_reducible rfl
              try simp only [Act.put, List.setIfInBounds_toArray, List.set_cons_zero, List.set_cons_succ]
              refine wpAnyH_take (i := 36) (oi := ⟨some 144, _, _, _, _, _⟩) (v := ?_) rfl (by kernel_rfl) (by kernel_rfl) (by kernel_rfl) (fun _ _ _ h => h) (Or.inl ⟨by rfl, ?_⟩) hHeld ?_
              rotate_left
              · intro w' hSw; go_simp; try with_reducible rfl
              try simp only [Act.put, List.setIfInBounds_toArray, List.set_cons_zero, List.set_cons_succ]
              refine wpAnyH_take (i := 37) (oi := ⟨some 6, _, _, _, _, _⟩) (v := ?_) rfl (by kernel_rfl) (by kernel_rfl) (by kernel_rfl) (fun _ _ _ h => h) (Or.inl ⟨by rfl, ?_⟩) hHeld ?_
              rotate_left
              · intro w' hSw; go_simp; try with_reducible rfl
              try simp only [Act.put, List.setIfInBounds_toArray, List.set_cons_zero, List.set_cons_succ]
              refine wpAnyH_done (by kernel_rfl) ?_ _
              go_wp2
              go_ret
              exact ⟨rfl, HBE.out.trans (hHeld.mono HBE.out.size)⟩
            · go_simp
              refine hK.out _ _ (hHeld) (fun hHeld => ?_)
              clear hK K
              try simp only [Act.put, List.setIfInBounds_toArray, List.set_cons_zero, List.set_cons_succ]
              refine wpAnyH_ready (rs := [31]) (by kernel_rfl) (by simp) ?_
              refine AllReadyH.cons (o := ⟨some 139, _, _, _, _, _⟩) rfl (fun K hK => ?_) AllReadyH.nil
              go_simp
              refine hK.out _ _ (hHeld) (fun hHeld => ?_)
              clear hK K
              try simp only [Act.put, List.setIfInBounds_toArray, List.set_cons_zero, List.set_cons_succ]
              refine wpAnyH_take (i := 35) (oi := ⟨some 143, _, _, _, _, _⟩) (v := ?_) rfl (by kernel_rfl) (by kernel_rfl) (by kernel_rfl) (fun _ _ _ h => h) (Or.inl ⟨by rfl, ?_⟩) hHeld ?_
              rotate_left
              · intro w' hSw; go_simp; try with_reducible rfl
              try simp only [Act.put, List.setIfInBounds_toArray, List.set_cons_zero, List.set_cons_succ]
              refine wpAnyH_take (i := 36) (oi := ⟨some 144, _, _, _, _, _⟩) (v := ?_) rfl (by kernel_rfl) (by kernel_rfl) (by kernel_rfl) (fun _ _ _ h => h) (Or.inl ⟨by rfl, ?_⟩) hHeld ?_
              rotate_left
              · intro w' hSw; go_simp; try with_reducible rfl
              try simp only [Act.put, List.setIfInBounds_toArray, List.set_cons_zero, List.set_cons_succ]
              refine wpAnyH_take (i := 37) (oi := ⟨some 6, _, _, _, _, _⟩) (v := ?_) rfl (by kernel_rfl) (by kernel_rfl) (by kernel_rfl) (fun _ _ _ h => h) (Or.inl ⟨by rfl, ?_⟩) hHeld ?_
              rotate_left
              · intro w' hSw; go_simp; try with_reducible rfl
              try simp only [Act.put, List.setIfInBounds_toArray, List.set_cons_zero, List.set_cons_succ]
              refine wpAnyH_done (by kernel_rfl) ?_ _
              go_wp2
              go_ret
              exact ⟨rfl, HBE.out.trans (hHeld.mono HBE.out.size)⟩

end Go.Proofs.Ytedbhdbjiicafaa
