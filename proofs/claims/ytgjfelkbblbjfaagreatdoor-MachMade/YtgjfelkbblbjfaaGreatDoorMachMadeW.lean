/- The walk of MachMade: any instructions that are made of few numbers do just what the document says, to memory and events too. -/
import Derived.Test.YtgjfelkbblbjfaaGreatDoorJ46
import Derived.Maps.AppendAt
namespace Go.Proofs.YtgjfelkbblbjfaaGreatDoor
open Go.RowKit Go.Maps
set_option linter.unusedVariables false
set_option maxRecDepth 100000
set_option maxRecDepth 20000

theorem Tryz.info32m : (Tryz.prog.info? 31).map (fun i => (i.zero, i.size, i.bytes)) = some (some (.int .u32 0), 1, 4) := by kernel_rfl

set_option maxHeartbeats 12800000 in
theorem made_walk (a0 : Option Addr) (n0 c0 : Nat) (xs : List Ins) (a2 : Option Addr) (n2 c2 : Nat) (rs : List Int) (a3 : Option Addr) (n3 c3 : Nat) (ds : List Int) (a4 : Option Addr) (n4 c4 : Nat) (is : List Int) (w : World) (hL : Laid w)
    (r0 : Ri w a0 n0 c0 xs) (r2 : Rn .u64 18446744073709551615 w a2 n2 c2 rs) (r3 : Rd w a3 n3 c3 ds) (r4 : Rd w a4 n4 c4 is) :
    Calls Tryz.prog 3 #[.slice a0 n0 c0, .slice a2 n2 c2, .slice a3 n3 c3, .slice a4 n4 c4] w fun e w' => e = .returned (.bool true) ∧ Below w.heap.size w w' := by
  have HK := hide (known_8 w hL)
  have HL := hide hL
  have hl0 := r0.le
  have hm0 := r0.max
  have hx0 := r0.length
  have hl2 := r2.le
  have hm2 := r2.max
  have hl3 := r3.le
  have hm3 := r3.max
  have hl4 := r4.le
  have hm4 := r4.max
  have hil : is.length ≤ n4 := by rw [r4.length]; exact Nat.le_refl _
  have R0 := hide r0
  have R2 := hide r2
  have R3 := hide r3
  have R4 := hide r4
  clear r0 r2 r3 r4 hL
  have early : ∀ (t : (decide ((60 : Int) < (n0 : Int)) = true) ∨ (decide ((60 : Int) < (n0 : Int)) = false ∧ decide ((31 : Int) < (n2 : Int)) = true) ∨ (decide ((60 : Int) < (n0 : Int)) = false ∧ decide ((31 : Int) < (n2 : Int)) = false ∧ decide ((200 : Int) < (n3 : Int)) = true) ∨ (decide ((60 : Int) < (n0 : Int)) = false ∧ decide ((31 : Int) < (n2 : Int)) = false ∧ decide ((200 : Int) < (n3 : Int)) = false ∧ decide ((100 : Int) < (n4 : Int)) = true)),
      Calls Tryz.prog 3 #[.slice a0 n0 c0, .slice a2 n2 c2, .slice a3 n3 c3, .slice a4 n4 c4] w fun e w' => e = .returned (.bool true) ∧ Below w.heap.size w w' := by
    intro t
    rcases t with t1 | ⟨t1, t2⟩ | ⟨t1, t2, t3⟩ | ⟨t1, t2, t3, t4⟩
    all_goals
      go_enter Tryz.func3, Tryz.ntmps3
      go_wp2_with fail
      refine HK.out.mono ?_
      rintro e W ⟨rfl, hb⟩
      have HB := hide hb
      clear hb HK
      go_wp2
      go_ret
      exact ⟨rfl, HB.out⟩
  by_cases q1 : 60 < n0
  · exact early (Or.inl (by simp; omega))
  have t1 : decide ((60 : Int) < (n0 : Int)) = false := by simp; omega
  by_cases q2 : 31 < n2
  · exact early (Or.inr (Or.inl ⟨t1, by simp; omega⟩))
  have t2 : decide ((31 : Int) < (n2 : Int)) = false := by simp; omega
  by_cases q3 : 200 < n3
  · exact early (Or.inr (Or.inr (Or.inl ⟨t1, t2, by simp; omega⟩)))
  have t3 : decide ((200 : Int) < (n3 : Int)) = false := by simp; omega
  by_cases q4 : 100 < n4
  · exact early (Or.inr (Or.inr (Or.inr ⟨t1, t2, t3, by simp; omega⟩)))
  have t4 : decide ((100 : Int) < (n4 : Int)) = false := by simp; omega
  clear early
  obtain ⟨i0, hi, hz0, hz1, hz2⟩ := info_parts Tryz.info32m
  go_enter Tryz.func3, Tryz.ntmps3
  go_wp2_with fail
  refine HK.out.mono ?_
  rintro e W ⟨rfl, hb⟩
  have HW0 : Hid (WS w W (.slice none 0 0) []) := ⟨World.ownsRow_nil _ _ _ _, (fun x hx => by cases hx), hb⟩
  clear hb HK
  go_wp2
  go_loopg [9, 10] n0 (fun g t9 i wr => ∃ (j : Nat) (ns : List Int) (v9 : Value), j ≤ n0 ∧ g = n0 - j ∧ ns.length ≤ j ∧ i = .int .i64 (j : Int) ∧ v9 = t9 ∧ Hid (WS w wr v9 ns))
  case atStart => exact ⟨0, [], _, by omega, rfl, by simp, rfl, rfl, HW0.out⟩
  case round =>
    obtain ⟨j, ns, v9, hj, rfl, hns, rfl, rfl, HW⟩ := hrel
    clear HW0
    by_cases hlt : j < n0
    · have hlt' : (j : Int) < (n0 : Int) := by omega
      obtain ⟨x, hx⟩ : ∃ x, xs[j]? = some x := ⟨_, List.getElem?_eq_getElem (by omega)⟩
      obtain ⟨b, o, rfl, hc⟩ := (R0.out.below HW.out.bel).cell j x hx
      have hok := R0.out.ok x (List.mem_of_getElem? hx)
      obtain ⟨xo, xd, xa, xb, xm⟩ := x
      have e0 : wr.cell? ⟨b, o + j * 5, none⟩ = some (.int .i64 xo) := hc 0 (by omega)
      have e1 : wr.cell? ⟨b, o + j * 5 + 1, none⟩ = some (.int .i64 xd) := hc 1 (by omega)
      have e2 : wr.cell? ⟨b, o + j * 5 + 2, none⟩ = some (.int .i64 xa) := hc 2 (by omega)
      have e3 : wr.cell? ⟨b, o + j * 5 + 3, none⟩ = some (.int .i64 xb) := hc 3 (by omega)
      have e4 : wr.cell? ⟨b, o + j * 5 + 4, none⟩ = some (.int .i64 xm) := hc 4 (by omega)
      have ko : InI xo := hok.o
      have kd : InI xd := hok.d
      have ka : InI xa := hok.a
      have kb : InI xb := hok.b
      have km : InI xm := hok.m
      clear hc hx hok
      go_upto_region 10 with fail
      clear e0 e1 e2 e3 e4
      have h10 : LS w (wr.alloc (.cells #[.int .i64 xo, .int .i64 xd, .int .i64 xa, .int .i64 xb, .int .i64 xm] 28)) v9 ns wr.heap.size xo xd xa xb xm := HW.out.var xo xd xa xb xm
      obtain ⟨X, hX⟩ : ∃ X, X = wr.heap.size := ⟨_, rfl⟩
      obtain ⟨V, hV⟩ : ∃ V, V = wr.alloc (.cells #[.int .i64 xo, .int .i64 xd, .int .i64 xa, .int .i64 xb, .int .i64 xm] 28) := ⟨_, rfl⟩
      rw [← hX, ← hV] at h10 ⊢
      clear hX hV HW
      obtain ⟨zo, hzo, pO⟩ := hplace_any xo 66 V ko (by omega)
      obtain ⟨zd, hzd, pD⟩ := hplace_any xd 32 V kd (by omega)
      obtain ⟨za, hza, pA⟩ := hplace_any xa 32 V ka (by omega)
      obtain ⟨zb, hzb, pB⟩ := hplace_any xb 32 V kb (by omega)
      have PO := hide pO
      have PD := hide pD
      have PA := hide pA
      have PB := hide pB
      obtain ⟨y0, y1, y2, y3, y4⟩ := h10.cells
      have f0 := h10.frozen 0
      have H11 := hide (h10.set 0 zo (o' := zo) (d' := xd) (a' := xa) (b' := xb) (im' := xm) rfl)
      clear h10 pO pD pA pB y1 y2 y3 y4
      go_wp2_with fail
      refine (PO.out _).mono ?_
      rintro e W3 ⟨rfl, hW3⟩
      rw [hW3]
      clear hW3 W3 PO
      go_upto_region 11 with fail
      clear y0 f0 ko
      generalize V.setCell ⟨X, 0, none⟩ (.int .i64 zo) = V2 at *
      go_cut [] (fun wx => Hid (LS w wx v9 ns X zo zd za zb xm))
      case first =>
        as_aux_lemma =>
          obtain ⟨y0, y1, y2, y3, y4⟩ := H11.out.cells
          have f1 := H11.out.frozen 1
          have f2 := H11.out.frozen 2
          have f3 := H11.out.frozen 3
          have HF := hide (((H11.out.below ((Below.refl _ _).drew)).set 1 zd (o' := zo) (d' := zd) (a' := xa) (b' := xb) (im' := xm) rfl).set 2 za (o' := zo) (d' := zd) (a' := za) (b' := xb) (im' := xm) rfl |>.set 3 zb (o' := zo) (d' := zd) (a' := za) (b' := zb) (im' := xm) rfl)
          clear y0 y4 kd ka kb km hzo H11 R0 R2 R3 R4 HL t1 t2 t3 t4
          go_region_with (first
            | (go_at_call 5; first | (refine (PD.out _).mono ?_; rintro e W3 ⟨rfl, hW3⟩; rw [hW3]; clear hW3 W3 PD) | (refine (PA.out _).mono ?_; rintro e W3 ⟨rfl, hW3⟩; rw [hW3]; clear hW3 W3 PA) | (refine (PB.out _).mono ?_; rintro e W3 ⟨rfl, hW3⟩; rw [hW3]; clear hW3 W3 PB)))
          all_goals
            go_wp2_with fail
            go_meet
            case rel => exact HF.out
      case rest =>
        have H11' := hide hcut.out
        obtain ⟨y0, y1, y2, y3, y4⟩ := H11'.out.cells
        have fr4 := H11'.out.frozen 4
        obtain ⟨m1, hm1⟩ : ∃ m1, xm.tmod 64 = m1 := ⟨_, rfl⟩
        have hm1b : -64 < m1 ∧ m1 < 64 := by
          have e := Int.neg_tmod xm 64
          have h2 := Int.tmod_lt_of_pos (-xm) (show (0 : Int) < 64 by omega)
          have h3 := Int.tmod_lt_of_pos xm (show (0 : Int) < 64 by omega)
          omega
        obtain ⟨m2, hm2'⟩ : ∃ m2, m1.tdiv 4 * 4 = m2 := ⟨_, rfl⟩
        have hm2b : -64 < m2 ∧ m2 < 64 := by
          rw [← hm2']
          exact Int.tdiv_mul_le_abs m1 hm1b
        obtain ⟨m3, hm3'⟩ : ∃ m3, (m1 + 64) % 32 = m3 := ⟨_, rfl⟩
        have hm3b : 0 ≤ m3 ∧ m3 < 32 := by omega
        have H12' := hide (H11'.out.set 4 m1 (o' := zo) (d' := zd) (a' := za) (b' := zb) (im' := m1) rfl)
        have km1 := km.1
        have km2 := km.2
        clear PD PA PB hcut H11 H11' km
        go_upto_region 13 with fail
        clear y0 y1 y2 y3 y4 fr4
        obtain ⟨wv, hwv⟩ : ∃ wv, wc.setCell ⟨X, 4, none⟩ (.int .i64 m1) = wv := ⟨_, rfl⟩
        rw [hwv] at H12' ⊢
        have H12 := hide H12'.out
        obtain ⟨y0, y1, y2, y3, y4⟩ := H12.out.cells
        have fr4 := H12.out.frozen 4
        clear hwv H12' hm1 km1 km2
        have RF : Hid (∀ W, Calls Tryz.prog 6 #[.int .i64 zo] W fun e w' => e = .returned (.int .i64 (fmo zo)) ∧ w' = W) := hide (fun W => rform_any zo W)
        have HFM := fm_cases zo hzo
        rcases HFM with ⟨k1, k2⟩ | ⟨k1, k2⟩ | ⟨k1, k2, k3, k4⟩ | ⟨k1, k2, k3⟩ | ⟨k1, k2, k3⟩ | ⟨rfl, k2⟩ | ⟨k1, k2, k3⟩ | ⟨k1, k2⟩ | ⟨k1, k2⟩
        · as_aux_lemma =>
            have b3 : (fmo zo == 3) = true := by first | (simp; omega) | (simp [*]; done) | (simp; assumption)
            have g28 : decide (28 ≤ zo) = false := by first | (simp; omega) | (simp [*]; done) | (simp; assumption)
            have g42 : decide (42 ≤ zo) = false := by first | (simp; omega) | (simp [*]; done) | (simp; assumption)
            have b0 : (fmo zo == 0) = false := by first | (simp; omega) | (simp [*]; done) | (simp; assumption)
            clear k1 k2
            generalize fmo zo = fz at *
            go_wp2_with fail
            refine (RF.out _).mono ?_
            rintro e W3 ⟨rfl, hW3⟩
            rw [hW3]
            clear hW3 W3
            go_upto_region 15 with fail
            have H13 := hide (H12.out.set 4 m2 (o' := zo) (d' := zd) (a' := za) (b' := zb) (im' := m2) rfl)
            generalize wv.setCell ⟨X, 4, none⟩ (.int .i64 m2) = wq at *
            clear H12
            obtain ⟨y0, y1, y2, y3, y4⟩ := H13.out.cells
            have fr4 := H13.out.frozen 4
            go_wp2_with fail
            refine (RF.out _).mono ?_
            rintro e W3 ⟨rfl, hW3⟩
            rw [hW3]
            clear hW3 W3
            go_wp2_with fail
            refine (renc_any zo zd za zb m2 _ (by omega) (by omega)).mono ?_
            rintro e W5 ⟨rfl, hb5⟩
            have H5 := hide ((H13.out.below hb5).ws)
            have hew := encW_bd zo zd za zb m2
            have hz5 := H5.out.bel.size
            clear H13 hb5
            generalize encW zo zd za zb m2 = ew at *
            generalize encOk zo zd za zb m2 = eo at *
            cases eo with
            | true =>
              go_wp2_with (at_builtin; refine wpList_append_own _ rfl _ _ 26 rfl w.heap.size 31 i0 (.int .u32 0) 1 4 Tryz.underlying26 hi hz0 hz1 hz2 rfl (by decide) _ _ _ rfl (H5.out.row.alloc _) ⟨W5.heap.size, 0, none⟩ 1 1 [Value.int .u32 ew] rfl rfl (by intro j u' hj; match j, hj with | 0, hj => simp at hj; subst hj; simp [Addr.add]) (by intro u' hu'; simp at hu'; subst hu'; rfl) (by unfold maxLen; omega) (by omega) (by simp; omega) ?_; intro v6 W6 r6 g6 n6; refine Hid.out ?_)
              refine hide ?_
              have H6 := hide ((H5.out.below (below_alloc W5 (.cells #[.int .u32 ew] 31))).push hew r6 g6)
              clear r6 g6 n6 H5
              go_wp2
              go_roundg (n0 - (j + 1))
              case measure => omega
              case rel => exact ⟨j + 1, ns ++ [ew], v6, by omega, rfl, by simp; omega, by go_num, rfl, H6.out⟩
            | false =>
              go_wp2
              go_roundg (n0 - (j + 1))
              case measure => omega
              case rel => exact ⟨j + 1, ns, v9, by omega, rfl, by omega, by go_num, rfl, H5.out⟩
        · as_aux_lemma =>
            have b3 : (fmo zo == 3) = false := by first | (simp; omega) | (simp [*]; done) | (simp; assumption)
            have b5 : (fmo zo == 5) = true := by first | (simp; omega) | (simp [*]; done) | (simp; assumption)
            have g28 : decide (28 ≤ zo) = false := by first | (simp; omega) | (simp [*]; done) | (simp; assumption)
            have g42 : decide (42 ≤ zo) = false := by first | (simp; omega) | (simp [*]; done) | (simp; assumption)
            have b0 : (fmo zo == 0) = false := by first | (simp; omega) | (simp [*]; done) | (simp; assumption)
            clear k1 k2
            generalize fmo zo = fz at *
            go_wp2_with fail
            refine (RF.out _).mono ?_
            rintro e W3 ⟨rfl, hW3⟩
            rw [hW3]
            clear hW3 W3
            go_wp2_with fail
            refine (RF.out _).mono ?_
            rintro e W3 ⟨rfl, hW3⟩
            rw [hW3]
            clear hW3 W3
            go_upto_region 15 with fail
            have H13 := hide (H12.out.set 4 m2 (o' := zo) (d' := zd) (a' := za) (b' := zb) (im' := m2) rfl)
            generalize wv.setCell ⟨X, 4, none⟩ (.int .i64 m2) = wq at *
            clear H12
            obtain ⟨y0, y1, y2, y3, y4⟩ := H13.out.cells
            have fr4 := H13.out.frozen 4
            go_wp2_with fail
            refine (RF.out _).mono ?_
            rintro e W3 ⟨rfl, hW3⟩
            rw [hW3]
            clear hW3 W3
            go_wp2_with fail
            refine (renc_any zo zd za zb m2 _ (by omega) (by omega)).mono ?_
            rintro e W5 ⟨rfl, hb5⟩
            have H5 := hide ((H13.out.below hb5).ws)
            have hew := encW_bd zo zd za zb m2
            have hz5 := H5.out.bel.size
            clear H13 hb5
            generalize encW zo zd za zb m2 = ew at *
            generalize encOk zo zd za zb m2 = eo at *
            cases eo with
            | true =>
              go_wp2_with (at_builtin; refine wpList_append_own _ rfl _ _ 26 rfl w.heap.size 31 i0 (.int .u32 0) 1 4 Tryz.underlying26 hi hz0 hz1 hz2 rfl (by decide) _ _ _ rfl (H5.out.row.alloc _) ⟨W5.heap.size, 0, none⟩ 1 1 [Value.int .u32 ew] rfl rfl (by intro j u' hj; match j, hj with | 0, hj => simp at hj; subst hj; simp [Addr.add]) (by intro u' hu'; simp at hu'; subst hu'; rfl) (by unfold maxLen; omega) (by omega) (by simp; omega) ?_; intro v6 W6 r6 g6 n6; refine Hid.out ?_)
              refine hide ?_
              have H6 := hide ((H5.out.below (below_alloc W5 (.cells #[.int .u32 ew] 31))).push hew r6 g6)
              clear r6 g6 n6 H5
              go_wp2
              go_roundg (n0 - (j + 1))
              case measure => omega
              case rel => exact ⟨j + 1, ns ++ [ew], v6, by omega, rfl, by simp; omega, by go_num, rfl, H6.out⟩
            | false =>
              go_wp2
              go_roundg (n0 - (j + 1))
              case measure => omega
              case rel => exact ⟨j + 1, ns, v9, by omega, rfl, by omega, by go_num, rfl, H5.out⟩
        · as_aux_lemma =>
            have b3 : (fmo zo == 3) = false := by first | (simp; omega) | (simp [*]; done) | (simp; assumption)
            have b5 : (fmo zo == 5) = false := by first | (simp; omega) | (simp [*]; done) | (simp; assumption)
            have g28 : decide (28 ≤ zo) = false := by first | (simp; omega) | (simp [*]; done) | (simp; assumption)
            have g42 : decide (42 ≤ zo) = false := by first | (simp; omega) | (simp [*]; done) | (simp; assumption)
            have b0 : (fmo zo == 0) = false := by first | (simp; omega) | (simp [*]; done) | (simp; assumption)
            clear k1 k2 k3 k4
            generalize fmo zo = fz at *
            go_wp2_with fail
            refine (RF.out _).mono ?_
            rintro e W3 ⟨rfl, hW3⟩
            rw [hW3]
            clear hW3 W3
            go_wp2_with fail
            refine (RF.out _).mono ?_
            rintro e W3 ⟨rfl, hW3⟩
            rw [hW3]
            clear hW3 W3
            go_wp2_with fail
            refine (RF.out _).mono ?_
            rintro e W3 ⟨rfl, hW3⟩
            rw [hW3]
            clear hW3 W3
            go_wp2_with fail
            refine (renc_any zo zd za zb m1 _ (by omega) (by omega)).mono ?_
            rintro e W5 ⟨rfl, hb5⟩
            have H5 := hide ((H12.out.below hb5).ws)
            have hew := encW_bd zo zd za zb m1
            have hz5 := H5.out.bel.size
            clear H12 hb5
            generalize encW zo zd za zb m1 = ew at *
            generalize encOk zo zd za zb m1 = eo at *
            cases eo with
            | true =>
              go_wp2_with (at_builtin; refine wpList_append_own _ rfl _ _ 26 rfl w.heap.size 31 i0 (.int .u32 0) 1 4 Tryz.underlying26 hi hz0 hz1 hz2 rfl (by decide) _ _ _ rfl (H5.out.row.alloc _) ⟨W5.heap.size, 0, none⟩ 1 1 [Value.int .u32 ew] rfl rfl (by intro j u' hj; match j, hj with | 0, hj => simp at hj; subst hj; simp [Addr.add]) (by intro u' hu'; simp at hu'; subst hu'; rfl) (by unfold maxLen; omega) (by omega) (by simp; omega) ?_; intro v6 W6 r6 g6 n6; refine Hid.out ?_)
              refine hide ?_
              have H6 := hide ((H5.out.below (below_alloc W5 (.cells #[.int .u32 ew] 31))).push hew r6 g6)
              clear r6 g6 n6 H5
              go_wp2
              go_roundg (n0 - (j + 1))
              case measure => omega
              case rel => exact ⟨j + 1, ns ++ [ew], v6, by omega, rfl, by simp; omega, by go_num, rfl, H6.out⟩
            | false =>
              go_wp2
              go_roundg (n0 - (j + 1))
              case measure => omega
              case rel => exact ⟨j + 1, ns, v9, by omega, rfl, by omega, by go_num, rfl, H5.out⟩
        · as_aux_lemma =>
            have b3 : (fmo zo == 3) = false := by first | (simp; omega) | (simp [*]; done) | (simp; assumption)
            have b5 : (fmo zo == 5) = false := by first | (simp; omega) | (simp [*]; done) | (simp; assumption)
            have g28 : decide (28 ≤ zo) = true := by first | (simp; omega) | (simp [*]; done) | (simp; assumption)
            have g30 : decide (zo ≤ 30) = true := by first | (simp; omega) | (simp [*]; done) | (simp; assumption)
            have b0 : (fmo zo == 0) = false := by first | (simp; omega) | (simp [*]; done) | (simp; assumption)
            clear k1 k2 k3
            generalize fmo zo = fz at *
            go_wp2_with fail
            refine (RF.out _).mono ?_
            rintro e W3 ⟨rfl, hW3⟩
            rw [hW3]
            clear hW3 W3
            go_wp2_with fail
            refine (RF.out _).mono ?_
            rintro e W3 ⟨rfl, hW3⟩
            rw [hW3]
            clear hW3 W3
            go_upto_region 17 with fail
            have H13 := hide (H12.out.set 4 m3 (o' := zo) (d' := zd) (a' := za) (b' := zb) (im' := m3) rfl)
            generalize wv.setCell ⟨X, 4, none⟩ (.int .i64 m3) = wq at *
            clear H12
            obtain ⟨y0, y1, y2, y3, y4⟩ := H13.out.cells
            have fr4 := H13.out.frozen 4
            go_wp2_with fail
            refine (RF.out _).mono ?_
            rintro e W3 ⟨rfl, hW3⟩
            rw [hW3]
            clear hW3 W3
            go_wp2_with fail
            refine (renc_any zo zd za zb m3 _ (by omega) (by omega)).mono ?_
            rintro e W5 ⟨rfl, hb5⟩
            have H5 := hide ((H13.out.below hb5).ws)
            have hew := encW_bd zo zd za zb m3
            have hz5 := H5.out.bel.size
            clear H13 hb5
            generalize encW zo zd za zb m3 = ew at *
            generalize encOk zo zd za zb m3 = eo at *
            cases eo with
            | true =>
              go_wp2_with (at_builtin; refine wpList_append_own _ rfl _ _ 26 rfl w.heap.size 31 i0 (.int .u32 0) 1 4 Tryz.underlying26 hi hz0 hz1 hz2 rfl (by decide) _ _ _ rfl (H5.out.row.alloc _) ⟨W5.heap.size, 0, none⟩ 1 1 [Value.int .u32 ew] rfl rfl (by intro j u' hj; match j, hj with | 0, hj => simp at hj; subst hj; simp [Addr.add]) (by intro u' hu'; simp at hu'; subst hu'; rfl) (by unfold maxLen; omega) (by omega) (by simp; omega) ?_; intro v6 W6 r6 g6 n6; refine Hid.out ?_)
              refine hide ?_
              have H6 := hide ((H5.out.below (below_alloc W5 (.cells #[.int .u32 ew] 31))).push hew r6 g6)
              clear r6 g6 n6 H5
              go_wp2
              go_roundg (n0 - (j + 1))
              case measure => omega
              case rel => exact ⟨j + 1, ns ++ [ew], v6, by omega, rfl, by simp; omega, by go_num, rfl, H6.out⟩
            | false =>
              go_wp2
              go_roundg (n0 - (j + 1))
              case measure => omega
              case rel => exact ⟨j + 1, ns, v9, by omega, rfl, by omega, by go_num, rfl, H5.out⟩
        · as_aux_lemma =>
            have b3 : (fmo zo == 3) = false := by first | (simp; omega) | (simp [*]; done) | (simp; assumption)
            have b5 : (fmo zo == 5) = false := by first | (simp; omega) | (simp [*]; done) | (simp; assumption)
            have g28 : decide (28 ≤ zo) = true := by first | (simp; omega) | (simp [*]; done) | (simp; assumption)
            have g30 : decide (zo ≤ 30) = false := by first | (simp; omega) | (simp [*]; done) | (simp; assumption)
            have g42 : decide (42 ≤ zo) = false := by first | (simp; omega) | (simp [*]; done) | (simp; assumption)
            have b0 : (fmo zo == 0) = true := by first | (simp; omega) | (simp [*]; done) | (simp; assumption)
            clear k1 k2 k3
            generalize fmo zo = fz at *
            go_wp2_with fail
            refine (RF.out _).mono ?_
            rintro e W3 ⟨rfl, hW3⟩
            rw [hW3]
            clear hW3 W3
            go_wp2_with fail
            refine (RF.out _).mono ?_
            rintro e W3 ⟨rfl, hW3⟩
            rw [hW3]
            clear hW3 W3
            go_wp2_with fail
            refine (RF.out _).mono ?_
            rintro e W3 ⟨rfl, hW3⟩
            rw [hW3]
            clear hW3 W3
            go_upto_region 19 with fail
            have H13 := hide (H12.out.set 4 0 (o' := zo) (d' := zd) (a' := za) (b' := zb) (im' := 0) rfl)
            generalize wv.setCell ⟨X, 4, none⟩ (.int .i64 0) = wq at *
            clear H12
            obtain ⟨y0, y1, y2, y3, y4⟩ := H13.out.cells
            go_wp2_with fail
            refine (renc_any zo zd za zb 0 _ (by omega) (by omega)).mono ?_
            rintro e W5 ⟨rfl, hb5⟩
            have H5 := hide ((H13.out.below hb5).ws)
            have hew := encW_bd zo zd za zb 0
            have hz5 := H5.out.bel.size
            clear H13 hb5
            generalize encW zo zd za zb 0 = ew at *
            generalize encOk zo zd za zb 0 = eo at *
            cases eo with
            | true =>
              go_wp2_with (at_builtin; refine wpList_append_own _ rfl _ _ 26 rfl w.heap.size 31 i0 (.int .u32 0) 1 4 Tryz.underlying26 hi hz0 hz1 hz2 rfl (by decide) _ _ _ rfl (H5.out.row.alloc _) ⟨W5.heap.size, 0, none⟩ 1 1 [Value.int .u32 ew] rfl rfl (by intro j u' hj; match j, hj with | 0, hj => simp at hj; subst hj; simp [Addr.add]) (by intro u' hu'; simp at hu'; subst hu'; rfl) (by unfold maxLen; omega) (by omega) (by simp; omega) ?_; intro v6 W6 r6 g6 n6; refine Hid.out ?_)
              refine hide ?_
              have H6 := hide ((H5.out.below (below_alloc W5 (.cells #[.int .u32 ew] 31))).push hew r6 g6)
              clear r6 g6 n6 H5
              go_wp2
              go_roundg (n0 - (j + 1))
              case measure => omega
              case rel => exact ⟨j + 1, ns ++ [ew], v6, by omega, rfl, by simp; omega, by go_num, rfl, H6.out⟩
            | false =>
              go_wp2
              go_roundg (n0 - (j + 1))
              case measure => omega
              case rel => exact ⟨j + 1, ns, v9, by omega, rfl, by omega, by go_num, rfl, H5.out⟩
        · as_aux_lemma =>
            have b3 : (fmo 41 == 3) = false := by first | (simp; omega) | (simp [*]; done) | (simp; assumption)
            have b5 : (fmo 41 == 5) = false := by first | (simp; omega) | (simp [*]; done) | (simp; assumption)
            have g28 : decide ((28 : Int) ≤ 41) = true := by first | (simp; omega) | (simp [*]; done) | (simp; assumption)
            have g30 : decide ((41 : Int) ≤ 30) = false := by first | (simp; omega) | (simp [*]; done) | (simp; assumption)
            have g42 : decide ((42 : Int) ≤ 41) = false := by first | (simp; omega) | (simp [*]; done) | (simp; assumption)
            have b0 : (fmo 41 == 0) = false := by first | (simp; omega) | (simp [*]; done) | (simp; assumption)
            clear k2
            generalize fmo 41 = fz at *
            go_wp2_with fail
            refine (RF.out _).mono ?_
            rintro e W3 ⟨rfl, hW3⟩
            rw [hW3]
            clear hW3 W3
            go_wp2_with fail
            refine (RF.out _).mono ?_
            rintro e W3 ⟨rfl, hW3⟩
            rw [hW3]
            clear hW3 W3
            go_wp2_with fail
            refine (RF.out _).mono ?_
            rintro e W3 ⟨rfl, hW3⟩
            rw [hW3]
            clear hW3 W3
            go_wp2_with fail
            refine (renc_any 41 zd za zb m1 _ (by omega) (by omega)).mono ?_
            rintro e W5 ⟨rfl, hb5⟩
            have H5 := hide ((H12.out.below hb5).ws)
            have hew := encW_bd 41 zd za zb m1
            have hz5 := H5.out.bel.size
            clear H12 hb5
            generalize encW 41 zd za zb m1 = ew at *
            generalize encOk 41 zd za zb m1 = eo at *
            cases eo with
            | true =>
              go_wp2_with (at_builtin; refine wpList_append_own _ rfl _ _ 26 rfl w.heap.size 31 i0 (.int .u32 0) 1 4 Tryz.underlying26 hi hz0 hz1 hz2 rfl (by decide) _ _ _ rfl (H5.out.row.alloc _) ⟨W5.heap.size, 0, none⟩ 1 1 [Value.int .u32 ew] rfl rfl (by intro j u' hj; match j, hj with | 0, hj => simp at hj; subst hj; simp [Addr.add]) (by intro u' hu'; simp at hu'; subst hu'; rfl) (by unfold maxLen; omega) (by omega) (by simp; omega) ?_; intro v6 W6 r6 g6 n6; refine Hid.out ?_)
              refine hide ?_
              have H6 := hide ((H5.out.below (below_alloc W5 (.cells #[.int .u32 ew] 31))).push hew r6 g6)
              clear r6 g6 n6 H5
              go_wp2
              go_roundg (n0 - (j + 1))
              case measure => omega
              case rel => exact ⟨j + 1, ns ++ [ew], v6, by omega, rfl, by simp; omega, by go_num, rfl, H6.out⟩
            | false =>
              go_wp2
              go_roundg (n0 - (j + 1))
              case measure => omega
              case rel => exact ⟨j + 1, ns, v9, by omega, rfl, by omega, by go_num, rfl, H5.out⟩
        · as_aux_lemma =>
            have b3 : (fmo zo == 3) = false := by first | (simp; omega) | (simp [*]; done) | (simp; assumption)
            have b5 : (fmo zo == 5) = false := by first | (simp; omega) | (simp [*]; done) | (simp; assumption)
            have g28 : decide (28 ≤ zo) = true := by first | (simp; omega) | (simp [*]; done) | (simp; assumption)
            have g30 : decide (zo ≤ 30) = false := by first | (simp; omega) | (simp [*]; done) | (simp; assumption)
            have g42 : decide (42 ≤ zo) = true := by first | (simp; omega) | (simp [*]; done) | (simp; assumption)
            have g44 : decide (zo ≤ 44) = true := by first | (simp; omega) | (simp [*]; done) | (simp; assumption)
            have b0 : (fmo zo == 0) = false := by first | (simp; omega) | (simp [*]; done) | (simp; assumption)
            clear k1 k2 k3
            generalize fmo zo = fz at *
            go_wp2_with fail
            refine (RF.out _).mono ?_
            rintro e W3 ⟨rfl, hW3⟩
            rw [hW3]
            clear hW3 W3
            go_wp2_with fail
            refine (RF.out _).mono ?_
            rintro e W3 ⟨rfl, hW3⟩
            rw [hW3]
            clear hW3 W3
            go_upto_region 17 with fail
            have H13 := hide (H12.out.set 4 m3 (o' := zo) (d' := zd) (a' := za) (b' := zb) (im' := m3) rfl)
            generalize wv.setCell ⟨X, 4, none⟩ (.int .i64 m3) = wq at *
            clear H12
            obtain ⟨y0, y1, y2, y3, y4⟩ := H13.out.cells
            have fr4 := H13.out.frozen 4
            go_wp2_with fail
            refine (RF.out _).mono ?_
            rintro e W3 ⟨rfl, hW3⟩
            rw [hW3]
            clear hW3 W3
            go_wp2_with fail
            refine (renc_any zo zd za zb m3 _ (by omega) (by omega)).mono ?_
            rintro e W5 ⟨rfl, hb5⟩
            have H5 := hide ((H13.out.below hb5).ws)
            have hew := encW_bd zo zd za zb m3
            have hz5 := H5.out.bel.size
            clear H13 hb5
            generalize encW zo zd za zb m3 = ew at *
            generalize encOk zo zd za zb m3 = eo at *
            cases eo with
            | true =>
              go_wp2_with (at_builtin; refine wpList_append_own _ rfl _ _ 26 rfl w.heap.size 31 i0 (.int .u32 0) 1 4 Tryz.underlying26 hi hz0 hz1 hz2 rfl (by decide) _ _ _ rfl (H5.out.row.alloc _) ⟨W5.heap.size, 0, none⟩ 1 1 [Value.int .u32 ew] rfl rfl (by intro j u' hj; match j, hj with | 0, hj => simp at hj; subst hj; simp [Addr.add]) (by intro u' hu'; simp at hu'; subst hu'; rfl) (by unfold maxLen; omega) (by omega) (by simp; omega) ?_; intro v6 W6 r6 g6 n6; refine Hid.out ?_)
              refine hide ?_
              have H6 := hide ((H5.out.below (below_alloc W5 (.cells #[.int .u32 ew] 31))).push hew r6 g6)
              clear r6 g6 n6 H5
              go_wp2
              go_roundg (n0 - (j + 1))
              case measure => omega
              case rel => exact ⟨j + 1, ns ++ [ew], v6, by omega, rfl, by simp; omega, by go_num, rfl, H6.out⟩
            | false =>
              go_wp2
              go_roundg (n0 - (j + 1))
              case measure => omega
              case rel => exact ⟨j + 1, ns, v9, by omega, rfl, by omega, by go_num, rfl, H5.out⟩
        · as_aux_lemma =>
            have b3 : (fmo zo == 3) = false := by first | (simp; omega) | (simp [*]; done) | (simp; assumption)
            have b5 : (fmo zo == 5) = false := by first | (simp; omega) | (simp [*]; done) | (simp; assumption)
            have g28 : decide (28 ≤ zo) = true := by first | (simp; omega) | (simp [*]; done) | (simp; assumption)
            have g30 : decide (zo ≤ 30) = false := by first | (simp; omega) | (simp [*]; done) | (simp; assumption)
            have g42 : decide (42 ≤ zo) = true := by first | (simp; omega) | (simp [*]; done) | (simp; assumption)
            have g44 : decide (zo ≤ 44) = false := by first | (simp; omega) | (simp [*]; done) | (simp; assumption)
            have b0 : (fmo zo == 0) = true := by first | (simp; omega) | (simp [*]; done) | (simp; assumption)
            clear k1 k2
            generalize fmo zo = fz at *
            go_wp2_with fail
            refine (RF.out _).mono ?_
            rintro e W3 ⟨rfl, hW3⟩
            rw [hW3]
            clear hW3 W3
            go_wp2_with fail
            refine (RF.out _).mono ?_
            rintro e W3 ⟨rfl, hW3⟩
            rw [hW3]
            clear hW3 W3
            go_wp2_with fail
            refine (RF.out _).mono ?_
            rintro e W3 ⟨rfl, hW3⟩
            rw [hW3]
            clear hW3 W3
            go_upto_region 19 with fail
            have H13 := hide (H12.out.set 4 0 (o' := zo) (d' := zd) (a' := za) (b' := zb) (im' := 0) rfl)
            generalize wv.setCell ⟨X, 4, none⟩ (.int .i64 0) = wq at *
            clear H12
            obtain ⟨y0, y1, y2, y3, y4⟩ := H13.out.cells
            go_wp2_with fail
            refine (renc_any zo zd za zb 0 _ (by omega) (by omega)).mono ?_
            rintro e W5 ⟨rfl, hb5⟩
            have H5 := hide ((H13.out.below hb5).ws)
            have hew := encW_bd zo zd za zb 0
            have hz5 := H5.out.bel.size
            clear H13 hb5
            generalize encW zo zd za zb 0 = ew at *
            generalize encOk zo zd za zb 0 = eo at *
            cases eo with
            | true =>
              go_wp2_with (at_builtin; refine wpList_append_own _ rfl _ _ 26 rfl w.heap.size 31 i0 (.int .u32 0) 1 4 Tryz.underlying26 hi hz0 hz1 hz2 rfl (by decide) _ _ _ rfl (H5.out.row.alloc _) ⟨W5.heap.size, 0, none⟩ 1 1 [Value.int .u32 ew] rfl rfl (by intro j u' hj; match j, hj with | 0, hj => simp at hj; subst hj; simp [Addr.add]) (by intro u' hu'; simp at hu'; subst hu'; rfl) (by unfold maxLen; omega) (by omega) (by simp; omega) ?_; intro v6 W6 r6 g6 n6; refine Hid.out ?_)
              refine hide ?_
              have H6 := hide ((H5.out.below (below_alloc W5 (.cells #[.int .u32 ew] 31))).push hew r6 g6)
              clear r6 g6 n6 H5
              go_wp2
              go_roundg (n0 - (j + 1))
              case measure => omega
              case rel => exact ⟨j + 1, ns ++ [ew], v6, by omega, rfl, by simp; omega, by go_num, rfl, H6.out⟩
            | false =>
              go_wp2
              go_roundg (n0 - (j + 1))
              case measure => omega
              case rel => exact ⟨j + 1, ns, v9, by omega, rfl, by omega, by go_num, rfl, H5.out⟩
        · as_aux_lemma =>
            have b3 : (fmo zo == 3) = false := by first | (simp; omega) | (simp [*]; done) | (simp; assumption)
            have b5 : (fmo zo == 5) = false := by first | (simp; omega) | (simp [*]; done) | (simp; assumption)
            have g28 : decide (28 ≤ zo) = true := by first | (simp; omega) | (simp [*]; done) | (simp; assumption)
            have g30 : decide (zo ≤ 30) = false := by first | (simp; omega) | (simp [*]; done) | (simp; assumption)
            have g42 : decide (42 ≤ zo) = true := by first | (simp; omega) | (simp [*]; done) | (simp; assumption)
            have g44 : decide (zo ≤ 44) = false := by first | (simp; omega) | (simp [*]; done) | (simp; assumption)
            have b0 : (fmo zo == 0) = false := by first | (simp; omega) | (simp [*]; done) | (simp; assumption)
            clear k1 k2
            generalize fmo zo = fz at *
            go_wp2_with fail
            refine (RF.out _).mono ?_
            rintro e W3 ⟨rfl, hW3⟩
            rw [hW3]
            clear hW3 W3
            go_wp2_with fail
            refine (RF.out _).mono ?_
            rintro e W3 ⟨rfl, hW3⟩
            rw [hW3]
            clear hW3 W3
            go_wp2_with fail
            refine (RF.out _).mono ?_
            rintro e W3 ⟨rfl, hW3⟩
            rw [hW3]
            clear hW3 W3
            go_wp2_with fail
            refine (renc_any zo zd za zb m1 _ (by omega) (by omega)).mono ?_
            rintro e W5 ⟨rfl, hb5⟩
            have H5 := hide ((H12.out.below hb5).ws)
            have hew := encW_bd zo zd za zb m1
            have hz5 := H5.out.bel.size
            clear H12 hb5
            generalize encW zo zd za zb m1 = ew at *
            generalize encOk zo zd za zb m1 = eo at *
            cases eo with
            | true =>
              go_wp2_with (at_builtin; refine wpList_append_own _ rfl _ _ 26 rfl w.heap.size 31 i0 (.int .u32 0) 1 4 Tryz.underlying26 hi hz0 hz1 hz2 rfl (by decide) _ _ _ rfl (H5.out.row.alloc _) ⟨W5.heap.size, 0, none⟩ 1 1 [Value.int .u32 ew] rfl rfl (by intro j u' hj; match j, hj with | 0, hj => simp at hj; subst hj; simp [Addr.add]) (by intro u' hu'; simp at hu'; subst hu'; rfl) (by unfold maxLen; omega) (by omega) (by simp; omega) ?_; intro v6 W6 r6 g6 n6; refine Hid.out ?_)
              refine hide ?_
              have H6 := hide ((H5.out.below (below_alloc W5 (.cells #[.int .u32 ew] 31))).push hew r6 g6)
              clear r6 g6 n6 H5
              go_wp2
              go_roundg (n0 - (j + 1))
              case measure => omega
              case rel => exact ⟨j + 1, ns ++ [ew], v6, by omega, rfl, by simp; omega, by go_num, rfl, H6.out⟩
            | false =>
              go_wp2
              go_roundg (n0 - (j + 1))
              case measure => omega
              case rel => exact ⟨j + 1, ns, v9, by omega, rfl, by omega, by go_num, rfl, H5.out⟩
    · -- EXIT
      as_aux_lemma =>
        obtain rfl : j = n0 := by omega
        obtain ⟨a9, k9, rfl, hwh⟩ := HW.out.has
        have HW1 := hide hwh
        obtain ⟨ln, hln⟩ : ∃ ln, ns.length = ln := ⟨_, rfl⟩
        rw [hln] at HW1 hns ⊢
        have HLN := hide hln
        clear hln hwh HW R0 hlt
        go_wp2_with fail
        refine (h_new HW1.out).mono ?_
        rintro e W1 ⟨mm, rfl, g1⟩
        go_wp2_with fail
        refine (h_rnew g1).mono ?_
        rintro e W2 ⟨mm2, rfl, g2⟩
        have G2 := hide g2
        have RW := hide (Has.rn (g2.perm p_back))
        have hk9 := RW.out.le
        have hm9 := RW.out.max
        clear g1 g2 HW1
        go_wp2
        go_loopg [16, 17] ln (fun g u i wr => ∃ (q : Nat) (u0 : Value), q ≤ ln ∧ g = ln - q ∧ u0 = u ∧ i = .int .i64 (q : Int) ∧ Hid (wr.ownsRow W2.heap.size 5 1 u0 (q * 4) ((wsBytes (ns.take q)).map (Value.int .u8))) ∧ Hid (Below W2.heap.size W2 wr))
        case atStart => exact ⟨0, _, by omega, rfl, rfl, rfl, World.ownsRow_nil _ _ _ _, Below.refl _ _⟩
        case round =>
          obtain ⟨q, u0, hq, rfl, rfl, rfl, HO, HB⟩ := hrel
          by_cases hlt : q < ln
          · have hlt' : (q : Int) < (ln : Int) := by omega
            obtain ⟨b, o, ha, hc⟩ := RW.out.addr (by omega)
            subst ha
            obtain ⟨z, hz⟩ : ∃ z, ns.getD q 0 = z := ⟨_, rfl⟩
            have hcj := (HB.out.cell (World.block_lt_of_cell? _ _ (hc q hlt))).trans (hc q hlt)
            rw [hz] at hcj
            have hzb : 0 ≤ z ∧ z ≤ 4294967295 := by rw [← hz]; have := RW.out.at q; simpa using this
            have HY := hide hz
            have hy0 := hzb.1
            have hy1 := hzb.2
            clear hc hz hzb
            go_wp2_with fail
            refine (wput4 W2.heap.size u0 (q * 4) (wsBytes (ns.take q)) z wr HO.out HB.out.size hy0 hy1 (by omega)).mono ?_
            rintro e W ⟨v', rfl, hO, hB⟩
            have O2 : Hid (W.ownsRow W2.heap.size 5 1 v' ((q + 1) * 4) ((wsBytes (ns.take (q + 1))).map (Value.int .u8))) := by
              rw [wsBytes_take ns q (by rw [HLN.out]; exact hlt), HY.out, show (q + 1) * 4 = q * 4 + 4 by omega]
              exact hO
            have B2 := hide (HB.out.trans hB)
            clear hO hB HO HB hcj
            go_wp2
            go_roundg (ln - (q + 1))
            case measure => omega
            case rel => exact ⟨q + 1, v', by omega, rfl, rfl, by go_num, O2.out, B2.out⟩
          · obtain rfl : q = ln := by omega
            have hws : ns.take q = ns := List.take_of_length_le (by rw [HLN.out]; exact Nat.le_refl _)
            have hbl : (wsBytes ns).length = q * 4 := by rw [wsBytes_length, HLN.out]
            have hO := HO.out
            rw [hws] at hO
            have hB := G2.out.more HB.out (P := RowT u0 (wsBytes ns)) (F := fun k => u0.ownBlock = some k) ⟨by
                unfold RowB
                rw [hbl]
                exact ownsRow_zero hO, wsBytes_bytes ns, fun g hg => hg, fun k hk => ownsRow_blk hO k hk⟩ (fun k hk => (hO.lt k hk).1) (row_stays _ _ _)
            obtain ⟨ab, cb, rfl, hB1⟩ := hB.rowrd
            have HB1 := hide (hB1.perm p_back)
            rw [hbl] at HB1
            clear hB hB1 hO HO HB hws RW G2
            rw [hbl]
            clear hbl HLN
            go_wp2_with fail
            refine (h_map HB1.out 65536 4096 5 (by decide) (by decide) (by decide)).mono ?_
            rintro e W3 ⟨⟨v3, rfl⟩, g3⟩
            have G3 := hide ((g3.perm p_back).perm (List.Perm.cons _ (List.Perm.swap ..)))
            clear g3 HB1
            go_wp2_with fail
            refine (h_rmap G3.out 65536 4096 5 (by decide) (by decide) (by decide)).mono ?_
            rintro e W4 ⟨⟨v4, rfl⟩, g4⟩
            have G4 := hide (g4.perm p_back)
            clear g4 G3
            go_wp2_with fail
            refine (h_map0 G4.out R3.out 131072 4096 6 (by decide) (by decide) (by decide)).mono ?_
            rintro e W5 ⟨⟨v5, rfl⟩, g5⟩
            have G5 := hide g5.swap
            clear g5 G4
            go_wp2_with fail
            refine (h_rmap0 G5.out R3.out 131072 4096 6 (by decide) (by decide) (by decide)).mono ?_
            rintro e W6 ⟨⟨v6, rfl⟩, g6⟩
            have G6 := hide (g6.perm p_back).drop
            clear g6 G5
            go_wp2_with fail
            refine (has_new G6.out (R4.out.below G6.out.bel) (by omega)).mono ?_
            rintro e W7 ⟨me, rfl, g7⟩
            have G7 := hide (Has.perm (has_ref g7 R4.out) perm14)
            clear g7 G6
            go_wp2_with fail
            refine (new_mach mm me 65536 _ _ _ _ G7.out (by decide)).mono ?_
            rintro e W8 ⟨m, rfl, g8⟩
            have G8 := hide g8
            clear g8 G7
            go_wp2_with fail
            refine (newmach_any mm2 W7.heap.size 65536 _ (by decide) G8.out).mono ?_
            rintro e W9 ⟨y, rfl, g9⟩
            obtain ⟨ey, hey⟩ : ∃ ey, W7.heap.size = ey := ⟨_, rfl⟩
            rw [hey] at g9 ⊢
            clear hey G8
            have g10 : BX w W9 m mm me (mdM ns ds is rs 0) y mm2 ey (mdM ns ds is rs 0) [RnT a9 q k9 ns] := Has.perm g9 perm_in3
            have G10 := hide g10.drop
            clear g9 g10 R3
            -- LOOP3
            go_wp2
            go_loopg [22] n2 (fun g i wr => ∃ j3 : Nat, j3 ≤ n2 ∧ g = n2 - j3 ∧ i = .int .i64 (j3 : Int) ∧ Hid (BX w wr m mm me (mdM ns ds is rs j3) y mm2 ey (mdM ns ds is rs j3) []))
            case atStart => exact ⟨0, by omega, rfl, rfl, G10.out⟩
            case round =>
              obtain ⟨j3, hj3, rfl, rfl, HT⟩ := hrel
              clear G10
              by_cases hlt : j3 < n2
              · have hlt' : (j3 : Int) < (n2 : Int) := by omega
                obtain ⟨b, o, ha, hc⟩ := R2.out.addr (by omega)
                subst ha
                obtain ⟨u, hu⟩ : ∃ u, rs.getD j3 0 = u := ⟨_, rfl⟩
                have hub : 0 ≤ u ∧ u ≤ 18446744073709551615 := by rw [← hu]; have := R2.out.at j3; simpa using this
                have hcw := hc j3 hlt
                rw [hu] at hcw
                have hcj := (HT.out.bel.cell (World.block_lt_of_cell? _ _ hcw)).trans hcw
                have hji0 : (0 : Int) ≤ (j3 : Int) + 1 := by omega
                have hji : InI ((j3 : Int) + 1) := by unfold InI; omega
                have hj32 : (j3 : Int) + 1 < 32 := by omega
                have hjn : j3 + 1 < 32 := by omega
                have hu0 := hub.1
                have hu1 := hub.2
                clear hc hcw
                by_cases h3 : u % 3 = 0
                · have hvf : vf u = u := by unfold vf; rw [if_pos h3]
                  have hvb : 0 ≤ u ∧ u ≤ 18446744073709551615 := by omega
                  have HXN : Hid (mdM ns ds is rs (j3 + 1) = { mdM ns ds is rs j3 with x := xset (mdM ns ds is rs j3).x ((j3 : Int) + 1) (u) }) := by
                    refine hide ?_
                    unfold mdM
                    simp only [xsV]
                    rw [hu, hvf]
                  clear hu hvf hub
                  go_wp2_with fail
                  refine (bx_set HT.out ((j3 : Int) + 1) (u) hji hvb).mono ?_
                  rintro e W3 ⟨rfl, h3'⟩
                  have h3r : RH w W3 y mm2 ey (mdM ns ds is rs j3) _ := BX.rh (M := { mdM ns ds is rs j3 with x := xset (mdM ns ds is rs j3).x ((j3 : Int) + 1) (u) }) h3'
                  have hz3 := h3r.frozen (2 + (j3 + 1))
                  have hr3 := h3r.reg (j3 + 1) (by omega)
                  have H4 : Hid (BX w (W3.setCell ⟨y, 2 + (j3 + 1), none⟩ (.int .u64 (u))) m mm me (mdM ns ds is rs (j3 + 1)) y mm2 ey (mdM ns ds is rs (j3 + 1)) []) := by
                    refine hide ?_
                    have h5 := h3r.setreg (j3 + 1) (by omega) (by omega) hvb
                    rw [HXN.out]
                    exact BX.of (M := { mdM ns ds is rs j3 with x := xset (mdM ns ds is rs j3).x ((j3 : Int) + 1) (u) }) (M' := { mdM ns ds is rs j3 with x := xset (mdM ns ds is rs j3).x ((j3 : Int) + 1) (u) }) h5
                  clear h3' h3r HT HXN hvb hcj
                  go_wp2
                  go_roundg (n2 - (j3 + 1))
                  case measure => omega
                  case rel => exact ⟨j3 + 1, by omega, rfl, by go_num, H4.out⟩
                · have hvf : vf u = 131072 + u % 200 := by unfold vf; rw [if_neg h3]
                  have hvb : 0 ≤ 131072 + u % 200 ∧ 131072 + u % 200 ≤ 18446744073709551615 := by omega
                  have HXN : Hid (mdM ns ds is rs (j3 + 1) = { mdM ns ds is rs j3 with x := xset (mdM ns ds is rs j3).x ((j3 : Int) + 1) (131072 + u % 200) }) := by
                    refine hide ?_
                    unfold mdM
                    simp only [xsV]
                    rw [hu, hvf]
                  clear hu hvf hub
                  go_wp2_with fail
                  refine (bx_set HT.out ((j3 : Int) + 1) (131072 + u % 200) hji hvb).mono ?_
                  rintro e W3 ⟨rfl, h3'⟩
                  have h3r : RH w W3 y mm2 ey (mdM ns ds is rs j3) _ := BX.rh (M := { mdM ns ds is rs j3 with x := xset (mdM ns ds is rs j3).x ((j3 : Int) + 1) (131072 + u % 200) }) h3'
                  have hz3 := h3r.frozen (2 + (j3 + 1))
                  have hr3 := h3r.reg (j3 + 1) (by omega)
                  have H4 : Hid (BX w (W3.setCell ⟨y, 2 + (j3 + 1), none⟩ (.int .u64 (131072 + u % 200))) m mm me (mdM ns ds is rs (j3 + 1)) y mm2 ey (mdM ns ds is rs (j3 + 1)) []) := by
                    refine hide ?_
                    have h5 := h3r.setreg (j3 + 1) (by omega) (by omega) hvb
                    rw [HXN.out]
                    exact BX.of (M := { mdM ns ds is rs j3 with x := xset (mdM ns ds is rs j3).x ((j3 : Int) + 1) (131072 + u % 200) }) (M' := { mdM ns ds is rs j3 with x := xset (mdM ns ds is rs j3).x ((j3 : Int) + 1) (131072 + u % 200) }) h5
                  clear h3' h3r HT HXN hvb hcj
                  go_wp2
                  go_roundg (n2 - (j3 + 1))
                  case measure => omega
                  case rel => exact ⟨j3 + 1, by omega, rfl, by go_num, H4.out⟩
              · -- EXIT3
                obtain rfl : j3 = n2 := by omega
                obtain ⟨M, hM⟩ : ∃ M, mdM ns ds is rs j3 = M := ⟨_, rfl⟩
                have htr : M.tr.length = 0 := by rw [← hM]; rfl
                have hbs : BsOk M := by rw [← hM]; intro s hs; cases hs
                have hin : M.ins.length ≤ 100 := by
                  rw [← hM]
                  show is.length ≤ 100
                  omega
                rw [hM] at HT
                clear hM R2
                go_upto_region 42 with fail
                have HS : Hid (Calls Tryz.prog 17 #[.pointer (some ⟨m, 0, none⟩), .int .i64 300] wr.drew fun e w' => e = .returned (stV (M.runF 300).kind (M.runF 300).code (M.runF 300).trap) ∧ BX w w' m mm me (M.runF 300) y mm2 ey M []) := run_any 300 wr.drew (HT.out.below ((Below.refl _ _).drew)) HL.out (by omega) (by omega) (by omega)
                have HRS : Hid (∀ W, BX w W m mm me (M.runF 300) y mm2 ey M [] → Calls Tryz.prog 18 #[.pointer (some ⟨y, 0, none⟩), .int .i64 300] W fun e w' => e = .returned (stV (M.runF 300).kind (M.runF 300).code (M.runF 300).trap) ∧ BX w w' m mm me (M.runF 300) y mm2 ey (M.runF 300) []) := fun W hW => (rrun_any 300 W hW.rh (by omega) (by omega) (by omega)).mono (by
                  rintro e w' ⟨he, hw⟩
                  exact ⟨he, BX.of hw⟩)
                have hst := M.runF_tr 300
                have hbN := bs_run hbs 300
                obtain ⟨N, hN⟩ : ∃ N, M.runF 300 = N := ⟨_, rfl⟩
                rw [hN] at HS HRS hst hbN
                unfold stV at HS HRS
                have HPc := hide (fun W (hW : BX w W m mm me N y mm2 ey N []) => bx_pc hW)
                obtain ⟨sk, hsk⟩ : ∃ x, N.kind = x := ⟨_, rfl⟩
                obtain ⟨sc, hsc⟩ : ∃ x, N.code = x := ⟨_, rfl⟩
                obtain ⟨stt, hstt⟩ : ∃ x, N.trap = x := ⟨_, rfl⟩
                obtain ⟨sp, hsp⟩ : ∃ x, N.pc = x := ⟨_, rfl⟩
                rw [hsk, hsc, hstt] at HS HRS
                rw [hsp] at HPc
                have HCel : Hid (∀ W, BX w W m mm me N y mm2 ey N [] → W.cell? ⟨y, 34, none⟩ = some (.int .u64 (sp : Int))) := fun W hW => by
                  have h1 := hW.rh.cpc
                  rw [hsp] at h1
                  exact h1
                have HST := hide hst
                have HBN := hide hbN
                clear hN hsk hsc hstt hsp hst hbN HT
                go_cut [216] (fun s wx => s = .bool false ∧ Hid (BX w wx m mm me N y mm2 ey N []))
                case first =>
                  as_aux_lemma =>
                    refine wp_region_held_drew (S := fun w' => True) (by kernel_rfl) trivial (fun hHeld => ?_)
                    refine wpAnyH_take (i := 0) (oi := ⟨some 203, _, _, _, _, _⟩) (v := ?_) rfl (by kernel_rfl) (by kernel_rfl) (by kernel_rfl) (fun _ _ _ h => h) (Or.inl ⟨by rfl, ?_⟩) hHeld ?_
                    rotate_left
                    · intro w' hSw; go_simp; try with_reducible rfl
                    try simp only [Act.put, List.setIfInBounds_toArray, List.set_cons_zero, List.set_cons_succ]
                    refine wpAnyH_take (i := 2) (oi := ⟨some 205, _, _, _, _, _⟩) (v := ?_) rfl (by kernel_rfl) (by kernel_rfl) (by kernel_rfl) (fun _ _ _ h => h) (Or.inl ⟨by rfl, ?_⟩) hHeld ?_
                    rotate_left
                    · intro w' hSw; go_simp; try with_reducible rfl
                    try simp only [Act.put, List.setIfInBounds_toArray, List.set_cons_zero, List.set_cons_succ]
                    refine wpAnyH_ready (rs := [1]) (by kernel_rfl) (by simp) ?_
                    refine AllReadyH.cons (o := ⟨some 204, _, _, _, _, _⟩) rfl (fun K hK => ?_) AllReadyH.nil
                    go_simp
                    refine HS.out.mono ?_
                    rintro e W3 ⟨rfl, h3⟩
                    have H3 := hide h3
                    clear h3 HS
                    try go_wp2_with fail
                    refine hK.out _ _ (trivial) (fun hHeld => ?_)
                    clear hK K
                    try simp only [Act.put, List.setIfInBounds_toArray, List.set_cons_zero, List.set_cons_succ]
                    refine wpAnyH_ready (rs := [3]) (by kernel_rfl) (by simp) ?_
                    refine AllReadyH.cons (o := ⟨some 206, _, _, _, _, _⟩) rfl (fun K hK => ?_) AllReadyH.nil
                    go_simp
                    refine (HRS.out _ H3.out).mono ?_
                    rintro e W4 ⟨rfl, h4⟩
                    have H4 := hide h4
                    have x0 := HCel.out _ h4
                    clear h4 HRS H3 HCel
                    try go_wp2_with fail
                    refine hK.out _ _ (trivial) (fun hHeld => ?_)
                    clear hK K
                    try simp only [Act.put, List.setIfInBounds_toArray, List.set_cons_zero, List.set_cons_succ]
                    refine wpAnyH_up (S' := fun w' => w'.cell? ⟨y, 34, none⟩ = some (.int .u64 (sp : Int))) (fun _ _ => trivial) _ _ _ _ ?_
                    replace hHeld := x0
                    refine wpAnyH_take (i := 4) (oi := ⟨some 207, _, _, _, _, _⟩) (v := ?_) rfl (by kernel_rfl) (by kernel_rfl) (by kernel_rfl) (fun _ _ _ h => h) (Or.inl ⟨by rfl, ?_⟩) hHeld ?_
                    rotate_left
                    · intro w' hSw; have v34 := hSw; go_simp; try with_reducible rfl
                    try simp only [Act.put, List.setIfInBounds_toArray, List.set_cons_zero, List.set_cons_succ]
                    refine wpAnyH_take (i := 5) (oi := ⟨some 208, _, _, _, _, _⟩) (v := ?_) rfl (by kernel_rfl) (by kernel_rfl) (by kernel_rfl) (fun _ _ _ h => h) (Or.inl ⟨by rfl, ?_⟩) hHeld ?_
                    rotate_left
                    · intro w' hSw; have v34 := hSw; go_simp; try with_reducible rfl
                    try simp only [Act.put, List.setIfInBounds_toArray, List.set_cons_zero, List.set_cons_succ]
                    refine wpAnyH_take (i := 6) (oi := ⟨some 209, _, _, _, _, _⟩) (v := ?_) rfl (by kernel_rfl) (by kernel_rfl) (by kernel_rfl) (fun _ _ _ h => h) (Or.inl ⟨by rfl, ?_⟩) hHeld ?_
                    rotate_left
                    · intro w' hSw; have v34 := hSw; go_simp; try with_reducible rfl
                    try simp only [Act.put, List.setIfInBounds_toArray, List.set_cons_zero, List.set_cons_succ]
                    refine wpAnyH_take (i := 8) (oi := ⟨some 211, _, _, _, _, _⟩) (v := ?_) rfl (by kernel_rfl) (by kernel_rfl) (by kernel_rfl) (fun _ _ _ h => h) (Or.inl ⟨by rfl, ?_⟩) hHeld ?_
                    rotate_left
                    · intro w' hSw; have v34 := hSw; go_simp; try with_reducible rfl
                    try simp only [Act.put, List.setIfInBounds_toArray, List.set_cons_zero, List.set_cons_succ]
                    refine wpAnyH_take (i := 9) (oi := ⟨some 212, _, _, _, _, _⟩) (v := ?_) rfl (by kernel_rfl) (by kernel_rfl) (by kernel_rfl) (fun _ _ _ h => h) (Or.inl ⟨by rfl, ?_⟩) hHeld ?_
                    rotate_left
                    · intro w' hSw; have v34 := hSw; go_simp; try with_reducible rfl
                    try simp only [Act.put, List.setIfInBounds_toArray, List.set_cons_zero, List.set_cons_succ]
                    refine wpAnyH_take (i := 10) (oi := ⟨some 213, _, _, _, _, _⟩) (v := ?_) rfl (by kernel_rfl) (by kernel_rfl) (by kernel_rfl) (fun _ _ _ h => h) (Or.inl ⟨by rfl, ?_⟩) hHeld ?_
                    rotate_left
                    · intro w' hSw; have v34 := hSw; go_simp; try with_reducible rfl
                    try simp only [Act.put, List.setIfInBounds_toArray, List.set_cons_zero, List.set_cons_succ]
                    refine wpAnyH_take (i := 11) (oi := ⟨some 214, _, _, _, _, _⟩) (v := ?_) rfl (by kernel_rfl) (by kernel_rfl) (by kernel_rfl) (fun _ _ _ h => h) (Or.inl ⟨by rfl, ?_⟩) hHeld ?_
                    rotate_left
                    · intro w' hSw; have v34 := hSw; go_simp; try with_reducible rfl
                    try simp only [Act.put, List.setIfInBounds_toArray, List.set_cons_zero, List.set_cons_succ]
                    refine wpAnyH_ready (rs := [7]) (by kernel_rfl) (by simp) ?_
                    refine AllReadyH.cons (o := ⟨some 210, _, _, _, _, _⟩) rfl (fun K hK => ?_) AllReadyH.nil
                    go_simp
                    refine (HPc.out _ H4.out).mono ?_
                    rintro e W5 ⟨rfl, hW5⟩
                    rw [hW5]
                    clear hW5 W5
                    try go_wp2_with fail
                    refine hK.out _ _ (hHeld) (fun hHeld => ?_)
                    clear hK K
                    try simp only [Act.put, List.setIfInBounds_toArray, List.set_cons_zero, List.set_cons_succ]
                    refine wpAnyH_take (i := 12) (oi := ⟨some 215, _, _, _, _, _⟩) (v := ?_) rfl (by kernel_rfl) (by kernel_rfl) (by kernel_rfl) (fun _ _ _ h => h) (Or.inl ⟨by rfl, ?_⟩) hHeld ?_
                    rotate_left
                    · intro w' hSw; have v34 := hSw; go_simp; try with_reducible rfl
                    try simp only [Act.put, List.setIfInBounds_toArray, List.set_cons_zero, List.set_cons_succ]
                    refine wpAnyH_take (i := 13) (oi := ⟨some 216, _, _, _, _, _⟩) (v := ?_) rfl (by kernel_rfl) (by kernel_rfl) (by kernel_rfl) (fun _ _ _ h => h) (Or.inl ⟨by rfl, ?_⟩) hHeld ?_
                    rotate_left
                    · intro w' hSw; have v34 := hSw; go_simp; try with_reducible rfl
                    try simp only [Act.put, List.setIfInBounds_toArray, List.set_cons_zero, List.set_cons_succ]
                    refine wpAnyH_done (by kernel_rfl) ?_ _
                    go_wp2_with fail
                    go_meet
                    case rel => exact ⟨rfl, H4.out⟩
                case rest =>
                  obtain ⟨rfl, HF⟩ := hcut
                  clear HS HRS HPc HCel
                  -- END
                  go_wp2_with fail
                  obtain ⟨F1, hpm⟩ := HF.out.pm
                  refine (read_rd' mm N.mem F1 131072 4096 _ hpm (by decide) (by decide)).mono ?_
                  rintro e W5 ⟨⟨b5, l5, c5, rfl, rd5⟩, hb5⟩
                  have HF5 := hide (HF.out.below hb5)
                  have R5 := hide rd5
                  clear rd5 hb5 hpm HF
                  go_wp2_with fail
                  obtain ⟨F2, hrm⟩ := HF5.out.rm
                  refine (rread_any mm2 N.mem F2 131072 4096 _ hrm (by decide) (by decide)).mono ?_
                  rintro e W6 ⟨⟨b6, l6, c6, rfl, rd6⟩, hb6⟩
                  have hd : Below W6.heap.size W6 W6.drew := (Below.refl _ _).drew
                  have HF7 := hide ((HF5.out.below hb6).below hd)
                  have R5d := hide ((R5.out.below hb6).below hd)
                  have R6d := hide (rd6.below hd)
                  generalize (if manyOk N.mem 131072 4096 4 = true then N.mem.read 131072 4096 else []) = D at R5d R6d
                  obtain ⟨S, hSD⟩ : ∃ S, strOfNums D = S := ⟨_, rfl⟩
                  have s5 := R5d.out.str
                  have s6 := R6d.out.str
                  rw [hSD] at s5 s6
                  have HSD := hide hSD
                  have hsy := str_yes (rfl : S = S)
                  generalize manyOk N.mem 131072 4096 4 = ok
                  clear rd6 R5 hb6 hrm HF5 hd hSD
                  obtain ⟨tl, htl⟩ : ∃ x, N.tr.length = x := ⟨_, rfl⟩
                  obtain ⟨il, hill⟩ : ∃ x, N.ins.length = x := ⟨_, rfl⟩
                  have HTr : Hid (∀ W, BX w W m mm me N y mm2 ey N [] → Calls Tryz.prog 23 #[.pointer (some ⟨me, 0, none⟩)] W fun e w' => ∃ a c es, e = .returned (.slice a tl c) ∧ Evs w' a tl es ∧ es.map Evt.says = N.tr ∧ Below W.heap.size W w') := fun W hW => by
                    have h9 := has_trace hW.env (fun s hs => by have := HBN.out s hs; omega) (by have := HST.out; omega)
                    rw [htl] at h9
                    exact h9
                  have HLf : Hid (∀ W, BX w W m mm me N y mm2 ey N [] → Calls Tryz.prog 24 #[.pointer (some ⟨me, 0, none⟩)] W fun e w' => e = .returned (.int .i64 (il : Int)) ∧ w' = W) := fun W hW => by
                    have h9 := has_left hW.env
                    rw [hill] at h9
                    exact h9
                  obtain ⟨fa, fc, ga, gc, fes, f0, f1, fE, fs⟩ := HF7.out.refs
                  rw [hill] at f0
                  rw [htl] at f1 fE
                  have FE := hide fE
                  have FS := hide fs
                  clear fE fs htl hill HST HBN
                  go_upto_region 46 with fail
                  go_cut [8] (fun s wx => s = .bool true ∧ Hid (Below w.heap.size w wx))
                  case first =>
                    as_aux_lemma =>
                      refine wp_region_held_drew (S := fun w' => Sem.run Tryz.prog (convert 24 9 (.slice b5 l5 c5)) w' = .ok (.string S) w' ∧ Sem.run Tryz.prog (convert 24 9 (.slice b6 l6 c6)) w' = .ok (.string S) w' ∧ w'.cell? ⟨ey, 0, none⟩ = some (.slice fa il fc) ∧ w'.cell? ⟨ey, 1, none⟩ = some (.slice ga tl gc)) (by kernel_rfl) (And.intro s5 (And.intro s6 (And.intro f0 f1))) (fun hHeld => ?_)
                      refine wpAnyH_take (i := 0) (oi := ⟨some 227, _, _, _, _, _⟩) (v := ?_) rfl (by kernel_rfl) (by kernel_rfl) (by kernel_rfl) (fun _ _ _ h => h) (Or.inl ⟨by rfl, ?_⟩) hHeld ?_
                      rotate_left
                      · intro w' hSw; obtain ⟨u5, u6, v0, v1⟩ := hSw; go_simp; try with_reducible rfl
                      try simp only [Act.put, List.setIfInBounds_toArray, List.set_cons_zero, List.set_cons_succ]
                      refine wpAnyH_take (i := 2) (oi := ⟨some 229, _, _, _, _, _⟩) (v := ?_) rfl (by kernel_rfl) (by kernel_rfl) (by kernel_rfl) (fun _ _ _ h => h) (Or.inl ⟨by rfl, ?_⟩) hHeld ?_
                      rotate_left
                      · intro w' hSw; obtain ⟨u5, u6, v0, v1⟩ := hSw; go_simp; try with_reducible rfl
                      try simp only [Act.put, List.setIfInBounds_toArray, List.set_cons_zero, List.set_cons_succ]
                      refine wpAnyH_take (i := 1) (oi := ⟨some 228, _, _, _, _, _⟩) (v := ?_) rfl (by kernel_rfl) (by kernel_rfl) (by kernel_rfl) (fun _ _ _ h => h) (Or.inl ⟨by rfl, ?_⟩) hHeld ?_
                      rotate_left
                      · intro w' hSw; obtain ⟨u5, u6, v0, v1⟩ := hSw; go_simp; try with_reducible rfl
                      try simp only [Act.put, List.setIfInBounds_toArray, List.set_cons_zero, List.set_cons_succ]
                      refine wpAnyH_take (i := 3) (oi := ⟨some 230, _, _, _, _, _⟩) (v := ?_) rfl (by kernel_rfl) (by kernel_rfl) (by kernel_rfl) (fun _ _ _ h => h) (Or.inl ⟨by rfl, ?_⟩) hHeld ?_
                      rotate_left
                      · intro w' hSw; obtain ⟨u5, u6, v0, v1⟩ := hSw; go_simp; try with_reducible rfl
                      try simp only [Act.put, List.setIfInBounds_toArray, List.set_cons_zero, List.set_cons_succ]
                      refine wpAnyH_take (i := 4) (oi := ⟨some 231, _, _, _, _, _⟩) (v := ?_) rfl (by kernel_rfl) (by kernel_rfl) (by kernel_rfl) (fun _ _ _ h => h) (Or.inl ⟨by rfl, ?_⟩) hHeld ?_
                      rotate_left
                      · intro w' hSw; obtain ⟨u5, u6, v0, v1⟩ := hSw; go_simp; try with_reducible rfl
                      try simp only [Act.put, List.setIfInBounds_toArray, List.set_cons_zero, List.set_cons_succ]
                      refine wpAnyH_take (i := 5) (oi := ⟨some 232, _, _, _, _, _⟩) (v := ?_) rfl (by kernel_rfl) (by kernel_rfl) (by kernel_rfl) (fun _ _ _ h => h) (Or.inl ⟨by rfl, ?_⟩) hHeld ?_
                      rotate_left
                      · intro w' hSw; obtain ⟨u5, u6, v0, v1⟩ := hSw; go_simp; try with_reducible rfl
                      try simp only [Act.put, List.setIfInBounds_toArray, List.set_cons_zero, List.set_cons_succ]
                      refine wpAnyH_take (i := 6) (oi := ⟨some 233, _, _, _, _, _⟩) (v := ?_) rfl (by kernel_rfl) (by kernel_rfl) (by kernel_rfl) (fun _ _ _ h => h) (Or.inl ⟨by rfl, ?_⟩) hHeld ?_
                      rotate_left
                      · intro w' hSw; obtain ⟨u5, u6, v0, v1⟩ := hSw; go_simp; try with_reducible rfl
                      try simp only [Act.put, List.setIfInBounds_toArray, List.set_cons_zero, List.set_cons_succ]
                      refine wpAnyH_take (i := 8) (oi := ⟨some 235, _, _, _, _, _⟩) (v := ?_) rfl (by kernel_rfl) (by kernel_rfl) (by kernel_rfl) (fun _ _ _ h => h) (Or.inl ⟨by rfl, ?_⟩) hHeld ?_
                      rotate_left
                      · intro w' hSw; obtain ⟨u5, u6, v0, v1⟩ := hSw; go_simp; try with_reducible rfl
                      try simp only [Act.put, List.setIfInBounds_toArray, List.set_cons_zero, List.set_cons_succ]
                      refine wpAnyH_take (i := 9) (oi := ⟨some 236, _, _, _, _, _⟩) (v := ?_) rfl (by kernel_rfl) (by kernel_rfl) (by kernel_rfl) (fun _ _ _ h => h) (Or.inl ⟨by rfl, ?_⟩) hHeld ?_
                      rotate_left
                      · intro w' hSw; obtain ⟨u5, u6, v0, v1⟩ := hSw; go_simp; try with_reducible rfl
                      try simp only [Act.put, List.setIfInBounds_toArray, List.set_cons_zero, List.set_cons_succ]
                      refine wpAnyH_take (i := 10) (oi := ⟨some 237, _, _, _, _, _⟩) (v := ?_) rfl (by kernel_rfl) (by kernel_rfl) (by kernel_rfl) (fun _ _ _ h => h) (Or.inl ⟨by rfl, ?_⟩) hHeld ?_
                      rotate_left
                      · intro w' hSw; obtain ⟨u5, u6, v0, v1⟩ := hSw; go_simp; try with_reducible rfl
                      try simp only [Act.put, List.setIfInBounds_toArray, List.set_cons_zero, List.set_cons_succ]
                      refine wpAnyH_take (i := 11) (oi := ⟨some 238, _, _, _, _, _⟩) (v := ?_) rfl (by kernel_rfl) (by kernel_rfl) (by kernel_rfl) (fun _ _ _ h => h) (Or.inl ⟨by rfl, ?_⟩) hHeld ?_
                      rotate_left
                      · intro w' hSw; obtain ⟨u5, u6, v0, v1⟩ := hSw; go_simp; try with_reducible rfl
                      try simp only [Act.put, List.setIfInBounds_toArray, List.set_cons_zero, List.set_cons_succ]
                      refine wpAnyH_ready (rs := [7]) (by kernel_rfl) (by simp) ?_
                      refine AllReadyH.cons (o := ⟨some 234, _, _, _, _, _⟩) rfl (fun K hK => ?_) AllReadyH.nil
                      go_simp
                      refine (HTr.out _ HF7.out).mono ?_
                      rintro e W7 ⟨ta, tc, tes, rfl, hE, hs, hb7⟩
                      have HF8 := hide (HF7.out.below hb7)
                      have k0 := (hb7.cell (World.block_lt_of_cell? _ _ f0)).trans f0
                      have k1 := (hb7.cell (World.block_lt_of_cell? _ _ f1)).trans f1
                      have R5e := hide (R5d.out.below hb7)
                      have R6e := hide (R6d.out.below hb7)
                      have t5 := R5e.out.str
                      have t6 := R6e.out.str
                      rw [HSD.out] at t5 t6
                      have TE := hide hE
                      have TS := hide hs
                      have FE7 := hide (FE.out.below hb7)
                      clear hE hs hb7 f0 f1 s5 s6 R5d R6d
                      try go_wp2_with fail
                      refine hK.out _ _ (And.intro t5 (And.intro t6 (And.intro k0 k1))) (fun hHeld => ?_)
                      clear hK K
                      try simp only [Act.put, List.setIfInBounds_toArray, List.set_cons_zero, List.set_cons_succ]
                      refine wpAnyH_ready (rs := [12]) (by kernel_rfl) (by simp) ?_
                      refine AllReadyH.cons (o := ⟨some 239, _, _, _, _, _⟩) rfl (fun K hK => ?_) AllReadyH.nil
                      go_simp
                      refine (events_any _ _ _ _ _ _ _ _ TE.out FE7.out (TS.out.trans FS.out.symm)).mono ?_
                      rintro e W8 ⟨rfl, hb8⟩
                      have HF9 := hide (HF8.out.below hb8)
                      have p2 := (hb8.cell (World.block_lt_of_cell? _ _ k0)).trans k0
                      have p3 := (hb8.cell (World.block_lt_of_cell? _ _ k1)).trans k1
                      have q5 := (R5e.out.below hb8).str
                      have q6 := (R6e.out.below hb8).str
                      rw [HSD.out] at q5 q6
                      clear hb8 k0 k1 t5 t6 R5e R6e HF8 TE TS FE7
                      try go_wp2_with fail
                      refine hK.out _ _ (And.intro q5 (And.intro q6 (And.intro p2 p3))) (fun hHeld => ?_)
                      clear hK K
                      try simp only [Act.put, List.setIfInBounds_toArray, List.set_cons_zero, List.set_cons_succ]
                      refine wpAnyH_take (i := 13) (oi := ⟨some 240, _, _, _, _, _⟩) (v := ?_) rfl (by kernel_rfl) (by kernel_rfl) (by kernel_rfl) (fun _ _ _ h => h) (Or.inl ⟨by rfl, ?_⟩) hHeld ?_
                      rotate_left
                      · intro w' hSw; obtain ⟨u5, u6, v0, v1⟩ := hSw; go_simp; try with_reducible rfl
                      try simp only [Act.put, List.setIfInBounds_toArray, List.set_cons_zero, List.set_cons_succ]
                      refine wpAnyH_take (i := 14) (oi := ⟨some 241, _, _, _, _, _⟩) (v := ?_) rfl (by kernel_rfl) (by kernel_rfl) (by kernel_rfl) (fun _ _ _ h => h) (Or.inl ⟨by rfl, ?_⟩) hHeld ?_
                      rotate_left
                      · intro w' hSw; obtain ⟨u5, u6, v0, v1⟩ := hSw; go_simp; try with_reducible rfl
                      try simp only [Act.put, List.setIfInBounds_toArray, List.set_cons_zero, List.set_cons_succ]
                      refine wpAnyH_take (i := 15) (oi := ⟨some 242, _, _, _, _, _⟩) (v := ?_) rfl (by kernel_rfl) (by kernel_rfl) (by kernel_rfl) (fun _ _ _ h => h) (Or.inl ⟨by rfl, ?_⟩) hHeld ?_
                      rotate_left
                      · intro w' hSw; obtain ⟨u5, u6, v0, v1⟩ := hSw; go_simp; try with_reducible rfl
                      try simp only [Act.put, List.setIfInBounds_toArray, List.set_cons_zero, List.set_cons_succ]
                      refine wpAnyH_take (i := 17) (oi := ⟨some 244, _, _, _, _, _⟩) (v := ?_) rfl (by kernel_rfl) (by kernel_rfl) (by kernel_rfl) (fun _ _ _ h => h) (Or.inl ⟨by rfl, ?_⟩) hHeld ?_
                      rotate_left
                      · intro w' hSw; obtain ⟨u5, u6, v0, v1⟩ := hSw; go_simp; try with_reducible rfl
                      try simp only [Act.put, List.setIfInBounds_toArray, List.set_cons_zero, List.set_cons_succ]
                      refine wpAnyH_take (i := 18) (oi := ⟨some 245, _, _, _, _, _⟩) (v := ?_) rfl (by kernel_rfl) (by kernel_rfl) (by kernel_rfl) (fun _ _ _ h => h) (Or.inl ⟨by rfl, ?_⟩) hHeld ?_
                      rotate_left
                      · intro w' hSw; obtain ⟨u5, u6, v0, v1⟩ := hSw; go_simp; try with_reducible rfl
                      try simp only [Act.put, List.setIfInBounds_toArray, List.set_cons_zero, List.set_cons_succ]
                      refine wpAnyH_take (i := 19) (oi := ⟨some 246, _, _, _, _, _⟩) (v := ?_) rfl (by kernel_rfl) (by kernel_rfl) (by kernel_rfl) (fun _ _ _ h => h) (Or.inl ⟨by rfl, ?_⟩) hHeld ?_
                      rotate_left
                      · intro w' hSw; obtain ⟨u5, u6, v0, v1⟩ := hSw; go_simp; try with_reducible rfl
                      try simp only [Act.put, List.setIfInBounds_toArray, List.set_cons_zero, List.set_cons_succ]
                      refine wpAnyH_take (i := 20) (oi := ⟨some 247, _, _, _, _, _⟩) (v := ?_) rfl (by kernel_rfl) (by kernel_rfl) (by kernel_rfl) (fun _ _ _ h => h) (Or.inl ⟨by rfl, ?_⟩) hHeld ?_
                      rotate_left
                      · intro w' hSw; obtain ⟨u5, u6, v0, v1⟩ := hSw; go_simp; try with_reducible rfl
                      try simp only [Act.put, List.setIfInBounds_toArray, List.set_cons_zero, List.set_cons_succ]
                      refine wpAnyH_take (i := 21) (oi := ⟨some 248, _, _, _, _, _⟩) (v := ?_) rfl (by kernel_rfl) (by kernel_rfl) (by kernel_rfl) (fun _ _ _ h => h) (Or.inl ⟨by rfl, ?_⟩) hHeld ?_
                      rotate_left
                      · intro w' hSw; obtain ⟨u5, u6, v0, v1⟩ := hSw; go_simp; try with_reducible rfl
                      try simp only [Act.put, List.setIfInBounds_toArray, List.set_cons_zero, List.set_cons_succ]
                      refine wpAnyH_ready (rs := [16]) (by kernel_rfl) (by simp) ?_
                      refine AllReadyH.cons (o := ⟨some 243, _, _, _, _, _⟩) rfl (fun K hK => ?_) AllReadyH.nil
                      go_simp
                      refine (HLf.out _ HF9.out).mono ?_
                      rintro e W5 ⟨rfl, hW5⟩
                      rw [hW5]
                      clear hW5 W5
                      try go_wp2_with fail
                      refine hK.out _ _ (hHeld) (fun hHeld => ?_)
                      clear hK K
                      try simp only [Act.put, List.setIfInBounds_toArray, List.set_cons_zero, List.set_cons_succ]
                      refine wpAnyH_take (i := 22) (oi := ⟨some 249, _, _, _, _, _⟩) (v := ?_) rfl (by kernel_rfl) (by kernel_rfl) (by kernel_rfl) (fun _ _ _ h => h) (Or.inl ⟨by rfl, ?_⟩) hHeld ?_
                      rotate_left
                      · intro w' hSw; obtain ⟨u5, u6, v0, v1⟩ := hSw; go_simp; try with_reducible rfl
                      try simp only [Act.put, List.setIfInBounds_toArray, List.set_cons_zero, List.set_cons_succ]
                      refine wpAnyH_take (i := 23) (oi := ⟨some 250, _, _, _, _, _⟩) (v := ?_) rfl (by kernel_rfl) (by kernel_rfl) (by kernel_rfl) (fun _ _ _ h => h) (Or.inl ⟨by rfl, ?_⟩) hHeld ?_
                      rotate_left
                      · intro w' hSw; obtain ⟨u5, u6, v0, v1⟩ := hSw; go_simp; try with_reducible rfl
                      try simp only [Act.put, List.setIfInBounds_toArray, List.set_cons_zero, List.set_cons_succ]
                      refine wpAnyH_take (i := 24) (oi := ⟨some 8, _, _, _, _, _⟩) (v := ?_) rfl (by kernel_rfl) (by kernel_rfl) (by kernel_rfl) (fun _ _ _ h => h) (Or.inl ⟨by rfl, ?_⟩) hHeld ?_
                      rotate_left
                      · intro w' hSw; obtain ⟨u5, u6, v0, v1⟩ := hSw; go_simp; try with_reducible rfl
                      try simp only [Act.put, List.setIfInBounds_toArray, List.set_cons_zero, List.set_cons_succ]
                      refine wpAnyH_done (by kernel_rfl) ?_ _
                      go_wp2_with fail
                      go_meet
                      case rel => exact ⟨rfl, HF9.out.bel⟩
                  case rest =>
                    obtain ⟨rfl, HZ⟩ := hcut
                    clear HTr HLf HF7 R5d R6d s5 s6 FE FS f0 f1
                    go_wp2
                    go_ret
                    exact ⟨rfl, HZ.out⟩

end Go.Proofs.YtgjfelkbblbjfaaGreatDoor
