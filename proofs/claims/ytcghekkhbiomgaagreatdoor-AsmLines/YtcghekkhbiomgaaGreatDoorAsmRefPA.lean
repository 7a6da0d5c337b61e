/- The document's Parse of a text with a blank in it. -/
import Derived.Test.YtcghekkhbiomgaaGreatDoorAsmRefP0
namespace Go.Proofs.YtcghekkhbiomgaaGreatDoor
open Go.RowKit
set_option linter.unusedVariables false
set_option maxRecDepth 100000
set_option linter.unusedSimpArgs false

set_option maxHeartbeats 25600000 in
theorem rparse_sp (l : List UInt8) (w : World) (hl : l.length ≤ 1000000) (hsp : (32 : UInt8) ∈ l) :
    Calls Tryz.prog 13 #[.string (str l)] w fun e w' => e = .returned (prsV (prsR l)) ∧ Below w.heap.size w w' := by
  obtain ⟨i0, hi, hz0, hz1, hz2⟩ := info_parts infoI64
  have hls := str_size l
  have HX : Hid (∀ (n : Nat) (h : n < (str l).size), l[n]? = some ((str l)[n]'h)) := hide (fun n h => Lib.getElem_mk l n h)
  have HTk := hide (take_str l)
  have HDr := hide (drop_str l)
  have HA := hide (fun (i : Nat) => @hd_at l i)
  have HNo : Hid ((∀ j, j < l.length → l[j]? ≠ some 32) → False) := hide (fun h => by
    obtain ⟨j, hj, hje⟩ := List.getElem_of_mem hsp
    exact h j hj (by rw [List.getElem?_eq_getElem hj, hje]))
  have HF := hide (fun w => rfind_any (str (hdB 32 l)) w)
  have HNum := hide (fun (r : List UInt8) (w : World) (h : r.length ≤ 1000000) => nums_any r w h)
  have hP : prsR l = (match fnd (hdB 32 l) with
    | none => none
    | some k => if okN k (asg k (nms false (tlB 32 l))) = true ∧ tx k (asg k (nms false (tlB 32 l))) = l then some (k, asg k (nms false (tlB 32 l))) else none) := rfl
  obtain ⟨tot, htot⟩ : ∃ tot, tot = prsR l := ⟨_, rfl⟩
  rw [← htot] at hP ⊢
  have HP := hide hP
  have HSt : Hid (∀ a, str a = str l → a = l) := hide (fun a h => str_inj h)
  have hl2 : l.length ≤ 1000000 := hl
  have HL2 := hide hl2
  rw [← hls] at HNo hl
  have HS : Hid (∀ a, a = l → str a = str l) := hide (fun a h => by rw [h])
  generalize str l = s at *
  clear hls hP htot hl2
  go_enter Tryz.func13, Tryz.ntmps13
  go_wp2
  go_loopg [4, 5, 6] s.size (fun g nv rv iv wr => ∃ i : Nat, i ≤ s.size ∧ g = s.size - i ∧ nv = .string s ∧ rv = .string ⟨#[]⟩ ∧ iv = .int .i64 i ∧ wr = w.alloc (.cells #[.int .i64 0, .int .i64 0, .int .i64 0, .int .i64 0, .int .i64 0] 23) ∧ Hid (∀ j, j < i → l[j]? ≠ some 32))
  case atStart => exact ⟨0, Nat.zero_le _, rfl, rfl, rfl, rfl, rfl, fun j h => absurd h (Nat.not_lt_zero _)⟩
  case round =>
    obtain ⟨i, hi1, rfl, rfl, rfl, rfl, rfl, HO⟩ := hrel
    by_cases hlt : i < s.size
    · have hlt' : (i : Int) < s.size := by omega
      have hx := HX.out i hlt
      obtain ⟨c, hc⟩ : ∃ c, c = s[i]'hlt := ⟨_, rfl⟩
      rw [← hc] at hx
      have hy : ((s[i]'hlt).toNat : Int) = (c.toNat : Int) := by rw [hc]
      have HXc := hide hx
      clear hc hx
      by_cases hc32 : c = 32
      · subst hc32
        replace hy : ((s[i]'hlt).toNat : Int) = 32 := hy
        obtain ⟨a1, a2⟩ := HA.out i HXc.out HO.out
        have e1 := HTk.out i
        have e2 := HDr.out i
        rw [← a1] at e1
        rw [a2] at e2
        have HRS : Hid (nms false (32 :: tlB 32 l) = nms false (tlB 32 l)) := hide (nms_sp _)
        have HRL : Hid ((32 :: tlB 32 l).length ≤ 1000000) := hide (by rw [← a2, List.length_drop]; have := HL2.out; omega)
        obtain ⟨rs, hrs⟩ : ∃ rs, rs = 32 :: tlB 32 l := ⟨_, rfl⟩
        rw [← hrs] at e2 HRS HRL
        obtain ⟨hd, hhd⟩ : ∃ hd, hd = str (hdB 32 l) := ⟨_, rfl⟩
        rw [← hhd] at e1 HF
        obtain ⟨rsS, hrsS⟩ : ∃ rsS, rsS = str rs := ⟨_, rfl⟩
        rw [← hrsS] at e2
        have HH := hide hhd
        have HNR0 : Hid (∀ w, Calls Tryz.prog 35 #[.string rsS] w fun e w' => ∃ v, e = .returned v ∧ w'.ownsRow w.heap.size 2 1 v (nms false (tlB 32 l)).length ((nms false (tlB 32 l)).map (Value.int .i64)) ∧ Below w.heap.size w w') := hide (fun w => by
          have := HNum.out rs w HRL.out
          rw [← hrsS, HRS.out] at this
          exact this)
        have hle : (i : Int) ≤ s.size := by omega
        clear a1 a2 hrs hhd hrsS HRS HRL HNum HXc HO HX HA HNo HTk HDr
        go_wp2_with fail
        go_quiet (fail)
        go_wp2_with fail
        refine (HF.out _).mono ?_
        rintro e W1 ⟨hf, hW⟩
        have c1 : Cel W1 w.heap.size 0 0 0 0 0 := by rw [hW]; exact (cel_alloc w 0 0 0 0 0).below (bel_drewN _ nq) (by simp)
        have HB1 : Hid (Below w.heap.size w W1) := by rw [hW]; exact ((Below.refl _ w).alloc (Nat.le_refl _) _).trans ((bel_drewN _ nq).mono (by simp))
        have hzz : w.heap.size < W1.heap.size := by rw [hW]; show w.heap.size < (w.alloc _).heap.size; simp
        clear hW HF
        rw [HH.out] at hf
        rcases hf.fnd with ⟨k, hk, rfl⟩ | ⟨hk, rfl⟩
        · obtain ⟨hk1, hk2, _⟩ := fnd_some hk
          have HT0 : Hid (tot = if okN k (asg k (nms false (tlB 32 l))) = true ∧ tx k (asg k (nms false (tlB 32 l))) = l then some (k, asg k (nms false (tlB 32 l))) else none) := hide (by rw [HP.out, hk])
          have HNR := hide (HNR0.out W1)
          have HBd : Hid (∀ x ∈ nms false (tlB 32 l), -10995116277769 ≤ x ∧ x ≤ 10995116277769) := hide (fun x hx => nms_bd hx)
          generalize nms false (tlB 32 l) = xs at *
          clear hf hk HP HNR0
          go_wp2_with fail
          refine HNR.out.mono ?_
          rintro e W2 ⟨v2, rfl, r2, b2⟩
          have c2 := c1.below b2 hzz
          have hz2' : w.heap.size < W2.heap.size := Nat.lt_of_lt_of_le hzz b2.size
          have HB2 := hide (HB1.out.trans (b2.mono (by omega)))
          have HR2 := hide r2
          have HC2 := hide c2
          have hz12 := b2.size
          clear c1 c2 r2 b2 HB1 HNR
          go_wp2
          obtain ⟨a2, cap2, hv2⟩ := own_sl HR2.out
          have HV2 := hide hv2
          clear hv2
          go_loopg [9] 3 (fun g v wr => ∃ (j : Nat) (a : Option Addr) (cap : Nat), j ≤ 3 ∧ g = 3 - j ∧ v = .slice a (xs.length + j) cap ∧ (j = 0 ∨ xs.length + j ≤ 3) ∧ Hid (wr.ownsRow W1.heap.size 2 1 (.slice a (xs.length + j) cap) (xs.length + j) ((xs ++ List.replicate j 0).map (Value.int .i64))) ∧ Hid (Cel wr w.heap.size 0 0 0 0 0) ∧ Hid (Below w.heap.size w wr) ∧ W1.heap.size ≤ wr.heap.size)
          case atStart => exact ⟨0, a2, cap2, by omega, rfl, HV2.out, .inl rfl, hide (by have := HR2.out; rw [HV2.out] at this; simpa using this), HC2.out, HB2.out, hz12⟩
          case round =>
            obtain ⟨j, a, cap, hj, rfl, rfl, hj3, HR, HC, HB, hzr⟩ := hrel
            clear HR2 HC2 HB2 HV2
            by_cases hlen : xs.length + j < 3
            · have hlen' : (xs.length : Int) + j < 3 := by omega
              go_wp2_with (at_builtin; refine wpList_append_own _ rfl _ _ 62 rfl W1.heap.size 2 i0 (.int .i64 0) 1 8 Tryz.underlying62 hi hz0 hz1 hz2 rfl (by decide) _ _ _ rfl (HR.out.alloc _) ⟨wr.heap.size, 0, none⟩ 1 1 [Value.int .i64 0] rfl rfl (by intro j u' hj; match j, hj with | 0, hj => simp at hj; subst hj; simp [Addr.add]) (by intro u' hu'; simp at hu'; subst hu'; rfl) (by unfold maxLen; omega) (by omega) (by simp; omega) ?_; intro v5 W5 r5 g5 n5; refine Hid.out ?_)
              refine Lib.hid ?_
              have z5 := g5.size
              have b5 : Below W1.heap.size wr W5 := ((Below.refl _ wr).alloc hzr _).grown g5 (by simp; omega) (fun g hg => (World.ownsRow.lt HR.out _ hg).1)
              rw [i64_row, List.append_assoc, show List.replicate j (0 : Int) ++ [0] = List.replicate (j + 1) 0 from (List.replicate_succ' ..).symm, Nat.add_assoc] at r5
              obtain ⟨a5, cap5, rfl⟩ := own_sl r5
              have HR5 := hide r5
              have HB5 := hide (HB.out.trans (b5.mono (by omega)))
              have HC5 := hide (HC.out.below b5 hzz)
              have hz5 : W1.heap.size ≤ W5.heap.size := Nat.le_trans hzr b5.size
              clear r5 b5 n5 g5 z5
              go_wp2
              go_roundg (3 - (j + 1))
              case measure => omega
              case rel => exact ⟨j + 1, a5, cap5, by omega, rfl, rfl, .inr (by omega), HR5.out, HC5.out, HB5.out, hz5⟩
            · obtain ⟨g, cap', hv, hg1, hg2⟩ := HR.out.form (by omega)
              have hv' : a = some ⟨g, 0, none⟩ := by injection hv
              subst hv'
              have hcell : ∀ t, t < 3 → wr.cell? ⟨g, t, none⟩ = some (.int .i64 (xs.getD t 0)) := fun t ht => by
                have h1 := World.ownsRow.cells HR.out (g := g) rfl t (.int .i64 ((xs ++ List.replicate j 0).getD t 0)) (by
                  rw [List.getElem?_map, List.getD_eq_getElem?_getD, List.getElem?_eq_getElem (by simp; omega)]; rfl)
                rw [pad_at] at h1
                have e : (⟨g, 0, none⟩ : Addr).add t = ⟨g, t, none⟩ := by unfold Addr.add; split <;> simp_all
                rw [e] at h1
                exact h1
              have p0 := hcell 0 (by omega)
              have p1 := hcell 1 (by omega)
              have p2 := hcell 2 (by omega)
              have hn3 : (3 : Int) ≤ (xs.length : Int) + j := by omega
              obtain ⟨y0, hy0⟩ : ∃ y0, y0 = xs.getD 0 0 := ⟨_, rfl⟩
              obtain ⟨y1, hy1⟩ : ∃ y1, y1 = xs.getD 1 0 := ⟨_, rfl⟩
              obtain ⟨y2, hy2⟩ : ∃ y2, y2 = xs.getD 2 0 := ⟨_, rfl⟩
              rw [← hy0] at p0
              rw [← hy1] at p1
              rw [← hy2] at p2
              have HY0 := hide hy0
              have HY1 := hide hy1
              have HY2 := hide hy2
              have hb0 := HBd.out
              have bz0 := getD_bd hb0 0
              have bz1 := getD_bd hb0 1
              have bz2 := getD_bd hb0 2
              rw [← hy0] at bz0
              rw [← hy1] at bz1
              rw [← hy2] at bz2
              obtain ⟨b00, b01⟩ := bz0
              obtain ⟨b10, b11⟩ := bz1
              obtain ⟨b20, b21⟩ := bz2
              have HFit := hide (asg_fit k hb0)
              have HFm := hide (fun w => rform_any k w)
              have hn0 : (0 : Int) < (xs.length : Int) + j := by omega
              have hn1 : (1 : Int) < (xs.length : Int) + j := by omega
              have hn2 : (2 : Int) < (xs.length : Int) + j := by omega
              clear hcell hv hy0 hy1 hy2 hlen hb0
              go_upto_region 15 with fail
              rename_i K1 hK1 K0 hK0
              have TAIL : ∀ {d1 s1 t1 i1 : Int} {b2 : Nat} {V : World} {u1x u3x u4x u5x u6x u7x u8x u9x u11x u12x u13x u14x u15x u16x u17x u18x u19x u20x u21x u22x u23x u24x u25x u26x u27x u28x u29x u30x u31x u32x u33x u34x u35x u36x u37x u38x u39x u40x u41x u42x u43x u44x u45x u46x u47x u48x u49x u50x u51x u52x u53x u54x u55x u56x u57x u58x u59x u60x u61x u62x u63x u64x u65x u66x u67x u68x u69x u70x u71x u72x u73x u74x u75x u76x u77x u78x u79x u80x u81x u82x u83x u84x u85x u86x u87x u88x u89x u90x u91x u92x u93x u94x u95x u96x u97x u98x u99x u100x u101x u102x u103x u104x u105x u106x u107x u108x u109x u110x u111x u112x u113x u114x u115x u116x u117x u118x u119x u120x u121x u122x u123x u124x u125x u126x u127x u128x u129x u130x u131x u132x u133x u134x u135x u136x u137x u138x u139x u140x u141x u142x u143x u144x u145x u146x u147x u148x u149x : Value}, Hid (asg k xs = ⟨d1, s1, t1, i1⟩) → Hid (Cel V w.heap.size 0 0 0 0 0) → Hid (Cel V b2 k d1 s1 t1 i1) → Hid (Below w.heap.size w V) → w.heap.size < b2 → b2 < V.heap.size → K1 ⟨#[.string s, u1x, .pointer (some ⟨w.heap.size, 0, none⟩), u3x, u4x, u5x, u6x, u7x, u8x, u9x, .pointer (some ⟨b2, 0, none⟩), u11x, u12x, u13x, u14x, u15x, u16x, u17x, u18x, u19x, u20x, u21x, u22x, u23x, u24x, u25x, u26x, u27x, u28x, u29x, u30x, u31x, u32x, u33x, u34x, u35x, u36x, u37x, u38x, u39x, u40x, u41x, u42x, u43x, u44x, u45x, u46x, u47x, u48x, u49x, u50x, u51x, u52x, u53x, u54x, u55x, u56x, u57x, u58x, u59x, u60x, u61x, u62x, u63x, u64x, u65x, u66x, u67x, u68x, u69x, u70x, u71x, u72x, u73x, u74x, u75x, u76x, u77x, u78x, u79x, u80x, u81x, u82x, u83x, u84x, u85x, u86x, u87x, u88x, u89x, u90x, u91x, u92x, u93x, u94x, u95x, u96x, u97x, u98x, u99x, u100x, u101x, u102x, u103x, u104x, u105x, u106x, u107x, u108x, u109x, u110x, u111x, u112x, u113x, u114x, u115x, u116x, u117x, u118x, u119x, u120x, u121x, u122x, u123x, u124x, u125x, u126x, u127x, u128x, u129x, u130x, u131x, u132x, u133x, u134x, u135x, u136x, u137x, u138x, u139x, u140x, u141x, u142x, u143x, u144x, u145x, u146x, u147x, u148x, u149x], []⟩ V := by
                intro d1 s1 t1 i1 b2 V u1x u3x u4x u5x u6x u7x u8x u9x u11x u12x u13x u14x u15x u16x u17x u18x u19x u20x u21x u22x u23x u24x u25x u26x u27x u28x u29x u30x u31x u32x u33x u34x u35x u36x u37x u38x u39x u40x u41x u42x u43x u44x u45x u46x u47x u48x u49x u50x u51x u52x u53x u54x u55x u56x u57x u58x u59x u60x u61x u62x u63x u64x u65x u66x u67x u68x u69x u70x u71x u72x u73x u74x u75x u76x u77x u78x u79x u80x u81x u82x u83x u84x u85x u86x u87x u88x u89x u90x u91x u92x u93x u94x u95x u96x u97x u98x u99x u100x u101x u102x u103x u104x u105x u106x u107x u108x u109x u110x u111x u112x u113x u114x u115x u116x u117x u118x u119x u120x u121x u122x u123x u124x u125x u126x u127x u128x u129x u130x u131x u132x u133x u134x u135x u136x u137x u138x u139x u140x u141x u142x u143x u144x u145x u146x u147x u148x u149x HAs HCV HDV HBV hw2 h2V
                apply hK1
                clear hK1 hK0 p0 p1 p2 HR HC HB HY0 HY1 HY2 HFm b00 b01 b10 b11 b20 b21
                have hfit := HFit.out
                rw [HAs.out] at hfit
                have HEn := hide (fun w => renc_any k d1 s1 t1 i1 w hfit.2.2.2.1 hfit.2.2.2.2)
                have HTx := hide (fun w => rtext_any k ⟨d1, s1, t1, i1⟩ w hfit)
                have HT1 : Hid (tot = if okN k ⟨d1, s1, t1, i1⟩ = true ∧ tx k ⟨d1, s1, t1, i1⟩ = l then some (k, ⟨d1, s1, t1, i1⟩) else none) := hide (by rw [← HAs.out]; exact HT0.out)
                obtain ⟨ok, hok⟩ : ∃ ok, ok = encOk k d1 s1 t1 i1 := ⟨_, rfl⟩
                rw [← hok] at HEn
                have HOk : Hid (okN k ⟨d1, s1, t1, i1⟩ = ok) := hide hok.symm
                generalize encW k d1 s1 t1 i1 = ew at *
                obtain ⟨t, ht⟩ : ∃ t, t = str (tx k ⟨d1, s1, t1, i1⟩) := ⟨_, rfl⟩
                rw [← ht] at HTx
                have HNE : Hid (tx k ⟨d1, s1, t1, i1⟩ = l → t = s) := hide (fun h => by rw [ht]; exact HS.out _ h)
                have HNE' : Hid (¬ tx k ⟨d1, s1, t1, i1⟩ = l → t ≠ s) := hide (fun h e => h (HSt.out _ (by rw [← ht, e])))
                clear hok ht HT0 HFit HAs hfit
                unfold inst at HEn HTx
                dsimp only at HTx
                have n1 : w.heap.size ≠ b2 := by omega
                have n2 : b2 ≠ w.heap.size := by omega
                have HDV' := hide HDV.out
                obtain ⟨p0, p1, p2, p3, p4, yy⟩ := HDV.out
                clear yy HDV
                go_wp2_with (go_at_call 36; refine (HEn.out _).mono ?_; rintro e W3 ⟨rfl, hb3⟩; refine Hid.out ?_)
                refine Lib.hid ?_
                have c3 := HCV.out.below hb3 (by omega)
                have d3 := HDV'.out.below hb3 h2V
                have hz3 : b2 < W3.heap.size := Nat.lt_of_lt_of_le h2V hb3.size
                have HB3 := hide (HBV.out.trans (hb3.mono (by omega)))
                clear hb3 HEn HBV HCV HDV' p0 p1 p2 p3 p4 h2V
                cases ok with
                | false =>
                  have HT : Hid (tot = none) := hide (by rw [HT1.out, HOk.out]; simp)
                  clear HTx HT1 HOk HNE HNE'
                  obtain ⟨p0, p1, p2, p3, p4, yy⟩ := d3
                  clear yy
                  obtain ⟨q0, q1, q2, q3, q4, z⟩ := c3
                  have z0 := z 0
                  have z1 := z 1
                  have z2 := z 2
                  have z3 := z 3
                  have z4 := z 4
                  clear z
                  go_wp2
                  refine bodyPost_ret (v := .tuple #[inst 0 0 0 0 0, .bool false]) (by simp [results, Tryz.results13, go_sem, inst, q0, q1, q2, q3, q4, hw2]) rfl ⟨by rw [HT.out]; rfl, ?_⟩
                  have hb := HB3.out
                  clear HB3
                  go_grown
                | true =>
                  have d3' := d3
                  obtain ⟨p0, p1, p2, p3, p4, yy⟩ := d3
                  clear yy
                  go_wp2_with (go_at_call 10; refine (HTx.out _).mono ?_; rintro e W4 ⟨rfl, hb4⟩; refine Hid.out ?_)
                  refine Lib.hid ?_
                  have c4 := c3.below hb4 (by omega)
                  have d4 := d3'.below hb4 hz3
                  have hz4 : b2 < W4.heap.size := Nat.lt_of_lt_of_le hz3 hb4.size
                  have HB4 := hide (HB3.out.trans (hb4.mono (by omega)))
                  clear c3 d3' hb4 HTx HB3 p0 p1 p2 p3 p4 hz3
                  obtain ⟨p0, p1, p2, p3, p4, yy⟩ := d4
                  clear yy
                  by_cases hx : tx k ⟨d1, s1, t1, i1⟩ = l
                  · have HT : Hid (tot = some (k, ⟨d1, s1, t1, i1⟩)) := hide (by rw [HT1.out, HOk.out, if_pos ⟨rfl, hx⟩])
                    have hst := str_yes (HNE.out hx)
                    clear HT1 HOk HNE HNE' hx
                    obtain ⟨q0, q1, q2, q3, q4, z⟩ := c4
                    have z0 := z 0
                    have z1 := z 1
                    have z2 := z 2
                    have z3 := z 3
                    have z4 := z 4
                    clear z
                    go_wp2
                    refine bodyPost_ret (v := .tuple #[inst k d1 s1 t1 i1, .bool true]) (by simp [results, Tryz.results13, go_sem, inst, q0, q1, q2, q3, q4, hw2]) rfl ⟨by rw [HT.out]; rfl, ?_⟩
                    have hb := HB4.out
                    clear HB4
                    go_grown
                  · have HT : Hid (tot = none) := hide (by rw [HT1.out, HOk.out, if_neg (fun h => hx h.2)])
                    have hst := str_no (HNE'.out hx)
                    clear HT1 HOk HNE HNE' hx
                    obtain ⟨q0, q1, q2, q3, q4, z⟩ := c4
                    have z0 := z 0
                    have z1 := z 1
                    have z2 := z 2
                    have z3 := z 3
                    have z4 := z 4
                    clear z
                    go_wp2
                    refine bodyPost_ret (v := .tuple #[inst 0 0 0 0 0, .bool false]) (by simp [results, Tryz.results13, go_sem, inst, q0, q1, q2, q3, q4, hw2]) rfl ⟨by rw [HT.out]; rfl, ?_⟩
                    have hb := HB4.out
                    clear HB4
                    go_grown
              clear hK1
              go_wp2_with fail
              rcases fmo_cases k with hf | hf | hf | hf | hf | hf | hf
              all_goals rw [hf] at HFm
              · have HAs : Hid (asg k xs = ⟨y0, y1, y2, 0⟩) := hide (by unfold asg; rw [hf, HY0.out, HY1.out, HY2.out]; rfl)
                clear hf
                refine (HFm.out _).mono ?_
                rintro e W ⟨rfl, hW⟩
                rw [hW]
                clear hW W HFm
                go_wp2_with fail
                go_region_held3 (fun w' => w'.cell? ⟨g, 0, none⟩ = some (.int .i64 y0) ∧ w'.cell? ⟨g, 1, none⟩ = some (.int .i64 y1) ∧ w'.cell? ⟨g, 2, none⟩ = some (.int .i64 y2)) (go_keep) (fail)
                have cV := hide ((HC.out.below ((Below.refl _ wr).alloc (Nat.le_refl _) (.cells #[.int .i64 k, .int .i64 y0, .int .i64 y1, .int .i64 y2, .int .i64 0] 23)) (by omega)).below ((bel_drewN (wr.alloc (.cells #[.int .i64 k, .int .i64 y0, .int .i64 y1, .int .i64 y2, .int .i64 0] 23)) 1)) (by simp; omega))
                have dV := hide ((cel_alloc wr k y0 y1 y2 0).below (B := (wr.alloc (.cells #[.int .i64 k, .int .i64 y0, .int .i64 y1, .int .i64 y2, .int .i64 0] 23)).heap.size) ((bel_drewN (wr.alloc (.cells #[.int .i64 k, .int .i64 y0, .int .i64 y1, .int .i64 y2, .int .i64 0] 23)) 1)) (by simp))
                have bV := hide ((HB.out.alloc (show w.heap.size ≤ wr.heap.size by omega) (.cells #[.int .i64 k, .int .i64 y0, .int .i64 y1, .int .i64 y2, .int .i64 0] 23)).trans (((bel_drewN (wr.alloc (.cells #[.int .i64 k, .int .i64 y0, .int .i64 y1, .int .i64 y2, .int .i64 0] 23)) 1)).mono (by simp; omega)))
                go_wp2
                exact TAIL HAs cV dV bV (by omega) (by show wr.heap.size < (wr.alloc (.cells #[.int .i64 k, .int .i64 y0, .int .i64 y1, .int .i64 y2, .int .i64 0] 23)).heap.size; simp)
              · cases hb : thr k with
                | true =>
                  have ht4 : (k : Int) = 4 ∨ (11 ≤ (k : Int) ∧ (k : Int) ≤ 17) := by simpa [thr] using hb
                  rcases ht4 with t4 | ⟨t1, t2⟩
                  · have t0 : ((k : Int) == 4) = true := by simp [t4]
                    clear t4
                    have HAs : Hid (asg k xs = ⟨y0, y2, 0, y1⟩) := hide (by unfold asg; rw [hf, hb, HY0.out, HY1.out, HY2.out]; rfl)
                    clear hf hb
                    refine (HFm.out _).mono ?_
                    rintro e W ⟨rfl, hW⟩
                    rw [hW]
                    clear hW W HFm
                    go_wp2_with fail
                    go_region_held3 (fun w' => w'.cell? ⟨g, 0, none⟩ = some (.int .i64 y0) ∧ w'.cell? ⟨g, 1, none⟩ = some (.int .i64 y1) ∧ w'.cell? ⟨g, 2, none⟩ = some (.int .i64 y2)) (go_keep) (fail)
                    go_wp2_with fail
                    go_region_held3 (fun w' => w'.cell? ⟨g, 0, none⟩ = some (.int .i64 y0) ∧ w'.cell? ⟨g, 1, none⟩ = some (.int .i64 y1) ∧ w'.cell? ⟨g, 2, none⟩ = some (.int .i64 y2)) (go_keep) (fail)
                    have cV := hide ((HC.out.below ((Below.refl _ wr).alloc (Nat.le_refl _) (.cells #[.int .i64 k, .int .i64 y0, .int .i64 y2, .int .i64 0, .int .i64 y1] 23)) (by omega)).below ((bel_drewN (wr.alloc (.cells #[.int .i64 k, .int .i64 y0, .int .i64 y2, .int .i64 0, .int .i64 y1] 23)) 2)) (by simp; omega))
                    have dV := hide ((cel_alloc wr k y0 y2 0 y1).below (B := (wr.alloc (.cells #[.int .i64 k, .int .i64 y0, .int .i64 y2, .int .i64 0, .int .i64 y1] 23)).heap.size) ((bel_drewN (wr.alloc (.cells #[.int .i64 k, .int .i64 y0, .int .i64 y2, .int .i64 0, .int .i64 y1] 23)) 2)) (by simp))
                    have bV := hide ((HB.out.alloc (show w.heap.size ≤ wr.heap.size by omega) (.cells #[.int .i64 k, .int .i64 y0, .int .i64 y2, .int .i64 0, .int .i64 y1] 23)).trans (((bel_drewN (wr.alloc (.cells #[.int .i64 k, .int .i64 y0, .int .i64 y2, .int .i64 0, .int .i64 y1] 23)) 2)).mono (by simp; omega)))
                    go_wp2
                    exact TAIL HAs cV dV bV (by omega) (by show wr.heap.size < (wr.alloc (.cells #[.int .i64 k, .int .i64 y0, .int .i64 y2, .int .i64 0, .int .i64 y1] 23)).heap.size; simp)
                  · have t0 : ((k : Int) == 4) = false := by simp; omega
                    have HAs : Hid (asg k xs = ⟨y0, y2, 0, y1⟩) := hide (by unfold asg; rw [hf, hb, HY0.out, HY1.out, HY2.out]; rfl)
                    clear hf hb
                    refine (HFm.out _).mono ?_
                    rintro e W ⟨rfl, hW⟩
                    rw [hW]
                    clear hW W HFm
                    go_wp2_with fail
                    go_region_held3 (fun w' => w'.cell? ⟨g, 0, none⟩ = some (.int .i64 y0) ∧ w'.cell? ⟨g, 1, none⟩ = some (.int .i64 y1) ∧ w'.cell? ⟨g, 2, none⟩ = some (.int .i64 y2)) (go_keep) (fail)
                    go_wp2_with fail
                    go_region_held3 (fun w' => w'.cell? ⟨g, 0, none⟩ = some (.int .i64 y0) ∧ w'.cell? ⟨g, 1, none⟩ = some (.int .i64 y1) ∧ w'.cell? ⟨g, 2, none⟩ = some (.int .i64 y2)) (go_keep) (fail)
                    have cV := hide ((HC.out.below ((Below.refl _ wr).alloc (Nat.le_refl _) (.cells #[.int .i64 k, .int .i64 y0, .int .i64 y2, .int .i64 0, .int .i64 y1] 23)) (by omega)).below ((bel_drewN (wr.alloc (.cells #[.int .i64 k, .int .i64 y0, .int .i64 y2, .int .i64 0, .int .i64 y1] 23)) 2)) (by simp; omega))
                    have dV := hide ((cel_alloc wr k y0 y2 0 y1).below (B := (wr.alloc (.cells #[.int .i64 k, .int .i64 y0, .int .i64 y2, .int .i64 0, .int .i64 y1] 23)).heap.size) ((bel_drewN (wr.alloc (.cells #[.int .i64 k, .int .i64 y0, .int .i64 y2, .int .i64 0, .int .i64 y1] 23)) 2)) (by simp))
                    have bV := hide ((HB.out.alloc (show w.heap.size ≤ wr.heap.size by omega) (.cells #[.int .i64 k, .int .i64 y0, .int .i64 y2, .int .i64 0, .int .i64 y1] 23)).trans (((bel_drewN (wr.alloc (.cells #[.int .i64 k, .int .i64 y0, .int .i64 y2, .int .i64 0, .int .i64 y1] 23)) 2)).mono (by simp; omega)))
                    go_wp2
                    exact TAIL HAs cV dV bV (by omega) (by show wr.heap.size < (wr.alloc (.cells #[.int .i64 k, .int .i64 y0, .int .i64 y2, .int .i64 0, .int .i64 y1] 23)).heap.size; simp)
                | false =>
                  have ht4 : ¬ (k : Int) = 4 ∧ ((k : Int) < 11 ∨ 17 < (k : Int)) := by
                    simp [thr] at hb
                    omega
                  have t0 : ((k : Int) == 4) = false := by simp; omega
                  rcases ht4.2 with t1 | t1
                  · have HAs : Hid (asg k xs = ⟨y0, y1, 0, y2⟩) := hide (by unfold asg; rw [hf, hb, HY0.out, HY1.out, HY2.out]; rfl)
                    clear hf hb
                    refine (HFm.out _).mono ?_
                    rintro e W ⟨rfl, hW⟩
                    rw [hW]
                    clear hW W HFm
                    go_wp2_with fail
                    go_region_held3 (fun w' => w'.cell? ⟨g, 0, none⟩ = some (.int .i64 y0) ∧ w'.cell? ⟨g, 1, none⟩ = some (.int .i64 y1) ∧ w'.cell? ⟨g, 2, none⟩ = some (.int .i64 y2)) (go_keep) (fail)
                    have cV := hide ((HC.out.below ((Below.refl _ wr).alloc (Nat.le_refl _) (.cells #[.int .i64 k, .int .i64 y0, .int .i64 y1, .int .i64 0, .int .i64 y2] 23)) (by omega)).below ((bel_drewN (wr.alloc (.cells #[.int .i64 k, .int .i64 y0, .int .i64 y1, .int .i64 0, .int .i64 y2] 23)) 1)) (by simp; omega))
                    have dV := hide ((cel_alloc wr k y0 y1 0 y2).below (B := (wr.alloc (.cells #[.int .i64 k, .int .i64 y0, .int .i64 y1, .int .i64 0, .int .i64 y2] 23)).heap.size) ((bel_drewN (wr.alloc (.cells #[.int .i64 k, .int .i64 y0, .int .i64 y1, .int .i64 0, .int .i64 y2] 23)) 1)) (by simp))
                    have bV := hide ((HB.out.alloc (show w.heap.size ≤ wr.heap.size by omega) (.cells #[.int .i64 k, .int .i64 y0, .int .i64 y1, .int .i64 0, .int .i64 y2] 23)).trans (((bel_drewN (wr.alloc (.cells #[.int .i64 k, .int .i64 y0, .int .i64 y1, .int .i64 0, .int .i64 y2] 23)) 1)).mono (by simp; omega)))
                    go_wp2
                    exact TAIL HAs cV dV bV (by omega) (by show wr.heap.size < (wr.alloc (.cells #[.int .i64 k, .int .i64 y0, .int .i64 y1, .int .i64 0, .int .i64 y2] 23)).heap.size; simp)
                  · have t2 : (11 : Int) ≤ k := by omega
                    have HAs : Hid (asg k xs = ⟨y0, y1, 0, y2⟩) := hide (by unfold asg; rw [hf, hb, HY0.out, HY1.out, HY2.out]; rfl)
                    clear hf hb
                    refine (HFm.out _).mono ?_
                    rintro e W ⟨rfl, hW⟩
                    rw [hW]
                    clear hW W HFm
                    go_wp2_with fail
                    go_region_held3 (fun w' => w'.cell? ⟨g, 0, none⟩ = some (.int .i64 y0) ∧ w'.cell? ⟨g, 1, none⟩ = some (.int .i64 y1) ∧ w'.cell? ⟨g, 2, none⟩ = some (.int .i64 y2)) (go_keep) (fail)
                    have cV := hide ((HC.out.below ((Below.refl _ wr).alloc (Nat.le_refl _) (.cells #[.int .i64 k, .int .i64 y0, .int .i64 y1, .int .i64 0, .int .i64 y2] 23)) (by omega)).below ((bel_drewN (wr.alloc (.cells #[.int .i64 k, .int .i64 y0, .int .i64 y1, .int .i64 0, .int .i64 y2] 23)) 1)) (by simp; omega))
                    have dV := hide ((cel_alloc wr k y0 y1 0 y2).below (B := (wr.alloc (.cells #[.int .i64 k, .int .i64 y0, .int .i64 y1, .int .i64 0, .int .i64 y2] 23)).heap.size) ((bel_drewN (wr.alloc (.cells #[.int .i64 k, .int .i64 y0, .int .i64 y1, .int .i64 0, .int .i64 y2] 23)) 1)) (by simp))
                    have bV := hide ((HB.out.alloc (show w.heap.size ≤ wr.heap.size by omega) (.cells #[.int .i64 k, .int .i64 y0, .int .i64 y1, .int .i64 0, .int .i64 y2] 23)).trans (((bel_drewN (wr.alloc (.cells #[.int .i64 k, .int .i64 y0, .int .i64 y1, .int .i64 0, .int .i64 y2] 23)) 1)).mono (by simp; omega)))
                    go_wp2
                    exact TAIL HAs cV dV bV (by omega) (by show wr.heap.size < (wr.alloc (.cells #[.int .i64 k, .int .i64 y0, .int .i64 y1, .int .i64 0, .int .i64 y2] 23)).heap.size; simp)
              · have HAs : Hid (asg k xs = ⟨0, y2, y0, y1⟩) := hide (by unfold asg; rw [hf, HY0.out, HY1.out, HY2.out]; rfl)
                clear hf
                refine (HFm.out _).mono ?_
                rintro e W ⟨rfl, hW⟩
                rw [hW]
                clear hW W HFm
                go_wp2_with fail
                go_region_held3 (fun w' => w'.cell? ⟨g, 0, none⟩ = some (.int .i64 y0) ∧ w'.cell? ⟨g, 1, none⟩ = some (.int .i64 y1) ∧ w'.cell? ⟨g, 2, none⟩ = some (.int .i64 y2)) (go_keep) (fail)
                have cV := hide ((HC.out.below ((Below.refl _ wr).alloc (Nat.le_refl _) (.cells #[.int .i64 k, .int .i64 0, .int .i64 y2, .int .i64 y0, .int .i64 y1] 23)) (by omega)).below ((bel_drewN (wr.alloc (.cells #[.int .i64 k, .int .i64 0, .int .i64 y2, .int .i64 y0, .int .i64 y1] 23)) 1)) (by simp; omega))
                have dV := hide ((cel_alloc wr k 0 y2 y0 y1).below (B := (wr.alloc (.cells #[.int .i64 k, .int .i64 0, .int .i64 y2, .int .i64 y0, .int .i64 y1] 23)).heap.size) ((bel_drewN (wr.alloc (.cells #[.int .i64 k, .int .i64 0, .int .i64 y2, .int .i64 y0, .int .i64 y1] 23)) 1)) (by simp))
                have bV := hide ((HB.out.alloc (show w.heap.size ≤ wr.heap.size by omega) (.cells #[.int .i64 k, .int .i64 0, .int .i64 y2, .int .i64 y0, .int .i64 y1] 23)).trans (((bel_drewN (wr.alloc (.cells #[.int .i64 k, .int .i64 0, .int .i64 y2, .int .i64 y0, .int .i64 y1] 23)) 1)).mono (by simp; omega)))
                go_wp2
                exact TAIL HAs cV dV bV (by omega) (by show wr.heap.size < (wr.alloc (.cells #[.int .i64 k, .int .i64 0, .int .i64 y2, .int .i64 y0, .int .i64 y1] 23)).heap.size; simp)
              · have HAs : Hid (asg k xs = ⟨0, y0, y1, y2⟩) := hide (by unfold asg; rw [hf, HY0.out, HY1.out, HY2.out]; rfl)
                clear hf
                refine (HFm.out _).mono ?_
                rintro e W ⟨rfl, hW⟩
                rw [hW]
                clear hW W HFm
                go_wp2_with fail
                go_region_held3 (fun w' => w'.cell? ⟨g, 0, none⟩ = some (.int .i64 y0) ∧ w'.cell? ⟨g, 1, none⟩ = some (.int .i64 y1) ∧ w'.cell? ⟨g, 2, none⟩ = some (.int .i64 y2)) (go_keep) (fail)
                have cV := hide ((HC.out.below ((Below.refl _ wr).alloc (Nat.le_refl _) (.cells #[.int .i64 k, .int .i64 0, .int .i64 y0, .int .i64 y1, .int .i64 y2] 23)) (by omega)).below ((bel_drewN (wr.alloc (.cells #[.int .i64 k, .int .i64 0, .int .i64 y0, .int .i64 y1, .int .i64 y2] 23)) 1)) (by simp; omega))
                have dV := hide ((cel_alloc wr k 0 y0 y1 y2).below (B := (wr.alloc (.cells #[.int .i64 k, .int .i64 0, .int .i64 y0, .int .i64 y1, .int .i64 y2] 23)).heap.size) ((bel_drewN (wr.alloc (.cells #[.int .i64 k, .int .i64 0, .int .i64 y0, .int .i64 y1, .int .i64 y2] 23)) 1)) (by simp))
                have bV := hide ((HB.out.alloc (show w.heap.size ≤ wr.heap.size by omega) (.cells #[.int .i64 k, .int .i64 0, .int .i64 y0, .int .i64 y1, .int .i64 y2] 23)).trans (((bel_drewN (wr.alloc (.cells #[.int .i64 k, .int .i64 0, .int .i64 y0, .int .i64 y1, .int .i64 y2] 23)) 1)).mono (by simp; omega)))
                go_wp2
                exact TAIL HAs cV dV bV (by omega) (by show wr.heap.size < (wr.alloc (.cells #[.int .i64 k, .int .i64 0, .int .i64 y0, .int .i64 y1, .int .i64 y2] 23)).heap.size; simp)
              · have HAs : Hid (asg k xs = ⟨y0, 0, 0, y1⟩) := hide (by unfold asg; rw [hf, HY0.out, HY1.out]; rfl)
                clear hf
                refine (HFm.out _).mono ?_
                rintro e W ⟨rfl, hW⟩
                rw [hW]
                clear hW W HFm
                go_wp2_with fail
                go_region_held3 (fun w' => w'.cell? ⟨g, 0, none⟩ = some (.int .i64 y0) ∧ w'.cell? ⟨g, 1, none⟩ = some (.int .i64 y1) ∧ w'.cell? ⟨g, 2, none⟩ = some (.int .i64 y2)) (go_keep) (fail)
                have cV := hide ((HC.out.below ((Below.refl _ wr).alloc (Nat.le_refl _) (.cells #[.int .i64 k, .int .i64 y0, .int .i64 0, .int .i64 0, .int .i64 y1] 23)) (by omega)).below ((bel_drewN (wr.alloc (.cells #[.int .i64 k, .int .i64 y0, .int .i64 0, .int .i64 0, .int .i64 y1] 23)) 1)) (by simp; omega))
                have dV := hide ((cel_alloc wr k y0 0 0 y1).below (B := (wr.alloc (.cells #[.int .i64 k, .int .i64 y0, .int .i64 0, .int .i64 0, .int .i64 y1] 23)).heap.size) ((bel_drewN (wr.alloc (.cells #[.int .i64 k, .int .i64 y0, .int .i64 0, .int .i64 0, .int .i64 y1] 23)) 1)) (by simp))
                have bV := hide ((HB.out.alloc (show w.heap.size ≤ wr.heap.size by omega) (.cells #[.int .i64 k, .int .i64 y0, .int .i64 0, .int .i64 0, .int .i64 y1] 23)).trans (((bel_drewN (wr.alloc (.cells #[.int .i64 k, .int .i64 y0, .int .i64 0, .int .i64 0, .int .i64 y1] 23)) 1)).mono (by simp; omega)))
                go_wp2
                exact TAIL HAs cV dV bV (by omega) (by show wr.heap.size < (wr.alloc (.cells #[.int .i64 k, .int .i64 y0, .int .i64 0, .int .i64 0, .int .i64 y1] 23)).heap.size; simp)
              · have HAs : Hid (asg k xs = ⟨y0, 0, 0, y1⟩) := hide (by unfold asg; rw [hf, HY0.out, HY1.out]; rfl)
                clear hf
                refine (HFm.out _).mono ?_
                rintro e W ⟨rfl, hW⟩
                rw [hW]
                clear hW W HFm
                go_wp2_with fail
                go_region_held3 (fun w' => w'.cell? ⟨g, 0, none⟩ = some (.int .i64 y0) ∧ w'.cell? ⟨g, 1, none⟩ = some (.int .i64 y1) ∧ w'.cell? ⟨g, 2, none⟩ = some (.int .i64 y2)) (go_keep) (fail)
                have cV := hide ((HC.out.below ((Below.refl _ wr).alloc (Nat.le_refl _) (.cells #[.int .i64 k, .int .i64 y0, .int .i64 0, .int .i64 0, .int .i64 y1] 23)) (by omega)).below ((bel_drewN (wr.alloc (.cells #[.int .i64 k, .int .i64 y0, .int .i64 0, .int .i64 0, .int .i64 y1] 23)) 1)) (by simp; omega))
                have dV := hide ((cel_alloc wr k y0 0 0 y1).below (B := (wr.alloc (.cells #[.int .i64 k, .int .i64 y0, .int .i64 0, .int .i64 0, .int .i64 y1] 23)).heap.size) ((bel_drewN (wr.alloc (.cells #[.int .i64 k, .int .i64 y0, .int .i64 0, .int .i64 0, .int .i64 y1] 23)) 1)) (by simp))
                have bV := hide ((HB.out.alloc (show w.heap.size ≤ wr.heap.size by omega) (.cells #[.int .i64 k, .int .i64 y0, .int .i64 0, .int .i64 0, .int .i64 y1] 23)).trans (((bel_drewN (wr.alloc (.cells #[.int .i64 k, .int .i64 y0, .int .i64 0, .int .i64 0, .int .i64 y1] 23)) 1)).mono (by simp; omega)))
                go_wp2
                exact TAIL HAs cV dV bV (by omega) (by show wr.heap.size < (wr.alloc (.cells #[.int .i64 k, .int .i64 y0, .int .i64 0, .int .i64 0, .int .i64 y1] 23)).heap.size; simp)
              · have HAs : Hid (asg k xs = ⟨0, 0, 0, 0⟩) := hide (by unfold asg; rw [hf]; rfl)
                clear hf
                refine (HFm.out _).mono ?_
                rintro e W ⟨rfl, hW⟩
                rw [hW]
                clear hW W HFm
                have cV := hide ((HC.out.below ((Below.refl _ wr).alloc (Nat.le_refl _) (.cells #[.int .i64 k, .int .i64 0, .int .i64 0, .int .i64 0, .int .i64 0] 23)) (by omega)).below (Below.refl (wr.alloc (.cells #[.int .i64 k, .int .i64 0, .int .i64 0, .int .i64 0, .int .i64 0] 23)).heap.size (wr.alloc (.cells #[.int .i64 k, .int .i64 0, .int .i64 0, .int .i64 0, .int .i64 0] 23))) (by simp; omega))
                have dV := hide ((cel_alloc wr k 0 0 0 0).below (B := (wr.alloc (.cells #[.int .i64 k, .int .i64 0, .int .i64 0, .int .i64 0, .int .i64 0] 23)).heap.size) (Below.refl (wr.alloc (.cells #[.int .i64 k, .int .i64 0, .int .i64 0, .int .i64 0, .int .i64 0] 23)).heap.size (wr.alloc (.cells #[.int .i64 k, .int .i64 0, .int .i64 0, .int .i64 0, .int .i64 0] 23))) (by simp))
                have bV := hide ((HB.out.alloc (show w.heap.size ≤ wr.heap.size by omega) (.cells #[.int .i64 k, .int .i64 0, .int .i64 0, .int .i64 0, .int .i64 0] 23)).trans ((Below.refl (wr.alloc (.cells #[.int .i64 k, .int .i64 0, .int .i64 0, .int .i64 0, .int .i64 0] 23)).heap.size (wr.alloc (.cells #[.int .i64 k, .int .i64 0, .int .i64 0, .int .i64 0, .int .i64 0] 23))).mono (by simp; omega)))
                go_wp2
                exact TAIL HAs cV dV bV (by omega) (by show wr.heap.size < (wr.alloc (.cells #[.int .i64 k, .int .i64 0, .int .i64 0, .int .i64 0, .int .i64 0] 23)).heap.size; simp)
        · have HT : Hid (tot = none) := hide (by rw [HP.out, hk])
          clear hf hk HP HNR0 HSt HS
          obtain ⟨q0, q1, q2, q3, q4, z⟩ := c1
          have z0 := z 0
          have z1 := z 1
          have z2 := z 2
          have z3 := z 3
          have z4 := z 4
          clear z
          go_wp2
          refine bodyPost_ret (v := .tuple #[inst 0 0 0 0 0, .bool false]) (by simp [results, Tryz.results13, go_sem, inst, q0, q1, q2, q3, q4, hzz]) rfl ⟨by rw [HT.out]; rfl, ?_⟩
          have hb := HB1.out
          clear HB1
          go_grown
      · have hne : ((c.toNat : Int) == 32) = false := by have := u8_ne hc32; simpa using this
        have HO2 : Hid (∀ j, j < i + 1 → l[j]? ≠ some 32) := hide (fun j hj h => by
          by_cases e : j = i
          · subst e; rw [HXc.out] at h; cases h; exact hc32 rfl
          · exact HO.out j (by omega) h)
        go_wp2
        go_roundg (s.size - (i + 1))
        case measure => omega
        case rel => exact ⟨i + 1, by omega, rfl, rfl, rfl, by go_num, rfl, HO2.out⟩
    · obtain rfl : i = s.size := by omega
      exact (HNo.out (fun j hj => HO.out j (by omega))).elim

end Go.Proofs.YtcghekkhbiomgaaGreatDoor
