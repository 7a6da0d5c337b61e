/- The contract of the reader's member: the next part is read, or the panic. -/
import Derived.Test.YtmmcnkdefpfkiaaDoorArMeet
import Derived.Deep.RegionHeld3
import Derived.Deep.AppendLies
import Derived.Deep.RegionWith
import Derived.Deep.RegionLaw
namespace Go.Proofs.YtmmcnkdefpfkiaaDoor
open Go.RowKit
set_option linter.unusedVariables false
set_option maxRecDepth 100000
set_option maxRecDepth 20000
set_option linter.unusedSimpArgs false

theorem MbR.no {W : World} {o : Option (ArS × T8)} {w' : World} (h : o = none) (hb : Below W.heap.size W w') : MbR W o (.panicked pncL) w' := by rw [h]; exact ⟨rfl, hb⟩
theorem MbR.yes {W : World} {o : Option (ArS × T8)} {t : ArS} {q : T8} {w' : World} (h : o = some (t, q)) (hS : RS W w' t q) : MbR W o (.returned (.tuple #[])) w' := by rw [h]; exact ⟨rfl, hS⟩

theorem nx_at {s : ArS} {r : T8} {n : Nat} {q : T8} (h0 : 60 ≤ r.length) (h1 : (r.drop 58).take 2 = [96, 10]) (h2 : pu (Lib.trimRightB ((r.drop 48).take 10) 32) = some n) (h3 : n ≤ r.length - 60) (h4 : bhO n (r.drop (60 + n)) = some q) :
    nxG s r = (putG 15 s (r.take 16) ((r.drop 60).take n)).map (fun t => (t, q)) := by
  rw [nx_pt h0 h1 h2, if_pos h3, h4]
  rfl

theorem bset {W w : World} (h : Below W.heap.size W w) (o : Nat) (u : Value) : Below W.heap.size W (w.setCell ⟨W.heap.size, o, none⟩ u) := h.setCell (p := ⟨W.heap.size, o, none⟩) (Nat.le_refl _) u

theorem Tryd.infoMb : (Tryd.prog.info? 26).map (fun i => (i.zero, i.size, i.bytes)) = some (some (.agg #[.string ⟨#[]⟩, .slice none 0 0]), 2, 40) := by kernel_rfl

set_option maxHeartbeats 8000000 in
theorem member_any (W w : World) (s : ArS) (r : T8) (S : RS W w s r) (L : LaidR W) (hr : r.length ≤ 1048576) (hlg : s.lg.length ≤ 1048576) (hcon : ConAny) :
    Calls Tryd.prog 14 #[.pointer (some ⟨W.heap.size, 0, none⟩)] w fun e w' => MbR W (nxG s r) e w' := by
  obtain ⟨ar, cr, al, cl, vi, vm, HB0, hrt, hlt, hix, hms⟩ := S.ex
  have hbel := S.bel
  have hWlt := S.lt
  have HBEL := hide hbel
  have HL := hide L
  have HB := hide HB0
  have HLT := hide hlt
  have HIX := hide hix
  have HMS := hide hms
  have HCON := hide hcon
  have hmx := hrt.max
  have hle := hrt.le
  clear HB0 hix hms S hcon hbel L hlt
  by_cases h60 : 60 ≤ r.length
  rotate_left
  · have HT := hide (take_no W.heap.size ar r.length cr _ _ _ _ _ 60 w HB.out (by omega) (by omega) (by omega))
    have HN := hide (nx_short (s := s) h60)
    clear hrt
    go_enter Tryd.func14, Tryd.ntmps14
    go_wp2_with fail
    refine HT.out.mono ?_
    rintro e w' ⟨rfl, rfl⟩
    exact ⟨rfl, MbR.no HN.out HBEL.out⟩
  have HT := hide (take_yes W W.heap.size ar cr r _ _ _ _ _ 60 w HB.out hrt h60)
  have e1 : (r.take 60).length = 60 := by simp; omega
  have hq := (strq ((r.take 60).drop 58) [96, 10])
  have HD : Hid ((r.take 60).drop 58 = (r.drop 58).take 2) := by
    show _ = _
    rw [List.drop_take]
  rw [HD.out] at hq
  have HQ := hide hq
  clear hrt hq
  go_enter Tryd.func14, Tryd.ntmps14
  go_wp2_with fail
  refine HT.out.mono ?_
  rintro e w1 ⟨a1, c1, a2, c2, rfl, rfl, t1, t2⟩
  -- the head, in W
  obtain ⟨xb, xo, rfl, _⟩ := Rd.addr t1 (by omega)
  have hc1 := t1.le
  rw [e1] at hc1
  have hcn : ¬ c1 = 58 := by omega
  have hcn2 : ¬ c1 = 48 := by omega
  have hc1m := t1.max
  have hc2 := t2.le
  have hc2m := t2.max
  have HB1 := hide (HB.out.set0 (.slice a2 (r.length - 60) c2))
  have HBW := hide (bset HBEL.out 0 (.slice a2 (r.length - 60) c2))
  have hsz1 : (w.setCell ⟨W.heap.size, 0, none⟩ (.slice a2 (r.length - 60) c2)).heap.size = w.heap.size := by simp
  have hlt1 : W.heap.size < (w.setCell ⟨W.heap.size, 0, none⟩ (.slice a2 (r.length - 60) c2)).heap.size := by rw [hsz1]; exact hWlt
  have o1 : OthT 39 w (w.setCell ⟨W.heap.size, 0, none⟩ (.slice a2 (r.length - 60) c2)) := OthT.set HB.out 0 _
  have HIX1 := hide (o1.row (by decide) HIX.out)
  have HMS1 := hide (HMS.out.oth o1 (by decide) (by decide))
  have hcs := Rt.txt (Rt.mid (Rd.below t1 HBW.out) 58 2 (by omega)) 2 (by simp; omega)
  rw [List.take_of_length_le (by simp; omega), HD.out] at hcs
  have HTX : Hid (Rt W (some ⟨xb, xo, none⟩) c1 (r.take 60)) := t1
  have HT2 : Hid (Rt W a2 c2 (r.drop 60)) := t2
  generalize hW1 : w.setCell ⟨W.heap.size, 0, none⟩ (.slice a2 (r.length - 60) c2) = w1 at *
  clear t1 t2 HT HB HBEL HIX HMS o1 hW1 hsz1 hWlt
  by_cases hend : (r.drop 58).take 2 = [96, 10]
  rotate_left
  · have hq := HQ.out
    rw [decide_eq_false hend] at hq
    have HN := hide (nx_end (s := s) hend)
    generalize str ((r.drop 58).take 2) = SX at *
    clear hend
    go_wp2_with (go_at_call 12; refine (need_no _).mono ?_; rintro e w' ⟨rfl, rfl⟩)
    exact ⟨rfl, MbR.no HN.out HBW.out⟩
  have hq := HQ.out
  rw [decide_eq_true hend] at hq
  generalize hSX : str ((r.drop 58).take 2) = SX at *
  clear hSX HQ HD
  go_wp2_with (go_at_call 12; refine (need_yes _).mono ?_; rintro e w' ⟨rfl, rfl⟩)
  have e10 : (((r.take 60).drop 48).take 10).length = 10 := by simp; omega
  have e11 : ((r.take 60).drop 48).take 10 = (r.drop 48).take 10 := by rw [List.drop_take, List.take_take]; rfl
  have HU := hide (unpad_any (some ⟨xb, xo + 48, none⟩) (c1 - 48) (((r.take 60).drop 48).take 10) _ (Rt.mid (Rd.below HTX.out HBW.out) 48 10 (by omega)) (by omega))
  rw [e10, e11] at HU
  refine HU.out.mono ?_
  rintro e w' ⟨rfl, rfl⟩
  clear HU hcs hq
  have htl : (Lib.trimRightB ((r.drop 48).take 10) 32).length ≤ 10 := Nat.le_trans (trim_len _) (by simp; omega)
  cases hpu : pu (Lib.trimRightB ((r.drop 48).take 10) 32) with
  | none =>
    have HN := hide (nx_dig (s := s) hpu)
    have HDN := hide (decimal_no _ w' (by omega) (pu_none hpu) (HL.out.then HBW.out))
    generalize str (Lib.trimRightB ((r.drop 48).take 10) 32) = ST at *
    go_wp2_with fail
    refine HDN.out.mono ?_
    rintro e w2 ⟨rfl, hb2⟩
    exact ⟨rfl, MbR.no HN.out (HBW.out.trans (hb2.mono (Nat.le_of_lt hlt1)))⟩
  | some n =>
    have HDY := hide (decimal_yes _ n w' (by omega) (pu_some.1 hpu))
    have hn64 := pu_le hpu
    generalize str (Lib.trimRightB ((r.drop 48).take 10) 32) = ST at *
    go_wp2_with fail
    refine HDY.out.mono ?_
    rintro e w2 ⟨rfl, hb2⟩
    have HB2 := hide (HB1.out.below hb2)
    have HBW2 := hide (HBW.out.trans (hb2.mono (Nat.le_of_lt hlt1)))
    have HIX2 := hide (rowKept (B0 := 0) HIX1.out hb2)
    have HMS2 := hide (HMS1.out.below hb2)
    have hlt2 : W.heap.size < w2.heap.size := Nat.lt_of_lt_of_le hlt1 hb2.size
    clear hb2 HDY HB1 HBW HIX1 HMS1 hlt1
    have e20 : (r.drop 60).length = r.length - 60 := by simp
    by_cases hn : n ≤ r.length - 60
    rotate_left
    · have HN : Hid (nxG s r = none) := by
        show _ = _
        rw [nx_pt h60 hend hpu, if_neg hn]
      have HT := hide (take_no W.heap.size a2 (r.length - 60) c2 _ _ _ _ _ (n : Int) w2 HB2.out (by omega) (by omega) (by omega))
      go_wp2_with fail
      refine HT.out.mono ?_
      rintro e w3 ⟨rfl, rfl⟩
      exact ⟨rfl, MbR.no HN.out HBW2.out⟩
    have HT := hide (take_yes W W.heap.size a2 c2 (r.drop 60) _ _ _ _ _ n w2 (by rw [e20]; exact HB2.out) HT2.out (by rw [e20]; exact hn))
    rw [e20] at HT
    go_wp2_with fail
    refine HT.out.mono ?_
    rintro e w3 ⟨a3, c3, a4, c4, rfl, rfl, t3, t4⟩
    have e30 : (r.drop 60).drop n = r.drop (60 + n) := by rw [List.drop_drop]
    rw [e30] at t4
    have e31 : (r.drop (60 + n)).length = r.length - 60 - n := by simp; omega
    have e32 : ((r.drop 60).take n).length = n := by simp; omega
    have hc3 := t3.le
    have hc3m := t3.max
    have hc4 := t4.le
    have hc4m := t4.max
    have HR3 : Hid (RS W (w2.setCell ⟨W.heap.size, 0, none⟩ (.slice a4 (r.length - 60 - n) c4)) s (r.drop (60 + n))) := by
      have o1 : OthT 39 w2 (w2.setCell ⟨W.heap.size, 0, none⟩ (.slice a4 (r.length - 60 - n) c4)) := OthT.set HB2.out 0 _
      refine ⟨⟨a4, c4, al, cl, vi, vm, ?_, t4, HLT.out, o1.row (by decide) HIX2.out, HMS2.out.oth o1 (by decide) (by decide)⟩, bset HBW2.out 0 _, by simpa using hlt2⟩
      rw [e31]
      exact HB2.out.set0 _
    have cell0 := (HB2.out.set0 (.slice a4 (r.length - 60 - n) c4)).cell0
    have HT3 : Hid (Rt W a3 c3 ((r.drop 60).take n)) := t3
    have HT4 : Hid (Rt W a4 c4 (r.drop (60 + n))) := t4
    generalize hW3 : w2.setCell ⟨W.heap.size, 0, none⟩ (.slice a4 (r.length - 60 - n) c4) = w3 at *
    clear t3 t4 HT HB2 HBW2 HIX2 HMS2 hlt2 hW3 HT2
    generalize hQ : r.drop (60 + n) = Q at *
    generalize hM : r.length - 60 - n = M at *
    go_upto_region 3 with fail
    go_cut [29] (fun u wx => u = .bool (decide (n % 2 = 1 ∧ 0 < M)) ∧ wx = w3)
    case first =>
      by_cases hodd : n % 2 = 1
      · have ho1 : ((n : Int) % 2 == 1) = true := by simp; omega
        have ho2 : ((n : Int).tmod 2 == 1) = true := by rw [Int.tmod_eq_emod_of_nonneg (by omega)]; exact ho1
        by_cases hM0 : 0 < M
        · have hm1 : decide ((0 : Int) < (M : Int)) = true := decide_eq_true (by omega)
          go_wp2_with fail
          go_meet
          case rel => exact ⟨by rw [decide_eq_true (And.intro hodd hM0)], rfl⟩
        · have hm1 : decide ((0 : Int) < (M : Int)) = false := decide_eq_false (by omega)
          go_wp2_with fail
          go_meet
          case rel => exact ⟨by rw [decide_eq_false (fun h => hM0 h.2)], rfl⟩
      · have ho1 : ((n : Int) % 2 == 1) = false := by simp; omega
        have ho2 : ((n : Int).tmod 2 == 1) = false := by rw [Int.tmod_eq_emod_of_nonneg (by omega)]; exact ho1
        go_wp2_with fail
        go_meet
        case rel => exact ⟨by rw [decide_eq_false (fun h => hodd h.1)], rfl⟩
    case rest =>
      obtain ⟨rfl, hwc⟩ := hcut
      have hwc2 := hwc.symm
      subst hwc2
      clear hwc
      go_upto_if 29 with fail
      go_cut [] (fun wx => Hid (∃ q, bhO n Q = some q ∧ RS W wx s q))
      case first =>
        by_cases hb : n % 2 = 1 ∧ 0 < M
        · have hd := decide_eq_true hb
          obtain ⟨y, Q', hQe⟩ : ∃ y Q', Q = y :: Q' := by
            cases Q with
            | nil => simp at e31; omega
            | cons y Q' => exact ⟨y, Q', rfl⟩
          obtain ⟨ar9, cr9, al9, cl9, vi9, vm9, HB9, k1, k2, k3, k4⟩ := HR3.out.ex
          have HT9 := hide (take_yes W W.heap.size ar9 cr9 Q _ _ _ _ _ 1 w3 HB9 k1 (by omega))
          have H9 := hide (And.intro HB9 (And.intro k1 (And.intro k2 (And.intro k3 k4))))
          clear HB9 k1 k2 k3 k4
          rw [e31] at HT9
          go_wp2_with fail
          refine HT9.out.mono ?_
          rintro e w4 ⟨a5, c5, a6, c6, rfl, rfl, t5, t6⟩
          obtain ⟨HB9, k1, k2, k3, k4⟩ := H9.out
          have o1 : OthT 39 w3 (w3.setCell ⟨W.heap.size, 0, none⟩ (.slice a6 (M - 1) c6)) := OthT.set HB9 0 _
          have HR4 : Hid (RS W (w3.setCell ⟨W.heap.size, 0, none⟩ (.slice a6 (M - 1) c6)) s (Q.drop 1)) := by
            refine ⟨⟨a6, c6, al9, cl9, vi9, vm9, ?_, t6, k2, o1.row (by decide) k3, k4.oth o1 (by decide) (by decide)⟩, bset HR3.out.bel 0 _, by simpa using HR3.out.lt⟩
            have e33 : (Q.drop 1).length = M - 1 := by simp; omega
            rw [e33]
            exact HB9.set0 _
          have hQ1 : Q.take 1 = [y] := by rw [hQe]; rfl
          rw [hQ1] at t5
          have t5w := Rd.below t5 (bset HR3.out.bel 0 (.slice a6 (M - 1) c6))
          obtain ⟨zb, zo, rfl, hz⟩ := t5w.addr (by simp)
          have hcy := hz 0 (by simp)
          have e34 : (nI [y]).getD 0 0 = (y.toNat : Int) := rfl
          rw [e34, Nat.add_zero] at hcy
          have hcc := t5w.le
          have hccm := t5w.max
          simp only [List.length_cons, List.length_nil] at hcc
          have hBW4 := hide (bset HR3.out.bel 0 (.slice a6 (M - 1) c6))
          generalize hW4 : w3.setCell ⟨W.heap.size, 0, none⟩ (.slice a6 (M - 1) c6) = w4 at *
          clear t5 t6 t5w hz HB9 k1 k2 k3 k4 o1 hW4 H9 HT9 HR3
          by_cases hy : y = 10
          · have hy1 : ((y.toNat : Int) == 10) = true := by subst hy; rfl
            go_wp2_with (go_at_call 12; refine (need_yes _).mono ?_; rintro e w' ⟨rfl, rfl⟩)
            go_meet
            case rel =>
              refine ⟨Q.drop 1, ?_, HR4.out⟩
              unfold bhO
              rw [if_pos ⟨hb.1, by rw [hQe]; simp⟩, hQe, if_pos (by simp [hy])]
          · have hy1 : ((y.toNat : Int) == 10) = false := by
              simp
              intro h
              apply hy
              apply UInt8.toNat_inj.1
              have : y.toNat = 10 := by omega
              rw [this]; rfl
            have HN : Hid (nxG s r = none) := by
              show _ = _
              rw [nx_pt h60 hend hpu, if_pos hn, hQ]
              have : bhO n Q = none := by
                unfold bhO
                rw [if_pos ⟨hb.1, by rw [hQe]; simp⟩, hQe, if_neg (by simp [hy])]
              rw [this]
              rfl
            go_wp2_with (go_at_call 12; refine (need_no _).mono ?_; rintro e w' ⟨rfl, rfl⟩)
            exact ⟨rfl, MbR.no HN.out hBW4.out⟩
        · have hd := decide_eq_false hb
          go_wp2_with fail
          go_meet
          case rel =>
            refine ⟨Q, ?_, HR3.out⟩
            unfold bhO
            rw [if_neg]
            rintro ⟨h1, h2⟩
            exact hb ⟨h1, by have := List.length_pos_iff.2 h2; omega⟩
      case rest =>
        obtain ⟨q, hbh, hRS⟩ := hcut.out
        have HN : Hid (nxG s r = (putG 15 s (r.take 16) ((r.drop 60).take n)).map (fun t => (t, q))) := nx_at h60 hend hpu hn (by rw [hQ]; exact hbh)
        obtain ⟨ar9, cr9, al9, cl9, vi9, vm9, hB9, k1, k2, k3, k4⟩ := hRS.ex
        have HBW := hide hRS.bel
        have hlt9 := hRS.lt
        have HB9 := hide hB9
        have K1 := hide k1
        have K2 := hide k2
        have K3 := hide k3
        have K4 := hide k4
        have q1 := hB9.cell1
        have q2 := hB9.cell2
        have q3 := hB9.cell3
        have q4 := hB9.cell4
        have q5 := hB9.cell5
        have f1 := hB9.frozen 1
        have f2 := hB9.frozen 2
        have f3 := hB9.frozen 3
        have f4 := hB9.frozen 4
        have f5 := hB9.frozen 5
        have HU := hide (unpad_any (some ⟨xb, xo, none⟩) c1 ((r.take 60).take 16) wc (Rt.front (Rd.below HTX.out HBW.out) 16 (by omega)) (by simp; omega))
        have e16 : ((r.take 60).take 16).length = 16 := by simp; omega
        have e17 : (r.take 60).take 16 = r.take 16 := by rw [List.take_take]; rfl
        rw [e16, e17] at HU
        have hf16 : (r.take 16).length = 16 := by simp; omega
        clear hcut hRS hB9 k1 k2 k3 k4 HR3 hbh HT4 cell0
        generalize hF : r.take 16 = F at *
        generalize hD : (r.drop 60).take n = D at *
        have hid := strq (Lib.trimRightB F 32) [47]
        have hlg' := strq (Lib.trimRightB F 32) [47, 47]
        rw [← id_trim] at hid
        rw [← lg_trim] at hlg'
        have htr := trim_len F
        obtain ⟨am, cm, hvm, hcm1, hcm2⟩ := K4.out.len
        go_wp2_with fail
        refine HU.out.mono ?_
        rintro e w' ⟨rfl, rfl⟩
        clear HU
        generalize hSF : str (Lib.trimRightB F 32) = SF at *
        cases hI : idF F
        · rw [hI] at hid
          cases hG : lgF F
          · rw [hG] at hlg'
            have hP : putG 15 s F D = (nmG 15 s.lg F).bind (fun n => if s.ms.length < 100 then some { s with ms := s.ms ++ [⟨n, D⟩], bg := true } else none) := by
              unfold putG; rw [hI, hG]; rfl
            subst hvm
            by_cases hm100 : s.ms.length < 100
            rotate_left
            · have hm1 : decide ((s.ms.length : Int) < 100) = false := decide_eq_false (by omega)
              have HP : Hid (putG 15 s F D = none) := by
                show _ = _
                rw [hP]
                cases nmG 15 s.lg F with
                | none => rfl
                | some x => simp only [Option.bind_some]; rw [if_neg hm100]
              clear hP
              go_wp2_with (go_at_call 12; refine (need_no _).mono ?_; rintro e w' ⟨rfl, rfl⟩)
              exact ⟨rfl, MbR.no (by rw [HN.out, HP.out]; rfl) HBW.out⟩
            have hm1 : decide ((s.ms.length : Int) < 100) = true := decide_eq_true (by omega)
            have HNM := hide (fun (u : World) (hu : Below w'.heap.size w' u) => name_any W W.heap.size al9 cl9 s.lg (Lib.trimRightB F 32) _ _ _ _ _ u (HB9.out.below hu) K2.out (HBW.out.trans (hu.mono (Nat.le_of_lt hlt9))) (HL.out.then (HBW.out.trans (hu.mono (Nat.le_of_lt hlt9)))) hlg (by omega) HCON.out)
            rw [nm_meet s.lg F hf16, hSF] at HNM
            have HP := hide hP
            clear hP
            go_upto_region 8 with (go_at_call 12; refine (need_yes _).mono ?_; rintro e w' ⟨rfl, rfl⟩)
            cases hnm : nmG 15 s.lg F with
            | none =>
              rw [hnm] at HNM HP
              refine wp_region_held_drew (S := fun w' => w'.cell? ⟨W.heap.size, 5, none⟩ = some (.slice am s.ms.length cm)) (by kernel_rfl) (by first | exact q5 | simpa using q5) (fun hHeld => ?_)
              refine wpAnyH_take (i := 0) (oi := ⟨some 47, _, _, _, _, _⟩) (v := ?_) rfl (by kernel_rfl) (by kernel_rfl) (by kernel_rfl) (fun _ _ _ h => h) (Or.inl ⟨by rfl, ?_⟩) hHeld ?_
              rotate_left
              · intro w' hSw; go_simp; try with_reducible rfl
              try simp only [Act.put, List.setIfInBounds_toArray, List.set_cons_zero, List.set_cons_succ]
              refine wpAnyH_take (i := 1) (oi := ⟨some 48, _, _, _, _, _⟩) (v := ?_) rfl (by kernel_rfl) (by kernel_rfl) (by kernel_rfl) (fun _ _ _ h => h) (Or.inl ⟨by rfl, ?_⟩) hHeld ?_
              rotate_left
              · intro w' hSw; go_simp; try with_reducible rfl
              try simp only [Act.put, List.setIfInBounds_toArray, List.set_cons_zero, List.set_cons_succ]
              refine wpAnyH_take (i := 2) (oi := ⟨some 49, _, _, _, _, _⟩) (v := ?_) rfl (by kernel_rfl) (by kernel_rfl) (by kernel_rfl) (fun _ _ _ h => h) (Or.inl ⟨by rfl, ?_⟩) hHeld ?_
              rotate_left
              · intro w' hSw; go_simp; try with_reducible rfl
              try simp only [Act.put, List.setIfInBounds_toArray, List.set_cons_zero, List.set_cons_succ]
              refine wpAnyH_take (i := 3) (oi := ⟨some 50, _, _, _, _, _⟩) (v := ?_) rfl (by kernel_rfl) (by kernel_rfl) (by kernel_rfl) (fun _ _ _ h => h) (Or.inl ⟨by rfl, ?_⟩) hHeld ?_
              rotate_left
              · intro w' hSw; go_simp; try with_reducible rfl
              try simp only [Act.put, List.setIfInBounds_toArray, List.set_cons_zero, List.set_cons_succ]
              refine wpAnyH_take (i := 4) (oi := ⟨some 51, _, _, _, _, _⟩) (v := ?_) rfl (by kernel_rfl) (by kernel_rfl) (by kernel_rfl) (fun _ _ _ h => h) (Or.inl ⟨by rfl, ?_⟩) hHeld ?_
              rotate_left
              · intro w' hSw; go_simp; try with_reducible rfl
              try simp only [Act.put, List.setIfInBounds_toArray, List.set_cons_zero, List.set_cons_succ]
              refine wpAnyH_take (i := 5) (oi := ⟨some 52, _, _, _, _, _⟩) (v := ?_) rfl (by kernel_rfl) (by kernel_rfl) (by kernel_rfl) (fun _ _ _ h => h) (Or.inl ⟨by rfl, ?_⟩) hHeld ?_
              rotate_left
              · intro w' hSw; go_simp; try with_reducible rfl
              try simp only [Act.put, List.setIfInBounds_toArray, List.set_cons_zero, List.set_cons_succ]
              refine wpAnyH_take (i := 6) (oi := ⟨some 53, _, _, _, _, _⟩) (v := ?_) rfl (by kernel_rfl) (by kernel_rfl) (by kernel_rfl) (fun _ _ _ h => h) (Or.inl ⟨by rfl, ?_⟩) hHeld ?_
              rotate_left
              · intro w' hSw; go_simp; try with_reducible rfl
              try simp only [Act.put, List.setIfInBounds_toArray, List.set_cons_zero, List.set_cons_succ]
              refine wpAnyH_take (i := 8) (oi := ⟨some 55, _, _, _, _, _⟩) (v := ?_) rfl (by kernel_rfl) (by kernel_rfl) (by kernel_rfl) (fun _ _ _ h => h) (Or.inl ⟨by rfl, ?_⟩) hHeld ?_
              rotate_left
              · intro w' hSw; go_simp; try with_reducible rfl
              try simp only [Act.put, List.setIfInBounds_toArray, List.set_cons_zero, List.set_cons_succ]
              refine wpAnyH_ready (rs := [7]) (by kernel_rfl) (by simp) ?_
              refine AllReadyH.cons (o := ⟨some 54, _, _, _, _, _⟩) rfl (fun K hK => ?_) AllReadyH.nil
              go_simp
              refine (HNM.out _ (Below.refl _ _).drew).mono ?_
              rintro e w9 ⟨hb9, he9⟩
              have he9' : e = .panicked pncL := he9
              subst he9'
              exact ⟨rfl, MbR.no (by rw [HN.out, HP.out]; rfl) (HBW.out.drew.trans (hb9.mono (show W.heap.size ≤ w'.drew.heap.size from Nat.le_of_lt hlt9)))⟩
            | some x =>
              rw [hnm] at HNM HP
              simp only [Option.bind_some, if_pos hm100] at HP
              obtain ⟨vs, hrow, hvl, hvo⟩ := K4.out.ex
              obtain ⟨i0, hi, hz0, hz1, hz2⟩ := info_parts Tryd.infoMb
              have HC := hide (fun (u : World) (hu : Below w'.heap.size w' u) => clone_any a3 c3 D u (Rd.below HT3.out (HBW.out.trans (hu.mono (Nat.le_of_lt hlt9)))) (by omega))
              rw [e32] at HC
              have HROW := hide hrow
              have HVO := hide hvo
              clear hrow hvo
              have hne := row_ne HROW.out (show W.heap.size < W.heap.size + 1 by omega)
              go_region_law (first
                  | (refine step_append_lies _ (by rfl) _ _ _ (by rfl) (W.heap.size + 1) 26 i0 _ 2 40 Tryd.underlying23 hi hz0 hz1 hz2 rfl (by omega) (.slice am s.ms.length cm) s.ms.length (mbC.all vs) (by rfl) (HR10.out.alloc _) ⟨w10.heap.size, 0, none⟩ 1 1 [.string (str x), .slice a7 n c7] (by rfl) (by rfl) (World.news_of_block (cs := #[.string (str x), .slice a7 n c7]) (t := 26) (fr := (0, 0)) (heap_alloc_new w10 _)) (by simp [Value.oneCell']) (by omega) (by unfold maxLen; omega) (by omega) (by simp; omega) (w10.heap.size + 1) (by simp) ?_; intro gg cap2 w11 hown2 hgrow hat hlt2; have cY := (hgrow.cell_far ⟨W.heap.size, 5, none⟩ (by simp; omega) hne).trans ((((Below.refl _ _).alloc (Nat.le_refl _) _).cell (p := ⟨W.heap.size, 5, none⟩) ltX).trans cX); have fY := (hgrow.frozen_far ⟨W.heap.size, 5, none⟩ (by simp; omega) hne).trans ((((Below.refl _ _).alloc (Nat.le_refl _) _).frozen (p := ⟨W.heap.size, 5, none⟩) ltX).trans fX); have HO2 := hide hown2; have HG2 := hide hgrow; clear hown2 hgrow hat hlt2)
                  | (go_simp; go_at_call 28; refine (HNM.out _ ?_).mono ?_; first | exact Below.refl _ _ | exact (Below.refl _ _).drew; rintro e w9 ⟨hb9, he9⟩; have he9' : e = .returned (.string (str x)) := he9; clear he9; subst he9'; have cX := (hb9.cell (p := ⟨W.heap.size, 5, none⟩) (show W.heap.size < w'.drew.heap.size from hlt9)).trans q5; have fX := (hb9.frozen (p := ⟨W.heap.size, 5, none⟩) (show W.heap.size < w'.drew.heap.size from hlt9)).trans f5; have HB10 := hide hb9; clear hb9; go_wp2_with fail)
                  | (go_simp; go_at_call 27; refine (HC.out _ ?_).mono ?_; exact (Below.refl _ _).drew.trans HB10.out; rintro e w10 ⟨a7, c7, rfl, h71, h72⟩; have cX := (h72.cell (p := ⟨W.heap.size, 5, none⟩) (Nat.lt_of_lt_of_le (show W.heap.size < w'.drew.heap.size from hlt9) HB10.out.size)).trans cX; have fX := (h72.frozen (p := ⟨W.heap.size, 5, none⟩) (Nat.lt_of_lt_of_le (show W.heap.size < w'.drew.heap.size from hlt9) HB10.out.size)).trans fX; have hbX : Below w'.heap.size w' w10 := ((Below.refl _ w').drew.trans HB10.out).trans (h72.mono HB10.out.size); have ltX : W.heap.size < w10.heap.size := Nat.lt_of_lt_of_le hlt9 hbX.size; have HR10 := hide (rowKept (B0 := 0) HROW.out hbX); have H71 := hide (row_low h71 (show W.heap.size + 1 ≤ _ from Nat.lt_of_lt_of_le hlt9 HB10.out.size)); have HBX := hide hbX; clear h71 h72 hbX HB10; go_wp2_with fail))
              all_goals
                have B11 : RB w11 W.heap.size (.slice ar9 q.length cr9) (.bool s.bg) (.bool s.hl) (.slice al9 s.lg.length cl9) vi9 (.slice am s.ms.length cm) :=
                  ((HB9.out.below HBX.out).below ((Below.refl _ _).alloc (Nat.le_refl _) _)).oth (OthT.grown (HR10.out.alloc _) HG2.out) (by decide)
                have c11 := B11.cell1
                have f11 := B11.frozen 1
                have c15 := B11.cell5
                have f15 := B11.frozen 5
                have FIN : Hid (RS W ((w11.setCell ⟨W.heap.size, 5, none⟩ (.slice (some ⟨gg, 0, none⟩) (s.ms.length + 1) cap2)).setCell ⟨W.heap.size, 1, none⟩ (.bool true)) { s with ms := s.ms ++ [⟨x, D⟩], bg := true } q) := by
                  have oG : OthT 26 (w10.alloc (.cells #[.string (str x), .slice a7 n c7] 26)) w11 := OthT.grown (HR10.out.alloc _) HG2.out
                  have bA : Below w10.heap.size w10 (w10.alloc (.cells #[.string (str x), .slice a7 n c7] 26)) := (Below.refl _ _).alloc (Nat.le_refl _) _
                  have P := OM.push (w := w10.alloc (.cells #[.string (str x), .slice a7 n c7] 26)) (W := w11) (B := W.heap.size + 1) (l := s.ms) (vs := vs) (u := ⟨x, a7, n, c7⟩) (s := ⟨x, D⟩) hvl (fun i m hm => by
                    obtain ⟨u, hu, ho⟩ := HVO.out i m hm
                    exact ⟨u, hu, (ho.below HBX.out).below bA⟩) oG ⟨rfl, rowKept (B0 := 0) H71.out bA⟩ HO2.out
                  have B12 := B11.set5 (.slice (some ⟨gg, 0, none⟩) (s.ms.length + 1) cap2)
                  have o5 : OthT 39 w11 (w11.setCell ⟨W.heap.size, 5, none⟩ (.slice (some ⟨gg, 0, none⟩) (s.ms.length + 1) cap2)) := OthT.set B11 5 _
                  have o1 : OthT 39 (w11.setCell ⟨W.heap.size, 5, none⟩ (.slice (some ⟨gg, 0, none⟩) (s.ms.length + 1) cap2)) ((w11.setCell ⟨W.heap.size, 5, none⟩ (.slice (some ⟨gg, 0, none⟩) (s.ms.length + 1) cap2)).setCell ⟨W.heap.size, 1, none⟩ (.bool true)) := OthT.set B12 1 _
                  refine ⟨⟨ar9, cr9, al9, cl9, vi9, _, B12.set1 _, K1.out, K2.out, o1.row (by decide) (o5.row (by decide) (oG.row (by decide) (rowKept (B0 := 0) (rowKept (B0 := 0) K3.out HBX.out) bA))), (P.oth o5 (by decide) (by decide)).oth o1 (by decide) (by decide)⟩, bset (bset ?_ 5 _) 1 _, ?_⟩
                  · have h1 : Below W.heap.size W w10 := HBW.out.trans (HBX.out.mono (Nat.le_of_lt hlt9))
                    have h2 : Below W.heap.size W (w10.alloc (.cells #[.string (str x), .slice a7 n c7] 26)) := h1.alloc (Nat.le_of_lt ltX) _
                    refine h2.grown HG2.out (by simp; omega) (fun k hk => ?_)
                    have := row_ge HROW.out hk
                    omega
                  · have h1 := HG2.out.size
                    simp at h1 ⊢
                    omega
                clear HR10 H71 HBX HO2 HG2 B11 HNM HC HVO
                go_wp2_with fail
                first | go_end0 | skip
                exact MbR.yes (by rw [HN.out, HP.out]; rfl) FIN.out
          · rw [hG] at hlg'
            have hP : putG 15 s F D = if s.hl = true ∨ 0 < s.ms.length then none else some { s with lg := D, hl := true, bg := true } := by
              unfold putG; rw [hI, hG]; rfl
            subst hvm
            cases hhl : s.hl
            · rw [hhl] at q2
              by_cases hm0 : s.ms.length = 0
              · have hm1 : ((s.ms.length : Int) == 0) = true := by simp [hm0]
                rw [if_neg (fun h => by rcases h with h | h <;> first | (rw [hhl] at h; cases h) | omega)] at hP
                have HP := hide hP
                have FIN : Hid (RS W (((w'.setCell ⟨W.heap.size, 3, none⟩ (.slice a3 n c3)).setCell ⟨W.heap.size, 2, none⟩ (.bool true)).setCell ⟨W.heap.size, 1, none⟩ (.bool true)) { s with lg := D, hl := true, bg := true } q) := by
                  have B5 := HB9.out.set3 (.slice a3 n c3)
                  have o3 : OthT 39 w' (w'.setCell ⟨W.heap.size, 3, none⟩ (.slice a3 n c3)) := OthT.set HB9.out 3 _
                  have B6 := B5.set2 (.bool true)
                  have o2 : OthT 39 (w'.setCell ⟨W.heap.size, 3, none⟩ (.slice a3 n c3)) ((w'.setCell ⟨W.heap.size, 3, none⟩ (.slice a3 n c3)).setCell ⟨W.heap.size, 2, none⟩ (.bool true)) := OthT.set B5 2 _
                  have o1 : OthT 39 ((w'.setCell ⟨W.heap.size, 3, none⟩ (.slice a3 n c3)).setCell ⟨W.heap.size, 2, none⟩ (.bool true)) (((w'.setCell ⟨W.heap.size, 3, none⟩ (.slice a3 n c3)).setCell ⟨W.heap.size, 2, none⟩ (.bool true)).setCell ⟨W.heap.size, 1, none⟩ (.bool true)) := OthT.set B6 1 _
                  refine ⟨⟨ar9, cr9, a3, c3, vi9, _, ?_, K1.out, HT3.out, o1.row (by decide) (o2.row (by decide) (o3.row (by decide) K3.out)), ((K4.out.oth o3 (by decide) (by decide)).oth o2 (by decide) (by decide)).oth o1 (by decide) (by decide)⟩, bset (bset (bset HBW.out 3 _) 2 _) 1 _, by simpa using hlt9⟩
                  show RB _ _ _ _ _ (.slice a3 D.length c3) _ _
                  rw [e32]
                  exact B6.set1 _
                clear hP
                go_wp2_with (go_at_call 12; refine (need_yes _).mono ?_; rintro e w' ⟨rfl, rfl⟩)
                first | go_end0 | skip
                exact MbR.yes (by rw [HN.out, HP.out]; rfl) FIN.out
              · have hm1 : ((s.ms.length : Int) == 0) = false := by rw [beq_eq_false_iff_ne]; omega
                rw [if_pos (Or.inr (by omega))] at hP
                have HP := hide hP
                clear hP
                go_wp2_with (go_at_call 12; refine (need_no _).mono ?_; rintro e w' ⟨rfl, rfl⟩)
                exact ⟨rfl, MbR.no (by rw [HN.out, HP.out]; rfl) HBW.out⟩
            · rw [hhl] at q2
              rw [if_pos (Or.inl hhl)] at hP
              have HP := hide hP
              clear hP
              go_wp2_with (go_at_call 12; refine (need_no _).mono ?_; rintro e w' ⟨rfl, rfl⟩)
              exact ⟨rfl, MbR.no (by rw [HN.out, HP.out]; rfl) HBW.out⟩
        · rw [hI] at hid
          have hP : putG 15 s F D = if s.bg = true then none else some { s with ix := D, bg := true } := by
            unfold putG; rw [hI]; rfl
          have HC := hide (clone_any a3 c3 D w' (Rd.below HT3.out HBW.out) (by omega))
          rw [e32] at HC
          cases hbg : s.bg
          · rw [hbg] at q1
            rw [if_neg (by rw [hbg]; simp)] at hP
            have HP := hide hP
            clear hP
            go_wp2_with (first | (go_at_call 12; refine (need_yes _).mono ?_; rintro e w' ⟨rfl, rfl⟩))
            refine HC.out.mono ?_
            rintro e w5 ⟨a7, c7, rfl, h71, h72⟩
            have HB5 := hide (HB9.out.below h72)
            have f51 := HB5.out.frozen 1
            have f54 := HB5.out.frozen 4
            have c51 := HB5.out.cell1
            have c54 := HB5.out.cell4
            have FIN : Hid (RS W ((w5.setCell ⟨W.heap.size, 4, none⟩ (.slice a7 n c7)).setCell ⟨W.heap.size, 1, none⟩ (.bool true)) { s with ix := D, bg := true } q) := by
              have o4 : OthT 39 w5 (w5.setCell ⟨W.heap.size, 4, none⟩ (.slice a7 n c7)) := OthT.set HB5.out 4 _
              have B6 := HB5.out.set4 (.slice a7 n c7)
              have o1 : OthT 39 (w5.setCell ⟨W.heap.size, 4, none⟩ (.slice a7 n c7)) ((w5.setCell ⟨W.heap.size, 4, none⟩ (.slice a7 n c7)).setCell ⟨W.heap.size, 1, none⟩ (.bool true)) := OthT.set B6 1 _
              refine ⟨⟨ar9, cr9, al9, cl9, .slice a7 n c7, vm9, B6.set1 _, K1.out, K2.out, o1.row (by decide) (o4.row (by decide) ?_), ((K4.out.below h72).oth o4 (by decide) (by decide)).oth o1 (by decide) (by decide)⟩, bset (bset (HBW.out.trans (h72.mono (Nat.le_of_lt hlt9))) 4 _) 1 _, ?_⟩
              · rw [e32]
                exact row_low h71 (by omega)
              · have := h72.size
                simp
                omega
            clear h71 h72 HC
            go_wp2_with fail
            first | go_end0 | skip
            exact MbR.yes (by rw [HN.out, HP.out]; rfl) FIN.out
          · rw [hbg] at q1
            rw [if_pos hbg] at hP
            have HP := hide hP
            clear hP
            go_wp2_with (go_at_call 12; refine (need_no _).mono ?_; rintro e w' ⟨rfl, rfl⟩)
            exact ⟨rfl, MbR.no (by rw [HN.out, HP.out]; rfl) HBW.out⟩

end Go.Proofs.YtmmcnkdefpfkiaaDoor
