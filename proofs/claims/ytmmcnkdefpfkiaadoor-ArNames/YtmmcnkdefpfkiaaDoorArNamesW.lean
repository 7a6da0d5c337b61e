/- ArNames' whole walk: for any number, any byte, once or twice, it answers true. -/
import Derived.Test.YtmmcnkdefpfkiaaDoorArManyW
import Derived.Test.YtmmcnkdefpfkiaaDoorArNmP
import Derived.Test.YtmmcnkdefpfkiaaDoorArDocR
namespace Go.Proofs.YtmmcnkdefpfkiaaDoor
open Go.RowKit Go.Maps
set_option linter.unusedVariables false
set_option maxRecDepth 100000
set_option maxRecDepth 20000
set_option linter.unusedSimpArgs false

theorem cs8_set (l : T8) (j : Nat) (b : UInt8) : (cs8 l).set j (.int .u8 (b.toNat : Int)) = cs8 (l.set j b) := by
  unfold cs8 nI
  rw [List.map_map, List.map_map, List.map_set]
  rfl
theorem cs8_at (l : T8) (j : Nat) (b : UInt8) (h : l[j]? = some b) : (cs8 l)[j]? = some (.int .u8 (b.toNat : Int)) := by
  unfold cs8 nI
  rw [List.map_map, List.getElem?_map, h]
  rfl
def rms : Option ArS → List Mb
  | none => []
  | some t => t.ms
def rev : Option ArS → Int
  | none => 40
  | some _ => 0
theorem ArT.told {w w' : World} {o : Option ArS} {e : Ending} (h : ArT w w' o e) : ∃ am cm ai li ci, e = .returned (.tuple #[.slice am (rms o).length cm, .slice ai li ci, .int .i64 (rev o)]) ∧ Rmb w' am (rms o).length cm (rms o) := by
  cases o with
  | none => exact ⟨none, 0, none, 0, 0, h, Rmb.nothing _⟩
  | some t =>
    obtain ⟨am, cm, ai, ci, he, hm, _⟩ := h
    obtain ⟨a, c, ev, rm⟩ := hm.rm
    cases ev
    exact ⟨_, _, _, _, _, he, rm⟩
/-- What the law needs of what it has made. -/
structure NmI (w wx : World) (u : Value) (nm : T8) (tw : Bool) : Prop where
  rm : ∃ a c, u = .slice a (nmMs nm tw).length c ∧ Rmb wx a (nmMs nm tw).length c (nmMs nm tw)
  bel : Below w.heap.size w wx

set_option maxHeartbeats 8000000 in
theorem names_walk (n c : Int) (tw : Bool) (hn0 : 0 ≤ n) (hn1 : n ≤ 255) (hc0 : 0 ≤ c) (hc1 : c ≤ 255) (w : World) (L : LaidR w) :
    Calls Tryd.prog 4 #[.int .u8 n, .int .u8 c, .bool tw] w fun e w' => e = .returned (.bool true) ∧ Below w.heap.size w w' := by
  obtain ⟨iM, hiM, hzM0, hzM1, hzM2⟩ := info_parts Tryd.infoMb
  have HL := hide L
  have HK := hide (known_17 w L)
  clear L
  obtain ⟨cb, hcb⟩ : ∃ cb : UInt8, (cb.toNat : Int) = c := ⟨UInt8.ofNat c.toNat, by simp [UInt8.toNat_ofNat]; omega⟩
  subst hcb
  go_enter Tryd.func4, Tryd.ntmps4
  go_upto_region 2 with fail
  go_wp2_with fail
  refine HK.out.mono ?_
  rintro e w1 ⟨rfl, hb1⟩
  have HB1 := hide hb1
  clear hb1 HK
  obtain ⟨rr, hrr, mr, _⟩ := rem_u8 n hn0 hn1 210 (by decide)
  have mr' : n % 210 = (rr : Int) := mr
  clear mr
  obtain ⟨k, hk⟩ : ∃ k : Nat, rr + 1 = k := ⟨_, rfl⟩
  have hk0 : (rr : Int) + 1 = (k : Int) := by omega
  have hk1 : 1 ≤ k := by omega
  have hk2 : k ≤ 210 := by omega
  clear hk
  obtain ⟨W2, hmk, hz2, hb2⟩ := zeros_new w1 k (by omega)
  have HZ2 := hide hz2
  have HB2 := hide hb2
  clear hz2 hb2
  go_wp2_with fail
  clear hmk
  have hfl : filK (0 : UInt8) (ltrs k) 0 = List.replicate k 0 := by rw [filK_zero, ltrs_len]
  go_loopg [9] k (fun g v wr => ∃ i : Nat, i ≤ k ∧ g = k - i ∧ v = .int .i64 (i : Int) ∧ Hid (wr.ownsRow w1.heap.size 5 1 (.slice (some ⟨w1.heap.size, 0, none⟩) k k) k (cs8 (filK 0 (ltrs k) i))) ∧ Hid (Below w1.heap.size w1 wr))
  case atStart => exact ⟨0, by omega, rfl, rfl, by show World.ownsRow _ _ _ _ _ _ _; rw [hfl]; exact HZ2.out, HB2.out⟩
  case round =>
    obtain ⟨i, hi, rfl, rfl, HR, HB⟩ := hrel
    clear hfl HZ2 HB2
    by_cases hlt : i < k
    · have hlt' : (i : Int) < (k : Int) := by omega
      have hlt2 : decide ((i : Int) < (k : Int)) = true := decide_eq_true hlt'
      have hlx := ltrs_at k i hlt
      have hnat := ltr_nat i
      have h26 : i % 26 < 26 := Nat.mod_lt _ (by decide)
      have hcell := HR.out.cellAt i (by omega)
      have hfz := HR.out.frozenAt i
      obtain ⟨x, hx⟩ : ∃ x, UInt8.ofNat (97 + i % 26) = x := ⟨_, rfl⟩
      rw [hx] at hlx hnat
      have hst := HR.out.stored i (.int .u8 (x.toNat : Int))
      rw [cs8_set, filK_set (0 : UInt8) (ltrs k) i (by rw [ltrs_len]; exact hlt) x hlx] at hst
      have HST := hide hst.1
      have hxv : (97 : Int) + (i : Int) % 26 = (x.toNat : Int) := by omega
      obtain ⟨y, hy⟩ : ∃ y, (filK (0 : UInt8) (ltrs k) i)[i]? = some y := ⟨_, List.getElem?_eq_getElem (show i < (filK (0 : UInt8) (ltrs k) i).length by rw [filK_len (0 : UInt8) (ltrs k) i (by rw [ltrs_len]; omega), ltrs_len]; exact hlt)⟩
      rw [cs8_at _ _ _ hy] at hcell
      have hxb : (x.toNat : Int) ≤ 255 := by omega
      clear hlx hnat hx hst hy
      go_wp2_with fail
      go_roundg (k - (i + 1))
      case measure => omega
      case rel => exact ⟨i + 1, by omega, rfl, by go_num, HST.out, HB.out.setCell (Nat.le_refl _) _⟩
    · obtain rfl : i = k := by omega
      have hlt' : ¬ (i : Int) < (i : Int) := by omega
      have hlt2 : decide ((i : Int) < (i : Int)) = false := decide_eq_false hlt'
      have hr := HR.out
      have e0 := filK_all (0 : UInt8) (ltrs i)
      rw [ltrs_len] at e0
      rw [e0] at hr
      have hcell := hr.cellAt (i / 2) (by omega)
      have hfz := hr.frozenAt (i / 2)
      have hst := hr.stored (i / 2) (.int .u8 (cb.toNat : Int))
      rw [cs8_set, show (ltrs i).set (i / 2) cb = nmC i cb from rfl] at hst
      have HST := hide hst.1
      obtain ⟨y, hy⟩ : ∃ y, (ltrs i)[i / 2]? = some y := ⟨_, ltrs_at i (i / 2) (by omega)⟩
      rw [cs8_at _ _ _ hy] at hcell
      have hk2a : (i : Int) / 2 = ((i / 2 : Nat) : Int) := by omega
      have hk2b : (i : Int).tdiv 2 = ((i / 2 : Nat) : Int) := by rw [Int.tdiv_eq_ediv_of_nonneg (by omega)]; exact hk2a
      have hlt3 : i / 2 < i := by omega
      obtain ⟨h, hh⟩ : ∃ h, i / 2 = h := ⟨_, rfl⟩
      rw [hh] at hcell hfz HST hk2a hk2b hlt3
      have HB3 := hide (HB.out.setCell (p := ⟨w1.heap.size, h, none⟩) (Nat.le_refl _) (.int .u8 (cb.toNat : Int)))
      clear hr e0 hst hy HR HB hh
      go_upto_region 10 with fail
      obtain ⟨W3, hW3⟩ : ∃ W3, wr.setCell ⟨w1.heap.size, h, none⟩ (.int .u8 (cb.toNat : Int)) = W3 := ⟨_, rfl⟩
      rw [hW3] at HST HB3
      rw [hW3]
      clear hW3 hcell hfz hk2a hk2b
      obtain ⟨nm, hnm⟩ : ∃ nm, nmC i cb = nm := ⟨_, rfl⟩
      have hnl : nm.length = i := by rw [← hnm, nmC_len]
      rw [hnm] at HST
      have HNM := hide hnm
      clear hnm
      obtain ⟨a3, c3, ev3, hr3⟩ := Rd.own HST.out (nI_bytes _)
      cases ev3
      rw [← hnl] at hr3
      have hcv := Rt.txt hr3 i hnl
      rw [hnl] at hcv
      obtain ⟨sn, hsn⟩ : ∃ sn, str nm = sn := ⟨_, rfl⟩
      rw [hsn] at hcv
      have HSN := hide hsn
      clear hsn hr3
      go_upto_region 11 with fail
      have r4 := World.ownsRow_lit (base := w.heap.size) (e := 5) (size := 1) W3 #[.int .u8 1] 1 (by have := HB1.out.size; have := HB3.out.size; omega) (by unfold maxLen; omega) rfl
      have b4 : Below W3.heap.size W3 (W3.alloc (.cells #[.int .u8 1] 5)) := (Below.refl _ _).alloc (Nat.le_refl _) _
      have z4 : (W3.alloc (.cells #[.int .u8 1] 5)).heap.size = W3.heap.size + 1 := by simp
      obtain ⟨W4, hW4⟩ : ∃ W4, W3.alloc (.cells #[.int .u8 1] 5) = W4 := ⟨_, rfl⟩
      rw [hW4] at r4 b4 z4 ⊢
      clear hW4
      have r5 := World.ownsRow_lit (base := w.heap.size) (e := 26) (size := 2) W4 #[.string sn, .slice (some ⟨W3.heap.size, 0, none⟩) 1 1] 1 (by have := HB1.out.size; have := HB3.out.size; omega) (by unfold maxLen; omega) rfl
      have b5 : Below W4.heap.size W4 (W4.alloc (.cells #[.string sn, .slice (some ⟨W3.heap.size, 0, none⟩) 1 1] 26)) := (Below.refl _ _).alloc (Nat.le_refl _) _
      have h5 := heap_alloc_new W4 (.cells #[.string sn, .slice (some ⟨W3.heap.size, 0, none⟩) 1 1] 26)
      rw [← z4]
      obtain ⟨W5, hW5⟩ : ∃ W5, W4.alloc (.cells #[.string sn, .slice (some ⟨W3.heap.size, 0, none⟩) 1 1] 26) = W5 := ⟨_, rfl⟩
      rw [hW5] at r5 b5 h5 ⊢
      clear hW5
      have hda := rowKept (B0 := w.heap.size) r4 b5
      have HB5 := hide ((HB1.out.trans (HB3.out.mono HB1.out.size)).trans ((b4.trans (b5.mono b4.size)).mono (HB1.out.trans (HB3.out.mono HB1.out.size)).size))
      have hsn := HSN.out
      subst hsn
      have hu0 : MbV.Own W5 w.heap.size (⟨nm, some ⟨W3.heap.size, 0, none⟩, 1, 1⟩ : MbV) (⟨nm, [1]⟩ : Mb) := ⟨rfl, hda⟩
      have c50 : W5.cell? ⟨W4.heap.size, 0, none⟩ = some (.string (str nm)) := (cell_of_row _ _ 0 _ _ (0, 0) h5).trans rfl
      have c51 : W5.cell? ⟨W4.heap.size, 1, none⟩ = some (.slice (some ⟨W3.heap.size, 0, none⟩) 1 1) := (cell_of_row _ _ 1 _ _ (0, 0) h5).trans rfl
      have HU0 := hide hu0
      have HR5 := hide r5
      have hw5 : W4.heap.size < W5.heap.size := World.block_lt_of_cell? W5 _ c50
      clear r4 b4 r5 b5 h5 hda hu0 HST hcv z4
      go_upto_if 48 with fail
      go_cut [10] (fun u wx => Hid (NmI w wx u nm tw))
      case first =>
        cases tw
        · have HF : Hid (NmI w W5 (.slice (some ⟨W4.heap.size, 0, none⟩) 1 1) nm false) := by
            have o : OM W5 w.heap.size (.slice (some ⟨W4.heap.size, 0, none⟩) 1 1) (nmMs nm false) := ⟨[⟨nm, some ⟨W3.heap.size, 0, none⟩, 1, 1⟩], HR5.out, rfl, fun j m hm => by
              match j, hm with
              | 0, hm => cases hm; exact ⟨_, rfl, HU0.out⟩
              | q + 1, hm => simp [nmMs] at hm⟩
            obtain ⟨a, cc, e, rm⟩ := o.rm
            exact ⟨⟨a, cc, e, rm⟩, HB5.out⟩
          go_wp2_with fail
          go_meet
          case rel => exact HF.out
        · have hsz5 := HB5.out.size
          go_upto_region 12 with fail
          go_upto_region 13 with (first | (refine wpList_buildOne rfl _ 26 2 _ rfl [(0, .agg #[.string ⟨#[109]⟩, .slice none 0 0]), (1, .agg #[.string (str nm), .slice (some ⟨W3.heap.size, 0, none⟩) 1 1])] #[.string ⟨#[109]⟩, .slice none 0 0, .string (str nm), .slice (some ⟨W3.heap.size, 0, none⟩) 1 1] (by kernel_rfl) Tryd.underlying23 (by kernel_rfl) ?_) | (at_builtin; refine wpList_append_own _ rfl _ _ 23 rfl w.heap.size 26 iM (.agg #[.string ⟨#[]⟩, .slice none 0 0]) 2 40 Tryd.underlying23 hiM hzM0 hzM1 hzM2 rfl (by decide) _ _ _ rfl (HR5.out.alloc _) ⟨W5.heap.size, 0, none⟩ 2 2 [.string ⟨#[109]⟩, .slice none 0 0, .string (str nm), .slice (some ⟨W3.heap.size, 0, none⟩) 1 1] rfl rfl (World.news_of_block (cs := #[.string ⟨#[109]⟩, .slice none 0 0, .string (str nm), .slice (some ⟨W3.heap.size, 0, none⟩) 1 1]) (t := 26) (fr := (0, 0)) (heap_alloc_new W5 _)) (by simp [Value.oneCell']) (by unfold maxLen; omega) (by omega) (by simp; omega) ?_))
          intro v2 w2 hown hgrow _
          have oG : OthT 26 (W5.alloc (.cells #[.string ⟨#[109]⟩, .slice none 0 0, .string (str nm), .slice (some ⟨W3.heap.size, 0, none⟩) 1 1] 26)) w2 := OthT.grown (HR5.out.alloc _) hgrow
          have bA : Below W5.heap.size W5 (W5.alloc (.cells #[.string ⟨#[109]⟩, .slice none 0 0, .string (str nm), .slice (some ⟨W3.heap.size, 0, none⟩) 1 1] 26)) := (Below.refl _ _).alloc (Nat.le_refl _) _
          have HF : Hid (NmI w w2 v2 nm true) := by
            have hu := (HU0.out.below bA).oth oG (by decide)
            have o : OM w2 w.heap.size v2 (nmMs nm true) := ⟨[⟨nm, some ⟨W3.heap.size, 0, none⟩, 1, 1⟩, ⟨[109], none, 0, 0⟩, ⟨nm, some ⟨W3.heap.size, 0, none⟩, 1, 1⟩], hown, rfl, fun j m hm => by
              match j, hm with
              | 0, hm => cases hm; exact ⟨_, rfl, hu⟩
              | 1, hm => cases hm; exact ⟨_, rfl, rfl, World.ownsRow_nil _ _ _ _⟩
              | 2, hm => cases hm; exact ⟨_, rfl, hu⟩
              | q + 3, hm => simp [nmMs] at hm⟩
            obtain ⟨a, cc, e, rm⟩ := o.rm
            refine ⟨⟨a, cc, e, rm⟩, (HB5.out.alloc hsz5 _).grown hgrow (by simp; omega) (fun q hq => ?_)⟩
            have := row_ge HR5.out hq
            omega
          clear hown hgrow oG bA HR5 HU0 HB5
          go_wp2_with fail
          go_meet
          case rel => exact HF.out
      case rest =>
        obtain ⟨⟨a10, c10, rfl, hrm⟩, hbel⟩ := hcut.out
        have htt := nmMs_tot nm tw (by omega)
        have HBC := hide hbel
        have HRM := hide hrm
        have HW := hide (write_any a10 c10 (nmMs nm tw) none 0 [] wc hrm (Rd.nothing _) (HL.out.then hbel) (by omega) (by simp))
        have hm1 := hrm.le
        have hm2 := hrm.max
        clear hcut hrm hbel c50 c51 HU0 HR5 HB5 HSN
        go_wp2_with fail
        refine HW.out.mono ?_
        rintro e w6 ⟨v6, rfl, hbx⟩
        obtain ⟨a6, c6, rfl, hr6⟩ := hbx.rt
        have HB6 := hide (HBC.out.trans (hbx.bel.mono HBC.out.size))
        have HW6 := hide hbx.bel
        have HR6 := hide hr6
        have HRD := hide (read_any a6 c6 _ w6 hr6 (HL.out.then HB6.out) conAny)
        have hlim := names_lim i cb tw hk1 hk2
        rw [HNM.out] at hlim
        obtain ⟨RO, hRO⟩ : ∃ RO, arR 15 (wA (nmMs nm tw) []) = RO := ⟨_, rfl⟩
        rw [hRO] at HRD hlim
        have HRO := hide hRO
        have HLM := hide hlim
        have h6c := hr6.le
        have h6m := hr6.max
        have HRQ := hide (fun (u : World) (hu : Below w6.heap.size w6 u) => rarread_any a6 c6 _ u (Rd.below hr6 hu))
        obtain ⟨LN, hLN⟩ : ∃ LN, (wA (nmMs nm tw) []).length = LN := ⟨_, rfl⟩
        rw [hLN] at HRD HRQ h6c ⊢
        rw [← hlim] at HRQ
        clear hbx hr6 HW hRO hlim hLN HR6
        go_wp2_with fail
        refine HRD.out.mono ?_
        rintro e w7 ⟨hb7, ht7⟩
        obtain ⟨am, cm, ai, li, ci, rfl, hrm7⟩ := ht7.told
        have HB7 := hide hb7
        have HRM7 := hide hrm7
        have hm3 := hrm7.le
        have hm4 := hrm7.max
        have HQ := hide (HRQ.out w7 hb7)
        clear hb7 ht7 hrm7 HRD HRQ
        go_wp2_with fail
        refine HQ.out.mono ?_
        rintro e w8 ⟨hb8, ht8⟩
        obtain ⟨bm, dm, bi, mi, di, rfl, hrm8⟩ := ht8.told
        have HB8 := hide hb8
        have HRM8 := hide hrm8
        have hm5 := hrm8.le
        have hm6 := hrm8.max
        have HME := hide (fun (u : World) (hu : Below w8.heap.size w8 u) => members_eq (rms RO) am bm cm dm u ((HRM7.out.below hb8).below hu) (hrm8.below hu))
        have HB78 := hide (HB7.out.trans (hb8.mono HB7.out.size))
        have HB68 := hide (HW6.out.trans (HB78.out.mono HW6.out.size))
        have HB08 := hide (HB6.out.trans (HB78.out.mono HB6.out.size))
        clear hb8 ht8 hrm8 HQ
        have hne : (rev RO != rev RO) = false := by simp
        go_wp2_with fail
        refine (HME.out w8 (Below.refl _ _)).mono ?_
        rintro e w9 ⟨rfl, hb9⟩
        have HB9 := hide (HB08.out.trans (hb9.mono HB08.out.size))
        have HB89 := hide (HB8.out.trans (hb9.mono HB8.out.size))
        clear hb9
        have q0 : ((cb.toNat : Int) == 0) = decide (cb = 0) := byte_sameD cb 0
        have q1 : ((cb.toNat : Int) == 47) = decide (cb = 47) := byte_sameD cb 47
        have q2 : ((cb.toNat : Int) == 10) = decide (cb = 10) := byte_sameD cb 10
        clear hne HME HRM8
        by_cases c0 : cb = 0
        · rw [decide_eq_true c0] at q0
          clear q1 q2 c0
          go_wp2_with fail
          go_ret
          exact ⟨rfl, HB9.out⟩
        rw [decide_eq_false c0] at q0
        by_cases c1 : cb = 47
        · rw [decide_eq_true c1] at q1
          clear q2 c0 c1
          go_wp2_with fail
          go_ret
          exact ⟨rfl, HB9.out⟩
        rw [decide_eq_false c1] at q1
        by_cases c2 : cb = 10
        · rw [decide_eq_true c2] at q2
          clear c0 c1 c2
          go_wp2_with fail
          go_ret
          exact ⟨rfl, HB9.out⟩
        rw [decide_eq_false c2] at q2
        rcases Nat.lt_or_ge 200 i with h200 | h200
        · have d200 : decide ((200 : Int) < (i : Int)) = true := decide_eq_true (by omega)
          clear c0 c1 c2
          go_wp2_with fail
          go_ret
          exact ⟨rfl, HB9.out⟩
        have d200 : decide ((200 : Int) < (i : Int)) = false := decide_eq_false (by omega)
        have d200' : ¬ (200 : Int) < (i : Int) := by omega
        obtain ⟨t, ht1, ht2⟩ := names_read i cb tw hk1 h200 (by simp [badC, c0, c1, c2])
        rw [HNM.out, HRO.out] at ht1
        rw [HNM.out] at ht2
        obtain rfl := ht1
        have e1 : rms (some t) = nmMs nm tw := ht2
        have e2 : rev (some t) = 0 := rfl
        have HML := hide (members_eq (nmMs nm tw) am a10 cm c10 w9 (by have := HRM7.out; rw [e1] at this; exact this.below HB89.out) (HRM.out.below ((HW6.out.trans (HB7.out.mono HW6.out.size)).trans (HB89.out.mono (HW6.out.trans (HB7.out.mono HW6.out.size)).size))))
        rw [e1, e2]
        clear ht2 e1 e2 c0 c1 c2 HRM7 HRM
        go_wp2_with fail
        refine HML.out.mono ?_
        rintro e w10 ⟨rfl, hb10⟩
        have HB10 := hide (HB9.out.trans (hb10.mono HB9.out.size))
        clear hb10 HML
        go_wp2_with fail
        go_ret
        exact ⟨rfl, HB10.out⟩

end Go.Proofs.YtmmcnkdefpfkiaaDoor
