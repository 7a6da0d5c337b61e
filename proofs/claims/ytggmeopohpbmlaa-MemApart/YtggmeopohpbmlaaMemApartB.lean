/- The walk of MemApart: the store may not be done, or there is no second page. -/
import Derived.Test.YtggmeopohpbmlaaMemApartQ
namespace Go.Proofs.Ytggmeopohpbmlaa
open Go.RowKit Go.Maps
set_option linter.unusedVariables false

set_option maxRecDepth 20000 in
set_option maxHeartbeats 6400000 in
theorem apart_no2 (a0 a1 v a3 : Int) (w : World) (at' k kq kw : Nat) (q : Int) (p0 : 0 ≤ a0 ∧ a0 ≤ 65535) (p1 : 0 ≤ a1 ∧ a1 ≤ 255) (v0 : 0 ≤ v) (v1 : v ≤ 18446744073709551615) (p3 : 0 ≤ a3 ∧ a3 ≤ 255)
    (ht : a0 % 4120 = (at' : Int)) (hat : at' < 4120) (hkq : a3 % 3 = (kq : Int)) (hkq3 : kq < 3) (hkw : a1 % 4 = (kw : Int)) (hkw4 : kw < 4) (hqe : q = aq kq) (hke : k = aw kw) (hq : q = 6 ∨ q = 4) (hz : bits .and .i64 q 2 = 0) (hout : ¬ at' + k ≤ 4096) :
    Calls Try.prog 5 #[.int .u16 a0, .int .u8 a1, .int .u64 v, .int .u8 a3] w fun e w' => e = .returned (.bool true) ∧ Below w.heap.size w w' := by
  have hT1 : ∀ W : World, (W.alloc (.cells #[.int .i64 6, .int .i64 4, .int .i64 0] 3)).cell? ⟨W.heap.size, kq, none⟩ = some (.int .i64 q) := fun W => by rw [hqe]; exact aq_tab W kq hkq3
  have hT2 : ∀ W : World, (W.alloc (.cells #[.int .i64 1, .int .i64 2, .int .i64 4, .int .i64 8] 3)).cell? ⟨W.heap.size, kw, none⟩ = some (.int .i64 (k : Int)) := fun W => by rw [hke]; exact aw_tab W kw hkw4
  have hkc := aw_is kw
  rw [← hke] at hkc
  have hw : WidthOk (k : Int) := by unfold WidthOk; omega
  have hk8 : 1 ≤ k ∧ k ≤ 8 := by omega
  have hk1 := hk8.1
  have hk2 := hk8.2
  have HPo : Hid (PermOk q) := by unfold PermOk Hid; omega
  obtain ⟨S1, hS1⟩ : ∃ S1, S1 = ap2 q := ⟨_, rfl⟩
  have HTwo : Hid (TwoP S1 q) := by rw [hS1]; exact ap2_two HPo.out
  have HQ4 : Hid ((!(bits .and .i64 q 4 == 0)) = true) := by
    show _ = _
    rcases hq with rfl | rfl <;> decide
  have hq0 : 0 < q := by omega
  clear hq
  obtain ⟨S2, hS2⟩ : ∃ S2, S2 = stored S1 at' (k : Int) v := ⟨_, rfl⟩
  have HSd : Hid (stored S1 at' (k : Int) v = S2) := hS2.symm
  have HOk := hout
  have HOq := hz
  have HSt : Hid (numOk S1 at' (k : Int) 2 = false) := by
    show _ = _
    rw [store_none HTwo.out hk8 hat hw]
    simp [HOk, HOq]
  have HS2 : Hid (S2 = S1) := by
    show _ = _
    rw [hS2]; unfold stored; rw [HSt.out]; rfl
  have HTwo2 : Hid (TwoP S2 q) := by rw [HS2.out]; exact HTwo.out
  have HX1 : decide ((at' : Int) + (k : Int) ≤ 4096) = false := by simp; omega
  have HX2 : (bits .and .i64 q 2 == 0) = true := by simpa using hz
  clear HOk HOq
  clear hS2 hkc hk8 hw hqe hke
  have HK := hide known_any
  go_enter Try.func5, Try.ntmps5
  go_wp2_with fail
  refine (HK.out _).mono ?_
  rintro e W1 ⟨rfl, hB1⟩
  have HB1 := hide hB1
  clear hB1 HK
  go_wp2_with fail
  refine (own_new w _ HB1.out).mono ?_
  rintro e W2 ⟨m, rfl, hO⟩
  have HO := hide hO
  clear hO HB1
  go_wp2_with fail
  refine (ap_c1 HO.out).mono ?_
  rintro e W3 ⟨rfl, hO⟩
  have hT1' := hT1 W3
  clear hT1 HO
  have HO := hide (hO.alloc (.cells #[.int .i64 6, .int .i64 4, .int .i64 0] 3))
  clear hO
  go_upto_region 6 with fail
  obtain ⟨W5, hW5⟩ : ∃ W5, W5 = W3.alloc (.cells #[.int .i64 6, .int .i64 4, .int .i64 0] 3) := ⟨_, rfl⟩
  rw [← hW5] at HO
  rw [← hW5]
  clear hW5 hT1'
  go_wp2_with fail
  refine (ap_c2 HPo.out HO.out).mono ?_
  rintro e W4 ⟨rfl, hO⟩
  rw [← hS1] at hO
  have hT2' := hT2 W4
  have H0 := hide (hO.alloc (.cells #[.int .i64 1, .int .i64 2, .int .i64 4, .int .i64 8] 3)).apx
  have HGd1 := hide hO.good
  clear hT2 hO HO hS1
  go_wp2_with fail
  refine (apx_read H0.out 0 4096 (by decide) (by decide) HTwo.out.read0).mono ?_
  rintro e W6 ⟨O1, rfl, hO1, hG1, hR1, hA, hB⟩
  have H1 := hide hA
  have HR1 := hide hR1
  clear hA hB hR1 hG1 H0 hT2'
  go_wp2_with fail
  refine (apx_read H1.out 4096 4096 (by decide) (by decide) (by rw [HTwo.out.read1]; exact HQ4.out)).mono ?_
  rintro e W7 ⟨O2, rfl, hO2, hG2, hR2, hA, hB⟩
  have H2 := hide hA
  have HR2 := hide hR2
  have HR1 : Hid (RowOf W7 O1 S1 0 4096) := HR1.out.kept (hB.block O1 HR1.out.lt)
  have h12 : O1 ≠ O2 := fun e => hG2 (Or.inr e.symm)
  clear hA hB hR2 hG2 H1
  go_wp2_with fail
  refine (apx_store H2.out at' (k : Int) v (by omega) (by omega) (by omega) v0 v1).mono ?_
  rintro e W8 ⟨rfl, hA, hK⟩
  rw [HSd.out] at hA
  rw [HSt.out]
  have H3 := hide hA
  have HR1b : Hid (RowOf W8 O1 S1 0 4096) := HR1.out.kept (hK O1 (Or.inl (Or.inr rfl)))
  have HR2b : Hid (RowOf W8 O2 S1 4096 4096) := HR2.out.kept (hK O2 (Or.inr rfl))
  clear hA hK H2 HR1 HR2
  go_wp2_with fail
  refine (apx_read H3.out 0 4096 (by decide) (by decide) HTwo2.out.read0).mono ?_
  rintro e W9 ⟨O3, rfl, hO3, hG3, hR3, hA, hB⟩
  have H4 := hide hA
  have HR3 := hide hR3
  have HR1 : Hid (RowOf W9 O1 S1 0 4096) := HR1b.out.kept (hB.block O1 HR1b.out.lt)
  have HR2 : Hid (RowOf W9 O2 S1 4096 4096) := HR2b.out.kept (hB.block O2 HR2b.out.lt)
  have h13 : O1 ≠ O3 := fun e => hG3 (Or.inl (Or.inr e.symm))
  have h23 : O2 ≠ O3 := fun e => hG3 (Or.inr e.symm)
  clear hA hB hR3 hG3 H3 HR1b HR2b
  go_wp2_with fail
  refine (apx_read H4.out 4096 4096 (by decide) (by decide) (by rw [HTwo2.out.read1]; exact HQ4.out)).mono ?_
  rintro e W ⟨O4, rfl, hO4, hG4, hR4, hA, hB⟩
  have HR4 := hide hR4
  have HBW := hide hA.bel
  have h14 : O1 ≠ O4 := fun e => hG4 (Or.inl (Or.inl (Or.inr e.symm)))
  have h24 : O2 ≠ O4 := fun e => hG4 (Or.inl (Or.inr e.symm))
  have HR1b : Hid (RowOf W O1 S1 0 4096) := HR1.out.kept (hB.block O1 HR1.out.lt)
  have HR2b : Hid (RowOf W O2 S1 4096 4096) := HR2.out.kept (hB.block O2 HR2.out.lt)
  have HR3b : Hid (RowOf W O3 S2 0 4096) := HR3.out.kept (hB.block O3 HR3.out.lt)
  have hGd2 := hide hA
  clear hA hB hR4 hG4 H4 HR1 HR2 HR3
  have HGd : Hid (S1.Good ∧ S2.Good) := by
    obtain ⟨F9, h9, _⟩ := hGd2.out
    exact ⟨HGd1.out, h9.good⟩
  clear hGd2
  go_wp2
  go_loopw [23] (fun i wr => ∃ j : Nat, j ≤ k ∧ i = .int .u64 (j : Int) ∧ wr = W) (fun i _ => k - (intOf i).toNat)
  case atStart => exact ⟨0, by omega, rfl, rfl⟩
  case round =>
    obtain ⟨j, hj, rfl, rfl⟩ := hrel
    have hs1 := (HR1b.out.rd HGd.out.1 (by decide)).str
    have hs3 := (HR3b.out.rd HGd.out.2 (by decide)).str
    rw [HS2.out] at hs3
    have hs2 := (HR2b.out.rd HGd.out.1 (by decide)).str
    have hs4 := (HR4.out.rd HGd.out.2 (by decide)).str
    rw [HS2.out] at hs4
    generalize S1.read 4096 4096 = Y at *
    generalize S1.read 0 4096 = X at *
    go_wp2
    go_ret
    exact ⟨ret_bool (by simp), HBW.out⟩

set_option maxRecDepth 20000 in
set_option maxHeartbeats 6400000 in
theorem apart_in1 (a0 a1 v a3 : Int) (w : World) (at' k kq kw : Nat) (q : Int) (p0 : 0 ≤ a0 ∧ a0 ≤ 65535) (p1 : 0 ≤ a1 ∧ a1 ≤ 255) (v0 : 0 ≤ v) (v1 : v ≤ 18446744073709551615) (p3 : 0 ≤ a3 ∧ a3 ≤ 255)
    (ht : a0 % 4120 = (at' : Int)) (hat : at' < 4120) (hkq : a3 % 3 = (kq : Int)) (hkq3 : kq < 3) (hkw : a1 % 4 = (kw : Int)) (hkw4 : kw < 4) (hqe : q = aq kq) (hke : k = aw kw) (hq : q = 0) (hin : at' + k ≤ 4096) :
    Calls Try.prog 5 #[.int .u16 a0, .int .u8 a1, .int .u64 v, .int .u8 a3] w fun e w' => e = .returned (.bool true) ∧ Below w.heap.size w w' := by
  have hT1 : ∀ W : World, (W.alloc (.cells #[.int .i64 6, .int .i64 4, .int .i64 0] 3)).cell? ⟨W.heap.size, kq, none⟩ = some (.int .i64 q) := fun W => by rw [hqe]; exact aq_tab W kq hkq3
  have hT2 : ∀ W : World, (W.alloc (.cells #[.int .i64 1, .int .i64 2, .int .i64 4, .int .i64 8] 3)).cell? ⟨W.heap.size, kw, none⟩ = some (.int .i64 (k : Int)) := fun W => by rw [hke]; exact aw_tab W kw hkw4
  have hkc := aw_is kw
  rw [← hke] at hkc
  have hw : WidthOk (k : Int) := by unfold WidthOk; omega
  have hk8 : 1 ≤ k ∧ k ≤ 8 := by omega
  have hk1 := hk8.1
  have hk2 := hk8.2
  subst hq
  obtain ⟨S1, hS1⟩ : ∃ S1, S1 = ap1 := ⟨_, rfl⟩
  have HTwo : Hid (TwoP S1 0) := by rw [hS1]; exact ap1_two
  obtain ⟨S2, hS2⟩ : ∃ S2, S2 = stored S1 at' (k : Int) v := ⟨_, rfl⟩
  have HSd : Hid (stored S1 at' (k : Int) v = S2) := hS2.symm
  have HOk : at' + k ≤ 4096 := hin
  have HSt : Hid (numOk S1 at' (k : Int) 2 = true) := by
    show _ = _
    rw [store_none HTwo.out hk8 hat hw]
    simp [HOk]
  have HS2 : Hid (S2 = S1.lay at' (bytesOf v k)) := by
    show _ = _
    rw [hS2]; unfold stored; rw [if_pos HSt.out]; rfl
  have HTwo2 : Hid (TwoP S2 0) := by rw [HS2.out]; exact HTwo.out.lay _ _
  have HL0 : Hid (S1.lay at' (bytesOf v 0) = S1) := S1.lay_nil at'
  have HX1 : decide ((at' : Int) + (k : Int) ≤ 4096) = true := by simp; omega
  clear HOk
  clear hS2 hkc hk8 hw hqe hke
  have HK := hide known_any
  go_enter Try.func5, Try.ntmps5
  go_wp2_with fail
  refine (HK.out _).mono ?_
  rintro e W1 ⟨rfl, hB1⟩
  have HB1 := hide hB1
  clear hB1 HK
  go_wp2_with fail
  refine (own_new w _ HB1.out).mono ?_
  rintro e W2 ⟨m, rfl, hO⟩
  have HO := hide hO
  clear hO HB1
  go_wp2_with fail
  refine (ap_c1 HO.out).mono ?_
  rintro e W3 ⟨rfl, hO⟩
  have hT1' := hT1 W3
  clear hT1 HO
  have HO := hide (hO.alloc (.cells #[.int .i64 6, .int .i64 4, .int .i64 0] 3))
  clear hO
  go_upto_region 8 with fail
  obtain ⟨W4, hW4⟩ : ∃ W4, W4 = W3.alloc (.cells #[.int .i64 6, .int .i64 4, .int .i64 0] 3) := ⟨_, rfl⟩
  rw [← hW4] at HO
  rw [← hW4]
  have hT2' := hT2 W4
  have H0 := hide (HO.out.alloc (.cells #[.int .i64 1, .int .i64 2, .int .i64 4, .int .i64 8] 3)).apx
  rw [← hS1] at H0
  have HGd1 := hide HO.out.good
  rw [← hS1] at HGd1
  clear hT2 HO hS1 hW4 hT1'
  go_wp2_with fail
  refine (apx_read H0.out 0 4096 (by decide) (by decide) HTwo.out.read0).mono ?_
  rintro e W6 ⟨O1, rfl, hO1, hG1, hR1, hA, hB⟩
  have H1 := hide hA
  have HR1 := hide hR1
  clear hA hB hR1 hG1 H0 hT2'
  go_wp2_with fail
  refine (apx_noread H1.out 4096 4096 (by decide) (by decide) (by rw [HTwo.out.read1]; decide)).mono ?_
  rintro e W7 ⟨rfl, hA, hB⟩
  have H2 := hide hA
  have HR1 : Hid (RowOf W7 O1 S1 0 4096) := HR1.out.kept (hB.block O1 HR1.out.lt)
  clear hA hB H1
  go_wp2_with fail
  refine (apx_store H2.out at' (k : Int) v (by omega) (by omega) (by omega) v0 v1).mono ?_
  rintro e W8 ⟨rfl, hA, hK⟩
  rw [HSd.out] at hA
  rw [HSt.out]
  have H3 := hide hA
  have HR1b : Hid (RowOf W8 O1 S1 0 4096) := HR1.out.kept (hK O1 (Or.inr rfl))
  clear hA hK H2 HR1
  go_wp2_with fail
  refine (apx_read H3.out 0 4096 (by decide) (by decide) HTwo2.out.read0).mono ?_
  rintro e W9 ⟨O3, rfl, hO3, hG3, hR3, hA, hB⟩
  have H4 := hide hA
  have HR3 := hide hR3
  have HR1 : Hid (RowOf W9 O1 S1 0 4096) := HR1b.out.kept (hB.block O1 HR1b.out.lt)
  have h13 : O1 ≠ O3 := fun e => hG3 (Or.inr e.symm)
  clear hA hB hR3 hG3 H3 HR1b
  go_wp2_with fail
  refine (apx_noread H4.out 4096 4096 (by decide) (by decide) (by rw [HTwo2.out.read1]; decide)).mono ?_
  rintro e W ⟨rfl, hA, hB⟩
  have HBW := hide hA.bel
  have HR1b : Hid (RowOf W O1 S1 0 4096) := HR1.out.kept (hB.block O1 HR1.out.lt)
  have HR3b : Hid (RowOf W O3 S2 0 4096) := HR3.out.kept (hB.block O3 HR3.out.lt)
  have hGd2 := hide hA
  clear hA hB H4 HR1 HR3
  have HGd : Hid (S1.Good ∧ S2.Good) := by
    obtain ⟨F9, h9, _⟩ := hGd2.out
    exact ⟨HGd1.out, h9.good⟩
  clear hGd2
  go_wp2
  go_loopw [23] (fun i wr => ∃ j : Nat, j ≤ k ∧ i = .int .u64 (j : Int) ∧ RowOf wr O1 (S1.lay at' (bytesOf v j)) 0 4096 ∧ RowOf wr O3 S2 0 4096 ∧ Below w.heap.size w wr) (fun i _ => k - (intOf i).toNat)
  case atStart => exact ⟨0, by omega, rfl, by rw [HL0.out]; exact HR1b.out, HR3b.out, HBW.out⟩
  case round =>
    obtain ⟨j, hj, rfl, hr1, hr3, hbel⟩ := hrel
    clear HR1b HR3b HBW
    have Hr1 := hide hr1
    have Hr3 := hide hr3
    have HB := hide hbel
    by_cases hlt : j < k
    · have hby := byteOf_bd v j
      by_cases hin : at' + j < 4096
      · have hin' : decide ((at' : Int) + (j : Int) < 4096) = true := by simp; omega
        have hcell := hr1.cell (at' + j) hin
        have hfz := hr1.frozen (at' + j)
        have hst := hr1.store at' (bytesOf v j) (byteOf v j) ⟨S1, rfl⟩ (at' + j) (by rw [bytesOf_length]; omega) hin S1 rfl
        rw [← bytesOf_succ] at hst
        have HST := hide hst
        have HST3 : Hid (RowOf (wr.setCell ⟨O1, at' + j, none⟩ (.int .u8 (byteOf v j))) O3 S2 0 4096) := hr3.kept (Below.heap_setCell _ _ _ _ (fun e => h13 e.symm))
        obtain ⟨u0, hu0⟩ : ∃ u0, u0 = (S1.lay at' (bytesOf v j)).byte (0 + (at' + j)) := ⟨_, rfl⟩
        rw [← hu0] at hcell
        clear hu0 hst hr1 hr3 hbel
        go_wp2
        go_roundw
        case rel => exact ⟨j + 1, by omega, by go_num, HST.out, HST3.out, HB.out.setCell hO1 _⟩
        case measure => simp [intOf]; omega
      · omega
    · obtain rfl : j = k := by omega
      have hs1 := (Hr1.out.rd (HGd.out.1.lay _ (bytesOf_bytes v j)) (by decide)).str
      have hs3 := (Hr3.out.rd HGd.out.2 (by decide)).str
      rw [HS2.out] at hs3
      have hs2 := (Rd.nothing wr).str
      generalize (S1.lay at' (bytesOf v j)).read 0 4096 = X at *
      clear hr1 hr3 hbel Hr1 Hr3
      go_wp2
      go_ret
      exact ⟨ret_bool (by simp), HB.out⟩

set_option maxRecDepth 20000 in
set_option maxHeartbeats 6400000 in
theorem apart_no1 (a0 a1 v a3 : Int) (w : World) (at' k kq kw : Nat) (q : Int) (p0 : 0 ≤ a0 ∧ a0 ≤ 65535) (p1 : 0 ≤ a1 ∧ a1 ≤ 255) (v0 : 0 ≤ v) (v1 : v ≤ 18446744073709551615) (p3 : 0 ≤ a3 ∧ a3 ≤ 255)
    (ht : a0 % 4120 = (at' : Int)) (hat : at' < 4120) (hkq : a3 % 3 = (kq : Int)) (hkq3 : kq < 3) (hkw : a1 % 4 = (kw : Int)) (hkw4 : kw < 4) (hqe : q = aq kq) (hke : k = aw kw) (hq : q = 0) (hout : ¬ at' + k ≤ 4096) :
    Calls Try.prog 5 #[.int .u16 a0, .int .u8 a1, .int .u64 v, .int .u8 a3] w fun e w' => e = .returned (.bool true) ∧ Below w.heap.size w w' := by
  have hT1 : ∀ W : World, (W.alloc (.cells #[.int .i64 6, .int .i64 4, .int .i64 0] 3)).cell? ⟨W.heap.size, kq, none⟩ = some (.int .i64 q) := fun W => by rw [hqe]; exact aq_tab W kq hkq3
  have hT2 : ∀ W : World, (W.alloc (.cells #[.int .i64 1, .int .i64 2, .int .i64 4, .int .i64 8] 3)).cell? ⟨W.heap.size, kw, none⟩ = some (.int .i64 (k : Int)) := fun W => by rw [hke]; exact aw_tab W kw hkw4
  have hkc := aw_is kw
  rw [← hke] at hkc
  have hw : WidthOk (k : Int) := by unfold WidthOk; omega
  have hk8 : 1 ≤ k ∧ k ≤ 8 := by omega
  have hk1 := hk8.1
  have hk2 := hk8.2
  subst hq
  obtain ⟨S1, hS1⟩ : ∃ S1, S1 = ap1 := ⟨_, rfl⟩
  have HTwo : Hid (TwoP S1 0) := by rw [hS1]; exact ap1_two
  obtain ⟨S2, hS2⟩ : ∃ S2, S2 = stored S1 at' (k : Int) v := ⟨_, rfl⟩
  have HSd : Hid (stored S1 at' (k : Int) v = S2) := hS2.symm
  have HOk := hout
  have HOq : bits .and .i64 0 2 = 0 := and_2
  have HSt : Hid (numOk S1 at' (k : Int) 2 = false) := by
    show _ = _
    rw [store_none HTwo.out hk8 hat hw]
    simp [HOk, HOq]
  have HS2 : Hid (S2 = S1) := by
    show _ = _
    rw [hS2]; unfold stored; rw [HSt.out]; rfl
  have HTwo2 : Hid (TwoP S2 0) := by rw [HS2.out]; exact HTwo.out
  have HX1 : decide ((at' : Int) + (k : Int) ≤ 4096) = false := by simp; omega
  clear HOk HOq
  clear hS2 hkc hk8 hw hqe hke
  have HK := hide known_any
  go_enter Try.func5, Try.ntmps5
  go_wp2_with fail
  refine (HK.out _).mono ?_
  rintro e W1 ⟨rfl, hB1⟩
  have HB1 := hide hB1
  clear hB1 HK
  go_wp2_with fail
  refine (own_new w _ HB1.out).mono ?_
  rintro e W2 ⟨m, rfl, hO⟩
  have HO := hide hO
  clear hO HB1
  go_wp2_with fail
  refine (ap_c1 HO.out).mono ?_
  rintro e W3 ⟨rfl, hO⟩
  have hT1' := hT1 W3
  clear hT1 HO
  have HO := hide (hO.alloc (.cells #[.int .i64 6, .int .i64 4, .int .i64 0] 3))
  clear hO
  go_upto_region 8 with fail
  obtain ⟨W4, hW4⟩ : ∃ W4, W4 = W3.alloc (.cells #[.int .i64 6, .int .i64 4, .int .i64 0] 3) := ⟨_, rfl⟩
  rw [← hW4] at HO
  rw [← hW4]
  have hT2' := hT2 W4
  have H0 := hide (HO.out.alloc (.cells #[.int .i64 1, .int .i64 2, .int .i64 4, .int .i64 8] 3)).apx
  rw [← hS1] at H0
  have HGd1 := hide HO.out.good
  rw [← hS1] at HGd1
  clear hT2 HO hS1 hW4 hT1'
  go_wp2_with fail
  refine (apx_read H0.out 0 4096 (by decide) (by decide) HTwo.out.read0).mono ?_
  rintro e W6 ⟨O1, rfl, hO1, hG1, hR1, hA, hB⟩
  have H1 := hide hA
  have HR1 := hide hR1
  clear hA hB hR1 hG1 H0 hT2'
  go_wp2_with fail
  refine (apx_noread H1.out 4096 4096 (by decide) (by decide) (by rw [HTwo.out.read1]; decide)).mono ?_
  rintro e W7 ⟨rfl, hA, hB⟩
  have H2 := hide hA
  have HR1 : Hid (RowOf W7 O1 S1 0 4096) := HR1.out.kept (hB.block O1 HR1.out.lt)
  clear hA hB H1
  go_wp2_with fail
  refine (apx_store H2.out at' (k : Int) v (by omega) (by omega) (by omega) v0 v1).mono ?_
  rintro e W8 ⟨rfl, hA, hK⟩
  rw [HSd.out] at hA
  rw [HSt.out]
  have H3 := hide hA
  have HR1b : Hid (RowOf W8 O1 S1 0 4096) := HR1.out.kept (hK O1 (Or.inr rfl))
  clear hA hK H2 HR1
  go_wp2_with fail
  refine (apx_read H3.out 0 4096 (by decide) (by decide) HTwo2.out.read0).mono ?_
  rintro e W9 ⟨O3, rfl, hO3, hG3, hR3, hA, hB⟩
  have H4 := hide hA
  have HR3 := hide hR3
  have HR1 : Hid (RowOf W9 O1 S1 0 4096) := HR1b.out.kept (hB.block O1 HR1b.out.lt)
  have h13 : O1 ≠ O3 := fun e => hG3 (Or.inr e.symm)
  clear hA hB hR3 hG3 H3 HR1b
  go_wp2_with fail
  refine (apx_noread H4.out 4096 4096 (by decide) (by decide) (by rw [HTwo2.out.read1]; decide)).mono ?_
  rintro e W ⟨rfl, hA, hB⟩
  have HBW := hide hA.bel
  have HR1b : Hid (RowOf W O1 S1 0 4096) := HR1.out.kept (hB.block O1 HR1.out.lt)
  have HR3b : Hid (RowOf W O3 S2 0 4096) := HR3.out.kept (hB.block O3 HR3.out.lt)
  have hGd2 := hide hA
  clear hA hB H4 HR1 HR3
  have HGd : Hid (S1.Good ∧ S2.Good) := by
    obtain ⟨F9, h9, _⟩ := hGd2.out
    exact ⟨HGd1.out, h9.good⟩
  clear hGd2
  go_wp2
  go_loopw [23] (fun i wr => ∃ j : Nat, j ≤ k ∧ i = .int .u64 (j : Int) ∧ wr = W) (fun i _ => k - (intOf i).toNat)
  case atStart => exact ⟨0, by omega, rfl, rfl⟩
  case round =>
    obtain ⟨j, hj, rfl, rfl⟩ := hrel
    have hs1 := (HR1b.out.rd HGd.out.1 (by decide)).str
    have hs3 := (HR3b.out.rd HGd.out.2 (by decide)).str
    rw [HS2.out] at hs3
    have hs2 := (Rd.nothing wr).str
    generalize S1.read 0 4096 = X at *
    go_wp2
    go_ret
    exact ⟨ret_bool (by simp), HBW.out⟩

end Go.Proofs.Ytggmeopohpbmlaa
