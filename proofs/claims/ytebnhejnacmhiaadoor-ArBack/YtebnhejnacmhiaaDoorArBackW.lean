/- ArBack's whole walk: for any members and any index it answers true. -/
import Derived.Test.YtebnhejnacmhiaaDoorArBk
import Derived.Test.YtebnhejnacmhiaaDoorArKnown
namespace Go.Proofs.YtebnhejnacmhiaaDoor
open Go.RowKit Go.Maps
set_option linter.unusedVariables false
set_option maxRecDepth 100000
set_option maxRecDepth 20000
set_option linter.unusedSimpArgs false

theorem tot_lt : ∀ (ms : List Mb), ms.all ltm = true → tot ms ≤ ms.length * 520
  | [], _ => by simp [tot]
  | m :: l, h => by
    simp only [List.all_cons, Bool.and_eq_true] at h
    have h1 := tot_lt l h.2
    have h2 := h.1
    simp [ltm] at h2
    simp [tot]
    omega
theorem wA_len (ms : List Mb) (idx : T8) (ht : tot ms ≤ 100000) (hi : idx.length ≤ 1000) : (wA ms idx).length ≤ 1048576 := by
  have h1 := lgA_lg ms
  have h2 := msP_len (lgA ms) ms (fun x hx => fld_len ms x hx (by omega)) (by omega)
  have h3 : (idP idx).length ≤ idx.length + 61 := by
    unfold idP
    split
    · simp
    · exact wP_len _ _ (by decide) (by omega)
  have h4 : (lgP (lgA ms)).length ≤ (lgA ms).lg.length + 61 := by
    unfold lgP
    split
    · simp
    · exact wP_len _ _ (by decide) (by omega)
  have h5 : magc.length = 8 := rfl
  unfold wA
  simp only [List.length_append]
  omega

theorem rwrite_txt (a : Option Addr) (cap : Nat) (ms : List Mb) (ai : Option Addr) (ci : Nat) (idx : T8) (u : World) (r : Rmb u a ms.length cap ms) (ri : Rt u ai ci idx) (ht : tot ms ≤ 100000000) (hti : idx.length ≤ 100000000) :
    Calls Tryd.prog 12 #[.slice a ms.length cap, .slice ai idx.length ci] u fun e w' => ∃ a4 c4, e = .returned (.slice a4 (wA ms idx).length c4) ∧ Below u.heap.size u w' ∧ Sem.run Tryd.prog (convert 23 9 (.slice a4 (wA ms idx).length c4)) w' = .ok (.string (str (wA ms idx))) w' := by
  refine (rwrite_any a cap ms ai ci idx u r ri ht hti).mono ?_
  rintro e w' ⟨v4, rfl, hbx4⟩
  obtain ⟨a4, c4, rfl, hr4⟩ := hbx4.rt
  exact ⟨a4, c4, rfl, hbx4.bel, Rt.txt hr4 _ rfl⟩
set_option maxHeartbeats 8000000 in
theorem back_walk (a : Option Addr) (cap : Nat) (ms : List Mb) (ai : Option Addr) (ci : Nat) (idx : T8) (w : World) (r : Rmb w a ms.length cap ms) (ri : Rt w ai ci idx) (L : LaidR w) :
    Calls Tryd.prog 3 #[.slice a ms.length cap, .slice ai idx.length ci] w fun e w' => e = .returned (.bool true) ∧ Below w.heap.size w w' := by
  have hle := r.le
  have hmx := r.max
  have hile := ri.le
  have himx := ri.max
  have HR := hide r
  have HRI := hide ri
  have HL := hide L
  have HK := hide (known_17 w L)
  clear r ri L
  go_enter Tryd.func3, Tryd.ntmps3
  go_wp2_with fail
  refine HK.out.mono ?_
  rintro e w1 ⟨rfl, hb1⟩
  have HB1 := hide hb1
  have HLT := hide (light_any ms a cap w1 (HR.out.below hb1))
  clear hb1 HK
  by_cases hl : ltB ms = false
  · rw [hl] at HLT
    go_wp2_with fail
    refine HLT.out.mono ?_
    rintro e w2 ⟨rfl, hw⟩
    obtain rfl := hw.symm
    clear hw
    go_wp2_with fail
    go_ret
    exact ⟨rfl, HB1.out⟩
  have hl' : ltB ms = true := by simpa using hl
  rw [hl'] at HLT
  have HLL := hide hl'
  clear hl hl'
  by_cases hi2 : 200 < idx.length
  · have d2 : decide ((200 : Int) < (idx.length : Int)) = true := decide_eq_true (by omega)
    go_wp2_with fail
    refine HLT.out.mono ?_
    rintro e w2 ⟨rfl, hw⟩
    obtain rfl := hw.symm
    clear hw
    go_wp2_with fail
    go_ret
    exact ⟨rfl, HB1.out⟩
  have d2 : decide ((200 : Int) < (idx.length : Int)) = false := decide_eq_false (by omega)
  have HM := hide (may_any ms a cap w1 (HR.out.below HB1.out))
  go_wp2_with fail
  refine HLT.out.mono ?_
  rintro e w2 ⟨rfl, hw⟩
  obtain rfl := hw.symm
  clear hw HLT
  by_cases hm : ms.all okm = false
  · rw [hm] at HM
    go_wp2_with fail
    refine HM.out.mono ?_
    rintro e w2 ⟨rfl, hw⟩
    obtain rfl := hw.symm
    clear hw
    go_wp2_with fail
    go_ret
    exact ⟨rfl, HB1.out⟩
  have hm' : ms.all okm = true := by simpa using hm
  rw [hm'] at HM
  have hlb : ms.length ≤ 12 ∧ ms.all ltm = true := by
    have := HLL.out
    unfold ltB at this
    simpa using this
  have htt := tot_lt ms hlb.2
  have htl : tot ms ≤ 10000 := by omega
  have hwl := wA_len ms idx (by omega) (by omega)
  obtain ⟨t, ht1, ht2, ht3⟩ := arR_wA ms idx (by omega) (by omega) hm' (by omega) hwl
  have HT1 := hide ht1
  have HW := hide (write_any a cap ms ai ci idx w1 (HR.out.below HB1.out) (Rd.below HRI.out HB1.out) (HL.out.then HB1.out) (by omega) (by omega))
  have HT2 := hide ht2
  have HT3 := hide ht3
  clear hm hm' hlb htt ht1 ht2 ht3
  go_wp2_with fail
  refine HM.out.mono ?_
  rintro e w2 ⟨rfl, hw⟩
  obtain rfl := hw.symm
  clear hw HM
  go_wp2_with fail
  refine HW.out.mono ?_
  rintro e w2 ⟨v2, rfl, hbx⟩
  obtain ⟨ab, cb, rfl, hrb⟩ := hbx.rt
  have HB2 := hide (HB1.out.trans (hbx.bel.mono HB1.out.size))
  have HRB := hide hrb
  have HRD := hide (read_any ab cb _ w2 hrb (HL.out.then HB2.out) conAny)
  rw [HT1.out] at HRD
  have hbl := hrb.le
  have hbm := hrb.max
  clear hbx hrb HW HB1
  go_wp2_with fail
  refine HRD.out.mono ?_
  rintro e w3 ⟨hb3, am, cm, aj, cj, rfl, hom, hix⟩
  have HB3 := hide (HB2.out.trans (hb3.mono HB2.out.size))
  have HB23 := hide hb3
  have e2 := HT2.out
  have e3 := HT3.out
  rw [e2] at hom
  rw [e3] at hix
  rw [e2, e3]
  obtain ⟨am', cm', ev, hrm⟩ := hom.rm
  cases ev
  obtain ⟨aj', cj', ev, hxr⟩ := Rd.own hix (nI_bytes _)
  cases ev
  have HRM := hide hrm
  have HIX := hide hxr
  have hmle := hrm.le
  have hmmx := hrm.max
  have hxle := hxr.le
  have hxmx := hxr.max
  have HRW := hide (fun (u : World) (hu : Below w3.heap.size w3 u) => rwrite_txt a cap ms ai ci idx u (HR.out.below (HB3.out.trans (hu.mono HB3.out.size))) (Rd.below HRI.out (HB3.out.trans (hu.mono HB3.out.size))) (by omega) (by omega))
  have HME := hide (fun (u : World) (hu : Below w3.heap.size w3 u) => members_eq ms am a cm cap u (HRM.out.below hu) (HR.out.below (HB3.out.trans (hu.mono HB3.out.size))))
  have HCB := hide (fun (u : World) (hu : Below w3.heap.size w3 u) => Rt.txt (Rd.below HRB.out (HB23.out.trans (hu.mono HB23.out.size))) (wA ms idx).length rfl)
  have HCX := hide (fun (u : World) (hu : Below w3.heap.size w3 u) => Rt.txt (Rd.below HIX.out hu) idx.length rfl)
  have HCI := hide (fun (u : World) (hu : Below w3.heap.size w3 u) => Rt.txt (Rd.below HRI.out (HB3.out.trans (hu.mono HB3.out.size))) idx.length rfl)
  have c0 := HCB.out w3.drew ((Below.refl _ _).drew)
  have hs1 := strq_same (str (wA ms idx))
  have hs2 := strq_same (str idx)
  clear hb3 hom hix hrm hxr HRD e2 e3 HT1 HT2 HT3 HRB HRM HIX HB2 HB23 HR HRI HL HLL hwl htl
  generalize (wA ms idx).length = NW at *
  generalize str (wA ms idx) = SB at *
  generalize str idx = SX at *
  go_upto_region 7 with fail
  have c3 := HCB.out w3 (Below.refl _ _)
  have x3 := HCX.out w3 (Below.refl _ _)
  have x0 := HCX.out w3.drew ((Below.refl _ _).drew)
  have i3 := HCI.out w3 (Below.refl _ _)
  have i0 := HCI.out w3.drew ((Below.refl _ _).drew)
  go_region_held (fun w' => Sem.run Tryd.prog (convert 23 9 (.slice ab NW cb)) w' = .ok (.string SB) w' ∧ Sem.run Tryd.prog (convert 23 9 (.slice aj idx.length cj)) w' = .ok (.string SX) w' ∧ Sem.run Tryd.prog (convert 23 9 (.slice ai idx.length ci)) w' = .ok (.string SX) w') (first | exact ⟨kb5, k5, k6⟩ | exact ⟨kb4, kx4, ki4⟩ | exact ⟨c0, x0, i0⟩ | exact ⟨c3, x3, i3⟩ | go_keep)
      (first
      | (go_at_call 12; refine (HRW.out _ ((Below.refl _ _).drew)).mono ?_; rintro e w4 ⟨a4, c4, rfl, hb4, k4⟩; have B4 := hide ((Below.refl w3.heap.size w3).drew.trans hb4); have kb4 := HCB.out w4 B4.out; have kx4 := HCX.out w4 B4.out; have ki4 := HCI.out w4 B4.out; clear hb4)
      | (go_at_call 13; refine (HME.out _ B4.out).mono ?_; rintro e w5 ⟨rfl, hb5⟩; have B5 := hide (B4.out.trans (hb5.mono B4.out.size)); have k5 := HCX.out w5 B5.out; have k6 := HCI.out w5 B5.out; have kb5 := HCB.out w5 B5.out; clear hb5))
  all_goals
    go_wp2_with fail
    go_ret
    exact ⟨rfl, HB3.out.trans (B5.out.mono HB3.out.size)⟩

end Go.Proofs.YtebnhejnacmhiaaDoor
