/- The document's Text: an instruction's text. -/
import Derived.Test.YtcghekkhbiomgaaGreatDoorAsmRefT
namespace Go.Proofs.YtcghekkhbiomgaaGreatDoor
open Go.RowKit
set_option linter.unusedVariables false
set_option maxRecDepth 100000
set_option linter.unusedSimpArgs false

set_option maxHeartbeats 3200000 in
theorem rtext_R (op : Int) (m : Ns) (w : World) (hm : m.Fit) (hk : knw op = true) (hf : fmo op = 0) :
    Calls Tryz.prog 10 #[inst op m.d m.s m.t m.i] w fun e w' => e = .returned (.string (str (tx op m))) ∧ Below w.heap.size w w' := by
  have HN : Hid (∀ w, Calls Tryz.prog 20 #[.int .i64 op] w fun e w' => e = .returned (.string (str (nml op))) ∧ w' = w) := hide (fun w => by rw [← nmo_str]; exact rname_any op w)
  have HF := hide (fun w => rform_any op w)
  rw [hf] at HF
  have HT : Hid (str (nml op) ++ str [32] ++ str (120 :: Lib.itoa m.d) ++ str [44, 32] ++ str (120 :: Lib.itoa m.s) ++ str [44, 32] ++ str (120 :: Lib.itoa m.t) = str (tx op m)) := hide (by
    have hT : tx op m = nml op ++ 32 :: fil m (pat op) := by
      unfold tx; rw [if_pos hk, if_neg (by unfold pat; rw [hf]; unfold patF; simp)]
    rw [hT]; unfold pat; rw [hf, fil_R]; simp only [str_app]; exact congrArg str (by simp))
  have Hxd := hide (fun w => x_any m.d w hm.1.1 hm.1.2)
  have zxd : (str (120 :: Lib.itoa m.d)).size ≤ 22 := by rw [str_size]; have := Lib.itoa_length_le m.d hm.1.1 hm.1.2; simp; omega
  have Hxs := hide (fun w => x_any m.s w hm.2.1.1 hm.2.1.2)
  have zxs : (str (120 :: Lib.itoa m.s)).size ≤ 22 := by rw [str_size]; have := Lib.itoa_length_le m.s hm.2.1.1 hm.2.1.2; simp; omega
  have Hxt := hide (fun w => x_any m.t w hm.2.2.1.1 hm.2.2.1.2)
  have zxt : (str (120 :: Lib.itoa m.t)).size ≤ 22 := by rw [str_size]; have := Lib.itoa_length_le m.t hm.2.2.1.1 hm.2.2.1.2; simp; omega
  have hr : 0 < op ∧ op < 66 := by simpa [knw] using hk
  have z0 : (str (nml op)).size ≤ 10 := by rw [str_size]; exact nml_le op
  generalize str (tx op m) = tot at *
  generalize str (nml op) = ns at *
  generalize str (120 :: Lib.itoa m.d) = xd at *
  generalize str (120 :: Lib.itoa m.s) = xs at *
  generalize str (120 :: Lib.itoa m.t) = xt at *
  have hr1 : 1 ≤ op := by omega
  have hr2 : op < 66 := hr.2
  clear hf hk hm hr
  unfold inst
  go_enter Tryz.func10, Tryz.ntmps10
  go_wp2_with fail
  refine (HN.out _).mono ?_
  rintro e W ⟨rfl, hW⟩
  rw [hW]
  clear hW W HN
  go_wp2_with fail
  refine (HF.out _).mono ?_
  rintro e W ⟨rfl, hW⟩
  rw [hW]
  clear hW W HF
  go_wp2_with fail
  go_quiet (first
      | (go_at_call 22; refine Calls.quiet_of_same (Hxd.out _))
      | (go_at_call 22; refine Calls.quiet_of_same (Hxs.out _))
      | (go_at_call 22; refine Calls.quiet_of_same (Hxt.out _)))
  have HB : Hid (Below w.heap.size w ((w.alloc (.cells #[.int .i64 op, .int .i64 m.d, .int .i64 m.s, .int .i64 m.t, .int .i64 m.i] 23)).drewN nq)) := hide (((Below.refl _ w).alloc (Nat.le_refl _) _).trans ((bel_drewN _ nq).mono (by simp)))
  have ht := HT.out
  go_wp2
  go_ret
  exact ⟨by rw [← ht]; rfl, HB.out⟩

set_option maxHeartbeats 3200000 in
theorem rtext_L (op : Int) (m : Ns) (w : World) (hm : m.Fit) (hk : knw op = true) (hf : fmo op = 1) (hb : thr op = true) :
    Calls Tryz.prog 10 #[inst op m.d m.s m.t m.i] w fun e w' => e = .returned (.string (str (tx op m))) ∧ Below w.heap.size w w' := by
  have HN : Hid (∀ w, Calls Tryz.prog 20 #[.int .i64 op] w fun e w' => e = .returned (.string (str (nml op))) ∧ w' = w) := hide (fun w => by rw [← nmo_str]; exact rname_any op w)
  have HF := hide (fun w => rform_any op w)
  rw [hf] at HF
  have HT : Hid (str (nml op) ++ str [32] ++ str (120 :: Lib.itoa m.d) ++ str [44, 32] ++ str (Lib.itoa m.i) ++ str [40] ++ str (120 :: Lib.itoa m.s) ++ str [41] = str (tx op m)) := hide (by
    have hT : tx op m = nml op ++ 32 :: fil m (pat op) := by
      unfold tx; rw [if_pos hk, if_neg (by unfold pat; rw [hf, hb]; unfold patF; simp)]
    rw [hT]; unfold pat; rw [hf, hb, fil_L]; simp only [str_app]; exact congrArg str (by simp))
  have Hxd := hide (fun w => x_any m.d w hm.1.1 hm.1.2)
  have zxd : (str (120 :: Lib.itoa m.d)).size ≤ 22 := by rw [str_size]; have := Lib.itoa_length_le m.d hm.1.1 hm.1.2; simp; omega
  have Hni := hide (fun w => dec_any m.i w hm.2.2.2.1 hm.2.2.2.2)
  have zni : (str (Lib.itoa m.i)).size ≤ 22 := by rw [str_size]; have := Lib.itoa_length_le m.i hm.2.2.2.1 hm.2.2.2.2; omega
  have Hxs := hide (fun w => x_any m.s w hm.2.1.1 hm.2.1.2)
  have zxs : (str (120 :: Lib.itoa m.s)).size ≤ 22 := by rw [str_size]; have := Lib.itoa_length_le m.s hm.2.1.1 hm.2.1.2; simp; omega
  have hr : 0 < op ∧ op < 66 := by simpa [knw] using hk
  have z0 : (str (nml op)).size ≤ 10 := by rw [str_size]; exact nml_le op
  generalize str (tx op m) = tot at *
  generalize str (nml op) = ns at *
  generalize str (120 :: Lib.itoa m.d) = xd at *
  generalize str (Lib.itoa m.i) = ni at *
  generalize str (120 :: Lib.itoa m.s) = xs at *
  have hr1 : 1 ≤ op := by omega
  have hr2 : op < 66 := hr.2
  have ht : op = 4 ∨ (11 ≤ op ∧ op ≤ 17) := by simpa [thr] using hb
  clear hf hk hm hr hb
  unfold inst
  rcases ht with t4 | ⟨t1, t2⟩
  · have t0 : (op == 4) = true := by simp [t4]
    clear t4
    go_enter Tryz.func10, Tryz.ntmps10
    go_wp2_with fail
    refine (HN.out _).mono ?_
    rintro e W ⟨rfl, hW⟩
    rw [hW]
    clear hW W HN
    go_wp2_with fail
    refine (HF.out _).mono ?_
    rintro e W ⟨rfl, hW⟩
    rw [hW]
    clear hW W HF
    go_wp2_with fail
    go_quiet (first
        | (go_at_call 22; refine Calls.quiet_of_same (Hxd.out _))
        | (go_at_call 23; refine Calls.quiet_of_same (Hni.out _))
        | (go_at_call 22; refine Calls.quiet_of_same (Hxs.out _)))
    have HB : Hid (Below w.heap.size w ((w.alloc (.cells #[.int .i64 op, .int .i64 m.d, .int .i64 m.s, .int .i64 m.t, .int .i64 m.i] 23)).drewN nq)) := hide (((Below.refl _ w).alloc (Nat.le_refl _) _).trans ((bel_drewN _ nq).mono (by simp)))
    have ht := HT.out
    go_wp2
    go_ret
    exact ⟨by rw [← ht]; rfl, HB.out⟩
  · have t0 : (op == 4) = false := by simp; omega
    go_enter Tryz.func10, Tryz.ntmps10
    go_wp2_with fail
    refine (HN.out _).mono ?_
    rintro e W ⟨rfl, hW⟩
    rw [hW]
    clear hW W HN
    go_wp2_with fail
    refine (HF.out _).mono ?_
    rintro e W ⟨rfl, hW⟩
    rw [hW]
    clear hW W HF
    go_wp2_with fail
    go_quiet (first
        | (go_at_call 22; refine Calls.quiet_of_same (Hxd.out _))
        | (go_at_call 23; refine Calls.quiet_of_same (Hni.out _))
        | (go_at_call 22; refine Calls.quiet_of_same (Hxs.out _)))
    have HB : Hid (Below w.heap.size w ((w.alloc (.cells #[.int .i64 op, .int .i64 m.d, .int .i64 m.s, .int .i64 m.t, .int .i64 m.i] 23)).drewN nq)) := hide (((Below.refl _ w).alloc (Nat.le_refl _) _).trans ((bel_drewN _ nq).mono (by simp)))
    have ht := HT.out
    go_wp2
    go_ret
    exact ⟨by rw [← ht]; rfl, HB.out⟩

set_option maxHeartbeats 3200000 in
theorem rtext_I (op : Int) (m : Ns) (w : World) (hm : m.Fit) (hk : knw op = true) (hf : fmo op = 1) (hb : thr op = false) :
    Calls Tryz.prog 10 #[inst op m.d m.s m.t m.i] w fun e w' => e = .returned (.string (str (tx op m))) ∧ Below w.heap.size w w' := by
  have HN : Hid (∀ w, Calls Tryz.prog 20 #[.int .i64 op] w fun e w' => e = .returned (.string (str (nml op))) ∧ w' = w) := hide (fun w => by rw [← nmo_str]; exact rname_any op w)
  have HF := hide (fun w => rform_any op w)
  rw [hf] at HF
  have HT : Hid (str (nml op) ++ str [32] ++ str (120 :: Lib.itoa m.d) ++ str [44, 32] ++ str (120 :: Lib.itoa m.s) ++ str [44, 32] ++ str (Lib.itoa m.i) = str (tx op m)) := hide (by
    have hT : tx op m = nml op ++ 32 :: fil m (pat op) := by
      unfold tx; rw [if_pos hk, if_neg (by unfold pat; rw [hf, hb]; unfold patF; simp)]
    rw [hT]; unfold pat; rw [hf, hb, fil_I]; simp only [str_app]; exact congrArg str (by simp))
  have Hxd := hide (fun w => x_any m.d w hm.1.1 hm.1.2)
  have zxd : (str (120 :: Lib.itoa m.d)).size ≤ 22 := by rw [str_size]; have := Lib.itoa_length_le m.d hm.1.1 hm.1.2; simp; omega
  have Hxs := hide (fun w => x_any m.s w hm.2.1.1 hm.2.1.2)
  have zxs : (str (120 :: Lib.itoa m.s)).size ≤ 22 := by rw [str_size]; have := Lib.itoa_length_le m.s hm.2.1.1 hm.2.1.2; simp; omega
  have Hni := hide (fun w => dec_any m.i w hm.2.2.2.1 hm.2.2.2.2)
  have zni : (str (Lib.itoa m.i)).size ≤ 22 := by rw [str_size]; have := Lib.itoa_length_le m.i hm.2.2.2.1 hm.2.2.2.2; omega
  have hr : 0 < op ∧ op < 66 := by simpa [knw] using hk
  have z0 : (str (nml op)).size ≤ 10 := by rw [str_size]; exact nml_le op
  generalize str (tx op m) = tot at *
  generalize str (nml op) = ns at *
  generalize str (120 :: Lib.itoa m.d) = xd at *
  generalize str (120 :: Lib.itoa m.s) = xs at *
  generalize str (Lib.itoa m.i) = ni at *
  have hr1 : 1 ≤ op := by omega
  have hr2 : op < 66 := hr.2
  have ht : ¬ op = 4 ∧ (op < 11 ∨ 17 < op) := by
    simp [thr] at hb
    omega
  clear hf hk hm hr hb
  unfold inst
  have t0 : (op == 4) = false := by simp; omega
  rcases ht.2 with t1 | t1
  · go_enter Tryz.func10, Tryz.ntmps10
    go_wp2_with fail
    refine (HN.out _).mono ?_
    rintro e W ⟨rfl, hW⟩
    rw [hW]
    clear hW W HN
    go_wp2_with fail
    refine (HF.out _).mono ?_
    rintro e W ⟨rfl, hW⟩
    rw [hW]
    clear hW W HF
    go_wp2_with fail
    go_quiet (first
        | (go_at_call 22; refine Calls.quiet_of_same (Hxd.out _))
        | (go_at_call 22; refine Calls.quiet_of_same (Hxs.out _))
        | (go_at_call 23; refine Calls.quiet_of_same (Hni.out _)))
    have HB : Hid (Below w.heap.size w ((w.alloc (.cells #[.int .i64 op, .int .i64 m.d, .int .i64 m.s, .int .i64 m.t, .int .i64 m.i] 23)).drewN nq)) := hide (((Below.refl _ w).alloc (Nat.le_refl _) _).trans ((bel_drewN _ nq).mono (by simp)))
    have ht := HT.out
    go_wp2
    go_ret
    exact ⟨by rw [← ht]; rfl, HB.out⟩
  · have t2 : 11 ≤ op := by omega
    go_enter Tryz.func10, Tryz.ntmps10
    go_wp2_with fail
    refine (HN.out _).mono ?_
    rintro e W ⟨rfl, hW⟩
    rw [hW]
    clear hW W HN
    go_wp2_with fail
    refine (HF.out _).mono ?_
    rintro e W ⟨rfl, hW⟩
    rw [hW]
    clear hW W HF
    go_wp2_with fail
    go_quiet (first
        | (go_at_call 22; refine Calls.quiet_of_same (Hxd.out _))
        | (go_at_call 22; refine Calls.quiet_of_same (Hxs.out _))
        | (go_at_call 23; refine Calls.quiet_of_same (Hni.out _)))
    have HB : Hid (Below w.heap.size w ((w.alloc (.cells #[.int .i64 op, .int .i64 m.d, .int .i64 m.s, .int .i64 m.t, .int .i64 m.i] 23)).drewN nq)) := hide (((Below.refl _ w).alloc (Nat.le_refl _) _).trans ((bel_drewN _ nq).mono (by simp)))
    have ht := HT.out
    go_wp2
    go_ret
    exact ⟨by rw [← ht]; rfl, HB.out⟩

set_option maxHeartbeats 3200000 in
theorem rtext_S (op : Int) (m : Ns) (w : World) (hm : m.Fit) (hk : knw op = true) (hf : fmo op = 2) :
    Calls Tryz.prog 10 #[inst op m.d m.s m.t m.i] w fun e w' => e = .returned (.string (str (tx op m))) ∧ Below w.heap.size w w' := by
  have HN : Hid (∀ w, Calls Tryz.prog 20 #[.int .i64 op] w fun e w' => e = .returned (.string (str (nml op))) ∧ w' = w) := hide (fun w => by rw [← nmo_str]; exact rname_any op w)
  have HF := hide (fun w => rform_any op w)
  rw [hf] at HF
  have HT : Hid (str (nml op) ++ str [32] ++ str (120 :: Lib.itoa m.t) ++ str [44, 32] ++ str (Lib.itoa m.i) ++ str [40] ++ str (120 :: Lib.itoa m.s) ++ str [41] = str (tx op m)) := hide (by
    have hT : tx op m = nml op ++ 32 :: fil m (pat op) := by
      unfold tx; rw [if_pos hk, if_neg (by unfold pat; rw [hf]; unfold patF; simp)]
    rw [hT]; unfold pat; rw [hf, fil_S]; simp only [str_app]; exact congrArg str (by simp))
  have Hxt := hide (fun w => x_any m.t w hm.2.2.1.1 hm.2.2.1.2)
  have zxt : (str (120 :: Lib.itoa m.t)).size ≤ 22 := by rw [str_size]; have := Lib.itoa_length_le m.t hm.2.2.1.1 hm.2.2.1.2; simp; omega
  have Hni := hide (fun w => dec_any m.i w hm.2.2.2.1 hm.2.2.2.2)
  have zni : (str (Lib.itoa m.i)).size ≤ 22 := by rw [str_size]; have := Lib.itoa_length_le m.i hm.2.2.2.1 hm.2.2.2.2; omega
  have Hxs := hide (fun w => x_any m.s w hm.2.1.1 hm.2.1.2)
  have zxs : (str (120 :: Lib.itoa m.s)).size ≤ 22 := by rw [str_size]; have := Lib.itoa_length_le m.s hm.2.1.1 hm.2.1.2; simp; omega
  have hr : 0 < op ∧ op < 66 := by simpa [knw] using hk
  have z0 : (str (nml op)).size ≤ 10 := by rw [str_size]; exact nml_le op
  generalize str (tx op m) = tot at *
  generalize str (nml op) = ns at *
  generalize str (120 :: Lib.itoa m.t) = xt at *
  generalize str (Lib.itoa m.i) = ni at *
  generalize str (120 :: Lib.itoa m.s) = xs at *
  have hr1 : 1 ≤ op := by omega
  have hr2 : op < 66 := hr.2
  clear hf hk hm hr
  unfold inst
  go_enter Tryz.func10, Tryz.ntmps10
  go_wp2_with fail
  refine (HN.out _).mono ?_
  rintro e W ⟨rfl, hW⟩
  rw [hW]
  clear hW W HN
  go_wp2_with fail
  refine (HF.out _).mono ?_
  rintro e W ⟨rfl, hW⟩
  rw [hW]
  clear hW W HF
  go_wp2_with fail
  go_quiet (first
      | (go_at_call 22; refine Calls.quiet_of_same (Hxt.out _))
      | (go_at_call 23; refine Calls.quiet_of_same (Hni.out _))
      | (go_at_call 22; refine Calls.quiet_of_same (Hxs.out _)))
  have HB : Hid (Below w.heap.size w ((w.alloc (.cells #[.int .i64 op, .int .i64 m.d, .int .i64 m.s, .int .i64 m.t, .int .i64 m.i] 23)).drewN nq)) := hide (((Below.refl _ w).alloc (Nat.le_refl _) _).trans ((bel_drewN _ nq).mono (by simp)))
  have ht := HT.out
  go_wp2
  go_ret
  exact ⟨by rw [← ht]; rfl, HB.out⟩

set_option maxHeartbeats 3200000 in
theorem rtext_B (op : Int) (m : Ns) (w : World) (hm : m.Fit) (hk : knw op = true) (hf : fmo op = 3) :
    Calls Tryz.prog 10 #[inst op m.d m.s m.t m.i] w fun e w' => e = .returned (.string (str (tx op m))) ∧ Below w.heap.size w w' := by
  have HN : Hid (∀ w, Calls Tryz.prog 20 #[.int .i64 op] w fun e w' => e = .returned (.string (str (nml op))) ∧ w' = w) := hide (fun w => by rw [← nmo_str]; exact rname_any op w)
  have HF := hide (fun w => rform_any op w)
  rw [hf] at HF
  have HT : Hid (str (nml op) ++ str [32] ++ str (120 :: Lib.itoa m.s) ++ str [44, 32] ++ str (120 :: Lib.itoa m.t) ++ str [44, 32] ++ str (Lib.itoa m.i) = str (tx op m)) := hide (by
    have hT : tx op m = nml op ++ 32 :: fil m (pat op) := by
      unfold tx; rw [if_pos hk, if_neg (by unfold pat; rw [hf]; unfold patF; simp)]
    rw [hT]; unfold pat; rw [hf, fil_B]; simp only [str_app]; exact congrArg str (by simp))
  have Hxs := hide (fun w => x_any m.s w hm.2.1.1 hm.2.1.2)
  have zxs : (str (120 :: Lib.itoa m.s)).size ≤ 22 := by rw [str_size]; have := Lib.itoa_length_le m.s hm.2.1.1 hm.2.1.2; simp; omega
  have Hxt := hide (fun w => x_any m.t w hm.2.2.1.1 hm.2.2.1.2)
  have zxt : (str (120 :: Lib.itoa m.t)).size ≤ 22 := by rw [str_size]; have := Lib.itoa_length_le m.t hm.2.2.1.1 hm.2.2.1.2; simp; omega
  have Hni := hide (fun w => dec_any m.i w hm.2.2.2.1 hm.2.2.2.2)
  have zni : (str (Lib.itoa m.i)).size ≤ 22 := by rw [str_size]; have := Lib.itoa_length_le m.i hm.2.2.2.1 hm.2.2.2.2; omega
  have hr : 0 < op ∧ op < 66 := by simpa [knw] using hk
  have z0 : (str (nml op)).size ≤ 10 := by rw [str_size]; exact nml_le op
  generalize str (tx op m) = tot at *
  generalize str (nml op) = ns at *
  generalize str (120 :: Lib.itoa m.s) = xs at *
  generalize str (120 :: Lib.itoa m.t) = xt at *
  generalize str (Lib.itoa m.i) = ni at *
  have hr1 : 1 ≤ op := by omega
  have hr2 : op < 66 := hr.2
  clear hf hk hm hr
  unfold inst
  go_enter Tryz.func10, Tryz.ntmps10
  go_wp2_with fail
  refine (HN.out _).mono ?_
  rintro e W ⟨rfl, hW⟩
  rw [hW]
  clear hW W HN
  go_wp2_with fail
  refine (HF.out _).mono ?_
  rintro e W ⟨rfl, hW⟩
  rw [hW]
  clear hW W HF
  go_wp2_with fail
  go_quiet (first
      | (go_at_call 22; refine Calls.quiet_of_same (Hxs.out _))
      | (go_at_call 22; refine Calls.quiet_of_same (Hxt.out _))
      | (go_at_call 23; refine Calls.quiet_of_same (Hni.out _)))
  have HB : Hid (Below w.heap.size w ((w.alloc (.cells #[.int .i64 op, .int .i64 m.d, .int .i64 m.s, .int .i64 m.t, .int .i64 m.i] 23)).drewN nq)) := hide (((Below.refl _ w).alloc (Nat.le_refl _) _).trans ((bel_drewN _ nq).mono (by simp)))
  have ht := HT.out
  go_wp2
  go_ret
  exact ⟨by rw [← ht]; rfl, HB.out⟩

set_option maxHeartbeats 3200000 in
theorem rtext_U (op : Int) (m : Ns) (w : World) (hm : m.Fit) (hk : knw op = true) (hf : fmo op = 4) :
    Calls Tryz.prog 10 #[inst op m.d m.s m.t m.i] w fun e w' => e = .returned (.string (str (tx op m))) ∧ Below w.heap.size w w' := by
  have HN : Hid (∀ w, Calls Tryz.prog 20 #[.int .i64 op] w fun e w' => e = .returned (.string (str (nml op))) ∧ w' = w) := hide (fun w => by rw [← nmo_str]; exact rname_any op w)
  have HF := hide (fun w => rform_any op w)
  rw [hf] at HF
  have HT : Hid (str (nml op) ++ str [32] ++ str (120 :: Lib.itoa m.d) ++ str [44, 32] ++ str (Lib.itoa m.i) = str (tx op m)) := hide (by
    have hT : tx op m = nml op ++ 32 :: fil m (pat op) := by
      unfold tx; rw [if_pos hk, if_neg (by unfold pat; rw [hf]; unfold patF; simp)]
    rw [hT]; unfold pat; rw [hf, fil_U m (.inl rfl)]; simp only [str_app]; exact congrArg str (by simp))
  have Hxd := hide (fun w => x_any m.d w hm.1.1 hm.1.2)
  have zxd : (str (120 :: Lib.itoa m.d)).size ≤ 22 := by rw [str_size]; have := Lib.itoa_length_le m.d hm.1.1 hm.1.2; simp; omega
  have Hni := hide (fun w => dec_any m.i w hm.2.2.2.1 hm.2.2.2.2)
  have zni : (str (Lib.itoa m.i)).size ≤ 22 := by rw [str_size]; have := Lib.itoa_length_le m.i hm.2.2.2.1 hm.2.2.2.2; omega
  have hr : 0 < op ∧ op < 66 := by simpa [knw] using hk
  have z0 : (str (nml op)).size ≤ 10 := by rw [str_size]; exact nml_le op
  generalize str (tx op m) = tot at *
  generalize str (nml op) = ns at *
  generalize str (120 :: Lib.itoa m.d) = xd at *
  generalize str (Lib.itoa m.i) = ni at *
  have hr1 : 1 ≤ op := by omega
  have hr2 : op < 66 := hr.2
  clear hf hk hm hr
  unfold inst
  go_enter Tryz.func10, Tryz.ntmps10
  go_wp2_with fail
  refine (HN.out _).mono ?_
  rintro e W ⟨rfl, hW⟩
  rw [hW]
  clear hW W HN
  go_wp2_with fail
  refine (HF.out _).mono ?_
  rintro e W ⟨rfl, hW⟩
  rw [hW]
  clear hW W HF
  go_wp2_with fail
  go_quiet (first
      | (go_at_call 22; refine Calls.quiet_of_same (Hxd.out _))
      | (go_at_call 23; refine Calls.quiet_of_same (Hni.out _)))
  have HB : Hid (Below w.heap.size w ((w.alloc (.cells #[.int .i64 op, .int .i64 m.d, .int .i64 m.s, .int .i64 m.t, .int .i64 m.i] 23)).drewN nq)) := hide (((Below.refl _ w).alloc (Nat.le_refl _) _).trans ((bel_drewN _ nq).mono (by simp)))
  have ht := HT.out
  go_wp2
  go_ret
  exact ⟨by rw [← ht]; rfl, HB.out⟩

set_option maxHeartbeats 3200000 in
theorem rtext_J (op : Int) (m : Ns) (w : World) (hm : m.Fit) (hk : knw op = true) (hf : fmo op = 5) :
    Calls Tryz.prog 10 #[inst op m.d m.s m.t m.i] w fun e w' => e = .returned (.string (str (tx op m))) ∧ Below w.heap.size w w' := by
  have HN : Hid (∀ w, Calls Tryz.prog 20 #[.int .i64 op] w fun e w' => e = .returned (.string (str (nml op))) ∧ w' = w) := hide (fun w => by rw [← nmo_str]; exact rname_any op w)
  have HF := hide (fun w => rform_any op w)
  rw [hf] at HF
  have HT : Hid (str (nml op) ++ str [32] ++ str (120 :: Lib.itoa m.d) ++ str [44, 32] ++ str (Lib.itoa m.i) = str (tx op m)) := hide (by
    have hT : tx op m = nml op ++ 32 :: fil m (pat op) := by
      unfold tx; rw [if_pos hk, if_neg (by unfold pat; rw [hf]; unfold patF; simp)]
    rw [hT]; unfold pat; rw [hf, fil_U m (.inr rfl)]; simp only [str_app]; exact congrArg str (by simp))
  have Hxd := hide (fun w => x_any m.d w hm.1.1 hm.1.2)
  have zxd : (str (120 :: Lib.itoa m.d)).size ≤ 22 := by rw [str_size]; have := Lib.itoa_length_le m.d hm.1.1 hm.1.2; simp; omega
  have Hni := hide (fun w => dec_any m.i w hm.2.2.2.1 hm.2.2.2.2)
  have zni : (str (Lib.itoa m.i)).size ≤ 22 := by rw [str_size]; have := Lib.itoa_length_le m.i hm.2.2.2.1 hm.2.2.2.2; omega
  have hr : 0 < op ∧ op < 66 := by simpa [knw] using hk
  have z0 : (str (nml op)).size ≤ 10 := by rw [str_size]; exact nml_le op
  generalize str (tx op m) = tot at *
  generalize str (nml op) = ns at *
  generalize str (120 :: Lib.itoa m.d) = xd at *
  generalize str (Lib.itoa m.i) = ni at *
  have hr1 : 1 ≤ op := by omega
  have hr2 : op < 66 := hr.2
  clear hf hk hm hr
  unfold inst
  go_enter Tryz.func10, Tryz.ntmps10
  go_wp2_with fail
  refine (HN.out _).mono ?_
  rintro e W ⟨rfl, hW⟩
  rw [hW]
  clear hW W HN
  go_wp2_with fail
  refine (HF.out _).mono ?_
  rintro e W ⟨rfl, hW⟩
  rw [hW]
  clear hW W HF
  go_wp2_with fail
  go_quiet (first
      | (go_at_call 22; refine Calls.quiet_of_same (Hxd.out _))
      | (go_at_call 23; refine Calls.quiet_of_same (Hni.out _)))
  have HB : Hid (Below w.heap.size w ((w.alloc (.cells #[.int .i64 op, .int .i64 m.d, .int .i64 m.s, .int .i64 m.t, .int .i64 m.i] 23)).drewN nq)) := hide (((Below.refl _ w).alloc (Nat.le_refl _) _).trans ((bel_drewN _ nq).mono (by simp)))
  have ht := HT.out
  go_wp2
  go_ret
  exact ⟨by rw [← ht]; rfl, HB.out⟩

set_option maxHeartbeats 3200000 in
theorem rtext_N (op : Int) (m : Ns) (w : World) (hk : knw op = true) (hf : fmo op = 6) :
    Calls Tryz.prog 10 #[inst op m.d m.s m.t m.i] w fun e w' => e = .returned (.string (str (tx op m))) ∧ Below w.heap.size w w' := by
  have HN : Hid (∀ w, Calls Tryz.prog 20 #[.int .i64 op] w fun e w' => e = .returned (.string (str (nml op))) ∧ w' = w) := hide (fun w => by rw [← nmo_str]; exact rname_any op w)
  have HF := hide (fun w => rform_any op w)
  rw [hf] at HF
  have hT : tx op m = nml op := by
    unfold tx; rw [if_pos hk, if_pos (by unfold pat; rw [hf]; rfl), List.append_nil]
  rw [hT]
  have hr : 0 < op ∧ op < 66 := by simpa [knw] using hk
  generalize str (nml op) = ns at *
  have hr1 : 1 ≤ op := by omega
  have hr2 : op < 66 := hr.2
  clear hf hk hr hT
  unfold inst
  go_enter Tryz.func10, Tryz.ntmps10
  go_wp2_with fail
  refine (HN.out _).mono ?_
  rintro e W ⟨rfl, hW⟩
  rw [hW]
  clear hW W HN
  go_wp2_with fail
  refine (HF.out _).mono ?_
  rintro e W ⟨rfl, hW⟩
  rw [hW]
  clear hW W HF
  go_wp2
  go_ret
  exact ⟨rfl, (Below.refl _ w).alloc (Nat.le_refl _) _⟩

set_option maxHeartbeats 3200000 in
theorem rtext_no (op : Int) (m : Ns) (w : World) (hk : knw op = false) :
    Calls Tryz.prog 10 #[inst op m.d m.s m.t m.i] w fun e w' => e = .returned (.string (str (tx op m))) ∧ Below w.heap.size w w' := by
  have hT : tx op m = [63] := by unfold tx; rw [if_neg (by simp [hk])]
  rw [hT]
  have hr : op < 1 ∨ 66 ≤ op := by simp [knw] at hk; omega
  clear hT hk
  unfold inst
  rcases hr with hr | hr
  · go_enter Tryz.func10, Tryz.ntmps10
    go_wp2
    go_ret
    exact ⟨rfl, (Below.refl _ w).alloc (Nat.le_refl _) _⟩
  · have h1 : 1 ≤ op := by omega
    go_enter Tryz.func10, Tryz.ntmps10
    go_wp2
    go_ret
    exact ⟨rfl, (Below.refl _ w).alloc (Nat.le_refl _) _⟩

theorem rtext_any (op : Int) (m : Ns) (w : World) (hm : m.Fit) :
    Calls Tryz.prog 10 #[inst op m.d m.s m.t m.i] w fun e w' => e = .returned (.string (str (tx op m))) ∧ Below w.heap.size w w' := by
  cases hk : knw op with
  | false => exact rtext_no op m w hk
  | true =>
    rcases fmo_cases op with h | h | h | h | h | h | h
    · exact rtext_R op m w hm hk h
    · cases hb : thr op with
      | true => exact rtext_L op m w hm hk h hb
      | false => exact rtext_I op m w hm hk h hb
    · exact rtext_S op m w hm hk h
    · exact rtext_B op m w hm hk h
    · exact rtext_U op m w hm hk h
    · exact rtext_J op m w hm hk h
    · exact rtext_N op m w hk h

end Go.Proofs.YtcghekkhbiomgaaGreatDoor
