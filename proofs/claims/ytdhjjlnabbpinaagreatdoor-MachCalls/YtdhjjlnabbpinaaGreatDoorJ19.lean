/- Texts of this claim, joined: RefStepF, RefStep. -/
import Derived.Test.YtdhjjlnabbpinaaGreatDoorJ11
import Derived.Deep.QuietTactic
import Derived.BigQuiet
import Derived.Deep.RegionHeld3
import Derived.Deep.RegionWith
import Derived.Test.YtdhjjlnabbpinaaGreatDoorRefStepA
import Derived.Test.YtdhjjlnabbpinaaGreatDoorRefStepB
import Derived.Test.YtdhjjlnabbpinaaGreatDoorRefStepC
import Derived.Test.YtdhjjlnabbpinaaGreatDoorJ15
import Derived.Test.YtdhjjlnabbpinaaGreatDoorRefStepE
import Derived.Test.YtdhjjlnabbpinaaGreatDoorRefCallB
/- The contract of the document's Step, at some operations. -/
namespace Go.Proofs.YtdhjjlnabbpinaaGreatDoor
open Go.RowKit Go.Maps
set_option linter.unusedVariables false
set_option maxRecDepth 100000

section
variable {w0 w w' : World} {m mm me : Nat} {M : Mc} {l : List (World → (Nat → Prop) → Prop)}

set_option maxHeartbeats 3200000 in
theorem rstep_align (w : World) (h : RH w0 w m mm me M l) (hk : M.kind = 0) (hp0 : M.pc % 4 ≠ 0) :
    Calls Tryz.prog 10 #[.pointer (some ⟨m, 0, none⟩)] w fun e w' => e = .returned (stV (M.trapped 5).kind (M.trapped 5).code (M.trapped 5).trap) ∧ RH w0 w' m mm me (M.trapped 5) l := by
  have HK0 := hide hk
  have hpc := h.fits.place
  have hml := h.lt
  obtain ⟨p, hp⟩ : ∃ p, M.pc = p := ⟨_, rfl⟩
  have HPC := hide hp
  have hp4 : ((p : Int) % 4 != 0) = true := by rw [← hp]; simp; omega
  have HM := hide h
  clear h hk hp0 hp hpc
  go_enter Tryz.func10, Tryz.ntmps10
  go_upto_region 1 with fail
  have h1 := HM.out.newblk #[.int .i64 0, .int .i64 0, .int .i64 0] 36
  have hB1 := below_alloc w (.cells #[.int .i64 0, .int .i64 0, .int .i64 0] 36)
  obtain ⟨R, hR⟩ : ∃ R, R = w.heap.size := ⟨_, rfl⟩
  rw [← hR] at h1 ⊢
  generalize w.alloc (.cells #[.int .i64 0, .int .i64 0, .int .i64 0] 36) = V at *
  obtain ⟨c4, c5, c6⟩ := h1.st
  have d0 := h1.c0
  have d3 := h1.cpc
  rw [HPC.out] at d3
  rw [HK0.out] at c4
  have HV := hide h1
  clear hB1 hR h1
  have H := HV
  go_wp2_with fail
  refine (rtrap_any 5 _ H.out (by unfold InI; omega)).mono ?_
  rintro e WT ⟨rfl, ht⟩
  have HT := hide ht
  clear ht H
  unfold stV
  have hz := blk_frozen HT.out.blk
  have z0 := hz 0
  have z1 := hz 1
  have z2 := hz 2
  have hcl := blk_cell HT.out.blk
  have q0 := hcl 0
  have q1 := hcl 1
  have q2 := hcl 2
  clear hz hcl
  go_wp2
  have H9 := hide (HT.out.reblk (stc3_kept WT R (.int .i64 2) (.int .i64 0) (.int .i64 5)) (stc3_blk HT.out.blk _ _ _))
  unfold stc3 at H9
  have hcl := blk_cell H9.out.blk
  have e0 := hcl 0
  have e1 := hcl 1
  have e2 := hcl 2
  generalize ((WT.setCell ⟨R, 0, none⟩ (.int .i64 2)).setCell ⟨R, 1, none⟩ (.int .i64 0)).setCell ⟨R, 2, none⟩ (.int .i64 5) = W9 at *
  have H10 := hide H9.out.unbox
  refine bodyPost_ret (v := stV 2 0 5) (by simp [results, Tryz.results10, go_sem, stV, e0, e1, e2]) rfl ⟨rfl, ?_⟩
  exact H10.out

set_option maxHeartbeats 3200000 in
theorem rstep_nofetch (w : World) (h : RH w0 w m mm me M l) (hk : M.kind = 0) (hp0 : M.pc % 4 = 0) (hm : mayB M.mem M.pc 4 1 = false) :
    Calls Tryz.prog 10 #[.pointer (some ⟨m, 0, none⟩)] w fun e w' => e = .returned (stV (M.trapped 1).kind (M.trapped 1).code (M.trapped 1).trap) ∧ RH w0 w' m mm me (M.trapped 1) l := by
  have HK0 := hide hk
  have hpc := h.fits.place
  have hml := h.lt
  obtain ⟨p, hp⟩ : ∃ p, M.pc = p := ⟨_, rfl⟩
  have HPC := hide hp
  obtain ⟨F, hP⟩ := h.rm
  have HF := hide (fun W (hW : Below w.heap.size w W) => rfetch_any mm M.mem F M.pc W (hP.below hW) hpc)
  rw [hm] at HF
  have hp4 : ((p : Int) % 4 != 0) = false := by rw [← hp]; simp; omega
  have HM := hide h
  generalize fetchV M.mem M.pc = v at *
  rw [hp] at HF
  clear h hk hp0 hp hpc hP hm
  go_enter Tryz.func10, Tryz.ntmps10
  go_upto_region 1 with fail
  have h1 := HM.out.newblk #[.int .i64 0, .int .i64 0, .int .i64 0] 36
  have hB1 := below_alloc w (.cells #[.int .i64 0, .int .i64 0, .int .i64 0] 36)
  obtain ⟨R, hR⟩ : ∃ R, R = w.heap.size := ⟨_, rfl⟩
  rw [← hR] at h1 ⊢
  generalize w.alloc (.cells #[.int .i64 0, .int .i64 0, .int .i64 0] 36) = V at *
  obtain ⟨c4, c5, c6⟩ := h1.st
  have d0 := h1.c0
  have d3 := h1.cpc
  rw [HPC.out] at d3
  rw [HK0.out] at c4
  have HV := hide h1
  have HFV := hide (fun W (hW : Below V.heap.size V W) => HF.out W (hB1.trans (hW.mono hB1.size)))
  clear hR h1 hB1 HF HM
  go_wp2_with fail
  go_quiet (first | (go_at_call 36; refine Calls.quiet_of_same (HFV.out _ ?_); exact bel_drewN' _ _))
  have hV2 := HV.out.below (bel_drewN' V nq)
  generalize V.drewN nq = V2 at *
  clear HFV HV d0 d3 c4 c5 c6
  have H := hide hV2
  clear hV2
  go_wp2_with fail
  refine (rtrap_any 1 _ H.out (by unfold InI; omega)).mono ?_
  rintro e WT ⟨rfl, ht⟩
  have HT := hide ht
  clear ht H
  unfold stV
  have hz := blk_frozen HT.out.blk
  have z0 := hz 0
  have z1 := hz 1
  have z2 := hz 2
  have hcl := blk_cell HT.out.blk
  have q0 := hcl 0
  have q1 := hcl 1
  have q2 := hcl 2
  clear hz hcl
  go_wp2
  have H9 := hide (HT.out.reblk (stc3_kept WT R (.int .i64 2) (.int .i64 0) (.int .i64 1)) (stc3_blk HT.out.blk _ _ _))
  unfold stc3 at H9
  have hcl := blk_cell H9.out.blk
  have e0 := hcl 0
  have e1 := hcl 1
  have e2 := hcl 2
  generalize ((WT.setCell ⟨R, 0, none⟩ (.int .i64 2)).setCell ⟨R, 1, none⟩ (.int .i64 0)).setCell ⟨R, 2, none⟩ (.int .i64 1) = W9 at *
  have H10 := hide H9.out.unbox
  refine bodyPost_ret (v := stV 2 0 1) (by simp [results, Tryz.results10, go_sem, stV, e0, e1, e2]) rfl ⟨rfl, ?_⟩
  exact H10.out

set_option maxHeartbeats 3200000 in
theorem rstep_ill (w : World) (h : RH w0 w m mm me M l) (hk : M.kind = 0) (hp0 : M.pc % 4 = 0) (hm : mayB M.mem M.pc 4 1 = true) (hD : ∀ W, Calls Tryz.prog 37 #[.int .u32 (fetchV M.mem M.pc)] W fun e w' => e = .returned (.tuple #[inst 0 0 0 0 0, .bool false]) ∧ Below W.heap.size W w') :
    Calls Tryz.prog 10 #[.pointer (some ⟨m, 0, none⟩)] w fun e w' => e = .returned (stV (M.trapped 2).kind (M.trapped 2).code (M.trapped 2).trap) ∧ RH w0 w' m mm me (M.trapped 2) l := by
  have HK0 := hide hk
  have hpc := h.fits.place
  have hml := h.lt
  obtain ⟨p, hp⟩ : ∃ p, M.pc = p := ⟨_, rfl⟩
  have HPC := hide hp
  obtain ⟨F, hP⟩ := h.rm
  have HF := hide (fun W (hW : Below w.heap.size w W) => rfetch_any mm M.mem F M.pc W (hP.below hW) hpc)
  rw [hm] at HF
  have hp4 : ((p : Int) % 4 != 0) = false := by rw [← hp]; simp; omega
  have HM := hide h
  have HD := hide hD
  unfold inst at HD
  generalize fetchV M.mem M.pc = v at *
  rw [hp] at HF
  clear h hk hp0 hp hpc hP hm hD
  go_enter Tryz.func10, Tryz.ntmps10
  go_upto_region 1 with fail
  have h1 := HM.out.newblk #[.int .i64 0, .int .i64 0, .int .i64 0] 36
  have hB1 := below_alloc w (.cells #[.int .i64 0, .int .i64 0, .int .i64 0] 36)
  obtain ⟨R, hR⟩ : ∃ R, R = w.heap.size := ⟨_, rfl⟩
  rw [← hR] at h1 ⊢
  generalize w.alloc (.cells #[.int .i64 0, .int .i64 0, .int .i64 0] 36) = V at *
  obtain ⟨c4, c5, c6⟩ := h1.st
  have d0 := h1.c0
  have d3 := h1.cpc
  rw [HPC.out] at d3
  rw [HK0.out] at c4
  have HV := hide h1
  have HFV := hide (fun W (hW : Below V.heap.size V W) => HF.out W (hB1.trans (hW.mono hB1.size)))
  clear hR h1 hB1 HF HM
  go_wp2_with fail
  go_quiet (first | (go_at_call 36; refine Calls.quiet_of_same (HFV.out _ ?_); exact bel_drewN' _ _))
  have hV2 := HV.out.below (bel_drewN' V nq)
  generalize V.drewN nq = V2 at *
  clear HFV HV d0 d3 c4 c5 c6
  go_wp2_with fail
  refine (HD.out _).mono ?_
  rintro e W2 ⟨rfl, hb2'⟩
  have H2 := hide (hV2.below hb2')
  clear hb2' hV2 HD
  go_upto_region 9 with fail
  have H := hide (H2.out.below (below_alloc W2 (.cells #[.int .i64 0, .int .i64 0, .int .i64 0, .int .i64 0, .int .i64 0] 45)))
  clear H2
  go_wp2_with fail
  refine (rtrap_any 2 _ H.out (by unfold InI; omega)).mono ?_
  rintro e WT ⟨rfl, ht⟩
  have HT := hide ht
  clear ht H
  unfold stV
  have hz := blk_frozen HT.out.blk
  have z0 := hz 0
  have z1 := hz 1
  have z2 := hz 2
  have hcl := blk_cell HT.out.blk
  have q0 := hcl 0
  have q1 := hcl 1
  have q2 := hcl 2
  clear hz hcl
  go_wp2
  have H9 := hide (HT.out.reblk (stc3_kept WT R (.int .i64 2) (.int .i64 0) (.int .i64 2)) (stc3_blk HT.out.blk _ _ _))
  unfold stc3 at H9
  have hcl := blk_cell H9.out.blk
  have e0 := hcl 0
  have e1 := hcl 1
  have e2 := hcl 2
  generalize ((WT.setCell ⟨R, 0, none⟩ (.int .i64 2)).setCell ⟨R, 1, none⟩ (.int .i64 0)).setCell ⟨R, 2, none⟩ (.int .i64 2) = W9 at *
  have H10 := hide H9.out.unbox
  refine bodyPost_ret (v := stV 2 0 2) (by simp [results, Tryz.results10, go_sem, stV, e0, e1, e2]) rfl ⟨rfl, ?_⟩
  exact H10.out

end

end Go.Proofs.YtdhjjlnabbpinaaGreatDoor

/- The contract of the document's Step and Run: what the machine does. -/
namespace Go.Proofs.YtdhjjlnabbpinaaGreatDoor
open Go.RowKit Go.Maps
set_option linter.unusedVariables false
set_option maxRecDepth 100000

section
variable {w0 w w' : World} {m mm me : Nat} {M : Mc} {l : List (World → (Nat → Prop) → Prop)}

theorem rstep_ended (w : World) (h : RH w0 w m mm me M l) (hk : M.kind ≠ 0) :
    Calls Tryz.prog 10 #[.pointer (some ⟨m, 0, none⟩)] w fun e w' => e = .returned (stV M.kind M.code M.trap) ∧ RH w0 w' m mm me M l := by
  obtain ⟨c4, c5, c6⟩ := h.st
  have hk' : (M.kind != 0) = true := by simpa using hk
  have hml := h.lt
  have HM := hide (h.below (below_alloc w (.cells #[.int .i64 M.kind, .int .i64 M.code, .int .i64 M.trap] 36)))
  clear h hk
  generalize M.kind = k at *
  generalize M.code = c at *
  generalize M.trap = t at *
  go_enter Tryz.func10, Tryz.ntmps10
  go_wp2
  refine bodyPost_ret (v := stV k c t) (by simp [results, Tryz.results10, go_sem, stV]) rfl ⟨rfl, HM.out⟩

theorem rcall_case (hx : M.x 17 ≠ 93) (ht : M.tr.length < 1000000) (hi : M.ins.length ≤ 140737488355328) (hf : Fits M.x M.pc M.kind M.code M.trap) :
    ∃ (M2 : Mc) (rv : Int), (0 ≤ rv ∧ rv ≤ 18446744073709551615) ∧ (M2.kind = M.kind ∧ M2.code = M.code ∧ M2.trap = M.trap ∧ M2.pc = M.pc) ∧ M.call = M2.put 10 rv ∧
      ∀ W l, RH w0 W m mm me M l → Calls Tryz.prog 44 #[.pointer (some ⟨m, 0, none⟩)] W fun e w' => e = .returned (.int .u64 rv) ∧ RH w0 w' m mm me M2 l := by
  have hr := hf.reg 12
  unfold Mc.call
  rw [if_neg hx]
  by_cases h2 : M.x 17 = 64
  · rw [if_pos h2]
    by_cases h3 : 65536 < M.x 12
    · rw [if_pos h3]
      exact ⟨M, _, by decide, ⟨rfl, rfl, rfl, rfl⟩, rfl, fun W l hW => recall_wlong W hW h2 h3⟩
    rw [if_neg h3]
    cases h4 : mayB M.mem (M.x 11).toNat (M.x 12).toNat 4 with
    | true =>
      rw [if_pos rfl]
      exact ⟨{ M with tr := M.tr ++ [⟨0, s64 (M.x 10), M.mem.read (M.x 11).toNat (M.x 12).toNat, 0⟩] }, M.x 12, hr, ⟨rfl, rfl, rfl, rfl⟩, rfl, fun W l hW => recall_wok W hW h2 (by omega) h4 ht⟩
    | false =>
      rw [if_neg (by decide)]
      exact ⟨M, _, by decide, ⟨rfl, rfl, rfl, rfl⟩, rfl, fun W l hW => recall_wno W hW h2 (by omega) h4⟩
  rw [if_neg h2]
  by_cases h5 : M.x 17 = 63
  · rw [if_pos h5]
    by_cases h3 : 65536 < M.x 12
    · rw [if_pos h3]
      exact ⟨M, _, by decide, ⟨rfl, rfl, rfl, rfl⟩, rfl, fun W l hW => recall_rlong W hW h5 h3⟩
    rw [if_neg h3]
    cases h4 : mayB M.mem (M.x 11).toNat (M.x 12).toNat 2 with
    | true =>
      rw [if_pos rfl]
      have hL : (M.ins.take (M.x 12).toNat).length ≤ 65536 := by rw [List.length_take]; omega
      exact ⟨{ M with mem := M.mem.lay (M.x 11).toNat (M.ins.take (M.x 12).toNat), ins := M.ins.drop (M.x 12).toNat, tr := M.tr ++ [⟨1, s64 (M.x 10), [], ((M.ins.take (M.x 12).toNat).length : Int)⟩] }, ((M.ins.take (M.x 12).toNat).length : Int), ⟨by omega, by omega⟩, ⟨rfl, rfl, rfl, rfl⟩, rfl, fun W l hW => recall_rok W hW h5 (by omega) h4 ht hi⟩
    | false =>
      rw [if_neg (by decide)]
      exact ⟨M, _, by decide, ⟨rfl, rfl, rfl, rfl⟩, rfl, fun W l hW => recall_rno W hW h5 (by omega) h4⟩
  rw [if_neg h5]
  exact ⟨M, _, by decide, ⟨rfl, rfl, rfl, rfl⟩, rfl, fun W l hW => recall_none W hW h2 h5⟩

theorem rstep_do (o : Nat) (d n1 n2 : Nat) (im : Int) (w : World) (h : RH w0 w m mm me M l) (hk : M.kind = 0) (hp0 : M.pc % 4 = 0) (hm : mayB M.mem M.pc 4 1 = true) (h0 : 1 ≤ o) (h1 : o < 66) (hd : d < 32) (hn1 : n1 < 32) (hn2 : n2 < 32) (him : -2147483648 ≤ im ∧ im ≤ 2147483647) (ht : M.tr.length < 1000000) (hi : M.ins.length ≤ 140737488355328)
    (hD : ∀ W, Calls Tryz.prog 37 #[.int .u32 (fetchV M.mem M.pc)] W fun e w' => e = .returned (.tuple #[inst o d n1 n2 im, .bool true]) ∧ Below W.heap.size W w') :
    Calls Tryz.prog 10 #[.pointer (some ⟨m, 0, none⟩)] w fun e w' => e = .returned (stV (M.doF o d n1 n2 im).kind (M.doF o d n1 n2 im).code (M.doF o d n1 n2 im).trap) ∧ RH w0 w' m mm me (M.doF o d n1 n2 im) l := by
  unfold Mc.doF
  rw [Int.toNat_natCast, Int.toNat_natCast]
  by_cases a1 : o = 1
  · subst a1
    exact rstep_1 d n1 n2 im w h hk hp0 hm hd hn1 hn2 him hD
  rw [if_neg a1]
  by_cases a2 : o = 2
  · subst a2
    exact rstep_2 d n1 n2 im w h hk hp0 hm hd hn1 hn2 him hD
  rw [if_neg a2]
  by_cases a3 : o = 3
  · subst a3
    exact rstep_3 d n1 n2 im w h hk hp0 hm hd hn1 hn2 him hD
  rw [if_neg a3]
  by_cases a4 : o = 4
  · subst a4
    exact rstep_4 d n1 n2 im w h hk hp0 hm hd hn1 hn2 him hD
  rw [if_neg a4]
  by_cases a10 : o ≤ 10
  · rw [if_pos a10]
    exact rstep_br o (by omega) a10 d n1 n2 im w h hk hp0 hm hd hn1 hn2 him hD
  rw [if_neg a10]
  by_cases a17 : o ≤ 17
  · rw [if_pos a17]
    exact rstep_ld o (by omega) a17 d n1 n2 im w h hk hp0 hm hd hn1 hn2 him hD
  rw [if_neg a17]
  by_cases a21 : o ≤ 21
  · rw [if_pos a21]
    exact rstep_so o (by omega) a21 d n1 n2 im w h hk hp0 hm hd hn1 hn2 him hD
  rw [if_neg a21]
  by_cases a62 : o ≤ 62
  · rw [if_pos a62]
    exact rstep_alu o (by omega) a62 d n1 n2 im w h hk hp0 hm hd hn1 hn2 him hD
  rw [if_neg a62]
  by_cases a63 : o = 63
  · subst a63
    exact rstep_63 d n1 n2 im w h hk hp0 hm hd hn1 hn2 him hD
  rw [if_neg a63]
  by_cases a64 : o = 64
  · subst a64
    rw [if_pos rfl]
    by_cases hx : M.x 17 = 93
    · exact rstep_64x hx d n1 n2 im w h hk hp0 hm hd hn1 hn2 him hD
    · obtain ⟨M2, rv, g1, g2, g3, g4⟩ := rcall_case (w0 := w0) (m := m) (mm := mm) (me := me) hx ht hi h.fits
      rw [g3]
      exact rstep_64y M2 rv g1 hx g2 g4 d n1 n2 im w h hk hp0 hm hd hn1 hn2 him hD
  rw [if_neg a64]
  obtain rfl : o = 65 := by omega
  exact rstep_65 d n1 n2 im w h hk hp0 hm hd hn1 hn2 him hD

/-- A step of the document's machine. -/
theorem rstep_any (w : World) (h : RH w0 w m mm me M l) (ht : M.tr.length < 1000000) (hi : M.ins.length ≤ 140737488355328) :
    Calls Tryz.prog 10 #[.pointer (some ⟨m, 0, none⟩)] w fun e w' => e = .returned (stV M.step.kind M.step.code M.step.trap) ∧ RH w0 w' m mm me M.step l := by
  unfold Mc.step
  by_cases hk : M.kind = 0
  · rw [if_pos hk]
    by_cases ha : M.pc % 4 = 0
    · rw [if_pos ha]
      cases hm : mayB M.mem M.pc 4 1 with
      | false =>
        rw [if_neg (by decide)]
        exact rstep_nofetch w h hk ha hm
      | true =>
        rw [if_pos rfl]
        have hb := fetchV_bd h.good M.pc
        have hop := opOf_is (fetchV M.mem M.pc)
        by_cases ho : opOf (fetchV M.mem M.pc) = 0
        · rw [if_pos ho]
          rw [ho] at hop
          exact rstep_ill w h hk ha hm (fun W => rdec_none _ W hb.1 hb.2 hop)
        · rw [if_neg ho]
          obtain ⟨h1, h2, h3⟩ := hop.resolve_left (fun e => ho e.1)
          have hf := fit5_of (opOf (fetchV M.mem M.pc)) (fetchV M.mem M.pc)
          have hdc := fun W => rdec_some (fetchV M.mem M.pc) _ W hb.1 hb.2 h1 h2 h3
          obtain ⟨d, hd⟩ := Int.eq_ofNat_of_zero_le hf.rd.1
          obtain ⟨n1, hn1⟩ := Int.eq_ofNat_of_zero_le hf.r1.1
          obtain ⟨n2, hn2⟩ := Int.eq_ofNat_of_zero_le hf.r2.1
          rw [hd, hn1, hn2] at hf hdc ⊢
          have f1 := hf.rd.2
          have f2 := hf.r1.2
          have f3 := hf.r2.2
          exact rstep_do _ d n1 n2 _ w h hk ha hm h1 h2 (by omega) (by omega) (by omega) hf.im ht hi hdc
    · rw [if_neg ha]
      exact rstep_align w h hk ha
  · rw [if_neg hk]
    exact rstep_ended w h hk

end

end Go.Proofs.YtdhjjlnabbpinaaGreatDoor
