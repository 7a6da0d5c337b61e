/- The contract of the document's Step, at some operations. -/
import Derived.Test.YtgjfelkbblbjfaaGreatDoorJ33
import Derived.Deep.QuietTactic
import Derived.BigQuiet
import Derived.Deep.RegionHeld3
import Derived.Deep.RegionWith
namespace Go.Proofs.YtgjfelkbblbjfaaGreatDoor
open Go.RowKit Go.Maps
set_option linter.unusedVariables false
set_option maxRecDepth 100000

section
variable {w0 w w' : World} {m mm me : Nat} {M : Mc} {l : List (World → (Nat → Prop) → Prop)}

set_option maxHeartbeats 3200000 in
theorem rstep_align (w : World) (h : RH w0 w m mm me M l) (hk : M.kind = 0) (hp0 : M.pc % 4 ≠ 0) :
    Calls Tryz.prog 40 #[.pointer (some ⟨m, 0, none⟩)] w fun e w' => e = .returned (stV (M.trapped 5).kind (M.trapped 5).code (M.trapped 5).trap) ∧ RH w0 w' m mm me (M.trapped 5) l := by
  have HK0 := hide hk
  have hpc := h.fits.place
  have hml := h.lt
  obtain ⟨p, hp⟩ : ∃ p, M.pc = p := ⟨_, rfl⟩
  have HPC := hide hp
  have hp4 : ((p : Int) % 4 != 0) = true := by rw [← hp]; simp; omega
  have HM := hide h
  clear h hk hp0 hp hpc
  go_enter Tryz.func40, Tryz.ntmps40
  go_upto_region 1 with fail
  have h1 := HM.out.newblk #[.int .i64 0, .int .i64 0, .int .i64 0] 56
  have hB1 := below_alloc w (.cells #[.int .i64 0, .int .i64 0, .int .i64 0] 56)
  obtain ⟨R, hR⟩ : ∃ R, R = w.heap.size := ⟨_, rfl⟩
  rw [← hR] at h1 ⊢
  generalize w.alloc (.cells #[.int .i64 0, .int .i64 0, .int .i64 0] 56) = V at *
  obtain ⟨c4, c5, c6⟩ := h1.st
  have d0 := h1.c0
  have d3 := h1.cpc
  rw [HPC.out] at d3
  rw [HK0.out] at c4
  have HV := hide h1
  clear hB1 hR h1
  have H := HV
  go_wp2_with fail
  refine (rtrap_any 5 _ H.out (by unfold InI; omega)).mono ?_
  rintro e WT ⟨rfl, ht⟩
  have HT := hide ht
  clear ht H
  unfold stV
  have hz := blk_frozen HT.out.blk
  have z0 := hz 0
  have z1 := hz 1
  have z2 := hz 2
  have hcl := blk_cell HT.out.blk
  have q0 := hcl 0
  have q1 := hcl 1
  have q2 := hcl 2
  clear hz hcl
  go_wp2
  have H9 := hide (HT.out.reblk (stc3_kept WT R (.int .i64 2) (.int .i64 0) (.int .i64 5)) (stc3_blk HT.out.blk _ _ _))
  unfold stc3 at H9
  have hcl := blk_cell H9.out.blk
  have e0 := hcl 0
  have e1 := hcl 1
  have e2 := hcl 2
  generalize ((WT.setCell ⟨R, 0, none⟩ (.int .i64 2)).setCell ⟨R, 1, none⟩ (.int .i64 0)).setCell ⟨R, 2, none⟩ (.int .i64 5) = W9 at *
  have H10 := hide H9.out.unbox
  refine bodyPost_ret (v := stV 2 0 5) (by simp [results, Tryz.results40, go_sem, stV, e0, e1, e2]) rfl ⟨rfl, ?_⟩
  exact H10.out

set_option maxHeartbeats 3200000 in
theorem rstep_nofetch (w : World) (h : RH w0 w m mm me M l) (hk : M.kind = 0) (hp0 : M.pc % 4 = 0) (hm : mayB M.mem M.pc 4 1 = false) :
    Calls Tryz.prog 40 #[.pointer (some ⟨m, 0, none⟩)] w fun e w' => e = .returned (stV (M.trapped 1).kind (M.trapped 1).code (M.trapped 1).trap) ∧ RH w0 w' m mm me (M.trapped 1) l := by
  have HK0 := hide hk
  have hpc := h.fits.place
  have hml := h.lt
  obtain ⟨p, hp⟩ : ∃ p, M.pc = p := ⟨_, rfl⟩
  have HPC := hide hp
  obtain ⟨F, hP⟩ := h.rm
  have HF := hide (fun W (hW : Below w.heap.size w W) => rfetch_any mm M.mem F M.pc W (hP.below hW) hpc)
  rw [hm] at HF
  have hp4 : ((p : Int) % 4 != 0) = false := by rw [← hp]; simp; omega
  have HM := hide h
  generalize fetchV M.mem M.pc = v at *
  rw [hp] at HF
  clear h hk hp0 hp hpc hP hm
  go_enter Tryz.func40, Tryz.ntmps40
  go_upto_region 1 with fail
  have h1 := HM.out.newblk #[.int .i64 0, .int .i64 0, .int .i64 0] 56
  have hB1 := below_alloc w (.cells #[.int .i64 0, .int .i64 0, .int .i64 0] 56)
  obtain ⟨R, hR⟩ : ∃ R, R = w.heap.size := ⟨_, rfl⟩
  rw [← hR] at h1 ⊢
  generalize w.alloc (.cells #[.int .i64 0, .int .i64 0, .int .i64 0] 56) = V at *
  obtain ⟨c4, c5, c6⟩ := h1.st
  have d0 := h1.c0
  have d3 := h1.cpc
  rw [HPC.out] at d3
  rw [HK0.out] at c4
  have HV := hide h1
  have HFV := hide (fun W (hW : Below V.heap.size V W) => HF.out W (hB1.trans (hW.mono hB1.size)))
  clear hR h1 hB1 HF HM
  go_wp2_with fail
  go_quiet (first | (go_at_call 59; refine Calls.quiet_of_same (HFV.out _ ?_); exact bel_drewN' _ _))
  have hV2 := HV.out.below (bel_drewN' V nq)
  generalize V.drewN nq = V2 at *
  clear HFV HV d0 d3 c4 c5 c6
  have H := hide hV2
  clear hV2
  go_wp2_with fail
  refine (rtrap_any 1 _ H.out (by unfold InI; omega)).mono ?_
  rintro e WT ⟨rfl, ht⟩
  have HT := hide ht
  clear ht H
  unfold stV
  have hz := blk_frozen HT.out.blk
  have z0 := hz 0
  have z1 := hz 1
  have z2 := hz 2
  have hcl := blk_cell HT.out.blk
  have q0 := hcl 0
  have q1 := hcl 1
  have q2 := hcl 2
  clear hz hcl
  go_wp2
  have H9 := hide (HT.out.reblk (stc3_kept WT R (.int .i64 2) (.int .i64 0) (.int .i64 1)) (stc3_blk HT.out.blk _ _ _))
  unfold stc3 at H9
  have hcl := blk_cell H9.out.blk
  have e0 := hcl 0
  have e1 := hcl 1
  have e2 := hcl 2
  generalize ((WT.setCell ⟨R, 0, none⟩ (.int .i64 2)).setCell ⟨R, 1, none⟩ (.int .i64 0)).setCell ⟨R, 2, none⟩ (.int .i64 1) = W9 at *
  have H10 := hide H9.out.unbox
  refine bodyPost_ret (v := stV 2 0 1) (by simp [results, Tryz.results40, go_sem, stV, e0, e1, e2]) rfl ⟨rfl, ?_⟩
  exact H10.out

set_option maxHeartbeats 3200000 in
theorem rstep_ill (w : World) (h : RH w0 w m mm me M l) (hk : M.kind = 0) (hp0 : M.pc % 4 = 0) (hm : mayB M.mem M.pc 4 1 = true) (hD : ∀ W, Calls Tryz.prog 60 #[.int .u32 (fetchV M.mem M.pc)] W fun e w' => e = .returned (.tuple #[inst 0 0 0 0 0, .bool false]) ∧ Below W.heap.size W w') :
    Calls Tryz.prog 40 #[.pointer (some ⟨m, 0, none⟩)] w fun e w' => e = .returned (stV (M.trapped 2).kind (M.trapped 2).code (M.trapped 2).trap) ∧ RH w0 w' m mm me (M.trapped 2) l := by
  have HK0 := hide hk
  have hpc := h.fits.place
  have hml := h.lt
  obtain ⟨p, hp⟩ : ∃ p, M.pc = p := ⟨_, rfl⟩
  have HPC := hide hp
  obtain ⟨F, hP⟩ := h.rm
  have HF := hide (fun W (hW : Below w.heap.size w W) => rfetch_any mm M.mem F M.pc W (hP.below hW) hpc)
  rw [hm] at HF
  have hp4 : ((p : Int) % 4 != 0) = false := by rw [← hp]; simp; omega
  have HM := hide h
  have HD := hide hD
  unfold inst at HD
  generalize fetchV M.mem M.pc = v at *
  rw [hp] at HF
  clear h hk hp0 hp hpc hP hm hD
  go_enter Tryz.func40, Tryz.ntmps40
  go_upto_region 1 with fail
  have h1 := HM.out.newblk #[.int .i64 0, .int .i64 0, .int .i64 0] 56
  have hB1 := below_alloc w (.cells #[.int .i64 0, .int .i64 0, .int .i64 0] 56)
  obtain ⟨R, hR⟩ : ∃ R, R = w.heap.size := ⟨_, rfl⟩
  rw [← hR] at h1 ⊢
  generalize w.alloc (.cells #[.int .i64 0, .int .i64 0, .int .i64 0] 56) = V at *
  obtain ⟨c4, c5, c6⟩ := h1.st
  have d0 := h1.c0
  have d3 := h1.cpc
  rw [HPC.out] at d3
  rw [HK0.out] at c4
  have HV := hide h1
  have HFV := hide (fun W (hW : Below V.heap.size V W) => HF.out W (hB1.trans (hW.mono hB1.size)))
  clear hR h1 hB1 HF HM
  go_wp2_with fail
  go_quiet (first | (go_at_call 59; refine Calls.quiet_of_same (HFV.out _ ?_); exact bel_drewN' _ _))
  have hV2 := HV.out.below (bel_drewN' V nq)
  generalize V.drewN nq = V2 at *
  clear HFV HV d0 d3 c4 c5 c6
  go_wp2_with fail
  refine (HD.out _).mono ?_
  rintro e W2 ⟨rfl, hb2'⟩
  have H2 := hide (hV2.below hb2')
  clear hb2' hV2 HD
  go_upto_region 9 with fail
  have H := hide (H2.out.below (below_alloc W2 (.cells #[.int .i64 0, .int .i64 0, .int .i64 0, .int .i64 0, .int .i64 0] 28)))
  clear H2
  go_wp2_with fail
  refine (rtrap_any 2 _ H.out (by unfold InI; omega)).mono ?_
  rintro e WT ⟨rfl, ht⟩
  have HT := hide ht
  clear ht H
  unfold stV
  have hz := blk_frozen HT.out.blk
  have z0 := hz 0
  have z1 := hz 1
  have z2 := hz 2
  have hcl := blk_cell HT.out.blk
  have q0 := hcl 0
  have q1 := hcl 1
  have q2 := hcl 2
  clear hz hcl
  go_wp2
  have H9 := hide (HT.out.reblk (stc3_kept WT R (.int .i64 2) (.int .i64 0) (.int .i64 2)) (stc3_blk HT.out.blk _ _ _))
  unfold stc3 at H9
  have hcl := blk_cell H9.out.blk
  have e0 := hcl 0
  have e1 := hcl 1
  have e2 := hcl 2
  generalize ((WT.setCell ⟨R, 0, none⟩ (.int .i64 2)).setCell ⟨R, 1, none⟩ (.int .i64 0)).setCell ⟨R, 2, none⟩ (.int .i64 2) = W9 at *
  have H10 := hide H9.out.unbox
  refine bodyPost_ret (v := stV 2 0 2) (by simp [results, Tryz.results40, go_sem, stV, e0, e1, e2]) rfl ⟨rfl, ?_⟩
  exact H10.out

end

end Go.Proofs.YtgjfelkbblbjfaaGreatDoor
