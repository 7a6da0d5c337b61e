/- The contract of the document's Step, at some operations. -/
import Derived.Test.YtgjfelkbblbjfaaGreatDoorJ33
import Derived.Deep.QuietTactic
import Derived.BigQuiet
import Derived.Deep.RegionHeld3
import Derived.Deep.RegionWith
namespace Go.Proofs.YtgjfelkbblbjfaaGreatDoor
open Go.RowKit Go.Maps
set_option linter.unusedVariables false
set_option maxRecDepth 100000

section
variable {w0 w w' : World} {m mm me : Nat} {M : Mc} {l : List (World → (Nat → Prop) → Prop)}

set_option maxHeartbeats 6400000 in
theorem rstep_63 (d n1 n2 : Nat) (im : Int) (w : World) (h : RH w0 w m mm me M l) (hk : M.kind = 0) (hp0 : M.pc % 4 = 0) (hm : mayB M.mem M.pc 4 1 = true) (hd : d < 32) (hn1 : n1 < 32) (hn2 : n2 < 32) (him : -2147483648 ≤ im ∧ im ≤ 2147483647)
    (hD : ∀ W, Calls Tryz.prog 60 #[.int .u32 (fetchV M.mem M.pc)] W fun e w' => e = .returned (.tuple #[inst 63 d n1 n2 im, .bool true]) ∧ Below W.heap.size W w') :
    Calls Tryz.prog 40 #[.pointer (some ⟨m, 0, none⟩)] w fun e w' => e = .returned (stV M.next.kind M.next.code M.next.trap) ∧ RH w0 w' m mm me M.next l := by
  have HK0 := hide hk
  have hpc := h.fits.place
  have hml := h.lt
  obtain ⟨c4, c5, c6⟩ := h.st
  rw [hk] at c4
  have hp4 : ((M.pc : Int) % 4 != 0) = false := by simp; omega
  obtain ⟨F, hP⟩ := h.rm
  have HF := hide (fun W (hW : Below w.heap.size w W) => rfetch_any mm M.mem F M.pc W (hP.below hW) hpc)
  rw [hm] at HF
  have HD := hide hD
  have HM := hide h
  have hb1 := h.fits.reg n1
  have hb2 := h.fits.reg n2
  obtain ⟨a, ha⟩ : ∃ a, M.x n1 = a := ⟨_, rfl⟩
  obtain ⟨b, hb⟩ : ∃ b, M.x n2 = b := ⟨_, rfl⟩
  have HA := hide ha
  have HBv := hide hb
  rw [ha] at hb1
  rw [hb] at hb2
  have hi0 := him.1
  have hi1 := him.2
  have hn1' : (n1 : Int) < 32 := by omega
  have hn2' : (n2 : Int) < 32 := by omega
  obtain ⟨iv, hiv⟩ : ∃ iv, u64 im = iv := ⟨_, rfl⟩
  have hiw : IntKind.u64.wrap im = iv := by rw [wrap_u64, hiv]
  have hivb := u64_bd im
  rw [hiv] at hivb
  have HIV := hide hiv
  generalize fetchV M.mem M.pc = v at *
  obtain ⟨p, hp⟩ : ∃ p, M.pc = p := ⟨_, rfl⟩
  rw [hp] at HF hpc hp4
  have HPC := hide hp
  clear h hP hm hD hk ha hb hiv hp hp0
  unfold inst at HD
  go_enter Tryz.func40, Tryz.ntmps40
  go_upto_region 1 with fail
  have h1 := HM.out.newblk #[.int .i64 0, .int .i64 0, .int .i64 0] 56
  have hB1 := below_alloc w (.cells #[.int .i64 0, .int .i64 0, .int .i64 0] 56)
  obtain ⟨R, hR⟩ : ∃ R, R = w.heap.size := ⟨_, rfl⟩
  rw [← hR] at h1 ⊢
  generalize w.alloc (.cells #[.int .i64 0, .int .i64 0, .int .i64 0] 56) = V at *
  obtain ⟨c4, c5, c6⟩ := h1.st
  have d0 := h1.c0
  have d3 := h1.cpc
  rw [HPC.out] at d3
  rw [show M.kind = 0 by first | exact HK0.out] at c4
  have HV := hide h1
  have HFV := hide (fun W (hW : Below V.heap.size V W) => HF.out W (hB1.trans (hW.mono hB1.size)))
  clear hR h1 hB1 HF HM
  go_wp2_with fail
  go_quiet (first | (go_at_call 59; refine Calls.quiet_of_same (HFV.out _ ?_); exact bel_drewN' _ _))
  have hV2 := HV.out.below (bel_drewN' V nq)
  generalize V.drewN nq = V2 at *
  clear HFV HV d0 d3 c4 c5 c6
  go_wp2_with fail
  refine (HD.out _).mono ?_
  rintro e W2 ⟨rfl, hb2'⟩
  have H2 := hide (hV2.below hb2')
  clear hb2' hV2 HD
  go_upto_region 9 with fail
  have h3 := H2.out.newblk #[.int .i64 63, .int .i64 (d : Int), .int .i64 (n1 : Int), .int .i64 (n2 : Int), .int .i64 im] 28
  obtain ⟨Y, hY⟩ : ∃ Y, Y = W2.heap.size := ⟨_, rfl⟩
  rw [← hY] at h3 ⊢
  generalize W2.alloc (.cells #[.int .i64 63, .int .i64 (d : Int), .int .i64 (n1 : Int), .int .i64 (n2 : Int), .int .i64 im] 28) = W3 at *
  have d0 := h3.c0
  have d3 := h3.cpc
  rw [HPC.out] at d3
  have g1 := h3.reg n1 hn1
  rw [HA.out] at g1
  have g2 := h3.reg n2 hn2
  rw [HBv.out] at g2
  have hcl := blk_cell h3.blk
  have y0 := hcl 0
  have y1 := hcl 1
  have y2 := hcl 2
  have y3 := hcl 3
  have y4 := hcl 4
  have H3 := hide h3
  obtain ⟨nx, hnx⟩ : ∃ nx : Nat, nx = (u64 (p + 4)).toNat := ⟨_, rfl⟩
  have hnb := u64_bd (p + 4)
  have hnx' : IntKind.u64.wrap ((p : Int) + 4) = (nx : Int) := by rw [wrap_u64]; omega
  have hnm : nx ≤ 18446744073709551615 := by omega
  have HNX := hide hnx
  clear hcl h3 H2 hY hnx hnb
  go_upto_region 12 with fail
  go_quiet (fail)
  have h4 := H3.out.below (bel_drewN' W3 nq)
  generalize W3.drewN nq = W4 at *
  have d0 := h4.c0
  have d3 := h4.cpc
  rw [HPC.out] at d3
  have hcl := blk_cell h4.blk
  have y0 := hcl 0
  have y1 := hcl 1
  have y2 := hcl 2
  have y3 := hcl 3
  have y4 := hcl 4
  have H4 := hide h4
  clear hcl h4 H3 g1 g2
  have H := hide H4.out.unbox
  clear H4
  have zp := H.out.frozen 34
  have cp := H.out.cpc
  go_upto_region 54 with fail
  have H6 := hide (H.out.setpc (p := nx) hnm)
  generalize W4.setCell ⟨m, 34, none⟩ (.int .u64 (nx : Int)) = W6 at *
  clear zp cp H
  obtain ⟨c4, c5, c6⟩ := H6.out.st
  have hz := blk_frozen H6.out.blk
  have z0 := hz 0
  have z1 := hz 1
  have z2 := hz 2
  have hcl := blk_cell H6.out.blk
  have q0 := hcl 0
  have q1 := hcl 1
  have q2 := hcl 2
  clear hz hcl
  go_wp2
  have H9 := hide (H6.out.reblk (stc3_kept W6 R (.int .i64 M.kind) (.int .i64 M.code) (.int .i64 M.trap)) (stc3_blk H6.out.blk _ _ _))
  unfold stc3 at H9
  have hcl := blk_cell H9.out.blk
  have e0 := hcl 0
  have e1 := hcl 1
  have e2 := hcl 2
  generalize ((W6.setCell ⟨R, 0, none⟩ (.int .i64 M.kind)).setCell ⟨R, 1, none⟩ (.int .i64 M.code)).setCell ⟨R, 2, none⟩ (.int .i64 M.trap) = W9 at *
  have H10 := hide H9.out.unbox
  refine bodyPost_ret (v := stV M.kind M.code M.trap) (by simp [results, Tryz.results40, go_sem, stV, e0, e1, e2]) rfl ⟨rfl, ?_⟩
  have h10 := H10.out
  unfold Mc.next
  rw [HPC.out, ← HNX.out]
  exact h10

set_option maxHeartbeats 6400000 in
theorem rstep_65 (d n1 n2 : Nat) (im : Int) (w : World) (h : RH w0 w m mm me M l) (hk : M.kind = 0) (hp0 : M.pc % 4 = 0) (hm : mayB M.mem M.pc 4 1 = true) (hd : d < 32) (hn1 : n1 < 32) (hn2 : n2 < 32) (him : -2147483648 ≤ im ∧ im ≤ 2147483647)
    (hD : ∀ W, Calls Tryz.prog 60 #[.int .u32 (fetchV M.mem M.pc)] W fun e w' => e = .returned (.tuple #[inst 65 d n1 n2 im, .bool true]) ∧ Below W.heap.size W w') :
    Calls Tryz.prog 40 #[.pointer (some ⟨m, 0, none⟩)] w fun e w' => e = .returned (stV (M.trapped 6).kind (M.trapped 6).code (M.trapped 6).trap) ∧ RH w0 w' m mm me (M.trapped 6) l := by
  have HK0 := hide hk
  have hpc := h.fits.place
  have hml := h.lt
  obtain ⟨c4, c5, c6⟩ := h.st
  rw [hk] at c4
  have hp4 : ((M.pc : Int) % 4 != 0) = false := by simp; omega
  obtain ⟨F, hP⟩ := h.rm
  have HF := hide (fun W (hW : Below w.heap.size w W) => rfetch_any mm M.mem F M.pc W (hP.below hW) hpc)
  rw [hm] at HF
  have HD := hide hD
  have HM := hide h
  have hb1 := h.fits.reg n1
  have hb2 := h.fits.reg n2
  obtain ⟨a, ha⟩ : ∃ a, M.x n1 = a := ⟨_, rfl⟩
  obtain ⟨b, hb⟩ : ∃ b, M.x n2 = b := ⟨_, rfl⟩
  have HA := hide ha
  have HBv := hide hb
  rw [ha] at hb1
  rw [hb] at hb2
  have hi0 := him.1
  have hi1 := him.2
  have hn1' : (n1 : Int) < 32 := by omega
  have hn2' : (n2 : Int) < 32 := by omega
  obtain ⟨iv, hiv⟩ : ∃ iv, u64 im = iv := ⟨_, rfl⟩
  have hiw : IntKind.u64.wrap im = iv := by rw [wrap_u64, hiv]
  have hivb := u64_bd im
  rw [hiv] at hivb
  have HIV := hide hiv
  generalize fetchV M.mem M.pc = v at *
  obtain ⟨p, hp⟩ : ∃ p, M.pc = p := ⟨_, rfl⟩
  rw [hp] at HF hpc hp4
  have HPC := hide hp
  clear h hP hm hD hk ha hb hiv hp hp0
  unfold inst at HD
  go_enter Tryz.func40, Tryz.ntmps40
  go_upto_region 1 with fail
  have h1 := HM.out.newblk #[.int .i64 0, .int .i64 0, .int .i64 0] 56
  have hB1 := below_alloc w (.cells #[.int .i64 0, .int .i64 0, .int .i64 0] 56)
  obtain ⟨R, hR⟩ : ∃ R, R = w.heap.size := ⟨_, rfl⟩
  rw [← hR] at h1 ⊢
  generalize w.alloc (.cells #[.int .i64 0, .int .i64 0, .int .i64 0] 56) = V at *
  obtain ⟨c4, c5, c6⟩ := h1.st
  have d0 := h1.c0
  have d3 := h1.cpc
  rw [HPC.out] at d3
  rw [show M.kind = 0 by first | exact HK0.out] at c4
  have HV := hide h1
  have HFV := hide (fun W (hW : Below V.heap.size V W) => HF.out W (hB1.trans (hW.mono hB1.size)))
  clear hR h1 hB1 HF HM
  go_wp2_with fail
  go_quiet (first | (go_at_call 59; refine Calls.quiet_of_same (HFV.out _ ?_); exact bel_drewN' _ _))
  have hV2 := HV.out.below (bel_drewN' V nq)
  generalize V.drewN nq = V2 at *
  clear HFV HV d0 d3 c4 c5 c6
  go_wp2_with fail
  refine (HD.out _).mono ?_
  rintro e W2 ⟨rfl, hb2'⟩
  have H2 := hide (hV2.below hb2')
  clear hb2' hV2 HD
  go_upto_region 9 with fail
  have h3 := H2.out.newblk #[.int .i64 65, .int .i64 (d : Int), .int .i64 (n1 : Int), .int .i64 (n2 : Int), .int .i64 im] 28
  obtain ⟨Y, hY⟩ : ∃ Y, Y = W2.heap.size := ⟨_, rfl⟩
  rw [← hY] at h3 ⊢
  generalize W2.alloc (.cells #[.int .i64 65, .int .i64 (d : Int), .int .i64 (n1 : Int), .int .i64 (n2 : Int), .int .i64 im] 28) = W3 at *
  have d0 := h3.c0
  have d3 := h3.cpc
  rw [HPC.out] at d3
  have g1 := h3.reg n1 hn1
  rw [HA.out] at g1
  have g2 := h3.reg n2 hn2
  rw [HBv.out] at g2
  have hcl := blk_cell h3.blk
  have y0 := hcl 0
  have y1 := hcl 1
  have y2 := hcl 2
  have y3 := hcl 3
  have y4 := hcl 4
  have H3 := hide h3
  obtain ⟨nx, hnx⟩ : ∃ nx : Nat, nx = (u64 (p + 4)).toNat := ⟨_, rfl⟩
  have hnb := u64_bd (p + 4)
  have hnx' : IntKind.u64.wrap ((p : Int) + 4) = (nx : Int) := by rw [wrap_u64]; omega
  have hnm : nx ≤ 18446744073709551615 := by omega
  have HNX := hide hnx
  clear hcl h3 H2 hY hnx hnb
  go_upto_region 12 with fail
  go_quiet (fail)
  have h4 := H3.out.below (bel_drewN' W3 nq)
  generalize W3.drewN nq = W4 at *
  have d0 := h4.c0
  have d3 := h4.cpc
  rw [HPC.out] at d3
  have hcl := blk_cell h4.blk
  have y0 := hcl 0
  have y1 := hcl 1
  have y2 := hcl 2
  have y3 := hcl 3
  have y4 := hcl 4
  have H4 := hide h4
  clear hcl h4 H3 g1 g2
  have H := hide H4.out.unbox
  go_wp2_with fail
  refine (rtrap_any 6 _ H.out (by unfold InI; omega)).mono ?_
  rintro e WT ⟨rfl, ht⟩
  have HT := hide ht
  clear ht H
  unfold stV
  have hz := blk_frozen HT.out.blk
  have z0 := hz 0
  have z1 := hz 1
  have z2 := hz 2
  have hcl := blk_cell HT.out.blk
  have q0 := hcl 0
  have q1 := hcl 1
  have q2 := hcl 2
  clear hz hcl
  go_wp2
  have H9 := hide (HT.out.reblk (stc3_kept WT R (.int .i64 2) (.int .i64 0) (.int .i64 6)) (stc3_blk HT.out.blk _ _ _))
  unfold stc3 at H9
  have hcl := blk_cell H9.out.blk
  have e0 := hcl 0
  have e1 := hcl 1
  have e2 := hcl 2
  generalize ((WT.setCell ⟨R, 0, none⟩ (.int .i64 2)).setCell ⟨R, 1, none⟩ (.int .i64 0)).setCell ⟨R, 2, none⟩ (.int .i64 6) = W9 at *
  have H10 := hide H9.out.unbox
  refine bodyPost_ret (v := stV 2 0 6) (by simp [results, Tryz.results40, go_sem, stV, e0, e1, e2]) rfl ⟨rfl, ?_⟩
  exact H10.out

set_option maxHeartbeats 6400000 in
theorem rstep_alu (o : Nat) (ho0 : 22 ≤ o) (ho1 : o ≤ 62) (d n1 n2 : Nat) (im : Int) (w : World) (h : RH w0 w m mm me M l) (hk : M.kind = 0) (hp0 : M.pc % 4 = 0) (hm : mayB M.mem M.pc 4 1 = true) (hd : d < 32) (hn1 : n1 < 32) (hn2 : n2 < 32) (him : -2147483648 ≤ im ∧ im ≤ 2147483647)
    (hD : ∀ W, Calls Tryz.prog 60 #[.int .u32 (fetchV M.mem M.pc)] W fun e w' => e = .returned (.tuple #[inst (o : Int) d n1 n2 im, .bool true]) ∧ Below W.heap.size W w') :
    Calls Tryz.prog 40 #[.pointer (some ⟨m, 0, none⟩)] w fun e w' => e = .returned (stV (M.put d (aluF o (M.x n1) (if fmo o = 1 then u64 im else M.x n2))).kind (M.put d (aluF o (M.x n1) (if fmo o = 1 then u64 im else M.x n2))).code (M.put d (aluF o (M.x n1) (if fmo o = 1 then u64 im else M.x n2))).trap) ∧ RH w0 w' m mm me (M.put d (aluF o (M.x n1) (if fmo o = 1 then u64 im else M.x n2))) l := by
  have HK0 := hide hk
  have t1 : ((o : Int) == 1) = false := by simp; omega
  have t2 : ((o : Int) == 2) = false := by simp; omega
  have t3 : ((o : Int) == 3) = false := by simp; omega
  have t4 : ((o : Int) == 4) = false := by simp; omega
  have t63 : ((o : Int) == 63) = false := by simp; omega
  have t64 : ((o : Int) == 64) = false := by simp; omega
  have t65 : ((o : Int) == 65) = false := by simp; omega
  have u5 : decide ((5 : Int) ≤ (o : Int)) = true := by simp; omega
  have u10 : decide ((o : Int) ≤ (10 : Int)) = false := by simp; omega
  have u11 : decide ((11 : Int) ≤ (o : Int)) = true := by simp; omega
  have u17 : decide ((o : Int) ≤ (17 : Int)) = false := by simp; omega
  have u18 : decide ((18 : Int) ≤ (o : Int)) = true := by simp; omega
  have u21 : decide ((o : Int) ≤ (21 : Int)) = false := by simp; omega
  have HFm := hide (fun W => rform_any (o : Int) W)
  have HAl := hide (fun (x y : Int) (W : World) (x0 : 0 ≤ x) (x1 : x ≤ 18446744073709551615) (y0 : 0 ≤ y) (y1 : y ≤ 18446744073709551615) => ralu_any o x y W ho0 ho1 x0 x1 y0 y1)
  have hAb := fun (x y : Int) (x0 : 0 ≤ x) (x1 : x ≤ 18446744073709551615) (y0 : 0 ≤ y) (y1 : y ≤ 18446744073709551615) => aluF_bd o x y x0 x1 y0 y1
  have HAB := hide hAb
  clear hAb ho0 ho1
  by_cases hfm : fmo o = 1
  · rw [if_pos hfm]
    rw [hfm] at HFm
    clear hfm
    have r1b := h.fits.reg n1
    have r2b : 0 ≤ u64 im ∧ u64 im ≤ 18446744073709551615 := u64_bd im
    have hvb := HAB.out (M.x n1) (u64 im) r1b.1 r1b.2 r2b.1 r2b.2
    have HAl2 := hide (fun W => HAl.out (M.x n1) (u64 im) W r1b.1 r1b.2 r2b.1 r2b.2)
    obtain ⟨av, hav⟩ : ∃ av, aluF o (M.x n1) (u64 im) = av := ⟨_, rfl⟩
    rw [hav] at hvb HAl2 ⊢
    clear hav r1b r2b HAl HAB
    have hpc := h.fits.place
    have hml := h.lt
    obtain ⟨c4, c5, c6⟩ := h.st
    rw [hk] at c4
    have hp4 : ((M.pc : Int) % 4 != 0) = false := by simp; omega
    obtain ⟨F, hP⟩ := h.rm
    have HF := hide (fun W (hW : Below w.heap.size w W) => rfetch_any mm M.mem F M.pc W (hP.below hW) hpc)
    rw [hm] at HF
    have HD := hide hD
    have HM := hide h
    have hb1 := h.fits.reg n1
    have hb2 := h.fits.reg n2
    obtain ⟨a, ha⟩ : ∃ a, M.x n1 = a := ⟨_, rfl⟩
    obtain ⟨b, hb⟩ : ∃ b, M.x n2 = b := ⟨_, rfl⟩
    have HA := hide ha
    have HBv := hide hb
    rw [ha] at hb1
    rw [hb] at hb2
    have hi0 := him.1
    have hi1 := him.2
    have hn1' : (n1 : Int) < 32 := by omega
    have hn2' : (n2 : Int) < 32 := by omega
    obtain ⟨iv, hiv⟩ : ∃ iv, u64 im = iv := ⟨_, rfl⟩
    have hiw : IntKind.u64.wrap im = iv := by rw [wrap_u64, hiv]
    have hivb := u64_bd im
    rw [hiv] at hivb
    have HIV := hide hiv
    generalize fetchV M.mem M.pc = v at *
    obtain ⟨p, hp⟩ : ∃ p, M.pc = p := ⟨_, rfl⟩
    rw [hp] at HF hpc hp4
    have HPC := hide hp
    clear h hP hm hD hk ha hb hiv hp hp0
    unfold inst at HD
    go_enter Tryz.func40, Tryz.ntmps40
    go_upto_region 1 with fail
    have h1 := HM.out.newblk #[.int .i64 0, .int .i64 0, .int .i64 0] 56
    have hB1 := below_alloc w (.cells #[.int .i64 0, .int .i64 0, .int .i64 0] 56)
    obtain ⟨R, hR⟩ : ∃ R, R = w.heap.size := ⟨_, rfl⟩
    rw [← hR] at h1 ⊢
    generalize w.alloc (.cells #[.int .i64 0, .int .i64 0, .int .i64 0] 56) = V at *
    obtain ⟨c4, c5, c6⟩ := h1.st
    have d0 := h1.c0
    have d3 := h1.cpc
    rw [HPC.out] at d3
    rw [show M.kind = 0 by first | exact HK0.out] at c4
    have HV := hide h1
    have HFV := hide (fun W (hW : Below V.heap.size V W) => HF.out W (hB1.trans (hW.mono hB1.size)))
    clear hR h1 hB1 HF HM
    go_wp2_with fail
    go_quiet (first | (go_at_call 59; refine Calls.quiet_of_same (HFV.out _ ?_); exact bel_drewN' _ _))
    have hV2 := HV.out.below (bel_drewN' V nq)
    generalize V.drewN nq = V2 at *
    clear HFV HV d0 d3 c4 c5 c6
    go_wp2_with fail
    refine (HD.out _).mono ?_
    rintro e W2 ⟨rfl, hb2'⟩
    have H2 := hide (hV2.below hb2')
    clear hb2' hV2 HD
    go_upto_region 9 with fail
    have h3 := H2.out.newblk #[.int .i64 (o : Int), .int .i64 (d : Int), .int .i64 (n1 : Int), .int .i64 (n2 : Int), .int .i64 im] 28
    obtain ⟨Y, hY⟩ : ∃ Y, Y = W2.heap.size := ⟨_, rfl⟩
    rw [← hY] at h3 ⊢
    generalize W2.alloc (.cells #[.int .i64 (o : Int), .int .i64 (d : Int), .int .i64 (n1 : Int), .int .i64 (n2 : Int), .int .i64 im] 28) = W3 at *
    have d0 := h3.c0
    have d3 := h3.cpc
    rw [HPC.out] at d3
    have g1 := h3.reg n1 hn1
    rw [HA.out] at g1
    have g2 := h3.reg n2 hn2
    rw [HBv.out] at g2
    have hcl := blk_cell h3.blk
    have y0 := hcl 0
    have y1 := hcl 1
    have y2 := hcl 2
    have y3 := hcl 3
    have y4 := hcl 4
    have H3 := hide h3
    obtain ⟨nx, hnx⟩ : ∃ nx : Nat, nx = (u64 (p + 4)).toNat := ⟨_, rfl⟩
    have hnb := u64_bd (p + 4)
    have hnx' : IntKind.u64.wrap ((p : Int) + 4) = (nx : Int) := by rw [wrap_u64]; omega
    have hnm : nx ≤ 18446744073709551615 := by omega
    have HNX := hide hnx
    clear hcl h3 H2 hY hnx hnb
    go_upto_region 12 with fail
    go_quiet (fail)
    have h4 := H3.out.below (bel_drewN' W3 nq)
    generalize W3.drewN nq = W4 at *
    have d0 := h4.c0
    have d3 := h4.cpc
    rw [HPC.out] at d3
    have hcl := blk_cell h4.blk
    have y0 := hcl 0
    have y1 := hcl 1
    have y2 := hcl 2
    have y3 := hcl 3
    have y4 := hcl 4
    have H4 := hide h4
    clear hcl h4 H3 g1 g2
    go_wp2_with fail
    refine (HFm.out _).mono ?_
    rintro e W5 ⟨rfl, hW⟩
    rw [hW]
    clear hW W5
    go_upto_region 15 with fail
    rw [HA.out, HIV.out] at HAl2
    have HS := hide (rmset_any d av W4.drew (H4.out.below ((Below.refl _ _).drew)) hd hvb)
    go_region_held3 (fun w' => w'.cell? ⟨Y, 0, none⟩ = some (.int .i64 (o : Int)) ∧ w'.cell? ⟨Y, 1, none⟩ = some (.int .i64 (d : Int))) (go_keep)
      (first
        | (go_at_call 68; refine (HAl2.out _).mono ?_; rintro e W5 ⟨rfl, hW⟩; rw [hW]; clear hW W5)
        | (go_at_call 61; refine HS.out.mono ?_; rintro e W5 ⟨rfl, h5⟩; have hcl := blk_cell h5.blk; have j0 := hcl 0; have j1 := hcl 1; have H := hide h5.unbox; clear h5 hcl))
    clear H4 HS d0 d3 y0 y1 y2 y3 y4 HAl2 HFm
    have zp := H.out.frozen 34
    have cp := H.out.cpc
    go_upto_region 54 with fail
    have H6 := hide (H.out.setpc (p := nx) hnm)
    generalize W5.setCell ⟨m, 34, none⟩ (.int .u64 (nx : Int)) = W6 at *
    clear zp cp H
    obtain ⟨c4, c5, c6⟩ := H6.out.st
    have hz := blk_frozen H6.out.blk
    have z0 := hz 0
    have z1 := hz 1
    have z2 := hz 2
    have hcl := blk_cell H6.out.blk
    have q0 := hcl 0
    have q1 := hcl 1
    have q2 := hcl 2
    clear hz hcl
    go_wp2
    have H9 := hide (H6.out.reblk (stc3_kept W6 R (.int .i64 M.kind) (.int .i64 M.code) (.int .i64 M.trap)) (stc3_blk H6.out.blk _ _ _))
    unfold stc3 at H9
    have hcl := blk_cell H9.out.blk
    have e0 := hcl 0
    have e1 := hcl 1
    have e2 := hcl 2
    generalize ((W6.setCell ⟨R, 0, none⟩ (.int .i64 M.kind)).setCell ⟨R, 1, none⟩ (.int .i64 M.code)).setCell ⟨R, 2, none⟩ (.int .i64 M.trap) = W9 at *
    have H10 := hide H9.out.unbox
    refine bodyPost_ret (v := stV M.kind M.code M.trap) (by simp [results, Tryz.results40, go_sem, stV, e0, e1, e2]) rfl ⟨rfl, ?_⟩
    have h10 := H10.out
    unfold Mc.put
    rw [HPC.out, ← HNX.out]
    exact h10
  · rw [if_neg hfm]
    have hfm' : (fmo o == 1) = false := by simpa using hfm
    generalize fmo o = fm at *
    clear hfm
    have r1b := h.fits.reg n1
    have r2b : 0 ≤ M.x n2 ∧ M.x n2 ≤ 18446744073709551615 := h.fits.reg n2
    have hvb := HAB.out (M.x n1) (M.x n2) r1b.1 r1b.2 r2b.1 r2b.2
    have HAl2 := hide (fun W => HAl.out (M.x n1) (M.x n2) W r1b.1 r1b.2 r2b.1 r2b.2)
    obtain ⟨av, hav⟩ : ∃ av, aluF o (M.x n1) (M.x n2) = av := ⟨_, rfl⟩
    rw [hav] at hvb HAl2 ⊢
    clear hav r1b r2b HAl HAB
    have hpc := h.fits.place
    have hml := h.lt
    obtain ⟨c4, c5, c6⟩ := h.st
    rw [hk] at c4
    have hp4 : ((M.pc : Int) % 4 != 0) = false := by simp; omega
    obtain ⟨F, hP⟩ := h.rm
    have HF := hide (fun W (hW : Below w.heap.size w W) => rfetch_any mm M.mem F M.pc W (hP.below hW) hpc)
    rw [hm] at HF
    have HD := hide hD
    have HM := hide h
    have hb1 := h.fits.reg n1
    have hb2 := h.fits.reg n2
    obtain ⟨a, ha⟩ : ∃ a, M.x n1 = a := ⟨_, rfl⟩
    obtain ⟨b, hb⟩ : ∃ b, M.x n2 = b := ⟨_, rfl⟩
    have HA := hide ha
    have HBv := hide hb
    rw [ha] at hb1
    rw [hb] at hb2
    have hi0 := him.1
    have hi1 := him.2
    have hn1' : (n1 : Int) < 32 := by omega
    have hn2' : (n2 : Int) < 32 := by omega
    obtain ⟨iv, hiv⟩ : ∃ iv, u64 im = iv := ⟨_, rfl⟩
    have hiw : IntKind.u64.wrap im = iv := by rw [wrap_u64, hiv]
    have hivb := u64_bd im
    rw [hiv] at hivb
    have HIV := hide hiv
    generalize fetchV M.mem M.pc = v at *
    obtain ⟨p, hp⟩ : ∃ p, M.pc = p := ⟨_, rfl⟩
    rw [hp] at HF hpc hp4
    have HPC := hide hp
    clear h hP hm hD hk ha hb hiv hp hp0
    unfold inst at HD
    go_enter Tryz.func40, Tryz.ntmps40
    go_upto_region 1 with fail
    have h1 := HM.out.newblk #[.int .i64 0, .int .i64 0, .int .i64 0] 56
    have hB1 := below_alloc w (.cells #[.int .i64 0, .int .i64 0, .int .i64 0] 56)
    obtain ⟨R, hR⟩ : ∃ R, R = w.heap.size := ⟨_, rfl⟩
    rw [← hR] at h1 ⊢
    generalize w.alloc (.cells #[.int .i64 0, .int .i64 0, .int .i64 0] 56) = V at *
    obtain ⟨c4, c5, c6⟩ := h1.st
    have d0 := h1.c0
    have d3 := h1.cpc
    rw [HPC.out] at d3
    rw [show M.kind = 0 by first | exact HK0.out] at c4
    have HV := hide h1
    have HFV := hide (fun W (hW : Below V.heap.size V W) => HF.out W (hB1.trans (hW.mono hB1.size)))
    clear hR h1 hB1 HF HM
    go_wp2_with fail
    go_quiet (first | (go_at_call 59; refine Calls.quiet_of_same (HFV.out _ ?_); exact bel_drewN' _ _))
    have hV2 := HV.out.below (bel_drewN' V nq)
    generalize V.drewN nq = V2 at *
    clear HFV HV d0 d3 c4 c5 c6
    go_wp2_with fail
    refine (HD.out _).mono ?_
    rintro e W2 ⟨rfl, hb2'⟩
    have H2 := hide (hV2.below hb2')
    clear hb2' hV2 HD
    go_upto_region 9 with fail
    have h3 := H2.out.newblk #[.int .i64 (o : Int), .int .i64 (d : Int), .int .i64 (n1 : Int), .int .i64 (n2 : Int), .int .i64 im] 28
    obtain ⟨Y, hY⟩ : ∃ Y, Y = W2.heap.size := ⟨_, rfl⟩
    rw [← hY] at h3 ⊢
    generalize W2.alloc (.cells #[.int .i64 (o : Int), .int .i64 (d : Int), .int .i64 (n1 : Int), .int .i64 (n2 : Int), .int .i64 im] 28) = W3 at *
    have d0 := h3.c0
    have d3 := h3.cpc
    rw [HPC.out] at d3
    have g1 := h3.reg n1 hn1
    rw [HA.out] at g1
    have g2 := h3.reg n2 hn2
    rw [HBv.out] at g2
    have hcl := blk_cell h3.blk
    have y0 := hcl 0
    have y1 := hcl 1
    have y2 := hcl 2
    have y3 := hcl 3
    have y4 := hcl 4
    have H3 := hide h3
    obtain ⟨nx, hnx⟩ : ∃ nx : Nat, nx = (u64 (p + 4)).toNat := ⟨_, rfl⟩
    have hnb := u64_bd (p + 4)
    have hnx' : IntKind.u64.wrap ((p : Int) + 4) = (nx : Int) := by rw [wrap_u64]; omega
    have hnm : nx ≤ 18446744073709551615 := by omega
    have HNX := hide hnx
    clear hcl h3 H2 hY hnx hnb
    go_upto_region 12 with fail
    go_quiet (fail)
    have h4 := H3.out.below (bel_drewN' W3 nq)
    generalize W3.drewN nq = W4 at *
    have d0 := h4.c0
    have d3 := h4.cpc
    rw [HPC.out] at d3
    have hcl := blk_cell h4.blk
    have y0 := hcl 0
    have y1 := hcl 1
    have y2 := hcl 2
    have y3 := hcl 3
    have y4 := hcl 4
    have H4 := hide h4
    clear hcl h4 H3 g1 g2
    go_wp2_with fail
    refine (HFm.out _).mono ?_
    rintro e W5 ⟨rfl, hW⟩
    rw [hW]
    clear hW W5
    go_upto_region 15 with fail
    rw [HA.out, HBv.out] at HAl2
    have HS := hide (rmset_any d av W4.drew (H4.out.below ((Below.refl _ _).drew)) hd hvb)
    go_region_held3 (fun w' => w'.cell? ⟨Y, 0, none⟩ = some (.int .i64 (o : Int)) ∧ w'.cell? ⟨Y, 1, none⟩ = some (.int .i64 (d : Int))) (go_keep)
      (first
        | (go_at_call 68; refine (HAl2.out _).mono ?_; rintro e W5 ⟨rfl, hW⟩; rw [hW]; clear hW W5)
        | (go_at_call 61; refine HS.out.mono ?_; rintro e W5 ⟨rfl, h5⟩; have hcl := blk_cell h5.blk; have j0 := hcl 0; have j1 := hcl 1; have H := hide h5.unbox; clear h5 hcl))
    clear H4 HS d0 d3 y0 y1 y2 y3 y4 HAl2 HFm
    have zp := H.out.frozen 34
    have cp := H.out.cpc
    go_upto_region 54 with fail
    have H6 := hide (H.out.setpc (p := nx) hnm)
    generalize W5.setCell ⟨m, 34, none⟩ (.int .u64 (nx : Int)) = W6 at *
    clear zp cp H
    obtain ⟨c4, c5, c6⟩ := H6.out.st
    have hz := blk_frozen H6.out.blk
    have z0 := hz 0
    have z1 := hz 1
    have z2 := hz 2
    have hcl := blk_cell H6.out.blk
    have q0 := hcl 0
    have q1 := hcl 1
    have q2 := hcl 2
    clear hz hcl
    go_wp2
    have H9 := hide (H6.out.reblk (stc3_kept W6 R (.int .i64 M.kind) (.int .i64 M.code) (.int .i64 M.trap)) (stc3_blk H6.out.blk _ _ _))
    unfold stc3 at H9
    have hcl := blk_cell H9.out.blk
    have e0 := hcl 0
    have e1 := hcl 1
    have e2 := hcl 2
    generalize ((W6.setCell ⟨R, 0, none⟩ (.int .i64 M.kind)).setCell ⟨R, 1, none⟩ (.int .i64 M.code)).setCell ⟨R, 2, none⟩ (.int .i64 M.trap) = W9 at *
    have H10 := hide H9.out.unbox
    refine bodyPost_ret (v := stV M.kind M.code M.trap) (by simp [results, Tryz.results40, go_sem, stV, e0, e1, e2]) rfl ⟨rfl, ?_⟩
    have h10 := H10.out
    unfold Mc.put
    rw [HPC.out, ← HNX.out]
    exact h10

end

end Go.Proofs.YtgjfelkbblbjfaaGreatDoor
