/- The contract of the document's Step, at some operations. -/
import Derived.Test.YtgjfelkbblbjfaaGreatDoorJ33
import Derived.Deep.QuietTactic
import Derived.BigQuiet
import Derived.Deep.RegionHeld3
import Derived.Deep.RegionWith
namespace Go.Proofs.YtgjfelkbblbjfaaGreatDoor
open Go.RowKit Go.Maps
set_option linter.unusedVariables false
set_option maxRecDepth 100000

section
variable {w0 w w' : World} {m mm me : Nat} {M : Mc} {l : List (World → (Nat → Prop) → Prop)}

set_option maxHeartbeats 6400000 in
theorem rstep_1 (d n1 n2 : Nat) (im : Int) (w : World) (h : RH w0 w m mm me M l) (hk : M.kind = 0) (hp0 : M.pc % 4 = 0) (hm : mayB M.mem M.pc 4 1 = true) (hd : d < 32) (hn1 : n1 < 32) (hn2 : n2 < 32) (him : -2147483648 ≤ im ∧ im ≤ 2147483647)
    (hD : ∀ W, Calls Tryz.prog 60 #[.int .u32 (fetchV M.mem M.pc)] W fun e w' => e = .returned (.tuple #[inst 1 d n1 n2 im, .bool true]) ∧ Below W.heap.size W w') :
    Calls Tryz.prog 40 #[.pointer (some ⟨m, 0, none⟩)] w fun e w' => e = .returned (stV (M.put d (u64 (im * 4096))).kind (M.put d (u64 (im * 4096))).code (M.put d (u64 (im * 4096))).trap) ∧ RH w0 w' m mm me (M.put d (u64 (im * 4096))) l := by
  have HK0 := hide hk
  have hvb := u64_bd (im * 4096)
  have hve : IntKind.u64.wrap (u64 im * 4096) = u64 (im * 4096) := by rw [wrap_u64]; unfold u64; omega
  obtain ⟨vv, hvv⟩ : ∃ vv, u64 (im * 4096) = vv := ⟨_, rfl⟩
  rw [hvv] at hvb hve ⊢
  have HVE := hide hve
  clear hve hvv
  have hpc := h.fits.place
  have hml := h.lt
  obtain ⟨c4, c5, c6⟩ := h.st
  rw [hk] at c4
  have hp4 : ((M.pc : Int) % 4 != 0) = false := by simp; omega
  obtain ⟨F, hP⟩ := h.rm
  have HF := hide (fun W (hW : Below w.heap.size w W) => rfetch_any mm M.mem F M.pc W (hP.below hW) hpc)
  rw [hm] at HF
  have HD := hide hD
  have HM := hide h
  have hb1 := h.fits.reg n1
  have hb2 := h.fits.reg n2
  obtain ⟨a, ha⟩ : ∃ a, M.x n1 = a := ⟨_, rfl⟩
  obtain ⟨b, hb⟩ : ∃ b, M.x n2 = b := ⟨_, rfl⟩
  have HA := hide ha
  have HBv := hide hb
  rw [ha] at hb1
  rw [hb] at hb2
  have hi0 := him.1
  have hi1 := him.2
  have hn1' : (n1 : Int) < 32 := by omega
  have hn2' : (n2 : Int) < 32 := by omega
  obtain ⟨iv, hiv⟩ : ∃ iv, u64 im = iv := ⟨_, rfl⟩
  have hiw : IntKind.u64.wrap im = iv := by rw [wrap_u64, hiv]
  have hivb := u64_bd im
  rw [hiv] at hivb
  have HIV := hide hiv
  generalize fetchV M.mem M.pc = v at *
  obtain ⟨p, hp⟩ : ∃ p, M.pc = p := ⟨_, rfl⟩
  rw [hp] at HF hpc hp4
  have HPC := hide hp
  clear h hP hm hD hk ha hb hiv hp hp0
  unfold inst at HD
  go_enter Tryz.func40, Tryz.ntmps40
  go_upto_region 1 with fail
  have h1 := HM.out.newblk #[.int .i64 0, .int .i64 0, .int .i64 0] 56
  have hB1 := below_alloc w (.cells #[.int .i64 0, .int .i64 0, .int .i64 0] 56)
  obtain ⟨R, hR⟩ : ∃ R, R = w.heap.size := ⟨_, rfl⟩
  rw [← hR] at h1 ⊢
  generalize w.alloc (.cells #[.int .i64 0, .int .i64 0, .int .i64 0] 56) = V at *
  obtain ⟨c4, c5, c6⟩ := h1.st
  have d0 := h1.c0
  have d3 := h1.cpc
  rw [HPC.out] at d3
  rw [show M.kind = 0 by first | exact HK0.out] at c4
  have HV := hide h1
  have HFV := hide (fun W (hW : Below V.heap.size V W) => HF.out W (hB1.trans (hW.mono hB1.size)))
  clear hR h1 hB1 HF HM
  go_wp2_with fail
  go_quiet (first | (go_at_call 59; refine Calls.quiet_of_same (HFV.out _ ?_); exact bel_drewN' _ _))
  have hV2 := HV.out.below (bel_drewN' V nq)
  generalize V.drewN nq = V2 at *
  clear HFV HV d0 d3 c4 c5 c6
  go_wp2_with fail
  refine (HD.out _).mono ?_
  rintro e W2 ⟨rfl, hb2'⟩
  have H2 := hide (hV2.below hb2')
  clear hb2' hV2 HD
  go_upto_region 9 with fail
  have h3 := H2.out.newblk #[.int .i64 1, .int .i64 (d : Int), .int .i64 (n1 : Int), .int .i64 (n2 : Int), .int .i64 im] 28
  obtain ⟨Y, hY⟩ : ∃ Y, Y = W2.heap.size := ⟨_, rfl⟩
  rw [← hY] at h3 ⊢
  generalize W2.alloc (.cells #[.int .i64 1, .int .i64 (d : Int), .int .i64 (n1 : Int), .int .i64 (n2 : Int), .int .i64 im] 28) = W3 at *
  have d0 := h3.c0
  have d3 := h3.cpc
  rw [HPC.out] at d3
  have g1 := h3.reg n1 hn1
  rw [HA.out] at g1
  have g2 := h3.reg n2 hn2
  rw [HBv.out] at g2
  have hcl := blk_cell h3.blk
  have y0 := hcl 0
  have y1 := hcl 1
  have y2 := hcl 2
  have y3 := hcl 3
  have y4 := hcl 4
  have H3 := hide h3
  obtain ⟨nx, hnx⟩ : ∃ nx : Nat, nx = (u64 (p + 4)).toNat := ⟨_, rfl⟩
  have hnb := u64_bd (p + 4)
  have hnx' : IntKind.u64.wrap ((p : Int) + 4) = (nx : Int) := by rw [wrap_u64]; omega
  have hnm : nx ≤ 18446744073709551615 := by omega
  have HNX := hide hnx
  clear hcl h3 H2 hY hnx hnb
  go_upto_region 12 with fail
  go_quiet (fail)
  have h4 := H3.out.below (bel_drewN' W3 nq)
  generalize W3.drewN nq = W4 at *
  have d0 := h4.c0
  have d3 := h4.cpc
  rw [HPC.out] at d3
  have hcl := blk_cell h4.blk
  have y0 := hcl 0
  have y1 := hcl 1
  have y2 := hcl 2
  have y3 := hcl 3
  have y4 := hcl 4
  have H4 := hide h4
  clear hcl h4 H3 g1 g2
  have hve := HVE.out
  rw [HIV.out] at hve
  go_wp2_with fail
  refine (rmset_any d vv _ H4.out hd hvb).mono ?_
  rintro e W5 ⟨rfl, h5⟩
  have H := hide h5.unbox
  clear h5 H4 d0 d3 y0 y1 y2 y3 y4
  have zp := H.out.frozen 34
  have cp := H.out.cpc
  go_upto_region 54 with fail
  have H6 := hide (H.out.setpc (p := nx) hnm)
  generalize W5.setCell ⟨m, 34, none⟩ (.int .u64 (nx : Int)) = W6 at *
  clear zp cp H
  obtain ⟨c4, c5, c6⟩ := H6.out.st
  have hz := blk_frozen H6.out.blk
  have z0 := hz 0
  have z1 := hz 1
  have z2 := hz 2
  have hcl := blk_cell H6.out.blk
  have q0 := hcl 0
  have q1 := hcl 1
  have q2 := hcl 2
  clear hz hcl
  go_wp2
  have H9 := hide (H6.out.reblk (stc3_kept W6 R (.int .i64 M.kind) (.int .i64 M.code) (.int .i64 M.trap)) (stc3_blk H6.out.blk _ _ _))
  unfold stc3 at H9
  have hcl := blk_cell H9.out.blk
  have e0 := hcl 0
  have e1 := hcl 1
  have e2 := hcl 2
  generalize ((W6.setCell ⟨R, 0, none⟩ (.int .i64 M.kind)).setCell ⟨R, 1, none⟩ (.int .i64 M.code)).setCell ⟨R, 2, none⟩ (.int .i64 M.trap) = W9 at *
  have H10 := hide H9.out.unbox
  refine bodyPost_ret (v := stV M.kind M.code M.trap) (by simp [results, Tryz.results40, go_sem, stV, e0, e1, e2]) rfl ⟨rfl, ?_⟩
  have h10 := H10.out
  unfold Mc.put
  rw [HPC.out, ← HNX.out]
  exact h10

set_option maxHeartbeats 6400000 in
theorem rstep_2 (d n1 n2 : Nat) (im : Int) (w : World) (h : RH w0 w m mm me M l) (hk : M.kind = 0) (hp0 : M.pc % 4 = 0) (hm : mayB M.mem M.pc 4 1 = true) (hd : d < 32) (hn1 : n1 < 32) (hn2 : n2 < 32) (him : -2147483648 ≤ im ∧ im ≤ 2147483647)
    (hD : ∀ W, Calls Tryz.prog 60 #[.int .u32 (fetchV M.mem M.pc)] W fun e w' => e = .returned (.tuple #[inst 2 d n1 n2 im, .bool true]) ∧ Below W.heap.size W w') :
    Calls Tryz.prog 40 #[.pointer (some ⟨m, 0, none⟩)] w fun e w' => e = .returned (stV (M.put d (u64 (M.pc + im * 4096))).kind (M.put d (u64 (M.pc + im * 4096))).code (M.put d (u64 (M.pc + im * 4096))).trap) ∧ RH w0 w' m mm me (M.put d (u64 (M.pc + im * 4096))) l := by
  have HK0 := hide hk
  have hvb := u64_bd (M.pc + im * 4096)
  have hve : IntKind.u64.wrap ((M.pc : Int) + IntKind.u64.wrap (u64 im * 4096)) = u64 (M.pc + im * 4096) := by rw [wrap_u64, wrap_u64]; unfold u64; omega
  have hvf := u64_bd (u64 im * 4096)
  rw [← wrap_u64] at hvf
  obtain ⟨vv, hvv⟩ : ∃ vv, u64 (M.pc + im * 4096) = vv := ⟨_, rfl⟩
  rw [hvv] at hvb hve ⊢
  obtain ⟨sh, hsh⟩ : ∃ sh, IntKind.u64.wrap (u64 im * 4096) = sh := ⟨_, rfl⟩
  rw [hsh] at hve hvf
  have HSH := hide hsh
  have HVE := hide hve
  clear hve hvv hsh
  have hpc := h.fits.place
  have hml := h.lt
  obtain ⟨c4, c5, c6⟩ := h.st
  rw [hk] at c4
  have hp4 : ((M.pc : Int) % 4 != 0) = false := by simp; omega
  obtain ⟨F, hP⟩ := h.rm
  have HF := hide (fun W (hW : Below w.heap.size w W) => rfetch_any mm M.mem F M.pc W (hP.below hW) hpc)
  rw [hm] at HF
  have HD := hide hD
  have HM := hide h
  have hb1 := h.fits.reg n1
  have hb2 := h.fits.reg n2
  obtain ⟨a, ha⟩ : ∃ a, M.x n1 = a := ⟨_, rfl⟩
  obtain ⟨b, hb⟩ : ∃ b, M.x n2 = b := ⟨_, rfl⟩
  have HA := hide ha
  have HBv := hide hb
  rw [ha] at hb1
  rw [hb] at hb2
  have hi0 := him.1
  have hi1 := him.2
  have hn1' : (n1 : Int) < 32 := by omega
  have hn2' : (n2 : Int) < 32 := by omega
  obtain ⟨iv, hiv⟩ : ∃ iv, u64 im = iv := ⟨_, rfl⟩
  have hiw : IntKind.u64.wrap im = iv := by rw [wrap_u64, hiv]
  have hivb := u64_bd im
  rw [hiv] at hivb
  have HIV := hide hiv
  generalize fetchV M.mem M.pc = v at *
  obtain ⟨p, hp⟩ : ∃ p, M.pc = p := ⟨_, rfl⟩
  rw [hp] at HF hpc hp4
  have HPC := hide hp
  clear h hP hm hD hk ha hb hiv hp hp0
  unfold inst at HD
  go_enter Tryz.func40, Tryz.ntmps40
  go_upto_region 1 with fail
  have h1 := HM.out.newblk #[.int .i64 0, .int .i64 0, .int .i64 0] 56
  have hB1 := below_alloc w (.cells #[.int .i64 0, .int .i64 0, .int .i64 0] 56)
  obtain ⟨R, hR⟩ : ∃ R, R = w.heap.size := ⟨_, rfl⟩
  rw [← hR] at h1 ⊢
  generalize w.alloc (.cells #[.int .i64 0, .int .i64 0, .int .i64 0] 56) = V at *
  obtain ⟨c4, c5, c6⟩ := h1.st
  have d0 := h1.c0
  have d3 := h1.cpc
  rw [HPC.out] at d3
  rw [show M.kind = 0 by first | exact HK0.out] at c4
  have HV := hide h1
  have HFV := hide (fun W (hW : Below V.heap.size V W) => HF.out W (hB1.trans (hW.mono hB1.size)))
  clear hR h1 hB1 HF HM
  go_wp2_with fail
  go_quiet (first | (go_at_call 59; refine Calls.quiet_of_same (HFV.out _ ?_); exact bel_drewN' _ _))
  have hV2 := HV.out.below (bel_drewN' V nq)
  generalize V.drewN nq = V2 at *
  clear HFV HV d0 d3 c4 c5 c6
  go_wp2_with fail
  refine (HD.out _).mono ?_
  rintro e W2 ⟨rfl, hb2'⟩
  have H2 := hide (hV2.below hb2')
  clear hb2' hV2 HD
  go_upto_region 9 with fail
  have h3 := H2.out.newblk #[.int .i64 2, .int .i64 (d : Int), .int .i64 (n1 : Int), .int .i64 (n2 : Int), .int .i64 im] 28
  obtain ⟨Y, hY⟩ : ∃ Y, Y = W2.heap.size := ⟨_, rfl⟩
  rw [← hY] at h3 ⊢
  generalize W2.alloc (.cells #[.int .i64 2, .int .i64 (d : Int), .int .i64 (n1 : Int), .int .i64 (n2 : Int), .int .i64 im] 28) = W3 at *
  have d0 := h3.c0
  have d3 := h3.cpc
  rw [HPC.out] at d3
  have g1 := h3.reg n1 hn1
  rw [HA.out] at g1
  have g2 := h3.reg n2 hn2
  rw [HBv.out] at g2
  have hcl := blk_cell h3.blk
  have y0 := hcl 0
  have y1 := hcl 1
  have y2 := hcl 2
  have y3 := hcl 3
  have y4 := hcl 4
  have H3 := hide h3
  obtain ⟨nx, hnx⟩ : ∃ nx : Nat, nx = (u64 (p + 4)).toNat := ⟨_, rfl⟩
  have hnb := u64_bd (p + 4)
  have hnx' : IntKind.u64.wrap ((p : Int) + 4) = (nx : Int) := by rw [wrap_u64]; omega
  have hnm : nx ≤ 18446744073709551615 := by omega
  have HNX := hide hnx
  clear hcl h3 H2 hY hnx hnb
  go_upto_region 12 with fail
  go_quiet (fail)
  have h4 := H3.out.below (bel_drewN' W3 nq)
  generalize W3.drewN nq = W4 at *
  have d0 := h4.c0
  have d3 := h4.cpc
  rw [HPC.out] at d3
  have hcl := blk_cell h4.blk
  have y0 := hcl 0
  have y1 := hcl 1
  have y2 := hcl 2
  have y3 := hcl 3
  have y4 := hcl 4
  have H4 := hide h4
  clear hcl h4 H3 g1 g2
  have hsh := HSH.out
  rw [HIV.out] at hsh
  have hve := HVE.out
  rw [HPC.out] at hve
  go_upto_region 19 with fail
  have HS := hide (rmset_any d vv W4.drew (H4.out.below ((Below.refl _ _).drew)) hd hvb)
  go_region_with (first
    | (go_at_call 61; refine HS.out.mono ?_; rintro e W5 ⟨rfl, h5⟩; have H := hide h5.unbox; clear h5))
  all_goals clear H4 HS d0 d3 y0 y1 y2 y3 y4
  all_goals
    have zp := H.out.frozen 34
    have cp := H.out.cpc
    go_upto_region 54 with fail
    have H6 := hide (H.out.setpc (p := nx) hnm)
    generalize W5.setCell ⟨m, 34, none⟩ (.int .u64 (nx : Int)) = W6 at *
    clear zp cp H
    obtain ⟨c4, c5, c6⟩ := H6.out.st
    have hz := blk_frozen H6.out.blk
    have z0 := hz 0
    have z1 := hz 1
    have z2 := hz 2
    have hcl := blk_cell H6.out.blk
    have q0 := hcl 0
    have q1 := hcl 1
    have q2 := hcl 2
    clear hz hcl
    go_wp2
    have H9 := hide (H6.out.reblk (stc3_kept W6 R (.int .i64 M.kind) (.int .i64 M.code) (.int .i64 M.trap)) (stc3_blk H6.out.blk _ _ _))
    unfold stc3 at H9
    have hcl := blk_cell H9.out.blk
    have e0 := hcl 0
    have e1 := hcl 1
    have e2 := hcl 2
    generalize ((W6.setCell ⟨R, 0, none⟩ (.int .i64 M.kind)).setCell ⟨R, 1, none⟩ (.int .i64 M.code)).setCell ⟨R, 2, none⟩ (.int .i64 M.trap) = W9 at *
    have H10 := hide H9.out.unbox
    refine bodyPost_ret (v := stV M.kind M.code M.trap) (by simp [results, Tryz.results40, go_sem, stV, e0, e1, e2]) rfl ⟨rfl, ?_⟩
    have h10 := H10.out
    unfold Mc.put
    rw [HPC.out, ← HNX.out]
    exact h10

set_option maxHeartbeats 6400000 in
theorem rstep_3 (d n1 n2 : Nat) (im : Int) (w : World) (h : RH w0 w m mm me M l) (hk : M.kind = 0) (hp0 : M.pc % 4 = 0) (hm : mayB M.mem M.pc 4 1 = true) (hd : d < 32) (hn1 : n1 < 32) (hn2 : n2 < 32) (him : -2147483648 ≤ im ∧ im ≤ 2147483647)
    (hD : ∀ W, Calls Tryz.prog 60 #[.int .u32 (fetchV M.mem M.pc)] W fun e w' => e = .returned (.tuple #[inst 3 d n1 n2 im, .bool true]) ∧ Below W.heap.size W w') :
    Calls Tryz.prog 40 #[.pointer (some ⟨m, 0, none⟩)] w fun e w' => e = .returned (stV (M.jump d (u64 (M.pc + im))).kind (M.jump d (u64 (M.pc + im))).code (M.jump d (u64 (M.pc + im))).trap) ∧ RH w0 w' m mm me (M.jump d (u64 (M.pc + im))) l := by
  have HK0 := hide hk
  have hub := u64_bd (M.pc + im)
  have hue : IntKind.u64.wrap ((M.pc : Int) + u64 im) = u64 (M.pc + im) := by rw [wrap_u64]; unfold u64; omega
  obtain ⟨q, hq⟩ := Int.eq_ofNat_of_zero_le hub.1
  rw [hq] at hub hue ⊢
  have hqm : q ≤ 18446744073709551615 := by omega
  have HUE := hide hue
  clear hue hub hq
  have jc : (q % 4 = 0 ∧ M.jump d (q : Int) = { M with x := xset M.x d (u64 (M.pc + 4)), pc := q }) ∨ (q % 4 ≠ 0 ∧ M.jump d (q : Int) = M.trapped 5) := by
    unfold Mc.jump
    by_cases h4 : q % 4 = 0
    · exact Or.inl ⟨h4, by rw [if_pos (by omega), Int.toNat_natCast]⟩
    · exact Or.inr ⟨h4, by rw [if_neg (by omega)]⟩
  rcases jc with ⟨j4, je⟩ | ⟨j4, je⟩
  · rw [je]
    have t4 : ((q : Int) % 4 != 0) = false := by simp; omega
    have HJ4 := hide j4
    clear j4 je
    have hpc := h.fits.place
    have hml := h.lt
    obtain ⟨c4, c5, c6⟩ := h.st
    rw [hk] at c4
    have hp4 : ((M.pc : Int) % 4 != 0) = false := by simp; omega
    obtain ⟨F, hP⟩ := h.rm
    have HF := hide (fun W (hW : Below w.heap.size w W) => rfetch_any mm M.mem F M.pc W (hP.below hW) hpc)
    rw [hm] at HF
    have HD := hide hD
    have HM := hide h
    have hb1 := h.fits.reg n1
    have hb2 := h.fits.reg n2
    obtain ⟨a, ha⟩ : ∃ a, M.x n1 = a := ⟨_, rfl⟩
    obtain ⟨b, hb⟩ : ∃ b, M.x n2 = b := ⟨_, rfl⟩
    have HA := hide ha
    have HBv := hide hb
    rw [ha] at hb1
    rw [hb] at hb2
    have hi0 := him.1
    have hi1 := him.2
    have hn1' : (n1 : Int) < 32 := by omega
    have hn2' : (n2 : Int) < 32 := by omega
    obtain ⟨iv, hiv⟩ : ∃ iv, u64 im = iv := ⟨_, rfl⟩
    have hiw : IntKind.u64.wrap im = iv := by rw [wrap_u64, hiv]
    have hivb := u64_bd im
    rw [hiv] at hivb
    have HIV := hide hiv
    generalize fetchV M.mem M.pc = v at *
    obtain ⟨p, hp⟩ : ∃ p, M.pc = p := ⟨_, rfl⟩
    rw [hp] at HF hpc hp4
    have HPC := hide hp
    clear h hP hm hD hk ha hb hiv hp hp0
    unfold inst at HD
    go_enter Tryz.func40, Tryz.ntmps40
    go_upto_region 1 with fail
    have h1 := HM.out.newblk #[.int .i64 0, .int .i64 0, .int .i64 0] 56
    have hB1 := below_alloc w (.cells #[.int .i64 0, .int .i64 0, .int .i64 0] 56)
    obtain ⟨R, hR⟩ : ∃ R, R = w.heap.size := ⟨_, rfl⟩
    rw [← hR] at h1 ⊢
    generalize w.alloc (.cells #[.int .i64 0, .int .i64 0, .int .i64 0] 56) = V at *
    obtain ⟨c4, c5, c6⟩ := h1.st
    have d0 := h1.c0
    have d3 := h1.cpc
    rw [HPC.out] at d3
    rw [show M.kind = 0 by first | exact HK0.out] at c4
    have HV := hide h1
    have HFV := hide (fun W (hW : Below V.heap.size V W) => HF.out W (hB1.trans (hW.mono hB1.size)))
    clear hR h1 hB1 HF HM
    go_wp2_with fail
    go_quiet (first | (go_at_call 59; refine Calls.quiet_of_same (HFV.out _ ?_); exact bel_drewN' _ _))
    have hV2 := HV.out.below (bel_drewN' V nq)
    generalize V.drewN nq = V2 at *
    clear HFV HV d0 d3 c4 c5 c6
    go_wp2_with fail
    refine (HD.out _).mono ?_
    rintro e W2 ⟨rfl, hb2'⟩
    have H2 := hide (hV2.below hb2')
    clear hb2' hV2 HD
    go_upto_region 9 with fail
    have h3 := H2.out.newblk #[.int .i64 3, .int .i64 (d : Int), .int .i64 (n1 : Int), .int .i64 (n2 : Int), .int .i64 im] 28
    obtain ⟨Y, hY⟩ : ∃ Y, Y = W2.heap.size := ⟨_, rfl⟩
    rw [← hY] at h3 ⊢
    generalize W2.alloc (.cells #[.int .i64 3, .int .i64 (d : Int), .int .i64 (n1 : Int), .int .i64 (n2 : Int), .int .i64 im] 28) = W3 at *
    have d0 := h3.c0
    have d3 := h3.cpc
    rw [HPC.out] at d3
    have g1 := h3.reg n1 hn1
    rw [HA.out] at g1
    have g2 := h3.reg n2 hn2
    rw [HBv.out] at g2
    have hcl := blk_cell h3.blk
    have y0 := hcl 0
    have y1 := hcl 1
    have y2 := hcl 2
    have y3 := hcl 3
    have y4 := hcl 4
    have H3 := hide h3
    obtain ⟨nx, hnx⟩ : ∃ nx : Nat, nx = (u64 (p + 4)).toNat := ⟨_, rfl⟩
    have hnb := u64_bd (p + 4)
    have hnx' : IntKind.u64.wrap ((p : Int) + 4) = (nx : Int) := by rw [wrap_u64]; omega
    have hnm : nx ≤ 18446744073709551615 := by omega
    have HNX := hide hnx
    clear hcl h3 H2 hY hnx hnb
    go_upto_region 12 with fail
    go_quiet (fail)
    have h4 := H3.out.below (bel_drewN' W3 nq)
    generalize W3.drewN nq = W4 at *
    have d0 := h4.c0
    have d3 := h4.cpc
    rw [HPC.out] at d3
    have hcl := blk_cell h4.blk
    have y0 := hcl 0
    have y1 := hcl 1
    have y2 := hcl 2
    have y3 := hcl 3
    have y4 := hcl 4
    have H4 := hide h4
    clear hcl h4 H3 g1 g2
    have hue := HUE.out
    rw [HPC.out, HIV.out] at hue
    go_wp2_with fail
    have hxb : 0 ≤ (nx : Int) ∧ (nx : Int) ≤ 18446744073709551615 := by omega
    refine (rmset_any d (nx : Int) _ H4.out hd hxb).mono ?_
    rintro e W5 ⟨rfl, h5⟩
    have H := hide h5.unbox
    clear h5 H4 d0 d3 y0 y1 y2 y3 y4
    have zp := H.out.frozen 34
    have cp := H.out.cpc
    go_upto_region 54 with fail
    have H6 := hide (H.out.setpc (p := q) hqm)
    generalize W5.setCell ⟨m, 34, none⟩ (.int .u64 (q : Int)) = W6 at *
    clear zp cp H
    obtain ⟨c4, c5, c6⟩ := H6.out.st
    have hz := blk_frozen H6.out.blk
    have z0 := hz 0
    have z1 := hz 1
    have z2 := hz 2
    have hcl := blk_cell H6.out.blk
    have q0 := hcl 0
    have q1 := hcl 1
    have q2 := hcl 2
    clear hz hcl
    go_wp2
    have H9 := hide (H6.out.reblk (stc3_kept W6 R (.int .i64 M.kind) (.int .i64 M.code) (.int .i64 M.trap)) (stc3_blk H6.out.blk _ _ _))
    unfold stc3 at H9
    have hcl := blk_cell H9.out.blk
    have e0 := hcl 0
    have e1 := hcl 1
    have e2 := hcl 2
    generalize ((W6.setCell ⟨R, 0, none⟩ (.int .i64 M.kind)).setCell ⟨R, 1, none⟩ (.int .i64 M.code)).setCell ⟨R, 2, none⟩ (.int .i64 M.trap) = W9 at *
    have H10 := hide H9.out.unbox
    refine bodyPost_ret (v := stV M.kind M.code M.trap) (by simp [results, Tryz.results40, go_sem, stV, e0, e1, e2]) rfl ⟨rfl, ?_⟩
    have h10 := H10.out
    rw [HPC.out, show u64 (p + 4) = (nx : Int) by have := HNX.out; have := u64_bd (p + 4); omega]
    exact h10
  · rw [je]
    have t4 : ((q : Int) % 4 != 0) = true := by simp; omega
    have HJ4 := hide j4
    clear j4 je
    have hpc := h.fits.place
    have hml := h.lt
    obtain ⟨c4, c5, c6⟩ := h.st
    rw [hk] at c4
    have hp4 : ((M.pc : Int) % 4 != 0) = false := by simp; omega
    obtain ⟨F, hP⟩ := h.rm
    have HF := hide (fun W (hW : Below w.heap.size w W) => rfetch_any mm M.mem F M.pc W (hP.below hW) hpc)
    rw [hm] at HF
    have HD := hide hD
    have HM := hide h
    have hb1 := h.fits.reg n1
    have hb2 := h.fits.reg n2
    obtain ⟨a, ha⟩ : ∃ a, M.x n1 = a := ⟨_, rfl⟩
    obtain ⟨b, hb⟩ : ∃ b, M.x n2 = b := ⟨_, rfl⟩
    have HA := hide ha
    have HBv := hide hb
    rw [ha] at hb1
    rw [hb] at hb2
    have hi0 := him.1
    have hi1 := him.2
    have hn1' : (n1 : Int) < 32 := by omega
    have hn2' : (n2 : Int) < 32 := by omega
    obtain ⟨iv, hiv⟩ : ∃ iv, u64 im = iv := ⟨_, rfl⟩
    have hiw : IntKind.u64.wrap im = iv := by rw [wrap_u64, hiv]
    have hivb := u64_bd im
    rw [hiv] at hivb
    have HIV := hide hiv
    generalize fetchV M.mem M.pc = v at *
    obtain ⟨p, hp⟩ : ∃ p, M.pc = p := ⟨_, rfl⟩
    rw [hp] at HF hpc hp4
    have HPC := hide hp
    clear h hP hm hD hk ha hb hiv hp hp0
    unfold inst at HD
    go_enter Tryz.func40, Tryz.ntmps40
    go_upto_region 1 with fail
    have h1 := HM.out.newblk #[.int .i64 0, .int .i64 0, .int .i64 0] 56
    have hB1 := below_alloc w (.cells #[.int .i64 0, .int .i64 0, .int .i64 0] 56)
    obtain ⟨R, hR⟩ : ∃ R, R = w.heap.size := ⟨_, rfl⟩
    rw [← hR] at h1 ⊢
    generalize w.alloc (.cells #[.int .i64 0, .int .i64 0, .int .i64 0] 56) = V at *
    obtain ⟨c4, c5, c6⟩ := h1.st
    have d0 := h1.c0
    have d3 := h1.cpc
    rw [HPC.out] at d3
    rw [show M.kind = 0 by first | exact HK0.out] at c4
    have HV := hide h1
    have HFV := hide (fun W (hW : Below V.heap.size V W) => HF.out W (hB1.trans (hW.mono hB1.size)))
    clear hR h1 hB1 HF HM
    go_wp2_with fail
    go_quiet (first | (go_at_call 59; refine Calls.quiet_of_same (HFV.out _ ?_); exact bel_drewN' _ _))
    have hV2 := HV.out.below (bel_drewN' V nq)
    generalize V.drewN nq = V2 at *
    clear HFV HV d0 d3 c4 c5 c6
    go_wp2_with fail
    refine (HD.out _).mono ?_
    rintro e W2 ⟨rfl, hb2'⟩
    have H2 := hide (hV2.below hb2')
    clear hb2' hV2 HD
    go_upto_region 9 with fail
    have h3 := H2.out.newblk #[.int .i64 3, .int .i64 (d : Int), .int .i64 (n1 : Int), .int .i64 (n2 : Int), .int .i64 im] 28
    obtain ⟨Y, hY⟩ : ∃ Y, Y = W2.heap.size := ⟨_, rfl⟩
    rw [← hY] at h3 ⊢
    generalize W2.alloc (.cells #[.int .i64 3, .int .i64 (d : Int), .int .i64 (n1 : Int), .int .i64 (n2 : Int), .int .i64 im] 28) = W3 at *
    have d0 := h3.c0
    have d3 := h3.cpc
    rw [HPC.out] at d3
    have g1 := h3.reg n1 hn1
    rw [HA.out] at g1
    have g2 := h3.reg n2 hn2
    rw [HBv.out] at g2
    have hcl := blk_cell h3.blk
    have y0 := hcl 0
    have y1 := hcl 1
    have y2 := hcl 2
    have y3 := hcl 3
    have y4 := hcl 4
    have H3 := hide h3
    obtain ⟨nx, hnx⟩ : ∃ nx : Nat, nx = (u64 (p + 4)).toNat := ⟨_, rfl⟩
    have hnb := u64_bd (p + 4)
    have hnx' : IntKind.u64.wrap ((p : Int) + 4) = (nx : Int) := by rw [wrap_u64]; omega
    have hnm : nx ≤ 18446744073709551615 := by omega
    have HNX := hide hnx
    clear hcl h3 H2 hY hnx hnb
    go_upto_region 12 with fail
    go_quiet (fail)
    have h4 := H3.out.below (bel_drewN' W3 nq)
    generalize W3.drewN nq = W4 at *
    have d0 := h4.c0
    have d3 := h4.cpc
    rw [HPC.out] at d3
    have hcl := blk_cell h4.blk
    have y0 := hcl 0
    have y1 := hcl 1
    have y2 := hcl 2
    have y3 := hcl 3
    have y4 := hcl 4
    have H4 := hide h4
    clear hcl h4 H3 g1 g2
    have hue := HUE.out
    rw [HPC.out, HIV.out] at hue
    have H := hide H4.out.unbox
    go_wp2_with fail
    refine (rtrap_any 5 _ H.out (by unfold InI; omega)).mono ?_
    rintro e WT ⟨rfl, ht⟩
    have HT := hide ht
    clear ht H
    unfold stV
    have hz := blk_frozen HT.out.blk
    have z0 := hz 0
    have z1 := hz 1
    have z2 := hz 2
    have hcl := blk_cell HT.out.blk
    have q0 := hcl 0
    have q1 := hcl 1
    have q2 := hcl 2
    clear hz hcl
    go_wp2
    have H9 := hide (HT.out.reblk (stc3_kept WT R (.int .i64 2) (.int .i64 0) (.int .i64 5)) (stc3_blk HT.out.blk _ _ _))
    unfold stc3 at H9
    have hcl := blk_cell H9.out.blk
    have e0 := hcl 0
    have e1 := hcl 1
    have e2 := hcl 2
    generalize ((WT.setCell ⟨R, 0, none⟩ (.int .i64 2)).setCell ⟨R, 1, none⟩ (.int .i64 0)).setCell ⟨R, 2, none⟩ (.int .i64 5) = W9 at *
    have H10 := hide H9.out.unbox
    refine bodyPost_ret (v := stV 2 0 5) (by simp [results, Tryz.results40, go_sem, stV, e0, e1, e2]) rfl ⟨rfl, ?_⟩
    exact H10.out

set_option maxHeartbeats 6400000 in
theorem rstep_4 (d n1 n2 : Nat) (im : Int) (w : World) (h : RH w0 w m mm me M l) (hk : M.kind = 0) (hp0 : M.pc % 4 = 0) (hm : mayB M.mem M.pc 4 1 = true) (hd : d < 32) (hn1 : n1 < 32) (hn2 : n2 < 32) (him : -2147483648 ≤ im ∧ im ≤ 2147483647)
    (hD : ∀ W, Calls Tryz.prog 60 #[.int .u32 (fetchV M.mem M.pc)] W fun e w' => e = .returned (.tuple #[inst 4 d n1 n2 im, .bool true]) ∧ Below W.heap.size W w') :
    Calls Tryz.prog 40 #[.pointer (some ⟨m, 0, none⟩)] w fun e w' => e = .returned (stV (M.jump d (u64 (M.x n1 + im) / 2 * 2)).kind (M.jump d (u64 (M.x n1 + im) / 2 * 2)).code (M.jump d (u64 (M.x n1 + im) / 2 * 2)).trap) ∧ RH w0 w' m mm me (M.jump d (u64 (M.x n1 + im) / 2 * 2)) l := by
  have HK0 := hide hk
  have hub := u64_bd (M.x n1 + im)
  have hue : IntKind.u64.wrap (M.x n1 + u64 im) = u64 (M.x n1 + im) := by rw [wrap_u64]; unfold u64; omega
  have hub3 := u64_bd (M.pc + im)
  have hue3 : IntKind.u64.wrap ((M.pc : Int) + u64 im) = u64 (M.pc + im) := by rw [wrap_u64]; unfold u64; omega
  obtain ⟨r3, hr3⟩ := Int.eq_ofNat_of_zero_le hub3.1
  rw [hr3] at hue3
  have HUE3 := hide hue3
  obtain ⟨r, hr⟩ := Int.eq_ofNat_of_zero_le hub.1
  rw [hr] at hub hue ⊢
  have hev : bits .andNot .u64 (r : Int) 1 = ((r / 2 * 2 : Nat) : Int) := not_one r (by omega)
  obtain ⟨q, hq⟩ : ∃ q : Nat, q = r / 2 * 2 := ⟨_, rfl⟩
  rw [← hq] at hev
  rw [show (r : Int) / 2 * 2 = (q : Int) by omega]
  have hrb : r ≤ 18446744073709551615 := by omega
  clear hr hr3 hue3 hub3
  have hqm : q ≤ 18446744073709551615 := by omega
  have HUE := hide hue
  clear hue hub hq
  have jc : (q % 4 = 0 ∧ M.jump d (q : Int) = { M with x := xset M.x d (u64 (M.pc + 4)), pc := q }) ∨ (q % 4 ≠ 0 ∧ M.jump d (q : Int) = M.trapped 5) := by
    unfold Mc.jump
    by_cases h4 : q % 4 = 0
    · exact Or.inl ⟨h4, by rw [if_pos (by omega), Int.toNat_natCast]⟩
    · exact Or.inr ⟨h4, by rw [if_neg (by omega)]⟩
  rcases jc with ⟨j4, je⟩ | ⟨j4, je⟩
  · rw [je]
    have t4 : ((q : Int) % 4 != 0) = false := by simp; omega
    have HJ4 := hide j4
    clear j4 je
    have hpc := h.fits.place
    have hml := h.lt
    obtain ⟨c4, c5, c6⟩ := h.st
    rw [hk] at c4
    have hp4 : ((M.pc : Int) % 4 != 0) = false := by simp; omega
    obtain ⟨F, hP⟩ := h.rm
    have HF := hide (fun W (hW : Below w.heap.size w W) => rfetch_any mm M.mem F M.pc W (hP.below hW) hpc)
    rw [hm] at HF
    have HD := hide hD
    have HM := hide h
    have hb1 := h.fits.reg n1
    have hb2 := h.fits.reg n2
    obtain ⟨a, ha⟩ : ∃ a, M.x n1 = a := ⟨_, rfl⟩
    obtain ⟨b, hb⟩ : ∃ b, M.x n2 = b := ⟨_, rfl⟩
    have HA := hide ha
    have HBv := hide hb
    rw [ha] at hb1
    rw [hb] at hb2
    have hi0 := him.1
    have hi1 := him.2
    have hn1' : (n1 : Int) < 32 := by omega
    have hn2' : (n2 : Int) < 32 := by omega
    obtain ⟨iv, hiv⟩ : ∃ iv, u64 im = iv := ⟨_, rfl⟩
    have hiw : IntKind.u64.wrap im = iv := by rw [wrap_u64, hiv]
    have hivb := u64_bd im
    rw [hiv] at hivb
    have HIV := hide hiv
    generalize fetchV M.mem M.pc = v at *
    obtain ⟨p, hp⟩ : ∃ p, M.pc = p := ⟨_, rfl⟩
    rw [hp] at HF hpc hp4
    have HPC := hide hp
    clear h hP hm hD hk ha hb hiv hp hp0
    unfold inst at HD
    go_enter Tryz.func40, Tryz.ntmps40
    go_upto_region 1 with fail
    have h1 := HM.out.newblk #[.int .i64 0, .int .i64 0, .int .i64 0] 56
    have hB1 := below_alloc w (.cells #[.int .i64 0, .int .i64 0, .int .i64 0] 56)
    obtain ⟨R, hR⟩ : ∃ R, R = w.heap.size := ⟨_, rfl⟩
    rw [← hR] at h1 ⊢
    generalize w.alloc (.cells #[.int .i64 0, .int .i64 0, .int .i64 0] 56) = V at *
    obtain ⟨c4, c5, c6⟩ := h1.st
    have d0 := h1.c0
    have d3 := h1.cpc
    rw [HPC.out] at d3
    rw [show M.kind = 0 by first | exact HK0.out] at c4
    have HV := hide h1
    have HFV := hide (fun W (hW : Below V.heap.size V W) => HF.out W (hB1.trans (hW.mono hB1.size)))
    clear hR h1 hB1 HF HM
    go_wp2_with fail
    go_quiet (first | (go_at_call 59; refine Calls.quiet_of_same (HFV.out _ ?_); exact bel_drewN' _ _))
    have hV2 := HV.out.below (bel_drewN' V nq)
    generalize V.drewN nq = V2 at *
    clear HFV HV d0 d3 c4 c5 c6
    go_wp2_with fail
    refine (HD.out _).mono ?_
    rintro e W2 ⟨rfl, hb2'⟩
    have H2 := hide (hV2.below hb2')
    clear hb2' hV2 HD
    go_upto_region 9 with fail
    have h3 := H2.out.newblk #[.int .i64 4, .int .i64 (d : Int), .int .i64 (n1 : Int), .int .i64 (n2 : Int), .int .i64 im] 28
    obtain ⟨Y, hY⟩ : ∃ Y, Y = W2.heap.size := ⟨_, rfl⟩
    rw [← hY] at h3 ⊢
    generalize W2.alloc (.cells #[.int .i64 4, .int .i64 (d : Int), .int .i64 (n1 : Int), .int .i64 (n2 : Int), .int .i64 im] 28) = W3 at *
    have d0 := h3.c0
    have d3 := h3.cpc
    rw [HPC.out] at d3
    have g1 := h3.reg n1 hn1
    rw [HA.out] at g1
    have g2 := h3.reg n2 hn2
    rw [HBv.out] at g2
    have hcl := blk_cell h3.blk
    have y0 := hcl 0
    have y1 := hcl 1
    have y2 := hcl 2
    have y3 := hcl 3
    have y4 := hcl 4
    have H3 := hide h3
    obtain ⟨nx, hnx⟩ : ∃ nx : Nat, nx = (u64 (p + 4)).toNat := ⟨_, rfl⟩
    have hnb := u64_bd (p + 4)
    have hnx' : IntKind.u64.wrap ((p : Int) + 4) = (nx : Int) := by rw [wrap_u64]; omega
    have hnm : nx ≤ 18446744073709551615 := by omega
    have HNX := hide hnx
    clear hcl h3 H2 hY hnx hnb
    go_upto_region 12 with fail
    go_quiet (fail)
    have h4 := H3.out.below (bel_drewN' W3 nq)
    generalize W3.drewN nq = W4 at *
    have d0 := h4.c0
    have d3 := h4.cpc
    rw [HPC.out] at d3
    have hcl := blk_cell h4.blk
    have y0 := hcl 0
    have y1 := hcl 1
    have y2 := hcl 2
    have y3 := hcl 3
    have y4 := hcl 4
    have H4 := hide h4
    clear hcl h4 H3 g1 g2
    have hue := HUE.out
    rw [HA.out, HIV.out] at hue
    have hue3 := HUE3.out
    rw [HPC.out, HIV.out] at hue3
    go_wp2_with fail
    have hxb : 0 ≤ (nx : Int) ∧ (nx : Int) ≤ 18446744073709551615 := by omega
    refine (rmset_any d (nx : Int) _ H4.out hd hxb).mono ?_
    rintro e W5 ⟨rfl, h5⟩
    have H := hide h5.unbox
    clear h5 H4 d0 d3 y0 y1 y2 y3 y4
    have zp := H.out.frozen 34
    have cp := H.out.cpc
    go_upto_region 54 with fail
    have H6 := hide (H.out.setpc (p := q) hqm)
    generalize W5.setCell ⟨m, 34, none⟩ (.int .u64 (q : Int)) = W6 at *
    clear zp cp H
    obtain ⟨c4, c5, c6⟩ := H6.out.st
    have hz := blk_frozen H6.out.blk
    have z0 := hz 0
    have z1 := hz 1
    have z2 := hz 2
    have hcl := blk_cell H6.out.blk
    have q0 := hcl 0
    have q1 := hcl 1
    have q2 := hcl 2
    clear hz hcl
    go_wp2
    have H9 := hide (H6.out.reblk (stc3_kept W6 R (.int .i64 M.kind) (.int .i64 M.code) (.int .i64 M.trap)) (stc3_blk H6.out.blk _ _ _))
    unfold stc3 at H9
    have hcl := blk_cell H9.out.blk
    have e0 := hcl 0
    have e1 := hcl 1
    have e2 := hcl 2
    generalize ((W6.setCell ⟨R, 0, none⟩ (.int .i64 M.kind)).setCell ⟨R, 1, none⟩ (.int .i64 M.code)).setCell ⟨R, 2, none⟩ (.int .i64 M.trap) = W9 at *
    have H10 := hide H9.out.unbox
    refine bodyPost_ret (v := stV M.kind M.code M.trap) (by simp [results, Tryz.results40, go_sem, stV, e0, e1, e2]) rfl ⟨rfl, ?_⟩
    have h10 := H10.out
    rw [HPC.out, show u64 (p + 4) = (nx : Int) by have := HNX.out; have := u64_bd (p + 4); omega]
    exact h10
  · rw [je]
    have t4 : ((q : Int) % 4 != 0) = true := by simp; omega
    have HJ4 := hide j4
    clear j4 je
    have hpc := h.fits.place
    have hml := h.lt
    obtain ⟨c4, c5, c6⟩ := h.st
    rw [hk] at c4
    have hp4 : ((M.pc : Int) % 4 != 0) = false := by simp; omega
    obtain ⟨F, hP⟩ := h.rm
    have HF := hide (fun W (hW : Below w.heap.size w W) => rfetch_any mm M.mem F M.pc W (hP.below hW) hpc)
    rw [hm] at HF
    have HD := hide hD
    have HM := hide h
    have hb1 := h.fits.reg n1
    have hb2 := h.fits.reg n2
    obtain ⟨a, ha⟩ : ∃ a, M.x n1 = a := ⟨_, rfl⟩
    obtain ⟨b, hb⟩ : ∃ b, M.x n2 = b := ⟨_, rfl⟩
    have HA := hide ha
    have HBv := hide hb
    rw [ha] at hb1
    rw [hb] at hb2
    have hi0 := him.1
    have hi1 := him.2
    have hn1' : (n1 : Int) < 32 := by omega
    have hn2' : (n2 : Int) < 32 := by omega
    obtain ⟨iv, hiv⟩ : ∃ iv, u64 im = iv := ⟨_, rfl⟩
    have hiw : IntKind.u64.wrap im = iv := by rw [wrap_u64, hiv]
    have hivb := u64_bd im
    rw [hiv] at hivb
    have HIV := hide hiv
    generalize fetchV M.mem M.pc = v at *
    obtain ⟨p, hp⟩ : ∃ p, M.pc = p := ⟨_, rfl⟩
    rw [hp] at HF hpc hp4
    have HPC := hide hp
    clear h hP hm hD hk ha hb hiv hp hp0
    unfold inst at HD
    go_enter Tryz.func40, Tryz.ntmps40
    go_upto_region 1 with fail
    have h1 := HM.out.newblk #[.int .i64 0, .int .i64 0, .int .i64 0] 56
    have hB1 := below_alloc w (.cells #[.int .i64 0, .int .i64 0, .int .i64 0] 56)
    obtain ⟨R, hR⟩ : ∃ R, R = w.heap.size := ⟨_, rfl⟩
    rw [← hR] at h1 ⊢
    generalize w.alloc (.cells #[.int .i64 0, .int .i64 0, .int .i64 0] 56) = V at *
    obtain ⟨c4, c5, c6⟩ := h1.st
    have d0 := h1.c0
    have d3 := h1.cpc
    rw [HPC.out] at d3
    rw [show M.kind = 0 by first | exact HK0.out] at c4
    have HV := hide h1
    have HFV := hide (fun W (hW : Below V.heap.size V W) => HF.out W (hB1.trans (hW.mono hB1.size)))
    clear hR h1 hB1 HF HM
    go_wp2_with fail
    go_quiet (first | (go_at_call 59; refine Calls.quiet_of_same (HFV.out _ ?_); exact bel_drewN' _ _))
    have hV2 := HV.out.below (bel_drewN' V nq)
    generalize V.drewN nq = V2 at *
    clear HFV HV d0 d3 c4 c5 c6
    go_wp2_with fail
    refine (HD.out _).mono ?_
    rintro e W2 ⟨rfl, hb2'⟩
    have H2 := hide (hV2.below hb2')
    clear hb2' hV2 HD
    go_upto_region 9 with fail
    have h3 := H2.out.newblk #[.int .i64 4, .int .i64 (d : Int), .int .i64 (n1 : Int), .int .i64 (n2 : Int), .int .i64 im] 28
    obtain ⟨Y, hY⟩ : ∃ Y, Y = W2.heap.size := ⟨_, rfl⟩
    rw [← hY] at h3 ⊢
    generalize W2.alloc (.cells #[.int .i64 4, .int .i64 (d : Int), .int .i64 (n1 : Int), .int .i64 (n2 : Int), .int .i64 im] 28) = W3 at *
    have d0 := h3.c0
    have d3 := h3.cpc
    rw [HPC.out] at d3
    have g1 := h3.reg n1 hn1
    rw [HA.out] at g1
    have g2 := h3.reg n2 hn2
    rw [HBv.out] at g2
    have hcl := blk_cell h3.blk
    have y0 := hcl 0
    have y1 := hcl 1
    have y2 := hcl 2
    have y3 := hcl 3
    have y4 := hcl 4
    have H3 := hide h3
    obtain ⟨nx, hnx⟩ : ∃ nx : Nat, nx = (u64 (p + 4)).toNat := ⟨_, rfl⟩
    have hnb := u64_bd (p + 4)
    have hnx' : IntKind.u64.wrap ((p : Int) + 4) = (nx : Int) := by rw [wrap_u64]; omega
    have hnm : nx ≤ 18446744073709551615 := by omega
    have HNX := hide hnx
    clear hcl h3 H2 hY hnx hnb
    go_upto_region 12 with fail
    go_quiet (fail)
    have h4 := H3.out.below (bel_drewN' W3 nq)
    generalize W3.drewN nq = W4 at *
    have d0 := h4.c0
    have d3 := h4.cpc
    rw [HPC.out] at d3
    have hcl := blk_cell h4.blk
    have y0 := hcl 0
    have y1 := hcl 1
    have y2 := hcl 2
    have y3 := hcl 3
    have y4 := hcl 4
    have H4 := hide h4
    clear hcl h4 H3 g1 g2
    have hue := HUE.out
    rw [HA.out, HIV.out] at hue
    have hue3 := HUE3.out
    rw [HPC.out, HIV.out] at hue3
    have H := hide H4.out.unbox
    go_wp2_with fail
    refine (rtrap_any 5 _ H.out (by unfold InI; omega)).mono ?_
    rintro e WT ⟨rfl, ht⟩
    have HT := hide ht
    clear ht H
    unfold stV
    have hz := blk_frozen HT.out.blk
    have z0 := hz 0
    have z1 := hz 1
    have z2 := hz 2
    have hcl := blk_cell HT.out.blk
    have q0 := hcl 0
    have q1 := hcl 1
    have q2 := hcl 2
    clear hz hcl
    go_wp2
    have H9 := hide (HT.out.reblk (stc3_kept WT R (.int .i64 2) (.int .i64 0) (.int .i64 5)) (stc3_blk HT.out.blk _ _ _))
    unfold stc3 at H9
    have hcl := blk_cell H9.out.blk
    have e0 := hcl 0
    have e1 := hcl 1
    have e2 := hcl 2
    generalize ((WT.setCell ⟨R, 0, none⟩ (.int .i64 2)).setCell ⟨R, 1, none⟩ (.int .i64 0)).setCell ⟨R, 2, none⟩ (.int .i64 5) = W9 at *
    have H10 := hide H9.out.unbox
    refine bodyPost_ret (v := stV 2 0 5) (by simp [results, Tryz.results40, go_sem, stV, e0, e1, e2]) rfl ⟨rfl, ?_⟩
    exact H10.out

end

end Go.Proofs.YtgjfelkbblbjfaaGreatDoor
