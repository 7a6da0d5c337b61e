/- The contract of the document's Step, at some operations. -/
import Derived.Test.YtgjfelkbblbjfaaGreatDoorJ33
import Derived.Deep.QuietTactic
import Derived.BigQuiet
import Derived.Deep.RegionHeld3
import Derived.Deep.RegionWith
namespace Go.Proofs.YtgjfelkbblbjfaaGreatDoor
open Go.RowKit Go.Maps
set_option linter.unusedVariables false
set_option maxRecDepth 100000

section
variable {w0 w w' : World} {m mm me : Nat} {M : Mc} {l : List (World → (Nat → Prop) → Prop)}

set_option maxHeartbeats 6400000 in
theorem rstep_so (o : Nat) (ho0 : 18 ≤ o) (ho1 : o ≤ 21) (d n1 n2 : Nat) (im : Int) (w : World) (h : RH w0 w m mm me M l) (hk : M.kind = 0) (hp0 : M.pc % 4 = 0) (hm : mayB M.mem M.pc 4 1 = true) (hd : d < 32) (hn1 : n1 < 32) (hn2 : n2 < 32) (him : -2147483648 ≤ im ∧ im ≤ 2147483647)
    (hD : ∀ W, Calls Tryz.prog 60 #[.int .u32 (fetchV M.mem M.pc)] W fun e w' => e = .returned (.tuple #[inst (o : Int) d n1 n2 im, .bool true]) ∧ Below W.heap.size W w') :
    Calls Tryz.prog 40 #[.pointer (some ⟨m, 0, none⟩)] w fun e w' => e = .returned (stV (if numOk M.mem (u64 (M.x n1 + im)).toNat (widthF o) 2 = true then { M.next with mem := stored M.mem (u64 (M.x n1 + im)).toNat (widthF o) (M.x n2) } else M.trapped 4).kind (if numOk M.mem (u64 (M.x n1 + im)).toNat (widthF o) 2 = true then { M.next with mem := stored M.mem (u64 (M.x n1 + im)).toNat (widthF o) (M.x n2) } else M.trapped 4).code (if numOk M.mem (u64 (M.x n1 + im)).toNat (widthF o) 2 = true then { M.next with mem := stored M.mem (u64 (M.x n1 + im)).toNat (widthF o) (M.x n2) } else M.trapped 4).trap) ∧ RH w0 w' m mm me (if numOk M.mem (u64 (M.x n1 + im)).toNat (widthF o) 2 = true then { M.next with mem := stored M.mem (u64 (M.x n1 + im)).toNat (widthF o) (M.x n2) } else M.trapped 4) l := by
  have HK0 := hide hk
  have t1 : ((o : Int) == 1) = false := by simp; omega
  have t2 : ((o : Int) == 2) = false := by simp; omega
  have t3 : ((o : Int) == 3) = false := by simp; omega
  have t4 : ((o : Int) == 4) = false := by simp; omega
  have u5 : decide ((5 : Int) ≤ (o : Int)) = true := by simp; omega
  have u10 : decide ((o : Int) ≤ (10 : Int)) = false := by simp; omega
  have u11 : decide ((11 : Int) ≤ (o : Int)) = true := by simp; omega
  have u17 : decide ((o : Int) ≤ (17 : Int)) = false := by simp; omega
  have u18 : decide ((18 : Int) ≤ (o : Int)) = true := by simp; omega
  have u21 : decide ((o : Int) ≤ (21 : Int)) = true := by simp; omega
  have hub := u64_bd (M.x n1 + im)
  have hue : IntKind.u64.wrap (M.x n1 + u64 im) = u64 (M.x n1 + im) := by rw [wrap_u64]; unfold u64; omega
  obtain ⟨q, hq⟩ := Int.eq_ofNat_of_zero_le hub.1
  rw [hq] at hub hue ⊢
  rw [Int.toNat_natCast]
  have hqm : q ≤ 18446744073709551615 := by omega
  have HUE := hide hue
  clear hue hub hq
  have hwb : 1 ≤ widthF o ∧ widthF o ≤ 8 := by
    rcases (show o = 11 ∨ o = 12 ∨ o = 13 ∨ o = 14 ∨ o = 15 ∨ o = 16 ∨ o = 17 ∨ o = 18 ∨ o = 19 ∨ o = 20 ∨ o = 21 by omega) with rfl | rfl | rfl | rfl | rfl | rfl | rfl | rfl | rfl | rfl | rfl <;> decide
  have HBy := hide (fun W => rbytes_any o W (by omega) (by omega))
  have hxb := h.fits.reg n2
  obtain ⟨M2, hM2⟩ : ∃ M2 : Mc, M2 = { M with mem := stored M.mem q (widthF o) (M.x n2) } := ⟨_, rfl⟩
  have HSt := hide (fun W l (hW : RH w0 W m mm me M l) => show Calls Tryz.prog 66 #[.pointer (some ⟨mm, 0, none⟩), .int .u64 (q : Int), .int .i64 (widthF o), .int .u64 (M.x n2)] W fun e w' => e = .returned (.bool (numOk M.mem q (widthF o) 2)) ∧ RH w0 w' m mm me M2 l by
    obtain ⟨F, hP, hF, hC⟩ := hW.mem
    refine (rstore_any mm M.mem F q (widthF o) (M.x n2) W hP hqm (by omega) (by omega) hxb.1 hxb.2).mono ?_
    rintro e w' ⟨g1, g2, g3⟩
    rw [hM2]
    exact ⟨g1, hC w' _ F g2 ⟨g3, fun k hk => Or.inl hk⟩⟩)
  have hsame : numOk M.mem q (widthF o) 2 = false → M2 = M := fun h => by rw [hM2]; unfold stored; rw [h]; rfl
  have hD1 : { M.next with mem := stored M.mem q (widthF o) (M.x n2) } = M2.next := by rw [hM2]; rfl
  rw [hD1]
  have hkk : M2.kind = M.kind ∧ M2.code = M.code ∧ M2.trap = M.trap ∧ M2.pc = M.pc := by rw [hM2]; exact ⟨rfl, rfl, rfl, rfl⟩
  have HKK := hide hkk
  generalize numOk M.mem q (widthF o) 2 = ok at *
  obtain ⟨wn, hwn⟩ : ∃ wn, widthF o = wn := ⟨_, rfl⟩
  rw [hwn] at *
  clear ho0 ho1 hwn hM2 hD1 hkk
  cases ok with
  | false =>
    rw [if_neg (by decide)]
    obtain rfl := hsame rfl
    clear hsame
    have hpc := h.fits.place
    have hml := h.lt
    obtain ⟨c4, c5, c6⟩ := h.st
    rw [hk] at c4
    have hp4 : ((M2.pc : Int) % 4 != 0) = false := by simp; omega
    obtain ⟨F, hP⟩ := h.rm
    have HF := hide (fun W (hW : Below w.heap.size w W) => rfetch_any mm M2.mem F M2.pc W (hP.below hW) hpc)
    rw [hm] at HF
    have HD := hide hD
    have HM := hide h
    have hb1 := h.fits.reg n1
    have hb2 := h.fits.reg n2
    obtain ⟨a, ha⟩ : ∃ a, M2.x n1 = a := ⟨_, rfl⟩
    obtain ⟨b, hb⟩ : ∃ b, M2.x n2 = b := ⟨_, rfl⟩
    have HA := hide ha
    have HBv := hide hb
    rw [ha] at hb1
    rw [hb] at hb2
    have hi0 := him.1
    have hi1 := him.2
    have hn1' : (n1 : Int) < 32 := by omega
    have hn2' : (n2 : Int) < 32 := by omega
    obtain ⟨iv, hiv⟩ : ∃ iv, u64 im = iv := ⟨_, rfl⟩
    have hiw : IntKind.u64.wrap im = iv := by rw [wrap_u64, hiv]
    have hivb := u64_bd im
    rw [hiv] at hivb
    have HIV := hide hiv
    generalize fetchV M2.mem M2.pc = v at *
    obtain ⟨p, hp⟩ : ∃ p, M2.pc = p := ⟨_, rfl⟩
    rw [hp] at HF hpc hp4
    have HPC := hide hp
    clear h hP hm hD hk ha hb hiv hp hp0
    unfold inst at HD
    go_enter Tryz.func40, Tryz.ntmps40
    go_upto_region 1 with fail
    have h1 := HM.out.newblk #[.int .i64 0, .int .i64 0, .int .i64 0] 56
    have hB1 := below_alloc w (.cells #[.int .i64 0, .int .i64 0, .int .i64 0] 56)
    obtain ⟨R, hR⟩ : ∃ R, R = w.heap.size := ⟨_, rfl⟩
    rw [← hR] at h1 ⊢
    generalize w.alloc (.cells #[.int .i64 0, .int .i64 0, .int .i64 0] 56) = V at *
    obtain ⟨c4, c5, c6⟩ := h1.st
    have d0 := h1.c0
    have d3 := h1.cpc
    rw [HPC.out] at d3
    rw [show M2.kind = 0 by first | exact HK0.out] at c4
    have HV := hide h1
    have HFV := hide (fun W (hW : Below V.heap.size V W) => HF.out W (hB1.trans (hW.mono hB1.size)))
    clear hR h1 hB1 HF HM
    go_wp2_with fail
    go_quiet (first | (go_at_call 59; refine Calls.quiet_of_same (HFV.out _ ?_); exact bel_drewN' _ _))
    have hV2 := HV.out.below (bel_drewN' V nq)
    generalize V.drewN nq = V2 at *
    clear HFV HV d0 d3 c4 c5 c6
    go_wp2_with fail
    refine (HD.out _).mono ?_
    rintro e W2 ⟨rfl, hb2'⟩
    have H2 := hide (hV2.below hb2')
    clear hb2' hV2 HD
    go_upto_region 9 with fail
    have h3 := H2.out.newblk #[.int .i64 (o : Int), .int .i64 (d : Int), .int .i64 (n1 : Int), .int .i64 (n2 : Int), .int .i64 im] 28
    obtain ⟨Y, hY⟩ : ∃ Y, Y = W2.heap.size := ⟨_, rfl⟩
    rw [← hY] at h3 ⊢
    generalize W2.alloc (.cells #[.int .i64 (o : Int), .int .i64 (d : Int), .int .i64 (n1 : Int), .int .i64 (n2 : Int), .int .i64 im] 28) = W3 at *
    have d0 := h3.c0
    have d3 := h3.cpc
    rw [HPC.out] at d3
    have g1 := h3.reg n1 hn1
    rw [HA.out] at g1
    have g2 := h3.reg n2 hn2
    rw [HBv.out] at g2
    have hcl := blk_cell h3.blk
    have y0 := hcl 0
    have y1 := hcl 1
    have y2 := hcl 2
    have y3 := hcl 3
    have y4 := hcl 4
    have H3 := hide h3
    obtain ⟨nx, hnx⟩ : ∃ nx : Nat, nx = (u64 (p + 4)).toNat := ⟨_, rfl⟩
    have hnb := u64_bd (p + 4)
    have hnx' : IntKind.u64.wrap ((p : Int) + 4) = (nx : Int) := by rw [wrap_u64]; omega
    have hnm : nx ≤ 18446744073709551615 := by omega
    have HNX := hide hnx
    clear hcl h3 H2 hY hnx hnb
    go_upto_region 12 with fail
    go_quiet (fail)
    have h4 := H3.out.below (bel_drewN' W3 nq)
    generalize W3.drewN nq = W4 at *
    have d0 := h4.c0
    have d3 := h4.cpc
    rw [HPC.out] at d3
    have hcl := blk_cell h4.blk
    have y0 := hcl 0
    have y1 := hcl 1
    have y2 := hcl 2
    have y3 := hcl 3
    have y4 := hcl 4
    have H4 := hide h4
    clear hcl h4 H3 g1 g2
    have hue := HUE.out
    rw [HA.out, HIV.out] at hue
    rw [HBv.out] at HSt
    go_wp2_with fail
    refine (HBy.out _).mono ?_
    rintro e W5 ⟨rfl, hW⟩
    rw [hW]
    clear hW W5 HBy
    go_wp2_with fail
    refine (HSt.out _ _ H4.out).mono ?_
    rintro e W5 ⟨rfl, h5⟩
    have H := hide h5.unbox
    clear h5 H4 HSt d0 d3 y0 y1 y2 y3 y4
    go_wp2_with fail
    refine (rtrap_any 4 _ H.out (by unfold InI; omega)).mono ?_
    rintro e WT ⟨rfl, ht⟩
    have HT := hide ht
    clear ht H
    unfold stV
    have hz := blk_frozen HT.out.blk
    have z0 := hz 0
    have z1 := hz 1
    have z2 := hz 2
    have hcl := blk_cell HT.out.blk
    have q0 := hcl 0
    have q1 := hcl 1
    have q2 := hcl 2
    clear hz hcl
    go_wp2
    have H9 := hide (HT.out.reblk (stc3_kept WT R (.int .i64 2) (.int .i64 0) (.int .i64 4)) (stc3_blk HT.out.blk _ _ _))
    unfold stc3 at H9
    have hcl := blk_cell H9.out.blk
    have e0 := hcl 0
    have e1 := hcl 1
    have e2 := hcl 2
    generalize ((WT.setCell ⟨R, 0, none⟩ (.int .i64 2)).setCell ⟨R, 1, none⟩ (.int .i64 0)).setCell ⟨R, 2, none⟩ (.int .i64 4) = W9 at *
    have H10 := hide H9.out.unbox
    refine bodyPost_ret (v := stV 2 0 4) (by simp [results, Tryz.results40, go_sem, stV, e0, e1, e2]) rfl ⟨rfl, ?_⟩
    exact H10.out
  | true =>
    rw [if_pos rfl]
    clear hsame
    have hpc := h.fits.place
    have hml := h.lt
    obtain ⟨c4, c5, c6⟩ := h.st
    rw [hk] at c4
    have hp4 : ((M.pc : Int) % 4 != 0) = false := by simp; omega
    obtain ⟨F, hP⟩ := h.rm
    have HF := hide (fun W (hW : Below w.heap.size w W) => rfetch_any mm M.mem F M.pc W (hP.below hW) hpc)
    rw [hm] at HF
    have HD := hide hD
    have HM := hide h
    have hb1 := h.fits.reg n1
    have hb2 := h.fits.reg n2
    obtain ⟨a, ha⟩ : ∃ a, M.x n1 = a := ⟨_, rfl⟩
    obtain ⟨b, hb⟩ : ∃ b, M.x n2 = b := ⟨_, rfl⟩
    have HA := hide ha
    have HBv := hide hb
    rw [ha] at hb1
    rw [hb] at hb2
    have hi0 := him.1
    have hi1 := him.2
    have hn1' : (n1 : Int) < 32 := by omega
    have hn2' : (n2 : Int) < 32 := by omega
    obtain ⟨iv, hiv⟩ : ∃ iv, u64 im = iv := ⟨_, rfl⟩
    have hiw : IntKind.u64.wrap im = iv := by rw [wrap_u64, hiv]
    have hivb := u64_bd im
    rw [hiv] at hivb
    have HIV := hide hiv
    generalize fetchV M.mem M.pc = v at *
    obtain ⟨p, hp⟩ : ∃ p, M.pc = p := ⟨_, rfl⟩
    rw [hp] at HF hpc hp4
    have HPC := hide hp
    clear h hP hm hD hk ha hb hiv hp hp0
    unfold inst at HD
    go_enter Tryz.func40, Tryz.ntmps40
    go_upto_region 1 with fail
    have h1 := HM.out.newblk #[.int .i64 0, .int .i64 0, .int .i64 0] 56
    have hB1 := below_alloc w (.cells #[.int .i64 0, .int .i64 0, .int .i64 0] 56)
    obtain ⟨R, hR⟩ : ∃ R, R = w.heap.size := ⟨_, rfl⟩
    rw [← hR] at h1 ⊢
    generalize w.alloc (.cells #[.int .i64 0, .int .i64 0, .int .i64 0] 56) = V at *
    obtain ⟨c4, c5, c6⟩ := h1.st
    have d0 := h1.c0
    have d3 := h1.cpc
    rw [HPC.out] at d3
    rw [show M.kind = 0 by first | exact HK0.out] at c4
    have HV := hide h1
    have HFV := hide (fun W (hW : Below V.heap.size V W) => HF.out W (hB1.trans (hW.mono hB1.size)))
    clear hR h1 hB1 HF HM
    go_wp2_with fail
    go_quiet (first | (go_at_call 59; refine Calls.quiet_of_same (HFV.out _ ?_); exact bel_drewN' _ _))
    have hV2 := HV.out.below (bel_drewN' V nq)
    generalize V.drewN nq = V2 at *
    clear HFV HV d0 d3 c4 c5 c6
    go_wp2_with fail
    refine (HD.out _).mono ?_
    rintro e W2 ⟨rfl, hb2'⟩
    have H2 := hide (hV2.below hb2')
    clear hb2' hV2 HD
    go_upto_region 9 with fail
    have h3 := H2.out.newblk #[.int .i64 (o : Int), .int .i64 (d : Int), .int .i64 (n1 : Int), .int .i64 (n2 : Int), .int .i64 im] 28
    obtain ⟨Y, hY⟩ : ∃ Y, Y = W2.heap.size := ⟨_, rfl⟩
    rw [← hY] at h3 ⊢
    generalize W2.alloc (.cells #[.int .i64 (o : Int), .int .i64 (d : Int), .int .i64 (n1 : Int), .int .i64 (n2 : Int), .int .i64 im] 28) = W3 at *
    have d0 := h3.c0
    have d3 := h3.cpc
    rw [HPC.out] at d3
    have g1 := h3.reg n1 hn1
    rw [HA.out] at g1
    have g2 := h3.reg n2 hn2
    rw [HBv.out] at g2
    have hcl := blk_cell h3.blk
    have y0 := hcl 0
    have y1 := hcl 1
    have y2 := hcl 2
    have y3 := hcl 3
    have y4 := hcl 4
    have H3 := hide h3
    obtain ⟨nx, hnx⟩ : ∃ nx : Nat, nx = (u64 (p + 4)).toNat := ⟨_, rfl⟩
    have hnb := u64_bd (p + 4)
    have hnx' : IntKind.u64.wrap ((p : Int) + 4) = (nx : Int) := by rw [wrap_u64]; omega
    have hnm : nx ≤ 18446744073709551615 := by omega
    have HNX := hide hnx
    clear hcl h3 H2 hY hnx hnb
    go_upto_region 12 with fail
    go_quiet (fail)
    have h4 := H3.out.below (bel_drewN' W3 nq)
    generalize W3.drewN nq = W4 at *
    have d0 := h4.c0
    have d3 := h4.cpc
    rw [HPC.out] at d3
    have hcl := blk_cell h4.blk
    have y0 := hcl 0
    have y1 := hcl 1
    have y2 := hcl 2
    have y3 := hcl 3
    have y4 := hcl 4
    have H4 := hide h4
    clear hcl h4 H3 g1 g2
    have hue := HUE.out
    rw [HA.out, HIV.out] at hue
    rw [HBv.out] at HSt
    go_wp2_with fail
    refine (HBy.out _).mono ?_
    rintro e W5 ⟨rfl, hW⟩
    rw [hW]
    clear hW W5 HBy
    go_wp2_with fail
    refine (HSt.out _ _ H4.out).mono ?_
    rintro e W5 ⟨rfl, h5⟩
    have H := hide h5.unbox
    clear h5 H4 HSt d0 d3 y0 y1 y2 y3 y4
    have zp := H.out.frozen 34
    have cp := H.out.cpc
    go_upto_region 54 with fail
    have H6 := hide (H.out.setpc (p := nx) hnm)
    generalize W5.setCell ⟨m, 34, none⟩ (.int .u64 (nx : Int)) = W6 at *
    clear zp cp H
    obtain ⟨c4, c5, c6⟩ := H6.out.st
    have hz := blk_frozen H6.out.blk
    have z0 := hz 0
    have z1 := hz 1
    have z2 := hz 2
    have hcl := blk_cell H6.out.blk
    have q0 := hcl 0
    have q1 := hcl 1
    have q2 := hcl 2
    clear hz hcl
    go_wp2
    have H9 := hide (H6.out.reblk (stc3_kept W6 R (.int .i64 M2.kind) (.int .i64 M2.code) (.int .i64 M2.trap)) (stc3_blk H6.out.blk _ _ _))
    unfold stc3 at H9
    have hcl := blk_cell H9.out.blk
    have e0 := hcl 0
    have e1 := hcl 1
    have e2 := hcl 2
    generalize ((W6.setCell ⟨R, 0, none⟩ (.int .i64 M2.kind)).setCell ⟨R, 1, none⟩ (.int .i64 M2.code)).setCell ⟨R, 2, none⟩ (.int .i64 M2.trap) = W9 at *
    have H10 := hide H9.out.unbox
    refine bodyPost_ret (v := stV M2.kind M2.code M2.trap) (by simp [results, Tryz.results40, go_sem, stV, e0, e1, e2]) rfl ⟨rfl, ?_⟩
    have h10 := H10.out
    unfold Mc.next
    rw [HKK.out.2.2.2, HPC.out, ← HNX.out]
    exact h10

set_option maxHeartbeats 6400000 in
theorem rstep_64x (hx : M.x 17 = 93) (d n1 n2 : Nat) (im : Int) (w : World) (h : RH w0 w m mm me M l) (hk : M.kind = 0) (hp0 : M.pc % 4 = 0) (hm : mayB M.mem M.pc 4 1 = true) (hd : d < 32) (hn1 : n1 < 32) (hn2 : n2 < 32) (him : -2147483648 ≤ im ∧ im ≤ 2147483647)
    (hD : ∀ W, Calls Tryz.prog 60 #[.int .u32 (fetchV M.mem M.pc)] W fun e w' => e = .returned (.tuple #[inst 64 d n1 n2 im, .bool true]) ∧ Below W.heap.size W w') :
    Calls Tryz.prog 40 #[.pointer (some ⟨m, 0, none⟩)] w fun e w' => e = .returned (stV M.call.kind M.call.code M.call.trap) ∧ RH w0 w' m mm me M.call l := by
  have HK0 := hide hk
  have hcall : M.call = { M with kind := 1, code := s64 (M.x 10), trap := 0 } := by unfold Mc.call; rw [if_pos hx]
  rw [hcall]
  clear hcall
  obtain ⟨fd, hfd⟩ : ∃ fd, M.x 10 = fd := ⟨_, rfl⟩
  rw [hfd]
  have HX17 := hide hx
  have HFd := hide hfd
  have hgb := s64_bd fd
  have hgw : wrap64 fd = s64 fd := wrap64_is fd
  generalize s64 fd = g at *
  clear hx hfd
  have hpc := h.fits.place
  have hml := h.lt
  obtain ⟨c4, c5, c6⟩ := h.st
  rw [hk] at c4
  have hp4 : ((M.pc : Int) % 4 != 0) = false := by simp; omega
  obtain ⟨F, hP⟩ := h.rm
  have HF := hide (fun W (hW : Below w.heap.size w W) => rfetch_any mm M.mem F M.pc W (hP.below hW) hpc)
  rw [hm] at HF
  have HD := hide hD
  have HM := hide h
  have hb1 := h.fits.reg n1
  have hb2 := h.fits.reg n2
  obtain ⟨a, ha⟩ : ∃ a, M.x n1 = a := ⟨_, rfl⟩
  obtain ⟨b, hb⟩ : ∃ b, M.x n2 = b := ⟨_, rfl⟩
  have HA := hide ha
  have HBv := hide hb
  rw [ha] at hb1
  rw [hb] at hb2
  have hi0 := him.1
  have hi1 := him.2
  have hn1' : (n1 : Int) < 32 := by omega
  have hn2' : (n2 : Int) < 32 := by omega
  obtain ⟨iv, hiv⟩ : ∃ iv, u64 im = iv := ⟨_, rfl⟩
  have hiw : IntKind.u64.wrap im = iv := by rw [wrap_u64, hiv]
  have hivb := u64_bd im
  rw [hiv] at hivb
  have HIV := hide hiv
  generalize fetchV M.mem M.pc = v at *
  obtain ⟨p, hp⟩ : ∃ p, M.pc = p := ⟨_, rfl⟩
  rw [hp] at HF hpc hp4
  have HPC := hide hp
  clear h hP hm hD hk ha hb hiv hp hp0
  unfold inst at HD
  go_enter Tryz.func40, Tryz.ntmps40
  go_upto_region 1 with fail
  have h1 := HM.out.newblk #[.int .i64 0, .int .i64 0, .int .i64 0] 56
  have hB1 := below_alloc w (.cells #[.int .i64 0, .int .i64 0, .int .i64 0] 56)
  obtain ⟨R, hR⟩ : ∃ R, R = w.heap.size := ⟨_, rfl⟩
  rw [← hR] at h1 ⊢
  generalize w.alloc (.cells #[.int .i64 0, .int .i64 0, .int .i64 0] 56) = V at *
  obtain ⟨c4, c5, c6⟩ := h1.st
  have d0 := h1.c0
  have d3 := h1.cpc
  rw [HPC.out] at d3
  rw [show M.kind = 0 by first | exact HK0.out] at c4
  have HV := hide h1
  have HFV := hide (fun W (hW : Below V.heap.size V W) => HF.out W (hB1.trans (hW.mono hB1.size)))
  clear hR h1 hB1 HF HM
  go_wp2_with fail
  go_quiet (first | (go_at_call 59; refine Calls.quiet_of_same (HFV.out _ ?_); exact bel_drewN' _ _))
  have hV2 := HV.out.below (bel_drewN' V nq)
  generalize V.drewN nq = V2 at *
  clear HFV HV d0 d3 c4 c5 c6
  go_wp2_with fail
  refine (HD.out _).mono ?_
  rintro e W2 ⟨rfl, hb2'⟩
  have H2 := hide (hV2.below hb2')
  clear hb2' hV2 HD
  go_upto_region 9 with fail
  have h3 := H2.out.newblk #[.int .i64 64, .int .i64 (d : Int), .int .i64 (n1 : Int), .int .i64 (n2 : Int), .int .i64 im] 28
  obtain ⟨Y, hY⟩ : ∃ Y, Y = W2.heap.size := ⟨_, rfl⟩
  rw [← hY] at h3 ⊢
  generalize W2.alloc (.cells #[.int .i64 64, .int .i64 (d : Int), .int .i64 (n1 : Int), .int .i64 (n2 : Int), .int .i64 im] 28) = W3 at *
  have d0 := h3.c0
  have d3 := h3.cpc
  rw [HPC.out] at d3
  have g1 := h3.reg n1 hn1
  rw [HA.out] at g1
  have g2 := h3.reg n2 hn2
  rw [HBv.out] at g2
  have hcl := blk_cell h3.blk
  have y0 := hcl 0
  have y1 := hcl 1
  have y2 := hcl 2
  have y3 := hcl 3
  have y4 := hcl 4
  have H3 := hide h3
  obtain ⟨nx, hnx⟩ : ∃ nx : Nat, nx = (u64 (p + 4)).toNat := ⟨_, rfl⟩
  have hnb := u64_bd (p + 4)
  have hnx' : IntKind.u64.wrap ((p : Int) + 4) = (nx : Int) := by rw [wrap_u64]; omega
  have hnm : nx ≤ 18446744073709551615 := by omega
  have HNX := hide hnx
  clear hcl h3 H2 hY hnx hnb
  go_upto_region 12 with fail
  go_quiet (fail)
  have h4 := H3.out.below (bel_drewN' W3 nq)
  generalize W3.drewN nq = W4 at *
  have d0 := h4.c0
  have d3 := h4.cpc
  rw [HPC.out] at d3
  have hcl := blk_cell h4.blk
  have y0 := hcl 0
  have y1 := hcl 1
  have y2 := hcl 2
  have y3 := hcl 3
  have y4 := hcl 4
  have H4 := hide h4
  clear hcl h4 H3 g1 g2
  have k17 := H4.out.reg 17 (by decide)
  rw [HX17.out] at k17
  have k10 := H4.out.reg 10 (by decide)
  rw [HFd.out] at k10
  obtain ⟨c4, c5, c6⟩ := H4.out.st
  have z4 := H4.out.frozen 35
  have z5 := H4.out.frozen 36
  have z6 := H4.out.frozen 37
  go_upto_region 50 with fail
  have H6 := hide (H4.out.unbox.ended (k' := 1) (c' := g) (t' := 0) (by unfold InI; omega) hgb (by unfold InI; omega))
  generalize (((W4.setCell ⟨m, 35, none⟩ (.int .i64 1)).setCell ⟨m, 36, none⟩ (.int .i64 g)).setCell ⟨m, 37, none⟩ (.int .i64 0)) = W6 at *
  clear c4 c5 c6 z4 z5 z6 H4 k17 k10
  obtain ⟨c4, c5, c6⟩ := H6.out.st
  dsimp only at c4 c5 c6
  have hz := blk_frozen H6.out.blk
  have z0 := hz 0
  have z1 := hz 1
  have z2 := hz 2
  have hcl := blk_cell H6.out.blk
  have q0 := hcl 0
  have q1 := hcl 1
  have q2 := hcl 2
  clear hz hcl
  go_wp2
  have H9 := hide (H6.out.reblk (stc3_kept W6 R (.int .i64 1) (.int .i64 g) (.int .i64 0)) (stc3_blk H6.out.blk _ _ _))
  unfold stc3 at H9
  have hcl := blk_cell H9.out.blk
  have e0 := hcl 0
  have e1 := hcl 1
  have e2 := hcl 2
  generalize ((W6.setCell ⟨R, 0, none⟩ (.int .i64 1)).setCell ⟨R, 1, none⟩ (.int .i64 g)).setCell ⟨R, 2, none⟩ (.int .i64 0) = W9 at *
  have H10 := hide H9.out.unbox
  refine bodyPost_ret (v := stV 1 g 0) (by simp [results, Tryz.results40, go_sem, stV, e0, e1, e2]) rfl ⟨rfl, ?_⟩
  exact H10.out

set_option maxHeartbeats 6400000 in
theorem rstep_64y (M2 : Mc) (rv : Int) (hrv : 0 ≤ rv ∧ rv ≤ 18446744073709551615) (hx : M.x 17 ≠ 93) (hkk : M2.kind = M.kind ∧ M2.code = M.code ∧ M2.trap = M.trap ∧ M2.pc = M.pc) (hE : ∀ W l, RH w0 W m mm me M l → Calls Tryz.prog 67 #[.pointer (some ⟨m, 0, none⟩)] W fun e w' => e = .returned (.int .u64 rv) ∧ RH w0 w' m mm me M2 l) (d n1 n2 : Nat) (im : Int) (w : World) (h : RH w0 w m mm me M l) (hk : M.kind = 0) (hp0 : M.pc % 4 = 0) (hm : mayB M.mem M.pc 4 1 = true) (hd : d < 32) (hn1 : n1 < 32) (hn2 : n2 < 32) (him : -2147483648 ≤ im ∧ im ≤ 2147483647)
    (hD : ∀ W, Calls Tryz.prog 60 #[.int .u32 (fetchV M.mem M.pc)] W fun e w' => e = .returned (.tuple #[inst 64 d n1 n2 im, .bool true]) ∧ Below W.heap.size W w') :
    Calls Tryz.prog 40 #[.pointer (some ⟨m, 0, none⟩)] w fun e w' => e = .returned (stV (M2.put 10 rv).kind (M2.put 10 rv).code (M2.put 10 rv).trap) ∧ RH w0 w' m mm me (M2.put 10 rv) l := by
  have HK0 := hide hk
  have HE := hide hE
  have HKK := hide hkk
  obtain ⟨sv, hsv⟩ : ∃ sv, M.x 17 = sv := ⟨_, rfl⟩
  rw [hsv] at hx
  have hx' : (sv == 93) = false := by simpa using hx
  have HX17 := hide hsv
  clear hx hsv hE hkk
  have hpc := h.fits.place
  have hml := h.lt
  obtain ⟨c4, c5, c6⟩ := h.st
  rw [hk] at c4
  have hp4 : ((M.pc : Int) % 4 != 0) = false := by simp; omega
  obtain ⟨F, hP⟩ := h.rm
  have HF := hide (fun W (hW : Below w.heap.size w W) => rfetch_any mm M.mem F M.pc W (hP.below hW) hpc)
  rw [hm] at HF
  have HD := hide hD
  have HM := hide h
  have hb1 := h.fits.reg n1
  have hb2 := h.fits.reg n2
  obtain ⟨a, ha⟩ : ∃ a, M.x n1 = a := ⟨_, rfl⟩
  obtain ⟨b, hb⟩ : ∃ b, M.x n2 = b := ⟨_, rfl⟩
  have HA := hide ha
  have HBv := hide hb
  rw [ha] at hb1
  rw [hb] at hb2
  have hi0 := him.1
  have hi1 := him.2
  have hn1' : (n1 : Int) < 32 := by omega
  have hn2' : (n2 : Int) < 32 := by omega
  obtain ⟨iv, hiv⟩ : ∃ iv, u64 im = iv := ⟨_, rfl⟩
  have hiw : IntKind.u64.wrap im = iv := by rw [wrap_u64, hiv]
  have hivb := u64_bd im
  rw [hiv] at hivb
  have HIV := hide hiv
  generalize fetchV M.mem M.pc = v at *
  obtain ⟨p, hp⟩ : ∃ p, M.pc = p := ⟨_, rfl⟩
  rw [hp] at HF hpc hp4
  have HPC := hide hp
  clear h hP hm hD hk ha hb hiv hp hp0
  unfold inst at HD
  go_enter Tryz.func40, Tryz.ntmps40
  go_upto_region 1 with fail
  have h1 := HM.out.newblk #[.int .i64 0, .int .i64 0, .int .i64 0] 56
  have hB1 := below_alloc w (.cells #[.int .i64 0, .int .i64 0, .int .i64 0] 56)
  obtain ⟨R, hR⟩ : ∃ R, R = w.heap.size := ⟨_, rfl⟩
  rw [← hR] at h1 ⊢
  generalize w.alloc (.cells #[.int .i64 0, .int .i64 0, .int .i64 0] 56) = V at *
  obtain ⟨c4, c5, c6⟩ := h1.st
  have d0 := h1.c0
  have d3 := h1.cpc
  rw [HPC.out] at d3
  rw [show M.kind = 0 by first | exact HK0.out] at c4
  have HV := hide h1
  have HFV := hide (fun W (hW : Below V.heap.size V W) => HF.out W (hB1.trans (hW.mono hB1.size)))
  clear hR h1 hB1 HF HM
  go_wp2_with fail
  go_quiet (first | (go_at_call 59; refine Calls.quiet_of_same (HFV.out _ ?_); exact bel_drewN' _ _))
  have hV2 := HV.out.below (bel_drewN' V nq)
  generalize V.drewN nq = V2 at *
  clear HFV HV d0 d3 c4 c5 c6
  go_wp2_with fail
  refine (HD.out _).mono ?_
  rintro e W2 ⟨rfl, hb2'⟩
  have H2 := hide (hV2.below hb2')
  clear hb2' hV2 HD
  go_upto_region 9 with fail
  have h3 := H2.out.newblk #[.int .i64 64, .int .i64 (d : Int), .int .i64 (n1 : Int), .int .i64 (n2 : Int), .int .i64 im] 28
  obtain ⟨Y, hY⟩ : ∃ Y, Y = W2.heap.size := ⟨_, rfl⟩
  rw [← hY] at h3 ⊢
  generalize W2.alloc (.cells #[.int .i64 64, .int .i64 (d : Int), .int .i64 (n1 : Int), .int .i64 (n2 : Int), .int .i64 im] 28) = W3 at *
  have d0 := h3.c0
  have d3 := h3.cpc
  rw [HPC.out] at d3
  have g1 := h3.reg n1 hn1
  rw [HA.out] at g1
  have g2 := h3.reg n2 hn2
  rw [HBv.out] at g2
  have hcl := blk_cell h3.blk
  have y0 := hcl 0
  have y1 := hcl 1
  have y2 := hcl 2
  have y3 := hcl 3
  have y4 := hcl 4
  have H3 := hide h3
  obtain ⟨nx, hnx⟩ : ∃ nx : Nat, nx = (u64 (p + 4)).toNat := ⟨_, rfl⟩
  have hnb := u64_bd (p + 4)
  have hnx' : IntKind.u64.wrap ((p : Int) + 4) = (nx : Int) := by rw [wrap_u64]; omega
  have hnm : nx ≤ 18446744073709551615 := by omega
  have HNX := hide hnx
  clear hcl h3 H2 hY hnx hnb
  go_upto_region 12 with fail
  go_quiet (fail)
  have h4 := H3.out.below (bel_drewN' W3 nq)
  generalize W3.drewN nq = W4 at *
  have d0 := h4.c0
  have d3 := h4.cpc
  rw [HPC.out] at d3
  have hcl := blk_cell h4.blk
  have y0 := hcl 0
  have y1 := hcl 1
  have y2 := hcl 2
  have y3 := hcl 3
  have y4 := hcl 4
  have H4 := hide h4
  clear hcl h4 H3 g1 g2
  have k17 := H4.out.reg 17 (by decide)
  rw [HX17.out] at k17
  go_wp2_with fail
  refine (HE.out _ _ H4.out).mono ?_
  rintro e W7 ⟨rfl, h7⟩
  have H7 := hide h7
  clear h7 H4 k17 d0 d3 y0 y1 y2 y3 y4 HE
  go_wp2_with fail
  refine (rmset_any 10 rv _ H7.out (by decide) hrv).mono ?_
  rintro e W5 ⟨rfl, h5⟩
  have H := hide h5.unbox
  clear h5 H7
  have zp := H.out.frozen 34
  have cp := H.out.cpc
  go_upto_region 54 with fail
  have H6 := hide (H.out.setpc (p := nx) hnm)
  generalize W5.setCell ⟨m, 34, none⟩ (.int .u64 (nx : Int)) = W6 at *
  clear zp cp H
  obtain ⟨c4, c5, c6⟩ := H6.out.st
  have hz := blk_frozen H6.out.blk
  have z0 := hz 0
  have z1 := hz 1
  have z2 := hz 2
  have hcl := blk_cell H6.out.blk
  have q0 := hcl 0
  have q1 := hcl 1
  have q2 := hcl 2
  clear hz hcl
  go_wp2
  have H9 := hide (H6.out.reblk (stc3_kept W6 R (.int .i64 M2.kind) (.int .i64 M2.code) (.int .i64 M2.trap)) (stc3_blk H6.out.blk _ _ _))
  unfold stc3 at H9
  have hcl := blk_cell H9.out.blk
  have e0 := hcl 0
  have e1 := hcl 1
  have e2 := hcl 2
  generalize ((W6.setCell ⟨R, 0, none⟩ (.int .i64 M2.kind)).setCell ⟨R, 1, none⟩ (.int .i64 M2.code)).setCell ⟨R, 2, none⟩ (.int .i64 M2.trap) = W9 at *
  have H10 := hide H9.out.unbox
  refine bodyPost_ret (v := stV M2.kind M2.code M2.trap) (by simp [results, Tryz.results40, go_sem, stV, e0, e1, e2]) rfl ⟨rfl, ?_⟩
  have h10 := H10.out
  unfold Mc.put
  rw [HKK.out.2.2.2, HPC.out, ← HNX.out]
  exact h10

end

end Go.Proofs.YtgjfelkbblbjfaaGreatDoor
