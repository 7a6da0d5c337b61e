/- The contract of the document's ecall, a case at a time. -/
import Derived.Test.YtgjfelkbblbjfaaGreatDoorRefCall
namespace Go.Proofs.YtgjfelkbblbjfaaGreatDoor
open Go.RowKit Go.Maps
set_option linter.unusedVariables false
set_option maxRecDepth 100000

section
variable {w0 w w' : World} {m mm me : Nat} {M : Mc} {l : List (World → (Nat → Prop) → Prop)}

set_option maxHeartbeats 6400000 in
theorem recall_none (w : World) (h : RH w0 w m mm me M l) (h2 : M.x 17 ≠ 64) (h3 : M.x 17 ≠ 63) :
    Calls Tryz.prog 67 #[.pointer (some ⟨m, 0, none⟩)] w fun e w' => e = .returned (.int .u64 18446744073709551578) ∧ RH w0 w' m mm me M l := by
  obtain ⟨n, hn⟩ := Int.eq_ofNat_of_zero_le (h.fits.reg 12).1
  obtain ⟨a, ha⟩ := Int.eq_ofNat_of_zero_le (h.fits.reg 11).1
  obtain ⟨fd, hfd⟩ : ∃ fd, M.x 10 = fd := ⟨_, rfl⟩
  obtain ⟨sv, hsv⟩ : ∃ sv, M.x 17 = sv := ⟨_, rfl⟩
  have hab : a ≤ 18446744073709551615 := by have := (h.fits.reg 11).2; omega
  have hnb : n ≤ 18446744073709551615 := by have := (h.fits.reg 12).2; omega
  have hfb := h.fits.reg 10
  rw [hfd] at hfb
  have k10 := h.reg 10 (by decide)
  have k11 := h.reg 11 (by decide)
  have k12 := h.reg 12 (by decide)
  have k17 := h.reg 17 (by decide)
  rw [hfd] at k10
  rw [ha] at k11
  rw [hn] at k12
  rw [hsv] at k17
  have d0 := h.c0
  have d1 := h.c1
  have hml := h.lt
  rw [hsv] at h2 h3
  have e2 : (sv == 64) = false := by simpa using h2
  have e3 : (sv == 63) = false := by simpa using h3
  clear h2 h3
  have HM := hide h
  have HSV := hide hsv
  have HN := hide hn
  have HAd := hide ha
  have HFd := hide hfd
  clear h hn ha hfd hsv
  go_enter Tryz.func67, Tryz.ntmps67
  go_upto_region 1 with fail
  go_quiet (fail)
  have h1 := HM.out.below (bel_drewN' w nq)
  generalize w.drewN nq = V at *
  have k17 := h1.reg 17 (by decide)
  rw [HSV.out] at k17
  have d0 := h1.c0
  have d1 := h1.c1
  have H1 := hide h1
  clear h1 HM
  go_wp2
  go_ret
  exact ⟨rfl, H1.out⟩

set_option maxHeartbeats 6400000 in
theorem recall_wlong (w : World) (h : RH w0 w m mm me M l) (hx : M.x 17 = 64) (hl : 65536 < M.x 12) :
    Calls Tryz.prog 67 #[.pointer (some ⟨m, 0, none⟩)] w fun e w' => e = .returned (.int .u64 18446744073709551594) ∧ RH w0 w' m mm me M l := by
  obtain ⟨n, hn⟩ := Int.eq_ofNat_of_zero_le (h.fits.reg 12).1
  obtain ⟨a, ha⟩ := Int.eq_ofNat_of_zero_le (h.fits.reg 11).1
  obtain ⟨fd, hfd⟩ : ∃ fd, M.x 10 = fd := ⟨_, rfl⟩
  obtain ⟨sv, hsv⟩ : ∃ sv, M.x 17 = sv := ⟨_, rfl⟩
  have hab : a ≤ 18446744073709551615 := by have := (h.fits.reg 11).2; omega
  have hnb : n ≤ 18446744073709551615 := by have := (h.fits.reg 12).2; omega
  have hfb := h.fits.reg 10
  rw [hfd] at hfb
  have k10 := h.reg 10 (by decide)
  have k11 := h.reg 11 (by decide)
  have k12 := h.reg 12 (by decide)
  have k17 := h.reg 17 (by decide)
  rw [hfd] at k10
  rw [ha] at k11
  rw [hn] at k12
  rw [hsv] at k17
  have d0 := h.c0
  have d1 := h.c1
  have hml := h.lt
  rw [hsv] at hx
  subst hx
  rw [hn] at hl
  have HM := hide h
  have HSV := hide hsv
  have HN := hide hn
  have HAd := hide ha
  have HFd := hide hfd
  clear h hn ha hfd hsv
  go_enter Tryz.func67, Tryz.ntmps67
  go_upto_region 1 with fail
  go_quiet (fail)
  have h1 := HM.out.below (bel_drewN' w nq)
  generalize w.drewN nq = V at *
  have k17 := h1.reg 17 (by decide)
  rw [HSV.out] at k17
  have d0 := h1.c0
  have d1 := h1.c1
  have H1 := hide h1
  clear h1 HM
  go_wp2
  go_ret
  exact ⟨rfl, H1.out⟩

set_option maxHeartbeats 6400000 in
theorem recall_rlong (w : World) (h : RH w0 w m mm me M l) (hx : M.x 17 = 63) (hl : 65536 < M.x 12) :
    Calls Tryz.prog 67 #[.pointer (some ⟨m, 0, none⟩)] w fun e w' => e = .returned (.int .u64 18446744073709551594) ∧ RH w0 w' m mm me M l := by
  obtain ⟨n, hn⟩ := Int.eq_ofNat_of_zero_le (h.fits.reg 12).1
  obtain ⟨a, ha⟩ := Int.eq_ofNat_of_zero_le (h.fits.reg 11).1
  obtain ⟨fd, hfd⟩ : ∃ fd, M.x 10 = fd := ⟨_, rfl⟩
  obtain ⟨sv, hsv⟩ : ∃ sv, M.x 17 = sv := ⟨_, rfl⟩
  have hab : a ≤ 18446744073709551615 := by have := (h.fits.reg 11).2; omega
  have hnb : n ≤ 18446744073709551615 := by have := (h.fits.reg 12).2; omega
  have hfb := h.fits.reg 10
  rw [hfd] at hfb
  have k10 := h.reg 10 (by decide)
  have k11 := h.reg 11 (by decide)
  have k12 := h.reg 12 (by decide)
  have k17 := h.reg 17 (by decide)
  rw [hfd] at k10
  rw [ha] at k11
  rw [hn] at k12
  rw [hsv] at k17
  have d0 := h.c0
  have d1 := h.c1
  have hml := h.lt
  rw [hsv] at hx
  subst hx
  rw [hn] at hl
  have HM := hide h
  have HSV := hide hsv
  have HN := hide hn
  have HAd := hide ha
  have HFd := hide hfd
  clear h hn ha hfd hsv
  go_enter Tryz.func67, Tryz.ntmps67
  go_upto_region 1 with fail
  go_quiet (fail)
  have h1 := HM.out.below (bel_drewN' w nq)
  generalize w.drewN nq = V at *
  have k17 := h1.reg 17 (by decide)
  rw [HSV.out] at k17
  have d0 := h1.c0
  have d1 := h1.c1
  have H1 := hide h1
  clear h1 HM
  go_wp2
  go_ret
  exact ⟨rfl, H1.out⟩

set_option maxHeartbeats 6400000 in
theorem recall_wno (w : World) (h : RH w0 w m mm me M l) (hx : M.x 17 = 64) (hl : M.x 12 ≤ 65536) (hm : mayB M.mem (M.x 11).toNat (M.x 12).toNat 4 = false) :
    Calls Tryz.prog 67 #[.pointer (some ⟨m, 0, none⟩)] w fun e w' => e = .returned (.int .u64 18446744073709551602) ∧ RH w0 w' m mm me M l := by
  obtain ⟨n, hn⟩ := Int.eq_ofNat_of_zero_le (h.fits.reg 12).1
  obtain ⟨a, ha⟩ := Int.eq_ofNat_of_zero_le (h.fits.reg 11).1
  obtain ⟨fd, hfd⟩ : ∃ fd, M.x 10 = fd := ⟨_, rfl⟩
  obtain ⟨sv, hsv⟩ : ∃ sv, M.x 17 = sv := ⟨_, rfl⟩
  have hab : a ≤ 18446744073709551615 := by have := (h.fits.reg 11).2; omega
  have hnb : n ≤ 18446744073709551615 := by have := (h.fits.reg 12).2; omega
  have hfb := h.fits.reg 10
  rw [hfd] at hfb
  have k10 := h.reg 10 (by decide)
  have k11 := h.reg 11 (by decide)
  have k12 := h.reg 12 (by decide)
  have k17 := h.reg 17 (by decide)
  rw [hfd] at k10
  rw [ha] at k11
  rw [hn] at k12
  rw [hsv] at k17
  have d0 := h.c0
  have d1 := h.c1
  have hml := h.lt
  rw [hsv] at hx
  subst hx
  rw [hn, ha, Int.toNat_natCast, Int.toNat_natCast] at hm
  rw [hn] at hl
  have hl' : decide ((65536 : Int) < (n : Int)) = false := by simp; omega
  have hk : manyOk M.mem a n 4 = false := by simp [manyOk, hm]
  have HR := hide (fun W (hW : RH w0 W m mm me M l) => show Calls Tryz.prog 21 #[.pointer (some ⟨mm, 0, none⟩), .int .u64 (a : Int), .int .u64 (n : Int)] W fun e w' => (∃ b l c, e = .returned (.tuple #[.slice b l c, .bool false])) ∧ Below W.heap.size W w' by
    obtain ⟨F, hP⟩ := hW.rm
    have := rread_any mm M.mem F a n W hP hab hnb
    rw [hk] at this
    exact this.mono (fun e w' ⟨⟨b, l, c, g1, _⟩, g2⟩ => ⟨⟨b, l, c, g1⟩, g2⟩))
  clear hm hk hl
  have HM := hide h
  have HSV := hide hsv
  have HN := hide hn
  have HAd := hide ha
  have HFd := hide hfd
  clear h hn ha hfd hsv
  go_enter Tryz.func67, Tryz.ntmps67
  go_upto_region 1 with fail
  go_quiet (fail)
  have h1 := HM.out.below (bel_drewN' w nq)
  generalize w.drewN nq = V at *
  have k17 := h1.reg 17 (by decide)
  rw [HSV.out] at k17
  have d0 := h1.c0
  have d1 := h1.c1
  have H1 := hide h1
  clear h1 HM
  go_wp2_with fail
  refine (HR.out _ H1.out).mono ?_
  rintro e W2 ⟨⟨b, bl, c, rfl⟩, hb⟩
  have H2 := hide (H1.out.below hb)
  clear hb H1 HR
  go_wp2
  go_ret
  exact ⟨rfl, H2.out⟩

set_option maxHeartbeats 6400000 in
theorem recall_rno (w : World) (h : RH w0 w m mm me M l) (hx : M.x 17 = 63) (hl : M.x 12 ≤ 65536) (hm : mayB M.mem (M.x 11).toNat (M.x 12).toNat 2 = false) :
    Calls Tryz.prog 67 #[.pointer (some ⟨m, 0, none⟩)] w fun e w' => e = .returned (.int .u64 18446744073709551602) ∧ RH w0 w' m mm me M l := by
  obtain ⟨n, hn⟩ := Int.eq_ofNat_of_zero_le (h.fits.reg 12).1
  obtain ⟨a, ha⟩ := Int.eq_ofNat_of_zero_le (h.fits.reg 11).1
  obtain ⟨fd, hfd⟩ : ∃ fd, M.x 10 = fd := ⟨_, rfl⟩
  obtain ⟨sv, hsv⟩ : ∃ sv, M.x 17 = sv := ⟨_, rfl⟩
  have hab : a ≤ 18446744073709551615 := by have := (h.fits.reg 11).2; omega
  have hnb : n ≤ 18446744073709551615 := by have := (h.fits.reg 12).2; omega
  have hfb := h.fits.reg 10
  rw [hfd] at hfb
  have k10 := h.reg 10 (by decide)
  have k11 := h.reg 11 (by decide)
  have k12 := h.reg 12 (by decide)
  have k17 := h.reg 17 (by decide)
  rw [hfd] at k10
  rw [ha] at k11
  rw [hn] at k12
  rw [hsv] at k17
  have d0 := h.c0
  have d1 := h.c1
  have hml := h.lt
  rw [hsv] at hx
  subst hx
  rw [hn, ha, Int.toNat_natCast, Int.toNat_natCast] at hm
  rw [hn] at hl
  have hl' : decide ((65536 : Int) < (n : Int)) = false := by simp; omega
  have HR := hide (fun W (hW : RH w0 W m mm me M l) => show Calls Tryz.prog 43 #[.pointer (some ⟨mm, 0, none⟩), .int .u64 (a : Int), .int .u64 (n : Int), .int .i64 2] W fun e w' => e = .returned (.bool false) ∧ w' = W by
    obtain ⟨F, hP⟩ := hW.rm
    have := rmay_any mm M.mem F a n 2 W hP hab hnb and_2
    rw [hm] at this
    exact this)
  clear hm hl
  have HM := hide h
  have HSV := hide hsv
  have HN := hide hn
  have HAd := hide ha
  have HFd := hide hfd
  clear h hn ha hfd hsv
  go_enter Tryz.func67, Tryz.ntmps67
  go_upto_region 1 with fail
  go_quiet (fail)
  have h1 := HM.out.below (bel_drewN' w nq)
  generalize w.drewN nq = V at *
  have k17 := h1.reg 17 (by decide)
  rw [HSV.out] at k17
  have d0 := h1.c0
  have d1 := h1.c1
  have H1 := hide h1
  clear h1 HM
  go_wp2_with fail
  refine (HR.out _ H1.out).mono ?_
  rintro e W2 ⟨rfl, hW⟩
  rw [hW]
  clear hW W2 HR
  go_wp2
  go_ret
  exact ⟨rfl, H1.out⟩

set_option maxHeartbeats 6400000 in
theorem recall_wok (w : World) (h : RH w0 w m mm me M l) (hx : M.x 17 = 64) (hl : M.x 12 ≤ 65536) (hm : mayB M.mem (M.x 11).toNat (M.x 12).toNat 4 = true) (ht : M.tr.length < 1000000) :
    Calls Tryz.prog 67 #[.pointer (some ⟨m, 0, none⟩)] w fun e w' => e = .returned (.int .u64 (M.x 12)) ∧ RH w0 w' m mm me { M with tr := M.tr ++ [⟨0, s64 (M.x 10), M.mem.read (M.x 11).toNat (M.x 12).toNat, 0⟩] } l := by
  obtain ⟨n, hn⟩ := Int.eq_ofNat_of_zero_le (h.fits.reg 12).1
  obtain ⟨a, ha⟩ := Int.eq_ofNat_of_zero_le (h.fits.reg 11).1
  obtain ⟨fd, hfd⟩ : ∃ fd, M.x 10 = fd := ⟨_, rfl⟩
  obtain ⟨sv, hsv⟩ : ∃ sv, M.x 17 = sv := ⟨_, rfl⟩
  have hab : a ≤ 18446744073709551615 := by have := (h.fits.reg 11).2; omega
  have hnb : n ≤ 18446744073709551615 := by have := (h.fits.reg 12).2; omega
  have hfb := h.fits.reg 10
  rw [hfd] at hfb
  have k10 := h.reg 10 (by decide)
  have k11 := h.reg 11 (by decide)
  have k12 := h.reg 12 (by decide)
  have k17 := h.reg 17 (by decide)
  rw [hfd] at k10
  rw [ha] at k11
  rw [hn] at k12
  rw [hsv] at k17
  have d0 := h.c0
  have d1 := h.c1
  have hml := h.lt
  rw [hsv] at hx
  subst hx
  rw [hn, ha, Int.toNat_natCast, Int.toNat_natCast] at hm ⊢
  rw [hn] at hl
  rw [hfd]
  have hl' : decide ((65536 : Int) < (n : Int)) = false := by simp; omega
  have hln : n ≤ 65536 := by omega
  obtain ⟨g, hg⟩ : ∃ g, s64 fd = g := ⟨_, rfl⟩
  have hgb := s64_bd fd
  rw [hg] at hgb
  have hgw : wrap64 fd = g := by rw [wrap64_is, hg]
  have hgw2 : IntKind.i64.wrap fd = g := by rw [wrap_s64, hg]
  have HG := hide hg
  rw [hg]
  have HR := hide (fun W (hW : RH w0 W m mm me M l) => show Calls Tryz.prog 21 #[.pointer (some ⟨mm, 0, none⟩), .int .u64 (a : Int), .int .u64 (n : Int)] W fun e w' => ∃ b c, e = .returned (.tuple #[.slice b n c, .bool true]) ∧ Rd w' b n c (M.mem.read a n) ∧ (∀ x, b = some x → W.heap.size ≤ x.block) ∧ Below W.heap.size W w' by
    obtain ⟨F, hP⟩ := hW.rm
    exact rread_new mm M.mem F a n W hP hab hln (mayB_iff.1 hm))
  generalize M.mem.read a n = bs at *
  obtain ⟨MF, hMF⟩ : ∃ MF : Mc, MF = { M with tr := M.tr ++ [⟨0, g, bs, 0⟩] } := ⟨_, rfl⟩
  rw [← hMF]
  obtain ⟨LF, hLF⟩ : ∃ LF, LF = l := ⟨_, rfl⟩
  have HMF := hide hMF
  have HTR := hide ht
  have HM := hide h
  have HSV := hide hsv
  clear h hn ha hfd hsv hm hl hg hMF ht
  subst hLF
  go_enter Tryz.func67, Tryz.ntmps67
  go_upto_region 1 with fail
  go_quiet (fail)
  have h1 := HM.out.below (bel_drewN' w nq)
  generalize w.drewN nq = V at *
  have k17 := h1.reg 17 (by decide)
  rw [HSV.out] at k17
  have d0 := h1.c0
  have d1 := h1.c1
  have H1 := hide h1
  clear h1 HM
  go_wp2_with fail
  refine (HR.out _ H1.out).mono ?_
  rintro e W2 ⟨b, c, rfl, hRd, hNew, hB2⟩
  have HRd := hide hRd
  have HNew := hide hNew
  have HB2 := hide hB2
  clear hRd hNew hB2 HR k17 d0 d1 k10 k11 k12
  go_upto_region 9 with fail
  obtain ⟨F, G, ⟨wa, wl, wc, ev, es1, hx1, ht1⟩, hG, hFG, hF, hcont⟩ := H1.out.env
  have hBV : Below V.heap.size V W2.drew := HB2.out.drew
  have hme : me < V.heap.size := hx1.lt
  have hmV : m < V.heap.size := hG.2.2.2 m hG.2.2.1
  have hmeW : me < W2.heap.size := Nat.lt_of_lt_of_le hme (show V.heap.size ≤ W2.heap.size from hBV.size)
  have hmW : m < W2.heap.size := Nat.lt_of_lt_of_le hmV (show V.heap.size ≤ W2.heap.size from hBV.size)
  have cm : W2.cell? ⟨me, 1, none⟩ = some ev := by simpa using (hBV.cell hme).trans hx1.cell1
  have zm : W2.frozen? ⟨me, 1, none⟩ = false := by simpa using (hBV.frozen hme).trans (hx1.frozen 1)
  have dm : W2.cell? ⟨m, 1, none⟩ = some (.pointer (some ⟨me, 0, none⟩)) := by
    have h1 : V.cell? ⟨m, 1, none⟩ = some (.pointer (some ⟨me, 0, none⟩)) := H1.out.c1
    simpa using (hBV.cell hmV).trans h1
  obtain ⟨L, hL⟩ : ∃ L, es1.length = L := ⟨_, rfl⟩
  have hL4 : L < 1000000 := by
    have h1 := congrArg List.length ht1
    rw [List.length_map] at h1
    have := HTR.out
    omega
  have HROW : Hid (∀ o, (W2.drew.alloc o).ownsRow 0 100 4 ev L (evCells es1)) := hide (fun o => by
    have h1 := hx1.row
    rw [hL] at h1
    exact World.ownsRow.alloc (ownsRow_kept h1 (fun g hg => hBV.block g (ownsRow_blk h1 g hg))) o)
  have HFAR : Hid (∀ o (Wz : World), (W2.drew.alloc o).grownBy Wz ev.ownBlock → Wz.cell? ⟨me, 1, none⟩ = some ev ∧ Wz.frozen? ⟨me, 1, none⟩ = false ∧ Wz.cell? ⟨m, 1, none⟩ = some (.pointer (some ⟨me, 0, none⟩))) := hide (fun o Wz hg => by
    have h1 : me < (W2.drew.alloc o).heap.size := by simp; omega
    have h2 : some me ≠ ev.ownBlock := fun e => (hx1.fg me e.symm).2 rfl
    have h1m : m < (W2.drew.alloc o).heap.size := by simp; omega
    have h2m : some m ≠ ev.ownBlock := fun e => hFG m (hx1.fg m e.symm).1 hG.2.2.1
    have h3 : Below W2.drew.heap.size W2.drew (W2.drew.alloc o) := (Below.refl _ _).alloc (Nat.le_refl _) _
    have cm' : W2.drew.cell? ⟨me, 1, none⟩ = some ev := by simpa using cm
    have dm' : W2.drew.cell? ⟨m, 1, none⟩ = some (.pointer (some ⟨me, 0, none⟩)) := by simpa using dm
    have zm' : W2.drew.frozen? ⟨me, 1, none⟩ = false := by simpa using zm
    exact ⟨(hg.cell_far ⟨me, 1, none⟩ h1 h2).trans ((h3.cell (by simpa using hmeW)).trans cm'), (hg.frozen_far ⟨me, 1, none⟩ h1 h2).trans ((h3.frozen (by simpa using hmeW)).trans zm'), (hg.cell_far ⟨m, 1, none⟩ h1m h2m).trans ((h3.cell (by simpa using hmW)).trans dm')⟩)
  have HXD : Hid (Evt.Ok ⟨0, g, b, n, c, 0, bs⟩ W2.drew) := hide ⟨⟨by dsimp only; omega, by dsimp only; omega⟩, hgb, ⟨by dsimp only; omega, by dsimp only; omega⟩, HRd.out.below ((Below.refl _ _).drew)⟩
  have HSX : Hid (0 < (Evt.len ⟨0, g, b, n, c, 0, bs⟩) → ∀ y, Evt.a ⟨0, g, b, n, c, 0, bs⟩ = some y → V.heap.size ≤ y.block ∨ (y.block < w0.heap.size ∧ ¬ F y.block)) := hide (fun _ y hy => Or.inl (HNew.out y hy))
  have HX1 := hide hx1
  have HT1 := hide ht1
  have HL := hide hL
  have HCO := hide hcont
  have HBV := hide hBV
  obtain ⟨i0, hi, hz0, hz1, hz2⟩ := info_parts Tryz.infoEv
  clear hx1 ht1 hL hcont hF hG hFG hBV
  go_region_law (refine step_append_lies _ (by rfl) _ _ _ (by rfl) 0 100 i0 _ 4 48 Tryz.underlying46 hi hz0 hz1 hz2 rfl (by omega) ev L (evCells es1) (by rfl) (HROW.out _) ⟨W2.heap.size, 0, none⟩ 1 1 [.int .i64 0, .int .i64 g, .slice b n c, .int .i64 0] (by rfl) (by rfl) (World.news_of_block (cs := #[.int .i64 0, .int .i64 g, .slice b n c, .int .i64 0]) (t := 100) (fr := (0, 0)) (heap_alloc_new W2.drew _)) (by simp [Value.oneCell']) (by omega) (by unfold maxLen; omega) (by omega) (by omega) (W2.heap.size + 1) (by simp) ?_; intro gg cap2 W5 hown2 hgrow hat hlt2; obtain ⟨cm2, fm2, dm2⟩ := HFAR.out _ W5 hgrow; have HO2 := hide hown2; have HG2 := hide hgrow; have HAT := hide hat; have HLT := hide hlt2; clear hown2 hgrow hat hlt2)
  all_goals
    have H5 : Hid (RH w0 (W5.setCell ⟨me, 1, none⟩ (.slice (some ⟨gg, 0, none⟩) (L + 1) cap2)) m mm me MF LF) := by
      refine hide ?_
      obtain ⟨F2, h1, h2⟩ := note_fin HX1.out HT1.out HL.out HBV.out ⟨0, g, b, n, c, 0, bs⟩ HXD.out HSX.out _ gg cap2 HO2.out HG2.out HAT.out HLT.out
      have h3 := HCO.out _ _ _ F2 h1 h2
      rw [HMF.out]
      exact h3
    clear HX1 HT1 HL HXD HSX HCO HO2 HG2 HAT HLT HROW HFAR cm2 fm2 dm2 cm zm dm
    go_wp2
    go_ret
    exact ⟨rfl, H5.out⟩

set_option maxHeartbeats 6400000 in
theorem recall_rok (w : World) (h : RH w0 w m mm me M l) (hx : M.x 17 = 63) (hl : M.x 12 ≤ 65536) (hm : mayB M.mem (M.x 11).toNat (M.x 12).toNat 2 = true) (ht : M.tr.length < 1000000) (hin : M.ins.length ≤ 140737488355328) :
    Calls Tryz.prog 67 #[.pointer (some ⟨m, 0, none⟩)] w fun e w' => e = .returned (.int .u64 ((M.ins.take (M.x 12).toNat).length : Int)) ∧ RH w0 w' m mm me { M with mem := M.mem.lay (M.x 11).toNat (M.ins.take (M.x 12).toNat), ins := M.ins.drop (M.x 12).toNat, tr := M.tr ++ [⟨1, s64 (M.x 10), [], ((M.ins.take (M.x 12).toNat).length : Int)⟩] } l := by
  obtain ⟨n, hn⟩ := Int.eq_ofNat_of_zero_le (h.fits.reg 12).1
  obtain ⟨a, ha⟩ := Int.eq_ofNat_of_zero_le (h.fits.reg 11).1
  obtain ⟨fd, hfd⟩ : ∃ fd, M.x 10 = fd := ⟨_, rfl⟩
  obtain ⟨sv, hsv⟩ : ∃ sv, M.x 17 = sv := ⟨_, rfl⟩
  have hab : a ≤ 18446744073709551615 := by have := (h.fits.reg 11).2; omega
  have hnb : n ≤ 18446744073709551615 := by have := (h.fits.reg 12).2; omega
  have hfb := h.fits.reg 10
  rw [hfd] at hfb
  have k10 := h.reg 10 (by decide)
  have k11 := h.reg 11 (by decide)
  have k12 := h.reg 12 (by decide)
  have k17 := h.reg 17 (by decide)
  rw [hfd] at k10
  rw [ha] at k11
  rw [hn] at k12
  rw [hsv] at k17
  have d0 := h.c0
  have d1 := h.c1
  have hml := h.lt
  rw [hsv] at hx
  subst hx
  rw [hn, ha, Int.toNat_natCast, Int.toNat_natCast] at hm ⊢
  rw [hn] at hl
  rw [hfd]
  have hl' : decide ((65536 : Int) < (n : Int)) = false := by simp; omega
  have hln : n ≤ 65536 := by omega
  obtain ⟨g, hg⟩ : ∃ g, s64 fd = g := ⟨_, rfl⟩
  have hgb := s64_bd fd
  rw [hg] at hgb
  have hgw : wrap64 fd = g := by rw [wrap64_is, hg]
  have hgw2 : IntKind.i64.wrap fd = g := by rw [wrap_s64, hg]
  have HG := hide hg
  rw [hg]
  have HR := hide (fun W (hW : RH w0 W m mm me M l) => show Calls Tryz.prog 43 #[.pointer (some ⟨mm, 0, none⟩), .int .u64 (a : Int), .int .u64 (n : Int), .int .i64 2] W fun e w' => e = .returned (.bool true) ∧ w' = W by
    obtain ⟨F, hP⟩ := hW.rm
    have := rmay_any mm M.mem F a n 2 W hP hab hnb and_2
    rw [hm] at this
    exact this)
  have hlen : (M.ins.take n).length ≤ n := by rw [List.length_take]; omega
  have hk : manyOk M.mem a (M.ins.take n).length 2 = true := by unfold manyOk; rw [may_less hm hlen]; simp; omega
  have HT := hide (fun W (hW : RH w0 W m mm me M l) => rh_take hW n hin)
  rw [Int.toNat_natCast] at HT
  generalize M.ins.take n = bs at *
  generalize M.ins.drop n = rs at *
  obtain ⟨K, hK⟩ : ∃ K, bs.length = K := ⟨_, rfl⟩
  rw [hK] at hlen hk HT ⊢
  obtain ⟨M1, hM1⟩ : ∃ M1 : Mc, M1 = { M with ins := rs } := ⟨_, rfl⟩
  obtain ⟨M2, hM2⟩ : ∃ M2 : Mc, M2 = { M with ins := rs, mem := M.mem.lay a bs } := ⟨_, rfl⟩
  rw [← hM1] at HT
  have HWt : Hid (∀ W a' c', RH w0 W m mm me M1 (RdT a' K c' bs :: l) → Calls Tryz.prog 94 #[.pointer (some ⟨mm, 0, none⟩), .int .u64 (a : Int), .slice a' K c'] W fun e w' => e = .returned (.bool true) ∧ RH w0 w' m mm me M2 (RdT a' K c' bs :: l)) := fun W a' c' hW => by
    have hk1 : manyOk M1.mem a K 2 = true := by rw [hM1]; exact hk
    have := rh_write hW a hab hk1
    rw [hM2]
    rw [hM1] at this
    exact this
  obtain ⟨MF, hMF⟩ : ∃ MF : Mc, MF = { M2 with tr := M2.tr ++ [⟨1, g, [], (K : Int)⟩] } := ⟨_, rfl⟩
  have hMF2 : { M with mem := M.mem.lay a bs, ins := rs, tr := M.tr ++ [⟨1, g, [], (K : Int)⟩] } = MF := by rw [hMF, hM2]
  rw [hMF2]
  have HMF := hide hMF
  have HTR : Hid (M2.tr.length < 1000000) := by rw [hM2]; exact ht
  have HM := hide h
  have HSV := hide hsv
  clear h hn ha hfd hsv hm hl hg hMF hMF2 ht hin hk hM1 hM2 hK
  go_enter Tryz.func67, Tryz.ntmps67
  go_upto_region 1 with fail
  go_quiet (fail)
  have h1 := HM.out.below (bel_drewN' w nq)
  generalize w.drewN nq = V at *
  have k17 := h1.reg 17 (by decide)
  rw [HSV.out] at k17
  have d0 := h1.c0
  have d1 := h1.c1
  have H1 := hide h1
  clear h1 HM
  go_wp2_with fail
  refine (HR.out _ H1.out).mono ?_
  rintro e W2 ⟨rfl, hW⟩
  rw [hW]
  clear hW W2 HR
  go_wp2_with fail
  refine (HT.out _ H1.out).mono ?_
  rintro e W2 ⟨a', c', rfl, h2⟩
  have d0 := h2.c0
  have H2 := hide h2
  clear h2 HT H1 k17 d1 k10 k11 k12
  go_wp2_with fail
  refine (HWt.out _ _ _ H2.out).mono ?_
  rintro e W3 ⟨rfl, h3⟩
  have H3 := hide h3
  clear h3 H2 HWt d0
  go_upto_region 18 with fail
  obtain ⟨LF, hLF⟩ : ∃ LF, LF = RdT a' K c' bs :: l := ⟨_, rfl⟩
  rw [← hLF] at H3
  obtain ⟨F, G, ⟨wa, wl, wc, ev, es1, hx1, ht1⟩, hG, hFG, hF, hcont⟩ := H3.out.env
  have hBV : Below W3.heap.size W3 W3.drew := (Below.refl _ _).drew
  have hme : me < W3.heap.size := hx1.lt
  have hmV : m < W3.heap.size := hG.2.2.2 m hG.2.2.1
  have hmeW : me < W3.heap.size := Nat.lt_of_lt_of_le hme (show W3.heap.size ≤ W3.heap.size from hBV.size)
  have hmW : m < W3.heap.size := Nat.lt_of_lt_of_le hmV (show W3.heap.size ≤ W3.heap.size from hBV.size)
  have cm : W3.cell? ⟨me, 1, none⟩ = some ev := by simpa using (hBV.cell hme).trans hx1.cell1
  have zm : W3.frozen? ⟨me, 1, none⟩ = false := by simpa using (hBV.frozen hme).trans (hx1.frozen 1)
  have dm : W3.cell? ⟨m, 1, none⟩ = some (.pointer (some ⟨me, 0, none⟩)) := by
    have h1 : W3.cell? ⟨m, 1, none⟩ = some (.pointer (some ⟨me, 0, none⟩)) := H3.out.c1
    simpa using (hBV.cell hmV).trans h1
  obtain ⟨L, hL⟩ : ∃ L, es1.length = L := ⟨_, rfl⟩
  have hL4 : L < 1000000 := by
    have h1 := congrArg List.length ht1
    rw [List.length_map] at h1
    have := HTR.out
    omega
  have HROW : Hid (∀ o, (W3.drew.alloc o).ownsRow 0 100 4 ev L (evCells es1)) := hide (fun o => by
    have h1 := hx1.row
    rw [hL] at h1
    exact World.ownsRow.alloc (ownsRow_kept h1 (fun g hg => hBV.block g (ownsRow_blk h1 g hg))) o)
  have HFAR : Hid (∀ o (Wz : World), (W3.drew.alloc o).grownBy Wz ev.ownBlock → Wz.cell? ⟨me, 1, none⟩ = some ev ∧ Wz.frozen? ⟨me, 1, none⟩ = false ∧ Wz.cell? ⟨m, 1, none⟩ = some (.pointer (some ⟨me, 0, none⟩))) := hide (fun o Wz hg => by
    have h1 : me < (W3.drew.alloc o).heap.size := by simp; omega
    have h2 : some me ≠ ev.ownBlock := fun e => (hx1.fg me e.symm).2 rfl
    have h1m : m < (W3.drew.alloc o).heap.size := by simp; omega
    have h2m : some m ≠ ev.ownBlock := fun e => hFG m (hx1.fg m e.symm).1 hG.2.2.1
    have h3 : Below W3.drew.heap.size W3.drew (W3.drew.alloc o) := (Below.refl _ _).alloc (Nat.le_refl _) _
    have cm' : W3.drew.cell? ⟨me, 1, none⟩ = some ev := by simpa using cm
    have dm' : W3.drew.cell? ⟨m, 1, none⟩ = some (.pointer (some ⟨me, 0, none⟩)) := by simpa using dm
    have zm' : W3.drew.frozen? ⟨me, 1, none⟩ = false := by simpa using zm
    exact ⟨(hg.cell_far ⟨me, 1, none⟩ h1 h2).trans ((h3.cell (by simpa using hmeW)).trans cm'), (hg.frozen_far ⟨me, 1, none⟩ h1 h2).trans ((h3.frozen (by simpa using hmeW)).trans zm'), (hg.cell_far ⟨m, 1, none⟩ h1m h2m).trans ((h3.cell (by simpa using hmW)).trans dm')⟩)
  have HXD : Hid (Evt.Ok ⟨1, g, none, 0, 0, (K : Int), []⟩ W3.drew) := hide ⟨⟨by dsimp only; omega, by dsimp only; omega⟩, hgb, ⟨by dsimp only; omega, by dsimp only; omega⟩, Rd.nothing _⟩
  have HSX : Hid (0 < (Evt.len ⟨1, g, none, 0, 0, (K : Int), []⟩) → ∀ y, Evt.a ⟨1, g, none, 0, 0, (K : Int), []⟩ = some y → W3.heap.size ≤ y.block ∨ (y.block < w0.heap.size ∧ ¬ F y.block)) := hide (fun hl => by cases hl)
  have HX1 := hide hx1
  have HT1 := hide ht1
  have HL := hide hL
  have HCO := hide hcont
  have HBV := hide hBV
  obtain ⟨i0, hi, hz0, hz1, hz2⟩ := info_parts Tryz.infoEv
  clear hx1 ht1 hL hcont hF hG hFG hBV
  go_region_law (refine step_append_lies _ (by rfl) _ _ _ (by rfl) 0 100 i0 _ 4 48 Tryz.underlying46 hi hz0 hz1 hz2 rfl (by omega) ev L (evCells es1) (by rfl) (HROW.out _) ⟨W3.heap.size, 0, none⟩ 1 1 [.int .i64 1, .int .i64 g, .slice none 0 0, .int .i64 (K : Int)] (by rfl) (by rfl) (World.news_of_block (cs := #[.int .i64 1, .int .i64 g, .slice none 0 0, .int .i64 (K : Int)]) (t := 100) (fr := (0, 0)) (heap_alloc_new W3.drew _)) (by simp [Value.oneCell']) (by omega) (by unfold maxLen; omega) (by omega) (by omega) (W3.heap.size + 1) (by simp) ?_; intro gg cap2 W5 hown2 hgrow hat hlt2; obtain ⟨cm2, fm2, dm2⟩ := HFAR.out _ W5 hgrow; have HO2 := hide hown2; have HG2 := hide hgrow; have HAT := hide hat; have HLT := hide hlt2; clear hown2 hgrow hat hlt2)
  all_goals
    have H5 : Hid (RH w0 (W5.setCell ⟨me, 1, none⟩ (.slice (some ⟨gg, 0, none⟩) (L + 1) cap2)) m mm me MF LF) := by
      refine hide ?_
      obtain ⟨F2, h1, h2⟩ := note_fin HX1.out HT1.out HL.out HBV.out ⟨1, g, none, 0, 0, (K : Int), []⟩ HXD.out HSX.out _ gg cap2 HO2.out HG2.out HAT.out HLT.out
      have h3 := HCO.out _ _ _ F2 h1 h2
      rw [HMF.out]
      exact h3
    clear HX1 HT1 HL HXD HSX HCO HO2 HG2 HAT HLT HROW HFAR cm2 fm2 dm2 cm zm dm
    go_wp2
    go_ret
    refine ⟨rfl, ?_⟩
    have h9 := H5.out
    rw [hLF] at h9
    exact h9.unbox

end

end Go.Proofs.YtgjfelkbblbjfaaGreatDoor
