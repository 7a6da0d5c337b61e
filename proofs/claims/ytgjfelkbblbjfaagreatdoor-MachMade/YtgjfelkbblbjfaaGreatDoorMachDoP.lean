/- The contract of package mach's do, an operation at a time: those that touch registers and place alone. -/
import Derived.Test.YtgjfelkbblbjfaaGreatDoorJ12
import Derived.Deep.RegionHeld3
import Derived.Laws.BitsAllLaws
import Derived.Deep.RegionWith
namespace Go.Proofs.YtgjfelkbblbjfaaGreatDoor
open Go.RowKit Go.Maps
set_option linter.unusedVariables false
set_option maxRecDepth 100000

theorem not_one (q : Nat) (h : q ≤ 18446744073709551615) : bits .andNot .u64 (q : Int) 1 = ((q / 2 * 2 : Nat) : Int) := by
  have h1 := u64_andNot_nat q 1 (by omega) (by omega)
  rw [show ((1 : Nat) : Int) = 1 from rfl, show 18446744073709551615 - 1 = (2 ^ 63 - 1) * 2 ^ 1 by decide, take_one] at h1
  rw [h1]
  unfold fld
  rw [show (2 : Int) ^ 63 = 9223372036854775808 by decide, show (2 : Int) ^ 1 = 2 by decide]
  omega

section
variable {w0 w w' : World} {m mm me : Nat} {M : Mc} {l : List (World → (Nat → Prop) → Prop)}

set_option maxHeartbeats 1600000 in
theorem do_1 (rd r1 r2 im : Int) (w : World) (h : MH w0 w m mm me M l) (hf : Fit5 rd r1 r2 im) :
    Calls Tryz.prog 57 #[.pointer (some ⟨m, 0, none⟩), inst 1 rd r1 r2 im] w fun e w' => e = .returned (.int .i64 0) ∧ MH w0 w' m mm me (M.put rd (u64 (im * 4096))) l := by
  have him := hf.im
  have HU := hide (fun W => mupper_any 1 rd r1 r2 im W (by omega) (by omega))
  have hub := u64_bd (im * 4096)
  generalize u64 (im * 4096) = v at *
  have hrd := ini_of hf.rd
  have HM := hide h
  clear h hf
  unfold inst at *
  go_enter Tryz.func57, Tryz.ntmps57
  go_wp2_with fail
  obtain ⟨V, hV⟩ : ∃ V, V = w.alloc (.cells #[.int .i64 1, .int .i64 rd, .int .i64 r1, .int .i64 r2, .int .i64 im] 28) := ⟨_, rfl⟩
  rw [← hV]
  obtain ⟨X, hX⟩ : ∃ X, X = w.heap.size := ⟨_, rfl⟩
  rw [← hX]
  have hMV : MH w0 V m mm me M (InXT X 1 rd r1 r2 im :: l) := by rw [hV, hX]; exact HM.out.box _ _ _ _ _ _
  obtain ⟨i0, i1, i2, i3, i4⟩ := hMV.inx
  have HVD := hide (hMV.below ((Below.refl _ _).drew))
  clear hMV hV hX HM
  go_region_held3 (fun w' => w'.cell? ⟨X, 0, none⟩ = some (.int .i64 1) ∧ w'.cell? ⟨X, 1, none⟩ = some (.int .i64 rd) ∧ w'.cell? ⟨X, 2, none⟩ = some (.int .i64 r1) ∧ w'.cell? ⟨X, 3, none⟩ = some (.int .i64 r2) ∧ w'.cell? ⟨X, 4, none⟩ = some (.int .i64 im)) (go_keep)
    (first
      | (go_at_call 79; refine (HU.out _).mono ?_; rintro e W1 ⟨rfl, hb⟩; have h5 := HVD.out.below hb; obtain ⟨j0, j1, j2, j3, j4⟩ := h5.inx; have H5 := hide h5; clear h5 hb)
      | (go_at_call 78; refine (mh_put H5.out rd v hrd hub).mono ?_; rintro e W2 ⟨rfl, h6⟩; obtain ⟨l0, l1, l2, l3, l4⟩ := h6.inx; have H6 := hide h6.unbox; clear h6))
  clear HU HVD H5
  go_wp2
  go_ret
  exact ⟨rfl, H6.out⟩

set_option maxHeartbeats 1600000 in
theorem do_2 (rd r1 r2 im : Int) (w : World) (h : MH w0 w m mm me M l) (hf : Fit5 rd r1 r2 im) :
    Calls Tryz.prog 57 #[.pointer (some ⟨m, 0, none⟩), inst 2 rd r1 r2 im] w fun e w' => e = .returned (.int .i64 0) ∧ MH w0 w' m mm me (M.put rd (u64 (M.pc + im * 4096))) l := by
  have him := hf.im
  have HU := hide (fun W => mupper_any 2 rd r1 r2 im W (by omega) (by omega))
  have hub := u64_bd (M.pc + im * 4096)
  have hadd : IntKind.u64.wrap ((M.pc : Int) + u64 (im * 4096)) = u64 (M.pc + im * 4096) := by rw [wrap_u64]; unfold u64; omega
  have hpc := h.fits.place
  have hvb := u64_bd (im * 4096)
  generalize u64 (M.pc + im * 4096) = u at *
  generalize u64 (im * 4096) = v at *
  have hrd := ini_of hf.rd
  have HM := hide h
  clear h hf
  unfold inst at *
  go_enter Tryz.func57, Tryz.ntmps57
  go_wp2_with fail
  obtain ⟨V, hV⟩ : ∃ V, V = w.alloc (.cells #[.int .i64 2, .int .i64 rd, .int .i64 r1, .int .i64 r2, .int .i64 im] 28) := ⟨_, rfl⟩
  rw [← hV]
  obtain ⟨X, hX⟩ : ∃ X, X = w.heap.size := ⟨_, rfl⟩
  rw [← hX]
  have hMV : MH w0 V m mm me M (InXT X 2 rd r1 r2 im :: l) := by rw [hV, hX]; exact HM.out.box _ _ _ _ _ _
  obtain ⟨i0, i1, i2, i3, i4⟩ := hMV.inx
  have i5 := hMV.c3
  have HVD := hide (hMV.below ((Below.refl _ _).drew))
  clear hMV hV hX HM
  go_region_with (first
      | (go_at_call 79; refine (HU.out _).mono ?_; rintro e W1 ⟨rfl, hb⟩; have h5 := HVD.out.below hb; obtain ⟨j0, j1, j2, j3, j4⟩ := h5.inx; have j5 := h5.c3; have H5 := hide h5; clear h5 hb)
      | (go_at_call 78; refine (mh_put H5.out rd u hrd hub).mono ?_; rintro e W2 ⟨rfl, h6⟩; have H6 := hide h6.unbox; clear h6))
  all_goals clear HU HVD H5
  all_goals go_wp2
  all_goals go_ret
  all_goals exact ⟨rfl, H6.out⟩

set_option maxHeartbeats 1600000 in
theorem do_3 (rd r1 r2 im : Int) (w : World) (h : MH w0 w m mm me M l) (hf : Fit5 rd r1 r2 im) :
    Calls Tryz.prog 57 #[.pointer (some ⟨m, 0, none⟩), inst 3 rd r1 r2 im] w fun e w' => ∃ r M', e = .returned (.int .i64 r) ∧ Did M (M.jump rd (u64 (M.pc + im))) r M' ∧ MH w0 w' m mm me M' l := by
  have him := hf.im
  have hub := u64_bd (M.pc + im)
  have hadd : IntKind.u64.wrap ((M.pc : Int) + IntKind.u64.wrap im) = u64 (M.pc + im) := by rw [wrap_u64, wrap_u64]; unfold u64; omega
  have hpc := h.fits.place
  obtain ⟨p, hp⟩ := Int.eq_ofNat_of_zero_le hub.1
  rw [hp] at hub hadd ⊢
  have hpm : p ≤ 18446744073709551615 := by omega
  have hrd := ini_of hf.rd
  have HM := hide h
  clear h hf hp hub
  unfold inst at *
  go_enter Tryz.func57, Tryz.ntmps57
  go_wp2_with fail
  obtain ⟨V, hV⟩ : ∃ V, V = w.alloc (.cells #[.int .i64 3, .int .i64 rd, .int .i64 r1, .int .i64 r2, .int .i64 im] 28) := ⟨_, rfl⟩
  rw [← hV]
  obtain ⟨X, hX⟩ : ∃ X, X = w.heap.size := ⟨_, rfl⟩
  rw [← hX]
  have hMV : MH w0 V m mm me M (InXT X 3 rd r1 r2 im :: l) := by rw [hV, hX]; exact HM.out.box _ _ _ _ _ _
  obtain ⟨i0, i1, i2, i3, i4⟩ := hMV.inx
  have i5 := hMV.c3
  have HVD := hide (hMV.below ((Below.refl _ _).drew))
  clear hMV hV hX HM
  go_region_with (first
      | (go_at_call 80; refine (mh_jump HVD.out rd p hrd hpm).mono ?_; rintro e W2 ⟨r, M', rfl, h7, h6⟩; have H6 := hide h6.unbox; have H7 := hide h7; clear h6 h7))
  all_goals clear HVD
  all_goals go_wp2
  all_goals go_ret
  all_goals exact ⟨r, M', rfl, H7.out, H6.out⟩

set_option maxHeartbeats 1600000 in
theorem do_4 (rd r1 r2 im : Int) (w : World) (h : MH w0 w m mm me M l) (hf : Fit5 rd r1 r2 im) :
    Calls Tryz.prog 57 #[.pointer (some ⟨m, 0, none⟩), inst 4 rd r1 r2 im] w fun e w' => ∃ r M', e = .returned (.int .i64 r) ∧ Did M (M.jump rd (u64 (M.x r1.toNat + im) / 2 * 2)) r M' ∧ MH w0 w' m mm me M' l := by
  have him := hf.im
  have hub := u64_bd (M.x r1.toNat + im)
  obtain ⟨q, hq⟩ := Int.eq_ofNat_of_zero_le hub.1
  have HPl : Hid (∀ W l, MH w0 W m mm me M l → Calls Tryz.prog 81 #[.pointer (some ⟨m, 0, none⟩), .agg #[.int .i64 4, .int .i64 rd, .int .i64 r1, .int .i64 r2, .int .i64 im]] W fun e w' => e = .returned (.int .u64 (q : Int)) ∧ MH w0 w' m mm me M l) := fun W l hW => by
    have := mh_place hW 4 rd r1 r2 im hf.r1 (by omega) (by omega)
    rw [hq] at this
    exact this
  rw [hq] at hub ⊢
  have hev : bits .andNot .u64 (q : Int) 1 = ((q / 2 * 2 : Nat) : Int) := not_one q (by omega)
  obtain ⟨p, hp⟩ : ∃ p : Nat, p = q / 2 * 2 := ⟨_, rfl⟩
  rw [← hp] at hev
  rw [show (q : Int) / 2 * 2 = (p : Int) by omega]
  have hpm : p ≤ 18446744073709551615 := by omega
  have hrd := ini_of hf.rd
  have HM := hide h
  clear h hf hp hub hq
  unfold inst at *
  go_enter Tryz.func57, Tryz.ntmps57
  go_wp2_with fail
  obtain ⟨V, hV⟩ : ∃ V, V = w.alloc (.cells #[.int .i64 4, .int .i64 rd, .int .i64 r1, .int .i64 r2, .int .i64 im] 28) := ⟨_, rfl⟩
  rw [← hV]
  obtain ⟨X, hX⟩ : ∃ X, X = w.heap.size := ⟨_, rfl⟩
  rw [← hX]
  have hMV : MH w0 V m mm me M (InXT X 4 rd r1 r2 im :: l) := by rw [hV, hX]; exact HM.out.box _ _ _ _ _ _
  obtain ⟨i0, i1, i2, i3, i4⟩ := hMV.inx
  have HVD := hide (hMV.below ((Below.refl _ _).drew))
  clear hMV hV hX HM
  go_region_held3 (fun w' => w'.cell? ⟨X, 0, none⟩ = some (.int .i64 4) ∧ w'.cell? ⟨X, 1, none⟩ = some (.int .i64 rd) ∧ w'.cell? ⟨X, 2, none⟩ = some (.int .i64 r1) ∧ w'.cell? ⟨X, 3, none⟩ = some (.int .i64 r2) ∧ w'.cell? ⟨X, 4, none⟩ = some (.int .i64 im)) (go_keep)
    (first
      | (go_at_call 81; refine (HPl.out _ _ HVD.out).mono ?_; rintro e W1 ⟨rfl, h5⟩; obtain ⟨j0, j1, j2, j3, j4⟩ := h5.inx; have H5 := hide h5; clear h5)
      | (go_at_call 80; refine (mh_jump H5.out rd p hrd hpm).mono ?_; rintro e W2 ⟨r, M', rfl, h7, h6⟩; obtain ⟨l0, l1, l2, l3, l4⟩ := h6.inx; have H6 := hide h6.unbox; have H7 := hide h7; clear h6 h7))
  clear HVD HPl H5
  go_wp2
  go_ret
  exact ⟨r, M', rfl, H7.out, H6.out⟩

end

end Go.Proofs.YtgjfelkbblbjfaaGreatDoor
