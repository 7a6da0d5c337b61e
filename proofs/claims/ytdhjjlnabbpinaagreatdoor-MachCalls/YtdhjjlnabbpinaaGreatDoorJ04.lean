/- Texts of this claim, joined: MachStore, MachLoad, MachDoP, MachDoQ, MachStep, MachRun, MachMake, MemRef, MemRefO, MemRefS, MemRefM. -/
import Derived.Test.YtdhjjlnabbpinaaGreatDoorJ03
import Derived.Deep.RegionHeld3
import Derived.Laws.BitsAllLaws
import Derived.Deep.RegionWith
import Derived.Deep.LoopGhost
import Derived.Laws.AppendOwnNone
/- The contract of package mach's store. -/
namespace Go.Proofs.YtdhjjlnabbpinaaGreatDoor
open Go.RowKit Go.Maps
set_option linter.unusedVariables false
set_option maxRecDepth 100000

def StoR (ok : Bool) (r : Int) (A B : Prop) : Prop := (ok = true ∧ r = 0 ∧ A) ∨ (ok = false ∧ r = 4 ∧ B)

section
variable {w0 w w' : World} {m mm me : Nat} {M : Mc} {l : List (World → (Nat → Prop) → Prop)}

set_option maxHeartbeats 1600000 in
theorem mstore_any (o : Nat) (rd r1 r2 im : Int) (w : World) (h : MH w0 w m mm me M l) (h0 : 18 ≤ o) (h1 : o ≤ 21) (hf : Fit5 rd r1 r2 im) :
    Calls Tryz.prog 79 #[.pointer (some ⟨m, 0, none⟩), inst o rd r1 r2 im] w fun e w' => ∃ r M', e = .returned (.int .i64 r) ∧
      Did M (if numOk M.mem (u64 (M.x r1.toNat + im)).toNat (widthF o) 2 = true then { M.next with mem := stored M.mem (u64 (M.x r1.toNat + im)).toNat (widthF o) (M.x r2.toNat) } else M.trapped 4) r M' ∧ MH w0 w' m mm me M' l := by
  have HWd := hide (fun W => width_any' o W (by omega) h1)
  have him := hf.im
  have hub := u64_bd (M.x r1.toNat + im)
  obtain ⟨p, hp⟩ : ∃ p : Nat, (u64 (M.x r1.toNat + im)).toNat = p := ⟨_, rfl⟩
  have hp' : u64 (M.x r1.toNat + im) = (p : Int) := by omega
  rw [hp]
  have hwd : 1 ≤ widthF o ∧ widthF o ≤ 8 := by
    rcases (show o = 18 ∨ o = 19 ∨ o = 20 ∨ o = 21 by omega) with rfl | rfl | rfl | rfl <;> decide
  have hxb := h.fits.reg r2.toNat
  obtain ⟨v, hv⟩ : ∃ v, M.x r2.toNat = v := ⟨_, rfl⟩
  obtain ⟨n, hn⟩ : ∃ n, widthF o = n := ⟨_, rfl⟩
  rw [hn] at HWd hwd ⊢
  rw [hv] at hxb ⊢
  have HPl : Hid (∀ W l, MH w0 W m mm me M l → Calls Tryz.prog 76 #[.pointer (some ⟨m, 0, none⟩), .agg #[.int .i64 (o : Int), .int .i64 rd, .int .i64 r1, .int .i64 r2, .int .i64 im]] W fun e w' => e = .returned (.int .u64 (p : Int)) ∧ MH w0 w' m mm me M l) := fun W l hW => by
    have := mh_place hW o rd r1 r2 im hf.r1 (by omega) (by omega)
    rw [hp'] at this
    exact this
  have HRg : Hid (∀ W l, MH w0 W m mm me M l → Calls Tryz.prog 13 #[.pointer (some ⟨m, 0, none⟩), .int .i64 r2] W fun e w' => e = .returned (.int .u64 v) ∧ w' = W) := fun W l hW => by
    have := mh_reg hW r2 (ini_of hf.r2)
    rw [rg_in hf.r2, hv] at this
    exact this
  obtain ⟨ok, hok⟩ : ∃ ok, numOk M.mem p n 2 = ok := ⟨_, rfl⟩
  obtain ⟨M2, hM2⟩ : ∃ M2 : Mc, M2 = { M with mem := stored M.mem p n v } := ⟨_, rfl⟩
  have HSt : Hid (∀ W l, MH w0 W m mm me M l → Calls Tryz.prog 115 #[.pointer (some ⟨mm, 0, none⟩), .int .u64 (p : Int), .int .i64 n, .int .u64 v] W fun e w' => e = .returned (.bool ok) ∧ MH w0 w' m mm me M2 l) := fun W l hW => by
    have := mh_store hW p n v (by omega) (by omega) (by omega) hxb.1 hxb.2
    rw [hok, ← hM2] at this
    exact this
  have HM2 := hide hM2
  have HOK := hide hok
  rw [hok]
  have HM := hide h
  clear h hf hok hM2 hp hp' hn hv hub hwd hxb
  unfold inst
  refine Calls.mono (?_ : Calls _ _ _ _ (fun e w' => ∃ r, e = .returned (.int .i64 r) ∧ StoR ok r (MH w0 w' m mm me M2.next l) (MH w0 w' m mm me M2 l))) ?_
  · go_enter Tryz.func79, Tryz.ntmps79
    go_wp2_with fail
    obtain ⟨V, hV⟩ : ∃ V, V = w.alloc (.cells #[.int .i64 (o : Int), .int .i64 rd, .int .i64 r1, .int .i64 r2, .int .i64 im] 45) := ⟨_, rfl⟩
    rw [← hV]
    obtain ⟨X, hX⟩ : ∃ X, X = w.heap.size := ⟨_, rfl⟩
    rw [← hX]
    have hMV : MH w0 V m mm me M (InXT X o rd r1 r2 im :: l) := by rw [hV, hX]; exact HM.out.box _ _ _ _ _ _
    have hc0 := hMV.c0
    obtain ⟨i0, i1, i2, i3, i4⟩ := hMV.inx
    have HV := hide hMV
    have HVD := hide (hMV.below ((Below.refl _ _).drew))
    clear hMV hV hX HM
    go_region_held3 (fun w' => w'.cell? ⟨X, 0, none⟩ = some (.int .i64 (o : Int)) ∧ w'.cell? ⟨X, 1, none⟩ = some (.int .i64 rd) ∧ w'.cell? ⟨X, 2, none⟩ = some (.int .i64 r1) ∧ w'.cell? ⟨X, 3, none⟩ = some (.int .i64 r2) ∧ w'.cell? ⟨X, 4, none⟩ = some (.int .i64 im) ∧ w'.cell? ⟨m, 0, none⟩ = some (.pointer (some ⟨mm, 0, none⟩))) (go_keep)
      (first
        | (go_at_call 76; refine (HPl.out _ _ HVD.out).mono ?_; rintro e W1 ⟨rfl, h5⟩; obtain ⟨j0, j1, j2, j3, j4⟩ := h5.inx; have j5 := h5.c0; have H5 := hide h5; clear h5)
        | (go_at_call 113; refine (HWd.out _).mono ?_; rintro e W3 ⟨rfl, hW3⟩; rw [hW3]; clear hW3 W3)
        | (go_at_call 13; refine (HRg.out _ _ (by first | exact H5.out | exact HVD.out)).mono ?_; rintro e W3 ⟨rfl, hW3⟩; rw [hW3]; clear hW3 W3)
        | (go_at_call 115; refine (HSt.out _ _ H5.out).mono ?_; rintro e W2 ⟨rfl, h6⟩; obtain ⟨l0, l1, l2, l3, l4⟩ := h6.inx; have l5 := h6.c0; have H6 := hide h6; clear h6))
    clear HPl HWd HRg HSt HV HVD H5
    cases ok with
    | false =>
      go_wp2
      go_ret
      exact ⟨4, rfl, Or.inr ⟨rfl, rfl, H6.out.unbox⟩⟩
    | true =>
      go_wp2_with fail
      refine (mh_next H6.out).mono ?_
      rintro e W7 ⟨rfl, h7⟩
      have H7 := hide h7.unbox
      clear h7 H6
      go_wp2
      go_ret
      exact ⟨0, rfl, Or.inl ⟨rfl, rfl, H7.out⟩⟩
  · rintro e w' ⟨r, rfl, ⟨rfl, rfl, h7⟩ | ⟨rfl, rfl, h7⟩⟩
    · rw [if_pos rfl]
      refine ⟨0, _, rfl, Or.inl ⟨rfl, rfl⟩, ?_⟩
      rw [HM2.out] at h7
      exact h7
    · rw [if_neg (by decide)]
      refine ⟨4, M, rfl, Or.inr ⟨by decide, by unfold InI; omega, rfl, rfl⟩, ?_⟩
      rw [HM2.out] at h7
      unfold stored at h7
      rw [HOK.out] at h7
      exact h7

end

end Go.Proofs.YtdhjjlnabbpinaaGreatDoor

/- The contract of package mach's load. -/
namespace Go.Proofs.YtdhjjlnabbpinaaGreatDoor
open Go.RowKit Go.Maps
set_option linter.unusedVariables false
set_option maxRecDepth 100000

theorem ls8 (v : Int) : IntKind.u64.wrap (wrap64 (IntKind.u64.wrap (v * 72057594037927936)) / 72057594037927936) = u64 ((v + 128) % 256 - 128) := by
  have h := sgn_shift (k := 8) (u := 56) (by decide) (by decide) v
  rw [show (2 : Int) ^ 56 = 72057594037927936 by decide] at h
  rw [h, wrap_u64]
  rfl
theorem ls16 (v : Int) : IntKind.u64.wrap (wrap64 (IntKind.u64.wrap (v * 281474976710656)) / 281474976710656) = u64 ((v + 32768) % 65536 - 32768) := by
  have h := sgn_shift (k := 16) (u := 48) (by decide) (by decide) v
  rw [show (2 : Int) ^ 48 = 281474976710656 by decide] at h
  rw [h, wrap_u64]
  rfl
theorem ls32 (v : Int) : IntKind.u64.wrap (wrap64 (IntKind.u64.wrap (v * 4294967296)) / 4294967296) = u64 ((v + 2147483648) % 4294967296 - 2147483648) := by
  have h := sgn_shift (k := 32) (u := 32) (by decide) (by decide) v
  rw [show (2 : Int) ^ 32 = 4294967296 by decide] at h
  rw [h, wrap_u64]
  rfl

theorem loadV_bd {S : Mm} (h : S.Good) (a : Nat) (n : Int) : 0 ≤ loadV S a n ∧ loadV S a n ≤ 18446744073709551615 := by
  unfold loadV
  split
  · rename_i h1
    unfold numOk at h1
    have hw : WidthOk n := by
      have := (Bool.and_eq_true_iff.1 h1).1
      simpa using this
    have := read_num_bd h a n.toNat (by unfold WidthOk at hw; omega)
    exact ⟨this.1, this.2.2⟩
  · omega
theorem loadS_bd (o : Nat) {v : Int} (h : 0 ≤ v ∧ v ≤ 18446744073709551615) : 0 ≤ loadS o v ∧ loadS o v ≤ 18446744073709551615 := by
  unfold loadS
  split
  all_goals first | exact u64_bd _ | exact h

section
variable {w w' : World} {m mm me b n : Nat} {f : Int → Option Value} {x : Nat → Int} {pc : Nat} {k c t : Int} {F G : Nat → Prop} {S : Mm}

set_option maxHeartbeats 1600000 in
theorem load_11 (rd r1 r2 im : Int) (w : World) (h : HD m mm me x pc k c t w F) (hP : PM w mm S G) (hf : Fit5 rd r1 r2 im) :
    Calls Tryz.prog 78 #[.pointer (some ⟨m, 0, none⟩), inst 11 rd r1 r2 im] w fun e w' =>
      (numOk S (u64 (x r1.toNat + im)).toNat (widthF 11) 4 = true → e = .returned (.int .i64 0) ∧ HD m mm me (xset x rd (loadS 11 (loadV S (u64 (x r1.toNat + im)).toNat (widthF 11)))) (u64 (pc + 4)).toNat k c t w' F) ∧
      (numOk S (u64 (x r1.toNat + im)).toNat (widthF 11) 4 = false → e = .returned (.int .i64 3) ∧ HD m mm me x pc k c t w' F) ∧ Went F w F w' := by
  have HWd := hide (fun W => width_any' 11 W (by decide) (by decide))
  have him := hf.im
  have HPl := hide (fun W (hW : Below w.heap.size w W) => place_any 11 rd r1 r2 im W (h.below hW) (ini_of hf.r1) (by omega) (by omega))
  rw [rg_in hf.r1] at HPl
  have hub := u64_bd (x r1.toNat + im)
  generalize u64 (x r1.toNat + im) = a at *
  obtain ⟨p, rfl⟩ := Int.eq_ofNat_of_zero_le hub.1
  rw [Int.toNat_natCast]
  have hwd : widthF 11 = 1 := rfl
  rw [hwd] at HWd ⊢
  have HLd := hide (fun W (hW : Below w.heap.size w W) => load_any mm S G p 1 W (hP.below hW) (by omega) (by omega) (by omega))
  have hvb := loadV_bd hP.good p 1
  have HH := hide (fun W (hW : Below w.heap.size w W) => h.below hW)
  have hrd := ini_of hf.rd
  generalize loadV S p 1 = v at *
  generalize numOk S p 1 4 = ok at *
  clear hf hP hwd
  unfold inst
  have hXF : ¬ F w.heap.size := fun hf => by have := h.flt _ hf; omega
  have HXF := hide hXF
  clear hXF h
  cases ok with
  | false =>
    refine Calls.mono (?_ : Calls _ _ _ _ (fun e w' => e = .returned (.int .i64 3) ∧ HD m mm me x pc k c t w' F ∧ Went F w F w')) (by rintro e w' ⟨r1, r2, r3⟩; exact ⟨(fun h => by cases h), fun _ => ⟨r1, r2⟩, r3⟩)
    go_enter Tryz.func78, Tryz.ntmps78
    go_wp2_with fail
    refine (HWd.out _).mono ?_
    rintro e W ⟨rfl, rfl⟩
    go_wp2_with fail
    obtain ⟨X, hX⟩ : ∃ X, X = w.heap.size := ⟨_, rfl⟩
    rw [← hX]
    rw [← hX] at HXF
    obtain ⟨V, hV⟩ : ∃ V, V = w.alloc (.cells #[.int .i64 11, .int .i64 rd, .int .i64 r1, .int .i64 r2, .int .i64 im] 45) := ⟨_, rfl⟩
    rw [← hV]
    have hBV : Below w.heap.size w V := by rw [hV]; exact below_alloc _ _
    have hIX : InX V X 11 rd r1 r2 im := by rw [hV, hX]; exact InX.new _ _ _ _ _ _ _
    have hc0 := (HH.out V hBV).c0
    obtain ⟨i0, i1, i2, i3, i4⟩ := id hIX
    have HX := hide hIX
    have HB := hide hBV
    clear hIX hBV hV hX HWd
    have HP2 : Hid (∀ W, Below V.heap.size V W → Calls Tryz.prog 76 #[.pointer (some ⟨m, 0, none⟩), .agg #[.int .i64 11, .int .i64 rd, .int .i64 r1, .int .i64 r2, .int .i64 im]] W fun e w' => e = .returned (.int .u64 (p : Int)) ∧ Below V.heap.size V w' ∧ InX w' X 11 rd r1 r2 im ∧ w'.cell? ⟨m, 0, none⟩ = some (.pointer (some ⟨mm, 0, none⟩))) := fun W hW => by
      refine (HPl.out W (HB.out.trans (hW.mono HB.out.size))).mono ?_
      rintro e w' ⟨g1, g2⟩
      have g3 := hW.trans (g2.mono hW.size)
      exact ⟨g1, g3, HX.out.below g3, (HH.out w' (HB.out.trans (g3.mono HB.out.size))).c0⟩
    have HL2 : Hid (∀ W, Below V.heap.size V W → Calls Tryz.prog 114 #[.pointer (some ⟨mm, 0, none⟩), .int .u64 (p : Int), .int .i64 1] W fun e w' => e = .returned (.tuple #[.int .u64 v, .bool false]) ∧ Below V.heap.size V w' ∧ InX w' X 11 rd r1 r2 im ∧ w'.cell? ⟨m, 0, none⟩ = some (.pointer (some ⟨mm, 0, none⟩))) := fun W hW => by
      refine (HLd.out W (HB.out.trans (hW.mono HB.out.size))).mono ?_
      rintro e w' ⟨g1, g2⟩
      have g3 := hW.trans (g2.mono hW.size)
      exact ⟨g1, g3, HX.out.below g3, (HH.out w' (HB.out.trans (g3.mono HB.out.size))).c0⟩
    clear HPl HLd
    go_region_held3 (fun w' => w'.cell? ⟨X, 0, none⟩ = some (.int .i64 11) ∧ w'.cell? ⟨X, 1, none⟩ = some (.int .i64 rd) ∧ w'.cell? ⟨X, 2, none⟩ = some (.int .i64 r1) ∧ w'.cell? ⟨X, 3, none⟩ = some (.int .i64 r2) ∧ w'.cell? ⟨X, 4, none⟩ = some (.int .i64 im) ∧ w'.cell? ⟨m, 0, none⟩ = some (.pointer (some ⟨mm, 0, none⟩))) (go_keep)
      (first | (go_at_call 76; refine (HP2.out _ ((Below.refl _ _).drew)).mono ?_; rintro e W1 ⟨rfl, h5, h6, h7⟩; obtain ⟨j0, j1, j2, j3, j4⟩ := h6; have H5 := hide h5; clear h5) | (go_at_call 114; refine (HL2.out _ H5.out).mono ?_; rintro e W2 ⟨rfl, h8, h9, h10⟩; obtain ⟨l0, l1, l2, l3, l4⟩ := h9; have H8 := hide h8; clear h8))
    have H : Hid (HD m mm me x pc k c t W2 F ∧ Went F w F W2) :=
      have g := HB.out.trans (H8.out.mono HB.out.size)
      ⟨HH.out _ g, went_below g F⟩
    clear HP2 HL2 H5 H8 HH HB HX HXF
    go_wp2
    go_ret
    exact ⟨rfl, H.out.1, H.out.2⟩
  | true =>
    refine Calls.mono (?_ : Calls _ _ _ _ (fun e w' => e = .returned (.int .i64 0) ∧ HD m mm me (xset x rd (loadS 11 v)) (u64 (pc + 4)).toNat k c t w' F ∧ Went F w F w')) (by rintro e w' ⟨r1, r2, r3⟩; exact ⟨fun _ => ⟨r1, r2⟩, (fun h => by cases h), r3⟩)
    have hsb := loadS_bd 11 hvb
    have hv : IntKind.u64.wrap (wrap64 (IntKind.u64.wrap (v * 72057594037927936)) / 72057594037927936) = loadS 11 v := ls8 v
    generalize loadS 11 v = u at *
    go_enter Tryz.func78, Tryz.ntmps78
    go_wp2_with fail
    refine (HWd.out _).mono ?_
    rintro e W ⟨rfl, rfl⟩
    go_wp2_with fail
    obtain ⟨X, hX⟩ : ∃ X, X = w.heap.size := ⟨_, rfl⟩
    rw [← hX]
    rw [← hX] at HXF
    obtain ⟨V, hV⟩ : ∃ V, V = w.alloc (.cells #[.int .i64 11, .int .i64 rd, .int .i64 r1, .int .i64 r2, .int .i64 im] 45) := ⟨_, rfl⟩
    rw [← hV]
    have hBV : Below w.heap.size w V := by rw [hV]; exact below_alloc _ _
    have hIX : InX V X 11 rd r1 r2 im := by rw [hV, hX]; exact InX.new _ _ _ _ _ _ _
    have hc0 := (HH.out V hBV).c0
    obtain ⟨i0, i1, i2, i3, i4⟩ := id hIX
    have HX := hide hIX
    have HB := hide hBV
    clear hIX hBV hV hX HWd
    have HP2 : Hid (∀ W, Below V.heap.size V W → Calls Tryz.prog 76 #[.pointer (some ⟨m, 0, none⟩), .agg #[.int .i64 11, .int .i64 rd, .int .i64 r1, .int .i64 r2, .int .i64 im]] W fun e w' => e = .returned (.int .u64 (p : Int)) ∧ Below V.heap.size V w' ∧ InX w' X 11 rd r1 r2 im ∧ w'.cell? ⟨m, 0, none⟩ = some (.pointer (some ⟨mm, 0, none⟩))) := fun W hW => by
      refine (HPl.out W (HB.out.trans (hW.mono HB.out.size))).mono ?_
      rintro e w' ⟨g1, g2⟩
      have g3 := hW.trans (g2.mono hW.size)
      exact ⟨g1, g3, HX.out.below g3, (HH.out w' (HB.out.trans (g3.mono HB.out.size))).c0⟩
    have HL2 : Hid (∀ W, Below V.heap.size V W → Calls Tryz.prog 114 #[.pointer (some ⟨mm, 0, none⟩), .int .u64 (p : Int), .int .i64 1] W fun e w' => e = .returned (.tuple #[.int .u64 v, .bool true]) ∧ Below V.heap.size V w' ∧ InX w' X 11 rd r1 r2 im ∧ w'.cell? ⟨m, 0, none⟩ = some (.pointer (some ⟨mm, 0, none⟩))) := fun W hW => by
      refine (HLd.out W (HB.out.trans (hW.mono HB.out.size))).mono ?_
      rintro e w' ⟨g1, g2⟩
      have g3 := hW.trans (g2.mono hW.size)
      exact ⟨g1, g3, HX.out.below g3, (HH.out w' (HB.out.trans (g3.mono HB.out.size))).c0⟩
    clear HPl HLd
    go_region_held3 (fun w' => w'.cell? ⟨X, 0, none⟩ = some (.int .i64 11) ∧ w'.cell? ⟨X, 1, none⟩ = some (.int .i64 rd) ∧ w'.cell? ⟨X, 2, none⟩ = some (.int .i64 r1) ∧ w'.cell? ⟨X, 3, none⟩ = some (.int .i64 r2) ∧ w'.cell? ⟨X, 4, none⟩ = some (.int .i64 im) ∧ w'.cell? ⟨m, 0, none⟩ = some (.pointer (some ⟨mm, 0, none⟩))) (go_keep)
      (first | (go_at_call 76; refine (HP2.out _ ((Below.refl _ _).drew)).mono ?_; rintro e W1 ⟨rfl, h5, h6, h7⟩; obtain ⟨j0, j1, j2, j3, j4⟩ := h6; have H5 := hide h5; clear h5) | (go_at_call 114; refine (HL2.out _ H5.out).mono ?_; rintro e W2 ⟨rfl, h8, h9, h10⟩; obtain ⟨l0, l1, l2, l3, l4⟩ := h9; have H8 := hide h8; clear h8))
    have HPu := hide (put_reg rd u W2 (HH.out _ (HB.out.trans (H8.out.mono HB.out.size))) hrd hsb)
    have HWn := hide (went_below (HB.out.trans (H8.out.mono HB.out.size)) F)
    clear HP2 HL2 H5 H8 HH HB HX HXF hsb
    go_wp2_with fail
    refine HPu.out.mono ?_
    rintro e W3 ⟨rfl, h8, h9⟩
    have H := hide (And.intro h8 (HWn.out.trans h9))
    clear h8 h9 HPu HWn
    go_wp2
    go_ret
    exact ⟨rfl, H.out.1, H.out.2⟩

set_option maxHeartbeats 1600000 in
theorem load_12 (rd r1 r2 im : Int) (w : World) (h : HD m mm me x pc k c t w F) (hP : PM w mm S G) (hf : Fit5 rd r1 r2 im) :
    Calls Tryz.prog 78 #[.pointer (some ⟨m, 0, none⟩), inst 12 rd r1 r2 im] w fun e w' =>
      (numOk S (u64 (x r1.toNat + im)).toNat (widthF 12) 4 = true → e = .returned (.int .i64 0) ∧ HD m mm me (xset x rd (loadS 12 (loadV S (u64 (x r1.toNat + im)).toNat (widthF 12)))) (u64 (pc + 4)).toNat k c t w' F) ∧
      (numOk S (u64 (x r1.toNat + im)).toNat (widthF 12) 4 = false → e = .returned (.int .i64 3) ∧ HD m mm me x pc k c t w' F) ∧ Went F w F w' := by
  have HWd := hide (fun W => width_any' 12 W (by decide) (by decide))
  have him := hf.im
  have HPl := hide (fun W (hW : Below w.heap.size w W) => place_any 12 rd r1 r2 im W (h.below hW) (ini_of hf.r1) (by omega) (by omega))
  rw [rg_in hf.r1] at HPl
  have hub := u64_bd (x r1.toNat + im)
  generalize u64 (x r1.toNat + im) = a at *
  obtain ⟨p, rfl⟩ := Int.eq_ofNat_of_zero_le hub.1
  rw [Int.toNat_natCast]
  have hwd : widthF 12 = 2 := rfl
  rw [hwd] at HWd ⊢
  have HLd := hide (fun W (hW : Below w.heap.size w W) => load_any mm S G p 2 W (hP.below hW) (by omega) (by omega) (by omega))
  have hvb := loadV_bd hP.good p 2
  have HH := hide (fun W (hW : Below w.heap.size w W) => h.below hW)
  have hrd := ini_of hf.rd
  generalize loadV S p 2 = v at *
  generalize numOk S p 2 4 = ok at *
  clear hf hP hwd
  unfold inst
  have hXF : ¬ F w.heap.size := fun hf => by have := h.flt _ hf; omega
  have HXF := hide hXF
  clear hXF h
  cases ok with
  | false =>
    refine Calls.mono (?_ : Calls _ _ _ _ (fun e w' => e = .returned (.int .i64 3) ∧ HD m mm me x pc k c t w' F ∧ Went F w F w')) (by rintro e w' ⟨r1, r2, r3⟩; exact ⟨(fun h => by cases h), fun _ => ⟨r1, r2⟩, r3⟩)
    go_enter Tryz.func78, Tryz.ntmps78
    go_wp2_with fail
    refine (HWd.out _).mono ?_
    rintro e W ⟨rfl, rfl⟩
    go_wp2_with fail
    obtain ⟨X, hX⟩ : ∃ X, X = w.heap.size := ⟨_, rfl⟩
    rw [← hX]
    rw [← hX] at HXF
    obtain ⟨V, hV⟩ : ∃ V, V = w.alloc (.cells #[.int .i64 12, .int .i64 rd, .int .i64 r1, .int .i64 r2, .int .i64 im] 45) := ⟨_, rfl⟩
    rw [← hV]
    have hBV : Below w.heap.size w V := by rw [hV]; exact below_alloc _ _
    have hIX : InX V X 12 rd r1 r2 im := by rw [hV, hX]; exact InX.new _ _ _ _ _ _ _
    have hc0 := (HH.out V hBV).c0
    obtain ⟨i0, i1, i2, i3, i4⟩ := id hIX
    have HX := hide hIX
    have HB := hide hBV
    clear hIX hBV hV hX HWd
    have HP2 : Hid (∀ W, Below V.heap.size V W → Calls Tryz.prog 76 #[.pointer (some ⟨m, 0, none⟩), .agg #[.int .i64 12, .int .i64 rd, .int .i64 r1, .int .i64 r2, .int .i64 im]] W fun e w' => e = .returned (.int .u64 (p : Int)) ∧ Below V.heap.size V w' ∧ InX w' X 12 rd r1 r2 im ∧ w'.cell? ⟨m, 0, none⟩ = some (.pointer (some ⟨mm, 0, none⟩))) := fun W hW => by
      refine (HPl.out W (HB.out.trans (hW.mono HB.out.size))).mono ?_
      rintro e w' ⟨g1, g2⟩
      have g3 := hW.trans (g2.mono hW.size)
      exact ⟨g1, g3, HX.out.below g3, (HH.out w' (HB.out.trans (g3.mono HB.out.size))).c0⟩
    have HL2 : Hid (∀ W, Below V.heap.size V W → Calls Tryz.prog 114 #[.pointer (some ⟨mm, 0, none⟩), .int .u64 (p : Int), .int .i64 2] W fun e w' => e = .returned (.tuple #[.int .u64 v, .bool false]) ∧ Below V.heap.size V w' ∧ InX w' X 12 rd r1 r2 im ∧ w'.cell? ⟨m, 0, none⟩ = some (.pointer (some ⟨mm, 0, none⟩))) := fun W hW => by
      refine (HLd.out W (HB.out.trans (hW.mono HB.out.size))).mono ?_
      rintro e w' ⟨g1, g2⟩
      have g3 := hW.trans (g2.mono hW.size)
      exact ⟨g1, g3, HX.out.below g3, (HH.out w' (HB.out.trans (g3.mono HB.out.size))).c0⟩
    clear HPl HLd
    go_region_held3 (fun w' => w'.cell? ⟨X, 0, none⟩ = some (.int .i64 12) ∧ w'.cell? ⟨X, 1, none⟩ = some (.int .i64 rd) ∧ w'.cell? ⟨X, 2, none⟩ = some (.int .i64 r1) ∧ w'.cell? ⟨X, 3, none⟩ = some (.int .i64 r2) ∧ w'.cell? ⟨X, 4, none⟩ = some (.int .i64 im) ∧ w'.cell? ⟨m, 0, none⟩ = some (.pointer (some ⟨mm, 0, none⟩))) (go_keep)
      (first | (go_at_call 76; refine (HP2.out _ ((Below.refl _ _).drew)).mono ?_; rintro e W1 ⟨rfl, h5, h6, h7⟩; obtain ⟨j0, j1, j2, j3, j4⟩ := h6; have H5 := hide h5; clear h5) | (go_at_call 114; refine (HL2.out _ H5.out).mono ?_; rintro e W2 ⟨rfl, h8, h9, h10⟩; obtain ⟨l0, l1, l2, l3, l4⟩ := h9; have H8 := hide h8; clear h8))
    have H : Hid (HD m mm me x pc k c t W2 F ∧ Went F w F W2) :=
      have g := HB.out.trans (H8.out.mono HB.out.size)
      ⟨HH.out _ g, went_below g F⟩
    clear HP2 HL2 H5 H8 HH HB HX HXF
    go_wp2
    go_ret
    exact ⟨rfl, H.out.1, H.out.2⟩
  | true =>
    refine Calls.mono (?_ : Calls _ _ _ _ (fun e w' => e = .returned (.int .i64 0) ∧ HD m mm me (xset x rd (loadS 12 v)) (u64 (pc + 4)).toNat k c t w' F ∧ Went F w F w')) (by rintro e w' ⟨r1, r2, r3⟩; exact ⟨fun _ => ⟨r1, r2⟩, (fun h => by cases h), r3⟩)
    have hsb := loadS_bd 12 hvb
    have hv : IntKind.u64.wrap (wrap64 (IntKind.u64.wrap (v * 281474976710656)) / 281474976710656) = loadS 12 v := ls16 v
    generalize loadS 12 v = u at *
    go_enter Tryz.func78, Tryz.ntmps78
    go_wp2_with fail
    refine (HWd.out _).mono ?_
    rintro e W ⟨rfl, rfl⟩
    go_wp2_with fail
    obtain ⟨X, hX⟩ : ∃ X, X = w.heap.size := ⟨_, rfl⟩
    rw [← hX]
    rw [← hX] at HXF
    obtain ⟨V, hV⟩ : ∃ V, V = w.alloc (.cells #[.int .i64 12, .int .i64 rd, .int .i64 r1, .int .i64 r2, .int .i64 im] 45) := ⟨_, rfl⟩
    rw [← hV]
    have hBV : Below w.heap.size w V := by rw [hV]; exact below_alloc _ _
    have hIX : InX V X 12 rd r1 r2 im := by rw [hV, hX]; exact InX.new _ _ _ _ _ _ _
    have hc0 := (HH.out V hBV).c0
    obtain ⟨i0, i1, i2, i3, i4⟩ := id hIX
    have HX := hide hIX
    have HB := hide hBV
    clear hIX hBV hV hX HWd
    have HP2 : Hid (∀ W, Below V.heap.size V W → Calls Tryz.prog 76 #[.pointer (some ⟨m, 0, none⟩), .agg #[.int .i64 12, .int .i64 rd, .int .i64 r1, .int .i64 r2, .int .i64 im]] W fun e w' => e = .returned (.int .u64 (p : Int)) ∧ Below V.heap.size V w' ∧ InX w' X 12 rd r1 r2 im ∧ w'.cell? ⟨m, 0, none⟩ = some (.pointer (some ⟨mm, 0, none⟩))) := fun W hW => by
      refine (HPl.out W (HB.out.trans (hW.mono HB.out.size))).mono ?_
      rintro e w' ⟨g1, g2⟩
      have g3 := hW.trans (g2.mono hW.size)
      exact ⟨g1, g3, HX.out.below g3, (HH.out w' (HB.out.trans (g3.mono HB.out.size))).c0⟩
    have HL2 : Hid (∀ W, Below V.heap.size V W → Calls Tryz.prog 114 #[.pointer (some ⟨mm, 0, none⟩), .int .u64 (p : Int), .int .i64 2] W fun e w' => e = .returned (.tuple #[.int .u64 v, .bool true]) ∧ Below V.heap.size V w' ∧ InX w' X 12 rd r1 r2 im ∧ w'.cell? ⟨m, 0, none⟩ = some (.pointer (some ⟨mm, 0, none⟩))) := fun W hW => by
      refine (HLd.out W (HB.out.trans (hW.mono HB.out.size))).mono ?_
      rintro e w' ⟨g1, g2⟩
      have g3 := hW.trans (g2.mono hW.size)
      exact ⟨g1, g3, HX.out.below g3, (HH.out w' (HB.out.trans (g3.mono HB.out.size))).c0⟩
    clear HPl HLd
    go_region_held3 (fun w' => w'.cell? ⟨X, 0, none⟩ = some (.int .i64 12) ∧ w'.cell? ⟨X, 1, none⟩ = some (.int .i64 rd) ∧ w'.cell? ⟨X, 2, none⟩ = some (.int .i64 r1) ∧ w'.cell? ⟨X, 3, none⟩ = some (.int .i64 r2) ∧ w'.cell? ⟨X, 4, none⟩ = some (.int .i64 im) ∧ w'.cell? ⟨m, 0, none⟩ = some (.pointer (some ⟨mm, 0, none⟩))) (go_keep)
      (first | (go_at_call 76; refine (HP2.out _ ((Below.refl _ _).drew)).mono ?_; rintro e W1 ⟨rfl, h5, h6, h7⟩; obtain ⟨j0, j1, j2, j3, j4⟩ := h6; have H5 := hide h5; clear h5) | (go_at_call 114; refine (HL2.out _ H5.out).mono ?_; rintro e W2 ⟨rfl, h8, h9, h10⟩; obtain ⟨l0, l1, l2, l3, l4⟩ := h9; have H8 := hide h8; clear h8))
    have HPu := hide (put_reg rd u W2 (HH.out _ (HB.out.trans (H8.out.mono HB.out.size))) hrd hsb)
    have HWn := hide (went_below (HB.out.trans (H8.out.mono HB.out.size)) F)
    clear HP2 HL2 H5 H8 HH HB HX HXF hsb
    go_wp2_with fail
    refine HPu.out.mono ?_
    rintro e W3 ⟨rfl, h8, h9⟩
    have H := hide (And.intro h8 (HWn.out.trans h9))
    clear h8 h9 HPu HWn
    go_wp2
    go_ret
    exact ⟨rfl, H.out.1, H.out.2⟩

set_option maxHeartbeats 1600000 in
theorem load_13 (rd r1 r2 im : Int) (w : World) (h : HD m mm me x pc k c t w F) (hP : PM w mm S G) (hf : Fit5 rd r1 r2 im) :
    Calls Tryz.prog 78 #[.pointer (some ⟨m, 0, none⟩), inst 13 rd r1 r2 im] w fun e w' =>
      (numOk S (u64 (x r1.toNat + im)).toNat (widthF 13) 4 = true → e = .returned (.int .i64 0) ∧ HD m mm me (xset x rd (loadS 13 (loadV S (u64 (x r1.toNat + im)).toNat (widthF 13)))) (u64 (pc + 4)).toNat k c t w' F) ∧
      (numOk S (u64 (x r1.toNat + im)).toNat (widthF 13) 4 = false → e = .returned (.int .i64 3) ∧ HD m mm me x pc k c t w' F) ∧ Went F w F w' := by
  have HWd := hide (fun W => width_any' 13 W (by decide) (by decide))
  have him := hf.im
  have HPl := hide (fun W (hW : Below w.heap.size w W) => place_any 13 rd r1 r2 im W (h.below hW) (ini_of hf.r1) (by omega) (by omega))
  rw [rg_in hf.r1] at HPl
  have hub := u64_bd (x r1.toNat + im)
  generalize u64 (x r1.toNat + im) = a at *
  obtain ⟨p, rfl⟩ := Int.eq_ofNat_of_zero_le hub.1
  rw [Int.toNat_natCast]
  have hwd : widthF 13 = 4 := rfl
  rw [hwd] at HWd ⊢
  have HLd := hide (fun W (hW : Below w.heap.size w W) => load_any mm S G p 4 W (hP.below hW) (by omega) (by omega) (by omega))
  have hvb := loadV_bd hP.good p 4
  have HH := hide (fun W (hW : Below w.heap.size w W) => h.below hW)
  have hrd := ini_of hf.rd
  generalize loadV S p 4 = v at *
  generalize numOk S p 4 4 = ok at *
  clear hf hP hwd
  unfold inst
  have hXF : ¬ F w.heap.size := fun hf => by have := h.flt _ hf; omega
  have HXF := hide hXF
  clear hXF h
  cases ok with
  | false =>
    refine Calls.mono (?_ : Calls _ _ _ _ (fun e w' => e = .returned (.int .i64 3) ∧ HD m mm me x pc k c t w' F ∧ Went F w F w')) (by rintro e w' ⟨r1, r2, r3⟩; exact ⟨(fun h => by cases h), fun _ => ⟨r1, r2⟩, r3⟩)
    go_enter Tryz.func78, Tryz.ntmps78
    go_wp2_with fail
    refine (HWd.out _).mono ?_
    rintro e W ⟨rfl, rfl⟩
    go_wp2_with fail
    obtain ⟨X, hX⟩ : ∃ X, X = w.heap.size := ⟨_, rfl⟩
    rw [← hX]
    rw [← hX] at HXF
    obtain ⟨V, hV⟩ : ∃ V, V = w.alloc (.cells #[.int .i64 13, .int .i64 rd, .int .i64 r1, .int .i64 r2, .int .i64 im] 45) := ⟨_, rfl⟩
    rw [← hV]
    have hBV : Below w.heap.size w V := by rw [hV]; exact below_alloc _ _
    have hIX : InX V X 13 rd r1 r2 im := by rw [hV, hX]; exact InX.new _ _ _ _ _ _ _
    have hc0 := (HH.out V hBV).c0
    obtain ⟨i0, i1, i2, i3, i4⟩ := id hIX
    have HX := hide hIX
    have HB := hide hBV
    clear hIX hBV hV hX HWd
    have HP2 : Hid (∀ W, Below V.heap.size V W → Calls Tryz.prog 76 #[.pointer (some ⟨m, 0, none⟩), .agg #[.int .i64 13, .int .i64 rd, .int .i64 r1, .int .i64 r2, .int .i64 im]] W fun e w' => e = .returned (.int .u64 (p : Int)) ∧ Below V.heap.size V w' ∧ InX w' X 13 rd r1 r2 im ∧ w'.cell? ⟨m, 0, none⟩ = some (.pointer (some ⟨mm, 0, none⟩))) := fun W hW => by
      refine (HPl.out W (HB.out.trans (hW.mono HB.out.size))).mono ?_
      rintro e w' ⟨g1, g2⟩
      have g3 := hW.trans (g2.mono hW.size)
      exact ⟨g1, g3, HX.out.below g3, (HH.out w' (HB.out.trans (g3.mono HB.out.size))).c0⟩
    have HL2 : Hid (∀ W, Below V.heap.size V W → Calls Tryz.prog 114 #[.pointer (some ⟨mm, 0, none⟩), .int .u64 (p : Int), .int .i64 4] W fun e w' => e = .returned (.tuple #[.int .u64 v, .bool false]) ∧ Below V.heap.size V w' ∧ InX w' X 13 rd r1 r2 im ∧ w'.cell? ⟨m, 0, none⟩ = some (.pointer (some ⟨mm, 0, none⟩))) := fun W hW => by
      refine (HLd.out W (HB.out.trans (hW.mono HB.out.size))).mono ?_
      rintro e w' ⟨g1, g2⟩
      have g3 := hW.trans (g2.mono hW.size)
      exact ⟨g1, g3, HX.out.below g3, (HH.out w' (HB.out.trans (g3.mono HB.out.size))).c0⟩
    clear HPl HLd
    go_region_held3 (fun w' => w'.cell? ⟨X, 0, none⟩ = some (.int .i64 13) ∧ w'.cell? ⟨X, 1, none⟩ = some (.int .i64 rd) ∧ w'.cell? ⟨X, 2, none⟩ = some (.int .i64 r1) ∧ w'.cell? ⟨X, 3, none⟩ = some (.int .i64 r2) ∧ w'.cell? ⟨X, 4, none⟩ = some (.int .i64 im) ∧ w'.cell? ⟨m, 0, none⟩ = some (.pointer (some ⟨mm, 0, none⟩))) (go_keep)
      (first | (go_at_call 76; refine (HP2.out _ ((Below.refl _ _).drew)).mono ?_; rintro e W1 ⟨rfl, h5, h6, h7⟩; obtain ⟨j0, j1, j2, j3, j4⟩ := h6; have H5 := hide h5; clear h5) | (go_at_call 114; refine (HL2.out _ H5.out).mono ?_; rintro e W2 ⟨rfl, h8, h9, h10⟩; obtain ⟨l0, l1, l2, l3, l4⟩ := h9; have H8 := hide h8; clear h8))
    have H : Hid (HD m mm me x pc k c t W2 F ∧ Went F w F W2) :=
      have g := HB.out.trans (H8.out.mono HB.out.size)
      ⟨HH.out _ g, went_below g F⟩
    clear HP2 HL2 H5 H8 HH HB HX HXF
    go_wp2
    go_ret
    exact ⟨rfl, H.out.1, H.out.2⟩
  | true =>
    refine Calls.mono (?_ : Calls _ _ _ _ (fun e w' => e = .returned (.int .i64 0) ∧ HD m mm me (xset x rd (loadS 13 v)) (u64 (pc + 4)).toNat k c t w' F ∧ Went F w F w')) (by rintro e w' ⟨r1, r2, r3⟩; exact ⟨fun _ => ⟨r1, r2⟩, (fun h => by cases h), r3⟩)
    have hsb := loadS_bd 13 hvb
    have hv : IntKind.u64.wrap (wrap64 (IntKind.u64.wrap (v * 4294967296)) / 4294967296) = loadS 13 v := ls32 v
    generalize loadS 13 v = u at *
    go_enter Tryz.func78, Tryz.ntmps78
    go_wp2_with fail
    refine (HWd.out _).mono ?_
    rintro e W ⟨rfl, rfl⟩
    go_wp2_with fail
    obtain ⟨X, hX⟩ : ∃ X, X = w.heap.size := ⟨_, rfl⟩
    rw [← hX]
    rw [← hX] at HXF
    obtain ⟨V, hV⟩ : ∃ V, V = w.alloc (.cells #[.int .i64 13, .int .i64 rd, .int .i64 r1, .int .i64 r2, .int .i64 im] 45) := ⟨_, rfl⟩
    rw [← hV]
    have hBV : Below w.heap.size w V := by rw [hV]; exact below_alloc _ _
    have hIX : InX V X 13 rd r1 r2 im := by rw [hV, hX]; exact InX.new _ _ _ _ _ _ _
    have hc0 := (HH.out V hBV).c0
    obtain ⟨i0, i1, i2, i3, i4⟩ := id hIX
    have HX := hide hIX
    have HB := hide hBV
    clear hIX hBV hV hX HWd
    have HP2 : Hid (∀ W, Below V.heap.size V W → Calls Tryz.prog 76 #[.pointer (some ⟨m, 0, none⟩), .agg #[.int .i64 13, .int .i64 rd, .int .i64 r1, .int .i64 r2, .int .i64 im]] W fun e w' => e = .returned (.int .u64 (p : Int)) ∧ Below V.heap.size V w' ∧ InX w' X 13 rd r1 r2 im ∧ w'.cell? ⟨m, 0, none⟩ = some (.pointer (some ⟨mm, 0, none⟩))) := fun W hW => by
      refine (HPl.out W (HB.out.trans (hW.mono HB.out.size))).mono ?_
      rintro e w' ⟨g1, g2⟩
      have g3 := hW.trans (g2.mono hW.size)
      exact ⟨g1, g3, HX.out.below g3, (HH.out w' (HB.out.trans (g3.mono HB.out.size))).c0⟩
    have HL2 : Hid (∀ W, Below V.heap.size V W → Calls Tryz.prog 114 #[.pointer (some ⟨mm, 0, none⟩), .int .u64 (p : Int), .int .i64 4] W fun e w' => e = .returned (.tuple #[.int .u64 v, .bool true]) ∧ Below V.heap.size V w' ∧ InX w' X 13 rd r1 r2 im ∧ w'.cell? ⟨m, 0, none⟩ = some (.pointer (some ⟨mm, 0, none⟩))) := fun W hW => by
      refine (HLd.out W (HB.out.trans (hW.mono HB.out.size))).mono ?_
      rintro e w' ⟨g1, g2⟩
      have g3 := hW.trans (g2.mono hW.size)
      exact ⟨g1, g3, HX.out.below g3, (HH.out w' (HB.out.trans (g3.mono HB.out.size))).c0⟩
    clear HPl HLd
    go_region_held3 (fun w' => w'.cell? ⟨X, 0, none⟩ = some (.int .i64 13) ∧ w'.cell? ⟨X, 1, none⟩ = some (.int .i64 rd) ∧ w'.cell? ⟨X, 2, none⟩ = some (.int .i64 r1) ∧ w'.cell? ⟨X, 3, none⟩ = some (.int .i64 r2) ∧ w'.cell? ⟨X, 4, none⟩ = some (.int .i64 im) ∧ w'.cell? ⟨m, 0, none⟩ = some (.pointer (some ⟨mm, 0, none⟩))) (go_keep)
      (first | (go_at_call 76; refine (HP2.out _ ((Below.refl _ _).drew)).mono ?_; rintro e W1 ⟨rfl, h5, h6, h7⟩; obtain ⟨j0, j1, j2, j3, j4⟩ := h6; have H5 := hide h5; clear h5) | (go_at_call 114; refine (HL2.out _ H5.out).mono ?_; rintro e W2 ⟨rfl, h8, h9, h10⟩; obtain ⟨l0, l1, l2, l3, l4⟩ := h9; have H8 := hide h8; clear h8))
    have HPu := hide (put_reg rd u W2 (HH.out _ (HB.out.trans (H8.out.mono HB.out.size))) hrd hsb)
    have HWn := hide (went_below (HB.out.trans (H8.out.mono HB.out.size)) F)
    clear HP2 HL2 H5 H8 HH HB HX HXF hsb
    go_wp2_with fail
    refine HPu.out.mono ?_
    rintro e W3 ⟨rfl, h8, h9⟩
    have H := hide (And.intro h8 (HWn.out.trans h9))
    clear h8 h9 HPu HWn
    go_wp2
    go_ret
    exact ⟨rfl, H.out.1, H.out.2⟩

set_option maxHeartbeats 1600000 in
theorem load_14 (rd r1 r2 im : Int) (w : World) (h : HD m mm me x pc k c t w F) (hP : PM w mm S G) (hf : Fit5 rd r1 r2 im) :
    Calls Tryz.prog 78 #[.pointer (some ⟨m, 0, none⟩), inst 14 rd r1 r2 im] w fun e w' =>
      (numOk S (u64 (x r1.toNat + im)).toNat (widthF 14) 4 = true → e = .returned (.int .i64 0) ∧ HD m mm me (xset x rd (loadS 14 (loadV S (u64 (x r1.toNat + im)).toNat (widthF 14)))) (u64 (pc + 4)).toNat k c t w' F) ∧
      (numOk S (u64 (x r1.toNat + im)).toNat (widthF 14) 4 = false → e = .returned (.int .i64 3) ∧ HD m mm me x pc k c t w' F) ∧ Went F w F w' := by
  have HWd := hide (fun W => width_any' 14 W (by decide) (by decide))
  have him := hf.im
  have HPl := hide (fun W (hW : Below w.heap.size w W) => place_any 14 rd r1 r2 im W (h.below hW) (ini_of hf.r1) (by omega) (by omega))
  rw [rg_in hf.r1] at HPl
  have hub := u64_bd (x r1.toNat + im)
  generalize u64 (x r1.toNat + im) = a at *
  obtain ⟨p, rfl⟩ := Int.eq_ofNat_of_zero_le hub.1
  rw [Int.toNat_natCast]
  have hwd : widthF 14 = 8 := rfl
  rw [hwd] at HWd ⊢
  have HLd := hide (fun W (hW : Below w.heap.size w W) => load_any mm S G p 8 W (hP.below hW) (by omega) (by omega) (by omega))
  have hvb := loadV_bd hP.good p 8
  have HH := hide (fun W (hW : Below w.heap.size w W) => h.below hW)
  have hrd := ini_of hf.rd
  generalize loadV S p 8 = v at *
  generalize numOk S p 8 4 = ok at *
  clear hf hP hwd
  unfold inst
  have hXF : ¬ F w.heap.size := fun hf => by have := h.flt _ hf; omega
  have HXF := hide hXF
  clear hXF h
  cases ok with
  | false =>
    refine Calls.mono (?_ : Calls _ _ _ _ (fun e w' => e = .returned (.int .i64 3) ∧ HD m mm me x pc k c t w' F ∧ Went F w F w')) (by rintro e w' ⟨r1, r2, r3⟩; exact ⟨(fun h => by cases h), fun _ => ⟨r1, r2⟩, r3⟩)
    go_enter Tryz.func78, Tryz.ntmps78
    go_wp2_with fail
    refine (HWd.out _).mono ?_
    rintro e W ⟨rfl, rfl⟩
    go_wp2_with fail
    obtain ⟨X, hX⟩ : ∃ X, X = w.heap.size := ⟨_, rfl⟩
    rw [← hX]
    rw [← hX] at HXF
    obtain ⟨V, hV⟩ : ∃ V, V = w.alloc (.cells #[.int .i64 14, .int .i64 rd, .int .i64 r1, .int .i64 r2, .int .i64 im] 45) := ⟨_, rfl⟩
    rw [← hV]
    have hBV : Below w.heap.size w V := by rw [hV]; exact below_alloc _ _
    have hIX : InX V X 14 rd r1 r2 im := by rw [hV, hX]; exact InX.new _ _ _ _ _ _ _
    have hc0 := (HH.out V hBV).c0
    obtain ⟨i0, i1, i2, i3, i4⟩ := id hIX
    have HX := hide hIX
    have HB := hide hBV
    clear hIX hBV hV hX HWd
    have HP2 : Hid (∀ W, Below V.heap.size V W → Calls Tryz.prog 76 #[.pointer (some ⟨m, 0, none⟩), .agg #[.int .i64 14, .int .i64 rd, .int .i64 r1, .int .i64 r2, .int .i64 im]] W fun e w' => e = .returned (.int .u64 (p : Int)) ∧ Below V.heap.size V w' ∧ InX w' X 14 rd r1 r2 im ∧ w'.cell? ⟨m, 0, none⟩ = some (.pointer (some ⟨mm, 0, none⟩))) := fun W hW => by
      refine (HPl.out W (HB.out.trans (hW.mono HB.out.size))).mono ?_
      rintro e w' ⟨g1, g2⟩
      have g3 := hW.trans (g2.mono hW.size)
      exact ⟨g1, g3, HX.out.below g3, (HH.out w' (HB.out.trans (g3.mono HB.out.size))).c0⟩
    have HL2 : Hid (∀ W, Below V.heap.size V W → Calls Tryz.prog 114 #[.pointer (some ⟨mm, 0, none⟩), .int .u64 (p : Int), .int .i64 8] W fun e w' => e = .returned (.tuple #[.int .u64 v, .bool false]) ∧ Below V.heap.size V w' ∧ InX w' X 14 rd r1 r2 im ∧ w'.cell? ⟨m, 0, none⟩ = some (.pointer (some ⟨mm, 0, none⟩))) := fun W hW => by
      refine (HLd.out W (HB.out.trans (hW.mono HB.out.size))).mono ?_
      rintro e w' ⟨g1, g2⟩
      have g3 := hW.trans (g2.mono hW.size)
      exact ⟨g1, g3, HX.out.below g3, (HH.out w' (HB.out.trans (g3.mono HB.out.size))).c0⟩
    clear HPl HLd
    go_region_held3 (fun w' => w'.cell? ⟨X, 0, none⟩ = some (.int .i64 14) ∧ w'.cell? ⟨X, 1, none⟩ = some (.int .i64 rd) ∧ w'.cell? ⟨X, 2, none⟩ = some (.int .i64 r1) ∧ w'.cell? ⟨X, 3, none⟩ = some (.int .i64 r2) ∧ w'.cell? ⟨X, 4, none⟩ = some (.int .i64 im) ∧ w'.cell? ⟨m, 0, none⟩ = some (.pointer (some ⟨mm, 0, none⟩))) (go_keep)
      (first | (go_at_call 76; refine (HP2.out _ ((Below.refl _ _).drew)).mono ?_; rintro e W1 ⟨rfl, h5, h6, h7⟩; obtain ⟨j0, j1, j2, j3, j4⟩ := h6; have H5 := hide h5; clear h5) | (go_at_call 114; refine (HL2.out _ H5.out).mono ?_; rintro e W2 ⟨rfl, h8, h9, h10⟩; obtain ⟨l0, l1, l2, l3, l4⟩ := h9; have H8 := hide h8; clear h8))
    have H : Hid (HD m mm me x pc k c t W2 F ∧ Went F w F W2) :=
      have g := HB.out.trans (H8.out.mono HB.out.size)
      ⟨HH.out _ g, went_below g F⟩
    clear HP2 HL2 H5 H8 HH HB HX HXF
    go_wp2
    go_ret
    exact ⟨rfl, H.out.1, H.out.2⟩
  | true =>
    refine Calls.mono (?_ : Calls _ _ _ _ (fun e w' => e = .returned (.int .i64 0) ∧ HD m mm me (xset x rd (loadS 14 v)) (u64 (pc + 4)).toNat k c t w' F ∧ Went F w F w')) (by rintro e w' ⟨r1, r2, r3⟩; exact ⟨fun _ => ⟨r1, r2⟩, (fun h => by cases h), r3⟩)
    rw [show loadS 14 v = v from rfl]
    have hsb := hvb
    go_enter Tryz.func78, Tryz.ntmps78
    go_wp2_with fail
    refine (HWd.out _).mono ?_
    rintro e W ⟨rfl, rfl⟩
    go_wp2_with fail
    obtain ⟨X, hX⟩ : ∃ X, X = w.heap.size := ⟨_, rfl⟩
    rw [← hX]
    rw [← hX] at HXF
    obtain ⟨V, hV⟩ : ∃ V, V = w.alloc (.cells #[.int .i64 14, .int .i64 rd, .int .i64 r1, .int .i64 r2, .int .i64 im] 45) := ⟨_, rfl⟩
    rw [← hV]
    have hBV : Below w.heap.size w V := by rw [hV]; exact below_alloc _ _
    have hIX : InX V X 14 rd r1 r2 im := by rw [hV, hX]; exact InX.new _ _ _ _ _ _ _
    have hc0 := (HH.out V hBV).c0
    obtain ⟨i0, i1, i2, i3, i4⟩ := id hIX
    have HX := hide hIX
    have HB := hide hBV
    clear hIX hBV hV hX HWd
    have HP2 : Hid (∀ W, Below V.heap.size V W → Calls Tryz.prog 76 #[.pointer (some ⟨m, 0, none⟩), .agg #[.int .i64 14, .int .i64 rd, .int .i64 r1, .int .i64 r2, .int .i64 im]] W fun e w' => e = .returned (.int .u64 (p : Int)) ∧ Below V.heap.size V w' ∧ InX w' X 14 rd r1 r2 im ∧ w'.cell? ⟨m, 0, none⟩ = some (.pointer (some ⟨mm, 0, none⟩))) := fun W hW => by
      refine (HPl.out W (HB.out.trans (hW.mono HB.out.size))).mono ?_
      rintro e w' ⟨g1, g2⟩
      have g3 := hW.trans (g2.mono hW.size)
      exact ⟨g1, g3, HX.out.below g3, (HH.out w' (HB.out.trans (g3.mono HB.out.size))).c0⟩
    have HL2 : Hid (∀ W, Below V.heap.size V W → Calls Tryz.prog 114 #[.pointer (some ⟨mm, 0, none⟩), .int .u64 (p : Int), .int .i64 8] W fun e w' => e = .returned (.tuple #[.int .u64 v, .bool true]) ∧ Below V.heap.size V w' ∧ InX w' X 14 rd r1 r2 im ∧ w'.cell? ⟨m, 0, none⟩ = some (.pointer (some ⟨mm, 0, none⟩))) := fun W hW => by
      refine (HLd.out W (HB.out.trans (hW.mono HB.out.size))).mono ?_
      rintro e w' ⟨g1, g2⟩
      have g3 := hW.trans (g2.mono hW.size)
      exact ⟨g1, g3, HX.out.below g3, (HH.out w' (HB.out.trans (g3.mono HB.out.size))).c0⟩
    clear HPl HLd
    go_region_held3 (fun w' => w'.cell? ⟨X, 0, none⟩ = some (.int .i64 14) ∧ w'.cell? ⟨X, 1, none⟩ = some (.int .i64 rd) ∧ w'.cell? ⟨X, 2, none⟩ = some (.int .i64 r1) ∧ w'.cell? ⟨X, 3, none⟩ = some (.int .i64 r2) ∧ w'.cell? ⟨X, 4, none⟩ = some (.int .i64 im) ∧ w'.cell? ⟨m, 0, none⟩ = some (.pointer (some ⟨mm, 0, none⟩))) (go_keep)
      (first | (go_at_call 76; refine (HP2.out _ ((Below.refl _ _).drew)).mono ?_; rintro e W1 ⟨rfl, h5, h6, h7⟩; obtain ⟨j0, j1, j2, j3, j4⟩ := h6; have H5 := hide h5; clear h5) | (go_at_call 114; refine (HL2.out _ H5.out).mono ?_; rintro e W2 ⟨rfl, h8, h9, h10⟩; obtain ⟨l0, l1, l2, l3, l4⟩ := h9; have H8 := hide h8; clear h8))
    have HPu := hide (put_reg rd v W2 (HH.out _ (HB.out.trans (H8.out.mono HB.out.size))) hrd hsb)
    have HWn := hide (went_below (HB.out.trans (H8.out.mono HB.out.size)) F)
    clear HP2 HL2 H5 H8 HH HB HX HXF hsb
    go_wp2_with fail
    refine HPu.out.mono ?_
    rintro e W3 ⟨rfl, h8, h9⟩
    have H := hide (And.intro h8 (HWn.out.trans h9))
    clear h8 h9 HPu HWn
    go_wp2
    go_ret
    exact ⟨rfl, H.out.1, H.out.2⟩

set_option maxHeartbeats 1600000 in
theorem load_15 (rd r1 r2 im : Int) (w : World) (h : HD m mm me x pc k c t w F) (hP : PM w mm S G) (hf : Fit5 rd r1 r2 im) :
    Calls Tryz.prog 78 #[.pointer (some ⟨m, 0, none⟩), inst 15 rd r1 r2 im] w fun e w' =>
      (numOk S (u64 (x r1.toNat + im)).toNat (widthF 15) 4 = true → e = .returned (.int .i64 0) ∧ HD m mm me (xset x rd (loadS 15 (loadV S (u64 (x r1.toNat + im)).toNat (widthF 15)))) (u64 (pc + 4)).toNat k c t w' F) ∧
      (numOk S (u64 (x r1.toNat + im)).toNat (widthF 15) 4 = false → e = .returned (.int .i64 3) ∧ HD m mm me x pc k c t w' F) ∧ Went F w F w' := by
  have HWd := hide (fun W => width_any' 15 W (by decide) (by decide))
  have him := hf.im
  have HPl := hide (fun W (hW : Below w.heap.size w W) => place_any 15 rd r1 r2 im W (h.below hW) (ini_of hf.r1) (by omega) (by omega))
  rw [rg_in hf.r1] at HPl
  have hub := u64_bd (x r1.toNat + im)
  generalize u64 (x r1.toNat + im) = a at *
  obtain ⟨p, rfl⟩ := Int.eq_ofNat_of_zero_le hub.1
  rw [Int.toNat_natCast]
  have hwd : widthF 15 = 1 := rfl
  rw [hwd] at HWd ⊢
  have HLd := hide (fun W (hW : Below w.heap.size w W) => load_any mm S G p 1 W (hP.below hW) (by omega) (by omega) (by omega))
  have hvb := loadV_bd hP.good p 1
  have HH := hide (fun W (hW : Below w.heap.size w W) => h.below hW)
  have hrd := ini_of hf.rd
  generalize loadV S p 1 = v at *
  generalize numOk S p 1 4 = ok at *
  clear hf hP hwd
  unfold inst
  have hXF : ¬ F w.heap.size := fun hf => by have := h.flt _ hf; omega
  have HXF := hide hXF
  clear hXF h
  cases ok with
  | false =>
    refine Calls.mono (?_ : Calls _ _ _ _ (fun e w' => e = .returned (.int .i64 3) ∧ HD m mm me x pc k c t w' F ∧ Went F w F w')) (by rintro e w' ⟨r1, r2, r3⟩; exact ⟨(fun h => by cases h), fun _ => ⟨r1, r2⟩, r3⟩)
    go_enter Tryz.func78, Tryz.ntmps78
    go_wp2_with fail
    refine (HWd.out _).mono ?_
    rintro e W ⟨rfl, rfl⟩
    go_wp2_with fail
    obtain ⟨X, hX⟩ : ∃ X, X = w.heap.size := ⟨_, rfl⟩
    rw [← hX]
    rw [← hX] at HXF
    obtain ⟨V, hV⟩ : ∃ V, V = w.alloc (.cells #[.int .i64 15, .int .i64 rd, .int .i64 r1, .int .i64 r2, .int .i64 im] 45) := ⟨_, rfl⟩
    rw [← hV]
    have hBV : Below w.heap.size w V := by rw [hV]; exact below_alloc _ _
    have hIX : InX V X 15 rd r1 r2 im := by rw [hV, hX]; exact InX.new _ _ _ _ _ _ _
    have hc0 := (HH.out V hBV).c0
    obtain ⟨i0, i1, i2, i3, i4⟩ := id hIX
    have HX := hide hIX
    have HB := hide hBV
    clear hIX hBV hV hX HWd
    have HP2 : Hid (∀ W, Below V.heap.size V W → Calls Tryz.prog 76 #[.pointer (some ⟨m, 0, none⟩), .agg #[.int .i64 15, .int .i64 rd, .int .i64 r1, .int .i64 r2, .int .i64 im]] W fun e w' => e = .returned (.int .u64 (p : Int)) ∧ Below V.heap.size V w' ∧ InX w' X 15 rd r1 r2 im ∧ w'.cell? ⟨m, 0, none⟩ = some (.pointer (some ⟨mm, 0, none⟩))) := fun W hW => by
      refine (HPl.out W (HB.out.trans (hW.mono HB.out.size))).mono ?_
      rintro e w' ⟨g1, g2⟩
      have g3 := hW.trans (g2.mono hW.size)
      exact ⟨g1, g3, HX.out.below g3, (HH.out w' (HB.out.trans (g3.mono HB.out.size))).c0⟩
    have HL2 : Hid (∀ W, Below V.heap.size V W → Calls Tryz.prog 114 #[.pointer (some ⟨mm, 0, none⟩), .int .u64 (p : Int), .int .i64 1] W fun e w' => e = .returned (.tuple #[.int .u64 v, .bool false]) ∧ Below V.heap.size V w' ∧ InX w' X 15 rd r1 r2 im ∧ w'.cell? ⟨m, 0, none⟩ = some (.pointer (some ⟨mm, 0, none⟩))) := fun W hW => by
      refine (HLd.out W (HB.out.trans (hW.mono HB.out.size))).mono ?_
      rintro e w' ⟨g1, g2⟩
      have g3 := hW.trans (g2.mono hW.size)
      exact ⟨g1, g3, HX.out.below g3, (HH.out w' (HB.out.trans (g3.mono HB.out.size))).c0⟩
    clear HPl HLd
    go_region_held3 (fun w' => w'.cell? ⟨X, 0, none⟩ = some (.int .i64 15) ∧ w'.cell? ⟨X, 1, none⟩ = some (.int .i64 rd) ∧ w'.cell? ⟨X, 2, none⟩ = some (.int .i64 r1) ∧ w'.cell? ⟨X, 3, none⟩ = some (.int .i64 r2) ∧ w'.cell? ⟨X, 4, none⟩ = some (.int .i64 im) ∧ w'.cell? ⟨m, 0, none⟩ = some (.pointer (some ⟨mm, 0, none⟩))) (go_keep)
      (first | (go_at_call 76; refine (HP2.out _ ((Below.refl _ _).drew)).mono ?_; rintro e W1 ⟨rfl, h5, h6, h7⟩; obtain ⟨j0, j1, j2, j3, j4⟩ := h6; have H5 := hide h5; clear h5) | (go_at_call 114; refine (HL2.out _ H5.out).mono ?_; rintro e W2 ⟨rfl, h8, h9, h10⟩; obtain ⟨l0, l1, l2, l3, l4⟩ := h9; have H8 := hide h8; clear h8))
    have H : Hid (HD m mm me x pc k c t W2 F ∧ Went F w F W2) :=
      have g := HB.out.trans (H8.out.mono HB.out.size)
      ⟨HH.out _ g, went_below g F⟩
    clear HP2 HL2 H5 H8 HH HB HX HXF
    go_wp2
    go_ret
    exact ⟨rfl, H.out.1, H.out.2⟩
  | true =>
    refine Calls.mono (?_ : Calls _ _ _ _ (fun e w' => e = .returned (.int .i64 0) ∧ HD m mm me (xset x rd (loadS 15 v)) (u64 (pc + 4)).toNat k c t w' F ∧ Went F w F w')) (by rintro e w' ⟨r1, r2, r3⟩; exact ⟨fun _ => ⟨r1, r2⟩, (fun h => by cases h), r3⟩)
    rw [show loadS 15 v = v from rfl]
    have hsb := hvb
    go_enter Tryz.func78, Tryz.ntmps78
    go_wp2_with fail
    refine (HWd.out _).mono ?_
    rintro e W ⟨rfl, rfl⟩
    go_wp2_with fail
    obtain ⟨X, hX⟩ : ∃ X, X = w.heap.size := ⟨_, rfl⟩
    rw [← hX]
    rw [← hX] at HXF
    obtain ⟨V, hV⟩ : ∃ V, V = w.alloc (.cells #[.int .i64 15, .int .i64 rd, .int .i64 r1, .int .i64 r2, .int .i64 im] 45) := ⟨_, rfl⟩
    rw [← hV]
    have hBV : Below w.heap.size w V := by rw [hV]; exact below_alloc _ _
    have hIX : InX V X 15 rd r1 r2 im := by rw [hV, hX]; exact InX.new _ _ _ _ _ _ _
    have hc0 := (HH.out V hBV).c0
    obtain ⟨i0, i1, i2, i3, i4⟩ := id hIX
    have HX := hide hIX
    have HB := hide hBV
    clear hIX hBV hV hX HWd
    have HP2 : Hid (∀ W, Below V.heap.size V W → Calls Tryz.prog 76 #[.pointer (some ⟨m, 0, none⟩), .agg #[.int .i64 15, .int .i64 rd, .int .i64 r1, .int .i64 r2, .int .i64 im]] W fun e w' => e = .returned (.int .u64 (p : Int)) ∧ Below V.heap.size V w' ∧ InX w' X 15 rd r1 r2 im ∧ w'.cell? ⟨m, 0, none⟩ = some (.pointer (some ⟨mm, 0, none⟩))) := fun W hW => by
      refine (HPl.out W (HB.out.trans (hW.mono HB.out.size))).mono ?_
      rintro e w' ⟨g1, g2⟩
      have g3 := hW.trans (g2.mono hW.size)
      exact ⟨g1, g3, HX.out.below g3, (HH.out w' (HB.out.trans (g3.mono HB.out.size))).c0⟩
    have HL2 : Hid (∀ W, Below V.heap.size V W → Calls Tryz.prog 114 #[.pointer (some ⟨mm, 0, none⟩), .int .u64 (p : Int), .int .i64 1] W fun e w' => e = .returned (.tuple #[.int .u64 v, .bool true]) ∧ Below V.heap.size V w' ∧ InX w' X 15 rd r1 r2 im ∧ w'.cell? ⟨m, 0, none⟩ = some (.pointer (some ⟨mm, 0, none⟩))) := fun W hW => by
      refine (HLd.out W (HB.out.trans (hW.mono HB.out.size))).mono ?_
      rintro e w' ⟨g1, g2⟩
      have g3 := hW.trans (g2.mono hW.size)
      exact ⟨g1, g3, HX.out.below g3, (HH.out w' (HB.out.trans (g3.mono HB.out.size))).c0⟩
    clear HPl HLd
    go_region_held3 (fun w' => w'.cell? ⟨X, 0, none⟩ = some (.int .i64 15) ∧ w'.cell? ⟨X, 1, none⟩ = some (.int .i64 rd) ∧ w'.cell? ⟨X, 2, none⟩ = some (.int .i64 r1) ∧ w'.cell? ⟨X, 3, none⟩ = some (.int .i64 r2) ∧ w'.cell? ⟨X, 4, none⟩ = some (.int .i64 im) ∧ w'.cell? ⟨m, 0, none⟩ = some (.pointer (some ⟨mm, 0, none⟩))) (go_keep)
      (first | (go_at_call 76; refine (HP2.out _ ((Below.refl _ _).drew)).mono ?_; rintro e W1 ⟨rfl, h5, h6, h7⟩; obtain ⟨j0, j1, j2, j3, j4⟩ := h6; have H5 := hide h5; clear h5) | (go_at_call 114; refine (HL2.out _ H5.out).mono ?_; rintro e W2 ⟨rfl, h8, h9, h10⟩; obtain ⟨l0, l1, l2, l3, l4⟩ := h9; have H8 := hide h8; clear h8))
    have HPu := hide (put_reg rd v W2 (HH.out _ (HB.out.trans (H8.out.mono HB.out.size))) hrd hsb)
    have HWn := hide (went_below (HB.out.trans (H8.out.mono HB.out.size)) F)
    clear HP2 HL2 H5 H8 HH HB HX HXF hsb
    go_wp2_with fail
    refine HPu.out.mono ?_
    rintro e W3 ⟨rfl, h8, h9⟩
    have H := hide (And.intro h8 (HWn.out.trans h9))
    clear h8 h9 HPu HWn
    go_wp2
    go_ret
    exact ⟨rfl, H.out.1, H.out.2⟩

set_option maxHeartbeats 1600000 in
theorem load_16 (rd r1 r2 im : Int) (w : World) (h : HD m mm me x pc k c t w F) (hP : PM w mm S G) (hf : Fit5 rd r1 r2 im) :
    Calls Tryz.prog 78 #[.pointer (some ⟨m, 0, none⟩), inst 16 rd r1 r2 im] w fun e w' =>
      (numOk S (u64 (x r1.toNat + im)).toNat (widthF 16) 4 = true → e = .returned (.int .i64 0) ∧ HD m mm me (xset x rd (loadS 16 (loadV S (u64 (x r1.toNat + im)).toNat (widthF 16)))) (u64 (pc + 4)).toNat k c t w' F) ∧
      (numOk S (u64 (x r1.toNat + im)).toNat (widthF 16) 4 = false → e = .returned (.int .i64 3) ∧ HD m mm me x pc k c t w' F) ∧ Went F w F w' := by
  have HWd := hide (fun W => width_any' 16 W (by decide) (by decide))
  have him := hf.im
  have HPl := hide (fun W (hW : Below w.heap.size w W) => place_any 16 rd r1 r2 im W (h.below hW) (ini_of hf.r1) (by omega) (by omega))
  rw [rg_in hf.r1] at HPl
  have hub := u64_bd (x r1.toNat + im)
  generalize u64 (x r1.toNat + im) = a at *
  obtain ⟨p, rfl⟩ := Int.eq_ofNat_of_zero_le hub.1
  rw [Int.toNat_natCast]
  have hwd : widthF 16 = 2 := rfl
  rw [hwd] at HWd ⊢
  have HLd := hide (fun W (hW : Below w.heap.size w W) => load_any mm S G p 2 W (hP.below hW) (by omega) (by omega) (by omega))
  have hvb := loadV_bd hP.good p 2
  have HH := hide (fun W (hW : Below w.heap.size w W) => h.below hW)
  have hrd := ini_of hf.rd
  generalize loadV S p 2 = v at *
  generalize numOk S p 2 4 = ok at *
  clear hf hP hwd
  unfold inst
  have hXF : ¬ F w.heap.size := fun hf => by have := h.flt _ hf; omega
  have HXF := hide hXF
  clear hXF h
  cases ok with
  | false =>
    refine Calls.mono (?_ : Calls _ _ _ _ (fun e w' => e = .returned (.int .i64 3) ∧ HD m mm me x pc k c t w' F ∧ Went F w F w')) (by rintro e w' ⟨r1, r2, r3⟩; exact ⟨(fun h => by cases h), fun _ => ⟨r1, r2⟩, r3⟩)
    go_enter Tryz.func78, Tryz.ntmps78
    go_wp2_with fail
    refine (HWd.out _).mono ?_
    rintro e W ⟨rfl, rfl⟩
    go_wp2_with fail
    obtain ⟨X, hX⟩ : ∃ X, X = w.heap.size := ⟨_, rfl⟩
    rw [← hX]
    rw [← hX] at HXF
    obtain ⟨V, hV⟩ : ∃ V, V = w.alloc (.cells #[.int .i64 16, .int .i64 rd, .int .i64 r1, .int .i64 r2, .int .i64 im] 45) := ⟨_, rfl⟩
    rw [← hV]
    have hBV : Below w.heap.size w V := by rw [hV]; exact below_alloc _ _
    have hIX : InX V X 16 rd r1 r2 im := by rw [hV, hX]; exact InX.new _ _ _ _ _ _ _
    have hc0 := (HH.out V hBV).c0
    obtain ⟨i0, i1, i2, i3, i4⟩ := id hIX
    have HX := hide hIX
    have HB := hide hBV
    clear hIX hBV hV hX HWd
    have HP2 : Hid (∀ W, Below V.heap.size V W → Calls Tryz.prog 76 #[.pointer (some ⟨m, 0, none⟩), .agg #[.int .i64 16, .int .i64 rd, .int .i64 r1, .int .i64 r2, .int .i64 im]] W fun e w' => e = .returned (.int .u64 (p : Int)) ∧ Below V.heap.size V w' ∧ InX w' X 16 rd r1 r2 im ∧ w'.cell? ⟨m, 0, none⟩ = some (.pointer (some ⟨mm, 0, none⟩))) := fun W hW => by
      refine (HPl.out W (HB.out.trans (hW.mono HB.out.size))).mono ?_
      rintro e w' ⟨g1, g2⟩
      have g3 := hW.trans (g2.mono hW.size)
      exact ⟨g1, g3, HX.out.below g3, (HH.out w' (HB.out.trans (g3.mono HB.out.size))).c0⟩
    have HL2 : Hid (∀ W, Below V.heap.size V W → Calls Tryz.prog 114 #[.pointer (some ⟨mm, 0, none⟩), .int .u64 (p : Int), .int .i64 2] W fun e w' => e = .returned (.tuple #[.int .u64 v, .bool false]) ∧ Below V.heap.size V w' ∧ InX w' X 16 rd r1 r2 im ∧ w'.cell? ⟨m, 0, none⟩ = some (.pointer (some ⟨mm, 0, none⟩))) := fun W hW => by
      refine (HLd.out W (HB.out.trans (hW.mono HB.out.size))).mono ?_
      rintro e w' ⟨g1, g2⟩
      have g3 := hW.trans (g2.mono hW.size)
      exact ⟨g1, g3, HX.out.below g3, (HH.out w' (HB.out.trans (g3.mono HB.out.size))).c0⟩
    clear HPl HLd
    go_region_held3 (fun w' => w'.cell? ⟨X, 0, none⟩ = some (.int .i64 16) ∧ w'.cell? ⟨X, 1, none⟩ = some (.int .i64 rd) ∧ w'.cell? ⟨X, 2, none⟩ = some (.int .i64 r1) ∧ w'.cell? ⟨X, 3, none⟩ = some (.int .i64 r2) ∧ w'.cell? ⟨X, 4, none⟩ = some (.int .i64 im) ∧ w'.cell? ⟨m, 0, none⟩ = some (.pointer (some ⟨mm, 0, none⟩))) (go_keep)
      (first | (go_at_call 76; refine (HP2.out _ ((Below.refl _ _).drew)).mono ?_; rintro e W1 ⟨rfl, h5, h6, h7⟩; obtain ⟨j0, j1, j2, j3, j4⟩ := h6; have H5 := hide h5; clear h5) | (go_at_call 114; refine (HL2.out _ H5.out).mono ?_; rintro e W2 ⟨rfl, h8, h9, h10⟩; obtain ⟨l0, l1, l2, l3, l4⟩ := h9; have H8 := hide h8; clear h8))
    have H : Hid (HD m mm me x pc k c t W2 F ∧ Went F w F W2) :=
      have g := HB.out.trans (H8.out.mono HB.out.size)
      ⟨HH.out _ g, went_below g F⟩
    clear HP2 HL2 H5 H8 HH HB HX HXF
    go_wp2
    go_ret
    exact ⟨rfl, H.out.1, H.out.2⟩
  | true =>
    refine Calls.mono (?_ : Calls _ _ _ _ (fun e w' => e = .returned (.int .i64 0) ∧ HD m mm me (xset x rd (loadS 16 v)) (u64 (pc + 4)).toNat k c t w' F ∧ Went F w F w')) (by rintro e w' ⟨r1, r2, r3⟩; exact ⟨fun _ => ⟨r1, r2⟩, (fun h => by cases h), r3⟩)
    rw [show loadS 16 v = v from rfl]
    have hsb := hvb
    go_enter Tryz.func78, Tryz.ntmps78
    go_wp2_with fail
    refine (HWd.out _).mono ?_
    rintro e W ⟨rfl, rfl⟩
    go_wp2_with fail
    obtain ⟨X, hX⟩ : ∃ X, X = w.heap.size := ⟨_, rfl⟩
    rw [← hX]
    rw [← hX] at HXF
    obtain ⟨V, hV⟩ : ∃ V, V = w.alloc (.cells #[.int .i64 16, .int .i64 rd, .int .i64 r1, .int .i64 r2, .int .i64 im] 45) := ⟨_, rfl⟩
    rw [← hV]
    have hBV : Below w.heap.size w V := by rw [hV]; exact below_alloc _ _
    have hIX : InX V X 16 rd r1 r2 im := by rw [hV, hX]; exact InX.new _ _ _ _ _ _ _
    have hc0 := (HH.out V hBV).c0
    obtain ⟨i0, i1, i2, i3, i4⟩ := id hIX
    have HX := hide hIX
    have HB := hide hBV
    clear hIX hBV hV hX HWd
    have HP2 : Hid (∀ W, Below V.heap.size V W → Calls Tryz.prog 76 #[.pointer (some ⟨m, 0, none⟩), .agg #[.int .i64 16, .int .i64 rd, .int .i64 r1, .int .i64 r2, .int .i64 im]] W fun e w' => e = .returned (.int .u64 (p : Int)) ∧ Below V.heap.size V w' ∧ InX w' X 16 rd r1 r2 im ∧ w'.cell? ⟨m, 0, none⟩ = some (.pointer (some ⟨mm, 0, none⟩))) := fun W hW => by
      refine (HPl.out W (HB.out.trans (hW.mono HB.out.size))).mono ?_
      rintro e w' ⟨g1, g2⟩
      have g3 := hW.trans (g2.mono hW.size)
      exact ⟨g1, g3, HX.out.below g3, (HH.out w' (HB.out.trans (g3.mono HB.out.size))).c0⟩
    have HL2 : Hid (∀ W, Below V.heap.size V W → Calls Tryz.prog 114 #[.pointer (some ⟨mm, 0, none⟩), .int .u64 (p : Int), .int .i64 2] W fun e w' => e = .returned (.tuple #[.int .u64 v, .bool true]) ∧ Below V.heap.size V w' ∧ InX w' X 16 rd r1 r2 im ∧ w'.cell? ⟨m, 0, none⟩ = some (.pointer (some ⟨mm, 0, none⟩))) := fun W hW => by
      refine (HLd.out W (HB.out.trans (hW.mono HB.out.size))).mono ?_
      rintro e w' ⟨g1, g2⟩
      have g3 := hW.trans (g2.mono hW.size)
      exact ⟨g1, g3, HX.out.below g3, (HH.out w' (HB.out.trans (g3.mono HB.out.size))).c0⟩
    clear HPl HLd
    go_region_held3 (fun w' => w'.cell? ⟨X, 0, none⟩ = some (.int .i64 16) ∧ w'.cell? ⟨X, 1, none⟩ = some (.int .i64 rd) ∧ w'.cell? ⟨X, 2, none⟩ = some (.int .i64 r1) ∧ w'.cell? ⟨X, 3, none⟩ = some (.int .i64 r2) ∧ w'.cell? ⟨X, 4, none⟩ = some (.int .i64 im) ∧ w'.cell? ⟨m, 0, none⟩ = some (.pointer (some ⟨mm, 0, none⟩))) (go_keep)
      (first | (go_at_call 76; refine (HP2.out _ ((Below.refl _ _).drew)).mono ?_; rintro e W1 ⟨rfl, h5, h6, h7⟩; obtain ⟨j0, j1, j2, j3, j4⟩ := h6; have H5 := hide h5; clear h5) | (go_at_call 114; refine (HL2.out _ H5.out).mono ?_; rintro e W2 ⟨rfl, h8, h9, h10⟩; obtain ⟨l0, l1, l2, l3, l4⟩ := h9; have H8 := hide h8; clear h8))
    have HPu := hide (put_reg rd v W2 (HH.out _ (HB.out.trans (H8.out.mono HB.out.size))) hrd hsb)
    have HWn := hide (went_below (HB.out.trans (H8.out.mono HB.out.size)) F)
    clear HP2 HL2 H5 H8 HH HB HX HXF hsb
    go_wp2_with fail
    refine HPu.out.mono ?_
    rintro e W3 ⟨rfl, h8, h9⟩
    have H := hide (And.intro h8 (HWn.out.trans h9))
    clear h8 h9 HPu HWn
    go_wp2
    go_ret
    exact ⟨rfl, H.out.1, H.out.2⟩

set_option maxHeartbeats 1600000 in
theorem load_17 (rd r1 r2 im : Int) (w : World) (h : HD m mm me x pc k c t w F) (hP : PM w mm S G) (hf : Fit5 rd r1 r2 im) :
    Calls Tryz.prog 78 #[.pointer (some ⟨m, 0, none⟩), inst 17 rd r1 r2 im] w fun e w' =>
      (numOk S (u64 (x r1.toNat + im)).toNat (widthF 17) 4 = true → e = .returned (.int .i64 0) ∧ HD m mm me (xset x rd (loadS 17 (loadV S (u64 (x r1.toNat + im)).toNat (widthF 17)))) (u64 (pc + 4)).toNat k c t w' F) ∧
      (numOk S (u64 (x r1.toNat + im)).toNat (widthF 17) 4 = false → e = .returned (.int .i64 3) ∧ HD m mm me x pc k c t w' F) ∧ Went F w F w' := by
  have HWd := hide (fun W => width_any' 17 W (by decide) (by decide))
  have him := hf.im
  have HPl := hide (fun W (hW : Below w.heap.size w W) => place_any 17 rd r1 r2 im W (h.below hW) (ini_of hf.r1) (by omega) (by omega))
  rw [rg_in hf.r1] at HPl
  have hub := u64_bd (x r1.toNat + im)
  generalize u64 (x r1.toNat + im) = a at *
  obtain ⟨p, rfl⟩ := Int.eq_ofNat_of_zero_le hub.1
  rw [Int.toNat_natCast]
  have hwd : widthF 17 = 4 := rfl
  rw [hwd] at HWd ⊢
  have HLd := hide (fun W (hW : Below w.heap.size w W) => load_any mm S G p 4 W (hP.below hW) (by omega) (by omega) (by omega))
  have hvb := loadV_bd hP.good p 4
  have HH := hide (fun W (hW : Below w.heap.size w W) => h.below hW)
  have hrd := ini_of hf.rd
  generalize loadV S p 4 = v at *
  generalize numOk S p 4 4 = ok at *
  clear hf hP hwd
  unfold inst
  have hXF : ¬ F w.heap.size := fun hf => by have := h.flt _ hf; omega
  have HXF := hide hXF
  clear hXF h
  cases ok with
  | false =>
    refine Calls.mono (?_ : Calls _ _ _ _ (fun e w' => e = .returned (.int .i64 3) ∧ HD m mm me x pc k c t w' F ∧ Went F w F w')) (by rintro e w' ⟨r1, r2, r3⟩; exact ⟨(fun h => by cases h), fun _ => ⟨r1, r2⟩, r3⟩)
    go_enter Tryz.func78, Tryz.ntmps78
    go_wp2_with fail
    refine (HWd.out _).mono ?_
    rintro e W ⟨rfl, rfl⟩
    go_wp2_with fail
    obtain ⟨X, hX⟩ : ∃ X, X = w.heap.size := ⟨_, rfl⟩
    rw [← hX]
    rw [← hX] at HXF
    obtain ⟨V, hV⟩ : ∃ V, V = w.alloc (.cells #[.int .i64 17, .int .i64 rd, .int .i64 r1, .int .i64 r2, .int .i64 im] 45) := ⟨_, rfl⟩
    rw [← hV]
    have hBV : Below w.heap.size w V := by rw [hV]; exact below_alloc _ _
    have hIX : InX V X 17 rd r1 r2 im := by rw [hV, hX]; exact InX.new _ _ _ _ _ _ _
    have hc0 := (HH.out V hBV).c0
    obtain ⟨i0, i1, i2, i3, i4⟩ := id hIX
    have HX := hide hIX
    have HB := hide hBV
    clear hIX hBV hV hX HWd
    have HP2 : Hid (∀ W, Below V.heap.size V W → Calls Tryz.prog 76 #[.pointer (some ⟨m, 0, none⟩), .agg #[.int .i64 17, .int .i64 rd, .int .i64 r1, .int .i64 r2, .int .i64 im]] W fun e w' => e = .returned (.int .u64 (p : Int)) ∧ Below V.heap.size V w' ∧ InX w' X 17 rd r1 r2 im ∧ w'.cell? ⟨m, 0, none⟩ = some (.pointer (some ⟨mm, 0, none⟩))) := fun W hW => by
      refine (HPl.out W (HB.out.trans (hW.mono HB.out.size))).mono ?_
      rintro e w' ⟨g1, g2⟩
      have g3 := hW.trans (g2.mono hW.size)
      exact ⟨g1, g3, HX.out.below g3, (HH.out w' (HB.out.trans (g3.mono HB.out.size))).c0⟩
    have HL2 : Hid (∀ W, Below V.heap.size V W → Calls Tryz.prog 114 #[.pointer (some ⟨mm, 0, none⟩), .int .u64 (p : Int), .int .i64 4] W fun e w' => e = .returned (.tuple #[.int .u64 v, .bool false]) ∧ Below V.heap.size V w' ∧ InX w' X 17 rd r1 r2 im ∧ w'.cell? ⟨m, 0, none⟩ = some (.pointer (some ⟨mm, 0, none⟩))) := fun W hW => by
      refine (HLd.out W (HB.out.trans (hW.mono HB.out.size))).mono ?_
      rintro e w' ⟨g1, g2⟩
      have g3 := hW.trans (g2.mono hW.size)
      exact ⟨g1, g3, HX.out.below g3, (HH.out w' (HB.out.trans (g3.mono HB.out.size))).c0⟩
    clear HPl HLd
    go_region_held3 (fun w' => w'.cell? ⟨X, 0, none⟩ = some (.int .i64 17) ∧ w'.cell? ⟨X, 1, none⟩ = some (.int .i64 rd) ∧ w'.cell? ⟨X, 2, none⟩ = some (.int .i64 r1) ∧ w'.cell? ⟨X, 3, none⟩ = some (.int .i64 r2) ∧ w'.cell? ⟨X, 4, none⟩ = some (.int .i64 im) ∧ w'.cell? ⟨m, 0, none⟩ = some (.pointer (some ⟨mm, 0, none⟩))) (go_keep)
      (first | (go_at_call 76; refine (HP2.out _ ((Below.refl _ _).drew)).mono ?_; rintro e W1 ⟨rfl, h5, h6, h7⟩; obtain ⟨j0, j1, j2, j3, j4⟩ := h6; have H5 := hide h5; clear h5) | (go_at_call 114; refine (HL2.out _ H5.out).mono ?_; rintro e W2 ⟨rfl, h8, h9, h10⟩; obtain ⟨l0, l1, l2, l3, l4⟩ := h9; have H8 := hide h8; clear h8))
    have H : Hid (HD m mm me x pc k c t W2 F ∧ Went F w F W2) :=
      have g := HB.out.trans (H8.out.mono HB.out.size)
      ⟨HH.out _ g, went_below g F⟩
    clear HP2 HL2 H5 H8 HH HB HX HXF
    go_wp2
    go_ret
    exact ⟨rfl, H.out.1, H.out.2⟩
  | true =>
    refine Calls.mono (?_ : Calls _ _ _ _ (fun e w' => e = .returned (.int .i64 0) ∧ HD m mm me (xset x rd (loadS 17 v)) (u64 (pc + 4)).toNat k c t w' F ∧ Went F w F w')) (by rintro e w' ⟨r1, r2, r3⟩; exact ⟨fun _ => ⟨r1, r2⟩, (fun h => by cases h), r3⟩)
    rw [show loadS 17 v = v from rfl]
    have hsb := hvb
    go_enter Tryz.func78, Tryz.ntmps78
    go_wp2_with fail
    refine (HWd.out _).mono ?_
    rintro e W ⟨rfl, rfl⟩
    go_wp2_with fail
    obtain ⟨X, hX⟩ : ∃ X, X = w.heap.size := ⟨_, rfl⟩
    rw [← hX]
    rw [← hX] at HXF
    obtain ⟨V, hV⟩ : ∃ V, V = w.alloc (.cells #[.int .i64 17, .int .i64 rd, .int .i64 r1, .int .i64 r2, .int .i64 im] 45) := ⟨_, rfl⟩
    rw [← hV]
    have hBV : Below w.heap.size w V := by rw [hV]; exact below_alloc _ _
    have hIX : InX V X 17 rd r1 r2 im := by rw [hV, hX]; exact InX.new _ _ _ _ _ _ _
    have hc0 := (HH.out V hBV).c0
    obtain ⟨i0, i1, i2, i3, i4⟩ := id hIX
    have HX := hide hIX
    have HB := hide hBV
    clear hIX hBV hV hX HWd
    have HP2 : Hid (∀ W, Below V.heap.size V W → Calls Tryz.prog 76 #[.pointer (some ⟨m, 0, none⟩), .agg #[.int .i64 17, .int .i64 rd, .int .i64 r1, .int .i64 r2, .int .i64 im]] W fun e w' => e = .returned (.int .u64 (p : Int)) ∧ Below V.heap.size V w' ∧ InX w' X 17 rd r1 r2 im ∧ w'.cell? ⟨m, 0, none⟩ = some (.pointer (some ⟨mm, 0, none⟩))) := fun W hW => by
      refine (HPl.out W (HB.out.trans (hW.mono HB.out.size))).mono ?_
      rintro e w' ⟨g1, g2⟩
      have g3 := hW.trans (g2.mono hW.size)
      exact ⟨g1, g3, HX.out.below g3, (HH.out w' (HB.out.trans (g3.mono HB.out.size))).c0⟩
    have HL2 : Hid (∀ W, Below V.heap.size V W → Calls Tryz.prog 114 #[.pointer (some ⟨mm, 0, none⟩), .int .u64 (p : Int), .int .i64 4] W fun e w' => e = .returned (.tuple #[.int .u64 v, .bool true]) ∧ Below V.heap.size V w' ∧ InX w' X 17 rd r1 r2 im ∧ w'.cell? ⟨m, 0, none⟩ = some (.pointer (some ⟨mm, 0, none⟩))) := fun W hW => by
      refine (HLd.out W (HB.out.trans (hW.mono HB.out.size))).mono ?_
      rintro e w' ⟨g1, g2⟩
      have g3 := hW.trans (g2.mono hW.size)
      exact ⟨g1, g3, HX.out.below g3, (HH.out w' (HB.out.trans (g3.mono HB.out.size))).c0⟩
    clear HPl HLd
    go_region_held3 (fun w' => w'.cell? ⟨X, 0, none⟩ = some (.int .i64 17) ∧ w'.cell? ⟨X, 1, none⟩ = some (.int .i64 rd) ∧ w'.cell? ⟨X, 2, none⟩ = some (.int .i64 r1) ∧ w'.cell? ⟨X, 3, none⟩ = some (.int .i64 r2) ∧ w'.cell? ⟨X, 4, none⟩ = some (.int .i64 im) ∧ w'.cell? ⟨m, 0, none⟩ = some (.pointer (some ⟨mm, 0, none⟩))) (go_keep)
      (first | (go_at_call 76; refine (HP2.out _ ((Below.refl _ _).drew)).mono ?_; rintro e W1 ⟨rfl, h5, h6, h7⟩; obtain ⟨j0, j1, j2, j3, j4⟩ := h6; have H5 := hide h5; clear h5) | (go_at_call 114; refine (HL2.out _ H5.out).mono ?_; rintro e W2 ⟨rfl, h8, h9, h10⟩; obtain ⟨l0, l1, l2, l3, l4⟩ := h9; have H8 := hide h8; clear h8))
    have HPu := hide (put_reg rd v W2 (HH.out _ (HB.out.trans (H8.out.mono HB.out.size))) hrd hsb)
    have HWn := hide (went_below (HB.out.trans (H8.out.mono HB.out.size)) F)
    clear HP2 HL2 H5 H8 HH HB HX HXF hsb
    go_wp2_with fail
    refine HPu.out.mono ?_
    rintro e W3 ⟨rfl, h8, h9⟩
    have H := hide (And.intro h8 (HWn.out.trans h9))
    clear h8 h9 HPu HWn
    go_wp2
    go_ret
    exact ⟨rfl, H.out.1, H.out.2⟩

theorem loads_any (o : Nat) (rd r1 r2 im : Int) (w : World) (h : HD m mm me x pc k c t w F) (hP : PM w mm S G) (h0 : 11 ≤ o) (h1 : o ≤ 17) (hf : Fit5 rd r1 r2 im) :
    Calls Tryz.prog 78 #[.pointer (some ⟨m, 0, none⟩), inst o rd r1 r2 im] w fun e w' =>
      (numOk S (u64 (x r1.toNat + im)).toNat (widthF o) 4 = true → e = .returned (.int .i64 0) ∧ HD m mm me (xset x rd (loadS o (loadV S (u64 (x r1.toNat + im)).toNat (widthF o)))) (u64 (pc + 4)).toNat k c t w' F) ∧
      (numOk S (u64 (x r1.toNat + im)).toNat (widthF o) 4 = false → e = .returned (.int .i64 3) ∧ HD m mm me x pc k c t w' F) ∧ Went F w F w' := by
  rcases (show o = 11 ∨ o = 12 ∨ o = 13 ∨ o = 14 ∨ o = 15 ∨ o = 16 ∨ o = 17 by omega) with rfl | rfl | rfl | rfl | rfl | rfl | rfl
  · exact load_11 rd r1 r2 im w h hP hf
  · exact load_12 rd r1 r2 im w h hP hf
  · exact load_13 rd r1 r2 im w h hP hf
  · exact load_14 rd r1 r2 im w h hP hf
  · exact load_15 rd r1 r2 im w h hP hf
  · exact load_16 rd r1 r2 im w h hP hf
  · exact load_17 rd r1 r2 im w h hP hf

end

end Go.Proofs.YtdhjjlnabbpinaaGreatDoor

/- The contract of package mach's do, an operation at a time: those that touch registers and place alone. -/
namespace Go.Proofs.YtdhjjlnabbpinaaGreatDoor
open Go.RowKit Go.Maps
set_option linter.unusedVariables false
set_option maxRecDepth 100000

theorem not_one (q : Nat) (h : q ≤ 18446744073709551615) : bits .andNot .u64 (q : Int) 1 = ((q / 2 * 2 : Nat) : Int) := by
  have h1 := u64_andNot_nat q 1 (by omega) (by omega)
  rw [show ((1 : Nat) : Int) = 1 from rfl, show 18446744073709551615 - 1 = (2 ^ 63 - 1) * 2 ^ 1 by decide, take_one] at h1
  rw [h1]
  unfold fld
  rw [show (2 : Int) ^ 63 = 9223372036854775808 by decide, show (2 : Int) ^ 1 = 2 by decide]
  omega

section
variable {w0 w w' : World} {m mm me : Nat} {M : Mc} {l : List (World → (Nat → Prop) → Prop)}

set_option maxHeartbeats 1600000 in
theorem do_1 (rd r1 r2 im : Int) (w : World) (h : MH w0 w m mm me M l) (hf : Fit5 rd r1 r2 im) :
    Calls Tryz.prog 34 #[.pointer (some ⟨m, 0, none⟩), inst 1 rd r1 r2 im] w fun e w' => e = .returned (.int .i64 0) ∧ MH w0 w' m mm me (M.put rd (u64 (im * 4096))) l := by
  have him := hf.im
  have HU := hide (fun W => mupper_any 1 rd r1 r2 im W (by omega) (by omega))
  have hub := u64_bd (im * 4096)
  generalize u64 (im * 4096) = v at *
  have hrd := ini_of hf.rd
  have HM := hide h
  clear h hf
  unfold inst at *
  go_enter Tryz.func34, Tryz.ntmps34
  go_wp2_with fail
  obtain ⟨V, hV⟩ : ∃ V, V = w.alloc (.cells #[.int .i64 1, .int .i64 rd, .int .i64 r1, .int .i64 r2, .int .i64 im] 45) := ⟨_, rfl⟩
  rw [← hV]
  obtain ⟨X, hX⟩ : ∃ X, X = w.heap.size := ⟨_, rfl⟩
  rw [← hX]
  have hMV : MH w0 V m mm me M (InXT X 1 rd r1 r2 im :: l) := by rw [hV, hX]; exact HM.out.box _ _ _ _ _ _
  obtain ⟨i0, i1, i2, i3, i4⟩ := hMV.inx
  have HVD := hide (hMV.below ((Below.refl _ _).drew))
  clear hMV hV hX HM
  go_region_held3 (fun w' => w'.cell? ⟨X, 0, none⟩ = some (.int .i64 1) ∧ w'.cell? ⟨X, 1, none⟩ = some (.int .i64 rd) ∧ w'.cell? ⟨X, 2, none⟩ = some (.int .i64 r1) ∧ w'.cell? ⟨X, 3, none⟩ = some (.int .i64 r2) ∧ w'.cell? ⟨X, 4, none⟩ = some (.int .i64 im)) (go_keep)
    (first
      | (go_at_call 74; refine (HU.out _).mono ?_; rintro e W1 ⟨rfl, hb⟩; have h5 := HVD.out.below hb; obtain ⟨j0, j1, j2, j3, j4⟩ := h5.inx; have H5 := hide h5; clear h5 hb)
      | (go_at_call 73; refine (mh_put H5.out rd v hrd hub).mono ?_; rintro e W2 ⟨rfl, h6⟩; obtain ⟨l0, l1, l2, l3, l4⟩ := h6.inx; have H6 := hide h6.unbox; clear h6))
  clear HU HVD H5
  go_wp2
  go_ret
  exact ⟨rfl, H6.out⟩

set_option maxHeartbeats 1600000 in
theorem do_2 (rd r1 r2 im : Int) (w : World) (h : MH w0 w m mm me M l) (hf : Fit5 rd r1 r2 im) :
    Calls Tryz.prog 34 #[.pointer (some ⟨m, 0, none⟩), inst 2 rd r1 r2 im] w fun e w' => e = .returned (.int .i64 0) ∧ MH w0 w' m mm me (M.put rd (u64 (M.pc + im * 4096))) l := by
  have him := hf.im
  have HU := hide (fun W => mupper_any 2 rd r1 r2 im W (by omega) (by omega))
  have hub := u64_bd (M.pc + im * 4096)
  have hadd : IntKind.u64.wrap ((M.pc : Int) + u64 (im * 4096)) = u64 (M.pc + im * 4096) := by rw [wrap_u64]; unfold u64; omega
  have hpc := h.fits.place
  have hvb := u64_bd (im * 4096)
  generalize u64 (M.pc + im * 4096) = u at *
  generalize u64 (im * 4096) = v at *
  have hrd := ini_of hf.rd
  have HM := hide h
  clear h hf
  unfold inst at *
  go_enter Tryz.func34, Tryz.ntmps34
  go_wp2_with fail
  obtain ⟨V, hV⟩ : ∃ V, V = w.alloc (.cells #[.int .i64 2, .int .i64 rd, .int .i64 r1, .int .i64 r2, .int .i64 im] 45) := ⟨_, rfl⟩
  rw [← hV]
  obtain ⟨X, hX⟩ : ∃ X, X = w.heap.size := ⟨_, rfl⟩
  rw [← hX]
  have hMV : MH w0 V m mm me M (InXT X 2 rd r1 r2 im :: l) := by rw [hV, hX]; exact HM.out.box _ _ _ _ _ _
  obtain ⟨i0, i1, i2, i3, i4⟩ := hMV.inx
  have i5 := hMV.c3
  have HVD := hide (hMV.below ((Below.refl _ _).drew))
  clear hMV hV hX HM
  go_region_with (first
      | (go_at_call 74; refine (HU.out _).mono ?_; rintro e W1 ⟨rfl, hb⟩; have h5 := HVD.out.below hb; obtain ⟨j0, j1, j2, j3, j4⟩ := h5.inx; have j5 := h5.c3; have H5 := hide h5; clear h5 hb)
      | (go_at_call 73; refine (mh_put H5.out rd u hrd hub).mono ?_; rintro e W2 ⟨rfl, h6⟩; have H6 := hide h6.unbox; clear h6))
  all_goals clear HU HVD H5
  all_goals go_wp2
  all_goals go_ret
  all_goals exact ⟨rfl, H6.out⟩

set_option maxHeartbeats 1600000 in
theorem do_3 (rd r1 r2 im : Int) (w : World) (h : MH w0 w m mm me M l) (hf : Fit5 rd r1 r2 im) :
    Calls Tryz.prog 34 #[.pointer (some ⟨m, 0, none⟩), inst 3 rd r1 r2 im] w fun e w' => ∃ r M', e = .returned (.int .i64 r) ∧ Did M (M.jump rd (u64 (M.pc + im))) r M' ∧ MH w0 w' m mm me M' l := by
  have him := hf.im
  have hub := u64_bd (M.pc + im)
  have hadd : IntKind.u64.wrap ((M.pc : Int) + IntKind.u64.wrap im) = u64 (M.pc + im) := by rw [wrap_u64, wrap_u64]; unfold u64; omega
  have hpc := h.fits.place
  obtain ⟨p, hp⟩ := Int.eq_ofNat_of_zero_le hub.1
  rw [hp] at hub hadd ⊢
  have hpm : p ≤ 18446744073709551615 := by omega
  have hrd := ini_of hf.rd
  have HM := hide h
  clear h hf hp hub
  unfold inst at *
  go_enter Tryz.func34, Tryz.ntmps34
  go_wp2_with fail
  obtain ⟨V, hV⟩ : ∃ V, V = w.alloc (.cells #[.int .i64 3, .int .i64 rd, .int .i64 r1, .int .i64 r2, .int .i64 im] 45) := ⟨_, rfl⟩
  rw [← hV]
  obtain ⟨X, hX⟩ : ∃ X, X = w.heap.size := ⟨_, rfl⟩
  rw [← hX]
  have hMV : MH w0 V m mm me M (InXT X 3 rd r1 r2 im :: l) := by rw [hV, hX]; exact HM.out.box _ _ _ _ _ _
  obtain ⟨i0, i1, i2, i3, i4⟩ := hMV.inx
  have i5 := hMV.c3
  have HVD := hide (hMV.below ((Below.refl _ _).drew))
  clear hMV hV hX HM
  go_region_with (first
      | (go_at_call 75; refine (mh_jump HVD.out rd p hrd hpm).mono ?_; rintro e W2 ⟨r, M', rfl, h7, h6⟩; have H6 := hide h6.unbox; have H7 := hide h7; clear h6 h7))
  all_goals clear HVD
  all_goals go_wp2
  all_goals go_ret
  all_goals exact ⟨r, M', rfl, H7.out, H6.out⟩

set_option maxHeartbeats 1600000 in
theorem do_4 (rd r1 r2 im : Int) (w : World) (h : MH w0 w m mm me M l) (hf : Fit5 rd r1 r2 im) :
    Calls Tryz.prog 34 #[.pointer (some ⟨m, 0, none⟩), inst 4 rd r1 r2 im] w fun e w' => ∃ r M', e = .returned (.int .i64 r) ∧ Did M (M.jump rd (u64 (M.x r1.toNat + im) / 2 * 2)) r M' ∧ MH w0 w' m mm me M' l := by
  have him := hf.im
  have hub := u64_bd (M.x r1.toNat + im)
  obtain ⟨q, hq⟩ := Int.eq_ofNat_of_zero_le hub.1
  have HPl : Hid (∀ W l, MH w0 W m mm me M l → Calls Tryz.prog 76 #[.pointer (some ⟨m, 0, none⟩), .agg #[.int .i64 4, .int .i64 rd, .int .i64 r1, .int .i64 r2, .int .i64 im]] W fun e w' => e = .returned (.int .u64 (q : Int)) ∧ MH w0 w' m mm me M l) := fun W l hW => by
    have := mh_place hW 4 rd r1 r2 im hf.r1 (by omega) (by omega)
    rw [hq] at this
    exact this
  rw [hq] at hub ⊢
  have hev : bits .andNot .u64 (q : Int) 1 = ((q / 2 * 2 : Nat) : Int) := not_one q (by omega)
  obtain ⟨p, hp⟩ : ∃ p : Nat, p = q / 2 * 2 := ⟨_, rfl⟩
  rw [← hp] at hev
  rw [show (q : Int) / 2 * 2 = (p : Int) by omega]
  have hpm : p ≤ 18446744073709551615 := by omega
  have hrd := ini_of hf.rd
  have HM := hide h
  clear h hf hp hub hq
  unfold inst at *
  go_enter Tryz.func34, Tryz.ntmps34
  go_wp2_with fail
  obtain ⟨V, hV⟩ : ∃ V, V = w.alloc (.cells #[.int .i64 4, .int .i64 rd, .int .i64 r1, .int .i64 r2, .int .i64 im] 45) := ⟨_, rfl⟩
  rw [← hV]
  obtain ⟨X, hX⟩ : ∃ X, X = w.heap.size := ⟨_, rfl⟩
  rw [← hX]
  have hMV : MH w0 V m mm me M (InXT X 4 rd r1 r2 im :: l) := by rw [hV, hX]; exact HM.out.box _ _ _ _ _ _
  obtain ⟨i0, i1, i2, i3, i4⟩ := hMV.inx
  have HVD := hide (hMV.below ((Below.refl _ _).drew))
  clear hMV hV hX HM
  go_region_held3 (fun w' => w'.cell? ⟨X, 0, none⟩ = some (.int .i64 4) ∧ w'.cell? ⟨X, 1, none⟩ = some (.int .i64 rd) ∧ w'.cell? ⟨X, 2, none⟩ = some (.int .i64 r1) ∧ w'.cell? ⟨X, 3, none⟩ = some (.int .i64 r2) ∧ w'.cell? ⟨X, 4, none⟩ = some (.int .i64 im)) (go_keep)
    (first
      | (go_at_call 76; refine (HPl.out _ _ HVD.out).mono ?_; rintro e W1 ⟨rfl, h5⟩; obtain ⟨j0, j1, j2, j3, j4⟩ := h5.inx; have H5 := hide h5; clear h5)
      | (go_at_call 75; refine (mh_jump H5.out rd p hrd hpm).mono ?_; rintro e W2 ⟨r, M', rfl, h7, h6⟩; obtain ⟨l0, l1, l2, l3, l4⟩ := h6.inx; have H6 := hide h6.unbox; have H7 := hide h7; clear h6 h7))
  clear HVD HPl H5
  go_wp2
  go_ret
  exact ⟨r, M', rfl, H7.out, H6.out⟩

end

end Go.Proofs.YtdhjjlnabbpinaaGreatDoor

/- The contract of package mach's call, and of do at the other operations. -/
namespace Go.Proofs.YtdhjjlnabbpinaaGreatDoor
open Go.RowKit Go.Maps
set_option linter.unusedVariables false
set_option maxRecDepth 100000

section
variable {w0 w w' : World} {m mm me : Nat} {M : Mc} {l : List (World → (Nat → Prop) → Prop)}

theorem stset_head {b pc : Nat} {k c t k' c' t' : Int} (h : w.heap[m]? = some (.cells #[.pointer (some ⟨mm, 0, none⟩), .pointer (some ⟨me, 0, none⟩), .map (some b), .int .u64 (pc : Int), .int .i64 k, .int .i64 c, .int .i64 t] 76 (0, 0))) :
    (((w.setCell ⟨m, 4, none⟩ (.int .i64 k')).setCell ⟨m, 5, none⟩ (.int .i64 c')).setCell ⟨m, 6, none⟩ (.int .i64 t')).heap[m]? = some (.cells #[.pointer (some ⟨mm, 0, none⟩), .pointer (some ⟨me, 0, none⟩), .map (some b), .int .u64 (pc : Int), .int .i64 k', .int .i64 c', .int .i64 t'] 76 (0, 0)) := by
  unfold World.setCell
  simp [Array.getElem?_modify, h]

/-- The machine's status is set. -/
theorem HD.ended {x : Nat → Int} {pc : Nat} {k c t : Int} {F : Nat → Prop} (h : HD m mm me x pc k c t w F) {k' c' t' : Int} (hk : InI k') (hc : InI c') (ht : InI t') :
    HD m mm me x pc k' c' t' (((w.setCell ⟨m, 4, none⟩ (.int .i64 k')).setCell ⟨m, 5, none⟩ (.int .i64 c')).setCell ⟨m, 6, none⟩ (.int .i64 t')) F ∧ Went F w F (((w.setCell ⟨m, 4, none⟩ (.int .i64 k')).setCell ⟨m, 5, none⟩ (.int .i64 c')).setCell ⟨m, 6, none⟩ (.int .i64 t')) := by
  obtain ⟨b, n, f, h⟩ := h
  have hK : Kept (fun k => k = m) w (((w.setCell ⟨m, 4, none⟩ (.int .i64 k')).setCell ⟨m, 5, none⟩ (.int .i64 c')).setCell ⟨m, 6, none⟩ (.int .i64 t')) :=
    (((Kept.refl (fun k => k = m) w).setCell ⟨m, 4, none⟩ (.int .i64 k') (Or.inl rfl)).setCell ⟨m, 5, none⟩ (.int .i64 c') (Or.inl rfl)).setCell ⟨m, 6, none⟩ (.int .i64 t') (Or.inl rfl)
  refine ⟨⟨b, n, f, ⟨stset_head h.head, h.map.kept (hK.block b (h.flt b h.fb) (fun e => h.mb e.symm)), h.cnt, h.val, ⟨h.fits.reg, h.fits.zero, h.fits.top, h.fits.place, hk, hc, ht⟩, h.fm, h.fb, fun k hk => Nat.lt_of_lt_of_le (h.flt k hk) hK.size⟩⟩, hK.mono (fun k hk => by subst hk; exact h.fm), fun k hk => Or.inl hk⟩
theorem MH.ended (h : MH w0 w m mm me M l) {k' c' t' : Int} (hk : InI k') (hc : InI c') (ht : InI t') : MH w0 (((w.setCell ⟨m, 4, none⟩ (.int .i64 k')).setCell ⟨m, 5, none⟩ (.int .i64 c')).setCell ⟨m, 6, none⟩ (.int .i64 t')) m mm me { M with kind := k', code := c', trap := t' } l := by
  obtain ⟨F, h1, h2⟩ := h.head
  have h3 := h1.ended hk hc ht
  exact h2 _ _ _ _ _ _ h3.1 h3.2
theorem MH.st (h : MH w0 w m mm me M l) : (w.cell? ⟨m, 4, none⟩ = some (.int .i64 M.kind) ∧ w.cell? ⟨m, 5, none⟩ = some (.int .i64 M.code) ∧ w.cell? ⟨m, 6, none⟩ = some (.int .i64 M.trap)) ∧ ∀ i, w.frozen? ⟨m, i, none⟩ = false := by
  obtain ⟨F, b, n, f, h1⟩ := h.hd
  exact ⟨⟨h1.cell 4, h1.cell 5, h1.cell 6⟩, h1.frozen⟩
theorem MH.lt (h : MH w0 w m mm me M l) : m < w.heap.size := by
  obtain ⟨F, h1⟩ := h.hd
  exact h1.flt m h1.fm

theorem call_exit (w : World) (h : MH w0 w m mm me M l) (hx : M.x 17 = 93) :
    Calls Tryz.prog 81 #[.pointer (some ⟨m, 0, none⟩)] w fun e w' => e = .returned (.int .i64 0) ∧ MH w0 w' m mm me { M with kind := 1, code := s64 (M.x 10), trap := 0 } l := by
  have HR17 := hide (mh_rg h 17 (by decide) 93 hx)
  obtain ⟨fd, hfd⟩ : ∃ fd, M.x 10 = fd := ⟨_, rfl⟩
  rw [hfd]
  have HR := hide (mh_rg h 10 (by decide) fd hfd)
  obtain ⟨⟨c4, c5, c6⟩, hz⟩ := h.st
  have z4 := hz 4
  have z5 := hz 5
  have z6 := hz 6
  have hw : wrap64 fd = s64 fd := wrap64_is fd
  have hb := s64_bd fd
  generalize s64 fd = g at *
  have H := hide (h.ended (k' := 1) (c' := g) (t' := 0) (by unfold InI; omega) hb (by unfold InI; omega))
  clear h hfd hz hb hx
  go_enter Tryz.func81, Tryz.ntmps81
  go_wp2_with fail
  refine HR17.out.mono ?_
  rintro e W ⟨rfl, hW⟩
  rw [hW]
  clear hW W
  go_wp2_with fail
  refine HR.out.mono ?_
  rintro e W ⟨rfl, hW⟩
  rw [hW]
  clear hW W
  go_wp2
  go_ret
  exact ⟨rfl, H.out⟩

theorem call_none (w : World) (h : MH w0 w m mm me M l) (h1 : M.x 17 ≠ 93) (h2 : M.x 17 ≠ 64) (h3 : M.x 17 ≠ 63) :
    Calls Tryz.prog 81 #[.pointer (some ⟨m, 0, none⟩)] w fun e w' => e = .returned (.int .i64 0) ∧ MH w0 w' m mm me (M.put 10 18446744073709551578) l := by
  obtain ⟨v, hv⟩ : ∃ v, M.x 17 = v := ⟨_, rfl⟩
  have HR17 := hide (mh_rg h 17 (by decide) v hv)
  rw [hv] at h1 h2 h3
  have e1 : (v == 93) = false := by simpa using h1
  have e2 : (v == 64) = false := by simpa using h2
  have e3 : (v == 63) = false := by simpa using h3
  have HA := hide (answer_any (-38) w h (by decide) (by decide))
  rw [show u64 (-38) = 18446744073709551578 by decide] at HA
  clear h hv h1 h2 h3
  go_enter Tryz.func81, Tryz.ntmps81
  go_wp2_with fail
  refine HR17.out.mono ?_
  rintro e W ⟨rfl, hW⟩
  rw [hW]
  clear hW W
  go_wp2_with fail
  refine HA.out.mono ?_
  rintro e W ⟨rfl, h4⟩
  have H4 := hide h4
  clear h4 HA
  go_wp2
  go_ret
  exact ⟨rfl, H4.out⟩

theorem call_write (v : Int) (M2 : Mc) (w : World) (h : MH w0 w m mm me M l) (hx : M.x 17 = 64) (v0 : -9223372036854775808 ≤ v) (v1 : v ≤ 9223372036854775807)
    (hc : Calls Tryz.prog 117 #[.pointer (some ⟨m, 0, none⟩)] w fun e w' => e = .returned (.int .i64 v) ∧ MH w0 w' m mm me M2 l) :
    Calls Tryz.prog 81 #[.pointer (some ⟨m, 0, none⟩)] w fun e w' => e = .returned (.int .i64 0) ∧ MH w0 w' m mm me (M2.put 10 (u64 v)) l := by
  have HR17 := hide (mh_rg h 17 (by decide) 64 hx)
  have HC := hide hc
  have HA := hide (fun W hW => answer_any (w0 := w0) (m := m) (mm := mm) (me := me) (M := M2) (l := l) v W hW v0 v1)
  clear h hc hx
  go_enter Tryz.func81, Tryz.ntmps81
  go_wp2_with fail
  refine HR17.out.mono ?_
  rintro e W ⟨rfl, hW⟩
  rw [hW]
  clear hW W
  go_wp2_with fail
  refine HC.out.mono ?_
  rintro e W1 ⟨rfl, h1⟩
  go_wp2_with fail
  refine (HA.out _ h1).mono ?_
  rintro e W2 ⟨rfl, h2⟩
  have H2 := hide h2
  clear h1 h2 HA HC
  go_wp2
  go_ret
  exact ⟨rfl, H2.out⟩

theorem call_read (v : Int) (M2 : Mc) (w : World) (h : MH w0 w m mm me M l) (hx : M.x 17 = 63) (v0 : -9223372036854775808 ≤ v) (v1 : v ≤ 9223372036854775807)
    (hc : Calls Tryz.prog 118 #[.pointer (some ⟨m, 0, none⟩)] w fun e w' => e = .returned (.int .i64 v) ∧ MH w0 w' m mm me M2 l) :
    Calls Tryz.prog 81 #[.pointer (some ⟨m, 0, none⟩)] w fun e w' => e = .returned (.int .i64 0) ∧ MH w0 w' m mm me (M2.put 10 (u64 v)) l := by
  have HR17 := hide (mh_rg h 17 (by decide) 63 hx)
  have HC := hide hc
  have HA := hide (fun W hW => answer_any (w0 := w0) (m := m) (mm := mm) (me := me) (M := M2) (l := l) v W hW v0 v1)
  clear h hc hx
  go_enter Tryz.func81, Tryz.ntmps81
  go_wp2_with fail
  refine HR17.out.mono ?_
  rintro e W ⟨rfl, hW⟩
  rw [hW]
  clear hW W
  go_wp2_with fail
  refine HC.out.mono ?_
  rintro e W1 ⟨rfl, h1⟩
  go_wp2_with fail
  refine (HA.out _ h1).mono ?_
  rintro e W2 ⟨rfl, h2⟩
  have H2 := hide h2
  clear h1 h2 HA HC
  go_wp2
  go_ret
  exact ⟨rfl, H2.out⟩

theorem call_any (w : World) (h : MH w0 w m mm me M l) (ht : M.tr.length < 1000000) (hi : M.ins.length ≤ 140737488355328) :
    Calls Tryz.prog 81 #[.pointer (some ⟨m, 0, none⟩)] w fun e w' => e = .returned (.int .i64 0) ∧ MH w0 w' m mm me M.call l := by
  have hr := h.fits.reg 12
  unfold Mc.call
  by_cases h1 : M.x 17 = 93
  · rw [if_pos h1]
    exact call_exit w h h1
  rw [if_neg h1]
  by_cases h2 : M.x 17 = 64
  · rw [if_pos h2]
    by_cases h3 : 65536 < M.x 12
    · rw [if_pos h3]
      exact call_write (-22) M w h h2 (by decide) (by decide) (write_long w h h3)
    rw [if_neg h3]
    cases h4 : mayB M.mem (M.x 11).toNat (M.x 12).toNat 4 with
    | true =>
      rw [if_pos rfl]
      have := call_write (M.x 12) _ w h h2 (by omega) (by omega) (write_ok w h (by omega) h4 ht)
      rw [u64_id hr.1 hr.2] at this
      exact this
    | false =>
      rw [if_neg (by decide)]
      exact call_write (-14) M w h h2 (by decide) (by decide) (write_no w h (by omega) h4)
  rw [if_neg h2]
  by_cases h2 : M.x 17 = 63
  · rw [if_pos h2]
    by_cases h3 : 65536 < M.x 12
    · rw [if_pos h3]
      exact call_read (-22) M w h h2 (by decide) (by decide) (read_long w h h3)
    rw [if_neg h3]
    cases h4 : mayB M.mem (M.x 11).toNat (M.x 12).toNat 2 with
    | true =>
      rw [if_pos rfl]
      have hL : (M.ins.take (M.x 12).toNat).length ≤ 65536 := by rw [List.length_take]; omega
      have := call_read _ _ w h h2 (by omega) (by omega) (read_ok w h (by omega) h4 ht hi)
      rw [u64_id (by omega) (by omega)] at this
      exact this
    | false =>
      rw [if_neg (by decide)]
      exact call_read (-14) M w h h2 (by decide) (by decide) (read_no w h (by omega) h4)
  rw [if_neg h2]
  exact call_none w h h1 (by assumption) h2

set_option maxHeartbeats 1600000 in
theorem do_5 (rd r1 r2 im : Int) (w : World) (h : MH w0 w m mm me M l) (hf : Fit5 rd r1 r2 im) (D : Mc) (hD : D = if takenF 5 (M.x r1.toNat) (M.x r2.toNat) = true then M.jump 0 (u64 (M.pc + im)) else M.next) :
    Calls Tryz.prog 34 #[.pointer (some ⟨m, 0, none⟩), inst 5 rd r1 r2 im] w fun e w' => ∃ r M', e = .returned (.int .i64 r) ∧ Did M (D) r M' ∧ MH w0 w' m mm me M' l := by
  have HB := hide (fun W (hW : MH w0 W m mm me M l) => mh_branch hW 5 rd r1 r2 im (by decide) (by decide) hf)
  rw [show ((5 : Nat) : Int) = 5 from rfl, ← hD] at HB
  clear hD
  have HM := hide h
  clear h
  unfold inst at *
  go_enter Tryz.func34, Tryz.ntmps34
  go_wp2_with fail
  refine (HB.out _ (HM.out.below (below_alloc _ _))).mono ?_
  rintro e W ⟨r, M', rfl, h1, h2⟩
  have H := hide (And.intro h1 h2)
  clear h1 h2 HB HM
  go_wp2
  go_ret
  exact ⟨r, M', rfl, H.out⟩

set_option maxHeartbeats 1600000 in
theorem do_6 (rd r1 r2 im : Int) (w : World) (h : MH w0 w m mm me M l) (hf : Fit5 rd r1 r2 im) (D : Mc) (hD : D = if takenF 6 (M.x r1.toNat) (M.x r2.toNat) = true then M.jump 0 (u64 (M.pc + im)) else M.next) :
    Calls Tryz.prog 34 #[.pointer (some ⟨m, 0, none⟩), inst 6 rd r1 r2 im] w fun e w' => ∃ r M', e = .returned (.int .i64 r) ∧ Did M (D) r M' ∧ MH w0 w' m mm me M' l := by
  have HB := hide (fun W (hW : MH w0 W m mm me M l) => mh_branch hW 6 rd r1 r2 im (by decide) (by decide) hf)
  rw [show ((6 : Nat) : Int) = 6 from rfl, ← hD] at HB
  clear hD
  have HM := hide h
  clear h
  unfold inst at *
  go_enter Tryz.func34, Tryz.ntmps34
  go_wp2_with fail
  refine (HB.out _ (HM.out.below (below_alloc _ _))).mono ?_
  rintro e W ⟨r, M', rfl, h1, h2⟩
  have H := hide (And.intro h1 h2)
  clear h1 h2 HB HM
  go_wp2
  go_ret
  exact ⟨r, M', rfl, H.out⟩

set_option maxHeartbeats 1600000 in
theorem do_7 (rd r1 r2 im : Int) (w : World) (h : MH w0 w m mm me M l) (hf : Fit5 rd r1 r2 im) (D : Mc) (hD : D = if takenF 7 (M.x r1.toNat) (M.x r2.toNat) = true then M.jump 0 (u64 (M.pc + im)) else M.next) :
    Calls Tryz.prog 34 #[.pointer (some ⟨m, 0, none⟩), inst 7 rd r1 r2 im] w fun e w' => ∃ r M', e = .returned (.int .i64 r) ∧ Did M (D) r M' ∧ MH w0 w' m mm me M' l := by
  have HB := hide (fun W (hW : MH w0 W m mm me M l) => mh_branch hW 7 rd r1 r2 im (by decide) (by decide) hf)
  rw [show ((7 : Nat) : Int) = 7 from rfl, ← hD] at HB
  clear hD
  have HM := hide h
  clear h
  unfold inst at *
  go_enter Tryz.func34, Tryz.ntmps34
  go_wp2_with fail
  refine (HB.out _ (HM.out.below (below_alloc _ _))).mono ?_
  rintro e W ⟨r, M', rfl, h1, h2⟩
  have H := hide (And.intro h1 h2)
  clear h1 h2 HB HM
  go_wp2
  go_ret
  exact ⟨r, M', rfl, H.out⟩

set_option maxHeartbeats 1600000 in
theorem do_8 (rd r1 r2 im : Int) (w : World) (h : MH w0 w m mm me M l) (hf : Fit5 rd r1 r2 im) (D : Mc) (hD : D = if takenF 8 (M.x r1.toNat) (M.x r2.toNat) = true then M.jump 0 (u64 (M.pc + im)) else M.next) :
    Calls Tryz.prog 34 #[.pointer (some ⟨m, 0, none⟩), inst 8 rd r1 r2 im] w fun e w' => ∃ r M', e = .returned (.int .i64 r) ∧ Did M (D) r M' ∧ MH w0 w' m mm me M' l := by
  have HB := hide (fun W (hW : MH w0 W m mm me M l) => mh_branch hW 8 rd r1 r2 im (by decide) (by decide) hf)
  rw [show ((8 : Nat) : Int) = 8 from rfl, ← hD] at HB
  clear hD
  have HM := hide h
  clear h
  unfold inst at *
  go_enter Tryz.func34, Tryz.ntmps34
  go_wp2_with fail
  refine (HB.out _ (HM.out.below (below_alloc _ _))).mono ?_
  rintro e W ⟨r, M', rfl, h1, h2⟩
  have H := hide (And.intro h1 h2)
  clear h1 h2 HB HM
  go_wp2
  go_ret
  exact ⟨r, M', rfl, H.out⟩

set_option maxHeartbeats 1600000 in
theorem do_9 (rd r1 r2 im : Int) (w : World) (h : MH w0 w m mm me M l) (hf : Fit5 rd r1 r2 im) (D : Mc) (hD : D = if takenF 9 (M.x r1.toNat) (M.x r2.toNat) = true then M.jump 0 (u64 (M.pc + im)) else M.next) :
    Calls Tryz.prog 34 #[.pointer (some ⟨m, 0, none⟩), inst 9 rd r1 r2 im] w fun e w' => ∃ r M', e = .returned (.int .i64 r) ∧ Did M (D) r M' ∧ MH w0 w' m mm me M' l := by
  have HB := hide (fun W (hW : MH w0 W m mm me M l) => mh_branch hW 9 rd r1 r2 im (by decide) (by decide) hf)
  rw [show ((9 : Nat) : Int) = 9 from rfl, ← hD] at HB
  clear hD
  have HM := hide h
  clear h
  unfold inst at *
  go_enter Tryz.func34, Tryz.ntmps34
  go_wp2_with fail
  refine (HB.out _ (HM.out.below (below_alloc _ _))).mono ?_
  rintro e W ⟨r, M', rfl, h1, h2⟩
  have H := hide (And.intro h1 h2)
  clear h1 h2 HB HM
  go_wp2
  go_ret
  exact ⟨r, M', rfl, H.out⟩

set_option maxHeartbeats 1600000 in
theorem do_10 (rd r1 r2 im : Int) (w : World) (h : MH w0 w m mm me M l) (hf : Fit5 rd r1 r2 im) (D : Mc) (hD : D = if takenF 10 (M.x r1.toNat) (M.x r2.toNat) = true then M.jump 0 (u64 (M.pc + im)) else M.next) :
    Calls Tryz.prog 34 #[.pointer (some ⟨m, 0, none⟩), inst 10 rd r1 r2 im] w fun e w' => ∃ r M', e = .returned (.int .i64 r) ∧ Did M (D) r M' ∧ MH w0 w' m mm me M' l := by
  have HB := hide (fun W (hW : MH w0 W m mm me M l) => mh_branch hW 10 rd r1 r2 im (by decide) (by decide) hf)
  rw [show ((10 : Nat) : Int) = 10 from rfl, ← hD] at HB
  clear hD
  have HM := hide h
  clear h
  unfold inst at *
  go_enter Tryz.func34, Tryz.ntmps34
  go_wp2_with fail
  refine (HB.out _ (HM.out.below (below_alloc _ _))).mono ?_
  rintro e W ⟨r, M', rfl, h1, h2⟩
  have H := hide (And.intro h1 h2)
  clear h1 h2 HB HM
  go_wp2
  go_ret
  exact ⟨r, M', rfl, H.out⟩

theorem mh_load (h : MH w0 w m mm me M l) (o : Nat) (rd r1 r2 im : Int) (h0 : 11 ≤ o) (h1 : o ≤ 17) (hf : Fit5 rd r1 r2 im) :
    Calls Tryz.prog 78 #[.pointer (some ⟨m, 0, none⟩), inst o rd r1 r2 im] w fun e w' => ∃ r M', e = .returned (.int .i64 r) ∧
      Did M (if numOk M.mem (u64 (M.x r1.toNat + im)).toNat (widthF o) 4 = true then M.put rd (loadS o (loadV M.mem (u64 (M.x r1.toNat + im)).toNat (widthF o))) else M.trapped 3) r M' ∧ MH w0 w' m mm me M' l := by
  obtain ⟨F, hd, h2⟩ := h.head
  obtain ⟨G, hP⟩ := h.pm
  refine (loads_any o rd r1 r2 im w hd hP h0 h1 hf).mono ?_
  rintro e w' ⟨g1, g2, g3⟩
  cases hk : numOk M.mem (u64 (M.x r1.toNat + im)).toNat (widthF o) 4 with
  | true =>
    obtain ⟨k1, k2⟩ := g1 hk
    exact ⟨0, _, k1, Or.inl ⟨rfl, by rw [if_pos rfl]; rfl⟩, h2 w' _ _ _ _ _ k2 g3⟩
  | false =>
    obtain ⟨k1, k2⟩ := g2 hk
    exact ⟨3, M, k1, Or.inr ⟨by decide, by unfold InI; omega, by rw [if_neg (by decide)], rfl⟩, h2 w' _ _ _ _ _ k2 g3⟩

set_option maxHeartbeats 1600000 in
theorem do_11 (rd r1 r2 im : Int) (w : World) (h : MH w0 w m mm me M l) (hf : Fit5 rd r1 r2 im) (D : Mc) (hD : D = if numOk M.mem (u64 (M.x r1.toNat + im)).toNat (widthF 11) 4 = true then M.put rd (loadS 11 (loadV M.mem (u64 (M.x r1.toNat + im)).toNat (widthF 11))) else M.trapped 3) :
    Calls Tryz.prog 34 #[.pointer (some ⟨m, 0, none⟩), inst 11 rd r1 r2 im] w fun e w' => ∃ r M', e = .returned (.int .i64 r) ∧ Did M (D) r M' ∧ MH w0 w' m mm me M' l := by
  have HB := hide (fun W (hW : MH w0 W m mm me M l) => mh_load hW 11 rd r1 r2 im (by decide) (by decide) hf)
  rw [show ((11 : Nat) : Int) = 11 from rfl, ← hD] at HB
  clear hD
  have HM := hide h
  clear h
  unfold inst at *
  go_enter Tryz.func34, Tryz.ntmps34
  go_wp2_with fail
  refine (HB.out _ (HM.out.below (below_alloc _ _))).mono ?_
  rintro e W ⟨r, M', rfl, h1, h2⟩
  have H := hide (And.intro h1 h2)
  clear h1 h2 HB HM
  go_wp2
  go_ret
  exact ⟨r, M', rfl, H.out⟩

set_option maxHeartbeats 1600000 in
theorem do_12 (rd r1 r2 im : Int) (w : World) (h : MH w0 w m mm me M l) (hf : Fit5 rd r1 r2 im) (D : Mc) (hD : D = if numOk M.mem (u64 (M.x r1.toNat + im)).toNat (widthF 12) 4 = true then M.put rd (loadS 12 (loadV M.mem (u64 (M.x r1.toNat + im)).toNat (widthF 12))) else M.trapped 3) :
    Calls Tryz.prog 34 #[.pointer (some ⟨m, 0, none⟩), inst 12 rd r1 r2 im] w fun e w' => ∃ r M', e = .returned (.int .i64 r) ∧ Did M (D) r M' ∧ MH w0 w' m mm me M' l := by
  have HB := hide (fun W (hW : MH w0 W m mm me M l) => mh_load hW 12 rd r1 r2 im (by decide) (by decide) hf)
  rw [show ((12 : Nat) : Int) = 12 from rfl, ← hD] at HB
  clear hD
  have HM := hide h
  clear h
  unfold inst at *
  go_enter Tryz.func34, Tryz.ntmps34
  go_wp2_with fail
  refine (HB.out _ (HM.out.below (below_alloc _ _))).mono ?_
  rintro e W ⟨r, M', rfl, h1, h2⟩
  have H := hide (And.intro h1 h2)
  clear h1 h2 HB HM
  go_wp2
  go_ret
  exact ⟨r, M', rfl, H.out⟩

set_option maxHeartbeats 1600000 in
theorem do_13 (rd r1 r2 im : Int) (w : World) (h : MH w0 w m mm me M l) (hf : Fit5 rd r1 r2 im) (D : Mc) (hD : D = if numOk M.mem (u64 (M.x r1.toNat + im)).toNat (widthF 13) 4 = true then M.put rd (loadS 13 (loadV M.mem (u64 (M.x r1.toNat + im)).toNat (widthF 13))) else M.trapped 3) :
    Calls Tryz.prog 34 #[.pointer (some ⟨m, 0, none⟩), inst 13 rd r1 r2 im] w fun e w' => ∃ r M', e = .returned (.int .i64 r) ∧ Did M (D) r M' ∧ MH w0 w' m mm me M' l := by
  have HB := hide (fun W (hW : MH w0 W m mm me M l) => mh_load hW 13 rd r1 r2 im (by decide) (by decide) hf)
  rw [show ((13 : Nat) : Int) = 13 from rfl, ← hD] at HB
  clear hD
  have HM := hide h
  clear h
  unfold inst at *
  go_enter Tryz.func34, Tryz.ntmps34
  go_wp2_with fail
  refine (HB.out _ (HM.out.below (below_alloc _ _))).mono ?_
  rintro e W ⟨r, M', rfl, h1, h2⟩
  have H := hide (And.intro h1 h2)
  clear h1 h2 HB HM
  go_wp2
  go_ret
  exact ⟨r, M', rfl, H.out⟩

set_option maxHeartbeats 1600000 in
theorem do_14 (rd r1 r2 im : Int) (w : World) (h : MH w0 w m mm me M l) (hf : Fit5 rd r1 r2 im) (D : Mc) (hD : D = if numOk M.mem (u64 (M.x r1.toNat + im)).toNat (widthF 14) 4 = true then M.put rd (loadS 14 (loadV M.mem (u64 (M.x r1.toNat + im)).toNat (widthF 14))) else M.trapped 3) :
    Calls Tryz.prog 34 #[.pointer (some ⟨m, 0, none⟩), inst 14 rd r1 r2 im] w fun e w' => ∃ r M', e = .returned (.int .i64 r) ∧ Did M (D) r M' ∧ MH w0 w' m mm me M' l := by
  have HB := hide (fun W (hW : MH w0 W m mm me M l) => mh_load hW 14 rd r1 r2 im (by decide) (by decide) hf)
  rw [show ((14 : Nat) : Int) = 14 from rfl, ← hD] at HB
  clear hD
  have HM := hide h
  clear h
  unfold inst at *
  go_enter Tryz.func34, Tryz.ntmps34
  go_wp2_with fail
  refine (HB.out _ (HM.out.below (below_alloc _ _))).mono ?_
  rintro e W ⟨r, M', rfl, h1, h2⟩
  have H := hide (And.intro h1 h2)
  clear h1 h2 HB HM
  go_wp2
  go_ret
  exact ⟨r, M', rfl, H.out⟩

set_option maxHeartbeats 1600000 in
theorem do_15 (rd r1 r2 im : Int) (w : World) (h : MH w0 w m mm me M l) (hf : Fit5 rd r1 r2 im) (D : Mc) (hD : D = if numOk M.mem (u64 (M.x r1.toNat + im)).toNat (widthF 15) 4 = true then M.put rd (loadS 15 (loadV M.mem (u64 (M.x r1.toNat + im)).toNat (widthF 15))) else M.trapped 3) :
    Calls Tryz.prog 34 #[.pointer (some ⟨m, 0, none⟩), inst 15 rd r1 r2 im] w fun e w' => ∃ r M', e = .returned (.int .i64 r) ∧ Did M (D) r M' ∧ MH w0 w' m mm me M' l := by
  have HB := hide (fun W (hW : MH w0 W m mm me M l) => mh_load hW 15 rd r1 r2 im (by decide) (by decide) hf)
  rw [show ((15 : Nat) : Int) = 15 from rfl, ← hD] at HB
  clear hD
  have HM := hide h
  clear h
  unfold inst at *
  go_enter Tryz.func34, Tryz.ntmps34
  go_wp2_with fail
  refine (HB.out _ (HM.out.below (below_alloc _ _))).mono ?_
  rintro e W ⟨r, M', rfl, h1, h2⟩
  have H := hide (And.intro h1 h2)
  clear h1 h2 HB HM
  go_wp2
  go_ret
  exact ⟨r, M', rfl, H.out⟩

set_option maxHeartbeats 1600000 in
theorem do_16 (rd r1 r2 im : Int) (w : World) (h : MH w0 w m mm me M l) (hf : Fit5 rd r1 r2 im) (D : Mc) (hD : D = if numOk M.mem (u64 (M.x r1.toNat + im)).toNat (widthF 16) 4 = true then M.put rd (loadS 16 (loadV M.mem (u64 (M.x r1.toNat + im)).toNat (widthF 16))) else M.trapped 3) :
    Calls Tryz.prog 34 #[.pointer (some ⟨m, 0, none⟩), inst 16 rd r1 r2 im] w fun e w' => ∃ r M', e = .returned (.int .i64 r) ∧ Did M (D) r M' ∧ MH w0 w' m mm me M' l := by
  have HB := hide (fun W (hW : MH w0 W m mm me M l) => mh_load hW 16 rd r1 r2 im (by decide) (by decide) hf)
  rw [show ((16 : Nat) : Int) = 16 from rfl, ← hD] at HB
  clear hD
  have HM := hide h
  clear h
  unfold inst at *
  go_enter Tryz.func34, Tryz.ntmps34
  go_wp2_with fail
  refine (HB.out _ (HM.out.below (below_alloc _ _))).mono ?_
  rintro e W ⟨r, M', rfl, h1, h2⟩
  have H := hide (And.intro h1 h2)
  clear h1 h2 HB HM
  go_wp2
  go_ret
  exact ⟨r, M', rfl, H.out⟩

set_option maxHeartbeats 1600000 in
theorem do_17 (rd r1 r2 im : Int) (w : World) (h : MH w0 w m mm me M l) (hf : Fit5 rd r1 r2 im) (D : Mc) (hD : D = if numOk M.mem (u64 (M.x r1.toNat + im)).toNat (widthF 17) 4 = true then M.put rd (loadS 17 (loadV M.mem (u64 (M.x r1.toNat + im)).toNat (widthF 17))) else M.trapped 3) :
    Calls Tryz.prog 34 #[.pointer (some ⟨m, 0, none⟩), inst 17 rd r1 r2 im] w fun e w' => ∃ r M', e = .returned (.int .i64 r) ∧ Did M (D) r M' ∧ MH w0 w' m mm me M' l := by
  have HB := hide (fun W (hW : MH w0 W m mm me M l) => mh_load hW 17 rd r1 r2 im (by decide) (by decide) hf)
  rw [show ((17 : Nat) : Int) = 17 from rfl, ← hD] at HB
  clear hD
  have HM := hide h
  clear h
  unfold inst at *
  go_enter Tryz.func34, Tryz.ntmps34
  go_wp2_with fail
  refine (HB.out _ (HM.out.below (below_alloc _ _))).mono ?_
  rintro e W ⟨r, M', rfl, h1, h2⟩
  have H := hide (And.intro h1 h2)
  clear h1 h2 HB HM
  go_wp2
  go_ret
  exact ⟨r, M', rfl, H.out⟩

set_option maxHeartbeats 1600000 in
theorem do_18 (rd r1 r2 im : Int) (w : World) (h : MH w0 w m mm me M l) (hf : Fit5 rd r1 r2 im) (D : Mc) (hD : D = if numOk M.mem (u64 (M.x r1.toNat + im)).toNat (widthF 18) 2 = true then { M.next with mem := stored M.mem (u64 (M.x r1.toNat + im)).toNat (widthF 18) (M.x r2.toNat) } else M.trapped 4) :
    Calls Tryz.prog 34 #[.pointer (some ⟨m, 0, none⟩), inst 18 rd r1 r2 im] w fun e w' => ∃ r M', e = .returned (.int .i64 r) ∧ Did M (D) r M' ∧ MH w0 w' m mm me M' l := by
  have HB := hide (fun W (hW : MH w0 W m mm me M l) => mstore_any 18 rd r1 r2 im W hW (by decide) (by decide) hf)
  rw [show ((18 : Nat) : Int) = 18 from rfl, ← hD] at HB
  clear hD
  have HM := hide h
  clear h
  unfold inst at *
  go_enter Tryz.func34, Tryz.ntmps34
  go_wp2_with fail
  refine (HB.out _ (HM.out.below (below_alloc _ _))).mono ?_
  rintro e W ⟨r, M', rfl, h1, h2⟩
  have H := hide (And.intro h1 h2)
  clear h1 h2 HB HM
  go_wp2
  go_ret
  exact ⟨r, M', rfl, H.out⟩

set_option maxHeartbeats 1600000 in
theorem do_19 (rd r1 r2 im : Int) (w : World) (h : MH w0 w m mm me M l) (hf : Fit5 rd r1 r2 im) (D : Mc) (hD : D = if numOk M.mem (u64 (M.x r1.toNat + im)).toNat (widthF 19) 2 = true then { M.next with mem := stored M.mem (u64 (M.x r1.toNat + im)).toNat (widthF 19) (M.x r2.toNat) } else M.trapped 4) :
    Calls Tryz.prog 34 #[.pointer (some ⟨m, 0, none⟩), inst 19 rd r1 r2 im] w fun e w' => ∃ r M', e = .returned (.int .i64 r) ∧ Did M (D) r M' ∧ MH w0 w' m mm me M' l := by
  have HB := hide (fun W (hW : MH w0 W m mm me M l) => mstore_any 19 rd r1 r2 im W hW (by decide) (by decide) hf)
  rw [show ((19 : Nat) : Int) = 19 from rfl, ← hD] at HB
  clear hD
  have HM := hide h
  clear h
  unfold inst at *
  go_enter Tryz.func34, Tryz.ntmps34
  go_wp2_with fail
  refine (HB.out _ (HM.out.below (below_alloc _ _))).mono ?_
  rintro e W ⟨r, M', rfl, h1, h2⟩
  have H := hide (And.intro h1 h2)
  clear h1 h2 HB HM
  go_wp2
  go_ret
  exact ⟨r, M', rfl, H.out⟩

set_option maxHeartbeats 1600000 in
theorem do_20 (rd r1 r2 im : Int) (w : World) (h : MH w0 w m mm me M l) (hf : Fit5 rd r1 r2 im) (D : Mc) (hD : D = if numOk M.mem (u64 (M.x r1.toNat + im)).toNat (widthF 20) 2 = true then { M.next with mem := stored M.mem (u64 (M.x r1.toNat + im)).toNat (widthF 20) (M.x r2.toNat) } else M.trapped 4) :
    Calls Tryz.prog 34 #[.pointer (some ⟨m, 0, none⟩), inst 20 rd r1 r2 im] w fun e w' => ∃ r M', e = .returned (.int .i64 r) ∧ Did M (D) r M' ∧ MH w0 w' m mm me M' l := by
  have HB := hide (fun W (hW : MH w0 W m mm me M l) => mstore_any 20 rd r1 r2 im W hW (by decide) (by decide) hf)
  rw [show ((20 : Nat) : Int) = 20 from rfl, ← hD] at HB
  clear hD
  have HM := hide h
  clear h
  unfold inst at *
  go_enter Tryz.func34, Tryz.ntmps34
  go_wp2_with fail
  refine (HB.out _ (HM.out.below (below_alloc _ _))).mono ?_
  rintro e W ⟨r, M', rfl, h1, h2⟩
  have H := hide (And.intro h1 h2)
  clear h1 h2 HB HM
  go_wp2
  go_ret
  exact ⟨r, M', rfl, H.out⟩

set_option maxHeartbeats 1600000 in
theorem do_21 (rd r1 r2 im : Int) (w : World) (h : MH w0 w m mm me M l) (hf : Fit5 rd r1 r2 im) (D : Mc) (hD : D = if numOk M.mem (u64 (M.x r1.toNat + im)).toNat (widthF 21) 2 = true then { M.next with mem := stored M.mem (u64 (M.x r1.toNat + im)).toNat (widthF 21) (M.x r2.toNat) } else M.trapped 4) :
    Calls Tryz.prog 34 #[.pointer (some ⟨m, 0, none⟩), inst 21 rd r1 r2 im] w fun e w' => ∃ r M', e = .returned (.int .i64 r) ∧ Did M (D) r M' ∧ MH w0 w' m mm me M' l := by
  have HB := hide (fun W (hW : MH w0 W m mm me M l) => mstore_any 21 rd r1 r2 im W hW (by decide) (by decide) hf)
  rw [show ((21 : Nat) : Int) = 21 from rfl, ← hD] at HB
  clear hD
  have HM := hide h
  clear h
  unfold inst at *
  go_enter Tryz.func34, Tryz.ntmps34
  go_wp2_with fail
  refine (HB.out _ (HM.out.below (below_alloc _ _))).mono ?_
  rintro e W ⟨r, M', rfl, h1, h2⟩
  have H := hide (And.intro h1 h2)
  clear h1 h2 HB HM
  go_wp2
  go_ret
  exact ⟨r, M', rfl, H.out⟩

set_option maxHeartbeats 1600000 in
theorem do_63 (rd r1 r2 im : Int) (w : World) (h : MH w0 w m mm me M l)  :
    Calls Tryz.prog 34 #[.pointer (some ⟨m, 0, none⟩), inst 63 rd r1 r2 im] w fun e w' => e = .returned (.int .i64 0) ∧ MH w0 w' m mm me M.next l := by
  have HM := hide h
  clear h
  unfold inst at *
  go_enter Tryz.func34, Tryz.ntmps34
  go_wp2_with fail
  refine (mh_next (HM.out.below (below_alloc _ _))).mono ?_
  rintro e W ⟨rfl, h1⟩
  have H := hide h1
  clear h1 HM
  go_wp2
  go_ret
  exact ⟨rfl, H.out⟩

set_option maxHeartbeats 1600000 in
theorem do_64 (rd r1 r2 im : Int) (w : World) (h : MH w0 w m mm me M l) (ht : M.tr.length < 1000000) (hi : M.ins.length ≤ 140737488355328) :
    Calls Tryz.prog 34 #[.pointer (some ⟨m, 0, none⟩), inst 64 rd r1 r2 im] w fun e w' => e = .returned (.int .i64 0) ∧ MH w0 w' m mm me M.call l := by
  have HM := hide h
  clear h
  unfold inst at *
  go_enter Tryz.func34, Tryz.ntmps34
  go_wp2_with fail
  refine (call_any _ (HM.out.below (below_alloc _ _)) ht hi).mono ?_
  rintro e W ⟨rfl, h1⟩
  have H := hide h1
  clear h1 HM
  go_wp2
  go_ret
  exact ⟨rfl, H.out⟩

theorem do_65 (rd r1 r2 im : Int) (w : World) (h : MH w0 w m mm me M l) :
    Calls Tryz.prog 34 #[.pointer (some ⟨m, 0, none⟩), inst 65 rd r1 r2 im] w fun e w' => e = .returned (.int .i64 6) ∧ MH w0 w' m mm me M l := by
  have HM := hide (h.below (below_alloc _ (.cells #[.int .i64 65, .int .i64 rd, .int .i64 r1, .int .i64 r2, .int .i64 im] 45)))
  clear h
  unfold inst at *
  go_enter Tryz.func34, Tryz.ntmps34
  go_wp2
  go_ret
  exact ⟨rfl, HM.out⟩

theorem aluF_bd (o : Nat) (a b : Int) (a0 : 0 ≤ a) (a1 : a ≤ 18446744073709551615) (b0 : 0 ≤ b) (b1 : b ≤ 18446744073709551615) : 0 ≤ aluF o a b ∧ aluF o a b ≤ 18446744073709551615 := by
  have hbits : ∀ op, 0 ≤ bits op .u64 a b ∧ bits op .u64 a b ≤ 18446744073709551615 := fun op => by
    have h : ∀ n : Int, 0 ≤ IntKind.u64.wrap n ∧ IntKind.u64.wrap n ≤ 18446744073709551615 := fun n => by rw [wrap_u64]; exact u64_bd n
    unfold bits
    split <;> exact h _
  have hsh : ∀ k : Nat, 0 ≤ a / 2 ^ k ∧ a / 2 ^ k ≤ 18446744073709551615 := fun k => ediv_pow_bd a k 0 18446744073709551615 a0 a1 (by decide) (by decide)
  have hmul : 0 ≤ a * b / 18446744073709551616 ∧ a * b / 18446744073709551616 ≤ 18446744073709551615 := by
    obtain ⟨x, rfl⟩ := Int.eq_ofNat_of_zero_le a0
    obtain ⟨y, rfl⟩ := Int.eq_ofNat_of_zero_le b0
    have h1 := hi_bd (x := x) (y := y) (by omega) (by omega)
    rw [← Int.natCast_mul]
    omega
  have hdiv : 0 ≤ a / b ∧ a / b ≤ 18446744073709551615 := ⟨Int.ediv_nonneg a0 b0, Int.le_trans (Int.ediv_le_self b a0) a1⟩
  have hmod : b ≠ 0 → 0 ≤ a % b ∧ a % b ≤ 18446744073709551615 := fun h => ⟨Int.emod_nonneg _ h, by have := Int.emod_lt_of_pos a (show 0 < b by omega); omega⟩
  unfold aluF
  split
  all_goals first
    | exact u64_bd _
    | exact sx_bd _
    | exact hbits _
    | exact hsh _
    | exact hmul
    | (split <;> first | omega | exact u64_bd _ | exact sx_bd _ | exact hdiv | (apply hmod; assumption))
    | omega

set_option maxHeartbeats 3200000 in
theorem do_alu (o : Nat) (rd r1 r2 im : Int) (w : World) (h : MH w0 w m mm me M l) (hL : Laid w0) (h0 : 22 ≤ o) (h1 : o ≤ 62) (hf : Fit5 rd r1 r2 im) :
    Calls Tryz.prog 34 #[.pointer (some ⟨m, 0, none⟩), inst o rd r1 r2 im] w fun e w' => e = .returned (.int .i64 0) ∧ MH w0 w' m mm me (M.put rd (aluF o (M.x r1.toNat) (if fmo o = 1 then u64 im else M.x r2.toNat))) l := by
  have him := hf.im
  have hb1 := h.fits.reg r1.toNat
  have hb2 : 0 ≤ (if fmo o = 1 then u64 im else M.x r2.toNat) ∧ (if fmo o = 1 then u64 im else M.x r2.toNat) ≤ 18446744073709551615 := by
    split
    · exact u64_bd _
    · exact h.fits.reg _
  have HR : Hid (∀ W l, MH w0 W m mm me M l → Calls Tryz.prog 13 #[.pointer (some ⟨m, 0, none⟩), .int .i64 r1] W fun e w' => e = .returned (.int .u64 (M.x r1.toNat)) ∧ w' = W) := fun W l hW => by
    have := mh_reg hW r1 (ini_of hf.r1)
    rw [rg_in hf.r1] at this
    exact this
  have HO := hide (fun W l (hW : MH w0 W m mm me M l) => mh_operand hW hL o rd r1 r2 im hf.r2 (by omega) (by omega))
  have HA := hide (fun W => alu_any o (M.x r1.toNat) (if fmo o = 1 then u64 im else M.x r2.toNat) W h0 h1 hb1.1 hb1.2 hb2.1 hb2.2)
  have hvb := aluF_bd o (M.x r1.toNat) (if fmo o = 1 then u64 im else M.x r2.toNat) hb1.1 hb1.2 hb2.1 hb2.2
  generalize aluF o (M.x r1.toNat) (if fmo o = 1 then u64 im else M.x r2.toNat) = v at *
  generalize (if fmo o = 1 then u64 im else M.x r2.toNat) = y at *
  generalize M.x r1.toNat = a at *
  have hrd := ini_of hf.rd
  have t1 : ((o : Int) == 1) = false := by simp; omega
  have t2 : ((o : Int) == 2) = false := by simp; omega
  have t3 : ((o : Int) == 3) = false := by simp; omega
  have t4 : ((o : Int) == 4) = false := by simp; omega
  have t5 : ((o : Int) == 5) = false := by simp; omega
  have t6 : ((o : Int) == 6) = false := by simp; omega
  have t7 : ((o : Int) == 7) = false := by simp; omega
  have t8 : ((o : Int) == 8) = false := by simp; omega
  have t9 : ((o : Int) == 9) = false := by simp; omega
  have t10 : ((o : Int) == 10) = false := by simp; omega
  have t11 : ((o : Int) == 11) = false := by simp; omega
  have t12 : ((o : Int) == 12) = false := by simp; omega
  have t13 : ((o : Int) == 13) = false := by simp; omega
  have t14 : ((o : Int) == 14) = false := by simp; omega
  have t15 : ((o : Int) == 15) = false := by simp; omega
  have t16 : ((o : Int) == 16) = false := by simp; omega
  have t17 : ((o : Int) == 17) = false := by simp; omega
  have t18 : ((o : Int) == 18) = false := by simp; omega
  have t19 : ((o : Int) == 19) = false := by simp; omega
  have t20 : ((o : Int) == 20) = false := by simp; omega
  have t21 : ((o : Int) == 21) = false := by simp; omega
  have t63 : ((o : Int) == 63) = false := by simp; omega
  have t64 : ((o : Int) == 64) = false := by simp; omega
  have t65 : ((o : Int) == 65) = false := by simp; omega
  have HM := hide h
  clear h hf hL h0 h1
  unfold inst at *
  go_enter Tryz.func34, Tryz.ntmps34
  go_wp2_with fail
  obtain ⟨V, hV⟩ : ∃ V, V = w.alloc (.cells #[.int .i64 (o : Int), .int .i64 rd, .int .i64 r1, .int .i64 r2, .int .i64 im] 45) := ⟨_, rfl⟩
  rw [← hV]
  obtain ⟨X, hX⟩ : ∃ X, X = w.heap.size := ⟨_, rfl⟩
  rw [← hX]
  have hMV : MH w0 V m mm me M (InXT X o rd r1 r2 im :: l) := by rw [hV, hX]; exact HM.out.box _ _ _ _ _ _
  obtain ⟨i0, i1, i2, i3, i4⟩ := hMV.inx
  have HVD := hide (hMV.below ((Below.refl _ _).drew))
  clear hMV hV hX HM t1 t2 t3 t4 t5 t6 t7 t8 t9 t10 t11 t12 t13 t14 t15 t16 t17 t18 t19 t20 t21 t63 t64 t65
  go_region_held3 (fun w' => w'.cell? ⟨X, 0, none⟩ = some (.int .i64 (o : Int)) ∧ w'.cell? ⟨X, 1, none⟩ = some (.int .i64 rd) ∧ w'.cell? ⟨X, 2, none⟩ = some (.int .i64 r1) ∧ w'.cell? ⟨X, 3, none⟩ = some (.int .i64 r2) ∧ w'.cell? ⟨X, 4, none⟩ = some (.int .i64 im)) (go_keep)
    (first
      | (go_at_call 13; refine (HR.out _ _ HVD.out).mono ?_; rintro e W3 ⟨rfl, hW3⟩; rw [hW3]; clear hW3 W3)
      | (go_at_call 82; refine (HO.out _ _ HVD.out).mono ?_; rintro e W1 ⟨rfl, h5⟩; obtain ⟨j0, j1, j2, j3, j4⟩ := h5.inx; have H5 := hide h5; clear h5)
      | (go_at_call 32; refine (HA.out _).mono ?_; rintro e W3 ⟨rfl, hW3⟩; rw [hW3]; clear hW3 W3)
      | (go_at_call 73; refine (mh_put H5.out rd v hrd hvb).mono ?_; rintro e W2 ⟨rfl, h6⟩; obtain ⟨l0, l1, l2, l3, l4⟩ := h6.inx; have H6 := hide h6.unbox; clear h6))
  clear HR HO HA HVD H5
  go_wp2
  go_ret
  exact ⟨rfl, H6.out⟩

/-- What do does. -/
theorem do_any (o : Nat) (rd r1 r2 im : Int) (w : World) (h : MH w0 w m mm me M l) (hL : Laid w0) (h0 : 1 ≤ o) (h1 : o < 66) (hf : Fit5 rd r1 r2 im) (ht : M.tr.length < 1000000) (hi : M.ins.length ≤ 140737488355328) :
    Calls Tryz.prog 34 #[.pointer (some ⟨m, 0, none⟩), inst o rd r1 r2 im] w fun e w' => ∃ r M', e = .returned (.int .i64 r) ∧ Did M (M.doF o rd r1 r2 im) r M' ∧ MH w0 w' m mm me M' l := by
  have easy : ∀ {D : Mc} {fn : Nat} {args : Array Value}, (Calls Tryz.prog fn args w fun e w' => e = .returned (.int .i64 0) ∧ MH w0 w' m mm me D l) → Calls Tryz.prog fn args w fun e w' => ∃ r M', e = .returned (.int .i64 r) ∧ Did M (D) r M' ∧ MH w0 w' m mm me M' l :=
    fun h => h.mono (fun e w' ⟨g1, g2⟩ => ⟨0, _, g1, Or.inl ⟨rfl, rfl⟩, g2⟩)
  by_cases ha : 22 ≤ o ∧ o ≤ 62
  · have e : M.doF o rd r1 r2 im = M.put rd (aluF o (M.x r1.toNat) (if fmo o = 1 then u64 im else M.x r2.toNat)) := by
      unfold Mc.doF
      rw [if_neg (by omega), if_neg (by omega), if_neg (by omega), if_neg (by omega), if_neg (by omega), if_neg (by omega), if_neg (by omega), if_pos (by omega)]
    rw [e]
    exact easy (do_alu o rd r1 r2 im w h hL ha.1 ha.2 hf)
  rcases (show o = 1 ∨ o = 2 ∨ o = 3 ∨ o = 4 ∨ o = 5 ∨ o = 6 ∨ o = 7 ∨ o = 8 ∨ o = 9 ∨ o = 10 ∨ o = 11 ∨ o = 12 ∨ o = 13 ∨ o = 14 ∨ o = 15 ∨ o = 16 ∨ o = 17 ∨ o = 18 ∨ o = 19 ∨ o = 20 ∨ o = 21 ∨ o = 63 ∨ o = 64 ∨ o = 65 by omega) with rfl | rfl | rfl | rfl | rfl | rfl | rfl | rfl | rfl | rfl | rfl | rfl | rfl | rfl | rfl | rfl | rfl | rfl | rfl | rfl | rfl | rfl | rfl | rfl
  · exact easy (do_1 rd r1 r2 im w h hf)
  · exact easy (do_2 rd r1 r2 im w h hf)
  · exact do_3 rd r1 r2 im w h hf
  · exact do_4 rd r1 r2 im w h hf
  · exact do_5 rd r1 r2 im w h hf _ rfl
  · exact do_6 rd r1 r2 im w h hf _ rfl
  · exact do_7 rd r1 r2 im w h hf _ rfl
  · exact do_8 rd r1 r2 im w h hf _ rfl
  · exact do_9 rd r1 r2 im w h hf _ rfl
  · exact do_10 rd r1 r2 im w h hf _ rfl
  · exact do_11 rd r1 r2 im w h hf _ rfl
  · exact do_12 rd r1 r2 im w h hf _ rfl
  · exact do_13 rd r1 r2 im w h hf _ rfl
  · exact do_14 rd r1 r2 im w h hf _ rfl
  · exact do_15 rd r1 r2 im w h hf _ rfl
  · exact do_16 rd r1 r2 im w h hf _ rfl
  · exact do_17 rd r1 r2 im w h hf _ rfl
  · exact do_18 rd r1 r2 im w h hf _ rfl
  · exact do_19 rd r1 r2 im w h hf _ rfl
  · exact do_20 rd r1 r2 im w h hf _ rfl
  · exact do_21 rd r1 r2 im w h hf _ rfl
  · exact easy (do_63 rd r1 r2 im w h)
  · exact easy (do_64 rd r1 r2 im w h ht hi)
  · exact (do_65 rd r1 r2 im w h).mono (fun e w' ⟨g1, g2⟩ => ⟨6, M, g1, Or.inr ⟨by decide, by unfold InI; omega, rfl, rfl⟩, g2⟩)

end

end Go.Proofs.YtdhjjlnabbpinaaGreatDoor

/- Contracts of package mach's fetch and Step. -/
namespace Go.Proofs.YtdhjjlnabbpinaaGreatDoor
open Go.RowKit Go.Maps
set_option linter.unusedVariables false
set_option maxRecDepth 100000

/-- Block X is o. -/
def BlkT (X : Nat) (o : Obj) (w : World) (F : Nat → Prop) : Prop := w.heap[X]? = some o ∧ F X ∧ ∀ k, F k → k < w.heap.size
theorem blk_stays (B X : Nat) (o : Obj) : Stays B (BlkT X o) :=
  ⟨fun ⟨h1, h2, h3⟩ hk hd hG => ⟨(hk.block X (h3 X h2) (hd X h2)).trans h1, h2, fun k hF => Nat.lt_of_lt_of_le (h3 k hF) hk.size⟩, fun ⟨h1, h2, h3⟩ => h3⟩

def stc5 (w : World) (X : Nat) (a b c d e : Value) : World := ((((w.setCell ⟨X, 0, none⟩ a).setCell ⟨X, 1, none⟩ b).setCell ⟨X, 2, none⟩ c).setCell ⟨X, 3, none⟩ d).setCell ⟨X, 4, none⟩ e
def stc3 (w : World) (X : Nat) (a b c : Value) : World := ((w.setCell ⟨X, 0, none⟩ a).setCell ⟨X, 1, none⟩ b).setCell ⟨X, 2, none⟩ c

theorem stc5_kept (w : World) (X : Nat) (a b c d e : Value) : Kept (fun k => k = X) w (stc5 w X a b c d e) :=
  (((((Kept.refl (fun k => k = X) w).setCell ⟨X, 0, none⟩ a (Or.inl rfl)).setCell ⟨X, 1, none⟩ b (Or.inl rfl)).setCell ⟨X, 2, none⟩ c (Or.inl rfl)).setCell ⟨X, 3, none⟩ d (Or.inl rfl)).setCell ⟨X, 4, none⟩ e (Or.inl rfl)
theorem stc3_kept (w : World) (X : Nat) (a b c : Value) : Kept (fun k => k = X) w (stc3 w X a b c) :=
  (((Kept.refl (fun k => k = X) w).setCell ⟨X, 0, none⟩ a (Or.inl rfl)).setCell ⟨X, 1, none⟩ b (Or.inl rfl)).setCell ⟨X, 2, none⟩ c (Or.inl rfl)
theorem stc5_blk {w : World} {X : Nat} {t : TypeId} {a0 b0 c0 d0 e0 : Value} (h : w.heap[X]? = some (.cells #[a0, b0, c0, d0, e0] t (0, 0))) (a b c d e : Value) : (stc5 w X a b c d e).heap[X]? = some (.cells #[a, b, c, d, e] t (0, 0)) := by
  unfold stc5 World.setCell
  simp [Array.getElem?_modify, h]
theorem stc3_blk {w : World} {X : Nat} {t : TypeId} {a0 b0 c0 : Value} (h : w.heap[X]? = some (.cells #[a0, b0, c0] t (0, 0))) (a b c : Value) : (stc3 w X a b c).heap[X]? = some (.cells #[a, b, c] t (0, 0)) := by
  unfold stc3 World.setCell
  simp [Array.getElem?_modify, h]
theorem blk_frozen {w : World} {X : Nat} {t : TypeId} {cs : Array Value} (h : w.heap[X]? = some (.cells cs t (0, 0))) (i : Nat) : w.frozen? ⟨X, i, none⟩ = false := by
  unfold World.frozen?
  simp only [h]
  simp
theorem blk_cell {w : World} {X : Nat} {t : TypeId} {cs : Array Value} (h : w.heap[X]? = some (.cells cs t (0, 0))) (i : Nat) : w.cell? ⟨X, i, none⟩ = cs[i]? := cell_of_row _ _ i _ _ _ h

section
variable {w0 w w' : World} {m mm me : Nat} {M : Mc} {l : List (World → (Nat → Prop) → Prop)} {X : Nat} {o o' : Obj}

theorem MH.blk (h : MH w0 w m mm me M (BlkT X o :: l)) : w.heap[X]? = some o := by
  obtain ⟨F, h1⟩ := Has.top h.less
  exact h1.1
theorem MH.newblk (h : MH w0 w m mm me M l) (cs : Array Value) (t : TypeId) : MH w0 (w.alloc (.cells cs t)) m mm me M (BlkT w.heap.size (.cells cs t (0, 0)) :: l) :=
  h.more (F := fun k => k = w.heap.size) (below_alloc _ _) ⟨heap_alloc_new w _, rfl, fun k hk => by subst hk; simp⟩ (fun k hk => by subst hk; exact Nat.le_refl _) (blk_stays _ _ _)
theorem MH.reblk (h : MH w0 w m mm me M (BlkT X o :: l)) (hk : Kept (fun k => k = X) w w') (ho : w'.heap[X]? = some o') : MH w0 w' m mm me M (BlkT X o' :: l) := by
  obtain ⟨F, ⟨h1, h2, h3⟩, h4, h5⟩ := h.less.step
  have h6 := h5 w' (BlkT X o') F ⟨ho, h2, fun k hF => Nat.lt_of_lt_of_le (h3 k hF) hk.size⟩ ⟨hk.mono (fun k hk => by subst hk; exact h2), fun k hk => Or.inl hk⟩ (blk_stays _ _ _)
  exact h6.perm ((List.Perm.swap ..).trans (List.Perm.cons _ ((List.Perm.swap ..).trans (List.Perm.cons _ (List.Perm.swap ..)))))

theorem fetch_align (w : World) (h : MH w0 w m mm me M l) (ha : M.pc % 4 ≠ 0) :
    Calls Tryz.prog 33 #[.pointer (some ⟨m, 0, none⟩)] w fun e w' => e = .returned (.tuple #[inst 0 0 0 0 0, .int .i64 5]) ∧ MH w0 w' m mm me M l := by
  have hc3 := h.c3
  have HA := hide (fun W => aligned_any M.pc W h.fits.place)
  rw [decide_eq_false ha] at HA
  have hml := h.lt
  have HM := hide (fun W (hW : Below w.heap.size w W) => h.below hW)
  clear h ha
  generalize M.pc = p at *
  go_enter Tryz.func33, Tryz.ntmps33
  go_wp2_with fail
  refine (HA.out _).mono ?_
  rintro e W ⟨rfl, hW⟩
  rw [hW]
  clear hW W
  go_wp2
  refine bodyPost_ret (v := .tuple #[inst 0 0 0 0 0, .int .i64 5]) (by simp [results, Tryz.results33, go_sem, inst]) rfl ⟨rfl, HM.out _ (below_alloc _ _)⟩

set_option maxHeartbeats 1600000 in
theorem fetch_no (w : World) (h : MH w0 w m mm me M l) (ha : M.pc % 4 = 0) (hk : mayB M.mem M.pc 4 1 = false) :
    Calls Tryz.prog 33 #[.pointer (some ⟨m, 0, none⟩)] w fun e w' => e = .returned (.tuple #[inst 0 0 0 0 0, .int .i64 1]) ∧ MH w0 w' m mm me M l := by
  have hc0 := h.c0
  have hc3 := h.c3
  have HA := hide (fun W => aligned_any M.pc W h.fits.place)
  rw [decide_eq_true ha] at HA
  have hml := h.lt
  obtain ⟨F, hP⟩ := h.pm
  have HF := hide (fun W (hW : Below w.heap.size w W) => fetch_any mm M.mem F M.pc W (hP.below hW) h.fits.place)
  rw [hk] at HF
  have HM := hide h
  clear h ha hP hk
  generalize fetchV M.mem M.pc = v at *
  obtain ⟨p, hp⟩ : ∃ p, M.pc = p := ⟨_, rfl⟩
  rw [hp] at HA HF hc3
  have HPC := hide hp
  clear hp
  go_enter Tryz.func33, Tryz.ntmps33
  go_wp2_with fail
  refine (HA.out _).mono ?_
  rintro e W ⟨rfl, hW⟩
  rw [hW]
  clear hW W HA
  go_wp2_with fail
  obtain ⟨R, hR⟩ : ∃ R, R = w.heap.size := ⟨_, rfl⟩
  rw [← hR]
  obtain ⟨V, hV⟩ : ∃ V, V = w.alloc (.cells #[.int .i64 0, .int .i64 0, .int .i64 0, .int .i64 0, .int .i64 0] 45) := ⟨_, rfl⟩
  rw [← hV]
  have hMV : MH w0 V m mm me M (BlkT R (.cells #[.int .i64 0, .int .i64 0, .int .i64 0, .int .i64 0, .int .i64 0] 45 (0, 0)) :: l) := by rw [hV, hR]; exact HM.out.newblk _ _
  have hBV : Below w.heap.size w V.drew := by rw [hV]; exact (below_alloc _ _).drew
  have d0 := hMV.c0
  have d3 := hMV.c3
  rw [HPC.out] at d3
  have HMV := hide (hMV.below ((Below.refl _ _).drew))
  have HF2 := hide (HF.out _ hBV)
  clear hMV hBV hV hR HF HM hc0 hc3
  go_region_held3 (fun w' => w'.cell? ⟨m, 0, none⟩ = some (.pointer (some ⟨mm, 0, none⟩)) ∧ w'.cell? ⟨m, 3, none⟩ = some (.int .u64 (p : Int))) (go_keep)
    (first | (go_at_call 71; refine HF2.out.mono ?_; rintro e W1 ⟨rfl, hb⟩; have h1 := HMV.out.below hb; have g0 := h1.c0; have g3 := h1.c3; rw [HPC.out] at g3; have H1 := hide h1; clear h1 hb))
  have hz := blk_frozen H1.out.blk
  have z0 := hz 0
  have z1 := hz 1
  have z2 := hz 2
  have z3 := hz 3
  have z4 := hz 4
  have hcl := blk_cell H1.out.blk
  have q0 := hcl 0
  have q1 := hcl 1
  have q2 := hcl 2
  have q3 := hcl 3
  have q4 := hcl 4
  clear hz hcl HF2 HMV
  go_wp2
  have H2 := hide (H1.out.reblk (stc5_kept W1 R (.int .i64 0) (.int .i64 0) (.int .i64 0) (.int .i64 0) (.int .i64 0)) (stc5_blk H1.out.blk _ _ _ _ _))
  unfold stc5 at H2
  have hcl := blk_cell H2.out.blk
  have r0 := hcl 0
  have r1 := hcl 1
  have r2 := hcl 2
  have r3 := hcl 3
  have r4 := hcl 4
  generalize ((((W1.setCell ⟨R, 0, none⟩ (.int .i64 0)).setCell ⟨R, 1, none⟩ (.int .i64 0)).setCell ⟨R, 2, none⟩ (.int .i64 0)).setCell ⟨R, 3, none⟩ (.int .i64 0)).setCell ⟨R, 4, none⟩ (.int .i64 0) = W2 at *
  refine bodyPost_ret (v := .tuple #[inst 0 0 0 0 0, .int .i64 1]) (by simp [results, Tryz.results33, go_sem, inst, r0, r1, r2, r3, r4]) rfl ⟨rfl, H2.out.unbox⟩

set_option maxHeartbeats 1600000 in
theorem fetch_true (a0 a1 a2 a3 a4 : Int) (w : World) (h : MH w0 w m mm me M l) (ha : M.pc % 4 = 0) (hk : mayB M.mem M.pc 4 1 = true) (hL : Laid w0)
    (hD : ∀ W, Laid W → Calls Tryz.prog 72 #[.int .u32 (fetchV M.mem M.pc)] W fun e w' => e = .returned (.tuple #[inst a0 a1 a2 a3 a4, .bool true]) ∧ Below W.heap.size W w') :
    Calls Tryz.prog 33 #[.pointer (some ⟨m, 0, none⟩)] w fun e w' => e = .returned (.tuple #[inst a0 a1 a2 a3 a4, .int .i64 0]) ∧ MH w0 w' m mm me M l := by
  have hc0 := h.c0
  have hc3 := h.c3
  have HA := hide (fun W => aligned_any M.pc W h.fits.place)
  rw [decide_eq_true ha] at HA
  have hml := h.lt
  obtain ⟨F, hP⟩ := h.pm
  have HF := hide (fun W (hW : Below w.heap.size w W) => fetch_any mm M.mem F M.pc W (hP.below hW) h.fits.place)
  rw [hk] at HF
  have HM := hide h
  have HD := hide hD
  have HL := hide hL
  clear h ha hP hk hD hL
  generalize fetchV M.mem M.pc = v at *
  obtain ⟨p, hp⟩ : ∃ p, M.pc = p := ⟨_, rfl⟩
  rw [hp] at HA HF hc3
  have HPC := hide hp
  clear hp
  go_enter Tryz.func33, Tryz.ntmps33
  go_wp2_with fail
  refine (HA.out _).mono ?_
  rintro e W ⟨rfl, hW⟩
  rw [hW]
  clear hW W HA
  go_wp2_with fail
  obtain ⟨R, hR⟩ : ∃ R, R = w.heap.size := ⟨_, rfl⟩
  rw [← hR]
  obtain ⟨V, hV⟩ : ∃ V, V = w.alloc (.cells #[.int .i64 0, .int .i64 0, .int .i64 0, .int .i64 0, .int .i64 0] 45) := ⟨_, rfl⟩
  rw [← hV]
  have hMV : MH w0 V m mm me M (BlkT R (.cells #[.int .i64 0, .int .i64 0, .int .i64 0, .int .i64 0, .int .i64 0] 45 (0, 0)) :: l) := by rw [hV, hR]; exact HM.out.newblk _ _
  have hBV : Below w.heap.size w V.drew := by rw [hV]; exact (below_alloc _ _).drew
  have d0 := hMV.c0
  have d3 := hMV.c3
  rw [HPC.out] at d3
  have HMV := hide (hMV.below ((Below.refl _ _).drew))
  have HF2 := hide (HF.out _ hBV)
  clear hMV hBV hV hR HF HM hc0 hc3
  go_region_held3 (fun w' => w'.cell? ⟨m, 0, none⟩ = some (.pointer (some ⟨mm, 0, none⟩)) ∧ w'.cell? ⟨m, 3, none⟩ = some (.int .u64 (p : Int))) (go_keep)
    (first | (go_at_call 71; refine HF2.out.mono ?_; rintro e W1 ⟨rfl, hb⟩; have h1 := HMV.out.below hb; have g0 := h1.c0; have g3 := h1.c3; rw [HPC.out] at g3; have H1 := hide h1; clear h1 hb))
  clear HF2 HMV
  go_wp2_with fail
  refine (HD.out _ (HL.out.below H1.out.bel HL.out.1)).mono ?_
  rintro e W2 ⟨rfl, hb⟩
  have H2 := hide (H1.out.below hb)
  unfold inst
  clear hb HD HL H1 g0 g3
  go_upto_region 7 with fail
  have H3 := hide (H2.out.below (below_alloc W2 (.cells #[.int .i64 a0, .int .i64 a1, .int .i64 a2, .int .i64 a3, .int .i64 a4] 45)))
  have hcn := cell_new W2 #[.int .i64 a0, .int .i64 a1, .int .i64 a2, .int .i64 a3, .int .i64 a4] 45
  obtain ⟨Y, hY⟩ : ∃ Y, Y = W2.heap.size := ⟨_, rfl⟩
  rw [← hY] at hcn ⊢
  generalize W2.alloc (.cells #[.int .i64 a0, .int .i64 a1, .int .i64 a2, .int .i64 a3, .int .i64 a4] 45) = W3 at *
  have y0 := hcn 0
  have y1 := hcn 1
  have y2 := hcn 2
  have y3 := hcn 3
  have y4 := hcn 4
  have hz := blk_frozen H3.out.blk
  have z0 := hz 0
  have z1 := hz 1
  have z2 := hz 2
  have z3 := hz 3
  have z4 := hz 4
  have hcl := blk_cell H3.out.blk
  have q0 := hcl 0
  have q1 := hcl 1
  have q2 := hcl 2
  have q3 := hcl 3
  have q4 := hcl 4
  clear hz hcl hcn H2 hY d0 d3
  go_wp2
  have H4 := hide (H3.out.reblk (stc5_kept W3 R (.int .i64 a0) (.int .i64 a1) (.int .i64 a2) (.int .i64 a3) (.int .i64 a4)) (stc5_blk H3.out.blk _ _ _ _ _))
  unfold stc5 at H4
  have hcl := blk_cell H4.out.blk
  have r0 := hcl 0
  have r1 := hcl 1
  have r2 := hcl 2
  have r3 := hcl 3
  have r4 := hcl 4
  generalize ((((W3.setCell ⟨R, 0, none⟩ (.int .i64 a0)).setCell ⟨R, 1, none⟩ (.int .i64 a1)).setCell ⟨R, 2, none⟩ (.int .i64 a2)).setCell ⟨R, 3, none⟩ (.int .i64 a3)).setCell ⟨R, 4, none⟩ (.int .i64 a4) = W4 at *
  refine bodyPost_ret (v := .tuple #[inst a0 a1 a2 a3 a4, .int .i64 0]) (by simp [results, Tryz.results33, go_sem, inst, r0, r1, r2, r3, r4]) rfl ⟨rfl, H4.out.unbox⟩

set_option maxHeartbeats 1600000 in
theorem fetch_false (a0 a1 a2 a3 a4 : Int) (w : World) (h : MH w0 w m mm me M l) (ha : M.pc % 4 = 0) (hk : mayB M.mem M.pc 4 1 = true) (hL : Laid w0)
    (hD : ∀ W, Laid W → Calls Tryz.prog 72 #[.int .u32 (fetchV M.mem M.pc)] W fun e w' => e = .returned (.tuple #[inst a0 a1 a2 a3 a4, .bool false]) ∧ Below W.heap.size W w') :
    Calls Tryz.prog 33 #[.pointer (some ⟨m, 0, none⟩)] w fun e w' => e = .returned (.tuple #[inst 0 0 0 0 0, .int .i64 2]) ∧ MH w0 w' m mm me M l := by
  have hc0 := h.c0
  have hc3 := h.c3
  have HA := hide (fun W => aligned_any M.pc W h.fits.place)
  rw [decide_eq_true ha] at HA
  have hml := h.lt
  obtain ⟨F, hP⟩ := h.pm
  have HF := hide (fun W (hW : Below w.heap.size w W) => fetch_any mm M.mem F M.pc W (hP.below hW) h.fits.place)
  rw [hk] at HF
  have HM := hide h
  have HD := hide hD
  have HL := hide hL
  clear h ha hP hk hD hL
  generalize fetchV M.mem M.pc = v at *
  obtain ⟨p, hp⟩ : ∃ p, M.pc = p := ⟨_, rfl⟩
  rw [hp] at HA HF hc3
  have HPC := hide hp
  clear hp
  go_enter Tryz.func33, Tryz.ntmps33
  go_wp2_with fail
  refine (HA.out _).mono ?_
  rintro e W ⟨rfl, hW⟩
  rw [hW]
  clear hW W HA
  go_wp2_with fail
  obtain ⟨R, hR⟩ : ∃ R, R = w.heap.size := ⟨_, rfl⟩
  rw [← hR]
  obtain ⟨V, hV⟩ : ∃ V, V = w.alloc (.cells #[.int .i64 0, .int .i64 0, .int .i64 0, .int .i64 0, .int .i64 0] 45) := ⟨_, rfl⟩
  rw [← hV]
  have hMV : MH w0 V m mm me M (BlkT R (.cells #[.int .i64 0, .int .i64 0, .int .i64 0, .int .i64 0, .int .i64 0] 45 (0, 0)) :: l) := by rw [hV, hR]; exact HM.out.newblk _ _
  have hBV : Below w.heap.size w V.drew := by rw [hV]; exact (below_alloc _ _).drew
  have d0 := hMV.c0
  have d3 := hMV.c3
  rw [HPC.out] at d3
  have HMV := hide (hMV.below ((Below.refl _ _).drew))
  have HF2 := hide (HF.out _ hBV)
  clear hMV hBV hV hR HF HM hc0 hc3
  go_region_held3 (fun w' => w'.cell? ⟨m, 0, none⟩ = some (.pointer (some ⟨mm, 0, none⟩)) ∧ w'.cell? ⟨m, 3, none⟩ = some (.int .u64 (p : Int))) (go_keep)
    (first | (go_at_call 71; refine HF2.out.mono ?_; rintro e W1 ⟨rfl, hb⟩; have h1 := HMV.out.below hb; have g0 := h1.c0; have g3 := h1.c3; rw [HPC.out] at g3; have H1 := hide h1; clear h1 hb))
  clear HF2 HMV
  go_wp2_with fail
  refine (HD.out _ (HL.out.below H1.out.bel HL.out.1)).mono ?_
  rintro e W2 ⟨rfl, hb⟩
  have H2 := hide (H1.out.below hb)
  unfold inst
  clear hb HD HL H1 g0 g3
  go_upto_region 7 with fail
  have H3 := hide (H2.out.below (below_alloc W2 (.cells #[.int .i64 a0, .int .i64 a1, .int .i64 a2, .int .i64 a3, .int .i64 a4] 45)))
  have hcn := cell_new W2 #[.int .i64 a0, .int .i64 a1, .int .i64 a2, .int .i64 a3, .int .i64 a4] 45
  obtain ⟨Y, hY⟩ : ∃ Y, Y = W2.heap.size := ⟨_, rfl⟩
  rw [← hY] at hcn ⊢
  generalize W2.alloc (.cells #[.int .i64 a0, .int .i64 a1, .int .i64 a2, .int .i64 a3, .int .i64 a4] 45) = W3 at *
  have y0 := hcn 0
  have y1 := hcn 1
  have y2 := hcn 2
  have y3 := hcn 3
  have y4 := hcn 4
  have hz := blk_frozen H3.out.blk
  have z0 := hz 0
  have z1 := hz 1
  have z2 := hz 2
  have z3 := hz 3
  have z4 := hz 4
  have hcl := blk_cell H3.out.blk
  have q0 := hcl 0
  have q1 := hcl 1
  have q2 := hcl 2
  have q3 := hcl 3
  have q4 := hcl 4
  clear hz hcl hcn H2 hY d0 d3
  go_wp2
  have H4 := hide (H3.out.reblk (stc5_kept W3 R (.int .i64 0) (.int .i64 0) (.int .i64 0) (.int .i64 0) (.int .i64 0)) (stc5_blk H3.out.blk _ _ _ _ _))
  unfold stc5 at H4
  have hcl := blk_cell H4.out.blk
  have r0 := hcl 0
  have r1 := hcl 1
  have r2 := hcl 2
  have r3 := hcl 3
  have r4 := hcl 4
  generalize ((((W3.setCell ⟨R, 0, none⟩ (.int .i64 0)).setCell ⟨R, 1, none⟩ (.int .i64 0)).setCell ⟨R, 2, none⟩ (.int .i64 0)).setCell ⟨R, 3, none⟩ (.int .i64 0)).setCell ⟨R, 4, none⟩ (.int .i64 0) = W4 at *
  refine bodyPost_ret (v := .tuple #[inst 0 0 0 0 0, .int .i64 2]) (by simp [results, Tryz.results33, go_sem, inst, r0, r1, r2, r3, r4]) rfl ⟨rfl, H4.out.unbox⟩

end

end Go.Proofs.YtdhjjlnabbpinaaGreatDoor

/- Contracts of package mach's Step, Run, New. -/
namespace Go.Proofs.YtdhjjlnabbpinaaGreatDoor
open Go.RowKit Go.Maps
set_option linter.unusedVariables false
set_option maxRecDepth 100000

def stV (k c t : Int) : Value := .agg #[.int .i64 k, .int .i64 c, .int .i64 t]

section
variable {w0 w w' : World} {m mm me : Nat} {M : Mc} {l : List (World → (Nat → Prop) → Prop)} {X : Nat} {o o' : Obj}

theorem step_ended (w : World) (h : MH w0 w m mm me M l) (hk : M.kind ≠ 0) :
    Calls Tryz.prog 9 #[.pointer (some ⟨m, 0, none⟩)] w fun e w' => e = .returned (stV M.kind M.code M.trap) ∧ MH w0 w' m mm me M l := by
  obtain ⟨⟨c4, c5, c6⟩, hz⟩ := h.st
  have hk' : (M.kind != 0) = true := by simpa using hk
  have hml := h.lt
  have HM := hide (h.below (below_alloc w (.cells #[.int .i64 M.kind, .int .i64 M.code, .int .i64 M.trap] 36)))
  clear h hk hz
  generalize M.kind = k at *
  generalize M.code = c at *
  generalize M.trap = t at *
  go_enter Tryz.func9, Tryz.ntmps9
  go_wp2
  refine bodyPost_ret (v := stV k c t) (by simp [results, Tryz.results9, go_sem, stV]) rfl ⟨rfl, HM.out⟩

set_option maxHeartbeats 1600000 in
theorem step_trap (T : Int) (a0 a1 a2 a3 a4 : Int) (w : World) (h : MH w0 w m mm me M l) (hk : M.kind = 0) (hT : T ≠ 0) (hTI : InI T)
    (hF : ∀ W l, MH w0 W m mm me M l → Calls Tryz.prog 33 #[.pointer (some ⟨m, 0, none⟩)] W fun e w' => e = .returned (.tuple #[inst a0 a1 a2 a3 a4, .int .i64 T]) ∧ MH w0 w' m mm me M l) :
    Calls Tryz.prog 9 #[.pointer (some ⟨m, 0, none⟩)] w fun e w' => e = .returned (stV 2 0 T) ∧ MH w0 w' m mm me (M.trapped T) l := by
  obtain ⟨⟨c4, c5, c6⟩, hz⟩ := h.st
  rw [hk] at c4
  have t1 : (T == 0) = false := by simpa using hT
  have t2 : (T != 0) = true := by simpa using hT
  have hml := h.lt
  have HF := hide hF
  have HM := hide h
  have HTI := hide hTI
  clear h hk hz hF hT hTI
  go_enter Tryz.func9, Tryz.ntmps9
  go_wp2_with fail
  obtain ⟨R, hR⟩ : ∃ R, R = w.heap.size := ⟨_, rfl⟩
  rw [← hR]
  obtain ⟨V, hV⟩ : ∃ V, V = w.alloc (.cells #[.int .i64 0, .int .i64 0, .int .i64 0] 36) := ⟨_, rfl⟩
  rw [← hV]
  have hMV : MH w0 V m mm me M (BlkT R (.cells #[.int .i64 0, .int .i64 0, .int .i64 0] 36 (0, 0)) :: l) := by rw [hV, hR]; exact HM.out.newblk _ _
  clear hV hR HM c4 c5 c6
  refine (HF.out _ _ hMV).mono ?_
  rintro e W1 ⟨rfl, h1⟩
  have H1 := hide h1
  clear h1 hMV HF
  unfold inst
  go_upto_region 4 with fail
  have H2 := hide (H1.out.below (below_alloc W1 (.cells #[.int .i64 a0, .int .i64 a1, .int .i64 a2, .int .i64 a3, .int .i64 a4] 45)))
  obtain ⟨Y, hY⟩ : ∃ Y, Y = W1.heap.size := ⟨_, rfl⟩
  rw [← hY]
  generalize W1.alloc (.cells #[.int .i64 a0, .int .i64 a1, .int .i64 a2, .int .i64 a3, .int .i64 a4] 45) = W2 at *
  obtain ⟨⟨c4, c5, c6⟩, hz⟩ := H2.out.st
  have z4 := hz 4
  have z5 := hz 5
  have z6 := hz 6
  clear hz H1 hY
  go_upto_region 8 with fail
  have H3 := hide (H2.out.ended (k' := 2) (c' := 0) (t' := T) (by unfold InI; omega) (by unfold InI; omega) HTI.out)
  generalize (((W2.setCell ⟨m, 4, none⟩ (.int .i64 2)).setCell ⟨m, 5, none⟩ (.int .i64 0)).setCell ⟨m, 6, none⟩ (.int .i64 T)) = W3 at *
  clear c4 c5 c6 z4 z5 z6 H2
  obtain ⟨⟨c4, c5, c6⟩, _⟩ := H3.out.st
  dsimp only at c4 c5 c6
  have hz := blk_frozen H3.out.blk
  have z0 := hz 0
  have z1 := hz 1
  have z2 := hz 2
  have hcl := blk_cell H3.out.blk
  have q0 := hcl 0
  have q1 := hcl 1
  have q2 := hcl 2
  clear hz hcl
  go_wp2
  have H4 := hide (H3.out.reblk (stc3_kept W3 R (.int .i64 2) (.int .i64 0) (.int .i64 T)) (stc3_blk H3.out.blk _ _ _))
  unfold stc3 at H4
  have hcl := blk_cell H4.out.blk
  have r0 := hcl 0
  have r1 := hcl 1
  have r2 := hcl 2
  generalize ((W3.setCell ⟨R, 0, none⟩ (.int .i64 2)).setCell ⟨R, 1, none⟩ (.int .i64 0)).setCell ⟨R, 2, none⟩ (.int .i64 T) = W4 at *
  refine bodyPost_ret (v := stV 2 0 T) (by simp [results, Tryz.results9, go_sem, stV, r0, r1, r2]) rfl ⟨rfl, H4.out.unbox⟩

theorem fit5_of (o : Nat) (v : Int) : Fit5 (rdO (fmo o) v) (r1O (fmo o) v) (r2O (fmo o) v) (imO (fmo o) v) := by
  have h := get_bd (fmo o) v
  refine ⟨?_, ?_, ?_, ?_⟩
  · unfold rdO; split <;> omega
  · unfold r1O; split <;> omega
  · unfold r2O; split <;> omega
  · unfold imO
    split
    · rw [show (2 : Int) ^ 6 = 64 by decide]; omega
    · split
      · rw [show (2 : Int) ^ 5 = 32 by decide]; omega
      · omega

set_option maxHeartbeats 1600000 in
theorem step_do (o : Nat) (a1 a2 a3 a4 : Int) (w : World) (h : MH w0 w m mm me M l) (hk : M.kind = 0) (hL : Laid w0) (h0 : 1 ≤ o) (h1 : o < 66) (hf : Fit5 a1 a2 a3 a4) (ht : M.tr.length < 1000000) (hi : M.ins.length ≤ 140737488355328)
    (hF : ∀ W l, MH w0 W m mm me M l → Calls Tryz.prog 33 #[.pointer (some ⟨m, 0, none⟩)] W fun e w' => e = .returned (.tuple #[inst o a1 a2 a3 a4, .int .i64 0]) ∧ MH w0 w' m mm me M l) :
    Calls Tryz.prog 9 #[.pointer (some ⟨m, 0, none⟩)] w fun e w' => e = .returned (stV (M.doF o a1 a2 a3 a4).kind (M.doF o a1 a2 a3 a4).code (M.doF o a1 a2 a3 a4).trap) ∧ MH w0 w' m mm me (M.doF o a1 a2 a3 a4) l := by
  obtain ⟨⟨c4, c5, c6⟩, hz⟩ := h.st
  rw [hk] at c4
  have hml := h.lt
  have HF := hide hF
  have HDo := hide (fun W l (hW : MH w0 W m mm me M l) => do_any o a1 a2 a3 a4 W hW hL h0 h1 hf ht hi)
  have HM := hide h
  generalize M.doF o a1 a2 a3 a4 = D at *
  clear h hk hz hF hL hf ht hi h0 h1
  go_enter Tryz.func9, Tryz.ntmps9
  go_wp2_with fail
  obtain ⟨R, hR⟩ : ∃ R, R = w.heap.size := ⟨_, rfl⟩
  rw [← hR]
  obtain ⟨V, hV⟩ : ∃ V, V = w.alloc (.cells #[.int .i64 0, .int .i64 0, .int .i64 0] 36) := ⟨_, rfl⟩
  rw [← hV]
  have hMV : MH w0 V m mm me M (BlkT R (.cells #[.int .i64 0, .int .i64 0, .int .i64 0] 36 (0, 0)) :: l) := by rw [hV, hR]; exact HM.out.newblk _ _
  clear hV hR HM c4 c5 c6
  refine (HF.out _ _ hMV).mono ?_
  rintro e W1 ⟨rfl, h1⟩
  have H1 := hide h1
  clear h1 hMV HF
  unfold inst at *
  go_upto_region 4 with fail
  have H2 := hide (H1.out.below (below_alloc W1 (.cells #[.int .i64 (o : Int), .int .i64 a1, .int .i64 a2, .int .i64 a3, .int .i64 a4] 45)))
  have hcn := cell_new W1 #[.int .i64 (o : Int), .int .i64 a1, .int .i64 a2, .int .i64 a3, .int .i64 a4] 45
  obtain ⟨Y, hY⟩ : ∃ Y, Y = W1.heap.size := ⟨_, rfl⟩
  rw [← hY] at hcn ⊢
  generalize W1.alloc (.cells #[.int .i64 (o : Int), .int .i64 a1, .int .i64 a2, .int .i64 a3, .int .i64 a4] 45) = W2 at *
  have y0 := hcn 0
  have y1 := hcn 1
  have y2 := hcn 2
  have y3 := hcn 3
  have y4 := hcn 4
  clear hcn H1 hY
  go_wp2_with fail
  refine (HDo.out _ _ H2.out).mono ?_
  rintro e W3 ⟨r, M', rfl, hd, h3⟩
  have H3 := hide h3
  clear h3 HDo H2 y0 y1 y2 y3 y4
  rcases hd with ⟨rfl, rfl⟩ | ⟨hr, hri, rfl, rfl⟩
  · go_upto_region 8 with fail
    obtain ⟨⟨c4, c5, c6⟩, _⟩ := H3.out.st
    have hz := blk_frozen H3.out.blk
    have z0 := hz 0
    have z1 := hz 1
    have z2 := hz 2
    have hcl := blk_cell H3.out.blk
    have q0 := hcl 0
    have q1 := hcl 1
    have q2 := hcl 2
    have H4 := hide (H3.out.reblk (stc3_kept W3 R (.int .i64 M'.kind) (.int .i64 M'.code) (.int .i64 M'.trap)) (stc3_blk H3.out.blk _ _ _))
    unfold stc3 at H4
    clear hz hcl
    go_wp2
    have hcl := blk_cell H4.out.blk
    have r0 := hcl 0
    have r1 := hcl 1
    have r2 := hcl 2
    generalize ((W3.setCell ⟨R, 0, none⟩ (.int .i64 M'.kind)).setCell ⟨R, 1, none⟩ (.int .i64 M'.code)).setCell ⟨R, 2, none⟩ (.int .i64 M'.trap) = W4 at *
    refine bodyPost_ret (v := stV M'.kind M'.code M'.trap) (by simp [results, Tryz.results9, go_sem, stV, r0, r1, r2]) rfl ⟨rfl, H4.out.unbox⟩
  · have t2 : (r != 0) = true := by simpa using hr
    obtain ⟨⟨c4, c5, c6⟩, hz⟩ := H3.out.st
    have z4 := hz 4
    have z5 := hz 5
    have z6 := hz 6
    have HRI := hide hri
    clear hz hr hri
    go_upto_region 8 with fail
    have H5 := hide (H3.out.ended (k' := 2) (c' := 0) (t' := r) (by unfold InI; omega) (by unfold InI; omega) HRI.out)
    generalize (((W3.setCell ⟨m, 4, none⟩ (.int .i64 2)).setCell ⟨m, 5, none⟩ (.int .i64 0)).setCell ⟨m, 6, none⟩ (.int .i64 r)) = W5 at *
    clear c4 c5 c6 z4 z5 z6 H3
    obtain ⟨⟨c4, c5, c6⟩, _⟩ := H5.out.st
    dsimp only at c4 c5 c6
    have hz := blk_frozen H5.out.blk
    have z0 := hz 0
    have z1 := hz 1
    have z2 := hz 2
    have hcl := blk_cell H5.out.blk
    have q0 := hcl 0
    have q1 := hcl 1
    have q2 := hcl 2
    clear hz hcl
    go_wp2
    have H4 := hide (H5.out.reblk (stc3_kept W5 R (.int .i64 2) (.int .i64 0) (.int .i64 r)) (stc3_blk H5.out.blk _ _ _))
    unfold stc3 at H4
    have hcl := blk_cell H4.out.blk
    have r0 := hcl 0
    have r1 := hcl 1
    have r2 := hcl 2
    generalize ((W5.setCell ⟨R, 0, none⟩ (.int .i64 2)).setCell ⟨R, 1, none⟩ (.int .i64 0)).setCell ⟨R, 2, none⟩ (.int .i64 r) = W4 at *
    refine bodyPost_ret (v := stV 2 0 r) (by simp [results, Tryz.results9, go_sem, stV, r0, r1, r2]) rfl ⟨rfl, H4.out.unbox⟩

/-- A step. -/
theorem step_any (w : World) (h : MH w0 w m mm me M l) (hL : Laid w0) (ht : M.tr.length < 1000000) (hi : M.ins.length ≤ 140737488355328) :
    Calls Tryz.prog 9 #[.pointer (some ⟨m, 0, none⟩)] w fun e w' => e = .returned (stV M.step.kind M.step.code M.step.trap) ∧ MH w0 w' m mm me M.step l := by
  unfold Mc.step
  by_cases hk : M.kind = 0
  · rw [if_pos hk]
    by_cases ha : M.pc % 4 = 0
    · rw [if_pos ha]
      cases hm : mayB M.mem M.pc 4 1 with
      | false =>
        rw [if_neg (by decide)]
        exact step_trap 1 0 0 0 0 0 w h hk (by decide) (by unfold InI; omega) (fun W l hW => fetch_no W hW ha hm)
      | true =>
        rw [if_pos rfl]
        have hb := fetchV_bd h.good M.pc
        have hop := opOf_is (fetchV M.mem M.pc)
        by_cases ho : opOf (fetchV M.mem M.pc) = 0
        · rw [if_pos ho]
          rw [ho] at hop
          exact step_trap 2 0 0 0 0 0 w h hk (by decide) (by unfold InI; omega) (fun W l hW => fetch_false 0 0 0 0 0 W hW ha hm hL (fun W' hL' => dec_none _ W' hb.1 hb.2 hop hL'))
        · rw [if_neg ho]
          obtain ⟨h1, h2, h3⟩ := hop.resolve_left (fun e => ho e.1)
          exact step_do _ _ _ _ _ w h hk hL h1 h2 (fit5_of _ _) ht hi (fun W l hW => fetch_true _ _ _ _ _ W hW ha hm hL (fun W' hL' => dec_some _ _ W' hb.1 hb.2 h1 h2 h3 hL'))
    · rw [if_neg ha]
      exact step_trap 5 0 0 0 0 0 w h hk (by decide) (by unfold InI; omega) (fun W l hW => fetch_align W hW ha)
  · rw [if_neg hk]
    exact step_ended w h hk

/-- What a step does to the events, to the input: at most one event more. -/
def TrOk (M M' : Mc) : Prop := M'.tr.length ≤ M.tr.length + 1 ∧ M'.ins.length ≤ M.ins.length
theorem tr_same {M M' : Mc} (h1 : M'.tr = M.tr) (h2 : M'.ins = M.ins) : TrOk M M' := ⟨by rw [h1]; omega, by rw [h2]; exact Nat.le_refl _⟩
theorem tr_jump (M : Mc) (rd p : Int) : TrOk M (M.jump rd p) := by
  unfold Mc.jump
  split
  · exact tr_same rfl rfl
  · exact tr_same rfl rfl
theorem tr_call (M : Mc) : TrOk M M.call := by
  unfold Mc.call
  repeat' split
  all_goals first
    | exact tr_same rfl rfl
    | (refine ⟨?_, ?_⟩ <;> simp [Mc.put])
theorem tr_do (M : Mc) (o : Nat) (rd r1 r2 im : Int) : TrOk M (M.doF o rd r1 r2 im) := by
  unfold Mc.doF
  repeat' split
  all_goals first
    | exact tr_call _
    | exact tr_jump _ _ _
    | exact tr_same rfl rfl
theorem Mc.step_tr (M : Mc) : TrOk M M.step := by
  unfold Mc.step
  repeat' split
  all_goals first | exact tr_do _ _ _ _ _ _ | exact tr_same rfl rfl

noncomputable def Mc.runF (M : Mc) : Nat → Mc
  | 0 => M
  | n + 1 => (M.runF n).step
theorem Mc.runF_tr (M : Mc) : ∀ n, (M.runF n).tr.length ≤ M.tr.length + n ∧ (M.runF n).ins.length ≤ M.ins.length
  | 0 => ⟨Nat.le_refl _, Nat.le_refl _⟩
  | n + 1 => by
    have h1 := Mc.runF_tr M n
    obtain ⟨h2, h3⟩ := (M.runF n).step_tr
    unfold Mc.runF
    omega
theorem Mc.step_ended {M : Mc} (h : M.kind ≠ 0) : M.step = M := by unfold Mc.step; rw [if_neg h]
theorem Mc.runF_ended {M : Mc} {j : Nat} (h : (M.runF j).kind ≠ 0) : ∀ n, j ≤ n → M.runF n = M.runF j
  | 0, hn => by obtain rfl : j = 0 := by omega
                rfl
  | n + 1, hn => by
    by_cases e : j = n + 1
    · rw [e]
    · have h1 := Mc.runF_ended h n (by omega)
      show (M.runF n).step = _
      rw [h1]
      exact Mc.step_ended h

end

end Go.Proofs.YtdhjjlnabbpinaaGreatDoor

/- Contracts of package mach's Run and New. -/
namespace Go.Proofs.YtdhjjlnabbpinaaGreatDoor
open Go.RowKit Go.Maps
set_option linter.unusedVariables false
set_option maxRecDepth 100000

theorem stfield (x y z : Value) (w : World) : (Instr.field 36 (.agg #[x, y, z]) 0).run Tryz.prog w = .ok x w := by kernel_rfl

section
variable {w0 w w' : World} {m mm me : Nat} {M : Mc} {l : List (World → (Nat → Prop) → Prop)} {X : Nat} {o o' : Obj}

set_option maxHeartbeats 1600000 in
theorem run_any (n : Nat) (w : World) (h : MH w0 w m mm me M l) (hL : Laid w0) (hn : n ≤ 1000) (ht : M.tr.length + n ≤ 100000) (hi : M.ins.length ≤ 140737488355328) :
    Calls Tryz.prog 25 #[.pointer (some ⟨m, 0, none⟩), .int .i64 (n : Int)] w fun e w' => e = .returned (stV (M.runF n).kind (M.runF n).code (M.runF n).trap) ∧ MH w0 w' m mm me (M.runF n) l := by
  have HS := hide (fun j (hj : j < n) W l (hW : MH w0 W m mm me (M.runF j) l) => step_any (M := M.runF j) W hW hL (by have := (M.runF_tr j).1; omega) (by have := (M.runF_tr j).2; omega))
  have HM := hide h
  have hml := h.lt
  clear h hL ht hi
  go_enter Tryz.func25, Tryz.ntmps25
  go_wp2
  obtain ⟨R, hR⟩ : ∃ R, R = w.heap.size := ⟨_, rfl⟩
  rw [← hR]
  obtain ⟨V, hV⟩ : ∃ V, V = w.alloc (.cells #[.int .i64 0, .int .i64 0, .int .i64 0] 36) := ⟨_, rfl⟩
  rw [← hV]
  have HMV : Hid (MH w0 V m mm me M (BlkT R (.cells #[.int .i64 0, .int .i64 0, .int .i64 0] 36 (0, 0)) :: l)) := by rw [hV, hR]; exact HM.out.newblk _ _
  clear hV hR HM
  go_loopw [7] (fun i wr => ∃ j : Nat, j ≤ n ∧ i = .int .i64 (j : Int) ∧ MH w0 wr m mm me (M.runF j) (BlkT R (.cells #[.int .i64 0, .int .i64 0, .int .i64 0] 36 (0, 0)) :: l)) (fun i _ => n - (intOf i).toNat)
  case atStart => exact ⟨0, by omega, rfl, HMV.out⟩
  case round =>
    obtain ⟨j, hj, rfl, hW⟩ := hrel
    have HW := hide hW
    clear hW
    by_cases hlt : j < n
    · go_wp2_with fail
      refine (HS.out j hlt _ _ HW.out).mono ?_
      rintro e W3 ⟨rfl, h3⟩
      have H3 := hide h3
      clear h3 HW HS HMV
      obtain ⟨N, hN⟩ : ∃ N, M.runF (j + 1) = N := ⟨_, rfl⟩
      have hN' : (M.runF j).step = N := hN
      rw [hN'] at H3 ⊢
      have hfld := stfield
      unfold stV
      by_cases hk : N.kind = 0
      · have hk' : (N.kind != 0) = false := by simpa using hk
        have HN := hide hN
        clear hN hN' hk
        generalize N.kind = nk at *
        go_wp2
        go_roundw
        case rel => exact ⟨j + 1, by omega, by go_num, by rw [HN.out]; exact H3.out⟩
        case measure => simp [intOf]; omega
      · have hk' : (N.kind != 0) = true := by simpa using hk
        have HN : Hid (M.runF n = N) := by
          rw [← hN] at hk ⊢
          exact Mc.runF_ended hk n (by omega)
        clear hN hN' hk
        go_upto_region 5 with fail
        obtain ⟨⟨c4, c5, c6⟩, _⟩ := H3.out.st
        have hz := blk_frozen H3.out.blk
        have z0 := hz 0
        have z1 := hz 1
        have z2 := hz 2
        have hcl := blk_cell H3.out.blk
        have q0 := hcl 0
        have q1 := hcl 1
        have q2 := hcl 2
        have H4 := hide (H3.out.reblk (stc3_kept W3 R (.int .i64 N.kind) (.int .i64 N.code) (.int .i64 N.trap)) (stc3_blk H3.out.blk _ _ _))
        unfold stc3 at H4
        clear hz hcl
        go_wp2
        have hcl := blk_cell H4.out.blk
        have r0 := hcl 0
        have r1 := hcl 1
        have r2 := hcl 2
        generalize ((W3.setCell ⟨R, 0, none⟩ (.int .i64 N.kind)).setCell ⟨R, 1, none⟩ (.int .i64 N.code)).setCell ⟨R, 2, none⟩ (.int .i64 N.trap) = W4 at *
        have H5 := hide H4.out.unbox
        refine bodyPost_ret (v := stV N.kind N.code N.trap) (by simp [results, Tryz.results25, go_sem, stV, r0, r1, r2]) rfl ⟨by rw [HN.out], by rw [HN.out]; exact H5.out⟩
    · obtain rfl : j = n := by omega
      obtain ⟨N, hN⟩ : ∃ N, M.runF j = N := ⟨_, rfl⟩
      have HN := hide hN
      rw [hN] at HW
      clear hN HS HMV
      revert HW
      generalize wr = W3
      intro H3
      go_upto_region 5 with fail
      obtain ⟨⟨c4, c5, c6⟩, _⟩ := H3.out.st
      have hz := blk_frozen H3.out.blk
      have z0 := hz 0
      have z1 := hz 1
      have z2 := hz 2
      have hcl := blk_cell H3.out.blk
      have q0 := hcl 0
      have q1 := hcl 1
      have q2 := hcl 2
      have H4 := hide (H3.out.reblk (stc3_kept W3 R (.int .i64 N.kind) (.int .i64 N.code) (.int .i64 N.trap)) (stc3_blk H3.out.blk _ _ _))
      unfold stc3 at H4
      clear hz hcl
      go_wp2
      have hcl := blk_cell H4.out.blk
      have r0 := hcl 0
      have r1 := hcl 1
      have r2 := hcl 2
      generalize ((W3.setCell ⟨R, 0, none⟩ (.int .i64 N.kind)).setCell ⟨R, 1, none⟩ (.int .i64 N.code)).setCell ⟨R, 2, none⟩ (.int .i64 N.trap) = W4 at *
      have H5 := hide H4.out.unbox
      refine bodyPost_ret (v := stV N.kind N.code N.trap) (by simp [results, Tryz.results25, go_sem, stV, r0, r1, r2]) rfl ⟨by rw [HN.out], by rw [HN.out]; exact H5.out⟩

theorem new_mach (mm me entry : Nat) (S : Mm) (ins : List Int) (tr : List Says) (w : World) (h : Has w0 w (PMt mm S :: EV w0.heap.size 111 me ins tr :: l)) (he : entry ≤ 18446744073709551615) :
    Calls Tryz.prog 23 #[.pointer (some ⟨mm, 0, none⟩), .pointer (some ⟨me, 0, none⟩), .int .u64 (entry : Int)] w fun e w' => ∃ m, e = .returned (.pointer (some ⟨m, 0, none⟩)) ∧ MH w0 w' m mm me ⟨S, ins, tr, fun _ => 0, entry, 0, 0, 0⟩ l := by
  have in0 : (-9223372036854775808 : Int) ≤ 0 ∧ (0 : Int) ≤ 9223372036854775807 := by decide
  have HM := hide h
  have hmm := @run_makeMap Tryz.prog
  clear h
  go_enter Tryz.func23, Tryz.ntmps23
  go_wp2
  go_ret
  refine ⟨w.heap.size + 1, rfl, ?_⟩
  refine Has.more HM.out (F := fun k => k = w.heap.size ∨ k = w.heap.size + 1) (((Below.refl _ _).alloc (Nat.le_refl _) _).alloc (by simp) _) ⟨w.heap.size, 0, fun _ => none, ⟨?_, (MapI.made w).kept (Below.heap_alloc _ _ _ (by simp)), by omega, fun z hz => ?_, ⟨fun i => by simp, rfl, fun i hi => rfl, he, in0, in0, in0⟩, Or.inr rfl, Or.inl rfl, ?_⟩⟩ ?_ (hd_stays _ _ _ _ _ _ _ _ _)
  · have := heap_alloc_new (w.alloc (.map #[] 0)) (.cells #[.pointer (some ⟨mm, 0, none⟩), .pointer (some ⟨me, 0, none⟩), .map (some w.heap.size), .int .u64 (entry : Int), .int .i64 0, .int .i64 0, .int .i64 0] 76)
    simpa using this
  · unfold rg
    split <;> rfl
  · intro k hk; simp; omega
  · intro k hk; omega

end

end Go.Proofs.YtdhjjlnabbpinaaGreatDoor

/- The document's memory in a world; contracts of its NewMem, Size, Perm, May, get, put. -/
namespace Go.Proofs.YtdhjjlnabbpinaaGreatDoor
open Go.RowKit Go.Maps
set_option linter.unusedVariables false
set_option maxRecDepth 100000

structure RMx (w : World) (m b : Nat) (pb db : Nat → Nat) (S : Mm) (F : Nat → Prop) : Prop where
  head : w.heap[m]? = some (.cells #[.map (some b)] 101 (0, 0))
  map : MapAt w b S.count (fun i => if S.perm i = 0 then none else some (.pointer (some ⟨pb i, 0, none⟩)))
  good : S.Good
  node : ∀ i, S.perm i ≠ 0 → w.heap[pb i]? = some (.cells #[.int .i64 (S.perm i), .slice (some ⟨db i, 0, none⟩) 4096 4096] 108 (0, 0))
  page : ∀ i, S.perm i ≠ 0 → Page w (db i) S i
  apart : ∀ i j, S.perm i ≠ 0 → S.perm j ≠ 0 → db i = db j → i = j
  fm : F m
  fb : F b
  fp : ∀ i, S.perm i ≠ 0 → F (pb i)
  fd : ∀ i, S.perm i ≠ 0 → F (db i)
  flt : ∀ k, F k → k < w.heap.size

/-- Block m is the document's memory S; its blocks are among F. -/
def RM (w : World) (m : Nat) (S : Mm) (F : Nat → Prop) : Prop := ∃ b pb db, RMx w m b pb db S F

section
variable {w w' : World} {m b : Nat} {pb db : Nat → Nat} {S : Mm} {F G : Nat → Prop}

theorem RMx.kept (h : RMx w m b pb db S F) (hk : Kept G w w') (hd : ∀ k, F k → ¬ G k) : RMx w' m b pb db S F :=
  have same : ∀ k, F k → w'.heap[k]? = w.heap[k]? := fun k hF => hk.block k (h.flt k hF) (hd k hF)
  ⟨(same m h.fm).trans h.head, h.map.kept (same b h.fb), h.good, fun i hi => (same _ (h.fp i hi)).trans (h.node i hi), fun i hi => (h.page i hi).kept (same _ (h.fd i hi)), h.apart, h.fm, h.fb, h.fp, h.fd,
    fun k hF => Nat.lt_of_lt_of_le (h.flt k hF) hk.size⟩

theorem RM.kept (h : RM w m S F) (hk : Kept G w w') (hd : ∀ k, F k → ¬ G k) : RM w' m S F := by
  obtain ⟨b, pb, db, h⟩ := h
  exact ⟨b, pb, db, h.kept hk hd⟩

theorem RM.flt (h : RM w m S F) : ∀ k, F k → k < w.heap.size := by
  obtain ⟨b, pb, db, h⟩ := h
  exact h.flt

theorem RM.good (h : RM w m S F) : S.Good := by
  obtain ⟨b, pb, db, h⟩ := h
  exact h.good

theorem RM.below (h : RM w m S F) (hb : Below w.heap.size w w') : RM w' m S F := h.kept (kept_of_below hb (fun _ => False)) (fun _ _ h => h)
theorem RMx.below (h : RMx w m b pb db S F) (hb : Below w.heap.size w w') : RMx w' m b pb db S F := h.kept (kept_of_below hb (fun _ => False)) (fun _ _ h => h)

theorem RMx.cell (h : RMx w m b pb db S F) : w.cell? ⟨m, 0, none⟩ = some (.map (some b)) := by
  rw [cell_of_row _ _ 0 _ _ _ h.head]; rfl
theorem RMx.cell0 (h : RMx w m b pb db S F) {i : Nat} (hi : S.perm i ≠ 0) : w.cell? ⟨pb i, 0, none⟩ = some (.int .i64 (S.perm i)) := by
  rw [cell_of_row _ _ 0 _ _ _ (h.node i hi)]; rfl
theorem RMx.cell1 (h : RMx w m b pb db S F) {i : Nat} (hi : S.perm i ≠ 0) : w.cell? ⟨pb i, 1, none⟩ = some (.slice (some ⟨db i, 0, none⟩) 4096 4096) := by
  rw [cell_of_row _ _ 1 _ _ _ (h.node i hi)]; rfl
theorem RMx.byte (h : RMx w m b pb db S F) {i : Nat} (hi : S.perm i ≠ 0) (j : Nat) (hj : j < 4096) : w.cell? ⟨db i, j, none⟩ = some (.int .u8 (S.byte (i * 4096 + j))) := by
  obtain ⟨cs, h1, h2, h3⟩ := h.page i hi
  rw [cell_of_row _ _ j _ _ _ h1]
  simpa using h3 j hj
theorem RMx.look (h : RMx w m b pb db S F) (i : Nat) (hi : i ≤ 18446744073709551615) (h0 : S.perm i ≠ 0) :
    (Instr.lookup 99 (.map (some b)) (.int .u64 (i : Int)) false).run Tryz.prog w = .ok (.pointer (some ⟨pb i, 0, none⟩)) w := by
  rw [h.map.look Tryz.underlying99 (zeroPtr w) i hi, if_neg h0]; rfl
theorem RMx.look0 (h : RMx w m b pb db S F) (i : Nat) (hi : i ≤ 18446744073709551615) (h0 : S.perm i = 0) :
    (Instr.lookup 99 (.map (some b)) (.int .u64 (i : Int)) false).run Tryz.prog w = .ok (.pointer none) w := by
  rw [h.map.look Tryz.underlying99 (zeroPtr w) i hi, if_pos h0]; rfl

theorem RMx.dm (h : RMx w m b pb db S F) {i : Nat} (hi : S.perm i ≠ 0) : db i ≠ m := fun e => by
  obtain ⟨cs, h1, h2, _⟩ := h.page i hi
  rw [e, h.head] at h1
  have h3 := congrArg (fun o : Option Obj => match o with | some (.cells c _ _) => c.size | _ => 0) h1
  simp [h2] at h3
theorem RMx.dp (h : RMx w m b pb db S F) {i j : Nat} (hi : S.perm i ≠ 0) (hj : S.perm j ≠ 0) : db i ≠ pb j := fun e => by
  obtain ⟨cs, h1, h2, _⟩ := h.page i hi
  rw [e, h.node j hj] at h1
  have h3 := congrArg (fun o : Option Obj => match o with | some (.cells c _ _) => c.size | _ => 0) h1
  simp [h2] at h3
theorem RMx.dbb (h : RMx w m b pb db S F) {i : Nat} (hi : S.perm i ≠ 0) : db i ≠ b := fun e => by
  obtain ⟨cs, h1, h2, _⟩ := h.page i hi
  rw [e] at h1
  exact h.map.noCells h1
theorem RMx.pbb (h : RMx w m b pb db S F) {i : Nat} (hi : S.perm i ≠ 0) : pb i ≠ b := fun e => by
  have h1 := h.node i hi
  rw [e] at h1
  exact h.map.noCells h1
theorem RMx.mb (h : RMx w m b pb db S F) : m ≠ b := fun e => by
  have h1 := h.head
  rw [e] at h1
  exact h.map.noCells h1

theorem rm_lasts (m : Nat) (S : Mm) : Lasts (fun w F => RM w m S F) := ⟨fun h hk hd => h.kept hk hd, fun h => h.flt⟩

/-- One byte laid. -/
theorem RMx.laid1 (h : RMx w m b pb db S F) {i off : Nat} (hi : S.perm i ≠ 0) (ho : off < 4096) {c : Int} (hc : 0 ≤ c ∧ c ≤ 255) : RMx (w.setCell ⟨db i, off, none⟩ (.int .u8 c)) m b pb db (S.lay (i * 4096 + off) [c]) F := by
  have same : ∀ k, k ≠ db i → (w.setCell ⟨db i, off, none⟩ (.int .u8 c)).heap[k]? = w.heap[k]? := fun k hk => Below.heap_setCell _ _ _ _ hk
  have hb : Bytes [c] := fun x hx => by simp at hx; subst hx; exact hc
  refine ⟨(same m (fun e => h.dm hi e.symm)).trans h.head, h.map.kept (same b (fun e => h.dbb hi e.symm)), h.good.lay _ hb, fun j hj => (same _ (fun e => h.dp hi hj e.symm)).trans (h.node j hj), ?_, h.apart, h.fm, h.fb, h.fp, h.fd, fun k hk => by simpa [World.setCell] using h.flt k hk⟩
  intro j hj
  by_cases hji : j = i
  · subst hji
    obtain ⟨L, h1, h2, h3⟩ := h.page j hj
    refine (h.page j hj).laid (off := off) (by simp; omega) h1 ?_
    rw [heap_setCell_same w (db j) off _ 5 (.int .u8 c) h1, List.setIfInBounds_toArray]
    congr 2
    unfold splice
    rw [List.set_eq_take_append_cons_drop, if_pos (by omega)]
    simp
  · exact (h.page j hj).other (by simp; omega) hji (same _ (fun e => hji (h.apart j i hj hi e)))

end

theorem rnew_any (w : World) :
    Calls Tryz.prog 18 #[] w fun e w' => ∃ m F, e = .returned (.pointer (some ⟨m, 0, none⟩)) ∧ RM w' m Mm.new F ∧ (∀ k, F k → w.heap.size ≤ k) ∧ Below w.heap.size w w' := by
  have hmm := @run_makeMap Tryz.prog
  go_enter Tryz.func18, Tryz.ntmps18
  go_wp2
  go_ret
  refine ⟨w.heap.size + 1, fun k => k = w.heap.size ∨ k = w.heap.size + 1, rfl, ⟨w.heap.size, fun _ => 0, fun _ => 0, ?_, ?_, Mm.new_good, fun i hi => absurd rfl hi, fun i hi => absurd rfl hi, fun i j hi => absurd rfl hi, Or.inr rfl, Or.inl rfl, fun i hi => absurd rfl hi, fun i hi => absurd rfl hi, ?_⟩, ?_, ?_⟩
  · have := heap_alloc_new (w.alloc (.map #[] 0)) (.cells #[.map (some w.heap.size)] 101)
    simpa using this
  · exact ((MapAt.made w).kept (Below.heap_alloc _ _ _ (by simp))).congr (fun i _ => by simp [Mm.new])
  · intro k hk; simp; omega
  · intro k hk; omega
  · exact ((Below.refl _ _).alloc (Nat.le_refl _) _).alloc (by simp) _

theorem rsize_any (m : Nat) (S : Mm) (F : Nat → Prop) (w : World) (h : RM w m S F) :
    Calls Tryz.prog 55 #[.pointer (some ⟨m, 0, none⟩)] w fun e w' => e = .returned (.int .u64 ((S.count * 4096 : Nat) : Int)) ∧ w' = w := by
  obtain ⟨b, pb, db, h⟩ := h
  have hc := h.cell
  have hl := h.map.len Tryz.underlying99 3
  have hg := h.good.count
  clear h
  go_enter Tryz.func55, Tryz.ntmps55
  go_wp2
  go_ret
  exact ⟨ret_int (by omega), rfl⟩



theorem mrget_any (m : Nat) (S : Mm) (F : Nat → Prop) (a : Nat) (w : World) (h : RM w m S F) (ha : a ≤ 18446744073709551615) (h0 : S.perm (a / 4096) ≠ 0) :
    Calls Tryz.prog 60 #[.pointer (some ⟨m, 0, none⟩), .int .u64 (a : Int)] w fun e w' => e = .returned (.int .u8 (S.byte a)) ∧ w' = w := by
  obtain ⟨b, pb, db, h⟩ := h
  have hc := h.cell
  have hl := h.look (a / 4096) (by omega) h0
  rw [show ((a / 4096 : Nat) : Int) = (a : Int) / 4096 by omega] at hl
  have hc1 := h.cell1 h0
  have hby := h.byte h0 (a % 4096) (by omega)
  rw [show a / 4096 * 4096 + a % 4096 = a by omega] at hby
  clear h h0
  generalize pb (a / 4096) = P at *
  generalize db (a / 4096) = D at *
  generalize S.byte a = y at *
  obtain ⟨o, ho⟩ : ∃ o, o = a % 4096 := ⟨_, rfl⟩
  have ho' : (a : Int) % 4096 = (o : Int) := by omega
  have ho4 : o < 4096 := by omega
  rw [← ho] at hby
  clear ho
  go_enter Tryz.func60, Tryz.ntmps60
  go_wp2
  go_ret
  exact ⟨rfl, rfl⟩

theorem mrput_any (m : Nat) (S : Mm) (F : Nat → Prop) (a : Nat) (c : Int) (w : World) (h : RM w m S F) (ha : a ≤ 18446744073709551615) (hc : 0 ≤ c ∧ c ≤ 255) (h0 : S.perm (a / 4096) ≠ 0) :
    Calls Tryz.prog 87 #[.pointer (some ⟨m, 0, none⟩), .int .u64 (a : Int), .int .u8 c] w fun e w' => e = .returned (.tuple #[]) ∧ RM w' m (S.lay a [c]) F ∧ Kept F w w' := by
  obtain ⟨b, pb, db, h⟩ := h
  have hcc := h.cell
  have hl := h.look (a / 4096) (by omega) h0
  rw [show ((a / 4096 : Nat) : Int) = (a : Int) / 4096 by omega] at hl
  have hc1 := h.cell1 h0
  have hby := h.byte h0 (a % 4096) (by omega)
  have hfz : w.frozen? ⟨db (a / 4096), a % 4096, none⟩ = false := by
    obtain ⟨cs, h1, _⟩ := h.page (a / 4096) h0
    exact frozen_of_row w _ _ _ 5 h1
  have HL := hide (h.laid1 h0 (show a % 4096 < 4096 by omega) hc)
  rw [show a / 4096 * 4096 + a % 4096 = a by omega] at hby HL
  have HF := hide (h.fd _ h0)
  have hne : db (a / 4096) ≠ m := h.dm h0
  have hne2 : db (a / 4096) ≠ pb (a / 4096) := h.dp h0 h0
  obtain ⟨P, hP⟩ : ∃ P, P = pb (a / 4096) := ⟨_, rfl⟩
  obtain ⟨D, hD⟩ : ∃ D, D = db (a / 4096) := ⟨_, rfl⟩
  rw [← hP] at hl hc1 hne2
  rw [← hD] at hc1 hby hfz HL HF hne hne2
  generalize S.byte a = y at *
  obtain ⟨o, ho⟩ : ∃ o, o = a % 4096 := ⟨_, rfl⟩
  have ho' : (a : Int) % 4096 = (o : Int) := by omega
  have ho4 : o < 4096 := by omega
  rw [← ho] at hby hfz HL
  clear ho h h0 hP hD
  go_enter Tryz.func87, Tryz.ntmps87
  go_wp2
  go_end0
  exact ⟨rfl, ⟨b, pb, db, HL.out⟩, (Kept.refl F w).setCell _ _ (Or.inl HF.out)⟩

end Go.Proofs.YtdhjjlnabbpinaaGreatDoor

/- Contracts of the document's May, num, Load, Store, Fetch, Read, Write. -/
namespace Go.Proofs.YtdhjjlnabbpinaaGreatDoor
open Go.RowKit Go.Maps
set_option linter.unusedVariables false
set_option maxRecDepth 100000

theorem RM.far_wrap {S : Mm} {a n : Nat} (ha : a ≤ 18446744073709551615) (hn : n ≤ 18446744073709551615) (h0 : n ≠ 0) (hf : 18446744073709551616 ≤ a + n - 1) : IntKind.u64.wrap ((a : Int) + ((n : Int) - 1)) = (a : Int) + ((n : Int) - 1) - 18446744073709551616 := by
  rw [IntKind.wrap_u64]; omega

set_option maxHeartbeats 1600000 in
theorem rmay_any (m : Nat) (S : Mm) (F : Nat → Prop) (a n : Nat) (p : Int) (w : World) (h : RM w m S F) (ha : a ≤ 18446744073709551615) (hn : n ≤ 18446744073709551615) (hp : bits .and .i64 0 p = 0) :
    Calls Tryz.prog 59 #[.pointer (some ⟨m, 0, none⟩), .int .u64 (a : Int), .int .u64 (n : Int), .int .i64 p] w fun e w' => e = .returned (.bool (mayB S a n p)) ∧ w' = w := by
  by_cases h0 : n = 0
  · rw [mayB_yes (Or.inl h0)]
    subst h0
    go_enter Tryz.func59, Tryz.ntmps59
    go_wp2
    go_ret
    exact ⟨rfl, rfl⟩
  by_cases h1 : 18446744073709551616 ≤ a + n - 1
  · rw [mayB_no (h.good.far h0 hp (by omega))]
    have hw := RM.far_wrap (S := S) ha hn h0 h1
    have hlt : decide ((a : Int) + ((n : Int) - 1) - 18446744073709551616 < (a : Int)) = true := by simp; omega
    go_enter Tryz.func59, Tryz.ntmps59
    go_wp2
    go_ret
    exact ⟨rfl, rfl⟩
  · obtain ⟨b, pb, db, h⟩ := h
    have hc := h.cell
    have HP := hide h
    clear h
    have hnw : decide ((a : Int) + ((n : Int) - 1) < (a : Int)) = false := by simp; omega
    obtain ⟨l, hl⟩ : ∃ l, l = (a + n - 1) / 4096 := ⟨_, rfl⟩
    have hl' : ((a : Int) + ((n : Int) - 1)) / 4096 = ((l : Nat) : Int) := by omega
    have HL := hide hl
    obtain ⟨f, hf⟩ : ∃ f, f = a / 4096 := ⟨_, rfl⟩
    have hf' : (a : Int) / 4096 = (f : Int) := by omega
    have HF := hide hf
    have hfl : f ≤ l := by omega
    have hll : l ≤ 4503599627370496 := by omega
    clear hf hl
    have hMay : Hid (Mayp S a n p ↔ ∀ i, f ≤ i → i ≤ l → bits .and .i64 (S.perm i) p ≠ 0) := by
      unfold Mayp
      rw [← HL.out, ← HF.out]
      exact ⟨fun h => h.resolve_left h0, Or.inr⟩
    go_enter Tryz.func59, Tryz.ntmps59
    go_wp2
    go_loop [9] (fun v => ∃ k : Nat, f ≤ k ∧ k ≤ l + 1 ∧ v = .int .u64 (k : Int) ∧ ∀ j, f ≤ j → j < k → bits .and .i64 (S.perm j) p ≠ 0) (fun v => l + 1 - (intOf v).toNat)
    case atStart => exact ⟨f, Nat.le_refl _, by omega, rfl, fun j h1 h2 => by omega⟩
    case round =>
      obtain ⟨k, hk1, hk2, rfl, hall⟩ := hrel
      have HA := hide hall
      clear hall
      by_cases hlt : k ≤ l
      · by_cases hz0 : S.perm k = 0
        · have hr := HP.out.look0 k (by omega) hz0
          have hno : Hid (¬ Mayp S a n p) := fun hm => hMay.out.1 hm k hk1 hlt (by rw [hz0]; exact hp)
          clear hz0
          go_wp2
          go_ret
          exact ⟨ret_bool (mayB_no hno.out).symm, rfl⟩
        · have hr := HP.out.look k (by omega) hz0
          have hc0 := HP.out.cell0 hz0
          obtain ⟨q, hq⟩ : ∃ q, q = S.perm k := ⟨_, rfl⟩
          rw [← hq] at hc0
          have HQ := hide hq
          clear hq hz0
          generalize pb k = P at hr hc0
          by_cases hz : bits .and .i64 q p = 0
          · have hno : Hid (¬ Mayp S a n p) := fun hm => hMay.out.1 hm k hk1 hlt (by rw [← HQ.out]; exact hz)
            go_wp2
            go_ret
            exact ⟨ret_bool (mayB_no hno.out).symm, rfl⟩
          · have hz' : (bits .and .i64 q p == 0) = false := by simpa using hz
            have HZ := hide hz
            clear hz
            go_wp2
            go_round
            case rel =>
              refine ⟨k + 1, by omega, by omega, by go_num, fun j h1 h2 => ?_⟩
              by_cases hjk : j = k
              · subst hjk; rw [← HQ.out]; exact HZ.out
              · exact HA.out j h1 (by omega)
            case measure => simp [intOf]; omega
      · have hyes : Hid (Mayp S a n p) := hMay.out.2 (fun i h1 h2 => HA.out i h1 (by omega))
        go_wp2
        go_ret
        exact ⟨ret_bool (mayB_yes hyes.out).symm, rfl⟩

theorem Mm.read_drop (S : Mm) (a n k : Nat) (h : k ≤ n) : (S.read a n).drop k = S.read (a + k) (n - k) := by
  apply List.ext_getElem?
  intro j
  rw [List.getElem?_drop]
  by_cases hj : j < n - k
  · rw [Mm.read_at _ _ _ _ (by omega), Mm.read_at _ _ _ _ hj]
    congr 2; omega
  · rw [List.getElem?_eq_none (by rw [Mm.read_length]; omega), List.getElem?_eq_none (by rw [Mm.read_length]; omega)]

set_option maxHeartbeats 1600000 in
theorem rnum_any (m : Nat) (S : Mm) (F : Nat → Prop) (a n : Nat) (w : World) (h : RM w m S F) (ha : a + n ≤ 140737488355328) (h8 : n ≤ 8) (hpg : ∀ i, a / 4096 ≤ i → i * 4096 < a + n → S.perm i ≠ 0) :
    Calls Tryz.prog 83 #[.pointer (some ⟨m, 0, none⟩), .int .u64 (a : Int), .int .i64 (n : Int)] w fun e w' => e = .returned (.int .u64 (num (S.read a n))) ∧ w' = w := by
  have HM := hide h
  have HG := hide hpg
  have hby := Mm.read_bytes h.good a n
  have hrl := S.read_length a n
  have hrat := fun k hk => S.read_at a n k hk
  generalize S.read a n = X at *
  clear h hpg
  go_enter Tryz.func83, Tryz.ntmps83
  go_wp2
  go_loop [7, 8] (fun v i => ∃ k : Nat, k ≤ n ∧ i = .int .i64 ((k : Int) - 1) ∧ v = .int .u64 (num (X.drop k))) (fun _ i => (intOf i + 1).toNat)
  case atStart => exact ⟨n, Nat.le_refl _, rfl, by rw [List.drop_eq_nil_of_le (by omega)]; rfl⟩
  case round =>
    obtain ⟨k, hk, rfl, rfl⟩ := hrel
    by_cases hlt : k = 0
    · subst hlt
      clear hrat
      go_wp2
      go_ret
      exact ⟨rfl, rfl⟩
    · obtain ⟨j, rfl⟩ : ∃ j, k = j + 1 := ⟨k - 1, by omega⟩
      have HU : Hid (bits .or .u64 (IntKind.u64.wrap (num (X.drop (j + 1)) * 256)) (X[j]?.getD 0) = num (X.drop j)) := num_down X j hby (by omega) (by omega)
      have e1 := hrat j (by omega)
      rw [e1, Option.getD_some] at HU
      have hbb := HM.out.good.byte (a + j)
      obtain ⟨A, hA⟩ : ∃ A : Nat, A = a + j := ⟨_, rfl⟩
      have hA' : (a : Int) + (j : Int) = (A : Int) := by omega
      have HGt := hide (mrget_any m S F A w HM.out (by omega) (HG.out (A / 4096) (by omega) (by omega)))
      rw [← hA] at HU hbb
      generalize S.byte A = y at *
      obtain ⟨V, hV⟩ : ∃ V, V = num (X.drop (j + 1)) := ⟨_, rfl⟩
      rw [← hV] at HU
      rw [← hV]
      have ej : ((j + 1 : Nat) : Int) - 1 = j := by omega
      rw [ej]
      clear ej hV e1 hA hlt hrat hby
      go_wp2_with fail
      refine HGt.out.mono ?_
      rintro e w' ⟨rfl, rfl⟩
      go_wp2
      go_round
      case rel => exact ⟨j, by omega, by go_num, by rw [← HU.out]⟩
      case measure => simp [intOf]

theorem rload_any (m : Nat) (S : Mm) (F : Nat → Prop) (a : Nat) (n : Int) (w : World) (h : RM w m S F) (ha : a ≤ 18446744073709551615) (hn0 : -9223372036854775808 ≤ n) (hn1 : n ≤ 9223372036854775807) :
    Calls Tryz.prog 41 #[.pointer (some ⟨m, 0, none⟩), .int .u64 (a : Int), .int .i64 n] w fun e w' =>
      e = .returned (.tuple #[.int .u64 (loadV S a n), .bool (numOk S a n 4)]) ∧ w' = w := by
  have HW := hide (width_any n)
  by_cases hw : WidthOk n
  · obtain ⟨k, rfl⟩ : ∃ k : Nat, n = k := ⟨n.toNat, by unfold WidthOk at hw; omega⟩
    have hk8 : 1 ≤ k ∧ k ≤ 8 := by unfold WidthOk at hw; omega
    have HMay := hide (rmay_any m S F a k 4 w h ha (by omega) and_4)
    have e1 : numOk S a (k : Int) 4 = mayB S a k 4 := by simp [numOk, hw]
    have e2 : loadV S a (k : Int) = if mayB S a k 4 = true then num (S.read a k) else 0 := by simp [loadV, e1]
    rw [e1, e2]
    have HW2 : Hid (∀ w, Calls Tryz.prog 86 #[.int .i64 (k : Int)] w fun e w' => e = .returned (.bool true) ∧ w' = w) := fun w => by
      have := HW.out w
      rwa [decide_eq_true hw] at this
    clear HW
    by_cases hm : Mayp S a k 4
    · rw [mayB_yes hm] at HMay
      rw [mayB_yes hm, if_pos rfl]
      have hbd := hm.bd h.good and_4 (by omega)
      have HN := hide (rnum_any m S F a k w h (by omega) hk8.2 (fun i h1 h2 => hm.mapped and_4 h1 h2 (by omega)))
      clear h hw e1 e2 hm
      go_enter Tryz.func41, Tryz.ntmps41
      go_wp2_with fail
      refine (HW2.out _).mono ?_
      rintro e w' ⟨rfl, rfl⟩
      go_wp2_with fail
      refine HMay.out.mono ?_
      rintro e w' ⟨rfl, rfl⟩
      go_wp2_with fail
      refine HN.out.mono ?_
      rintro e w' ⟨rfl, rfl⟩
      go_wp2
      go_ret2
      exact ⟨rfl, rfl⟩
    · rw [mayB_no hm] at HMay
      rw [mayB_no hm, if_neg (by decide)]
      clear h hw e1 e2 hm
      go_enter Tryz.func41, Tryz.ntmps41
      go_wp2_with fail
      refine (HW2.out _).mono ?_
      rintro e w' ⟨rfl, rfl⟩
      go_wp2_with fail
      refine HMay.out.mono ?_
      rintro e w' ⟨rfl, rfl⟩
      go_wp2
      go_ret2
      exact ⟨rfl, rfl⟩
  · have e1 : numOk S a n 4 = false := by simp [numOk, hw]
    have e2 : loadV S a n = 0 := by simp [loadV, e1]
    rw [e1, e2]
    have HW2 : Hid (∀ w, Calls Tryz.prog 86 #[.int .i64 n] w fun e w' => e = .returned (.bool false) ∧ w' = w) := fun w => by
      have := HW.out w
      rwa [decide_eq_false hw] at this
    clear HW h hw e1 e2
    go_enter Tryz.func41, Tryz.ntmps41
    go_wp2_with fail
    refine (HW2.out _).mono ?_
    rintro e w' ⟨rfl, rfl⟩
    go_wp2_with fail
    go_ret2
    exact ⟨rfl, rfl⟩

theorem rfetch_any (m : Nat) (S : Mm) (F : Nat → Prop) (a : Nat) (w : World) (h : RM w m S F) (ha : a ≤ 18446744073709551615) :
    Calls Tryz.prog 36 #[.pointer (some ⟨m, 0, none⟩), .int .u64 (a : Int)] w fun e w' =>
      e = .returned (.tuple #[.int .u32 (fetchV S a), .bool (mayB S a 4 1)]) ∧ w' = w := by
  have HMay := hide (rmay_any m S F a 4 1 w h ha (by omega) and_1)
  have hb := fetchV_bd h.good a
  unfold fetchV at *
  by_cases hm : Mayp S a 4 1
  · rw [mayB_yes hm] at HMay hb
    rw [if_pos rfl] at hb
    rw [mayB_yes hm, if_pos rfl]
    have hbd := hm.bd h.good and_1 (by omega)
    have HN := hide (rnum_any m S F a 4 w h (by omega) (by omega) (fun i h1 h2 => hm.mapped and_1 h1 h2 (by omega)))
    generalize num (S.read a 4) = v at *
    clear h hm
    go_enter Tryz.func36, Tryz.ntmps36
    go_wp2_with fail
    refine HMay.out.mono ?_
    rintro e w' ⟨rfl, rfl⟩
    go_wp2_with fail
    refine HN.out.mono ?_
    rintro e w' ⟨rfl, rfl⟩
    go_wp2
    go_ret2
    exact ⟨rfl, rfl⟩
  · rw [mayB_no hm] at HMay
    rw [mayB_no hm, if_neg (by decide)]
    clear h hm hb
    go_enter Tryz.func36, Tryz.ntmps36
    go_wp2_with fail
    refine HMay.out.mono ?_
    rintro e w' ⟨rfl, rfl⟩
    go_wp2
    go_ret2
    exact ⟨rfl, rfl⟩

end Go.Proofs.YtdhjjlnabbpinaaGreatDoor

/- Contracts of the document's Store, Write, Read. -/
namespace Go.Proofs.YtdhjjlnabbpinaaGreatDoor
open Go.RowKit Go.Maps
set_option linter.unusedVariables false
set_option maxRecDepth 100000

set_option maxHeartbeats 1600000 in
theorem rstore_any (m : Nat) (S : Mm) (F : Nat → Prop) (a : Nat) (n v : Int) (w : World) (h : RM w m S F) (ha : a ≤ 18446744073709551615) (hn0 : -9223372036854775808 ≤ n) (hn1 : n ≤ 9223372036854775807) (hv0 : 0 ≤ v) (hv1 : v ≤ 18446744073709551615) :
    Calls Tryz.prog 43 #[.pointer (some ⟨m, 0, none⟩), .int .u64 (a : Int), .int .i64 n, .int .u64 v] w fun e w' =>
      e = .returned (.bool (numOk S a n 2)) ∧ RM w' m (stored S a n v) F ∧ Kept F w w' := by
  have HW := hide (width_any n)
  by_cases hw : WidthOk n
  · obtain ⟨k, rfl⟩ : ∃ k : Nat, n = k := ⟨n.toNat, by unfold WidthOk at hw; omega⟩
    have hk8 : 1 ≤ k ∧ k ≤ 8 := by unfold WidthOk at hw; omega
    have HMay := hide (rmay_any m S F a k 2 w h ha (by omega) and_2)
    have e1 : numOk S a (k : Int) 2 = mayB S a k 2 := by simp [numOk, hw]
    have HW2 : Hid (∀ w, Calls Tryz.prog 86 #[.int .i64 (k : Int)] w fun e w' => e = .returned (.bool true) ∧ w' = w) := fun w => by
      have := HW.out w
      rwa [decide_eq_true hw] at this
    clear HW
    by_cases hm : Mayp S a k 2
    · rw [mayB_yes hm] at HMay e1
      have e2 : stored S a (k : Int) v = S.lay a (bytesOf v k) := by simp [stored, e1]
      rw [e1, e2]
      have hbd := hm.bd h.good and_2 (by omega)
      have HM := hide hm
      have HP := hide h
      have hk1 := hk8.1
      have hk2 := hk8.2
      clear h hw e1 e2 hm hk8
      go_enter Tryz.func43, Tryz.ntmps43
      go_wp2_with fail
      refine (HW2.out _).mono ?_
      rintro e w' ⟨rfl, rfl⟩
      go_wp2_with fail
      refine HMay.out.mono ?_
      rintro e w' ⟨rfl, rfl⟩
      clear HMay HW2
      go_wp2
      go_loopw [9] (fun i wr => ∃ j : Nat, j ≤ k ∧ i = .int .i64 (j : Int) ∧ RM wr m (S.lay a (bytesOf v j)) F ∧ Kept F w' wr) (fun i _ => k - (intOf i).toNat)
      case atStart => exact ⟨0, by omega, rfl, by rw [show bytesOf v 0 = [] from rfl, Mm.lay_nil]; exact HP.out, Kept.refl _ _⟩
      case round =>
        obtain ⟨j, hj, rfl, hR, hK⟩ := hrel
        have HR := hide hR
        have HK := hide hK
        clear hR hK
        by_cases hlt : j < k
        · obtain ⟨A, hA⟩ : ∃ A : Nat, A = a + j := ⟨_, rfl⟩
          have hA' : (a : Int) + (j : Int) = (A : Int) := by omega
          have hby := byteOf_bd v j
          have HPut := hide (mrput_any m (S.lay a (bytesOf v j)) F A (byteOf v j) wr HR.out (by omega) hby (HM.out.mapped and_2 (i := A / 4096) (by omega) (by omega) (by omega)))
          have HE : Hid ((S.lay a (bytesOf v j)).lay A [byteOf v j] = S.lay a (bytesOf v (j + 1))) := by
            show _ = _
            rw [bytesOf_succ, ← Mm.lay_more, bytesOf_length, hA]
          have HBy : Hid (byteOf v j = v / 2 ^ (8 * j) % 256) := rfl
          rw [HE.out] at HPut
          clear hA HE
          go_wp2_with fail
          refine HPut.out.mono ?_
          rintro e W ⟨rfl, hR, hK⟩
          have HR2 := hide hR
          have HK2 := hide (HK.out.trans hK (fun k hk => Or.inl hk))
          clear hR hK HPut HR HK
          go_wp2
          go_roundw
          case rel => exact ⟨j + 1, by omega, by go_num, HR2.out, HK2.out⟩
          case measure => simp [intOf]; omega
        · obtain rfl : j = k := by omega
          go_wp2
          go_ret
          exact ⟨rfl, HR.out, HK.out⟩
    · rw [mayB_no hm] at HMay e1
      have e2 : stored S a (k : Int) v = S := by simp [stored, e1]
      rw [e1, e2]
      have HP := hide h
      clear h hw e1 e2 hm
      go_enter Tryz.func43, Tryz.ntmps43
      go_wp2_with fail
      refine (HW2.out _).mono ?_
      rintro e w' ⟨rfl, rfl⟩
      go_wp2_with fail
      refine HMay.out.mono ?_
      rintro e w' ⟨rfl, rfl⟩
      clear HMay HW2
      go_wp2
      go_ret
      exact ⟨rfl, HP.out, Kept.refl _ _⟩
  · have e1 : numOk S a n 2 = false := by simp [numOk, hw]
    have e2 : stored S a n v = S := by simp [stored, e1]
    rw [e1, e2]
    have HW2 : Hid (∀ w, Calls Tryz.prog 86 #[.int .i64 n] w fun e w' => e = .returned (.bool false) ∧ w' = w) := fun w => by
      have := HW.out w
      rwa [decide_eq_false hw] at this
    have HP := hide h
    clear HW h hw e1 e2
    go_enter Tryz.func43, Tryz.ntmps43
    go_wp2_with fail
    refine (HW2.out _).mono ?_
    rintro e w' ⟨rfl, rfl⟩
    go_wp2_with fail
    go_ret
    exact ⟨rfl, HP.out, Kept.refl _ _⟩

set_option maxHeartbeats 1600000 in
theorem rwrite_any (m : Nat) (S : Mm) (F : Nat → Prop) (a0 : Nat) (a : Option Addr) (len cap : Nat) (bs : List Int) (w : World) (h : RM w m S F) (ha : a0 ≤ 18446744073709551615) (r : Rd w a len cap bs)
    (hsep : 0 < len → ∀ x, a = some x → ¬ F x.block) :
    Calls Tryz.prog 89 #[.pointer (some ⟨m, 0, none⟩), .int .u64 (a0 : Int), .slice a len cap] w fun e w' =>
      e = .returned (.bool (manyOk S a0 len 2)) ∧ RM w' m (if manyOk S a0 len 2 = true then S.lay a0 bs else S) F ∧ Kept F w w' := by
  have hle0 := r.le
  have hmx := r.max
  have hbl := r.length
  have HMay := hide (rmay_any m S F a0 len 2 w h ha (by omega) and_2)
  by_cases hle : len ≤ 65536
  · have hle' : decide ((65536 : Int) < (len : Int)) = false := by simp; omega
    by_cases hm : Mayp S a0 len 2
    · have e1 : manyOk S a0 len 2 = true := by simp [manyOk, hle, mayB_yes hm]
      rw [mayB_yes hm] at HMay
      rw [e1, if_pos rfl]
      have HM := hide hm
      have HP := hide h
      have HRd := hide r
      have HS := hide hsep
      have hbd : 0 < len → a0 + len ≤ 140737488355328 := fun h9 => hm.bd h.good and_2 (by omega)
      have HBd := hide hbd
      clear h hm r hsep e1 hbd
      go_enter Tryz.func89, Tryz.ntmps89
      go_wp2_with fail
      refine HMay.out.mono ?_
      rintro e w' ⟨rfl, rfl⟩
      clear HMay
      go_wp2
      go_loopw [7] (fun i wr => ∃ j : Nat, j ≤ len ∧ i = .int .i64 (j : Int) ∧ RM wr m (S.lay a0 (bs.take j)) F ∧ Kept F w' wr) (fun i _ => len - (intOf i).toNat)
      case atStart => exact ⟨0, by omega, rfl, by rw [List.take_zero, Mm.lay_nil]; exact HP.out, Kept.refl _ _⟩
      case round =>
        obtain ⟨j, hj, rfl, hR, hK⟩ := hrel
        have HR := hide hR
        have HK := hide hK
        clear hR hK
        by_cases hlt : j < len
        · have hbd := HBd.out (by omega)
          have hr2 := HK.out.rd HRd.out HS.out
          obtain ⟨b, o, hae, hc⟩ := hr2.addr (by omega)
          have hcj := hc j hlt
          have hyb := hr2.bytes.at j
          obtain ⟨y, hy⟩ : ∃ y, y = bs[j]?.getD 0 := ⟨_, rfl⟩
          rw [List.getD_eq_getElem?_getD, ← hy] at hcj
          rw [← hy] at hyb
          subst hae
          obtain ⟨A, hA⟩ : ∃ A : Nat, A = a0 + j := ⟨_, rfl⟩
          have hA' : (a0 : Int) + (j : Int) = (A : Int) := by omega
          have HPut := hide (mrput_any m (S.lay a0 (bs.take j)) F A y wr HR.out (by omega) hyb (HM.out.mapped and_2 (i := A / 4096) (by omega) (by omega) (by omega)))
          have HE : Hid ((S.lay a0 (bs.take j)).lay A [y] = S.lay a0 (bs.take (j + 1))) := by
            show _ = _
            have e2 : (bs.take j).length = j := by simp; omega
            have e3 := Mm.lay_more S a0 (bs.take j) [y]
            rw [e2, ← hA] at e3
            rw [e3, hy, ← take_snoc bs j (by omega)]
          rw [HE.out] at HPut
          clear hA HE hr2 hc hy
          go_wp2_with fail
          refine HPut.out.mono ?_
          rintro e W ⟨rfl, hR, hK⟩
          have HR2 := hide hR
          have HK2 := hide (HK.out.trans hK (fun k hk => Or.inl hk))
          clear hR hK HPut HR HK
          go_wp2
          go_roundw
          case rel => exact ⟨j + 1, by omega, by go_num, HR2.out, HK2.out⟩
          case measure => simp [intOf]; omega
        · obtain rfl : j = len := by omega
          have HR2 : Hid (RM wr m (S.lay a0 bs) F) := by
            have h9 := HR.out
            rwa [List.take_of_length_le (by omega)] at h9
          clear HR
          go_wp2
          go_ret
          exact ⟨rfl, HR2.out, HK.out⟩
    · have e1 : manyOk S a0 len 2 = false := by simp [manyOk, mayB_no hm]
      rw [mayB_no hm] at HMay
      rw [e1, if_neg (by decide)]
      have HP := hide h
      clear h hm r hsep e1
      go_enter Tryz.func89, Tryz.ntmps89
      go_wp2_with fail
      refine HMay.out.mono ?_
      rintro e w' ⟨rfl, rfl⟩
      clear HMay
      go_wp2
      go_ret
      exact ⟨rfl, HP.out, Kept.refl _ _⟩
  · have e1 : manyOk S a0 len 2 = false := by simp [manyOk, hle]
    rw [e1, if_neg (by decide)]
    have HP := hide h
    clear h r hsep e1 HMay
    go_enter Tryz.func89, Tryz.ntmps89
    go_wp2_with fail
    go_ret
    exact ⟨rfl, HP.out, Kept.refl _ _⟩

theorem Mm.read_succ (S : Mm) (a n : Nat) : S.read a (n + 1) = S.read a n ++ [S.byte (a + n)] := by
  simp [Mm.read, List.range_succ]

set_option maxHeartbeats 1600000 in
theorem rread_any (m : Nat) (S : Mm) (F : Nat → Prop) (a n : Nat) (w : World) (h : RM w m S F) (ha : a ≤ 18446744073709551615) (hn : n ≤ 18446744073709551615) :
    Calls Tryz.prog 28 #[.pointer (some ⟨m, 0, none⟩), .int .u64 (a : Int), .int .u64 (n : Int)] w fun e w' =>
      (∃ b l c, e = .returned (.tuple #[.slice b l c, .bool (manyOk S a n 4)]) ∧ Rd w' b l c (if manyOk S a n 4 = true then S.read a n else [])) ∧ Below w.heap.size w w' := by
  have HMay := hide (rmay_any m S F a n 4 w h ha hn and_4)
  by_cases hle : n ≤ 65536
  · have hle' : decide ((65536 : Int) < (n : Int)) = false := by simp; omega
    by_cases hm : Mayp S a n 4
    · have e1 : manyOk S a n 4 = true := by simp [manyOk, hle, mayB_yes hm]
      rw [mayB_yes hm] at HMay
      rw [e1, if_pos rfl]
      have HM := hide hm
      have HP := hide h
      have HBd := hide (show 0 < n → a + n ≤ 140737488355328 from fun h9 => hm.bd h.good and_4 (by omega))
      have HGd := hide h.good
      obtain ⟨i0, hi, hz0, hz1, hz2⟩ := info_parts Tryz.info8
      clear h hm e1
      go_enter Tryz.func28, Tryz.ntmps28
      go_wp2_with fail
      refine HMay.out.mono ?_
      rintro e w' ⟨rfl, rfl⟩
      clear HMay
      go_wp2
      go_loopw [8, 9] (fun v i wr => ∃ (k : Nat) (v0 : Value), k ≤ n ∧ v0 = v ∧ i = .int .u64 (k : Int) ∧ Hid (wr.ownsRow w'.heap.size 5 1 v0 k ((S.read a k).map (Value.int .u8))) ∧ Hid (Below w'.heap.size w' wr)) (fun _ i _ => n - (intOf i).toNat)
      case atStart => exact ⟨0, _, by omega, rfl, rfl, World.ownsRow_nil _ _ _ _, Below.refl _ _⟩
      case round =>
        obtain ⟨k, v0, hk, rfl, rfl, HO, HB⟩ := hrel
        by_cases hlt : k < n
        · have hbd := HBd.out (by omega)
          have hsz : w'.heap.size ≤ wr.heap.size := HB.out.size
          have HLT := hide HO.out.lt
          obtain ⟨A, hA⟩ : ∃ A : Nat, A = a + k := ⟨_, rfl⟩
          have hA' : (a : Int) + (k : Int) = (A : Int) := by omega
          have hbb := HGd.out.byte A
          have HGt := hide (mrget_any m S F A wr (HP.out.below HB.out) (by omega) (HM.out.mapped and_4 (i := A / 4096) (by omega) (by omega) (by omega)))
          have HS : Hid (S.read a (k + 1) = S.read a k ++ [S.byte A]) := by show _ = _; rw [Mm.read_succ, hA]
          clear hA
          generalize S.byte A = y at *
          go_wp2_with fail
          refine HGt.out.mono ?_
          rintro e wr ⟨rfl, rfl⟩
          clear HGt
          go_wp2_with (at_builtin; refine wpList_append_own _ rfl _ _ 24 rfl w'.heap.size 5 i0 (.int .u8 0) 1 1 Tryz.underlying24 hi hz0 hz1 hz2 rfl (by decide) _ _ _ rfl (HO.out.alloc _) ⟨wr.heap.size, 0, none⟩ 1 1 [.int .u8 y] rfl rfl ?d1 ?d2 ?d3 ?d4 ?d5 ?_)
          case d1 =>
            intro j u hj
            match j, hj with
            | 0, hj => simp at hj; subst hj; simp [Addr.add]
          case d2 => intro u hu; simp at hu; subst hu; rfl
          case d3 => unfold maxLen; omega
          case d4 => omega
          case d5 => simp; omega
          · intro v' w1 hown' hgrow _
            have R : Hid (w1.ownsRow w'.heap.size 5 1 v' (k + 1) ((S.read a (k + 1)).map (Value.int .u8))) := by
              rw [HS.out]; simpa using hide hown'
            have B1 : Hid (Below w'.heap.size w' w1) := hide ((HB.out.alloc hsz _).grown hgrow (by simp; omega) (fun j hj => (HLT.out j hj).1))
            clear hown' hgrow HO HB HLT HS
            go_wp2
            go_roundw
            case rel => exact ⟨k + 1, v', by omega, rfl, by go_num, R.out, B1.out⟩
            case measure => simp [intOf]; omega
        · obtain rfl : k = n := by omega
          have hr := Rd.own HO.out (Mm.read_bytes HGd.out a k)
          obtain ⟨b, c, rfl, hr⟩ := hr
          have HR := hide hr
          clear hr HO
          go_wp2
          go_ret2
          exact ⟨⟨b, k, c, rfl, HR.out⟩, HB.out⟩
    · have e1 : manyOk S a n 4 = false := by simp [manyOk, mayB_no hm]
      rw [mayB_no hm] at HMay
      rw [e1, if_neg (by decide)]
      clear h hm e1
      go_enter Tryz.func28, Tryz.ntmps28
      go_wp2_with fail
      refine HMay.out.mono ?_
      rintro e w' ⟨rfl, rfl⟩
      go_wp2
      go_ret2
      exact ⟨⟨none, 0, 0, rfl, Rd.nothing _⟩, Below.refl _ _⟩
  · have e1 : manyOk S a n 4 = false := by simp [manyOk, hle]
    rw [e1, if_neg (by decide)]
    clear h e1 HMay
    go_enter Tryz.func28, Tryz.ntmps28
    go_wp2_with fail
    go_ret2
    exact ⟨⟨none, 0, 0, rfl, Rd.nothing _⟩, Below.refl _ _⟩

end Go.Proofs.YtdhjjlnabbpinaaGreatDoor

/- The contract of the document's Map. -/
namespace Go.Proofs.YtdhjjlnabbpinaaGreatDoor
open Go.RowKit Go.Maps
set_option linter.unusedVariables false
set_option maxRecDepth 100000

/-- A page more: its node and its bytes are new. -/
theorem RMx.more {V V' : World} {m b : Nat} {pb db : Nat → Nat} {S : Mm} {F : Nat → Prop} (h : RMx V m b pb db S F) {i P D : Nat} {p : Int} (h0 : S.perm i = 0) (hp : 1 ≤ p ∧ p ≤ 7) (hi : i < 34359738368) (hc : S.count + 1 ≤ 65536)
    (hP : ¬ F P) (hD : ¬ F D) (hPD : P ≠ D) {cs : List Int} (hcs : cs.length ≤ 4096) (hb : Bytes cs)
    (hmap : MapAt V' b (S.count + 1) (upd (fun j => if S.perm j = 0 then none else some (.pointer (some ⟨pb j, 0, none⟩))) i (.pointer (some ⟨P, 0, none⟩))))
    (hnode : V'.heap[P]? = some (.cells #[.int .i64 p, .slice (some ⟨D, 0, none⟩) 4096 4096] 108 (0, 0)))
    {L : List Value} (hL : V'.heap[D]? = some (.cells L.toArray 5 (0, 0))) (hLl : L.length = 4096) (hLb : ∀ j, j < 4096 → L[j]? = some (.int .u8 (cs.getD j 0)))
    (hK : Kept (fun k => k = b) V V') :
    RMx V' m b (fun j => if j = i then P else pb j) (fun j => if j = i then D else db j) ((S.mapped i 1 p).lay (i * 4096) cs) (fun k => F k ∨ k = P ∨ k = D) := by
  have same : ∀ k, F k → k ≠ b → V'.heap[k]? = V.heap[k]? := fun k hF hne => hK.block k (h.flt k hF) hne
  have hpe : ∀ j, ((S.mapped i 1 p).lay (i * 4096) cs).perm j = if j = i then p else S.perm j := fun j => by
    simp only [Mm.mapped, Mm.lay]
    by_cases hji : j = i
    · rw [if_pos hji, if_pos (by omega)]
    · rw [if_neg hji, if_neg (by omega)]
  have hby : ∀ j k, k < 4096 → ((S.mapped i 1 p).lay (i * 4096) cs).byte (j * 4096 + k) = if j = i then cs.getD k 0 else S.byte (j * 4096 + k) := fun j k hk => by
    simp only [Mm.mapped, Mm.lay]
    have e : (j * 4096 + k) / 4096 = j := by omega
    rw [e]
    by_cases hji : j = i
    · subst hji
      rw [if_pos rfl]
      by_cases hkc : k < cs.length
      · rw [if_pos (by omega), show j * 4096 + k - j * 4096 = k by omega]
      · rw [if_neg (by omega), if_pos (by omega), List.getD_eq_getElem?_getD, List.getElem?_eq_none (by omega)]; rfl
    · rw [if_neg hji, if_neg (by omega), if_neg (by omega)]
  refine ⟨(same m h.fm h.mb).trans h.head, hmap.congr (fun j _ => ?_), (h.good.mapped i 1 hp hc (by omega)).lay _ hb, ?_, ?_, ?_, Or.inl h.fm, Or.inl h.fb, ?_, ?_, ?_⟩
  · unfold upd
    rw [hpe j]
    by_cases hji : j = i
    · have hp0 : p ≠ 0 := by omega
      rw [if_pos hji, if_pos hji, if_neg hp0, if_pos hji]
    · rw [if_neg hji, if_neg hji, if_neg hji]
  · intro j hj
    rw [hpe j] at hj ⊢
    by_cases hji : j = i
    · simp only [if_pos hji]; exact hnode
    · simp only [if_neg hji] at hj ⊢
      exact (same _ (h.fp j hj) (h.pbb hj)).trans (h.node j hj)
  · intro j hj
    rw [hpe j] at hj
    by_cases hji : j = i
    · simp only [if_pos hji]
      exact ⟨L, hL, hLl, fun k hk => by rw [hLb k hk, hby j k hk, if_pos hji]⟩
    · simp only [if_neg hji] at hj ⊢
      obtain ⟨cs', h1, h2, h3⟩ := h.page j hj
      exact ⟨cs', (same _ (h.fd j hj) (h.dbb hj)).trans h1, h2, fun k hk => by rw [h3 k hk, hby j k hk, if_neg hji]⟩
  · intro j k hj hk he
    rw [hpe] at hj hk
    by_cases hji : j = i
    · by_cases hki : k = i
      · rw [hji, hki]
      · simp only [if_pos hji, if_neg hki] at he hk
        exact absurd (he ▸ h.fd k hk) hD
    · by_cases hki : k = i
      · simp only [if_neg hji, if_pos hki] at he hj
        exact absurd (he ▸ h.fd j hj) hD
      · simp only [if_neg hji, if_neg hki] at he hj hk
        exact h.apart j k hj hk he
  · intro j hj
    rw [hpe] at hj
    by_cases hji : j = i
    · simp [hji]
    · simp only [if_neg hji] at hj ⊢
      exact Or.inl (h.fp j hj)
  · intro j hj
    rw [hpe] at hj
    by_cases hji : j = i
    · simp [hji]
    · simp only [if_neg hji] at hj ⊢
      exact Or.inl (h.fd j hj)
  · rintro k (hk | rfl | rfl)
    · exact Nat.lt_of_lt_of_le (h.flt k hk) hK.size
    · exact (Array.getElem?_eq_some_iff.1 hnode).1
    · exact (Array.getElem?_eq_some_iff.1 hL).1

/-- The store of a page more. -/
theorem RMx.step {W : World} {m b : Nat} {pb db : Nat → Nat} {T : Mm} {F : Nat → Prop} (h : RMx W m b pb db T F) {i P D : Nat} {p : Int} (h0 : T.perm i = 0) (hp : 1 ≤ p ∧ p ≤ 7) (hi : i < 34359738368) (hc : T.count + 1 ≤ 65536)
    (hP : ¬ F P) (hD : ¬ F D) (hPD : P ≠ D) {cs : List Int} (hcs : cs.length ≤ 4096) (hb : Bytes cs)
    (hnode : W.heap[P]? = some (.cells #[.int .i64 p, .slice (some ⟨D, 0, none⟩) 4096 4096] 108 (0, 0)))
    {L : List Value} (hL : W.heap[D]? = some (.cells L.toArray 5 (0, 0))) (hLl : L.length = 4096) (hLb : ∀ j, j < 4096 → L[j]? = some (.int .u8 (cs.getD j 0))) :
    ∃ V, (Instr.mapUpdate 99 (.map (some b)) (.int .u64 (i : Int)) (.pointer (some ⟨P, 0, none⟩))).run Tryz.prog W = .ok () V ∧ RM V m ((T.mapped i 1 p).lay (i * 4096) cs) (fun k => F k ∨ k = P ∨ k = D) ∧ Kept (fun k => k = b) W V := by
  obtain ⟨V, hrun, hm2, hgr, hsz⟩ := h.map.store (t := 99) Tryz.underlying99 (by unfold maxLen; omega) i (by omega) (.pointer (some ⟨P, 0, none⟩))
  rw [if_pos h0] at hm2
  simp only [Option.isSome_none, Bool.false_eq_true, if_false] at hm2
  have hK : Kept (fun k => k = b) W V := Kept.of_grown hgr (fun k hk => (Option.some.inj hk).symm)
  have hPb : P ≠ b := fun e => hP (by rw [e]; exact h.fb)
  have hDb : D ≠ b := fun e => hD (by rw [e]; exact h.fb)
  refine ⟨V, hrun, ⟨b, _, _, h.more h0 hp hi hc hP hD hPD hcs hb hm2 ?_ (L := L) ?_ hLl hLb hK⟩, hK⟩
  · rw [hK.block P (Array.getElem?_eq_some_iff.1 hnode).1 hPb]; exact hnode
  · rw [hK.block D (Array.getElem?_eq_some_iff.1 hL).1 hDb]; exact hL

theorem addr_add (b o n : Nat) : (⟨b, o, none⟩ : Addr).add n = ⟨b, o + n, none⟩ := by unfold Addr.add; split <;> simp_all

theorem lay_in (S : Mm) (a : Nat) (bs : List Int) (x : Nat) (h1 : a ≤ x) (h2 : x < a + bs.length) : (S.lay a bs).byte x = bs[x - a]?.getD 0 := by
  simp only [Mm.lay]; rw [if_pos ⟨h1, h2⟩, List.getD_eq_getElem?_getD]
theorem lay_out (S : Mm) (a : Nat) (bs : List Int) (x : Nat) (h : ¬ (a ≤ x ∧ x < a + bs.length)) : (S.lay a bs).byte x = S.byte x := by
  simp only [Mm.lay]; rw [if_neg h]
theorem mapped_in (S : Mm) (f n : Nat) (p : Int) (x : Nat) (h : f ≤ x / 4096 ∧ x / 4096 < f + n) : (S.mapped f n p).byte x = 0 := by
  simp only [Mm.mapped]; rw [if_pos h]
theorem mapped_out (S : Mm) (f n : Nat) (p : Int) (x : Nat) (h : ¬ (f ≤ x / 4096 ∧ x / 4096 < f + n)) : (S.mapped f n p).byte x = S.byte x := by
  simp only [Mm.mapped]; rw [if_neg h]

set_option maxRecDepth 20000 in
/-- So much of the bytes as the first k pages take. -/
theorem Mm.mapped_more (S : Mm) (f k : Nat) (p : Int) (bs : List Int) :
    (((S.mapped f k p).lay (f * 4096) (bs.take (k * 4096))).mapped (f + k) 1 p).lay ((f + k) * 4096) ((bs.drop (k * 4096)).take 4096) = (S.mapped f (k + 1) p).lay (f * 4096) (bs.take ((k + 1) * 4096)) :=
  Mm.ext (fun i => by
      have := congrArg (fun T : Mm => T.perm i) (Mm.mapped_succ S f k p)
      simp only [Mm.mapped, Mm.lay] at this ⊢
      exact this)
    (fun x => by
      have l1 : ((bs.drop (k * 4096)).take 4096).length = min 4096 (bs.length - k * 4096) := by simp
      have l2 : (bs.take (k * 4096)).length = min (k * 4096) bs.length := by simp
      have l3 : (bs.take ((k + 1) * 4096)).length = min ((k + 1) * 4096) bs.length := by simp
      by_cases h1 : (f + k) * 4096 ≤ x ∧ x < (f + k) * 4096 + min 4096 (bs.length - k * 4096)
      · rw [lay_in _ _ _ _ h1.1 (by rw [l1]; exact h1.2), lay_in _ _ _ _ (by omega) (by rw [l3]; omega)]
        rw [List.getElem?_take, if_pos (by omega), List.getElem?_drop, List.getElem?_take, if_pos (by omega)]
        congr 2; omega
      · rw [lay_out _ _ _ _ (by rw [l1]; exact h1)]
        by_cases h2 : f + k ≤ x / 4096 ∧ x / 4096 < f + k + 1
        · rw [mapped_in _ _ _ _ _ h2, lay_out _ _ _ _ (by rw [l3]; omega), mapped_in _ _ _ _ _ (by omega)]
        · rw [mapped_out _ _ _ _ _ h2]
          by_cases h3 : f * 4096 ≤ x ∧ x < f * 4096 + min (k * 4096) bs.length
          · rw [lay_in _ _ _ _ h3.1 (by rw [l2]; exact h3.2), lay_in _ _ _ _ h3.1 (by rw [l3]; omega), List.getElem?_take, if_pos (by omega), List.getElem?_take, if_pos (by omega)]
          · rw [lay_out _ _ _ _ (by rw [l2]; exact h3), lay_out _ _ _ _ (by rw [l3]; omega)]
            by_cases h4 : f ≤ x / 4096 ∧ x / 4096 < f + k
            · rw [mapped_in _ _ _ _ _ h4, mapped_in _ _ _ _ _ (by omega)]
            · rw [mapped_out _ _ _ _ _ h4, mapped_out _ _ _ _ _ (by omega)])
    (by simp [Mm.mapped, Mm.lay]; omega)

end Go.Proofs.YtdhjjlnabbpinaaGreatDoor
