/- The contract of package mach's load. -/
import Derived.Test.YtgjfelkbblbjfaaGreatDoorJ10
import Derived.Deep.RegionHeld3
namespace Go.Proofs.YtgjfelkbblbjfaaGreatDoor
open Go.RowKit Go.Maps
set_option linter.unusedVariables false
set_option maxRecDepth 100000

theorem ls8 (v : Int) : IntKind.u64.wrap (wrap64 (IntKind.u64.wrap (v * 72057594037927936)) / 72057594037927936) = u64 ((v + 128) % 256 - 128) := by
  have h := sgn_shift (k := 8) (u := 56) (by decide) (by decide) v
  rw [show (2 : Int) ^ 56 = 72057594037927936 by decide] at h
  rw [h, wrap_u64]
  rfl
theorem ls16 (v : Int) : IntKind.u64.wrap (wrap64 (IntKind.u64.wrap (v * 281474976710656)) / 281474976710656) = u64 ((v + 32768) % 65536 - 32768) := by
  have h := sgn_shift (k := 16) (u := 48) (by decide) (by decide) v
  rw [show (2 : Int) ^ 48 = 281474976710656 by decide] at h
  rw [h, wrap_u64]
  rfl
theorem ls32 (v : Int) : IntKind.u64.wrap (wrap64 (IntKind.u64.wrap (v * 4294967296)) / 4294967296) = u64 ((v + 2147483648) % 4294967296 - 2147483648) := by
  have h := sgn_shift (k := 32) (u := 32) (by decide) (by decide) v
  rw [show (2 : Int) ^ 32 = 4294967296 by decide] at h
  rw [h, wrap_u64]
  rfl

theorem loadV_bd {S : Mm} (h : S.Good) (a : Nat) (n : Int) : 0 ≤ loadV S a n ∧ loadV S a n ≤ 18446744073709551615 := by
  unfold loadV
  split
  · rename_i h1
    unfold numOk at h1
    have hw : WidthOk n := by
      have := (Bool.and_eq_true_iff.1 h1).1
      simpa using this
    have := read_num_bd h a n.toNat (by unfold WidthOk at hw; omega)
    exact ⟨this.1, this.2.2⟩
  · omega
theorem loadS_bd (o : Nat) {v : Int} (h : 0 ≤ v ∧ v ≤ 18446744073709551615) : 0 ≤ loadS o v ∧ loadS o v ≤ 18446744073709551615 := by
  unfold loadS
  split
  all_goals first | exact u64_bd _ | exact h

section
variable {w w' : World} {m mm me b n : Nat} {f : Int → Option Value} {x : Nat → Int} {pc : Nat} {k c t : Int} {F G : Nat → Prop} {S : Mm}

set_option maxHeartbeats 1600000 in
theorem load_11 (rd r1 r2 im : Int) (w : World) (h : HD m mm me x pc k c t w F) (hP : PM w mm S G) (hf : Fit5 rd r1 r2 im) :
    Calls Tryz.prog 83 #[.pointer (some ⟨m, 0, none⟩), inst 11 rd r1 r2 im] w fun e w' =>
      (numOk S (u64 (x r1.toNat + im)).toNat (widthF 11) 4 = true → e = .returned (.int .i64 0) ∧ HD m mm me (xset x rd (loadS 11 (loadV S (u64 (x r1.toNat + im)).toNat (widthF 11)))) (u64 (pc + 4)).toNat k c t w' F) ∧
      (numOk S (u64 (x r1.toNat + im)).toNat (widthF 11) 4 = false → e = .returned (.int .i64 3) ∧ HD m mm me x pc k c t w' F) ∧ Went F w F w' := by
  have HWd := hide (fun W => width_any' 11 W (by decide) (by decide))
  have him := hf.im
  have HPl := hide (fun W (hW : Below w.heap.size w W) => place_any 11 rd r1 r2 im W (h.below hW) (ini_of hf.r1) (by omega) (by omega))
  rw [rg_in hf.r1] at HPl
  have hub := u64_bd (x r1.toNat + im)
  generalize u64 (x r1.toNat + im) = a at *
  obtain ⟨p, rfl⟩ := Int.eq_ofNat_of_zero_le hub.1
  rw [Int.toNat_natCast]
  have hwd : widthF 11 = 1 := rfl
  rw [hwd] at HWd ⊢
  have HLd := hide (fun W (hW : Below w.heap.size w W) => load_any mm S G p 1 W (hP.below hW) (by omega) (by omega) (by omega))
  have hvb := loadV_bd hP.good p 1
  have HH := hide (fun W (hW : Below w.heap.size w W) => h.below hW)
  have hrd := ini_of hf.rd
  generalize loadV S p 1 = v at *
  generalize numOk S p 1 4 = ok at *
  clear hf hP hwd
  unfold inst
  have hXF : ¬ F w.heap.size := fun hf => by have := h.flt _ hf; omega
  have HXF := hide hXF
  clear hXF h
  cases ok with
  | false =>
    refine Calls.mono (?_ : Calls _ _ _ _ (fun e w' => e = .returned (.int .i64 3) ∧ HD m mm me x pc k c t w' F ∧ Went F w F w')) (by rintro e w' ⟨r1, r2, r3⟩; exact ⟨(fun h => by cases h), fun _ => ⟨r1, r2⟩, r3⟩)
    go_enter Tryz.func83, Tryz.ntmps83
    go_wp2_with fail
    refine (HWd.out _).mono ?_
    rintro e W ⟨rfl, rfl⟩
    go_wp2_with fail
    obtain ⟨X, hX⟩ : ∃ X, X = w.heap.size := ⟨_, rfl⟩
    rw [← hX]
    rw [← hX] at HXF
    obtain ⟨V, hV⟩ : ∃ V, V = w.alloc (.cells #[.int .i64 11, .int .i64 rd, .int .i64 r1, .int .i64 r2, .int .i64 im] 28) := ⟨_, rfl⟩
    rw [← hV]
    have hBV : Below w.heap.size w V := by rw [hV]; exact below_alloc _ _
    have hIX : InX V X 11 rd r1 r2 im := by rw [hV, hX]; exact InX.new _ _ _ _ _ _ _
    have hc0 := (HH.out V hBV).c0
    obtain ⟨i0, i1, i2, i3, i4⟩ := id hIX
    have HX := hide hIX
    have HB := hide hBV
    clear hIX hBV hV hX HWd
    have HP2 : Hid (∀ W, Below V.heap.size V W → Calls Tryz.prog 81 #[.pointer (some ⟨m, 0, none⟩), .agg #[.int .i64 11, .int .i64 rd, .int .i64 r1, .int .i64 r2, .int .i64 im]] W fun e w' => e = .returned (.int .u64 (p : Int)) ∧ Below V.heap.size V w' ∧ InX w' X 11 rd r1 r2 im ∧ w'.cell? ⟨m, 0, none⟩ = some (.pointer (some ⟨mm, 0, none⟩))) := fun W hW => by
      refine (HPl.out W (HB.out.trans (hW.mono HB.out.size))).mono ?_
      rintro e w' ⟨g1, g2⟩
      have g3 := hW.trans (g2.mono hW.size)
      exact ⟨g1, g3, HX.out.below g3, (HH.out w' (HB.out.trans (g3.mono HB.out.size))).c0⟩
    have HL2 : Hid (∀ W, Below V.heap.size V W → Calls Tryz.prog 112 #[.pointer (some ⟨mm, 0, none⟩), .int .u64 (p : Int), .int .i64 1] W fun e w' => e = .returned (.tuple #[.int .u64 v, .bool false]) ∧ Below V.heap.size V w' ∧ InX w' X 11 rd r1 r2 im ∧ w'.cell? ⟨m, 0, none⟩ = some (.pointer (some ⟨mm, 0, none⟩))) := fun W hW => by
      refine (HLd.out W (HB.out.trans (hW.mono HB.out.size))).mono ?_
      rintro e w' ⟨g1, g2⟩
      have g3 := hW.trans (g2.mono hW.size)
      exact ⟨g1, g3, HX.out.below g3, (HH.out w' (HB.out.trans (g3.mono HB.out.size))).c0⟩
    clear HPl HLd
    go_region_held3 (fun w' => w'.cell? ⟨X, 0, none⟩ = some (.int .i64 11) ∧ w'.cell? ⟨X, 1, none⟩ = some (.int .i64 rd) ∧ w'.cell? ⟨X, 2, none⟩ = some (.int .i64 r1) ∧ w'.cell? ⟨X, 3, none⟩ = some (.int .i64 r2) ∧ w'.cell? ⟨X, 4, none⟩ = some (.int .i64 im) ∧ w'.cell? ⟨m, 0, none⟩ = some (.pointer (some ⟨mm, 0, none⟩))) (go_keep)
      (first | (go_at_call 81; refine (HP2.out _ ((Below.refl _ _).drew)).mono ?_; rintro e W1 ⟨rfl, h5, h6, h7⟩; obtain ⟨j0, j1, j2, j3, j4⟩ := h6; have H5 := hide h5; clear h5) | (go_at_call 112; refine (HL2.out _ H5.out).mono ?_; rintro e W2 ⟨rfl, h8, h9, h10⟩; obtain ⟨l0, l1, l2, l3, l4⟩ := h9; have H8 := hide h8; clear h8))
    have H : Hid (HD m mm me x pc k c t W2 F ∧ Went F w F W2) :=
      have g := HB.out.trans (H8.out.mono HB.out.size)
      ⟨HH.out _ g, went_below g F⟩
    clear HP2 HL2 H5 H8 HH HB HX HXF
    go_wp2
    go_ret
    exact ⟨rfl, H.out.1, H.out.2⟩
  | true =>
    refine Calls.mono (?_ : Calls _ _ _ _ (fun e w' => e = .returned (.int .i64 0) ∧ HD m mm me (xset x rd (loadS 11 v)) (u64 (pc + 4)).toNat k c t w' F ∧ Went F w F w')) (by rintro e w' ⟨r1, r2, r3⟩; exact ⟨fun _ => ⟨r1, r2⟩, (fun h => by cases h), r3⟩)
    have hsb := loadS_bd 11 hvb
    have hv : IntKind.u64.wrap (wrap64 (IntKind.u64.wrap (v * 72057594037927936)) / 72057594037927936) = loadS 11 v := ls8 v
    generalize loadS 11 v = u at *
    go_enter Tryz.func83, Tryz.ntmps83
    go_wp2_with fail
    refine (HWd.out _).mono ?_
    rintro e W ⟨rfl, rfl⟩
    go_wp2_with fail
    obtain ⟨X, hX⟩ : ∃ X, X = w.heap.size := ⟨_, rfl⟩
    rw [← hX]
    rw [← hX] at HXF
    obtain ⟨V, hV⟩ : ∃ V, V = w.alloc (.cells #[.int .i64 11, .int .i64 rd, .int .i64 r1, .int .i64 r2, .int .i64 im] 28) := ⟨_, rfl⟩
    rw [← hV]
    have hBV : Below w.heap.size w V := by rw [hV]; exact below_alloc _ _
    have hIX : InX V X 11 rd r1 r2 im := by rw [hV, hX]; exact InX.new _ _ _ _ _ _ _
    have hc0 := (HH.out V hBV).c0
    obtain ⟨i0, i1, i2, i3, i4⟩ := id hIX
    have HX := hide hIX
    have HB := hide hBV
    clear hIX hBV hV hX HWd
    have HP2 : Hid (∀ W, Below V.heap.size V W → Calls Tryz.prog 81 #[.pointer (some ⟨m, 0, none⟩), .agg #[.int .i64 11, .int .i64 rd, .int .i64 r1, .int .i64 r2, .int .i64 im]] W fun e w' => e = .returned (.int .u64 (p : Int)) ∧ Below V.heap.size V w' ∧ InX w' X 11 rd r1 r2 im ∧ w'.cell? ⟨m, 0, none⟩ = some (.pointer (some ⟨mm, 0, none⟩))) := fun W hW => by
      refine (HPl.out W (HB.out.trans (hW.mono HB.out.size))).mono ?_
      rintro e w' ⟨g1, g2⟩
      have g3 := hW.trans (g2.mono hW.size)
      exact ⟨g1, g3, HX.out.below g3, (HH.out w' (HB.out.trans (g3.mono HB.out.size))).c0⟩
    have HL2 : Hid (∀ W, Below V.heap.size V W → Calls Tryz.prog 112 #[.pointer (some ⟨mm, 0, none⟩), .int .u64 (p : Int), .int .i64 1] W fun e w' => e = .returned (.tuple #[.int .u64 v, .bool true]) ∧ Below V.heap.size V w' ∧ InX w' X 11 rd r1 r2 im ∧ w'.cell? ⟨m, 0, none⟩ = some (.pointer (some ⟨mm, 0, none⟩))) := fun W hW => by
      refine (HLd.out W (HB.out.trans (hW.mono HB.out.size))).mono ?_
      rintro e w' ⟨g1, g2⟩
      have g3 := hW.trans (g2.mono hW.size)
      exact ⟨g1, g3, HX.out.below g3, (HH.out w' (HB.out.trans (g3.mono HB.out.size))).c0⟩
    clear HPl HLd
    go_region_held3 (fun w' => w'.cell? ⟨X, 0, none⟩ = some (.int .i64 11) ∧ w'.cell? ⟨X, 1, none⟩ = some (.int .i64 rd) ∧ w'.cell? ⟨X, 2, none⟩ = some (.int .i64 r1) ∧ w'.cell? ⟨X, 3, none⟩ = some (.int .i64 r2) ∧ w'.cell? ⟨X, 4, none⟩ = some (.int .i64 im) ∧ w'.cell? ⟨m, 0, none⟩ = some (.pointer (some ⟨mm, 0, none⟩))) (go_keep)
      (first | (go_at_call 81; refine (HP2.out _ ((Below.refl _ _).drew)).mono ?_; rintro e W1 ⟨rfl, h5, h6, h7⟩; obtain ⟨j0, j1, j2, j3, j4⟩ := h6; have H5 := hide h5; clear h5) | (go_at_call 112; refine (HL2.out _ H5.out).mono ?_; rintro e W2 ⟨rfl, h8, h9, h10⟩; obtain ⟨l0, l1, l2, l3, l4⟩ := h9; have H8 := hide h8; clear h8))
    have HPu := hide (put_reg rd u W2 (HH.out _ (HB.out.trans (H8.out.mono HB.out.size))) hrd hsb)
    have HWn := hide (went_below (HB.out.trans (H8.out.mono HB.out.size)) F)
    clear HP2 HL2 H5 H8 HH HB HX HXF hsb
    go_wp2_with fail
    refine HPu.out.mono ?_
    rintro e W3 ⟨rfl, h8, h9⟩
    have H := hide (And.intro h8 (HWn.out.trans h9))
    clear h8 h9 HPu HWn
    go_wp2
    go_ret
    exact ⟨rfl, H.out.1, H.out.2⟩

set_option maxHeartbeats 1600000 in
theorem load_12 (rd r1 r2 im : Int) (w : World) (h : HD m mm me x pc k c t w F) (hP : PM w mm S G) (hf : Fit5 rd r1 r2 im) :
    Calls Tryz.prog 83 #[.pointer (some ⟨m, 0, none⟩), inst 12 rd r1 r2 im] w fun e w' =>
      (numOk S (u64 (x r1.toNat + im)).toNat (widthF 12) 4 = true → e = .returned (.int .i64 0) ∧ HD m mm me (xset x rd (loadS 12 (loadV S (u64 (x r1.toNat + im)).toNat (widthF 12)))) (u64 (pc + 4)).toNat k c t w' F) ∧
      (numOk S (u64 (x r1.toNat + im)).toNat (widthF 12) 4 = false → e = .returned (.int .i64 3) ∧ HD m mm me x pc k c t w' F) ∧ Went F w F w' := by
  have HWd := hide (fun W => width_any' 12 W (by decide) (by decide))
  have him := hf.im
  have HPl := hide (fun W (hW : Below w.heap.size w W) => place_any 12 rd r1 r2 im W (h.below hW) (ini_of hf.r1) (by omega) (by omega))
  rw [rg_in hf.r1] at HPl
  have hub := u64_bd (x r1.toNat + im)
  generalize u64 (x r1.toNat + im) = a at *
  obtain ⟨p, rfl⟩ := Int.eq_ofNat_of_zero_le hub.1
  rw [Int.toNat_natCast]
  have hwd : widthF 12 = 2 := rfl
  rw [hwd] at HWd ⊢
  have HLd := hide (fun W (hW : Below w.heap.size w W) => load_any mm S G p 2 W (hP.below hW) (by omega) (by omega) (by omega))
  have hvb := loadV_bd hP.good p 2
  have HH := hide (fun W (hW : Below w.heap.size w W) => h.below hW)
  have hrd := ini_of hf.rd
  generalize loadV S p 2 = v at *
  generalize numOk S p 2 4 = ok at *
  clear hf hP hwd
  unfold inst
  have hXF : ¬ F w.heap.size := fun hf => by have := h.flt _ hf; omega
  have HXF := hide hXF
  clear hXF h
  cases ok with
  | false =>
    refine Calls.mono (?_ : Calls _ _ _ _ (fun e w' => e = .returned (.int .i64 3) ∧ HD m mm me x pc k c t w' F ∧ Went F w F w')) (by rintro e w' ⟨r1, r2, r3⟩; exact ⟨(fun h => by cases h), fun _ => ⟨r1, r2⟩, r3⟩)
    go_enter Tryz.func83, Tryz.ntmps83
    go_wp2_with fail
    refine (HWd.out _).mono ?_
    rintro e W ⟨rfl, rfl⟩
    go_wp2_with fail
    obtain ⟨X, hX⟩ : ∃ X, X = w.heap.size := ⟨_, rfl⟩
    rw [← hX]
    rw [← hX] at HXF
    obtain ⟨V, hV⟩ : ∃ V, V = w.alloc (.cells #[.int .i64 12, .int .i64 rd, .int .i64 r1, .int .i64 r2, .int .i64 im] 28) := ⟨_, rfl⟩
    rw [← hV]
    have hBV : Below w.heap.size w V := by rw [hV]; exact below_alloc _ _
    have hIX : InX V X 12 rd r1 r2 im := by rw [hV, hX]; exact InX.new _ _ _ _ _ _ _
    have hc0 := (HH.out V hBV).c0
    obtain ⟨i0, i1, i2, i3, i4⟩ := id hIX
    have HX := hide hIX
    have HB := hide hBV
    clear hIX hBV hV hX HWd
    have HP2 : Hid (∀ W, Below V.heap.size V W → Calls Tryz.prog 81 #[.pointer (some ⟨m, 0, none⟩), .agg #[.int .i64 12, .int .i64 rd, .int .i64 r1, .int .i64 r2, .int .i64 im]] W fun e w' => e = .returned (.int .u64 (p : Int)) ∧ Below V.heap.size V w' ∧ InX w' X 12 rd r1 r2 im ∧ w'.cell? ⟨m, 0, none⟩ = some (.pointer (some ⟨mm, 0, none⟩))) := fun W hW => by
      refine (HPl.out W (HB.out.trans (hW.mono HB.out.size))).mono ?_
      rintro e w' ⟨g1, g2⟩
      have g3 := hW.trans (g2.mono hW.size)
      exact ⟨g1, g3, HX.out.below g3, (HH.out w' (HB.out.trans (g3.mono HB.out.size))).c0⟩
    have HL2 : Hid (∀ W, Below V.heap.size V W → Calls Tryz.prog 112 #[.pointer (some ⟨mm, 0, none⟩), .int .u64 (p : Int), .int .i64 2] W fun e w' => e = .returned (.tuple #[.int .u64 v, .bool false]) ∧ Below V.heap.size V w' ∧ InX w' X 12 rd r1 r2 im ∧ w'.cell? ⟨m, 0, none⟩ = some (.pointer (some ⟨mm, 0, none⟩))) := fun W hW => by
      refine (HLd.out W (HB.out.trans (hW.mono HB.out.size))).mono ?_
      rintro e w' ⟨g1, g2⟩
      have g3 := hW.trans (g2.mono hW.size)
      exact ⟨g1, g3, HX.out.below g3, (HH.out w' (HB.out.trans (g3.mono HB.out.size))).c0⟩
    clear HPl HLd
    go_region_held3 (fun w' => w'.cell? ⟨X, 0, none⟩ = some (.int .i64 12) ∧ w'.cell? ⟨X, 1, none⟩ = some (.int .i64 rd) ∧ w'.cell? ⟨X, 2, none⟩ = some (.int .i64 r1) ∧ w'.cell? ⟨X, 3, none⟩ = some (.int .i64 r2) ∧ w'.cell? ⟨X, 4, none⟩ = some (.int .i64 im) ∧ w'.cell? ⟨m, 0, none⟩ = some (.pointer (some ⟨mm, 0, none⟩))) (go_keep)
      (first | (go_at_call 81; refine (HP2.out _ ((Below.refl _ _).drew)).mono ?_; rintro e W1 ⟨rfl, h5, h6, h7⟩; obtain ⟨j0, j1, j2, j3, j4⟩ := h6; have H5 := hide h5; clear h5) | (go_at_call 112; refine (HL2.out _ H5.out).mono ?_; rintro e W2 ⟨rfl, h8, h9, h10⟩; obtain ⟨l0, l1, l2, l3, l4⟩ := h9; have H8 := hide h8; clear h8))
    have H : Hid (HD m mm me x pc k c t W2 F ∧ Went F w F W2) :=
      have g := HB.out.trans (H8.out.mono HB.out.size)
      ⟨HH.out _ g, went_below g F⟩
    clear HP2 HL2 H5 H8 HH HB HX HXF
    go_wp2
    go_ret
    exact ⟨rfl, H.out.1, H.out.2⟩
  | true =>
    refine Calls.mono (?_ : Calls _ _ _ _ (fun e w' => e = .returned (.int .i64 0) ∧ HD m mm me (xset x rd (loadS 12 v)) (u64 (pc + 4)).toNat k c t w' F ∧ Went F w F w')) (by rintro e w' ⟨r1, r2, r3⟩; exact ⟨fun _ => ⟨r1, r2⟩, (fun h => by cases h), r3⟩)
    have hsb := loadS_bd 12 hvb
    have hv : IntKind.u64.wrap (wrap64 (IntKind.u64.wrap (v * 281474976710656)) / 281474976710656) = loadS 12 v := ls16 v
    generalize loadS 12 v = u at *
    go_enter Tryz.func83, Tryz.ntmps83
    go_wp2_with fail
    refine (HWd.out _).mono ?_
    rintro e W ⟨rfl, rfl⟩
    go_wp2_with fail
    obtain ⟨X, hX⟩ : ∃ X, X = w.heap.size := ⟨_, rfl⟩
    rw [← hX]
    rw [← hX] at HXF
    obtain ⟨V, hV⟩ : ∃ V, V = w.alloc (.cells #[.int .i64 12, .int .i64 rd, .int .i64 r1, .int .i64 r2, .int .i64 im] 28) := ⟨_, rfl⟩
    rw [← hV]
    have hBV : Below w.heap.size w V := by rw [hV]; exact below_alloc _ _
    have hIX : InX V X 12 rd r1 r2 im := by rw [hV, hX]; exact InX.new _ _ _ _ _ _ _
    have hc0 := (HH.out V hBV).c0
    obtain ⟨i0, i1, i2, i3, i4⟩ := id hIX
    have HX := hide hIX
    have HB := hide hBV
    clear hIX hBV hV hX HWd
    have HP2 : Hid (∀ W, Below V.heap.size V W → Calls Tryz.prog 81 #[.pointer (some ⟨m, 0, none⟩), .agg #[.int .i64 12, .int .i64 rd, .int .i64 r1, .int .i64 r2, .int .i64 im]] W fun e w' => e = .returned (.int .u64 (p : Int)) ∧ Below V.heap.size V w' ∧ InX w' X 12 rd r1 r2 im ∧ w'.cell? ⟨m, 0, none⟩ = some (.pointer (some ⟨mm, 0, none⟩))) := fun W hW => by
      refine (HPl.out W (HB.out.trans (hW.mono HB.out.size))).mono ?_
      rintro e w' ⟨g1, g2⟩
      have g3 := hW.trans (g2.mono hW.size)
      exact ⟨g1, g3, HX.out.below g3, (HH.out w' (HB.out.trans (g3.mono HB.out.size))).c0⟩
    have HL2 : Hid (∀ W, Below V.heap.size V W → Calls Tryz.prog 112 #[.pointer (some ⟨mm, 0, none⟩), .int .u64 (p : Int), .int .i64 2] W fun e w' => e = .returned (.tuple #[.int .u64 v, .bool true]) ∧ Below V.heap.size V w' ∧ InX w' X 12 rd r1 r2 im ∧ w'.cell? ⟨m, 0, none⟩ = some (.pointer (some ⟨mm, 0, none⟩))) := fun W hW => by
      refine (HLd.out W (HB.out.trans (hW.mono HB.out.size))).mono ?_
      rintro e w' ⟨g1, g2⟩
      have g3 := hW.trans (g2.mono hW.size)
      exact ⟨g1, g3, HX.out.below g3, (HH.out w' (HB.out.trans (g3.mono HB.out.size))).c0⟩
    clear HPl HLd
    go_region_held3 (fun w' => w'.cell? ⟨X, 0, none⟩ = some (.int .i64 12) ∧ w'.cell? ⟨X, 1, none⟩ = some (.int .i64 rd) ∧ w'.cell? ⟨X, 2, none⟩ = some (.int .i64 r1) ∧ w'.cell? ⟨X, 3, none⟩ = some (.int .i64 r2) ∧ w'.cell? ⟨X, 4, none⟩ = some (.int .i64 im) ∧ w'.cell? ⟨m, 0, none⟩ = some (.pointer (some ⟨mm, 0, none⟩))) (go_keep)
      (first | (go_at_call 81; refine (HP2.out _ ((Below.refl _ _).drew)).mono ?_; rintro e W1 ⟨rfl, h5, h6, h7⟩; obtain ⟨j0, j1, j2, j3, j4⟩ := h6; have H5 := hide h5; clear h5) | (go_at_call 112; refine (HL2.out _ H5.out).mono ?_; rintro e W2 ⟨rfl, h8, h9, h10⟩; obtain ⟨l0, l1, l2, l3, l4⟩ := h9; have H8 := hide h8; clear h8))
    have HPu := hide (put_reg rd u W2 (HH.out _ (HB.out.trans (H8.out.mono HB.out.size))) hrd hsb)
    have HWn := hide (went_below (HB.out.trans (H8.out.mono HB.out.size)) F)
    clear HP2 HL2 H5 H8 HH HB HX HXF hsb
    go_wp2_with fail
    refine HPu.out.mono ?_
    rintro e W3 ⟨rfl, h8, h9⟩
    have H := hide (And.intro h8 (HWn.out.trans h9))
    clear h8 h9 HPu HWn
    go_wp2
    go_ret
    exact ⟨rfl, H.out.1, H.out.2⟩

set_option maxHeartbeats 1600000 in
theorem load_13 (rd r1 r2 im : Int) (w : World) (h : HD m mm me x pc k c t w F) (hP : PM w mm S G) (hf : Fit5 rd r1 r2 im) :
    Calls Tryz.prog 83 #[.pointer (some ⟨m, 0, none⟩), inst 13 rd r1 r2 im] w fun e w' =>
      (numOk S (u64 (x r1.toNat + im)).toNat (widthF 13) 4 = true → e = .returned (.int .i64 0) ∧ HD m mm me (xset x rd (loadS 13 (loadV S (u64 (x r1.toNat + im)).toNat (widthF 13)))) (u64 (pc + 4)).toNat k c t w' F) ∧
      (numOk S (u64 (x r1.toNat + im)).toNat (widthF 13) 4 = false → e = .returned (.int .i64 3) ∧ HD m mm me x pc k c t w' F) ∧ Went F w F w' := by
  have HWd := hide (fun W => width_any' 13 W (by decide) (by decide))
  have him := hf.im
  have HPl := hide (fun W (hW : Below w.heap.size w W) => place_any 13 rd r1 r2 im W (h.below hW) (ini_of hf.r1) (by omega) (by omega))
  rw [rg_in hf.r1] at HPl
  have hub := u64_bd (x r1.toNat + im)
  generalize u64 (x r1.toNat + im) = a at *
  obtain ⟨p, rfl⟩ := Int.eq_ofNat_of_zero_le hub.1
  rw [Int.toNat_natCast]
  have hwd : widthF 13 = 4 := rfl
  rw [hwd] at HWd ⊢
  have HLd := hide (fun W (hW : Below w.heap.size w W) => load_any mm S G p 4 W (hP.below hW) (by omega) (by omega) (by omega))
  have hvb := loadV_bd hP.good p 4
  have HH := hide (fun W (hW : Below w.heap.size w W) => h.below hW)
  have hrd := ini_of hf.rd
  generalize loadV S p 4 = v at *
  generalize numOk S p 4 4 = ok at *
  clear hf hP hwd
  unfold inst
  have hXF : ¬ F w.heap.size := fun hf => by have := h.flt _ hf; omega
  have HXF := hide hXF
  clear hXF h
  cases ok with
  | false =>
    refine Calls.mono (?_ : Calls _ _ _ _ (fun e w' => e = .returned (.int .i64 3) ∧ HD m mm me x pc k c t w' F ∧ Went F w F w')) (by rintro e w' ⟨r1, r2, r3⟩; exact ⟨(fun h => by cases h), fun _ => ⟨r1, r2⟩, r3⟩)
    go_enter Tryz.func83, Tryz.ntmps83
    go_wp2_with fail
    refine (HWd.out _).mono ?_
    rintro e W ⟨rfl, rfl⟩
    go_wp2_with fail
    obtain ⟨X, hX⟩ : ∃ X, X = w.heap.size := ⟨_, rfl⟩
    rw [← hX]
    rw [← hX] at HXF
    obtain ⟨V, hV⟩ : ∃ V, V = w.alloc (.cells #[.int .i64 13, .int .i64 rd, .int .i64 r1, .int .i64 r2, .int .i64 im] 28) := ⟨_, rfl⟩
    rw [← hV]
    have hBV : Below w.heap.size w V := by rw [hV]; exact below_alloc _ _
    have hIX : InX V X 13 rd r1 r2 im := by rw [hV, hX]; exact InX.new _ _ _ _ _ _ _
    have hc0 := (HH.out V hBV).c0
    obtain ⟨i0, i1, i2, i3, i4⟩ := id hIX
    have HX := hide hIX
    have HB := hide hBV
    clear hIX hBV hV hX HWd
    have HP2 : Hid (∀ W, Below V.heap.size V W → Calls Tryz.prog 81 #[.pointer (some ⟨m, 0, none⟩), .agg #[.int .i64 13, .int .i64 rd, .int .i64 r1, .int .i64 r2, .int .i64 im]] W fun e w' => e = .returned (.int .u64 (p : Int)) ∧ Below V.heap.size V w' ∧ InX w' X 13 rd r1 r2 im ∧ w'.cell? ⟨m, 0, none⟩ = some (.pointer (some ⟨mm, 0, none⟩))) := fun W hW => by
      refine (HPl.out W (HB.out.trans (hW.mono HB.out.size))).mono ?_
      rintro e w' ⟨g1, g2⟩
      have g3 := hW.trans (g2.mono hW.size)
      exact ⟨g1, g3, HX.out.below g3, (HH.out w' (HB.out.trans (g3.mono HB.out.size))).c0⟩
    have HL2 : Hid (∀ W, Below V.heap.size V W → Calls Tryz.prog 112 #[.pointer (some ⟨mm, 0, none⟩), .int .u64 (p : Int), .int .i64 4] W fun e w' => e = .returned (.tuple #[.int .u64 v, .bool false]) ∧ Below V.heap.size V w' ∧ InX w' X 13 rd r1 r2 im ∧ w'.cell? ⟨m, 0, none⟩ = some (.pointer (some ⟨mm, 0, none⟩))) := fun W hW => by
      refine (HLd.out W (HB.out.trans (hW.mono HB.out.size))).mono ?_
      rintro e w' ⟨g1, g2⟩
      have g3 := hW.trans (g2.mono hW.size)
      exact ⟨g1, g3, HX.out.below g3, (HH.out w' (HB.out.trans (g3.mono HB.out.size))).c0⟩
    clear HPl HLd
    go_region_held3 (fun w' => w'.cell? ⟨X, 0, none⟩ = some (.int .i64 13) ∧ w'.cell? ⟨X, 1, none⟩ = some (.int .i64 rd) ∧ w'.cell? ⟨X, 2, none⟩ = some (.int .i64 r1) ∧ w'.cell? ⟨X, 3, none⟩ = some (.int .i64 r2) ∧ w'.cell? ⟨X, 4, none⟩ = some (.int .i64 im) ∧ w'.cell? ⟨m, 0, none⟩ = some (.pointer (some ⟨mm, 0, none⟩))) (go_keep)
      (first | (go_at_call 81; refine (HP2.out _ ((Below.refl _ _).drew)).mono ?_; rintro e W1 ⟨rfl, h5, h6, h7⟩; obtain ⟨j0, j1, j2, j3, j4⟩ := h6; have H5 := hide h5; clear h5) | (go_at_call 112; refine (HL2.out _ H5.out).mono ?_; rintro e W2 ⟨rfl, h8, h9, h10⟩; obtain ⟨l0, l1, l2, l3, l4⟩ := h9; have H8 := hide h8; clear h8))
    have H : Hid (HD m mm me x pc k c t W2 F ∧ Went F w F W2) :=
      have g := HB.out.trans (H8.out.mono HB.out.size)
      ⟨HH.out _ g, went_below g F⟩
    clear HP2 HL2 H5 H8 HH HB HX HXF
    go_wp2
    go_ret
    exact ⟨rfl, H.out.1, H.out.2⟩
  | true =>
    refine Calls.mono (?_ : Calls _ _ _ _ (fun e w' => e = .returned (.int .i64 0) ∧ HD m mm me (xset x rd (loadS 13 v)) (u64 (pc + 4)).toNat k c t w' F ∧ Went F w F w')) (by rintro e w' ⟨r1, r2, r3⟩; exact ⟨fun _ => ⟨r1, r2⟩, (fun h => by cases h), r3⟩)
    have hsb := loadS_bd 13 hvb
    have hv : IntKind.u64.wrap (wrap64 (IntKind.u64.wrap (v * 4294967296)) / 4294967296) = loadS 13 v := ls32 v
    generalize loadS 13 v = u at *
    go_enter Tryz.func83, Tryz.ntmps83
    go_wp2_with fail
    refine (HWd.out _).mono ?_
    rintro e W ⟨rfl, rfl⟩
    go_wp2_with fail
    obtain ⟨X, hX⟩ : ∃ X, X = w.heap.size := ⟨_, rfl⟩
    rw [← hX]
    rw [← hX] at HXF
    obtain ⟨V, hV⟩ : ∃ V, V = w.alloc (.cells #[.int .i64 13, .int .i64 rd, .int .i64 r1, .int .i64 r2, .int .i64 im] 28) := ⟨_, rfl⟩
    rw [← hV]
    have hBV : Below w.heap.size w V := by rw [hV]; exact below_alloc _ _
    have hIX : InX V X 13 rd r1 r2 im := by rw [hV, hX]; exact InX.new _ _ _ _ _ _ _
    have hc0 := (HH.out V hBV).c0
    obtain ⟨i0, i1, i2, i3, i4⟩ := id hIX
    have HX := hide hIX
    have HB := hide hBV
    clear hIX hBV hV hX HWd
    have HP2 : Hid (∀ W, Below V.heap.size V W → Calls Tryz.prog 81 #[.pointer (some ⟨m, 0, none⟩), .agg #[.int .i64 13, .int .i64 rd, .int .i64 r1, .int .i64 r2, .int .i64 im]] W fun e w' => e = .returned (.int .u64 (p : Int)) ∧ Below V.heap.size V w' ∧ InX w' X 13 rd r1 r2 im ∧ w'.cell? ⟨m, 0, none⟩ = some (.pointer (some ⟨mm, 0, none⟩))) := fun W hW => by
      refine (HPl.out W (HB.out.trans (hW.mono HB.out.size))).mono ?_
      rintro e w' ⟨g1, g2⟩
      have g3 := hW.trans (g2.mono hW.size)
      exact ⟨g1, g3, HX.out.below g3, (HH.out w' (HB.out.trans (g3.mono HB.out.size))).c0⟩
    have HL2 : Hid (∀ W, Below V.heap.size V W → Calls Tryz.prog 112 #[.pointer (some ⟨mm, 0, none⟩), .int .u64 (p : Int), .int .i64 4] W fun e w' => e = .returned (.tuple #[.int .u64 v, .bool true]) ∧ Below V.heap.size V w' ∧ InX w' X 13 rd r1 r2 im ∧ w'.cell? ⟨m, 0, none⟩ = some (.pointer (some ⟨mm, 0, none⟩))) := fun W hW => by
      refine (HLd.out W (HB.out.trans (hW.mono HB.out.size))).mono ?_
      rintro e w' ⟨g1, g2⟩
      have g3 := hW.trans (g2.mono hW.size)
      exact ⟨g1, g3, HX.out.below g3, (HH.out w' (HB.out.trans (g3.mono HB.out.size))).c0⟩
    clear HPl HLd
    go_region_held3 (fun w' => w'.cell? ⟨X, 0, none⟩ = some (.int .i64 13) ∧ w'.cell? ⟨X, 1, none⟩ = some (.int .i64 rd) ∧ w'.cell? ⟨X, 2, none⟩ = some (.int .i64 r1) ∧ w'.cell? ⟨X, 3, none⟩ = some (.int .i64 r2) ∧ w'.cell? ⟨X, 4, none⟩ = some (.int .i64 im) ∧ w'.cell? ⟨m, 0, none⟩ = some (.pointer (some ⟨mm, 0, none⟩))) (go_keep)
      (first | (go_at_call 81; refine (HP2.out _ ((Below.refl _ _).drew)).mono ?_; rintro e W1 ⟨rfl, h5, h6, h7⟩; obtain ⟨j0, j1, j2, j3, j4⟩ := h6; have H5 := hide h5; clear h5) | (go_at_call 112; refine (HL2.out _ H5.out).mono ?_; rintro e W2 ⟨rfl, h8, h9, h10⟩; obtain ⟨l0, l1, l2, l3, l4⟩ := h9; have H8 := hide h8; clear h8))
    have HPu := hide (put_reg rd u W2 (HH.out _ (HB.out.trans (H8.out.mono HB.out.size))) hrd hsb)
    have HWn := hide (went_below (HB.out.trans (H8.out.mono HB.out.size)) F)
    clear HP2 HL2 H5 H8 HH HB HX HXF hsb
    go_wp2_with fail
    refine HPu.out.mono ?_
    rintro e W3 ⟨rfl, h8, h9⟩
    have H := hide (And.intro h8 (HWn.out.trans h9))
    clear h8 h9 HPu HWn
    go_wp2
    go_ret
    exact ⟨rfl, H.out.1, H.out.2⟩

set_option maxHeartbeats 1600000 in
theorem load_14 (rd r1 r2 im : Int) (w : World) (h : HD m mm me x pc k c t w F) (hP : PM w mm S G) (hf : Fit5 rd r1 r2 im) :
    Calls Tryz.prog 83 #[.pointer (some ⟨m, 0, none⟩), inst 14 rd r1 r2 im] w fun e w' =>
      (numOk S (u64 (x r1.toNat + im)).toNat (widthF 14) 4 = true → e = .returned (.int .i64 0) ∧ HD m mm me (xset x rd (loadS 14 (loadV S (u64 (x r1.toNat + im)).toNat (widthF 14)))) (u64 (pc + 4)).toNat k c t w' F) ∧
      (numOk S (u64 (x r1.toNat + im)).toNat (widthF 14) 4 = false → e = .returned (.int .i64 3) ∧ HD m mm me x pc k c t w' F) ∧ Went F w F w' := by
  have HWd := hide (fun W => width_any' 14 W (by decide) (by decide))
  have him := hf.im
  have HPl := hide (fun W (hW : Below w.heap.size w W) => place_any 14 rd r1 r2 im W (h.below hW) (ini_of hf.r1) (by omega) (by omega))
  rw [rg_in hf.r1] at HPl
  have hub := u64_bd (x r1.toNat + im)
  generalize u64 (x r1.toNat + im) = a at *
  obtain ⟨p, rfl⟩ := Int.eq_ofNat_of_zero_le hub.1
  rw [Int.toNat_natCast]
  have hwd : widthF 14 = 8 := rfl
  rw [hwd] at HWd ⊢
  have HLd := hide (fun W (hW : Below w.heap.size w W) => load_any mm S G p 8 W (hP.below hW) (by omega) (by omega) (by omega))
  have hvb := loadV_bd hP.good p 8
  have HH := hide (fun W (hW : Below w.heap.size w W) => h.below hW)
  have hrd := ini_of hf.rd
  generalize loadV S p 8 = v at *
  generalize numOk S p 8 4 = ok at *
  clear hf hP hwd
  unfold inst
  have hXF : ¬ F w.heap.size := fun hf => by have := h.flt _ hf; omega
  have HXF := hide hXF
  clear hXF h
  cases ok with
  | false =>
    refine Calls.mono (?_ : Calls _ _ _ _ (fun e w' => e = .returned (.int .i64 3) ∧ HD m mm me x pc k c t w' F ∧ Went F w F w')) (by rintro e w' ⟨r1, r2, r3⟩; exact ⟨(fun h => by cases h), fun _ => ⟨r1, r2⟩, r3⟩)
    go_enter Tryz.func83, Tryz.ntmps83
    go_wp2_with fail
    refine (HWd.out _).mono ?_
    rintro e W ⟨rfl, rfl⟩
    go_wp2_with fail
    obtain ⟨X, hX⟩ : ∃ X, X = w.heap.size := ⟨_, rfl⟩
    rw [← hX]
    rw [← hX] at HXF
    obtain ⟨V, hV⟩ : ∃ V, V = w.alloc (.cells #[.int .i64 14, .int .i64 rd, .int .i64 r1, .int .i64 r2, .int .i64 im] 28) := ⟨_, rfl⟩
    rw [← hV]
    have hBV : Below w.heap.size w V := by rw [hV]; exact below_alloc _ _
    have hIX : InX V X 14 rd r1 r2 im := by rw [hV, hX]; exact InX.new _ _ _ _ _ _ _
    have hc0 := (HH.out V hBV).c0
    obtain ⟨i0, i1, i2, i3, i4⟩ := id hIX
    have HX := hide hIX
    have HB := hide hBV
    clear hIX hBV hV hX HWd
    have HP2 : Hid (∀ W, Below V.heap.size V W → Calls Tryz.prog 81 #[.pointer (some ⟨m, 0, none⟩), .agg #[.int .i64 14, .int .i64 rd, .int .i64 r1, .int .i64 r2, .int .i64 im]] W fun e w' => e = .returned (.int .u64 (p : Int)) ∧ Below V.heap.size V w' ∧ InX w' X 14 rd r1 r2 im ∧ w'.cell? ⟨m, 0, none⟩ = some (.pointer (some ⟨mm, 0, none⟩))) := fun W hW => by
      refine (HPl.out W (HB.out.trans (hW.mono HB.out.size))).mono ?_
      rintro e w' ⟨g1, g2⟩
      have g3 := hW.trans (g2.mono hW.size)
      exact ⟨g1, g3, HX.out.below g3, (HH.out w' (HB.out.trans (g3.mono HB.out.size))).c0⟩
    have HL2 : Hid (∀ W, Below V.heap.size V W → Calls Tryz.prog 112 #[.pointer (some ⟨mm, 0, none⟩), .int .u64 (p : Int), .int .i64 8] W fun e w' => e = .returned (.tuple #[.int .u64 v, .bool false]) ∧ Below V.heap.size V w' ∧ InX w' X 14 rd r1 r2 im ∧ w'.cell? ⟨m, 0, none⟩ = some (.pointer (some ⟨mm, 0, none⟩))) := fun W hW => by
      refine (HLd.out W (HB.out.trans (hW.mono HB.out.size))).mono ?_
      rintro e w' ⟨g1, g2⟩
      have g3 := hW.trans (g2.mono hW.size)
      exact ⟨g1, g3, HX.out.below g3, (HH.out w' (HB.out.trans (g3.mono HB.out.size))).c0⟩
    clear HPl HLd
    go_region_held3 (fun w' => w'.cell? ⟨X, 0, none⟩ = some (.int .i64 14) ∧ w'.cell? ⟨X, 1, none⟩ = some (.int .i64 rd) ∧ w'.cell? ⟨X, 2, none⟩ = some (.int .i64 r1) ∧ w'.cell? ⟨X, 3, none⟩ = some (.int .i64 r2) ∧ w'.cell? ⟨X, 4, none⟩ = some (.int .i64 im) ∧ w'.cell? ⟨m, 0, none⟩ = some (.pointer (some ⟨mm, 0, none⟩))) (go_keep)
      (first | (go_at_call 81; refine (HP2.out _ ((Below.refl _ _).drew)).mono ?_; rintro e W1 ⟨rfl, h5, h6, h7⟩; obtain ⟨j0, j1, j2, j3, j4⟩ := h6; have H5 := hide h5; clear h5) | (go_at_call 112; refine (HL2.out _ H5.out).mono ?_; rintro e W2 ⟨rfl, h8, h9, h10⟩; obtain ⟨l0, l1, l2, l3, l4⟩ := h9; have H8 := hide h8; clear h8))
    have H : Hid (HD m mm me x pc k c t W2 F ∧ Went F w F W2) :=
      have g := HB.out.trans (H8.out.mono HB.out.size)
      ⟨HH.out _ g, went_below g F⟩
    clear HP2 HL2 H5 H8 HH HB HX HXF
    go_wp2
    go_ret
    exact ⟨rfl, H.out.1, H.out.2⟩
  | true =>
    refine Calls.mono (?_ : Calls _ _ _ _ (fun e w' => e = .returned (.int .i64 0) ∧ HD m mm me (xset x rd (loadS 14 v)) (u64 (pc + 4)).toNat k c t w' F ∧ Went F w F w')) (by rintro e w' ⟨r1, r2, r3⟩; exact ⟨fun _ => ⟨r1, r2⟩, (fun h => by cases h), r3⟩)
    rw [show loadS 14 v = v from rfl]
    have hsb := hvb
    go_enter Tryz.func83, Tryz.ntmps83
    go_wp2_with fail
    refine (HWd.out _).mono ?_
    rintro e W ⟨rfl, rfl⟩
    go_wp2_with fail
    obtain ⟨X, hX⟩ : ∃ X, X = w.heap.size := ⟨_, rfl⟩
    rw [← hX]
    rw [← hX] at HXF
    obtain ⟨V, hV⟩ : ∃ V, V = w.alloc (.cells #[.int .i64 14, .int .i64 rd, .int .i64 r1, .int .i64 r2, .int .i64 im] 28) := ⟨_, rfl⟩
    rw [← hV]
    have hBV : Below w.heap.size w V := by rw [hV]; exact below_alloc _ _
    have hIX : InX V X 14 rd r1 r2 im := by rw [hV, hX]; exact InX.new _ _ _ _ _ _ _
    have hc0 := (HH.out V hBV).c0
    obtain ⟨i0, i1, i2, i3, i4⟩ := id hIX
    have HX := hide hIX
    have HB := hide hBV
    clear hIX hBV hV hX HWd
    have HP2 : Hid (∀ W, Below V.heap.size V W → Calls Tryz.prog 81 #[.pointer (some ⟨m, 0, none⟩), .agg #[.int .i64 14, .int .i64 rd, .int .i64 r1, .int .i64 r2, .int .i64 im]] W fun e w' => e = .returned (.int .u64 (p : Int)) ∧ Below V.heap.size V w' ∧ InX w' X 14 rd r1 r2 im ∧ w'.cell? ⟨m, 0, none⟩ = some (.pointer (some ⟨mm, 0, none⟩))) := fun W hW => by
      refine (HPl.out W (HB.out.trans (hW.mono HB.out.size))).mono ?_
      rintro e w' ⟨g1, g2⟩
      have g3 := hW.trans (g2.mono hW.size)
      exact ⟨g1, g3, HX.out.below g3, (HH.out w' (HB.out.trans (g3.mono HB.out.size))).c0⟩
    have HL2 : Hid (∀ W, Below V.heap.size V W → Calls Tryz.prog 112 #[.pointer (some ⟨mm, 0, none⟩), .int .u64 (p : Int), .int .i64 8] W fun e w' => e = .returned (.tuple #[.int .u64 v, .bool true]) ∧ Below V.heap.size V w' ∧ InX w' X 14 rd r1 r2 im ∧ w'.cell? ⟨m, 0, none⟩ = some (.pointer (some ⟨mm, 0, none⟩))) := fun W hW => by
      refine (HLd.out W (HB.out.trans (hW.mono HB.out.size))).mono ?_
      rintro e w' ⟨g1, g2⟩
      have g3 := hW.trans (g2.mono hW.size)
      exact ⟨g1, g3, HX.out.below g3, (HH.out w' (HB.out.trans (g3.mono HB.out.size))).c0⟩
    clear HPl HLd
    go_region_held3 (fun w' => w'.cell? ⟨X, 0, none⟩ = some (.int .i64 14) ∧ w'.cell? ⟨X, 1, none⟩ = some (.int .i64 rd) ∧ w'.cell? ⟨X, 2, none⟩ = some (.int .i64 r1) ∧ w'.cell? ⟨X, 3, none⟩ = some (.int .i64 r2) ∧ w'.cell? ⟨X, 4, none⟩ = some (.int .i64 im) ∧ w'.cell? ⟨m, 0, none⟩ = some (.pointer (some ⟨mm, 0, none⟩))) (go_keep)
      (first | (go_at_call 81; refine (HP2.out _ ((Below.refl _ _).drew)).mono ?_; rintro e W1 ⟨rfl, h5, h6, h7⟩; obtain ⟨j0, j1, j2, j3, j4⟩ := h6; have H5 := hide h5; clear h5) | (go_at_call 112; refine (HL2.out _ H5.out).mono ?_; rintro e W2 ⟨rfl, h8, h9, h10⟩; obtain ⟨l0, l1, l2, l3, l4⟩ := h9; have H8 := hide h8; clear h8))
    have HPu := hide (put_reg rd v W2 (HH.out _ (HB.out.trans (H8.out.mono HB.out.size))) hrd hsb)
    have HWn := hide (went_below (HB.out.trans (H8.out.mono HB.out.size)) F)
    clear HP2 HL2 H5 H8 HH HB HX HXF hsb
    go_wp2_with fail
    refine HPu.out.mono ?_
    rintro e W3 ⟨rfl, h8, h9⟩
    have H := hide (And.intro h8 (HWn.out.trans h9))
    clear h8 h9 HPu HWn
    go_wp2
    go_ret
    exact ⟨rfl, H.out.1, H.out.2⟩

set_option maxHeartbeats 1600000 in
theorem load_15 (rd r1 r2 im : Int) (w : World) (h : HD m mm me x pc k c t w F) (hP : PM w mm S G) (hf : Fit5 rd r1 r2 im) :
    Calls Tryz.prog 83 #[.pointer (some ⟨m, 0, none⟩), inst 15 rd r1 r2 im] w fun e w' =>
      (numOk S (u64 (x r1.toNat + im)).toNat (widthF 15) 4 = true → e = .returned (.int .i64 0) ∧ HD m mm me (xset x rd (loadS 15 (loadV S (u64 (x r1.toNat + im)).toNat (widthF 15)))) (u64 (pc + 4)).toNat k c t w' F) ∧
      (numOk S (u64 (x r1.toNat + im)).toNat (widthF 15) 4 = false → e = .returned (.int .i64 3) ∧ HD m mm me x pc k c t w' F) ∧ Went F w F w' := by
  have HWd := hide (fun W => width_any' 15 W (by decide) (by decide))
  have him := hf.im
  have HPl := hide (fun W (hW : Below w.heap.size w W) => place_any 15 rd r1 r2 im W (h.below hW) (ini_of hf.r1) (by omega) (by omega))
  rw [rg_in hf.r1] at HPl
  have hub := u64_bd (x r1.toNat + im)
  generalize u64 (x r1.toNat + im) = a at *
  obtain ⟨p, rfl⟩ := Int.eq_ofNat_of_zero_le hub.1
  rw [Int.toNat_natCast]
  have hwd : widthF 15 = 1 := rfl
  rw [hwd] at HWd ⊢
  have HLd := hide (fun W (hW : Below w.heap.size w W) => load_any mm S G p 1 W (hP.below hW) (by omega) (by omega) (by omega))
  have hvb := loadV_bd hP.good p 1
  have HH := hide (fun W (hW : Below w.heap.size w W) => h.below hW)
  have hrd := ini_of hf.rd
  generalize loadV S p 1 = v at *
  generalize numOk S p 1 4 = ok at *
  clear hf hP hwd
  unfold inst
  have hXF : ¬ F w.heap.size := fun hf => by have := h.flt _ hf; omega
  have HXF := hide hXF
  clear hXF h
  cases ok with
  | false =>
    refine Calls.mono (?_ : Calls _ _ _ _ (fun e w' => e = .returned (.int .i64 3) ∧ HD m mm me x pc k c t w' F ∧ Went F w F w')) (by rintro e w' ⟨r1, r2, r3⟩; exact ⟨(fun h => by cases h), fun _ => ⟨r1, r2⟩, r3⟩)
    go_enter Tryz.func83, Tryz.ntmps83
    go_wp2_with fail
    refine (HWd.out _).mono ?_
    rintro e W ⟨rfl, rfl⟩
    go_wp2_with fail
    obtain ⟨X, hX⟩ : ∃ X, X = w.heap.size := ⟨_, rfl⟩
    rw [← hX]
    rw [← hX] at HXF
    obtain ⟨V, hV⟩ : ∃ V, V = w.alloc (.cells #[.int .i64 15, .int .i64 rd, .int .i64 r1, .int .i64 r2, .int .i64 im] 28) := ⟨_, rfl⟩
    rw [← hV]
    have hBV : Below w.heap.size w V := by rw [hV]; exact below_alloc _ _
    have hIX : InX V X 15 rd r1 r2 im := by rw [hV, hX]; exact InX.new _ _ _ _ _ _ _
    have hc0 := (HH.out V hBV).c0
    obtain ⟨i0, i1, i2, i3, i4⟩ := id hIX
    have HX := hide hIX
    have HB := hide hBV
    clear hIX hBV hV hX HWd
    have HP2 : Hid (∀ W, Below V.heap.size V W → Calls Tryz.prog 81 #[.pointer (some ⟨m, 0, none⟩), .agg #[.int .i64 15, .int .i64 rd, .int .i64 r1, .int .i64 r2, .int .i64 im]] W fun e w' => e = .returned (.int .u64 (p : Int)) ∧ Below V.heap.size V w' ∧ InX w' X 15 rd r1 r2 im ∧ w'.cell? ⟨m, 0, none⟩ = some (.pointer (some ⟨mm, 0, none⟩))) := fun W hW => by
      refine (HPl.out W (HB.out.trans (hW.mono HB.out.size))).mono ?_
      rintro e w' ⟨g1, g2⟩
      have g3 := hW.trans (g2.mono hW.size)
      exact ⟨g1, g3, HX.out.below g3, (HH.out w' (HB.out.trans (g3.mono HB.out.size))).c0⟩
    have HL2 : Hid (∀ W, Below V.heap.size V W → Calls Tryz.prog 112 #[.pointer (some ⟨mm, 0, none⟩), .int .u64 (p : Int), .int .i64 1] W fun e w' => e = .returned (.tuple #[.int .u64 v, .bool false]) ∧ Below V.heap.size V w' ∧ InX w' X 15 rd r1 r2 im ∧ w'.cell? ⟨m, 0, none⟩ = some (.pointer (some ⟨mm, 0, none⟩))) := fun W hW => by
      refine (HLd.out W (HB.out.trans (hW.mono HB.out.size))).mono ?_
      rintro e w' ⟨g1, g2⟩
      have g3 := hW.trans (g2.mono hW.size)
      exact ⟨g1, g3, HX.out.below g3, (HH.out w' (HB.out.trans (g3.mono HB.out.size))).c0⟩
    clear HPl HLd
    go_region_held3 (fun w' => w'.cell? ⟨X, 0, none⟩ = some (.int .i64 15) ∧ w'.cell? ⟨X, 1, none⟩ = some (.int .i64 rd) ∧ w'.cell? ⟨X, 2, none⟩ = some (.int .i64 r1) ∧ w'.cell? ⟨X, 3, none⟩ = some (.int .i64 r2) ∧ w'.cell? ⟨X, 4, none⟩ = some (.int .i64 im) ∧ w'.cell? ⟨m, 0, none⟩ = some (.pointer (some ⟨mm, 0, none⟩))) (go_keep)
      (first | (go_at_call 81; refine (HP2.out _ ((Below.refl _ _).drew)).mono ?_; rintro e W1 ⟨rfl, h5, h6, h7⟩; obtain ⟨j0, j1, j2, j3, j4⟩ := h6; have H5 := hide h5; clear h5) | (go_at_call 112; refine (HL2.out _ H5.out).mono ?_; rintro e W2 ⟨rfl, h8, h9, h10⟩; obtain ⟨l0, l1, l2, l3, l4⟩ := h9; have H8 := hide h8; clear h8))
    have H : Hid (HD m mm me x pc k c t W2 F ∧ Went F w F W2) :=
      have g := HB.out.trans (H8.out.mono HB.out.size)
      ⟨HH.out _ g, went_below g F⟩
    clear HP2 HL2 H5 H8 HH HB HX HXF
    go_wp2
    go_ret
    exact ⟨rfl, H.out.1, H.out.2⟩
  | true =>
    refine Calls.mono (?_ : Calls _ _ _ _ (fun e w' => e = .returned (.int .i64 0) ∧ HD m mm me (xset x rd (loadS 15 v)) (u64 (pc + 4)).toNat k c t w' F ∧ Went F w F w')) (by rintro e w' ⟨r1, r2, r3⟩; exact ⟨fun _ => ⟨r1, r2⟩, (fun h => by cases h), r3⟩)
    rw [show loadS 15 v = v from rfl]
    have hsb := hvb
    go_enter Tryz.func83, Tryz.ntmps83
    go_wp2_with fail
    refine (HWd.out _).mono ?_
    rintro e W ⟨rfl, rfl⟩
    go_wp2_with fail
    obtain ⟨X, hX⟩ : ∃ X, X = w.heap.size := ⟨_, rfl⟩
    rw [← hX]
    rw [← hX] at HXF
    obtain ⟨V, hV⟩ : ∃ V, V = w.alloc (.cells #[.int .i64 15, .int .i64 rd, .int .i64 r1, .int .i64 r2, .int .i64 im] 28) := ⟨_, rfl⟩
    rw [← hV]
    have hBV : Below w.heap.size w V := by rw [hV]; exact below_alloc _ _
    have hIX : InX V X 15 rd r1 r2 im := by rw [hV, hX]; exact InX.new _ _ _ _ _ _ _
    have hc0 := (HH.out V hBV).c0
    obtain ⟨i0, i1, i2, i3, i4⟩ := id hIX
    have HX := hide hIX
    have HB := hide hBV
    clear hIX hBV hV hX HWd
    have HP2 : Hid (∀ W, Below V.heap.size V W → Calls Tryz.prog 81 #[.pointer (some ⟨m, 0, none⟩), .agg #[.int .i64 15, .int .i64 rd, .int .i64 r1, .int .i64 r2, .int .i64 im]] W fun e w' => e = .returned (.int .u64 (p : Int)) ∧ Below V.heap.size V w' ∧ InX w' X 15 rd r1 r2 im ∧ w'.cell? ⟨m, 0, none⟩ = some (.pointer (some ⟨mm, 0, none⟩))) := fun W hW => by
      refine (HPl.out W (HB.out.trans (hW.mono HB.out.size))).mono ?_
      rintro e w' ⟨g1, g2⟩
      have g3 := hW.trans (g2.mono hW.size)
      exact ⟨g1, g3, HX.out.below g3, (HH.out w' (HB.out.trans (g3.mono HB.out.size))).c0⟩
    have HL2 : Hid (∀ W, Below V.heap.size V W → Calls Tryz.prog 112 #[.pointer (some ⟨mm, 0, none⟩), .int .u64 (p : Int), .int .i64 1] W fun e w' => e = .returned (.tuple #[.int .u64 v, .bool true]) ∧ Below V.heap.size V w' ∧ InX w' X 15 rd r1 r2 im ∧ w'.cell? ⟨m, 0, none⟩ = some (.pointer (some ⟨mm, 0, none⟩))) := fun W hW => by
      refine (HLd.out W (HB.out.trans (hW.mono HB.out.size))).mono ?_
      rintro e w' ⟨g1, g2⟩
      have g3 := hW.trans (g2.mono hW.size)
      exact ⟨g1, g3, HX.out.below g3, (HH.out w' (HB.out.trans (g3.mono HB.out.size))).c0⟩
    clear HPl HLd
    go_region_held3 (fun w' => w'.cell? ⟨X, 0, none⟩ = some (.int .i64 15) ∧ w'.cell? ⟨X, 1, none⟩ = some (.int .i64 rd) ∧ w'.cell? ⟨X, 2, none⟩ = some (.int .i64 r1) ∧ w'.cell? ⟨X, 3, none⟩ = some (.int .i64 r2) ∧ w'.cell? ⟨X, 4, none⟩ = some (.int .i64 im) ∧ w'.cell? ⟨m, 0, none⟩ = some (.pointer (some ⟨mm, 0, none⟩))) (go_keep)
      (first | (go_at_call 81; refine (HP2.out _ ((Below.refl _ _).drew)).mono ?_; rintro e W1 ⟨rfl, h5, h6, h7⟩; obtain ⟨j0, j1, j2, j3, j4⟩ := h6; have H5 := hide h5; clear h5) | (go_at_call 112; refine (HL2.out _ H5.out).mono ?_; rintro e W2 ⟨rfl, h8, h9, h10⟩; obtain ⟨l0, l1, l2, l3, l4⟩ := h9; have H8 := hide h8; clear h8))
    have HPu := hide (put_reg rd v W2 (HH.out _ (HB.out.trans (H8.out.mono HB.out.size))) hrd hsb)
    have HWn := hide (went_below (HB.out.trans (H8.out.mono HB.out.size)) F)
    clear HP2 HL2 H5 H8 HH HB HX HXF hsb
    go_wp2_with fail
    refine HPu.out.mono ?_
    rintro e W3 ⟨rfl, h8, h9⟩
    have H := hide (And.intro h8 (HWn.out.trans h9))
    clear h8 h9 HPu HWn
    go_wp2
    go_ret
    exact ⟨rfl, H.out.1, H.out.2⟩

set_option maxHeartbeats 1600000 in
theorem load_16 (rd r1 r2 im : Int) (w : World) (h : HD m mm me x pc k c t w F) (hP : PM w mm S G) (hf : Fit5 rd r1 r2 im) :
    Calls Tryz.prog 83 #[.pointer (some ⟨m, 0, none⟩), inst 16 rd r1 r2 im] w fun e w' =>
      (numOk S (u64 (x r1.toNat + im)).toNat (widthF 16) 4 = true → e = .returned (.int .i64 0) ∧ HD m mm me (xset x rd (loadS 16 (loadV S (u64 (x r1.toNat + im)).toNat (widthF 16)))) (u64 (pc + 4)).toNat k c t w' F) ∧
      (numOk S (u64 (x r1.toNat + im)).toNat (widthF 16) 4 = false → e = .returned (.int .i64 3) ∧ HD m mm me x pc k c t w' F) ∧ Went F w F w' := by
  have HWd := hide (fun W => width_any' 16 W (by decide) (by decide))
  have him := hf.im
  have HPl := hide (fun W (hW : Below w.heap.size w W) => place_any 16 rd r1 r2 im W (h.below hW) (ini_of hf.r1) (by omega) (by omega))
  rw [rg_in hf.r1] at HPl
  have hub := u64_bd (x r1.toNat + im)
  generalize u64 (x r1.toNat + im) = a at *
  obtain ⟨p, rfl⟩ := Int.eq_ofNat_of_zero_le hub.1
  rw [Int.toNat_natCast]
  have hwd : widthF 16 = 2 := rfl
  rw [hwd] at HWd ⊢
  have HLd := hide (fun W (hW : Below w.heap.size w W) => load_any mm S G p 2 W (hP.below hW) (by omega) (by omega) (by omega))
  have hvb := loadV_bd hP.good p 2
  have HH := hide (fun W (hW : Below w.heap.size w W) => h.below hW)
  have hrd := ini_of hf.rd
  generalize loadV S p 2 = v at *
  generalize numOk S p 2 4 = ok at *
  clear hf hP hwd
  unfold inst
  have hXF : ¬ F w.heap.size := fun hf => by have := h.flt _ hf; omega
  have HXF := hide hXF
  clear hXF h
  cases ok with
  | false =>
    refine Calls.mono (?_ : Calls _ _ _ _ (fun e w' => e = .returned (.int .i64 3) ∧ HD m mm me x pc k c t w' F ∧ Went F w F w')) (by rintro e w' ⟨r1, r2, r3⟩; exact ⟨(fun h => by cases h), fun _ => ⟨r1, r2⟩, r3⟩)
    go_enter Tryz.func83, Tryz.ntmps83
    go_wp2_with fail
    refine (HWd.out _).mono ?_
    rintro e W ⟨rfl, rfl⟩
    go_wp2_with fail
    obtain ⟨X, hX⟩ : ∃ X, X = w.heap.size := ⟨_, rfl⟩
    rw [← hX]
    rw [← hX] at HXF
    obtain ⟨V, hV⟩ : ∃ V, V = w.alloc (.cells #[.int .i64 16, .int .i64 rd, .int .i64 r1, .int .i64 r2, .int .i64 im] 28) := ⟨_, rfl⟩
    rw [← hV]
    have hBV : Below w.heap.size w V := by rw [hV]; exact below_alloc _ _
    have hIX : InX V X 16 rd r1 r2 im := by rw [hV, hX]; exact InX.new _ _ _ _ _ _ _
    have hc0 := (HH.out V hBV).c0
    obtain ⟨i0, i1, i2, i3, i4⟩ := id hIX
    have HX := hide hIX
    have HB := hide hBV
    clear hIX hBV hV hX HWd
    have HP2 : Hid (∀ W, Below V.heap.size V W → Calls Tryz.prog 81 #[.pointer (some ⟨m, 0, none⟩), .agg #[.int .i64 16, .int .i64 rd, .int .i64 r1, .int .i64 r2, .int .i64 im]] W fun e w' => e = .returned (.int .u64 (p : Int)) ∧ Below V.heap.size V w' ∧ InX w' X 16 rd r1 r2 im ∧ w'.cell? ⟨m, 0, none⟩ = some (.pointer (some ⟨mm, 0, none⟩))) := fun W hW => by
      refine (HPl.out W (HB.out.trans (hW.mono HB.out.size))).mono ?_
      rintro e w' ⟨g1, g2⟩
      have g3 := hW.trans (g2.mono hW.size)
      exact ⟨g1, g3, HX.out.below g3, (HH.out w' (HB.out.trans (g3.mono HB.out.size))).c0⟩
    have HL2 : Hid (∀ W, Below V.heap.size V W → Calls Tryz.prog 112 #[.pointer (some ⟨mm, 0, none⟩), .int .u64 (p : Int), .int .i64 2] W fun e w' => e = .returned (.tuple #[.int .u64 v, .bool false]) ∧ Below V.heap.size V w' ∧ InX w' X 16 rd r1 r2 im ∧ w'.cell? ⟨m, 0, none⟩ = some (.pointer (some ⟨mm, 0, none⟩))) := fun W hW => by
      refine (HLd.out W (HB.out.trans (hW.mono HB.out.size))).mono ?_
      rintro e w' ⟨g1, g2⟩
      have g3 := hW.trans (g2.mono hW.size)
      exact ⟨g1, g3, HX.out.below g3, (HH.out w' (HB.out.trans (g3.mono HB.out.size))).c0⟩
    clear HPl HLd
    go_region_held3 (fun w' => w'.cell? ⟨X, 0, none⟩ = some (.int .i64 16) ∧ w'.cell? ⟨X, 1, none⟩ = some (.int .i64 rd) ∧ w'.cell? ⟨X, 2, none⟩ = some (.int .i64 r1) ∧ w'.cell? ⟨X, 3, none⟩ = some (.int .i64 r2) ∧ w'.cell? ⟨X, 4, none⟩ = some (.int .i64 im) ∧ w'.cell? ⟨m, 0, none⟩ = some (.pointer (some ⟨mm, 0, none⟩))) (go_keep)
      (first | (go_at_call 81; refine (HP2.out _ ((Below.refl _ _).drew)).mono ?_; rintro e W1 ⟨rfl, h5, h6, h7⟩; obtain ⟨j0, j1, j2, j3, j4⟩ := h6; have H5 := hide h5; clear h5) | (go_at_call 112; refine (HL2.out _ H5.out).mono ?_; rintro e W2 ⟨rfl, h8, h9, h10⟩; obtain ⟨l0, l1, l2, l3, l4⟩ := h9; have H8 := hide h8; clear h8))
    have H : Hid (HD m mm me x pc k c t W2 F ∧ Went F w F W2) :=
      have g := HB.out.trans (H8.out.mono HB.out.size)
      ⟨HH.out _ g, went_below g F⟩
    clear HP2 HL2 H5 H8 HH HB HX HXF
    go_wp2
    go_ret
    exact ⟨rfl, H.out.1, H.out.2⟩
  | true =>
    refine Calls.mono (?_ : Calls _ _ _ _ (fun e w' => e = .returned (.int .i64 0) ∧ HD m mm me (xset x rd (loadS 16 v)) (u64 (pc + 4)).toNat k c t w' F ∧ Went F w F w')) (by rintro e w' ⟨r1, r2, r3⟩; exact ⟨fun _ => ⟨r1, r2⟩, (fun h => by cases h), r3⟩)
    rw [show loadS 16 v = v from rfl]
    have hsb := hvb
    go_enter Tryz.func83, Tryz.ntmps83
    go_wp2_with fail
    refine (HWd.out _).mono ?_
    rintro e W ⟨rfl, rfl⟩
    go_wp2_with fail
    obtain ⟨X, hX⟩ : ∃ X, X = w.heap.size := ⟨_, rfl⟩
    rw [← hX]
    rw [← hX] at HXF
    obtain ⟨V, hV⟩ : ∃ V, V = w.alloc (.cells #[.int .i64 16, .int .i64 rd, .int .i64 r1, .int .i64 r2, .int .i64 im] 28) := ⟨_, rfl⟩
    rw [← hV]
    have hBV : Below w.heap.size w V := by rw [hV]; exact below_alloc _ _
    have hIX : InX V X 16 rd r1 r2 im := by rw [hV, hX]; exact InX.new _ _ _ _ _ _ _
    have hc0 := (HH.out V hBV).c0
    obtain ⟨i0, i1, i2, i3, i4⟩ := id hIX
    have HX := hide hIX
    have HB := hide hBV
    clear hIX hBV hV hX HWd
    have HP2 : Hid (∀ W, Below V.heap.size V W → Calls Tryz.prog 81 #[.pointer (some ⟨m, 0, none⟩), .agg #[.int .i64 16, .int .i64 rd, .int .i64 r1, .int .i64 r2, .int .i64 im]] W fun e w' => e = .returned (.int .u64 (p : Int)) ∧ Below V.heap.size V w' ∧ InX w' X 16 rd r1 r2 im ∧ w'.cell? ⟨m, 0, none⟩ = some (.pointer (some ⟨mm, 0, none⟩))) := fun W hW => by
      refine (HPl.out W (HB.out.trans (hW.mono HB.out.size))).mono ?_
      rintro e w' ⟨g1, g2⟩
      have g3 := hW.trans (g2.mono hW.size)
      exact ⟨g1, g3, HX.out.below g3, (HH.out w' (HB.out.trans (g3.mono HB.out.size))).c0⟩
    have HL2 : Hid (∀ W, Below V.heap.size V W → Calls Tryz.prog 112 #[.pointer (some ⟨mm, 0, none⟩), .int .u64 (p : Int), .int .i64 2] W fun e w' => e = .returned (.tuple #[.int .u64 v, .bool true]) ∧ Below V.heap.size V w' ∧ InX w' X 16 rd r1 r2 im ∧ w'.cell? ⟨m, 0, none⟩ = some (.pointer (some ⟨mm, 0, none⟩))) := fun W hW => by
      refine (HLd.out W (HB.out.trans (hW.mono HB.out.size))).mono ?_
      rintro e w' ⟨g1, g2⟩
      have g3 := hW.trans (g2.mono hW.size)
      exact ⟨g1, g3, HX.out.below g3, (HH.out w' (HB.out.trans (g3.mono HB.out.size))).c0⟩
    clear HPl HLd
    go_region_held3 (fun w' => w'.cell? ⟨X, 0, none⟩ = some (.int .i64 16) ∧ w'.cell? ⟨X, 1, none⟩ = some (.int .i64 rd) ∧ w'.cell? ⟨X, 2, none⟩ = some (.int .i64 r1) ∧ w'.cell? ⟨X, 3, none⟩ = some (.int .i64 r2) ∧ w'.cell? ⟨X, 4, none⟩ = some (.int .i64 im) ∧ w'.cell? ⟨m, 0, none⟩ = some (.pointer (some ⟨mm, 0, none⟩))) (go_keep)
      (first | (go_at_call 81; refine (HP2.out _ ((Below.refl _ _).drew)).mono ?_; rintro e W1 ⟨rfl, h5, h6, h7⟩; obtain ⟨j0, j1, j2, j3, j4⟩ := h6; have H5 := hide h5; clear h5) | (go_at_call 112; refine (HL2.out _ H5.out).mono ?_; rintro e W2 ⟨rfl, h8, h9, h10⟩; obtain ⟨l0, l1, l2, l3, l4⟩ := h9; have H8 := hide h8; clear h8))
    have HPu := hide (put_reg rd v W2 (HH.out _ (HB.out.trans (H8.out.mono HB.out.size))) hrd hsb)
    have HWn := hide (went_below (HB.out.trans (H8.out.mono HB.out.size)) F)
    clear HP2 HL2 H5 H8 HH HB HX HXF hsb
    go_wp2_with fail
    refine HPu.out.mono ?_
    rintro e W3 ⟨rfl, h8, h9⟩
    have H := hide (And.intro h8 (HWn.out.trans h9))
    clear h8 h9 HPu HWn
    go_wp2
    go_ret
    exact ⟨rfl, H.out.1, H.out.2⟩

set_option maxHeartbeats 1600000 in
theorem load_17 (rd r1 r2 im : Int) (w : World) (h : HD m mm me x pc k c t w F) (hP : PM w mm S G) (hf : Fit5 rd r1 r2 im) :
    Calls Tryz.prog 83 #[.pointer (some ⟨m, 0, none⟩), inst 17 rd r1 r2 im] w fun e w' =>
      (numOk S (u64 (x r1.toNat + im)).toNat (widthF 17) 4 = true → e = .returned (.int .i64 0) ∧ HD m mm me (xset x rd (loadS 17 (loadV S (u64 (x r1.toNat + im)).toNat (widthF 17)))) (u64 (pc + 4)).toNat k c t w' F) ∧
      (numOk S (u64 (x r1.toNat + im)).toNat (widthF 17) 4 = false → e = .returned (.int .i64 3) ∧ HD m mm me x pc k c t w' F) ∧ Went F w F w' := by
  have HWd := hide (fun W => width_any' 17 W (by decide) (by decide))
  have him := hf.im
  have HPl := hide (fun W (hW : Below w.heap.size w W) => place_any 17 rd r1 r2 im W (h.below hW) (ini_of hf.r1) (by omega) (by omega))
  rw [rg_in hf.r1] at HPl
  have hub := u64_bd (x r1.toNat + im)
  generalize u64 (x r1.toNat + im) = a at *
  obtain ⟨p, rfl⟩ := Int.eq_ofNat_of_zero_le hub.1
  rw [Int.toNat_natCast]
  have hwd : widthF 17 = 4 := rfl
  rw [hwd] at HWd ⊢
  have HLd := hide (fun W (hW : Below w.heap.size w W) => load_any mm S G p 4 W (hP.below hW) (by omega) (by omega) (by omega))
  have hvb := loadV_bd hP.good p 4
  have HH := hide (fun W (hW : Below w.heap.size w W) => h.below hW)
  have hrd := ini_of hf.rd
  generalize loadV S p 4 = v at *
  generalize numOk S p 4 4 = ok at *
  clear hf hP hwd
  unfold inst
  have hXF : ¬ F w.heap.size := fun hf => by have := h.flt _ hf; omega
  have HXF := hide hXF
  clear hXF h
  cases ok with
  | false =>
    refine Calls.mono (?_ : Calls _ _ _ _ (fun e w' => e = .returned (.int .i64 3) ∧ HD m mm me x pc k c t w' F ∧ Went F w F w')) (by rintro e w' ⟨r1, r2, r3⟩; exact ⟨(fun h => by cases h), fun _ => ⟨r1, r2⟩, r3⟩)
    go_enter Tryz.func83, Tryz.ntmps83
    go_wp2_with fail
    refine (HWd.out _).mono ?_
    rintro e W ⟨rfl, rfl⟩
    go_wp2_with fail
    obtain ⟨X, hX⟩ : ∃ X, X = w.heap.size := ⟨_, rfl⟩
    rw [← hX]
    rw [← hX] at HXF
    obtain ⟨V, hV⟩ : ∃ V, V = w.alloc (.cells #[.int .i64 17, .int .i64 rd, .int .i64 r1, .int .i64 r2, .int .i64 im] 28) := ⟨_, rfl⟩
    rw [← hV]
    have hBV : Below w.heap.size w V := by rw [hV]; exact below_alloc _ _
    have hIX : InX V X 17 rd r1 r2 im := by rw [hV, hX]; exact InX.new _ _ _ _ _ _ _
    have hc0 := (HH.out V hBV).c0
    obtain ⟨i0, i1, i2, i3, i4⟩ := id hIX
    have HX := hide hIX
    have HB := hide hBV
    clear hIX hBV hV hX HWd
    have HP2 : Hid (∀ W, Below V.heap.size V W → Calls Tryz.prog 81 #[.pointer (some ⟨m, 0, none⟩), .agg #[.int .i64 17, .int .i64 rd, .int .i64 r1, .int .i64 r2, .int .i64 im]] W fun e w' => e = .returned (.int .u64 (p : Int)) ∧ Below V.heap.size V w' ∧ InX w' X 17 rd r1 r2 im ∧ w'.cell? ⟨m, 0, none⟩ = some (.pointer (some ⟨mm, 0, none⟩))) := fun W hW => by
      refine (HPl.out W (HB.out.trans (hW.mono HB.out.size))).mono ?_
      rintro e w' ⟨g1, g2⟩
      have g3 := hW.trans (g2.mono hW.size)
      exact ⟨g1, g3, HX.out.below g3, (HH.out w' (HB.out.trans (g3.mono HB.out.size))).c0⟩
    have HL2 : Hid (∀ W, Below V.heap.size V W → Calls Tryz.prog 112 #[.pointer (some ⟨mm, 0, none⟩), .int .u64 (p : Int), .int .i64 4] W fun e w' => e = .returned (.tuple #[.int .u64 v, .bool false]) ∧ Below V.heap.size V w' ∧ InX w' X 17 rd r1 r2 im ∧ w'.cell? ⟨m, 0, none⟩ = some (.pointer (some ⟨mm, 0, none⟩))) := fun W hW => by
      refine (HLd.out W (HB.out.trans (hW.mono HB.out.size))).mono ?_
      rintro e w' ⟨g1, g2⟩
      have g3 := hW.trans (g2.mono hW.size)
      exact ⟨g1, g3, HX.out.below g3, (HH.out w' (HB.out.trans (g3.mono HB.out.size))).c0⟩
    clear HPl HLd
    go_region_held3 (fun w' => w'.cell? ⟨X, 0, none⟩ = some (.int .i64 17) ∧ w'.cell? ⟨X, 1, none⟩ = some (.int .i64 rd) ∧ w'.cell? ⟨X, 2, none⟩ = some (.int .i64 r1) ∧ w'.cell? ⟨X, 3, none⟩ = some (.int .i64 r2) ∧ w'.cell? ⟨X, 4, none⟩ = some (.int .i64 im) ∧ w'.cell? ⟨m, 0, none⟩ = some (.pointer (some ⟨mm, 0, none⟩))) (go_keep)
      (first | (go_at_call 81; refine (HP2.out _ ((Below.refl _ _).drew)).mono ?_; rintro e W1 ⟨rfl, h5, h6, h7⟩; obtain ⟨j0, j1, j2, j3, j4⟩ := h6; have H5 := hide h5; clear h5) | (go_at_call 112; refine (HL2.out _ H5.out).mono ?_; rintro e W2 ⟨rfl, h8, h9, h10⟩; obtain ⟨l0, l1, l2, l3, l4⟩ := h9; have H8 := hide h8; clear h8))
    have H : Hid (HD m mm me x pc k c t W2 F ∧ Went F w F W2) :=
      have g := HB.out.trans (H8.out.mono HB.out.size)
      ⟨HH.out _ g, went_below g F⟩
    clear HP2 HL2 H5 H8 HH HB HX HXF
    go_wp2
    go_ret
    exact ⟨rfl, H.out.1, H.out.2⟩
  | true =>
    refine Calls.mono (?_ : Calls _ _ _ _ (fun e w' => e = .returned (.int .i64 0) ∧ HD m mm me (xset x rd (loadS 17 v)) (u64 (pc + 4)).toNat k c t w' F ∧ Went F w F w')) (by rintro e w' ⟨r1, r2, r3⟩; exact ⟨fun _ => ⟨r1, r2⟩, (fun h => by cases h), r3⟩)
    rw [show loadS 17 v = v from rfl]
    have hsb := hvb
    go_enter Tryz.func83, Tryz.ntmps83
    go_wp2_with fail
    refine (HWd.out _).mono ?_
    rintro e W ⟨rfl, rfl⟩
    go_wp2_with fail
    obtain ⟨X, hX⟩ : ∃ X, X = w.heap.size := ⟨_, rfl⟩
    rw [← hX]
    rw [← hX] at HXF
    obtain ⟨V, hV⟩ : ∃ V, V = w.alloc (.cells #[.int .i64 17, .int .i64 rd, .int .i64 r1, .int .i64 r2, .int .i64 im] 28) := ⟨_, rfl⟩
    rw [← hV]
    have hBV : Below w.heap.size w V := by rw [hV]; exact below_alloc _ _
    have hIX : InX V X 17 rd r1 r2 im := by rw [hV, hX]; exact InX.new _ _ _ _ _ _ _
    have hc0 := (HH.out V hBV).c0
    obtain ⟨i0, i1, i2, i3, i4⟩ := id hIX
    have HX := hide hIX
    have HB := hide hBV
    clear hIX hBV hV hX HWd
    have HP2 : Hid (∀ W, Below V.heap.size V W → Calls Tryz.prog 81 #[.pointer (some ⟨m, 0, none⟩), .agg #[.int .i64 17, .int .i64 rd, .int .i64 r1, .int .i64 r2, .int .i64 im]] W fun e w' => e = .returned (.int .u64 (p : Int)) ∧ Below V.heap.size V w' ∧ InX w' X 17 rd r1 r2 im ∧ w'.cell? ⟨m, 0, none⟩ = some (.pointer (some ⟨mm, 0, none⟩))) := fun W hW => by
      refine (HPl.out W (HB.out.trans (hW.mono HB.out.size))).mono ?_
      rintro e w' ⟨g1, g2⟩
      have g3 := hW.trans (g2.mono hW.size)
      exact ⟨g1, g3, HX.out.below g3, (HH.out w' (HB.out.trans (g3.mono HB.out.size))).c0⟩
    have HL2 : Hid (∀ W, Below V.heap.size V W → Calls Tryz.prog 112 #[.pointer (some ⟨mm, 0, none⟩), .int .u64 (p : Int), .int .i64 4] W fun e w' => e = .returned (.tuple #[.int .u64 v, .bool true]) ∧ Below V.heap.size V w' ∧ InX w' X 17 rd r1 r2 im ∧ w'.cell? ⟨m, 0, none⟩ = some (.pointer (some ⟨mm, 0, none⟩))) := fun W hW => by
      refine (HLd.out W (HB.out.trans (hW.mono HB.out.size))).mono ?_
      rintro e w' ⟨g1, g2⟩
      have g3 := hW.trans (g2.mono hW.size)
      exact ⟨g1, g3, HX.out.below g3, (HH.out w' (HB.out.trans (g3.mono HB.out.size))).c0⟩
    clear HPl HLd
    go_region_held3 (fun w' => w'.cell? ⟨X, 0, none⟩ = some (.int .i64 17) ∧ w'.cell? ⟨X, 1, none⟩ = some (.int .i64 rd) ∧ w'.cell? ⟨X, 2, none⟩ = some (.int .i64 r1) ∧ w'.cell? ⟨X, 3, none⟩ = some (.int .i64 r2) ∧ w'.cell? ⟨X, 4, none⟩ = some (.int .i64 im) ∧ w'.cell? ⟨m, 0, none⟩ = some (.pointer (some ⟨mm, 0, none⟩))) (go_keep)
      (first | (go_at_call 81; refine (HP2.out _ ((Below.refl _ _).drew)).mono ?_; rintro e W1 ⟨rfl, h5, h6, h7⟩; obtain ⟨j0, j1, j2, j3, j4⟩ := h6; have H5 := hide h5; clear h5) | (go_at_call 112; refine (HL2.out _ H5.out).mono ?_; rintro e W2 ⟨rfl, h8, h9, h10⟩; obtain ⟨l0, l1, l2, l3, l4⟩ := h9; have H8 := hide h8; clear h8))
    have HPu := hide (put_reg rd v W2 (HH.out _ (HB.out.trans (H8.out.mono HB.out.size))) hrd hsb)
    have HWn := hide (went_below (HB.out.trans (H8.out.mono HB.out.size)) F)
    clear HP2 HL2 H5 H8 HH HB HX HXF hsb
    go_wp2_with fail
    refine HPu.out.mono ?_
    rintro e W3 ⟨rfl, h8, h9⟩
    have H := hide (And.intro h8 (HWn.out.trans h9))
    clear h8 h9 HPu HWn
    go_wp2
    go_ret
    exact ⟨rfl, H.out.1, H.out.2⟩

theorem loads_any (o : Nat) (rd r1 r2 im : Int) (w : World) (h : HD m mm me x pc k c t w F) (hP : PM w mm S G) (h0 : 11 ≤ o) (h1 : o ≤ 17) (hf : Fit5 rd r1 r2 im) :
    Calls Tryz.prog 83 #[.pointer (some ⟨m, 0, none⟩), inst o rd r1 r2 im] w fun e w' =>
      (numOk S (u64 (x r1.toNat + im)).toNat (widthF o) 4 = true → e = .returned (.int .i64 0) ∧ HD m mm me (xset x rd (loadS o (loadV S (u64 (x r1.toNat + im)).toNat (widthF o)))) (u64 (pc + 4)).toNat k c t w' F) ∧
      (numOk S (u64 (x r1.toNat + im)).toNat (widthF o) 4 = false → e = .returned (.int .i64 3) ∧ HD m mm me x pc k c t w' F) ∧ Went F w F w' := by
  rcases (show o = 11 ∨ o = 12 ∨ o = 13 ∨ o = 14 ∨ o = 15 ∨ o = 16 ∨ o = 17 by omega) with rfl | rfl | rfl | rfl | rfl | rfl | rfl
  · exact load_11 rd r1 r2 im w h hP hf
  · exact load_12 rd r1 r2 im w h hP hf
  · exact load_13 rd r1 r2 im w h hP hf
  · exact load_14 rd r1 r2 im w h hP hf
  · exact load_15 rd r1 r2 im w h hP hf
  · exact load_16 rd r1 r2 im w h hP hf
  · exact load_17 rd r1 r2 im w h hP hf

end

end Go.Proofs.YtgjfelkbblbjfaaGreatDoor
