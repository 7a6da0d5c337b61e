/- The document's Decode: the words without operands, and the search of all the others, over the contracts of what it calls. -/
import Derived.Test.YtgjfelkbblbjfaaGreatDoorJ24
import Derived.Test.YtgjfelkbblbjfaaGreatDoorImmRef
import Derived.Test.YtgjfelkbblbjfaaGreatDoorInstMath
import Derived.Deep.QuietTactic
import Derived.BigQuiet
namespace Go.Proofs.YtgjfelkbblbjfaaGreatDoor
open Go.RowKit
set_option linter.unusedVariables false
set_option maxRecDepth 100000
set_option linter.unusedSimpArgs false

/-- A variable of five noughts, that may be written. -/
def Zer (b : Nat) (W : World) : Prop := b < W.heap.size ∧ (∀ j : Nat, j < 5 → W.cell? ⟨b, j, none⟩ = some (.int .i64 0)) ∧ ∀ j, W.frozen? ⟨b, j, none⟩ = false
theorem Zer.below {b : Nat} {W W' : World} (h : Zer b W) (hB : Below W.heap.size W W') : Zer b W' :=
  ⟨Nat.lt_of_lt_of_le h.1 hB.size, fun j hj => (hB.cell (p := ⟨b, j, none⟩) h.1).trans (h.2.1 j hj), fun j => (hB.frozen (p := ⟨b, j, none⟩) h.1).trans (h.2.2 j)⟩
theorem bel_drew {B : Nat} {w W : World} (h : Below B w W) (m : Nat) : Below B w (W.drewN m) := h.trans ⟨rfl, rfl, rfl, Nat.le_refl _, fun _ _ => rfl⟩

theorem rdec_64 (w : World) : Calls Tryz.prog 60 #[.int .u32 115] w fun e w' => e = .returned (.tuple #[inst 64 0 0 0 0, .bool true]) ∧ Below w.heap.size w w' := by
  go_enter Tryz.func60, Tryz.ntmps60
  go_wp2
  refine bodyPost_ret (v := .tuple #[inst 64 0 0 0 0, .bool true]) (by simp [results, Tryz.results60, go_sem, inst]) rfl ⟨rfl, ?_⟩
  go_grown

theorem rdec_65 (w : World) : Calls Tryz.prog 60 #[.int .u32 1048691] w fun e w' => e = .returned (.tuple #[inst 65 0 0 0 0, .bool true]) ∧ Below w.heap.size w w' := by
  go_enter Tryz.func60, Tryz.ntmps60
  go_wp2
  refine bodyPost_ret (v := .tuple #[inst 65 0 0 0 0, .bool true]) (by simp [results, Tryz.results60, go_sem, inst]) rfl ⟨rfl, ?_⟩
  go_grown

theorem rdec_63 (x : Int) (w : World) (h0 : 0 ≤ x) (h1 : x ≤ 4294967295) (t1 : (x == 115) = false) (t2 : (x == 1048691) = false) (t3 : bits .and .u32 x 28799 = 15) :
    Calls Tryz.prog 60 #[.int .u32 x] w fun e w' => e = .returned (.tuple #[inst 63 0 0 0 0, .bool true]) ∧ Below w.heap.size w w' := by
  go_enter Tryz.func60, Tryz.ntmps60
  go_wp2
  refine bodyPost_ret (v := .tuple #[inst 63 0 0 0 0, .bool true]) (by simp [results, Tryz.results60, go_sem, inst]) rfl ⟨rfl, ?_⟩
  go_grown

/-- What the search tells where it finds the operation o, of form f and shift sh. -/
def rdV (f sh : Int) (o : Nat) (d0 d1 d2 s6 : Int) (g : Int → Int) : Value :=
  if f = 0 then inst o d0 d1 d2 0 else if f = 1 then inst o d0 d1 0 (if sh = 6 then s6 else if sh = 5 then d2 else g 1) else if f = 2 ∨ f = 3 then inst o 0 d1 d2 (g f) else inst o d0 0 0 (g f)
theorem rco_bd : ∀ k, k < 66 → (0 ≤ co0 k ∧ co0 k ≤ 127) ∧ (0 ≤ co1 k ∧ co1 k ≤ 7) ∧ (0 ≤ co2 k ∧ co2 k ≤ 63) := by decide +kernel
theorem rfm_bd : ∀ k, k < 63 → (1 ≤ k → (fmo ((k : Nat) : Int) = 0 ∨ fmo ((k : Nat) : Int) = 1 ∨ fmo ((k : Nat) : Int) = 2 ∨ fmo ((k : Nat) : Int) = 3 ∨ fmo ((k : Nat) : Int) = 4 ∨ fmo ((k : Nat) : Int) = 5)) := by decide +kernel
theorem rshb_bd : ∀ k, k < 63 → (1 ≤ k → (shb (wd k) = 0 ∨ shb (wd k) = 5 ∨ shb (wd k) = 6) ∧ (fmo ((k : Nat) : Int) ≠ 1 → shb (wd k) = 0)) := by decide +kernel

set_option maxRecDepth 100000 in
set_option maxHeartbeats 20000000 in
theorem rdec_loop (x cx fx d0 d1 d2 u5 u6 s6 : Int) (g : Int → Int) (o : Nat) (R : Value) (b : Bool) (w : World) (h0 : 0 ≤ x) (h1 : x ≤ 4294967295)
    (t1 : (x == 115) = false) (t2 : (x == 1048691) = false) (t3 : (bits .and .u32 x 28799 == 15) = false) (hcx : bits .and .u32 x 127 = cx)
    (bf : 0 ≤ fx ∧ fx ≤ 7) (b0 : 0 ≤ d0 ∧ d0 ≤ 31) (b1 : 0 ≤ d1 ∧ d1 ≤ 31) (b2 : 0 ≤ d2 ∧ d2 ≤ 31) (b5 : 0 ≤ u5 ∧ u5 ≤ 127) (b6 : 0 ≤ u6 ∧ u6 ≤ 63) (bs : 0 ≤ s6 ∧ s6 ≤ 63)
    (HBf : Hid (∀ w, Calls Tryz.prog 89 #[.int .u32 x, .int .i64 14, .int .i64 12] w fun e w' => e = .returned (.int .u64 fx) ∧ ∃ m, w' = w.drewN m))
    (HB0 : Hid (∀ w, Calls Tryz.prog 89 #[.int .u32 x, .int .i64 11, .int .i64 7] w fun e w' => e = .returned (.int .u64 d0) ∧ ∃ m, w' = w.drewN m))
    (HB1 : Hid (∀ w, Calls Tryz.prog 89 #[.int .u32 x, .int .i64 19, .int .i64 15] w fun e w' => e = .returned (.int .u64 d1) ∧ ∃ m, w' = w.drewN m))
    (HB2 : Hid (∀ w, Calls Tryz.prog 89 #[.int .u32 x, .int .i64 24, .int .i64 20] w fun e w' => e = .returned (.int .u64 d2) ∧ ∃ m, w' = w.drewN m))
    (HB5 : Hid (∀ w, Calls Tryz.prog 89 #[.int .u32 x, .int .i64 31, .int .i64 25] w fun e w' => e = .returned (.int .u64 u5) ∧ ∃ m, w' = w.drewN m))
    (HB6 : Hid (∀ w, Calls Tryz.prog 89 #[.int .u32 x, .int .i64 31, .int .i64 26] w fun e w' => e = .returned (.int .u64 u6) ∧ ∃ m, w' = w.drewN m))
    (HBs : Hid (∀ w, Calls Tryz.prog 89 #[.int .u32 x, .int .i64 25, .int .i64 20] w fun e w' => e = .returned (.int .u64 s6) ∧ ∃ m, w' = w.drewN m))
    (HC : Hid (∀ k : Nat, 1 ≤ k → k < 63 → ∀ w, Calls Tryz.prog 28 #[.int .i64 k] w fun e w' => e = .returned (.agg #[.int .u32 (co0 k), .int .u32 (co1 k), .int .u32 (co2 k)]) ∧ Below w.heap.size w w'))
    (HF : Hid (∀ (k : Nat) w, Calls Tryz.prog 6 #[.int .i64 k] w fun e w' => e = .returned (.int .i64 (fmo k)) ∧ w' = w))
    (HS6 : Hid (∀ k : Nat, k < 63 → ∀ w, Calls Tryz.prog 30 #[.int .i64 k] w fun e w' => e = .returned (.bool (decide (shb (wd k) = 6))) ∧ w' = w))
    (HS5 : Hid (∀ k : Nat, k < 63 → ∀ w, Calls Tryz.prog 31 #[.int .i64 k] w fun e w' => e = .returned (.bool (decide (shb (wd k) = 5))) ∧ w' = w))
    (HG : Hid (∀ f w, Calls Tryz.prog 90 #[.int .i64 f, .int .u32 x] w fun e w' => e = .returned (.int .i64 (g f)) ∧ ∃ m, w' = w.drewN m))
    (HM : Hid (∀ k : Nat, 1 ≤ k → k < 63 → ((cx = co0 k ∧ (fmo k ≤ 3 → fx = co1 k) ∧ (fmo k = 0 ∨ shb (wd k) = 5 → u5 = co2 k) ∧ (shb (wd k) = 6 → u6 = co2 k)) ↔ k = o)))
    (HO : Hid (o = 0 ∨ (1 ≤ o ∧ o < 63))) (HR0 : Hid (o = 0 → R = inst 0 0 0 0 0 ∧ b = false)) (HR1 : Hid (o ≠ 0 → R = rdV (fmo o) (shb (wd o)) o d0 d1 d2 s6 g ∧ b = true)) :
    Calls Tryz.prog 60 #[.int .u32 x] w fun e w' => e = .returned (.tuple #[R, .bool b]) ∧ Below w.heap.size w w' := by
  go_enter Tryz.func60, Tryz.ntmps60
  go_wp2_with fail
  refine (HBf.out _).mono ?_
  rintro e W ⟨rfl, mHBf, hW⟩
  rw [hW]
  clear hW W
  go_wp2_with fail
  refine (HB0.out _).mono ?_
  rintro e W ⟨rfl, mHB0, hW⟩
  rw [hW]
  clear hW W
  go_wp2_with fail
  refine (HB1.out _).mono ?_
  rintro e W ⟨rfl, mHB1, hW⟩
  rw [hW]
  clear hW W
  go_wp2_with fail
  refine (HB2.out _).mono ?_
  rintro e W1 ⟨rfl, mB2, hW⟩
  have HB : Hid (Below w.heap.size w W1) := hide (by
    rw [hW]
    exact bel_drew (bel_drew ((Below.refl _ w).alloc (Nat.le_refl _) _) _) _)
  have HZ : Hid (Zer w.heap.size W1) := hide (by
    rw [hW]
    refine ⟨by simp, fun j hj => ?_, fun j => by simp⟩
    rcases (show j = 0 ∨ j = 1 ∨ j = 2 ∨ j = 3 ∨ j = 4 by omega) with rfl | rfl | rfl | rfl | rfl <;> simp)
  clear hW HBf HB0 HB1
  go_wp2
  go_loopw [8] (fun i wr => ∃ k : Nat, 1 ≤ k ∧ k ≤ 63 ∧ i = .int .i64 k ∧ (o = 0 ∨ k ≤ o) ∧ Zer w.heap.size wr ∧ Below w.heap.size w wr) (fun i _ => 63 - (intOf i).toNat)
  case atStart => exact ⟨1, by decide, by decide, rfl, by have := HO.out; omega, HZ.out, HB.out⟩
  case round =>
    clear HZ HB
    obtain ⟨k, hk1, hk, rfl, hko, hz, hbel⟩ := hrel
    have HZ := hide hz
    have HB := hide hbel
    have HKO := hide hko
    clear hz hbel hko
    by_cases hlt : k < 63
    · have hlt' : (k : Int) < 63 := by omega
      have hk1' : 1 ≤ (k : Int) := by omega
      have hC := HC.out k hk1 hlt
      have hF := HF.out k
      have hM := HM.out k hk1 hlt
      have h6 := HS6.out k hlt
      have h5 := HS5.out k hlt
      have bc := rco_bd k (by omega)
      have hfb := rfm_bd k hlt hk1
      have hsb := rshb_bd k hlt hk1
      have hR := HR1.out
      have hRk : k = o → R = rdV (fmo k) (shb (wd k)) k d0 d1 d2 s6 g ∧ b = true := fun h => by subst h; exact hR (by omega)
      clear HC HF HM HS6 HS5 hR
      generalize co0 k = c0 at *
      generalize co1 k = c1 at *
      generalize co2 k = c2 at *
      generalize fmo k = f at *
      generalize shb (wd k) = sh at *
      obtain ⟨bc0, bc1, bc2⟩ := bc
      have HC := hide hC
      have HF := hide hF
      have HM := hide hM
      have HRk := hide hRk
      have HS6 := hide h6
      have HS5 := hide h5
      have HFB := hide hfb
      have HSB := hide hsb
      have NX : Hid (k ≠ o → o = 0 ∨ k + 1 ≤ o) := hide (by have := HKO.out; omega)
      clear hC hF hM hRk h6 h5 hfb hsb HKO
      go_wp2_with fail
      refine (HC.out _).mono ?_
      rintro e W2 ⟨rfl, hB2⟩
      have hz2 := HZ.out.below hB2
      have HB2' : Hid (Below w.heap.size w W2) := hide (HB.out.trans (hB2.mono HB.out.size))
      have hlt2 : w.heap.size < W2.heap.size := hz2.1
      have HZ2 := hide hz2
      clear hB2 hz2 HC HZ HB
      go_wp2_with fail
      refine (HF.out _).mono ?_
      rintro e W ⟨rfl, hW⟩
      rw [hW]
      clear hW W HF
      by_cases hc : cx = c0
      · have hc' : (cx != c0) = false := by simp [hc]
        have HCC := hide hc
        clear hc
        rcases HFB.out with rfl | rfl | rfl | rfl | rfl | rfl
        all_goals clear HFB
        · by_cases hx : fx = c1
          · have hx' : (fx != c1) = false := by simp [hx]
            have HX := hide hx
            clear hx
            have r5 : IntKind.u32.wrap u5 = u5 := by rw [IntKind.wrap_u32]; omega
            by_cases hu : u5 = c2
            · have hu' : (u5 != c2) = false := by simp [hu]
              have hko : k = o := HM.out.1 ⟨HCC.out, fun _ => HX.out, fun _ => hu, fun h => absurd (h.symm.trans (HSB.out.2 (by decide))) (by decide)⟩
              obtain ⟨hr, rfl⟩ := HRk.out hko
              rw [show rdV 0 sh k d0 d1 d2 s6 g = inst k d0 d1 d2 0 by unfold rdV; rw [if_pos rfl]] at hr
              subst hr
              clear hu hko HRk
              go_wp2_with fail
              go_quiet (first | (go_at_call 89; refine Calls.quiet_of (HB5.out _)))
              have q0 := HZ2.out.2.1 0 (by decide)
              have z0 := HZ2.out.2.2 0
              have q1 := HZ2.out.2.1 1 (by decide)
              have z1 := HZ2.out.2.2 1
              have q2 := HZ2.out.2.1 2 (by decide)
              have z2 := HZ2.out.2.2 2
              have q3 := HZ2.out.2.1 3 (by decide)
              have z3 := HZ2.out.2.2 3
              have q4 := HZ2.out.2.1 4 (by decide)
              have z4 := HZ2.out.2.2 4
              have n2 : w.heap.size ≠ W2.heap.size + 1 := by omega
              have n3 : W2.heap.size + 1 ≠ w.heap.size := by omega
              have n4 : w.heap.size < W2.heap.size + 1 := by omega
              go_wp2
              refine bodyPost_ret (v := .tuple #[inst k d0 d1 d2 0, .bool true]) (by simp [results, Tryz.results60, go_sem, inst, q0, q1, q2, q3, q4, z0, z1, z2, z3, z4, n2, n3, n4, hlt2]) rfl ⟨rfl, ?_⟩
              have hb := HB2'.out
              go_grown
              all_goals repeat (refine bel_drew ?_ _; go_grown)
            · have hu' : (u5 != c2) = true := by simp [hu]
              have HU := hide hu
              clear hu
              go_wp2_with fail
              go_quiet (first | (go_at_call 89; refine Calls.quiet_of (HB5.out _)))
              go_wp2
              go_roundw
              case rel =>
                refine ⟨k + 1, by omega, by omega, by go_num, NX.out (fun h => HU.out ((HM.out.2 h).2.2.1 (by simp))), HZ2.out.below ?_, HB2'.out.trans (Below.mono (B := W2.heap.size) ?_ HB2'.out.size)⟩
                all_goals exact bel_drew (((Below.refl _ _).alloc (Nat.le_refl _) _).alloc (by simp) _) _
              case measure => simp [intOf]; omega
          · have hx' : (fx != c1) = true := by simp [hx]
            have HX := hide hx
            clear hx
            go_wp2
            go_roundw
            case rel =>
              refine ⟨k + 1, by omega, by omega, by go_num, NX.out (fun h => HX.out ((HM.out.2 h).2.1 (by decide))), HZ2.out.below ?_, HB2'.out.trans (Below.mono (B := W2.heap.size) ?_ HB2'.out.size)⟩
              all_goals exact (Below.refl _ _).alloc (Nat.le_refl _) _
            case measure => simp [intOf]; omega
        · by_cases hx : fx = c1
          · have hx' : (fx != c1) = false := by simp [hx]
            have HX := hide hx
            clear hx
            rcases HSB.out.1 with rfl | rfl | rfl
            · have HS6 := hide (show ∀ w, Calls Tryz.prog 30 #[.int .i64 k] w fun e w' => e = .returned (.bool false) ∧ w' = w from HS6.out)
              have HS5 := hide (show ∀ w, Calls Tryz.prog 31 #[.int .i64 k] w fun e w' => e = .returned (.bool false) ∧ w' = w from HS5.out)
              have hko : k = o := HM.out.1 ⟨HCC.out, fun _ => HX.out, fun h => absurd h (by decide), fun h => absurd h (by decide)⟩
              obtain ⟨hr, rfl⟩ := HRk.out hko
              rw [show rdV 1 0 k d0 d1 d2 s6 g = inst k d0 d1 0 (g 1) by simp [rdV]] at hr
              subst hr
              clear hko HRk
              go_wp2_with fail
              refine (HG.out 1 _).mono ?_
              rintro e W ⟨rfl, mG, hW⟩
              rw [hW]
              clear hW W
              go_wp2_with fail
              refine (HS6.out _).mono ?_
              rintro e V ⟨rfl, hW⟩
              have cc : V.cell? ⟨W2.heap.size, 2, none⟩ = some (.int .u32 c2) := by rw [hW]; go_simp
              have i0 : V.cell? ⟨W2.heap.size + 1, 0, none⟩ = some (.int .i64 k) := by rw [hW]; go_simp
              have y0 : V.frozen? ⟨W2.heap.size + 1, 0, none⟩ = false := by rw [hW]; go_simp
              have i1 : V.cell? ⟨W2.heap.size + 1, 1, none⟩ = some (.int .i64 d0) := by rw [hW]; go_simp
              have y1 : V.frozen? ⟨W2.heap.size + 1, 1, none⟩ = false := by rw [hW]; go_simp
              have i2 : V.cell? ⟨W2.heap.size + 1, 2, none⟩ = some (.int .i64 d1) := by rw [hW]; go_simp
              have y2 : V.frozen? ⟨W2.heap.size + 1, 2, none⟩ = false := by rw [hW]; go_simp
              have i3 : V.cell? ⟨W2.heap.size + 1, 3, none⟩ = some (.int .i64 0) := by rw [hW]; go_simp
              have y3 : V.frozen? ⟨W2.heap.size + 1, 3, none⟩ = false := by rw [hW]; go_simp
              have i4 : V.cell? ⟨W2.heap.size + 1, 4, none⟩ = some (.int .i64 (g 1)) := by rw [hW]; go_simp
              have y4 : V.frozen? ⟨W2.heap.size + 1, 4, none⟩ = false := by rw [hW]; go_simp
              have HBV : Hid (Below W2.heap.size W2 V) := hide (by
                rw [hW]
                exact (((bel_drew (((Below.refl _ _).alloc (Nat.le_refl _) _).alloc (by simp) _) _).setCell (by simp) _).setCell (by simp) _).setCell (by simp) _)
              have hsz : W2.heap.size + 1 < V.heap.size := World.block_lt_of_cell? _ _ i0
              have HZV := hide (HZ2.out.below HBV.out)
              have HWV : Hid (Below w.heap.size w V) := hide (HB2'.out.trans (HBV.out.mono HB2'.out.size))
              clear hW HZ2 HB2' HBV HG
              generalize hb2 : W2.heap.size + 1 = b2 at *
              generalize hb1 : W2.heap.size = b1 at *
              have n2 : w.heap.size ≠ b2 := by omega
              have n3 : b2 ≠ w.heap.size := by omega
              have n4 : w.heap.size < b2 := by omega
              have n5 : b1 ≠ b2 := by omega
              have n6 : b2 ≠ b1 := by omega
              have n7 : w.heap.size < V.heap.size := by omega
              clear hb2 hb1 hlt2
              go_wp2_with fail
              refine (HS5.out _).mono ?_
              rintro e W ⟨rfl, hW⟩
              rw [hW]
              clear hW W
              have q0 := HZV.out.2.1 0 (by decide)
              have z0 := HZV.out.2.2 0
              have q1 := HZV.out.2.1 1 (by decide)
              have z1 := HZV.out.2.2 1
              have q2 := HZV.out.2.1 2 (by decide)
              have z2 := HZV.out.2.2 2
              have q3 := HZV.out.2.1 3 (by decide)
              have z3 := HZV.out.2.2 3
              have q4 := HZV.out.2.1 4 (by decide)
              have z4 := HZV.out.2.2 4
              clear HZV HM NX HS6 HS5 HB2 HB5 HB6 HBs HO HR0 HR1 HX HCC HSB
              go_wp2
              refine bodyPost_ret (v := .tuple #[inst k d0 d1 0 (g 1), .bool true]) (by simp [results, Tryz.results60, go_sem, inst, q0, q1, q2, q3, q4, z0, z1, z2, z3, z4, n2, n3, n4, n7]) rfl ⟨rfl, ?_⟩
              have hb := HWV.out
              go_grown
              all_goals repeat (refine bel_drew ?_ _; go_grown)
            · have HS6 := hide (show ∀ w, Calls Tryz.prog 30 #[.int .i64 k] w fun e w' => e = .returned (.bool false) ∧ w' = w from HS6.out)
              have HS5 := hide (show ∀ w, Calls Tryz.prog 31 #[.int .i64 k] w fun e w' => e = .returned (.bool true) ∧ w' = w from HS5.out)
              have r5 : IntKind.u32.wrap u5 = u5 := by rw [IntKind.wrap_u32]; omega
              by_cases hu : u5 = c2
              · have hu' : (u5 != c2) = false := by simp [hu]
                have hko : k = o := HM.out.1 ⟨HCC.out, fun _ => HX.out, fun _ => hu, fun h => absurd h (by decide)⟩
                obtain ⟨hr, rfl⟩ := HRk.out hko
                rw [show rdV 1 5 k d0 d1 d2 s6 g = inst k d0 d1 0 d2 by simp [rdV]] at hr
                subst hr
                clear hko HRk
                clear hu
                go_wp2_with fail
                refine (HG.out 1 _).mono ?_
                rintro e W ⟨rfl, mG, hW⟩
                rw [hW]
                clear hW W
                go_wp2_with fail
                refine (HS6.out _).mono ?_
                rintro e V ⟨rfl, hW⟩
                have cc : V.cell? ⟨W2.heap.size, 2, none⟩ = some (.int .u32 c2) := by rw [hW]; go_simp
                have i0 : V.cell? ⟨W2.heap.size + 1, 0, none⟩ = some (.int .i64 k) := by rw [hW]; go_simp
                have y0 : V.frozen? ⟨W2.heap.size + 1, 0, none⟩ = false := by rw [hW]; go_simp
                have i1 : V.cell? ⟨W2.heap.size + 1, 1, none⟩ = some (.int .i64 d0) := by rw [hW]; go_simp
                have y1 : V.frozen? ⟨W2.heap.size + 1, 1, none⟩ = false := by rw [hW]; go_simp
                have i2 : V.cell? ⟨W2.heap.size + 1, 2, none⟩ = some (.int .i64 d1) := by rw [hW]; go_simp
                have y2 : V.frozen? ⟨W2.heap.size + 1, 2, none⟩ = false := by rw [hW]; go_simp
                have i3 : V.cell? ⟨W2.heap.size + 1, 3, none⟩ = some (.int .i64 0) := by rw [hW]; go_simp
                have y3 : V.frozen? ⟨W2.heap.size + 1, 3, none⟩ = false := by rw [hW]; go_simp
                have i4 : V.cell? ⟨W2.heap.size + 1, 4, none⟩ = some (.int .i64 (g 1)) := by rw [hW]; go_simp
                have y4 : V.frozen? ⟨W2.heap.size + 1, 4, none⟩ = false := by rw [hW]; go_simp
                have HBV : Hid (Below W2.heap.size W2 V) := hide (by
                  rw [hW]
                  exact (((bel_drew (((Below.refl _ _).alloc (Nat.le_refl _) _).alloc (by simp) _) _).setCell (by simp) _).setCell (by simp) _).setCell (by simp) _)
                have hsz : W2.heap.size + 1 < V.heap.size := World.block_lt_of_cell? _ _ i0
                have HZV := hide (HZ2.out.below HBV.out)
                have HWV : Hid (Below w.heap.size w V) := hide (HB2'.out.trans (HBV.out.mono HB2'.out.size))
                clear hW HZ2 HB2' HBV HG
                generalize hb2 : W2.heap.size + 1 = b2 at *
                generalize hb1 : W2.heap.size = b1 at *
                have n2 : w.heap.size ≠ b2 := by omega
                have n3 : b2 ≠ w.heap.size := by omega
                have n4 : w.heap.size < b2 := by omega
                have n5 : b1 ≠ b2 := by omega
                have n6 : b2 ≠ b1 := by omega
                have n7 : w.heap.size < V.heap.size := by omega
                clear hb2 hb1 hlt2
                go_wp2_with fail
                refine (HS5.out _).mono ?_
                rintro e W ⟨rfl, hW⟩
                rw [hW]
                clear hW W
                go_wp2_with fail
                go_quiet (first | (go_at_call 89; refine Calls.quiet_of (HB5.out _)))
                go_wp2_with fail
                refine (HB2.out _).mono ?_
                rintro e W ⟨rfl, mS, hW⟩
                rw [hW]
                clear hW W
                have q0 := HZV.out.2.1 0 (by decide)
                have z0 := HZV.out.2.2 0
                have q1 := HZV.out.2.1 1 (by decide)
                have z1 := HZV.out.2.2 1
                have q2 := HZV.out.2.1 2 (by decide)
                have z2 := HZV.out.2.2 2
                have q3 := HZV.out.2.1 3 (by decide)
                have z3 := HZV.out.2.2 3
                have q4 := HZV.out.2.1 4 (by decide)
                have z4 := HZV.out.2.2 4
                clear HZV HM NX HS6 HS5 HB2 HB5 HB6 HBs HO HR0 HR1 HX HCC HSB
                go_wp2
                refine bodyPost_ret (v := .tuple #[inst k d0 d1 0 d2, .bool true]) (by simp [results, Tryz.results60, go_sem, inst, q0, q1, q2, q3, q4, z0, z1, z2, z3, z4, n2, n3, n4, n7]) rfl ⟨rfl, ?_⟩
                have hb := HWV.out
                go_grown
                all_goals repeat (refine bel_drew ?_ _; go_grown)
              · have hu' : (u5 != c2) = true := by simp [hu]
                have HU := hide hu
                clear hu
                go_wp2_with fail
                refine (HG.out 1 _).mono ?_
                rintro e W ⟨rfl, mG, hW⟩
                rw [hW]
                clear hW W
                go_wp2_with fail
                refine (HS6.out _).mono ?_
                rintro e V ⟨rfl, hW⟩
                have cc : V.cell? ⟨W2.heap.size, 2, none⟩ = some (.int .u32 c2) := by rw [hW]; go_simp
                have i0 : V.cell? ⟨W2.heap.size + 1, 0, none⟩ = some (.int .i64 k) := by rw [hW]; go_simp
                have y0 : V.frozen? ⟨W2.heap.size + 1, 0, none⟩ = false := by rw [hW]; go_simp
                have i1 : V.cell? ⟨W2.heap.size + 1, 1, none⟩ = some (.int .i64 d0) := by rw [hW]; go_simp
                have y1 : V.frozen? ⟨W2.heap.size + 1, 1, none⟩ = false := by rw [hW]; go_simp
                have i2 : V.cell? ⟨W2.heap.size + 1, 2, none⟩ = some (.int .i64 d1) := by rw [hW]; go_simp
                have y2 : V.frozen? ⟨W2.heap.size + 1, 2, none⟩ = false := by rw [hW]; go_simp
                have i3 : V.cell? ⟨W2.heap.size + 1, 3, none⟩ = some (.int .i64 0) := by rw [hW]; go_simp
                have y3 : V.frozen? ⟨W2.heap.size + 1, 3, none⟩ = false := by rw [hW]; go_simp
                have i4 : V.cell? ⟨W2.heap.size + 1, 4, none⟩ = some (.int .i64 (g 1)) := by rw [hW]; go_simp
                have y4 : V.frozen? ⟨W2.heap.size + 1, 4, none⟩ = false := by rw [hW]; go_simp
                have HBV : Hid (Below W2.heap.size W2 V) := hide (by
                  rw [hW]
                  exact (((bel_drew (((Below.refl _ _).alloc (Nat.le_refl _) _).alloc (by simp) _) _).setCell (by simp) _).setCell (by simp) _).setCell (by simp) _)
                have hsz : W2.heap.size + 1 < V.heap.size := World.block_lt_of_cell? _ _ i0
                have HZV := hide (HZ2.out.below HBV.out)
                have HWV : Hid (Below w.heap.size w V) := hide (HB2'.out.trans (HBV.out.mono HB2'.out.size))
                clear hW HZ2 HB2' HBV HG
                generalize hb2 : W2.heap.size + 1 = b2 at *
                generalize hb1 : W2.heap.size = b1 at *
                have n2 : w.heap.size ≠ b2 := by omega
                have n3 : b2 ≠ w.heap.size := by omega
                have n4 : w.heap.size < b2 := by omega
                have n5 : b1 ≠ b2 := by omega
                have n6 : b2 ≠ b1 := by omega
                have n7 : w.heap.size < V.heap.size := by omega
                clear hb2 hb1 hlt2
                go_wp2_with fail
                refine (HS5.out _).mono ?_
                rintro e W ⟨rfl, hW⟩
                rw [hW]
                clear hW W
                go_wp2_with fail
                go_quiet (first | (go_at_call 89; refine Calls.quiet_of (HB5.out _)))
                go_wp2
                go_roundw
                case rel =>
                  refine ⟨k + 1, by omega, by omega, by go_num, NX.out (fun h => HU.out ((HM.out.2 h).2.2.1 (by simp))), HZV.out.below ?_, HWV.out.trans (Below.mono (B := V.heap.size) ?_ HWV.out.size)⟩
                  all_goals exact bel_drew (Below.refl _ _) _
                case measure => simp [intOf]; omega
            · have HS6 := hide (show ∀ w, Calls Tryz.prog 30 #[.int .i64 k] w fun e w' => e = .returned (.bool true) ∧ w' = w from HS6.out)
              have HS5 := hide (show ∀ w, Calls Tryz.prog 31 #[.int .i64 k] w fun e w' => e = .returned (.bool false) ∧ w' = w from HS5.out)
              have r5 : IntKind.u32.wrap u6 = u6 := by rw [IntKind.wrap_u32]; omega
              by_cases hu : u6 = c2
              · have hu' : (u6 != c2) = false := by simp [hu]
                have hko : k = o := HM.out.1 ⟨HCC.out, fun _ => HX.out, fun h => absurd h (by decide), fun _ => hu⟩
                obtain ⟨hr, rfl⟩ := HRk.out hko
                rw [show rdV 1 6 k d0 d1 d2 s6 g = inst k d0 d1 0 s6 by simp [rdV]] at hr
                subst hr
                clear hko HRk
                clear hu
                go_wp2_with fail
                refine (HG.out 1 _).mono ?_
                rintro e W ⟨rfl, mG, hW⟩
                rw [hW]
                clear hW W
                go_wp2_with fail
                refine (HS6.out _).mono ?_
                rintro e V ⟨rfl, hW⟩
                have cc : V.cell? ⟨W2.heap.size, 2, none⟩ = some (.int .u32 c2) := by rw [hW]; go_simp
                have i0 : V.cell? ⟨W2.heap.size + 1, 0, none⟩ = some (.int .i64 k) := by rw [hW]; go_simp
                have y0 : V.frozen? ⟨W2.heap.size + 1, 0, none⟩ = false := by rw [hW]; go_simp
                have i1 : V.cell? ⟨W2.heap.size + 1, 1, none⟩ = some (.int .i64 d0) := by rw [hW]; go_simp
                have y1 : V.frozen? ⟨W2.heap.size + 1, 1, none⟩ = false := by rw [hW]; go_simp
                have i2 : V.cell? ⟨W2.heap.size + 1, 2, none⟩ = some (.int .i64 d1) := by rw [hW]; go_simp
                have y2 : V.frozen? ⟨W2.heap.size + 1, 2, none⟩ = false := by rw [hW]; go_simp
                have i3 : V.cell? ⟨W2.heap.size + 1, 3, none⟩ = some (.int .i64 0) := by rw [hW]; go_simp
                have y3 : V.frozen? ⟨W2.heap.size + 1, 3, none⟩ = false := by rw [hW]; go_simp
                have i4 : V.cell? ⟨W2.heap.size + 1, 4, none⟩ = some (.int .i64 (g 1)) := by rw [hW]; go_simp
                have y4 : V.frozen? ⟨W2.heap.size + 1, 4, none⟩ = false := by rw [hW]; go_simp
                have HBV : Hid (Below W2.heap.size W2 V) := hide (by
                  rw [hW]
                  exact (((bel_drew (((Below.refl _ _).alloc (Nat.le_refl _) _).alloc (by simp) _) _).setCell (by simp) _).setCell (by simp) _).setCell (by simp) _)
                have hsz : W2.heap.size + 1 < V.heap.size := World.block_lt_of_cell? _ _ i0
                have HZV := hide (HZ2.out.below HBV.out)
                have HWV : Hid (Below w.heap.size w V) := hide (HB2'.out.trans (HBV.out.mono HB2'.out.size))
                clear hW HZ2 HB2' HBV HG
                generalize hb2 : W2.heap.size + 1 = b2 at *
                generalize hb1 : W2.heap.size = b1 at *
                have n2 : w.heap.size ≠ b2 := by omega
                have n3 : b2 ≠ w.heap.size := by omega
                have n4 : w.heap.size < b2 := by omega
                have n5 : b1 ≠ b2 := by omega
                have n6 : b2 ≠ b1 := by omega
                have n7 : w.heap.size < V.heap.size := by omega
                clear hb2 hb1 hlt2
                go_wp2_with fail
                go_quiet (first | (go_at_call 89; refine Calls.quiet_of (HB6.out _)))
                go_wp2_with fail
                refine (HBs.out _).mono ?_
                rintro e W ⟨rfl, mS, hW⟩
                rw [hW]
                clear hW W
                go_wp2_with fail
                refine (HS5.out _).mono ?_
                rintro e W ⟨rfl, hW⟩
                rw [hW]
                clear hW W
                have q0 := HZV.out.2.1 0 (by decide)
                have z0 := HZV.out.2.2 0
                have q1 := HZV.out.2.1 1 (by decide)
                have z1 := HZV.out.2.2 1
                have q2 := HZV.out.2.1 2 (by decide)
                have z2 := HZV.out.2.2 2
                have q3 := HZV.out.2.1 3 (by decide)
                have z3 := HZV.out.2.2 3
                have q4 := HZV.out.2.1 4 (by decide)
                have z4 := HZV.out.2.2 4
                clear HZV HM NX HS6 HS5 HB2 HB5 HB6 HBs HO HR0 HR1 HX HCC HSB
                go_wp2
                refine bodyPost_ret (v := .tuple #[inst k d0 d1 0 s6, .bool true]) (by simp [results, Tryz.results60, go_sem, inst, q0, q1, q2, q3, q4, z0, z1, z2, z3, z4, n2, n3, n4, n7]) rfl ⟨rfl, ?_⟩
                have hb := HWV.out
                go_grown
                all_goals repeat (refine bel_drew ?_ _; go_grown)
              · have hu' : (u6 != c2) = true := by simp [hu]
                have HU := hide hu
                clear hu
                go_wp2_with fail
                refine (HG.out 1 _).mono ?_
                rintro e W ⟨rfl, mG, hW⟩
                rw [hW]
                clear hW W
                go_wp2_with fail
                refine (HS6.out _).mono ?_
                rintro e V ⟨rfl, hW⟩
                have cc : V.cell? ⟨W2.heap.size, 2, none⟩ = some (.int .u32 c2) := by rw [hW]; go_simp
                have i0 : V.cell? ⟨W2.heap.size + 1, 0, none⟩ = some (.int .i64 k) := by rw [hW]; go_simp
                have y0 : V.frozen? ⟨W2.heap.size + 1, 0, none⟩ = false := by rw [hW]; go_simp
                have i1 : V.cell? ⟨W2.heap.size + 1, 1, none⟩ = some (.int .i64 d0) := by rw [hW]; go_simp
                have y1 : V.frozen? ⟨W2.heap.size + 1, 1, none⟩ = false := by rw [hW]; go_simp
                have i2 : V.cell? ⟨W2.heap.size + 1, 2, none⟩ = some (.int .i64 d1) := by rw [hW]; go_simp
                have y2 : V.frozen? ⟨W2.heap.size + 1, 2, none⟩ = false := by rw [hW]; go_simp
                have i3 : V.cell? ⟨W2.heap.size + 1, 3, none⟩ = some (.int .i64 0) := by rw [hW]; go_simp
                have y3 : V.frozen? ⟨W2.heap.size + 1, 3, none⟩ = false := by rw [hW]; go_simp
                have i4 : V.cell? ⟨W2.heap.size + 1, 4, none⟩ = some (.int .i64 (g 1)) := by rw [hW]; go_simp
                have y4 : V.frozen? ⟨W2.heap.size + 1, 4, none⟩ = false := by rw [hW]; go_simp
                have HBV : Hid (Below W2.heap.size W2 V) := hide (by
                  rw [hW]
                  exact (((bel_drew (((Below.refl _ _).alloc (Nat.le_refl _) _).alloc (by simp) _) _).setCell (by simp) _).setCell (by simp) _).setCell (by simp) _)
                have hsz : W2.heap.size + 1 < V.heap.size := World.block_lt_of_cell? _ _ i0
                have HZV := hide (HZ2.out.below HBV.out)
                have HWV : Hid (Below w.heap.size w V) := hide (HB2'.out.trans (HBV.out.mono HB2'.out.size))
                clear hW HZ2 HB2' HBV HG
                generalize hb2 : W2.heap.size + 1 = b2 at *
                generalize hb1 : W2.heap.size = b1 at *
                have n2 : w.heap.size ≠ b2 := by omega
                have n3 : b2 ≠ w.heap.size := by omega
                have n4 : w.heap.size < b2 := by omega
                have n5 : b1 ≠ b2 := by omega
                have n6 : b2 ≠ b1 := by omega
                have n7 : w.heap.size < V.heap.size := by omega
                clear hb2 hb1 hlt2
                go_wp2_with fail
                go_quiet (first | (go_at_call 89; refine Calls.quiet_of (HB6.out _)))
                go_wp2
                go_roundw
                case rel =>
                  refine ⟨k + 1, by omega, by omega, by go_num, NX.out (fun h => HU.out ((HM.out.2 h).2.2.2 (by simp))), HZV.out.below ?_, HWV.out.trans (Below.mono (B := V.heap.size) ?_ HWV.out.size)⟩
                  all_goals exact bel_drew (Below.refl _ _) _
                case measure => simp [intOf]; omega
          · have hx' : (fx != c1) = true := by simp [hx]
            have HX := hide hx
            clear hx
            go_wp2
            go_roundw
            case rel =>
              refine ⟨k + 1, by omega, by omega, by go_num, NX.out (fun h => HX.out ((HM.out.2 h).2.1 (by decide))), HZ2.out.below ?_, HB2'.out.trans (Below.mono (B := W2.heap.size) ?_ HB2'.out.size)⟩
              all_goals exact (Below.refl _ _).alloc (Nat.le_refl _) _
            case measure => simp [intOf]; omega
        · by_cases hx : fx = c1
          · have hx' : (fx != c1) = false := by simp [hx]
            have HX := hide hx
            clear hx
            have hko : k = o := HM.out.1 ⟨HCC.out, fun h => HX.out, fun h => absurd (HSB.out.2 (by decide)) (fun e => by rw [e] at h; revert h; decide), fun h => absurd (h.symm.trans (HSB.out.2 (by decide))) (by decide)⟩
            obtain ⟨hr, rfl⟩ := HRk.out hko
            rw [show rdV 2 sh k d0 d1 d2 s6 g = inst k 0 d1 d2 (g 2) by simp [rdV]] at hr
            subst hr
            clear hko HRk
            go_wp2_with fail
            refine (HG.out 2 _).mono ?_
            rintro e W ⟨rfl, mG, hW⟩
            rw [hW]
            clear hW W
            have q0 := HZ2.out.2.1 0 (by decide)
            have z0 := HZ2.out.2.2 0
            have q1 := HZ2.out.2.1 1 (by decide)
            have z1 := HZ2.out.2.2 1
            have q2 := HZ2.out.2.1 2 (by decide)
            have z2 := HZ2.out.2.2 2
            have q3 := HZ2.out.2.1 3 (by decide)
            have z3 := HZ2.out.2.2 3
            have q4 := HZ2.out.2.1 4 (by decide)
            have z4 := HZ2.out.2.2 4
            have n2 : w.heap.size ≠ W2.heap.size + 1 := by omega
            have n3 : W2.heap.size + 1 ≠ w.heap.size := by omega
            have n4 : w.heap.size < W2.heap.size + 1 := by omega
            go_wp2
            refine bodyPost_ret (v := .tuple #[inst k 0 d1 d2 (g 2), .bool true]) (by simp [results, Tryz.results60, go_sem, inst, q0, q1, q2, q3, q4, z0, z1, z2, z3, z4, n2, n3, n4, hlt2]) rfl ⟨rfl, ?_⟩
            have hb := HB2'.out
            go_grown
            all_goals repeat (refine bel_drew ?_ _; go_grown)
          · have hx' : (fx != c1) = true := by simp [hx]
            have HX := hide hx
            clear hx
            go_wp2
            go_roundw
            case rel =>
              refine ⟨k + 1, by omega, by omega, by go_num, NX.out (fun h => HX.out ((HM.out.2 h).2.1 (by decide))), HZ2.out.below ?_, HB2'.out.trans (Below.mono (B := W2.heap.size) ?_ HB2'.out.size)⟩
              all_goals exact (Below.refl _ _).alloc (Nat.le_refl _) _
            case measure => simp [intOf]; omega
        · by_cases hx : fx = c1
          · have hx' : (fx != c1) = false := by simp [hx]
            have HX := hide hx
            clear hx
            have hko : k = o := HM.out.1 ⟨HCC.out, fun h => HX.out, fun h => absurd (HSB.out.2 (by decide)) (fun e => by rw [e] at h; revert h; decide), fun h => absurd (h.symm.trans (HSB.out.2 (by decide))) (by decide)⟩
            obtain ⟨hr, rfl⟩ := HRk.out hko
            rw [show rdV 3 sh k d0 d1 d2 s6 g = inst k 0 d1 d2 (g 3) by simp [rdV]] at hr
            subst hr
            clear hko HRk
            go_wp2_with fail
            refine (HG.out 3 _).mono ?_
            rintro e W ⟨rfl, mG, hW⟩
            rw [hW]
            clear hW W
            have q0 := HZ2.out.2.1 0 (by decide)
            have z0 := HZ2.out.2.2 0
            have q1 := HZ2.out.2.1 1 (by decide)
            have z1 := HZ2.out.2.2 1
            have q2 := HZ2.out.2.1 2 (by decide)
            have z2 := HZ2.out.2.2 2
            have q3 := HZ2.out.2.1 3 (by decide)
            have z3 := HZ2.out.2.2 3
            have q4 := HZ2.out.2.1 4 (by decide)
            have z4 := HZ2.out.2.2 4
            have n2 : w.heap.size ≠ W2.heap.size + 1 := by omega
            have n3 : W2.heap.size + 1 ≠ w.heap.size := by omega
            have n4 : w.heap.size < W2.heap.size + 1 := by omega
            go_wp2
            refine bodyPost_ret (v := .tuple #[inst k 0 d1 d2 (g 3), .bool true]) (by simp [results, Tryz.results60, go_sem, inst, q0, q1, q2, q3, q4, z0, z1, z2, z3, z4, n2, n3, n4, hlt2]) rfl ⟨rfl, ?_⟩
            have hb := HB2'.out
            go_grown
            all_goals repeat (refine bel_drew ?_ _; go_grown)
          · have hx' : (fx != c1) = true := by simp [hx]
            have HX := hide hx
            clear hx
            go_wp2
            go_roundw
            case rel =>
              refine ⟨k + 1, by omega, by omega, by go_num, NX.out (fun h => HX.out ((HM.out.2 h).2.1 (by decide))), HZ2.out.below ?_, HB2'.out.trans (Below.mono (B := W2.heap.size) ?_ HB2'.out.size)⟩
              all_goals exact (Below.refl _ _).alloc (Nat.le_refl _) _
            case measure => simp [intOf]; omega
        · have hko : k = o := HM.out.1 ⟨HCC.out, fun h => absurd h (by decide), fun h => absurd (HSB.out.2 (by decide)) (fun e => by rw [e] at h; revert h; decide), fun h => absurd (h.symm.trans (HSB.out.2 (by decide))) (by decide)⟩
          obtain ⟨hr, rfl⟩ := HRk.out hko
          rw [show rdV 4 sh k d0 d1 d2 s6 g = inst k d0 0 0 (g 4) by simp [rdV]] at hr
          subst hr
          clear hko HRk
          go_wp2_with fail
          refine (HG.out 4 _).mono ?_
          rintro e W ⟨rfl, mG, hW⟩
          rw [hW]
          clear hW W
          have q0 := HZ2.out.2.1 0 (by decide)
          have z0 := HZ2.out.2.2 0
          have q1 := HZ2.out.2.1 1 (by decide)
          have z1 := HZ2.out.2.2 1
          have q2 := HZ2.out.2.1 2 (by decide)
          have z2 := HZ2.out.2.2 2
          have q3 := HZ2.out.2.1 3 (by decide)
          have z3 := HZ2.out.2.2 3
          have q4 := HZ2.out.2.1 4 (by decide)
          have z4 := HZ2.out.2.2 4
          have n2 : w.heap.size ≠ W2.heap.size + 1 := by omega
          have n3 : W2.heap.size + 1 ≠ w.heap.size := by omega
          have n4 : w.heap.size < W2.heap.size + 1 := by omega
          go_wp2
          refine bodyPost_ret (v := .tuple #[inst k d0 0 0 (g 4), .bool true]) (by simp [results, Tryz.results60, go_sem, inst, q0, q1, q2, q3, q4, z0, z1, z2, z3, z4, n2, n3, n4, hlt2]) rfl ⟨rfl, ?_⟩
          have hb := HB2'.out
          go_grown
          all_goals repeat (refine bel_drew ?_ _; go_grown)
        · have hko : k = o := HM.out.1 ⟨HCC.out, fun h => absurd h (by decide), fun h => absurd (HSB.out.2 (by decide)) (fun e => by rw [e] at h; revert h; decide), fun h => absurd (h.symm.trans (HSB.out.2 (by decide))) (by decide)⟩
          obtain ⟨hr, rfl⟩ := HRk.out hko
          rw [show rdV 5 sh k d0 d1 d2 s6 g = inst k d0 0 0 (g 5) by simp [rdV]] at hr
          subst hr
          clear hko HRk
          go_wp2_with fail
          refine (HG.out 5 _).mono ?_
          rintro e W ⟨rfl, mG, hW⟩
          rw [hW]
          clear hW W
          have q0 := HZ2.out.2.1 0 (by decide)
          have z0 := HZ2.out.2.2 0
          have q1 := HZ2.out.2.1 1 (by decide)
          have z1 := HZ2.out.2.2 1
          have q2 := HZ2.out.2.1 2 (by decide)
          have z2 := HZ2.out.2.2 2
          have q3 := HZ2.out.2.1 3 (by decide)
          have z3 := HZ2.out.2.2 3
          have q4 := HZ2.out.2.1 4 (by decide)
          have z4 := HZ2.out.2.2 4
          have n2 : w.heap.size ≠ W2.heap.size + 1 := by omega
          have n3 : W2.heap.size + 1 ≠ w.heap.size := by omega
          have n4 : w.heap.size < W2.heap.size + 1 := by omega
          go_wp2
          refine bodyPost_ret (v := .tuple #[inst k d0 0 0 (g 5), .bool true]) (by simp [results, Tryz.results60, go_sem, inst, q0, q1, q2, q3, q4, z0, z1, z2, z3, z4, n2, n3, n4, hlt2]) rfl ⟨rfl, ?_⟩
          have hb := HB2'.out
          go_grown
          all_goals repeat (refine bel_drew ?_ _; go_grown)

      · have hc' : (cx != c0) = true := by simp [hc]
        have HCC := hide hc
        clear hc
        go_wp2
        go_roundw
        case rel =>
          refine ⟨k + 1, by omega, by omega, by go_num, NX.out (fun h => HCC.out (HM.out.2 h).1), HZ2.out.below ((Below.refl _ _).alloc (Nat.le_refl _) _), HB2'.out.alloc HB2'.out.size _⟩
        case measure => simp [intOf]; omega
    · have : k = 63 := by omega
      subst this
      have ho : o = 0 := by have := HO.out; have := HKO.out; omega
      obtain ⟨hr, rfl⟩ := HR0.out ho
      subst hr
      have q0 := HZ.out.2.1 0 (by decide)
      have q1 := HZ.out.2.1 1 (by decide)
      have q2 := HZ.out.2.1 2 (by decide)
      have q3 := HZ.out.2.1 3 (by decide)
      have q4 := HZ.out.2.1 4 (by decide)
      have z0 := HZ.out.2.2 0
      have z1 := HZ.out.2.2 1
      have z2 := HZ.out.2.2 2
      have z3 := HZ.out.2.2 3
      have z4 := HZ.out.2.2 4
      clear HR0 HR1 HM HKO
      go_wp2
      refine bodyPost_ret (v := .tuple #[inst 0 0 0 0 0, .bool false]) (by simp [results, Tryz.results60, go_sem, inst, q0, q1, q2, q3, q4, z0, z1, z2, z3, z4]) rfl ⟨rfl, ?_⟩
      have hb := HB.out
      go_grown

end Go.Proofs.YtgjfelkbblbjfaaGreatDoor
