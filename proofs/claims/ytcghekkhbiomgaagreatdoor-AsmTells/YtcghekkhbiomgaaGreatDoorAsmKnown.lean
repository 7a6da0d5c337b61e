/- The statements' example, known, is true. -/
import Derived.Test.YtcghekkhbiomgaaGreatDoorAsmDmp
import Derived.Test.YtcghekkhbiomgaaGreatDoorAsmRefP0
namespace Go.Proofs.YtcghekkhbiomgaaGreatDoor
open Go.RowKit
set_option linter.unusedVariables false
set_option maxRecDepth 100000
set_option linter.unusedSimpArgs false

def lwL : List UInt8 := [108, 119, 32, 120, 53, 44, 32, 45, 52, 40, 120, 50, 41]
def lwB : List UInt8 := [108, 119, 32, 120, 53, 44, 32, 45, 52, 32, 40, 120, 50, 41]
def lnsL : List UInt8 := [101, 99, 97, 108, 108, 10, 35, 32, 120, 10, 32, 97, 100, 100, 105, 32, 120, 49, 44, 32, 120, 50, 44, 32, 51, 32, 10]
def ecL : List UInt8 := [101, 99, 97, 108, 108]
def adL : List UInt8 := [97, 100, 100, 105, 32, 120, 49, 44, 32, 120, 50, 44, 32, 51]

theorem it1 : Lib.itoa 1 = [49] := itoa_one (u := 1) (by decide)
theorem it2 : Lib.itoa 2 = [50] := itoa_one (u := 2) (by decide)
theorem it3 : Lib.itoa 3 = [51] := itoa_one (u := 3) (by decide)
theorem it5 : Lib.itoa 5 = [53] := itoa_one (u := 5) (by decide)
theorem it4 : Lib.itoa (-4) = [45, 52] := by
  have := itoa_minus (u := 4) (by decide)
  rw [itoa_one (u := 4) (by decide)] at this
  exact this
theorem pat13 : pat 13 = [120, 68, 44, 32, 73, 40, 120, 83, 41] := by decide +kernel
theorem pat22 : pat 22 = [120, 68, 44, 32, 120, 83, 44, 32, 73] := by decide +kernel
theorem pat64 : pat 64 = [] := by decide +kernel
theorem tx13 : tx 13 ⟨5, 2, 0, -4⟩ = lwL := by
  unfold tx
  rw [if_pos (by decide +kernel), pat13, if_neg (by simp), show nml 13 = [108, 119] by decide +kernel]
  simp [fil, fch, it5, it2, it4, lwL]
theorem tx22 : tx 22 ⟨1, 2, 0, 3⟩ = adL := by
  unfold tx
  rw [if_pos (by decide +kernel), pat22, if_neg (by simp), show nml 22 = [97, 100, 100, 105] by decide +kernel]
  simp [fil, fch, it1, it2, it3, adL]
theorem tx64 : tx 64 ⟨0, 0, 0, 0⟩ = ecL := by
  unfold tx
  rw [if_pos (by decide +kernel), pat64, if_pos rfl, show nml 64 = ecL by decide +kernel]
  rfl
theorem prs13 : prsA lwL = some (13, ⟨5, 2, 0, -4⟩) := by
  rw [← tx13]
  exact prsA_of (k := 13) (by decide) (by decide) ⟨fun h => absurd h (by decide +kernel), fun h => absurd h (by decide +kernel), fun _ => rfl, fun h => absurd h (by decide +kernel)⟩ (by decide +kernel)
theorem prs22 : prsA adL = some (22, ⟨1, 2, 0, 3⟩) := by
  rw [← tx22]
  exact prsA_of (k := 22) (by decide) (by decide) ⟨fun h => absurd h (by decide +kernel), fun h => absurd h (by decide +kernel), fun _ => rfl, fun h => absurd h (by decide +kernel)⟩ (by decide +kernel)
theorem prs64 : prsA ecL = some (64, ⟨0, 0, 0, 0⟩) := by
  rw [← tx64]
  exact prsA_of (k := 64) (by decide) (by decide) ⟨fun _ => rfl, fun _ => rfl, fun _ => rfl, fun _ => rfl⟩ (by decide +kernel)
theorem prs_bad : prsA lwB = none := by
  unfold prsA
  rw [show fnd (hdB 32 lwB) = some 13 by decide +kernel]
  have : (rdn (pat (13 : Nat)) (tlB 32 lwB) ⟨0, 0, 0, 0⟩).isNone = true := by decide +kernel
  rw [Option.isNone_iff_eq_none] at this
  simp only [this]
theorem lnG_some {f n : Nat} {l t : List UInt8} {ws : List Int} {k : Nat} {m : Ns} (hl : l ≠ []) (ht : lnT l = t) (h1 : ¬ (t = [] ∨ t.head? = some 35)) (hp : prsA t = some (k, m)) :
    lnG (f + 1) n l ws = lnG f (n + 1) (tlB 10 l) (ws ++ [encW k m.d m.s m.t m.i]) := by
  rw [lnG, if_neg hl, ht, if_neg h1, hp]
theorem lnG_skip {f n : Nat} {l : List UInt8} {ws : List Int} (hl : l ≠ []) (h1 : lnT l = [] ∨ (lnT l).head? = some 35) : lnG (f + 1) n l ws = lnG f (n + 1) (tlB 10 l) ws := by
  rw [lnG, if_neg hl, if_pos h1]
theorem lns_ex : ∃ a b, lns lnsL = ([a, b], 0) := by
  refine ⟨encW 64 0 0 0 0, encW 22 1 2 0 3, ?_⟩
  unfold lns
  rw [show lnsL.length = 24 + 3 from rfl, lnG_some (t := ecL) (by decide) (by decide +kernel) (by decide) prs64]
  rw [lnG_skip (by decide +kernel) (by right; decide +kernel)]
  rw [lnG_some (t := adL) (by decide +kernel) (by decide +kernel) (by decide) prs22]
  rw [show tlB 10 (tlB 10 (tlB 10 lnsL)) = [] by decide +kernel, lnG_nil]
  rfl
theorem opx115 : opx 115 = 64 := by decide +kernel
theorem dec115 : decN 115 = some (64, ⟨0, 0, 0, 0⟩) := by
  unfold decN
  rw [opx115, if_neg (by decide)]
  have e1 : rdO (fmo (64 : Nat)) 115 = 0 := by decide +kernel
  have e2 : r1O (fmo (64 : Nat)) 115 = 0 := by decide +kernel
  have e3 : r2O (fmo (64 : Nat)) 115 = 0 := by decide +kernel
  have e4 : imO (fmo (64 : Nat)) 115 = 0 := by decide +kernel
  rw [e1, e2, e3, e4]
theorem dmp_ex : dmp [115, 0, 0, 0, 1] = ecL ++ [10] := by
  rw [dmp_cons, show wrd 115 0 0 0 = 115 by decide, show dtx 115 = tx 64 ⟨0, 0, 0, 0⟩ by unfold dtx; rw [dec115]; rfl, tx64]
  rfl

set_option maxHeartbeats 12800000 in
theorem known_any5 (w : World) (hL : LaidA w) :
    Calls Tryz.prog 8 #[] w fun e w' => e = .returned (.bool true) ∧ Below w.heap.size w w' := by
  have HP1 := hide (fun w h => parse_any lwL w (by decide) h)
  have HP2 := hide (fun w h => parse_any lwB w (by decide) h)
  have HLi := hide (fun w h => lines_any lnsL w (by decide) h)
  obtain ⟨wa, wb, hln⟩ := lns_ex
  rw [prs13] at HP1
  rw [prs_bad] at HP2
  rw [hln] at HLi
  have HTx := hide (fun w h => text_any 13 ⟨5, 2, 0, -4⟩ w ⟨by decide, by decide, by decide, by decide⟩ h)
  rw [tx13] at HTx
  have HDm := hide (fun a len cap w r h => dump_any a len cap [115, 0, 0, 0, 1] w r h)
  rw [dmp_ex] at HDm
  have HL := hide hL
  unfold prsV inst at HP1 HP2
  unfold inst at HTx
  unfold lwL at HP1 HTx
  unfold lwB at HP2
  unfold lnsL at HLi
  unfold ecL at HDm
  clear hL hln
  go_enter Tryz.func8, Tryz.ntmps8
  go_wp2_with fail
  refine (HP1.out _ HL.out).mono ?_
  rintro e W1 ⟨rfl, b1⟩
  have HL1 := hide (HL.out.then b1)
  have HB1 := hide b1
  have z1 := b1.size
  clear b1 HP1
  go_wp2_with fail
  refine (HP2.out _ (HL1.out.alloc _)).mono ?_
  rintro e W2 ⟨rfl, b2⟩
  have c2 := (cel_alloc W1 13 5 2 0 (-4)).below b2 (by simp)
  have HL2 := hide ((HL1.out.alloc _).then b2)
  have HB2 := hide ((HB1.out.alloc z1 _).trans (b2.mono (by simp; omega)))
  have z2 := b2.size
  rw [size_alloc] at z2
  have HC2 := hide c2
  clear b2 c2 HP2 HL1 HB1
  go_wp2_with fail
  refine (HLi.out _ (HL2.out.alloc _)).mono ?_
  rintro e W3 ⟨v3, rfl, r3, b3⟩
  obtain ⟨a3, cap3, rfl⟩ := own_sl r3
  have c3 := (HC2.out.below ((Below.refl _ W2).alloc (Nat.le_refl _) _) (by omega)).below b3 (by simp; omega)
  have HL3 := hide ((HL2.out.alloc _).then b3)
  have HB3 := hide ((HB2.out.alloc (by omega) _).trans (b3.mono (by simp; omega)))
  have z3 := b3.size
  rw [size_alloc] at z3
  obtain ⟨q0, q1, q2, q3, q4, zz⟩ := c3
  clear b3 r3 zz HLi HL2 HB2 HC2
  go_wp2_with (go_at_call 9; refine (HTx.out _ HL3.out).mono ?_; rintro e W4 ⟨rfl, b4⟩; refine Hid.out ?_)
  refine Lib.hid ?_
  have HL4 := hide (HL3.out.then b4)
  have HB4 := hide (HB3.out.trans (b4.mono (by omega)))
  have z4 := b4.size
  clear b4 HTx HL3 HB3 q0 q1 q2 q3 q4
  go_wp2_with fail
  refine (HDm.out _ 5 5 _ (Rn.lit .u8 255 5 W4 [115, 0, 0, 0, 1] (by decide) (by decide) (by decide)) (by decide) (HL4.out.alloc _)).mono ?_
  rintro e W5 ⟨rfl, b5⟩
  have HB5 := hide ((HB4.out.alloc (by omega) _).trans (b5.mono (by simp; omega)))
  clear b5 HDm HL4 HB4
  go_wp2
  go_ret
  exact ⟨rfl, HB5.out⟩

end Go.Proofs.YtcghekkhbiomgaaGreatDoor
