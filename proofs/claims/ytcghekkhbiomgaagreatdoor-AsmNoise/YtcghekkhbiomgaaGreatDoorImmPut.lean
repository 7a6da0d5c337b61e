/- Contracts of imm.Fits, Put, Hi, Lo, over those of Get and spread. -/
import Derived.Test.YtcghekkhbiomgaaGreatDoorImm
namespace Go.Proofs.YtcghekkhbiomgaaGreatDoor
open Go.RowKit
set_option linter.unusedVariables false
set_option maxRecDepth 100000
set_option linter.unusedSimpArgs false

theorem fm_le (f : Int) : fmOf f ≤ 4294967295 := by unfold fmOf; split <;> (try split) <;> (try split) <;> (try split) <;> (try split) <;> omega

theorem spr_ones (f : Int) : sprOf f 4294967295 = fmOf f := by
  refine forms (fun f => sprOf f 4294967295 = fmOf f) rfl rfl rfl rfl rfl ?_ f
  intro f e1 e2 e3 e4 e5
  simp [sprOf, fmOf, e1, e2, e3, e4, e5]

theorem spr_mod (f v : Int) : sprOf f (v % 4294967296) = sprOf f v := by
  refine forms (fun f => sprOf f (v % 4294967296) = sprOf f v) ?_ ?_ ?_ ?_ ?_ ?_ f
  case refine_6 => intro f e1 e2 e3 e4 e5; simp [sprOf, e1, e2, e3, e4, e5]
  case refine_1 =>
    have a1 : v % 4294967296 % 4096 = v % 4096 := by omega
    simp [sprOf, fld, a1]
  case refine_2 =>
    have a1 : v % 4294967296 / 32 % 128 = v / 32 % 128 := by omega
    have a2 : v % 4294967296 % 32 = v % 32 := by omega
    simp [sprOf, fld, a1, a2]
  case refine_3 =>
    have a1 : v % 4294967296 / 4096 % 2 = v / 4096 % 2 := by omega
    have a2 : v % 4294967296 / 2048 % 2 = v / 2048 % 2 := by omega
    have a3 : v % 4294967296 / 32 % 64 = v / 32 % 64 := by omega
    have a4 : v % 4294967296 / 2 % 16 = v / 2 % 16 := by omega
    simp [sprOf, fld, a1, a2, a3, a4]
  case refine_4 =>
    have a1 : v % 4294967296 % 1048576 = v % 1048576 := by omega
    simp [sprOf, fld, a1]
  case refine_5 =>
    have a1 : v % 4294967296 / 1048576 % 2 = v / 1048576 % 2 := by omega
    have a2 : v % 4294967296 / 4096 % 256 = v / 4096 % 256 := by omega
    have a3 : v % 4294967296 / 2048 % 2 = v / 2048 % 2 := by omega
    have a4 : v % 4294967296 / 2 % 1024 = v / 2 % 1024 := by omega
    simp [sprOf, fld, a1, a2, a3, a4]

theorem spr_lies (f v : Int) : Lies (sprOf f v) (fmOf f) := by
  refine forms (fun f => Lies (sprOf f v) (fmOf f)) ?_ ?_ ?_ ?_ ?_ ?_ f
  case refine_6 => intro f e1 e2 e3 e4 e5; simp [sprOf, fmOf, Lies, e1, e2, e3, e4, e5]
  case refine_1 => exact fld_lies v 0 12 20
  case refine_2 => exact (fld_lies v 5 7 25).add (fld_lies v 0 5 7) (by decide)
  case refine_3 => exact (((fld_lies v 12 1 31).add (fld_lies v 11 1 7) (by decide)).add (fld_lies v 5 6 25) (by decide)).add (fld_lies v 1 4 8) (by decide)
  case refine_4 => exact fld_lies v 0 20 12
  case refine_5 => exact (((fld_lies v 20 1 31).add (fld_lies v 12 8 12) (by decide)).add (fld_lies v 11 1 20) (by decide)).add (fld_lies v 1 10 21) (by decide)

/-- The parts that a mask of several fields takes. -/
theorem take_one (x : Nat) (n t : Nat) : ((x &&& ((2 ^ n - 1) * 2 ^ t) : Nat) : Int) = fld x t n t := by
  rw [and_field, fld_nat]
theorem take_two (x m1 m2 : Nat) (h : m1 &&& m2 = 0) : ((x &&& (m1 ||| m2) : Nat) : Int) = ((x &&& m1 : Nat) : Int) + ((x &&& m2 : Nat) : Int) := by
  rw [Nat.and_or_distrib_left, or_of_and]
  · simp
  · rw [Nat.and_comm x m1, Nat.and_assoc, ← Nat.and_assoc x, Nat.and_self, Nat.and_comm x m2, ← Nat.and_assoc, h, Nat.zero_and]

theorem msk_take (f : Int) (x : Nat) : ((x &&& fmOf f : Nat) : Int) = mskOf f x := by
  refine forms (fun f => ((x &&& fmOf f : Nat) : Int) = mskOf f x) ?_ ?_ ?_ ?_ ?_ ?_ f
  case refine_6 => intro f e1 e2 e3 e4 e5; simp [mskOf, fmOf, e1, e2, e3, e4, e5]
  case refine_1 => exact take_one x 12 20
  case refine_2 =>
    have e : fmOf 2 = ((2 ^ 7 - 1) * 2 ^ 25) ||| ((2 ^ 5 - 1) * 2 ^ 7) := by decide
    rw [e, take_two _ _ _ (by decide), take_one, take_one]; rfl
  case refine_3 =>
    have e : fmOf 3 = ((((2 ^ 1 - 1) * 2 ^ 31) ||| ((2 ^ 1 - 1) * 2 ^ 7)) ||| ((2 ^ 6 - 1) * 2 ^ 25)) ||| ((2 ^ 4 - 1) * 2 ^ 8) := by decide
    rw [e, take_two _ _ _ (by decide), take_two _ _ _ (by decide), take_two _ _ _ (by decide), take_one, take_one, take_one, take_one]; rfl
  case refine_4 => exact take_one x 20 12
  case refine_5 =>
    have e : fmOf 5 = ((((2 ^ 1 - 1) * 2 ^ 31) ||| ((2 ^ 8 - 1) * 2 ^ 12)) ||| ((2 ^ 1 - 1) * 2 ^ 20)) ||| ((2 ^ 10 - 1) * 2 ^ 21) := by decide
    rw [e, take_two _ _ _ (by decide), take_two _ _ _ (by decide), take_two _ _ _ (by decide), take_one, take_one, take_one, take_one]; rfl

theorem fm_apart (f : Int) : (4294967295 - fmOf f) &&& fmOf f = 0 := by
  refine forms (fun f => (4294967295 - fmOf f) &&& fmOf f = 0) (by decide) (by decide) (by decide) (by decide) (by decide) ?_ f
  intro f e1 e2 e3 e4 e5
  simp [fmOf, e1, e2, e3, e4, e5]

theorem left_val (f x : Int) (h0 : 0 ≤ x) (h1 : x ≤ 4294967295) : bits .andNot .u32 x (fmOf f) = x - mskOf f x := by
  rw [not_and x (fmOf f) h0 h1 (fm_le f), msk_take f x.toNat, Int.toNat_of_nonneg h0]

theorem set_val (f x v : Int) (h0 : 0 ≤ x) (h1 : x ≤ 4294967295) : bits .or .u32 (bits .andNot .u32 x (fmOf f)) (sprOf f v) = setOf f x v := by
  have hl := fm_le f
  have hn := not_lies x (fmOf f) hl
  rw [hn.or (spr_lies f v) (fm_apart f) (by omega) (by omega), left_val f x h0 h1]
  rfl

theorem set_bd (f x v : Int) (h0 : 0 ≤ x) (h1 : x ≤ 4294967295) : 0 ≤ setOf f x v ∧ setOf f x v ≤ 4294967295 := by
  rw [← set_val f x v h0 h1]
  exact bits_bd ..
theorem put_bd (f x v : Int) (h0 : 0 ≤ x) (h1 : x ≤ 4294967295) : 0 ≤ putOf f x v ∧ putOf f x v ≤ 4294967295 := by
  have := set_bd f x v h0 h1
  unfold putOf; split <;> omega

theorem fits_any (f v : Int) (w : World) (v0 : -9223372036854775808 ≤ v) (v1 : v ≤ 9223372036854775807) :
    Calls Tryz.prog 93 #[.int .i64 f, .int .i64 v] w fun e w' => e = .returned (.bool (fitsOf f v)) ∧ w' = w := by
  have hs := spread_any f (v % 4294967296) w (by omega) (by omega)
  rw [spr_mod] at hs
  obtain ⟨s0, s1⟩ := spr_bd f v
  have hg := get_any f (sprOf f v) w s0 s1
  have E := hide (fits_spr f v)
  obtain ⟨g0, g1⟩ := get_bd f (sprOf f v)
  generalize getOf f (sprOf f v) = g at *
  generalize sprOf f v = s at *
  generalize fitsOf f v = q at *
  have HS := hide hs
  have HG := hide hg
  clear hs hg
  go_enter Tryz.func93, Tryz.ntmps93
  go_wp2_with fail
  refine HS.out.mono ?_
  rintro e W ⟨rfl, hW⟩
  rw [hW]
  clear hW W
  go_wp2_with fail
  refine HG.out.mono ?_
  rintro e W ⟨rfl, hW⟩
  rw [hW]
  clear hW W
  go_wp2
  go_ret
  exact ⟨ret_bool E.out, rfl⟩

theorem put_any (f x v : Int) (w : World) (h0 : 0 ≤ x) (h1 : x ≤ 4294967295) (v0 : -9223372036854775808 ≤ v) (v1 : v ≤ 9223372036854775807) :
    Calls Tryz.prog 72 #[.int .i64 f, .int .u32 x, .int .i64 v] w fun e w' => e = .returned (.tuple #[.int .u32 (putOf f x v), .bool (fitsOf f v)]) ∧ w' = w := by
  have hf := fits_any f v w v0 v1
  have hm := spread_any f 4294967295 w (by decide) (by decide)
  rw [spr_ones] at hm
  have hs := spread_any f (v % 4294967296) w (by omega) (by omega)
  rw [spr_mod] at hs
  have E : putOf f x v = if fitsOf f v = true then setOf f x v else 0 := rfl
  rw [E, ← set_val f x v h0 h1]
  obtain ⟨s0, s1⟩ := spr_bd f v
  have m1 := fm_le f
  clear E
  generalize sprOf f v = s at *
  generalize fmOf f = m at *
  generalize fitsOf f v = q at *
  have HF := hide hf
  have HM := hide hm
  have HS := hide hs
  clear hf hm hs
  cases q
  · go_enter Tryz.func72, Tryz.ntmps72
    go_wp2_with fail
    refine HF.out.mono ?_
    rintro e W ⟨rfl, hW⟩
    rw [hW]
    clear hW W
    go_wp2
    go_ret2
    exact ⟨rfl, rfl⟩
  · go_enter Tryz.func72, Tryz.ntmps72
    go_wp2_with fail
    refine HF.out.mono ?_
    rintro e W ⟨rfl, hW⟩
    rw [hW]
    clear hW W
    go_wp2_with fail
    refine HM.out.mono ?_
    rintro e W ⟨rfl, hW⟩
    rw [hW]
    clear hW W
    go_wp2_with fail
    refine HS.out.mono ?_
    rintro e W ⟨rfl, hW⟩
    rw [hW]
    clear hW W
    go_wp2
    go_ret2
    exact ⟨rfl, rfl⟩



theorem sign_mod (v : Int) : signOf (v % 18446744073709551616) 12 = loOf v := by
  have e : ∀ x, signOf x 12 = sgn 12 x := fun x => rfl
  unfold loOf
  rw [e, e, sgn12, sgn12]; omega



end Go.Proofs.YtcghekkhbiomgaaGreatDoor
