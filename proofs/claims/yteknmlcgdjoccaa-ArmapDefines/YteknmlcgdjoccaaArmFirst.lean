/- A number of four bytes read, the highest first: contracts of armap.first and of the document's big. -/
import Derived.Test.YteknmlcgdjoccaaBts
import Derived.Deep.QuietTactic
import Derived.BigQuiet
import Derived.Deep.DeepCutAuto
import Derived.Lib.EndianBits
namespace Go.Proofs.Yteknmlcgdjoccaa
open Go.RowKit
set_option linter.unusedVariables false
set_option maxRecDepth 20000
set_option linter.unusedSimpArgs false

/-- The number that bytes begin with, the highest byte first. -/
def nb4 (l : T8) : Nat := (l.getD 0 0).toNat * 16777216 + (l.getD 1 0).toNat * 65536 + (l.getD 2 0).toNat * 256 + (l.getD 3 0).toNat
theorem nb4_lt (l : T8) : nb4 l < 4294967296 := by
  unfold nb4
  have h0 := (l.getD 0 0).toNat_lt
  have h1 := (l.getD 1 0).toNat_lt
  have h2 := (l.getD 2 0).toNat_lt
  have h3 := (l.getD 3 0).toNat_lt
  omega
theorem Rt.addr {w : World} {a : Option Addr} {c : Nat} {l : T8} (r : Rt w a c l) (h : 0 < l.length) : ∃ b o, a = some ⟨b, o, none⟩ ∧ ∀ i, i < l.length → w.cell? ⟨b, o + i, none⟩ = some (.int .u8 (((l.getD i 0).toNat : Nat) : Int)) := by
  obtain ⟨b, o, h1, h2⟩ := Rd.addr r h
  refine ⟨b, o, h1, fun i hi => ?_⟩
  rw [h2 i hi]
  simp [nI, List.getD, hi]

theorem or4 (k : IntKind) (j : Nat) (hj : j ≤ k.bits) (hk : ∀ n : Int, 0 ≤ n → n < 2 ^ j → k.wrap n = n) (h32 : (2 : Int) ^ j ≥ 4294967296) (y0 y1 y2 y3 : Nat) (h0 : y0 < 256) (h1 : y1 < 256) (h2 : y2 < 256) (h3 : y3 < 256) :
    bits .or k (bits .or k (bits .or k ((y0 : Int) * 16777216) ((y1 : Int) * 65536)) ((y2 : Int) * 256)) (y3 : Int) = ((y0 * 16777216 + y1 * 65536 + y2 * 256 + y3 : Nat) : Int) := by
  have p24 : (2 : Int) ^ 24 = 16777216 := by decide
  have p16 : (2 : Int) ^ 16 = 65536 := by decide
  have p8 : (2 : Int) ^ 8 = 256 := by decide
  rw [bits_join k j hj hk 24 ((y0 : Int) * 16777216) ((y1 : Int) * 65536) (by omega) (by rw [p24]; omega) (by omega) (by omega) (by rw [p24]; omega) (by omega)]
  rw [bits_join k j hj hk 16 ((y0 : Int) * 16777216 + (y1 : Int) * 65536) ((y2 : Int) * 256) (by omega) (by rw [p16]; omega) (by omega) (by omega) (by rw [p16]; omega) (by omega)]
  rw [bits_join k j hj hk 8 ((y0 : Int) * 16777216 + (y1 : Int) * 65536 + (y2 : Int) * 256) (y3 : Int) (by omega) (by rw [p8]; omega) (by omega) (by omega) (by rw [p8]; omega) (by omega)]
  omega
theorem wraps_i64 (n : Int) (h₀ : 0 ≤ n) (h₁ : n < 2 ^ 63) : IntKind.i64.wrap n = n := by
  have p : (2 : Int) ^ 63 = 9223372036854775808 := by decide
  rw [p] at h₁
  simp [IntKind.wrap, IntKind.bits, IntKind.signed]
  omega

set_option maxHeartbeats 3200000 in
theorem first_any (a : Option Addr) (cap : Nat) (l : T8) (w : World) (r : Rt w a cap l) (h4 : 4 ≤ l.length) :
    Calls Try.prog 16 #[.slice a l.length cap] w fun e w' => e = .returned (.int .u32 (nb4 l : Int)) ∧ ∃ q, w' = w.drewN q := by
  have hle := r.le
  have hmx := r.max
  obtain ⟨b, o, rfl, hc⟩ := Rt.addr r (by omega)
  have c0 := hc 0 (by omega)
  have c1 := hc 1 (by omega)
  have c2 := hc 2 (by omega)
  have c3 := hc 3 (by omega)
  have b0 := (l.getD 0 0).toNat_lt
  have b1 := (l.getD 1 0).toNat_lt
  have b2 := (l.getD 2 0).toNat_lt
  have b3 := (l.getD 3 0).toNat_lt
  unfold nb4
  generalize (l.getD 0 0).toNat = y0 at *
  generalize (l.getD 1 0).toNat = y1 at *
  generalize (l.getD 2 0).toNat = y2 at *
  generalize (l.getD 3 0).toNat = y3 at *
  generalize l.length = len at *
  rw [Nat.add_zero] at c0
  clear hc r
  go_enter Try.func16, Try.ntmps16
  go_upto_region 1 with fail
  go_quiet (fail)
  go_wp2
  go_ret
  exact ⟨ret_int (or4 .u32 32 (by decide) wraps_u32 (by decide) y0 y1 y2 y3 b0 b1 b2 b3), _, rfl⟩

set_option maxHeartbeats 3200000 in
theorem big_any (a : Option Addr) (cap : Nat) (l : T8) (w : World) (r : Rt w a cap l) (h4 : 4 ≤ l.length) :
    Calls Try.prog 18 #[.slice a l.length cap, .int .i64 0] w fun e w' => e = .returned (.int .i64 (nb4 l : Int)) ∧ ∃ q, w' = w.drewN q := by
  have hle := r.le
  have hmx := r.max
  obtain ⟨b, o, rfl, hc⟩ := Rt.addr r (by omega)
  have c0 := hc 0 (by omega)
  have c1 := hc 1 (by omega)
  have c2 := hc 2 (by omega)
  have c3 := hc 3 (by omega)
  have b0 := (l.getD 0 0).toNat_lt
  have b1 := (l.getD 1 0).toNat_lt
  have b2 := (l.getD 2 0).toNat_lt
  have b3 := (l.getD 3 0).toNat_lt
  unfold nb4
  generalize (l.getD 0 0).toNat = y0 at *
  generalize (l.getD 1 0).toNat = y1 at *
  generalize (l.getD 2 0).toNat = y2 at *
  generalize (l.getD 3 0).toNat = y3 at *
  generalize l.length = len at *
  rw [Nat.add_zero] at c0
  clear hc r
  go_enter Try.func18, Try.ntmps18
  go_upto_region 1 with fail
  go_quiet (fail)
  go_wp2
  go_ret
  exact ⟨ret_int (or4 .i64 63 (by decide) wraps_i64 (by decide) y0 y1 y2 y3 b0 b1 b2 b3), _, rfl⟩

end Go.Proofs.Yteknmlcgdjoccaa
