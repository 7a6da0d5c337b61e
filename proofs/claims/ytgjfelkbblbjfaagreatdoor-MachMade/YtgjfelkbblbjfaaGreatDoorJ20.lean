/- Texts of this claim, joined: MemRefP, EnvKnown, EnvNotesW, EnvOpen, EnvPlaysP. -/
import Derived.Test.YtgjfelkbblbjfaaGreatDoorMemRefN
import Derived.Test.YtgjfelkbblbjfaaGreatDoorJ12
import Derived.Lib.SlBytesConst
import Derived.Deep.LoopGhost
import Derived.ProofKit
import Derived.OpenShut
import Derived.SizedLaws
import Derived.Maps.AppendAt
/- The contract of the document's Map, whole. -/
namespace Go.Proofs.YtgjfelkbblbjfaaGreatDoor
open Go.RowKit Go.Maps
set_option linter.unusedVariables false
set_option maxRecDepth 100000

set_option maxRecDepth 20000 in
set_option maxHeartbeats 3200000 in
theorem rmap_no1 (m : Nat) (S : Mm) (F : Nat → Prop) (a0 size : Nat) (p : Int) (a : Option Addr) (len cap : Nat) (bs : List Int) (w : World) (h : RM w m S F) (ha : a0 ≤ 18446744073709551615) (hs : size ≤ 18446744073709551615)
    (r : Rd w a len cap bs) (hp0 : -9223372036854775808 ≤ p) (hp1 : p ≤ 9223372036854775807) (h1 : ¬ a0 % 4096 = 0) :
    Calls Tryz.prog 12 #[.pointer (some ⟨m, 0, none⟩), .int .u64 (a0 : Int), .int .u64 (size : Int), .int .i64 p, .slice a len cap] w fun e w' =>
      e = .returned (.int .i64 20) ∧ w' = w := by
  have hle0 := r.le
  have hmx := r.max
  clear h r
  go_enter Tryz.func12, Tryz.ntmps12
  go_wp2_with fail
  go_ret
  exact ⟨rfl, rfl⟩

set_option maxRecDepth 20000 in
set_option maxHeartbeats 3200000 in
theorem rmap_no2 (m : Nat) (S : Mm) (F : Nat → Prop) (a0 size : Nat) (p : Int) (a : Option Addr) (len cap : Nat) (bs : List Int) (w : World) (h : RM w m S F) (ha : a0 ≤ 18446744073709551615) (hs : size ≤ 18446744073709551615)
    (r : Rd w a len cap bs) (hp0 : -9223372036854775808 ≤ p) (hp1 : p ≤ 9223372036854775807) (h1 : a0 % 4096 = 0) (h2 : ¬ 0 < size) :
    Calls Tryz.prog 12 #[.pointer (some ⟨m, 0, none⟩), .int .u64 (a0 : Int), .int .u64 (size : Int), .int .i64 p, .slice a len cap] w fun e w' =>
      e = .returned (.int .i64 20) ∧ w' = w := by
  have hle0 := r.le
  have hmx := r.max
  clear h r
  have hm' : (a0 : Int) % 4096 = 0 := by omega
  obtain rfl : size = 0 := by omega
  go_enter Tryz.func12, Tryz.ntmps12
  go_wp2_with fail
  go_ret
  exact ⟨rfl, rfl⟩

set_option maxRecDepth 20000 in
set_option maxHeartbeats 3200000 in
theorem rmap_no3 (m : Nat) (S : Mm) (F : Nat → Prop) (a0 size : Nat) (p : Int) (a : Option Addr) (len cap : Nat) (bs : List Int) (w : World) (h : RM w m S F) (ha : a0 ≤ 18446744073709551615) (hs : size ≤ 18446744073709551615)
    (r : Rd w a len cap bs) (hp0 : -9223372036854775808 ≤ p) (hp1 : p ≤ 9223372036854775807) (h1 : a0 % 4096 = 0) (h2 : 0 < size) (h3 : ¬ a0 ≤ 140737488355328) :
    Calls Tryz.prog 12 #[.pointer (some ⟨m, 0, none⟩), .int .u64 (a0 : Int), .int .u64 (size : Int), .int .i64 p, .slice a len cap] w fun e w' =>
      e = .returned (.int .i64 20) ∧ w' = w := by
  have hle0 := r.le
  have hmx := r.max
  clear h r
  have hm' : (a0 : Int) % 4096 = 0 := by omega
  have x2 : ((size : Int) == 0) = false := by simp; omega
  have x3 : (140737488355328 : Int) < (a0 : Int) := by omega
  go_enter Tryz.func12, Tryz.ntmps12
  go_wp2_with fail
  go_ret
  exact ⟨rfl, rfl⟩

set_option maxRecDepth 20000 in
set_option maxHeartbeats 3200000 in
theorem rmap_no4 (m : Nat) (S : Mm) (F : Nat → Prop) (a0 size : Nat) (p : Int) (a : Option Addr) (len cap : Nat) (bs : List Int) (w : World) (h : RM w m S F) (ha : a0 ≤ 18446744073709551615) (hs : size ≤ 18446744073709551615)
    (r : Rd w a len cap bs) (hp0 : -9223372036854775808 ≤ p) (hp1 : p ≤ 9223372036854775807) (h1 : a0 % 4096 = 0) (h2 : 0 < size) (h3 : a0 ≤ 140737488355328) (h4 : ¬ a0 + size ≤ 140737488355328) :
    Calls Tryz.prog 12 #[.pointer (some ⟨m, 0, none⟩), .int .u64 (a0 : Int), .int .u64 (size : Int), .int .i64 p, .slice a len cap] w fun e w' =>
      e = .returned (.int .i64 20) ∧ w' = w := by
  have hle0 := r.le
  have hmx := r.max
  clear h r
  have hm' : (a0 : Int) % 4096 = 0 := by omega
  have x2 : ((size : Int) == 0) = false := by simp; omega
  have x3 : ¬ (140737488355328 : Int) < (a0 : Int) := by omega
  have x4 : (140737488355328 - (a0 : Int)) < (size : Int) := by omega
  go_enter Tryz.func12, Tryz.ntmps12
  go_wp2_with fail
  go_ret
  exact ⟨rfl, rfl⟩

set_option maxRecDepth 20000 in
set_option maxHeartbeats 3200000 in
theorem rmap_no5 (m : Nat) (S : Mm) (F : Nat → Prop) (a0 size : Nat) (p : Int) (a : Option Addr) (len cap : Nat) (bs : List Int) (w : World) (h : RM w m S F) (ha : a0 ≤ 18446744073709551615) (hs : size ≤ 18446744073709551615)
    (r : Rd w a len cap bs) (hp0 : -9223372036854775808 ≤ p) (hp1 : p ≤ 9223372036854775807) (h1 : a0 % 4096 = 0) (h2 : 0 < size) (h4 : a0 + size ≤ 140737488355328) (h5 : ¬ len ≤ size) :
    Calls Tryz.prog 12 #[.pointer (some ⟨m, 0, none⟩), .int .u64 (a0 : Int), .int .u64 (size : Int), .int .i64 p, .slice a len cap] w fun e w' =>
      e = .returned (.int .i64 20) ∧ w' = w := by
  have hle0 := r.le
  have hmx := r.max
  clear h r
  have hm' : (a0 : Int) % 4096 = 0 := by omega
  have x2 : ((size : Int) == 0) = false := by simp; omega
  have x3 : ¬ (140737488355328 : Int) < (a0 : Int) := by omega
  have x4 : ¬ (140737488355328 - (a0 : Int)) < (size : Int) := by omega
  have x5 : (size : Int) < (len : Int) := by omega
  go_enter Tryz.func12, Tryz.ntmps12
  go_wp2_with fail
  go_ret
  exact ⟨rfl, rfl⟩

set_option maxRecDepth 20000 in
set_option maxHeartbeats 3200000 in
theorem rmap_no6 (m : Nat) (S : Mm) (F : Nat → Prop) (a0 size : Nat) (p : Int) (a : Option Addr) (len cap : Nat) (bs : List Int) (w : World) (h : RM w m S F) (ha : a0 ≤ 18446744073709551615) (hs : size ≤ 18446744073709551615)
    (r : Rd w a len cap bs) (hp0 : -9223372036854775808 ≤ p) (hp1 : p ≤ 9223372036854775807) (h1 : a0 % 4096 = 0) (h2 : 0 < size) (h4 : a0 + size ≤ 140737488355328) (h5 : len ≤ size) (h6 : ¬ 1 ≤ p) :
    Calls Tryz.prog 12 #[.pointer (some ⟨m, 0, none⟩), .int .u64 (a0 : Int), .int .u64 (size : Int), .int .i64 p, .slice a len cap] w fun e w' =>
      e = .returned (.int .i64 20) ∧ w' = w := by
  have hle0 := r.le
  have hmx := r.max
  clear h r
  have hm' : (a0 : Int) % 4096 = 0 := by omega
  have x2 : ((size : Int) == 0) = false := by simp; omega
  have x3 : ¬ (140737488355328 : Int) < (a0 : Int) := by omega
  have x4 : ¬ (140737488355328 - (a0 : Int)) < (size : Int) := by omega
  have x5 : ¬ (size : Int) < (len : Int) := by omega
  have x6 : p < 1 := by omega
  go_enter Tryz.func12, Tryz.ntmps12
  go_wp2_with fail
  go_ret
  exact ⟨rfl, rfl⟩

set_option maxRecDepth 20000 in
set_option maxHeartbeats 3200000 in
theorem rmap_no7 (m : Nat) (S : Mm) (F : Nat → Prop) (a0 size : Nat) (p : Int) (a : Option Addr) (len cap : Nat) (bs : List Int) (w : World) (h : RM w m S F) (ha : a0 ≤ 18446744073709551615) (hs : size ≤ 18446744073709551615)
    (r : Rd w a len cap bs) (hp0 : -9223372036854775808 ≤ p) (hp1 : p ≤ 9223372036854775807) (h1 : a0 % 4096 = 0) (h2 : 0 < size) (h4 : a0 + size ≤ 140737488355328) (h5 : len ≤ size) (h6 : 1 ≤ p) (h7 : ¬ p ≤ 7) :
    Calls Tryz.prog 12 #[.pointer (some ⟨m, 0, none⟩), .int .u64 (a0 : Int), .int .u64 (size : Int), .int .i64 p, .slice a len cap] w fun e w' =>
      e = .returned (.int .i64 20) ∧ w' = w := by
  have hle0 := r.le
  have hmx := r.max
  clear h r
  have hm' : (a0 : Int) % 4096 = 0 := by omega
  have x2 : ((size : Int) == 0) = false := by simp; omega
  have x3 : ¬ (140737488355328 : Int) < (a0 : Int) := by omega
  have x4 : ¬ (140737488355328 - (a0 : Int)) < (size : Int) := by omega
  have x5 : ¬ (size : Int) < (len : Int) := by omega
  have x6 : ¬ p < 1 := by omega
  have x7 : 7 < p := by omega
  go_enter Tryz.func12, Tryz.ntmps12
  go_wp2_with fail
  go_ret
  exact ⟨rfl, rfl⟩

set_option maxRecDepth 20000 in
set_option maxHeartbeats 3200000 in
theorem rmap_no8 (m : Nat) (S : Mm) (F : Nat → Prop) (a0 size : Nat) (p : Int) (a : Option Addr) (len cap : Nat) (bs : List Int) (w : World) (h : RM w m S F) (ha : a0 ≤ 18446744073709551615) (hs : size ≤ 18446744073709551615)
    (r : Rd w a len cap bs) (hp0 : -9223372036854775808 ≤ p) (hp1 : p ≤ 9223372036854775807) (h1 : a0 % 4096 = 0) (h2 : 0 < size) (h4 : a0 + size ≤ 140737488355328) (h5 : len ≤ size) (h6 : 1 ≤ p) (h7 : p ≤ 7) (h8 : (bits .and .i64 p 2 != 0) = true) (h9 : (bits .and .i64 p 1 != 0) = true) :
    Calls Tryz.prog 12 #[.pointer (some ⟨m, 0, none⟩), .int .u64 (a0 : Int), .int .u64 (size : Int), .int .i64 p, .slice a len cap] w fun e w' =>
      e = .returned (.int .i64 20) ∧ w' = w := by
  have hle0 := r.le
  have hmx := r.max
  clear h r
  have hm' : (a0 : Int) % 4096 = 0 := by omega
  have x2 : ((size : Int) == 0) = false := by simp; omega
  have x3 : ¬ (140737488355328 : Int) < (a0 : Int) := by omega
  have x4 : ¬ (140737488355328 - (a0 : Int)) < (size : Int) := by omega
  have x5 : ¬ (size : Int) < (len : Int) := by omega
  have x6 : ¬ p < 1 := by omega
  have x7 : ¬ 7 < p := by omega
  go_enter Tryz.func12, Tryz.ntmps12
  go_wp2_with fail
  go_ret
  exact ⟨rfl, rfl⟩

set_option maxRecDepth 20000 in
set_option maxHeartbeats 3200000 in
theorem rmap_no9 (m : Nat) (S : Mm) (F : Nat → Prop) (a0 size : Nat) (p : Int) (a : Option Addr) (len cap : Nat) (bs : List Int) (w : World) (h : RM w m S F) (ha : a0 ≤ 18446744073709551615) (hs : size ≤ 18446744073709551615)
    (r : Rd w a len cap bs) (hp0 : -9223372036854775808 ≤ p) (hp1 : p ≤ 9223372036854775807) (h1 : a0 % 4096 = 0) (h2 : 0 < size) (h4 : a0 + size ≤ 140737488355328) (h5 : len ≤ size) (h6 : 1 ≤ p) (h7 : p ≤ 7) (hbits : (bits .and .i64 p 2 != 0) = false ∨ ((bits .and .i64 p 2 != 0) = true ∧ (bits .and .i64 p 1 != 0) = false)) (h9 : ¬ (size + 4095) / 4096 ≤ 65536) :
    Calls Tryz.prog 12 #[.pointer (some ⟨m, 0, none⟩), .int .u64 (a0 : Int), .int .u64 (size : Int), .int .i64 p, .slice a len cap] w fun e w' =>
      e = .returned (.int .i64 20) ∧ w' = w := by
  have hle0 := r.le
  have hmx := r.max
  clear h r
  have hm' : (a0 : Int) % 4096 = 0 := by omega
  have x2 : ((size : Int) == 0) = false := by simp; omega
  have x3 : ¬ (140737488355328 : Int) < (a0 : Int) := by omega
  have x4 : ¬ (140737488355328 - (a0 : Int)) < (size : Int) := by omega
  have x5 : ¬ (size : Int) < (len : Int) := by omega
  have x6 : ¬ p < 1 := by omega
  have x7 : ¬ 7 < p := by omega
  have hn' : ((size : Int) + 4096 - 1) / 4096 = (((size + 4095) / 4096 : Nat) : Int) := by omega
  have hnb : (size + 4095) / 4096 ≤ 34359738368 := by omega
  generalize (size + 4095) / 4096 = n at *
  have x8 : decide ((268435456 : Int) < (n : Int) * 4096) = true := by simp; omega
  rcases hbits with hb2 | ⟨hb2, hb1⟩
  · go_enter Tryz.func12, Tryz.ntmps12
    go_wp2_with fail
    go_ret
    exact ⟨rfl, rfl⟩
  · go_enter Tryz.func12, Tryz.ntmps12
    go_wp2_with fail
    go_ret
    exact ⟨rfl, rfl⟩

set_option maxRecDepth 20000 in
set_option maxHeartbeats 3200000 in
theorem rmap_no10 (m : Nat) (S : Mm) (F : Nat → Prop) (a0 size : Nat) (p : Int) (a : Option Addr) (len cap : Nat) (bs : List Int) (w : World) (h : RM w m S F) (ha : a0 ≤ 18446744073709551615) (hs : size ≤ 18446744073709551615)
    (r : Rd w a len cap bs) (hp0 : -9223372036854775808 ≤ p) (hp1 : p ≤ 9223372036854775807) (h1 : a0 % 4096 = 0) (h2 : 0 < size) (h4 : a0 + size ≤ 140737488355328) (h5 : len ≤ size) (h6 : 1 ≤ p) (h7 : p ≤ 7) (hbits : (bits .and .i64 p 2 != 0) = false ∨ ((bits .and .i64 p 2 != 0) = true ∧ (bits .and .i64 p 1 != 0) = false)) (h9 : (size + 4095) / 4096 ≤ 65536) (h10 : ¬ S.count + (size + 4095) / 4096 ≤ 65536) :
    Calls Tryz.prog 12 #[.pointer (some ⟨m, 0, none⟩), .int .u64 (a0 : Int), .int .u64 (size : Int), .int .i64 p, .slice a len cap] w fun e w' =>
      e = .returned (.int .i64 20) ∧ w' = w := by
  have hle0 := r.le
  have hmx := r.max
  have HSz := hide (rsize_any m S F w h)
  have hcg := h.good.count
  clear h r
  have hm' : (a0 : Int) % 4096 = 0 := by omega
  have x2 : ((size : Int) == 0) = false := by simp; omega
  have x3 : ¬ (140737488355328 : Int) < (a0 : Int) := by omega
  have x4 : ¬ (140737488355328 - (a0 : Int)) < (size : Int) := by omega
  have x5 : ¬ (size : Int) < (len : Int) := by omega
  have x6 : ¬ p < 1 := by omega
  have x7 : ¬ 7 < p := by omega
  have hn' : ((size : Int) + 4096 - 1) / 4096 = (((size + 4095) / 4096 : Nat) : Int) := by omega
  have hnb : (size + 4095) / 4096 ≤ 34359738368 := by omega
  generalize (size + 4095) / 4096 = n at *
  have x8 : decide ((268435456 : Int) < (n : Int) * 4096) = false := by simp; omega
  have x9 : decide ((268435456 : Int) < ((S.count * 4096 : Nat) : Int) + (n : Int) * 4096) = true := by simp; omega
  rcases hbits with hb2 | ⟨hb2, hb1⟩
  · go_enter Tryz.func12, Tryz.ntmps12
    go_wp2_with fail
    refine HSz.out.mono ?_
    rintro e w' ⟨rfl, rfl⟩
    clear HSz
    go_wp2_with fail
    go_ret
    exact ⟨rfl, rfl⟩
  · go_enter Tryz.func12, Tryz.ntmps12
    go_wp2_with fail
    refine HSz.out.mono ?_
    rintro e w' ⟨rfl, rfl⟩
    clear HSz
    go_wp2_with fail
    go_ret
    exact ⟨rfl, rfl⟩

set_option maxRecDepth 20000 in
set_option maxHeartbeats 3200000 in
theorem rmap_no11 (m : Nat) (S : Mm) (F : Nat → Prop) (a0 size : Nat) (p : Int) (a : Option Addr) (len cap : Nat) (bs : List Int) (w : World) (h : RM w m S F) (ha : a0 ≤ 18446744073709551615) (hs : size ≤ 18446744073709551615)
    (r : Rd w a len cap bs) (hp0 : -9223372036854775808 ≤ p) (hp1 : p ≤ 9223372036854775807) (h1 : a0 % 4096 = 0) (h2 : 0 < size) (h4 : a0 + size ≤ 140737488355328) (h5 : len ≤ size) (h6 : 1 ≤ p) (h7 : p ≤ 7) (hbits : (bits .and .i64 p 2 != 0) = false ∨ ((bits .and .i64 p 2 != 0) = true ∧ (bits .and .i64 p 1 != 0) = false)) (h10 : S.count + (size + 4095) / 4096 ≤ 65536) (h11 : ¬ ∀ i, a0 / 4096 ≤ i → i < a0 / 4096 + (size + 4095) / 4096 → S.perm i = 0) :
    Calls Tryz.prog 12 #[.pointer (some ⟨m, 0, none⟩), .int .u64 (a0 : Int), .int .u64 (size : Int), .int .i64 p, .slice a len cap] w fun e w' =>
      e = .returned (.int .i64 20) ∧ w' = w := by
  have hle0 := r.le
  have hmx := r.max
  have HSz := hide (rsize_any m S F w h)
  have hcg := h.good.count
  have HM := hide h
  clear h r
  have hm' : (a0 : Int) % 4096 = 0 := by omega
  have x2 : ((size : Int) == 0) = false := by simp; omega
  have x3 : ¬ (140737488355328 : Int) < (a0 : Int) := by omega
  have x4 : ¬ (140737488355328 - (a0 : Int)) < (size : Int) := by omega
  have x5 : ¬ (size : Int) < (len : Int) := by omega
  have x6 : ¬ p < 1 := by omega
  have x7 : ¬ 7 < p := by omega
  have hn' : ((size : Int) + 4096 - 1) / 4096 = (((size + 4095) / 4096 : Nat) : Int) := by omega
  have hnb : (size + 4095) / 4096 ≤ 34359738368 := by omega
  have hf' : (a0 : Int) / 4096 = ((a0 / 4096 : Nat) : Int) := by omega
  have hfb : a0 / 4096 ≤ 34359738368 := by omega
  have HNo := hide h11
  clear h11
  generalize a0 / 4096 = f at *
  generalize (size + 4095) / 4096 = n at *
  have x8 : decide ((268435456 : Int) < (n : Int) * 4096) = false := by simp; omega
  have x9 : decide ((268435456 : Int) < ((S.count * 4096 : Nat) : Int) + (n : Int) * 4096) = false := by simp; omega
  rcases hbits with hb2 | ⟨hb2, hb1⟩
  · go_enter Tryz.func12, Tryz.ntmps12
    go_wp2_with fail
    refine HSz.out.mono ?_
    rintro e w' ⟨rfl, rfl⟩
    clear HSz
    go_wp2
    obtain ⟨b0, pb0, db0, hX0⟩ := HM.out
    have hc0 := hX0.cell
    have HX0 := hide hX0
    clear hX0
    go_loop [12] (fun v => ∃ k : Nat, k ≤ n ∧ v = .int .u64 (k : Int) ∧ ∀ j, f ≤ j → j < f + k → S.perm j = 0) (fun v => n - (intOf v).toNat)
    case atStart => exact ⟨0, by omega, rfl, fun j h1 h2 => by omega⟩
    case round =>
      obtain ⟨k, hk, rfl, hall⟩ := hrel
      have HA := hide hall
      clear hall
      by_cases hlt : k < n
      · by_cases hz : S.perm (f + k) = 0
        · have hr := HX0.out.look0 (f + k) (by omega) hz
          rw [show ((f + k : Nat) : Int) = (f : Int) + (k : Int) by omega] at hr
          have HZ := hide hz
          clear hz
          go_wp2
          go_round
          case rel =>
            refine ⟨k + 1, by omega, by go_num, fun j h1 h2 => ?_⟩
            by_cases hjk : j = f + k
            · subst hjk; exact HZ.out
            · exact HA.out j h1 (by omega)
          case measure => simp [intOf]; omega
        · have hr := HX0.out.look (f + k) (by omega) hz
          rw [show ((f + k : Nat) : Int) = (f : Int) + (k : Int) by omega] at hr
          generalize pb0 (f + k) = P at hr
          clear hz
          go_wp2
          go_ret
          exact ⟨rfl, rfl⟩
      · exact absurd (fun j h1 h2 => HA.out j h1 (by omega)) HNo.out
  · go_enter Tryz.func12, Tryz.ntmps12
    go_wp2_with fail
    refine HSz.out.mono ?_
    rintro e w' ⟨rfl, rfl⟩
    clear HSz
    go_wp2
    obtain ⟨b0, pb0, db0, hX0⟩ := HM.out
    have hc0 := hX0.cell
    have HX0 := hide hX0
    clear hX0
    go_loop [12] (fun v => ∃ k : Nat, k ≤ n ∧ v = .int .u64 (k : Int) ∧ ∀ j, f ≤ j → j < f + k → S.perm j = 0) (fun v => n - (intOf v).toNat)
    case atStart => exact ⟨0, by omega, rfl, fun j h1 h2 => by omega⟩
    case round =>
      obtain ⟨k, hk, rfl, hall⟩ := hrel
      have HA := hide hall
      clear hall
      by_cases hlt : k < n
      · by_cases hz : S.perm (f + k) = 0
        · have hr := HX0.out.look0 (f + k) (by omega) hz
          rw [show ((f + k : Nat) : Int) = (f : Int) + (k : Int) by omega] at hr
          have HZ := hide hz
          clear hz
          go_wp2
          go_round
          case rel =>
            refine ⟨k + 1, by omega, by go_num, fun j h1 h2 => ?_⟩
            by_cases hjk : j = f + k
            · subst hjk; exact HZ.out
            · exact HA.out j h1 (by omega)
          case measure => simp [intOf]; omega
        · have hr := HX0.out.look (f + k) (by omega) hz
          rw [show ((f + k : Nat) : Int) = (f : Int) + (k : Int) by omega] at hr
          generalize pb0 (f + k) = P at hr
          clear hz
          go_wp2
          go_ret
          exact ⟨rfl, rfl⟩
      · exact absurd (fun j h1 h2 => HA.out j h1 (by omega)) HNo.out

theorem perm_bits {p : Int} (h6 : 1 ≤ p) (h7 : p ≤ 7) : (PermOk p ∧ ((bits .and .i64 p 2 == 0) = true ∨ ((bits .and .i64 p 2 == 0) = false ∧ (bits .and .i64 p 1 == 0) = true))) ∨ (¬ PermOk p ∧ (bits .and .i64 p 2 != 0) = true ∧ (bits .and .i64 p 1 != 0) = true) := by
  have h : p = 1 ∨ p = 2 ∨ p = 3 ∨ p = 4 ∨ p = 5 ∨ p = 6 ∨ p = 7 := by omega
  rcases h with rfl | rfl | rfl | rfl | rfl | rfl | rfl <;> decide

theorem rmap_any (m : Nat) (S : Mm) (F : Nat → Prop) (a0 size : Nat) (p : Int) (a : Option Addr) (len cap : Nat) (bs : List Int) (w : World) (h : RM w m S F) (ha : a0 ≤ 18446744073709551615) (hs : size ≤ 18446744073709551615)
    (hp0 : -9223372036854775808 ≤ p) (hp1 : p ≤ 9223372036854775807) (r : Rd w a len cap bs) (hsep : 0 < len → ∀ x, a = some x → ¬ F x.block) :
    Calls Tryz.prog 12 #[.pointer (some ⟨m, 0, none⟩), .int .u64 (a0 : Int), .int .u64 (size : Int), .int .i64 p, .slice a len cap] w fun e w' =>
      e = .returned (.int .i64 (if mapB S a0 size p len = true then 0 else 20)) ∧ ∃ F', RM w' m (mappedTo S a0 size p bs) F' ∧ Went F w F' w' := by
  have hbl := r.length
  have no : ¬ MapOk S a0 size p len → (Calls Tryz.prog 12 #[.pointer (some ⟨m, 0, none⟩), .int .u64 (a0 : Int), .int .u64 (size : Int), .int .i64 p, .slice a len cap] w fun e w' => e = .returned (.int .i64 20) ∧ w' = w) →
      Calls Tryz.prog 12 #[.pointer (some ⟨m, 0, none⟩), .int .u64 (a0 : Int), .int .u64 (size : Int), .int .i64 p, .slice a len cap] w fun e w' =>
        e = .returned (.int .i64 (if mapB S a0 size p len = true then 0 else 20)) ∧ ∃ F', RM w' m (mappedTo S a0 size p bs) F' ∧ Went F w F' w' := fun hn hc => by
    unfold mappedTo
    rw [hbl, mapB_no hn]
    refine hc.mono ?_
    rintro e w' ⟨rfl, rfl⟩
    exact ⟨rfl, F, h, Went.refl _ _⟩
  by_cases h1 : a0 % 4096 = 0
  · by_cases h2 : 0 < size
    · by_cases h4 : a0 + size ≤ 140737488355328
      · by_cases h5 : len ≤ size
        · by_cases h6 : 1 ≤ p
          · by_cases h7 : p ≤ 7
            · rcases perm_bits h6 h7 with ⟨hpo, hb⟩ | ⟨hpo, hb2, hb1⟩
              · have hb' : (bits .and .i64 p 2 != 0) = false ∨ ((bits .and .i64 p 2 != 0) = true ∧ (bits .and .i64 p 1 != 0) = false) := by
                  unfold bne
                  rcases hb with hb | ⟨hb, hb'⟩
                  · exact Or.inl (by rw [hb]; rfl)
                  · exact Or.inr ⟨by rw [hb]; rfl, by rw [hb']; rfl⟩
                by_cases h9 : (size + 4095) / 4096 ≤ 65536
                · by_cases h10 : S.count + (size + 4095) / 4096 ≤ 65536
                  · by_cases h11 : ∀ i, a0 / 4096 ≤ i → i < a0 / 4096 + (size + 4095) / 4096 → S.perm i = 0
                    · have hok : MapOk S a0 size p len := ⟨⟨h1, h2, h4⟩, hpo, h5, h10, h11⟩
                      unfold mappedTo
                      rw [hbl, mapB_yes hok]
                      exact rmap_yes m S F a0 size p a len cap bs w h r hsep hok hb
                    · exact no (fun hk => h11 hk.2.2.2.2) (rmap_no11 m S F a0 size p a len cap bs w h ha hs r hp0 hp1 h1 h2 h4 h5 h6 h7 hb' h10 h11)
                  · exact no (fun hk => h10 hk.2.2.2.1) (rmap_no10 m S F a0 size p a len cap bs w h ha hs r hp0 hp1 h1 h2 h4 h5 h6 h7 hb' h9 h10)
                · exact no (fun hk => h9 (by have := hk.2.2.2.1; omega)) (rmap_no9 m S F a0 size p a len cap bs w h ha hs r hp0 hp1 h1 h2 h4 h5 h6 h7 hb' h9)
              · exact no (fun hk => hpo hk.2.1) (rmap_no8 m S F a0 size p a len cap bs w h ha hs r hp0 hp1 h1 h2 h4 h5 h6 h7 hb2 hb1)
            · exact no (fun hk => h7 hk.2.1.bd.2) (rmap_no7 m S F a0 size p a len cap bs w h ha hs r hp0 hp1 h1 h2 h4 h5 h6 h7)
          · exact no (fun hk => h6 hk.2.1.bd.1) (rmap_no6 m S F a0 size p a len cap bs w h ha hs r hp0 hp1 h1 h2 h4 h5 h6)
        · exact no (fun hk => h5 hk.2.2.1) (rmap_no5 m S F a0 size p a len cap bs w h ha hs r hp0 hp1 h1 h2 h4 h5)
      · by_cases h3 : a0 ≤ 140737488355328
        · exact no (fun hk => h4 hk.1.2.2) (rmap_no4 m S F a0 size p a len cap bs w h ha hs r hp0 hp1 h1 h2 h3 h4)
        · exact no (fun hk => h4 hk.1.2.2) (rmap_no3 m S F a0 size p a len cap bs w h ha hs r hp0 hp1 h1 h2 h3)
    · exact no (fun hk => h2 hk.1.2.1) (rmap_no2 m S F a0 size p a len cap bs w h ha hs r hp0 hp1 h1 h2)
  · exact no (fun hk => h1 hk.1.1) (rmap_no1 m S F a0 size p a len cap bs w h ha hs r hp0 hp1 h1)

end Go.Proofs.YtgjfelkbblbjfaaGreatDoor

/- The chapter's example: what 'known' tells. -/
namespace Go.Proofs.YtgjfelkbblbjfaaGreatDoor
open Go.RowKit
set_option linter.unusedVariables false
set_option maxRecDepth 100000

/-- Bytes written out in the text. -/
theorem Rd.litc {w : World} {X : Nat} {t : TypeId} {fr : Nat × Nat} (xs : List Int) (h : w.heap[X]? = some (.cells (xs.map (Value.int .u8)).toArray t fr)) (hf : Bytes xs) (hl : xs.length ≤ 9223372036854775807) : Rd w (some ⟨X, 0, none⟩) xs.length xs.length xs := by
  refine ⟨rfl, Nat.le_refl _, hl, hf, (fun h => by cases h), fun x hx i hi => ?_⟩
  cases hx
  have e : (⟨X, 0, none⟩ : Addr).add i = ⟨X, i, none⟩ := by unfold Addr.add; split <;> simp_all
  rw [e, cell_of_row _ _ i _ t fr h]
  simp [hi]



end Go.Proofs.YtgjfelkbblbjfaaGreatDoor

/- The walk of EnvNotes: many events that are noted at once are noted one by one. -/
namespace Go.Proofs.YtgjfelkbblbjfaaGreatDoor
open Go.RowKit
set_option linter.unusedVariables false
set_option maxRecDepth 100000

theorem Evs.blk {w : World} {a : Option Addr} {len : Nat} {es : List Evt} (h : Evs w a len es) (hl : 0 < len) (x : Addr) (hx : a = some x) : x.block < w.heap.size := by
  have h0 := h.length
  obtain ⟨b, o, h1, h2⟩ := h.cell 0 _ (List.getElem?_eq_getElem (by omega))
  have h3 := h2 0 (by omega)
  rw [h1] at hx
  cases hx
  exact World.block_lt_of_cell? w ⟨b, o + 0 * 4 + 0, none⟩ (h3.trans rfl)

/-- Events that came in. -/
theorem Has.arg {w0 w : World} {l : List (World → (Nat → Prop) → Prop)} (h : Has w0 w l) {a : Option Addr} {len : Nat} {es : List Evt} (hE : Evs w0 a len es) : Has w0 w (ArgT w0.heap.size a len es :: l) :=
  h.more (F := fun _ => False) (Below.refl _ _) ⟨hE.below h.bel, fun hl x hx => Or.inr (hE.blk hl x hx), fun x hx hl y hy => Or.inr ((hE.ok x hx).b.blk hl y hy), fun k hk => hk.elim⟩ (fun k hk => hk.elim) (arg_stays _ _ _ _)



end Go.Proofs.YtgjfelkbblbjfaaGreatDoor

/- Events and scripts of acts that came in: what their cells hold; how long an event's bytes are at most. -/
namespace Go.Proofs.YtgjfelkbblbjfaaGreatDoor
open Go.RowKit Go.ChangeShapes Go.WideShapes Go.ChangeAt
set_option linter.unusedVariables false
set_option maxRecDepth 100000

theorem exists_list {α : Type} {P : Nat → α → Prop} : ∀ n : Nat, (∀ i, i < n → ∃ y, P i y) → ∃ l : List α, l.length = n ∧ ∀ i y, l[i]? = some y → P i y
  | 0, _ => ⟨[], rfl, fun i y h => by simp at h⟩
  | n + 1, h => by
    obtain ⟨l, h1, h2⟩ := exists_list n (fun i hi => h i (by omega))
    obtain ⟨y, hy⟩ := h n (by omega)
    refine ⟨l ++ [y], by simp [h1], fun i z hz => ?_⟩
    rcases Nat.lt_or_ge i n with h3 | h3
    · rw [List.getElem?_append_left (by omega)] at hz
      exact h2 i z hz
    · rw [List.getElem?_append_right (by omega)] at hz
      have h4 : i - l.length = 0 := by
        rcases Nat.eq_zero_or_pos (i - l.length) with h5 | h5
        · exact h5
        · rw [List.getElem?_eq_none (by simp; omega)] at hz
          cases hz
      rw [h4] at hz
      have h5 : i = n := by omega
      subst h5
      simp at hz
      subst hz
      exact hy

theorem weights_mem_all {H : Type} {P : Program} {e : TypeId} : ∀ {l : List (DataW H)} {d : DataW H}, d ∈ l → ∀ q ∈ d.weights P e, q ∈ DataW.weightsAll P e l
  | d0 :: l, d, hd, q, hq => by
    simp only [DataW.weightsAll, List.mem_append]
    rcases List.mem_cons.1 hd with rfl | hd
    · exact Or.inl hq
    · exact Or.inr (weights_mem_all hd q hq)

section
variable {H : Type} {enc : TypeId × Value → H} {w : World} {base : Nat} {spare : Nat → Bool} {held : Bool}

theorem trod_int_is {t : TypeId} {k : IntKind} (ht : Tryz.prog.underlying t = some (.int k)) {n : Nat} {cs : List Value} {x : DataW H × List MemPlace} (h : DataW.trod enc Tryz.prog w base spare held n t cs = some x) : ∃ z, cs = [.int k z] ∧ (Lit.int k z).wf = true := by
  cases n with
  | zero => simp [DataW.trod] at h
  | succ n =>
    unfold DataW.trod at h
    rw [ht] at h
    split at h <;> simp_all

theorem four {cs : List Value} (h : cs.length = 4) : ∃ c0 c1 c2 c3, cs = [c0, c1, c2, c3] := by
  match cs, h with
  | [c0, c1, c2, c3], _ => exact ⟨c0, c1, c2, c3, rfl⟩

theorem open_evt {n : Nat} {cs : List Value} {x : DataW H × List MemPlace} (h : DataW.trod enc Tryz.prog w base (fun _ => true) held n 100 cs = some x) :
    ∃ y : Evt, y.Ok w ∧ cs = y.cells ∧ ((∀ q ∈ x.1.weights Tryz.prog 100, q ≤ reachBytes) → y.len ≤ 140737488355328) := by
  obtain ⟨xs, m, rfl, rfl, hl, hxl, hf⟩ := DataW.trod_struct Tryz.underlying100 h
  have h4 : Tryz.prog.cellsOf 100 = 4 := by kernel_rfl
  have c3 : Tryz.prog.cellsOf 3 = 1 := by kernel_rfl
  have c2 : Tryz.prog.cellsOf 2 = 1 := by kernel_rfl
  have c22 : Tryz.prog.cellsOf 24 = 1 := by kernel_rfl
  have b8 : Tryz.prog.bytesOf 5 = 1 := by kernel_rfl
  rw [h4] at hl
  obtain ⟨d0, d1, d2, d3, rfl⟩ := four hl
  have g : ∀ (i : Nat) (f : Field), (#[({ name := "Kind", type := 3, offset := 0, embedded := false, tag := "", pkgPath := "", byteOffset := 0 } : Field), { name := "Fd", type := 2, offset := 1, embedded := false, tag := "", pkgPath := "", byteOffset := 8 }, { name := "B", type := 24, offset := 2, embedded := false, tag := "", pkgPath := "", byteOffset := 16 }, { name := "N", type := 3, offset := 3, embedded := false, tag := "", pkgPath := "", byteOffset := 40 }] : Array Field)[i]? = some f → ∃ y, xs[i]? = some y ∧ DataW.trod enc Tryz.prog w base (fun _ => true) held m f.type (([d0, d1, d2, d3].drop f.offset).take (Tryz.prog.cellsOf f.type)) = some y := fun i f hif => by
    have h2 := hf i f hif
    have hi : i < xs.length := by
      rw [hxl]
      exact (Array.getElem?_eq_some_iff.1 hif).1
    rw [List.getElem?_eq_getElem hi] at h2
    exact ⟨_, List.getElem?_eq_getElem hi, h2⟩
  obtain ⟨_, _, t0⟩ := g 0 { name := "Kind", type := 3, offset := 0, embedded := false, tag := "", pkgPath := "", byteOffset := 0 } rfl
  obtain ⟨_, _, t1⟩ := g 1 { name := "Fd", type := 2, offset := 1, embedded := false, tag := "", pkgPath := "", byteOffset := 8 } rfl
  obtain ⟨y2, hy2, t2⟩ := g 2 { name := "B", type := 24, offset := 2, embedded := false, tag := "", pkgPath := "", byteOffset := 16 } rfl
  obtain ⟨_, _, t3⟩ := g 3 { name := "N", type := 3, offset := 3, embedded := false, tag := "", pkgPath := "", byteOffset := 40 } rfl
  simp only [c3, c2, c22, List.drop_succ_cons, List.drop_zero, List.take_succ_cons, List.take_zero] at t0 t1 t2 t3
  obtain ⟨z0, e0, f0⟩ := trod_int_is Tryz.underlying3 t0
  obtain ⟨z1, e1, f1⟩ := trod_int_is Tryz.underlying2 t1
  obtain ⟨z3, e3, f3⟩ := trod_int_is Tryz.underlying3 t3
  have hb : ∃ a l c bs, [d2] = [Value.slice a l c] ∧ Rd w a l c bs ∧ ((∀ q ∈ (DataW.agg (xs.map (·.1))).weights Tryz.prog 100, q ≤ reachBytes) → l ≤ 140737488355328) := by
    rcases open_ints Tryz.underlying24 Tryz.underlying5 (by kernel_rfl) t2 with ⟨hcs, _⟩ | ⟨x, l, c, zs, hcs, _, hl, hm, hz, hx2, hcell, hwz⟩
    · exact ⟨none, 0, 0, [], hcs, Rd.nothing w, fun _ => by omega⟩
    · have r : IsRow .u8 w (some x) l c zs := .inr ⟨_, rfl, hl, hm, by simpa using hz, hcell, hwz⟩
      have r2 := r.rn (top := 255) (by decide) (fun n hn => bounds_u8 hn)
      refine ⟨some x, l, c, zs.take l, hcs, ⟨r2.length, r2.le, r2.max, r2.fit, r2.nil, r2.cell⟩, fun hq => ?_⟩
      have hd : (xs.map (·.1))[2]? = some (DataW.slice (lits .u8 (zs.take l)) (lits .u8 (zs.drop l))) := by
        rw [List.getElem?_map, hy2, hx2]
        rfl
      have h9 := DataW.weights_mem_each (P := Tryz.prog) (ts := [3, 2, 24, 3]) (j := 2) (t := 24) rfl hd ((lits (H := H) .u8 (zs.take l)).length + (lits (H := H) .u8 (zs.drop l)).length) (by
        rw [DataW.weights, Tryz.underlying24]
        simp [b8])
      have h10 := hq _ (by
        rw [DataW.weights, Tryz.underlying100]
        exact h9)
      have h11 := r2.length
      have h12 : (lits (H := H) .u8 (zs.take l)).length = l := by
        simp only [lits, List.length_map]
        exact h11
      rw [h12] at h10
      have := reachBytes_lt
      omega
  obtain ⟨ba, bl, bc, bbs, e2, hr, hsz⟩ := hb
  injection e0 with e0; injection e1 with e1; injection e2 with e2; injection e3 with e3
  subst e0 e1 e2 e3
  exact ⟨⟨z0, z1, ba, bl, bc, z3, bbs⟩, ⟨bounds_i64 f0, bounds_i64 f1, bounds_i64 f3, hr⟩, rfl, hsz⟩

theorem open_evts {a : Option Addr} {len cap : Nat} {d : DataW H} {p : List MemPlace} (h : DataW.Trod enc Tryz.prog w base (fun _ => true) held 46 (.slice a len cap) d p) (hq : ∀ q ∈ d.weights Tryz.prog 46, q ≤ reachBytes) :
    ∃ es, Evs w a len es ∧ ∀ x ∈ es, x.len ≤ 140737488355328 := by
  obtain ⟨fuel, h⟩ := h
  have h4 : Tryz.prog.cellsOf 100 = 4 := by kernel_rfl
  rcases DataW.trod_slice Tryz.underlying46 h with ⟨h0, _⟩ | ⟨x, l, c, elems, rest, n, _, hcs, hd, hb, hl, hm, hlen, hel, hsp, hns⟩
  · simp [Value.cells] at h0
    obtain ⟨rfl, rfl, rfl⟩ := h0
    exact ⟨[], ⟨rfl, by omega, (fun x hx => by cases hx), fun i x hx => by simp at hx⟩, fun x hx => by cases hx⟩
  · simp [Value.cells] at hcs
    obtain ⟨rfl, rfl, rfl⟩ := hcs
    have hd' : d = .slice (elems.map (·.1)) (rest.map (·.1)) := congrArg Prod.fst hd
    have el : ∀ i, i < len → ∃ y : Evt, y.Ok w ∧ (∀ j, j < 4 → w.cell? ((x.add (i * 4)).add j) = y.cells[j]?) ∧ y.len ≤ 140737488355328 := fun i hi => by
      have h1 := hel i hi
      rw [List.getElem?_eq_getElem (by omega)] at h1
      obtain ⟨cs', h2, h3⟩ := Option.bind_eq_some_iff.1 h1
      rw [h4] at h2
      obtain ⟨_, h6, h5⟩ := World.cells?_some h2
      obtain ⟨y, hy, rfl, hy2⟩ := open_evt h3
      refine ⟨y, hy, h5, hy2 (fun q hqq => hq q ?_)⟩
      rw [hd', DataW.weights, Tryz.underlying46]
      refine List.mem_cons_of_mem _ (List.mem_append_left _ (weights_mem_all (d := (elems[i]'(by omega)).1) (List.mem_map_of_mem (List.getElem_mem _)) q hqq))
    obtain ⟨es, hes, hP⟩ := exists_list len el
    refine ⟨es, ⟨hes, by unfold maxLen at hm; omega, fun y hy => ?_, fun i y hy => ?_⟩, fun y hy => ?_⟩
    · obtain ⟨i, hi⟩ := List.mem_iff_getElem?.1 hy
      exact (hP i y hi).1
    · obtain ⟨b, o, spot⟩ := x
      have h5 := (hP i y hy).2.1
      have hil := (List.getElem?_eq_some_iff.1 hy).1
      obtain ⟨y0, _, h50, _⟩ := el 0 (by omega)
      have h6 := h50 0 (by omega)
      have hs : spot = none := by
        rw [show y0.cells[0]? = some (.int .i64 y0.kind) from rfl] at h6
        have h7 := World.cell?_spot h6
        simpa [Addr.add] using h7
      subst hs
      refine ⟨b, o, rfl, fun j hj => ?_⟩
      have h7 := h5 j hj
      have e1 : ((⟨b, o, none⟩ : Addr).add (i * 4)).add j = ⟨b, o + i * 4 + j, none⟩ := by unfold Addr.add; repeat' split <;> simp_all
      rw [e1] at h7
      exact h7
    · obtain ⟨i, hi⟩ := List.mem_iff_getElem?.1 hy
      exact (hP i y hi).2.2

end

end Go.Proofs.YtgjfelkbblbjfaaGreatDoor

/- What EnvPlays stands on: the document's environment beside the program's, a row of bytes beside both; a script of acts that came in. -/
namespace Go.Proofs.YtgjfelkbblbjfaaGreatDoor
open Go.RowKit Go.ChangeShapes Go.WideShapes Go.ChangeAt
set_option linter.unusedVariables false
set_option maxRecDepth 100000

section
variable {w0 w W2 : World} {l : List (World → (Nat → Prop) → Prop)}

theorem has_ref (h : Has w0 w l) {a : Option Addr} {len cap : Nat} {bs : List Int} (r : Rd w0 a len cap bs) : Has w0 (w.alloc (.cells #[.slice a len cap, .slice none 0 0] 48)) (EV w0.heap.size 48 w.heap.size bs [] :: l) := by
  have hb : Below w.heap.size w (w.alloc (.cells #[.slice a len cap, .slice none 0 0] 48)) := (Below.refl _ _).alloc (Nat.le_refl _) _
  have hz := h.bel.size
  refine h.more (F := fun k => k = w.heap.size) hb ⟨a, len, cap, .slice none 0 0, [], ⟨heap_alloc_new w _, (r.below h.bel).below hb, World.ownsRow_nil _ _ _ _, (fun x hx => by cases hx), rfl, (fun g hg => by cases hg), fun hl x hx => ?_, (fun x hx => by cases hx), fun k hk => ?_⟩, rfl⟩ (fun k hk => ?_) (ev_stays _ _ _ _ _)
  · have h1 := r.blk hl x hx
    exact ⟨Or.inr h1, by omega, by intro h; cases h⟩
  · subst hk
    simp
  · subst hk
    exact Nat.le_refl _

theorem has_row (h : Has w0 w l) : Has w0 w (RowT (.slice none 0 0) [] :: l) :=
  h.more (F := fun _ => False) (Below.refl _ _) ⟨World.ownsRow_nil _ _ _ _, Bytes.nil, (fun g hg => by cases hg), fun k hk => hk.elim⟩ (fun k hk => hk.elim) (row_stays _ _ _)

theorem Has.grow {v v2 : Value} {L m : Nat} {bs xs : List Int} (h : Has w0 w (RowT v bs :: l)) (hL : bs.length = L) (hx : xs.length = m) (hb : Bytes xs) (hown : W2.ownsRow 0 5 1 v2 (L + m) (bs.map (Value.int .u8) ++ xs.map (Value.int .u8))) (hgrow : w.grownBy W2 v.ownBlock) (hat : v2.ownBlock = v.ownBlock ∨ v2.ownBlock = some w.heap.size) : Has w0 W2 (RowT v2 (bs ++ xs) :: l) := by
  subst hL hx
  obtain ⟨F, ⟨h1, h2, h3, h4⟩, h5, h6⟩ := h.step
  refine h6 W2 _ (fun k => v2.ownBlock = some k) ⟨?_, h2.append hb, fun g hg => hg, fun k hk => ownsRow_blk hown k hk⟩ ⟨Kept.of_grown hgrow (fun k hk => h3 k hk), fun k hk => ?_⟩ (row_stays _ _ _)
  · unfold RowB
    rw [List.length_append, List.map_append]
    exact hown
  · rcases hat with h7 | h7
    · exact Or.inl (h3 k (h7 ▸ hk))
    · rw [h7] at hk
      cases hk
      exact Or.inr (Nat.le_refl _)

theorem Has.row {v : Value} {bs : List Int} (h : Has w0 w (RowT v bs :: l)) : ∃ a cap, v = .slice a bs.length cap ∧ Rd w a bs.length cap bs := by
  obtain ⟨F, h1, h2, h3, h4⟩ := h.top
  exact Rd.own h1 h2

theorem str_append (a b : List Int) : strOfNums a ++ strOfNums b = strOfNums (a ++ b) := by
  apply ByteArray.ext
  simp [strOfNums]

theorem outOf_short (fd : Int) : ∀ (tr : List Says), (∀ s ∈ tr, s.bs.length ≤ 50) → (outOf fd tr).length ≤ 50 * tr.length
  | [], _ => by simp [outOf]
  | s :: tr, h => by
    have h1 := outOf_short fd tr (fun x hx => h x (List.mem_cons_of_mem _ hx))
    have h2 := h s (List.mem_cons_self ..)
    have e : outOf fd (s :: tr) = (if s.kind = 0 ∧ s.fd = fd then s.bs else []) ++ outOf fd tr := by simp [outOf]
    rw [e, List.length_append, List.length_cons]
    split
    · omega
    · simp; omega

end

/-- An act: what is done, how many bytes are taken, the event. -/
structure ActE where
  wh : Nat
  nn : Int
  x : Evt

def ActE.cells (y : ActE) : List Value := [.int .u8 (y.wh : Int), .int .i64 y.nn, .int .i64 y.x.kind, .int .i64 y.x.fd, .slice y.x.a y.x.len y.x.cap, .int .i64 y.x.n]

structure ActE.Ok (y : ActE) (w : World) : Prop where
  wh : y.wh ≤ 255
  nn : -9223372036854775808 ≤ y.nn ∧ y.nn ≤ 9223372036854775807
  x : y.x.Ok w

/-- A slice of acts that came in. -/
def IsActE (w : World) (a : Option Addr) (len : Nat) : Prop := len ≤ 9223372036854775807 ∧ ∀ i, i < len → ∃ b o, a = some ⟨b, o, none⟩ ∧ ∃ y : ActE, y.Ok w ∧ ∀ j, j < 6 → w.cell? ⟨b, o + i * 6 + j, none⟩ = y.cells[j]?

section
variable {H : Type} {enc : TypeId × Value → H} {w : World} {base : Nat} {spare : Nat → Bool} {held : Bool}

theorem six {cs : List Value} (h : cs.length = 6) : ∃ c0 c1 c2 c3 c4 c5, cs = [c0, c1, c2, c3, c4, c5] := by
  match cs, h with
  | [c0, c1, c2, c3, c4, c5], _ => exact ⟨c0, c1, c2, c3, c4, c5, rfl⟩





end

end Go.Proofs.YtgjfelkbblbjfaaGreatDoor
