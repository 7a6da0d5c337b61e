/- The contract of the document's Map, whole. -/
import Derived.Test.YtggmeopohpbmlaaMemRefN
namespace Go.Proofs.Ytggmeopohpbmlaa
open Go.RowKit Go.Maps
set_option linter.unusedVariables false

set_option maxRecDepth 20000 in
set_option maxHeartbeats 3200000 in
theorem rmap_no1 (m : Nat) (S : Mm) (F : Nat → Prop) (a0 size : Nat) (p : Int) (a : Option Addr) (len cap : Nat) (bs : List Int) (w : World) (h : RM w m S F) (ha : a0 ≤ 18446744073709551615) (hs : size ≤ 18446744073709551615)
    (r : Rd w a len cap bs) (hp0 : -9223372036854775808 ≤ p) (hp1 : p ≤ 9223372036854775807) (h1 : ¬ a0 % 4096 = 0) :
    Calls Try.prog 13 #[.pointer (some ⟨m, 0, none⟩), .int .u64 (a0 : Int), .int .u64 (size : Int), .int .i64 p, .slice a len cap] w fun e w' =>
      e = .returned (.int .i64 20) ∧ w' = w := by
  have hle0 := r.le
  have hmx := r.max
  clear h r
  go_enter Try.func13, Try.ntmps13
  go_wp2_with fail
  go_ret
  exact ⟨rfl, rfl⟩

set_option maxRecDepth 20000 in
set_option maxHeartbeats 3200000 in
theorem rmap_no2 (m : Nat) (S : Mm) (F : Nat → Prop) (a0 size : Nat) (p : Int) (a : Option Addr) (len cap : Nat) (bs : List Int) (w : World) (h : RM w m S F) (ha : a0 ≤ 18446744073709551615) (hs : size ≤ 18446744073709551615)
    (r : Rd w a len cap bs) (hp0 : -9223372036854775808 ≤ p) (hp1 : p ≤ 9223372036854775807) (h1 : a0 % 4096 = 0) (h2 : ¬ 0 < size) :
    Calls Try.prog 13 #[.pointer (some ⟨m, 0, none⟩), .int .u64 (a0 : Int), .int .u64 (size : Int), .int .i64 p, .slice a len cap] w fun e w' =>
      e = .returned (.int .i64 20) ∧ w' = w := by
  have hle0 := r.le
  have hmx := r.max
  clear h r
  have hm' : (a0 : Int) % 4096 = 0 := by omega
  obtain rfl : size = 0 := by omega
  go_enter Try.func13, Try.ntmps13
  go_wp2_with fail
  go_ret
  exact ⟨rfl, rfl⟩

set_option maxRecDepth 20000 in
set_option maxHeartbeats 3200000 in
theorem rmap_no3 (m : Nat) (S : Mm) (F : Nat → Prop) (a0 size : Nat) (p : Int) (a : Option Addr) (len cap : Nat) (bs : List Int) (w : World) (h : RM w m S F) (ha : a0 ≤ 18446744073709551615) (hs : size ≤ 18446744073709551615)
    (r : Rd w a len cap bs) (hp0 : -9223372036854775808 ≤ p) (hp1 : p ≤ 9223372036854775807) (h1 : a0 % 4096 = 0) (h2 : 0 < size) (h3 : ¬ a0 ≤ 140737488355328) :
    Calls Try.prog 13 #[.pointer (some ⟨m, 0, none⟩), .int .u64 (a0 : Int), .int .u64 (size : Int), .int .i64 p, .slice a len cap] w fun e w' =>
      e = .returned (.int .i64 20) ∧ w' = w := by
  have hle0 := r.le
  have hmx := r.max
  clear h r
  have hm' : (a0 : Int) % 4096 = 0 := by omega
  have x2 : ((size : Int) == 0) = false := by simp; omega
  have x3 : (140737488355328 : Int) < (a0 : Int) := by omega
  go_enter Try.func13, Try.ntmps13
  go_wp2_with fail
  go_ret
  exact ⟨rfl, rfl⟩

set_option maxRecDepth 20000 in
set_option maxHeartbeats 3200000 in
theorem rmap_no4 (m : Nat) (S : Mm) (F : Nat → Prop) (a0 size : Nat) (p : Int) (a : Option Addr) (len cap : Nat) (bs : List Int) (w : World) (h : RM w m S F) (ha : a0 ≤ 18446744073709551615) (hs : size ≤ 18446744073709551615)
    (r : Rd w a len cap bs) (hp0 : -9223372036854775808 ≤ p) (hp1 : p ≤ 9223372036854775807) (h1 : a0 % 4096 = 0) (h2 : 0 < size) (h3 : a0 ≤ 140737488355328) (h4 : ¬ a0 + size ≤ 140737488355328) :
    Calls Try.prog 13 #[.pointer (some ⟨m, 0, none⟩), .int .u64 (a0 : Int), .int .u64 (size : Int), .int .i64 p, .slice a len cap] w fun e w' =>
      e = .returned (.int .i64 20) ∧ w' = w := by
  have hle0 := r.le
  have hmx := r.max
  clear h r
  have hm' : (a0 : Int) % 4096 = 0 := by omega
  have x2 : ((size : Int) == 0) = false := by simp; omega
  have x3 : ¬ (140737488355328 : Int) < (a0 : Int) := by omega
  have x4 : (140737488355328 - (a0 : Int)) < (size : Int) := by omega
  go_enter Try.func13, Try.ntmps13
  go_wp2_with fail
  go_ret
  exact ⟨rfl, rfl⟩

set_option maxRecDepth 20000 in
set_option maxHeartbeats 3200000 in
theorem rmap_no5 (m : Nat) (S : Mm) (F : Nat → Prop) (a0 size : Nat) (p : Int) (a : Option Addr) (len cap : Nat) (bs : List Int) (w : World) (h : RM w m S F) (ha : a0 ≤ 18446744073709551615) (hs : size ≤ 18446744073709551615)
    (r : Rd w a len cap bs) (hp0 : -9223372036854775808 ≤ p) (hp1 : p ≤ 9223372036854775807) (h1 : a0 % 4096 = 0) (h2 : 0 < size) (h4 : a0 + size ≤ 140737488355328) (h5 : ¬ len ≤ size) :
    Calls Try.prog 13 #[.pointer (some ⟨m, 0, none⟩), .int .u64 (a0 : Int), .int .u64 (size : Int), .int .i64 p, .slice a len cap] w fun e w' =>
      e = .returned (.int .i64 20) ∧ w' = w := by
  have hle0 := r.le
  have hmx := r.max
  clear h r
  have hm' : (a0 : Int) % 4096 = 0 := by omega
  have x2 : ((size : Int) == 0) = false := by simp; omega
  have x3 : ¬ (140737488355328 : Int) < (a0 : Int) := by omega
  have x4 : ¬ (140737488355328 - (a0 : Int)) < (size : Int) := by omega
  have x5 : (size : Int) < (len : Int) := by omega
  go_enter Try.func13, Try.ntmps13
  go_wp2_with fail
  go_ret
  exact ⟨rfl, rfl⟩

set_option maxRecDepth 20000 in
set_option maxHeartbeats 3200000 in
theorem rmap_no6 (m : Nat) (S : Mm) (F : Nat → Prop) (a0 size : Nat) (p : Int) (a : Option Addr) (len cap : Nat) (bs : List Int) (w : World) (h : RM w m S F) (ha : a0 ≤ 18446744073709551615) (hs : size ≤ 18446744073709551615)
    (r : Rd w a len cap bs) (hp0 : -9223372036854775808 ≤ p) (hp1 : p ≤ 9223372036854775807) (h1 : a0 % 4096 = 0) (h2 : 0 < size) (h4 : a0 + size ≤ 140737488355328) (h5 : len ≤ size) (h6 : ¬ 1 ≤ p) :
    Calls Try.prog 13 #[.pointer (some ⟨m, 0, none⟩), .int .u64 (a0 : Int), .int .u64 (size : Int), .int .i64 p, .slice a len cap] w fun e w' =>
      e = .returned (.int .i64 20) ∧ w' = w := by
  have hle0 := r.le
  have hmx := r.max
  clear h r
  have hm' : (a0 : Int) % 4096 = 0 := by omega
  have x2 : ((size : Int) == 0) = false := by simp; omega
  have x3 : ¬ (140737488355328 : Int) < (a0 : Int) := by omega
  have x4 : ¬ (140737488355328 - (a0 : Int)) < (size : Int) := by omega
  have x5 : ¬ (size : Int) < (len : Int) := by omega
  have x6 : p < 1 := by omega
  go_enter Try.func13, Try.ntmps13
  go_wp2_with fail
  go_ret
  exact ⟨rfl, rfl⟩

set_option maxRecDepth 20000 in
set_option maxHeartbeats 3200000 in
theorem rmap_no7 (m : Nat) (S : Mm) (F : Nat → Prop) (a0 size : Nat) (p : Int) (a : Option Addr) (len cap : Nat) (bs : List Int) (w : World) (h : RM w m S F) (ha : a0 ≤ 18446744073709551615) (hs : size ≤ 18446744073709551615)
    (r : Rd w a len cap bs) (hp0 : -9223372036854775808 ≤ p) (hp1 : p ≤ 9223372036854775807) (h1 : a0 % 4096 = 0) (h2 : 0 < size) (h4 : a0 + size ≤ 140737488355328) (h5 : len ≤ size) (h6 : 1 ≤ p) (h7 : ¬ p ≤ 7) :
    Calls Try.prog 13 #[.pointer (some ⟨m, 0, none⟩), .int .u64 (a0 : Int), .int .u64 (size : Int), .int .i64 p, .slice a len cap] w fun e w' =>
      e = .returned (.int .i64 20) ∧ w' = w := by
  have hle0 := r.le
  have hmx := r.max
  clear h r
  have hm' : (a0 : Int) % 4096 = 0 := by omega
  have x2 : ((size : Int) == 0) = false := by simp; omega
  have x3 : ¬ (140737488355328 : Int) < (a0 : Int) := by omega
  have x4 : ¬ (140737488355328 - (a0 : Int)) < (size : Int) := by omega
  have x5 : ¬ (size : Int) < (len : Int) := by omega
  have x6 : ¬ p < 1 := by omega
  have x7 : 7 < p := by omega
  go_enter Try.func13, Try.ntmps13
  go_wp2_with fail
  go_ret
  exact ⟨rfl, rfl⟩

set_option maxRecDepth 20000 in
set_option maxHeartbeats 3200000 in
theorem rmap_no8 (m : Nat) (S : Mm) (F : Nat → Prop) (a0 size : Nat) (p : Int) (a : Option Addr) (len cap : Nat) (bs : List Int) (w : World) (h : RM w m S F) (ha : a0 ≤ 18446744073709551615) (hs : size ≤ 18446744073709551615)
    (r : Rd w a len cap bs) (hp0 : -9223372036854775808 ≤ p) (hp1 : p ≤ 9223372036854775807) (h1 : a0 % 4096 = 0) (h2 : 0 < size) (h4 : a0 + size ≤ 140737488355328) (h5 : len ≤ size) (h6 : 1 ≤ p) (h7 : p ≤ 7) (h8 : (bits .and .i64 p 2 != 0) = true) (h9 : (bits .and .i64 p 1 != 0) = true) :
    Calls Try.prog 13 #[.pointer (some ⟨m, 0, none⟩), .int .u64 (a0 : Int), .int .u64 (size : Int), .int .i64 p, .slice a len cap] w fun e w' =>
      e = .returned (.int .i64 20) ∧ w' = w := by
  have hle0 := r.le
  have hmx := r.max
  clear h r
  have hm' : (a0 : Int) % 4096 = 0 := by omega
  have x2 : ((size : Int) == 0) = false := by simp; omega
  have x3 : ¬ (140737488355328 : Int) < (a0 : Int) := by omega
  have x4 : ¬ (140737488355328 - (a0 : Int)) < (size : Int) := by omega
  have x5 : ¬ (size : Int) < (len : Int) := by omega
  have x6 : ¬ p < 1 := by omega
  have x7 : ¬ 7 < p := by omega
  go_enter Try.func13, Try.ntmps13
  go_wp2_with fail
  go_ret
  exact ⟨rfl, rfl⟩

set_option maxRecDepth 20000 in
set_option maxHeartbeats 3200000 in
theorem rmap_no9 (m : Nat) (S : Mm) (F : Nat → Prop) (a0 size : Nat) (p : Int) (a : Option Addr) (len cap : Nat) (bs : List Int) (w : World) (h : RM w m S F) (ha : a0 ≤ 18446744073709551615) (hs : size ≤ 18446744073709551615)
    (r : Rd w a len cap bs) (hp0 : -9223372036854775808 ≤ p) (hp1 : p ≤ 9223372036854775807) (h1 : a0 % 4096 = 0) (h2 : 0 < size) (h4 : a0 + size ≤ 140737488355328) (h5 : len ≤ size) (h6 : 1 ≤ p) (h7 : p ≤ 7) (hbits : (bits .and .i64 p 2 != 0) = false ∨ ((bits .and .i64 p 2 != 0) = true ∧ (bits .and .i64 p 1 != 0) = false)) (h9 : ¬ (size + 4095) / 4096 ≤ 65536) :
    Calls Try.prog 13 #[.pointer (some ⟨m, 0, none⟩), .int .u64 (a0 : Int), .int .u64 (size : Int), .int .i64 p, .slice a len cap] w fun e w' =>
      e = .returned (.int .i64 20) ∧ w' = w := by
  have hle0 := r.le
  have hmx := r.max
  clear h r
  have hm' : (a0 : Int) % 4096 = 0 := by omega
  have x2 : ((size : Int) == 0) = false := by simp; omega
  have x3 : ¬ (140737488355328 : Int) < (a0 : Int) := by omega
  have x4 : ¬ (140737488355328 - (a0 : Int)) < (size : Int) := by omega
  have x5 : ¬ (size : Int) < (len : Int) := by omega
  have x6 : ¬ p < 1 := by omega
  have x7 : ¬ 7 < p := by omega
  have hn' : ((size : Int) + 4096 - 1) / 4096 = (((size + 4095) / 4096 : Nat) : Int) := by omega
  have hnb : (size + 4095) / 4096 ≤ 34359738368 := by omega
  generalize (size + 4095) / 4096 = n at *
  have x8 : decide ((268435456 : Int) < (n : Int) * 4096) = true := by simp; omega
  rcases hbits with hb2 | ⟨hb2, hb1⟩
  · go_enter Try.func13, Try.ntmps13
    go_wp2_with fail
    go_ret
    exact ⟨rfl, rfl⟩
  · go_enter Try.func13, Try.ntmps13
    go_wp2_with fail
    go_ret
    exact ⟨rfl, rfl⟩

set_option maxRecDepth 20000 in
set_option maxHeartbeats 3200000 in
theorem rmap_no10 (m : Nat) (S : Mm) (F : Nat → Prop) (a0 size : Nat) (p : Int) (a : Option Addr) (len cap : Nat) (bs : List Int) (w : World) (h : RM w m S F) (ha : a0 ≤ 18446744073709551615) (hs : size ≤ 18446744073709551615)
    (r : Rd w a len cap bs) (hp0 : -9223372036854775808 ≤ p) (hp1 : p ≤ 9223372036854775807) (h1 : a0 % 4096 = 0) (h2 : 0 < size) (h4 : a0 + size ≤ 140737488355328) (h5 : len ≤ size) (h6 : 1 ≤ p) (h7 : p ≤ 7) (hbits : (bits .and .i64 p 2 != 0) = false ∨ ((bits .and .i64 p 2 != 0) = true ∧ (bits .and .i64 p 1 != 0) = false)) (h9 : (size + 4095) / 4096 ≤ 65536) (h10 : ¬ S.count + (size + 4095) / 4096 ≤ 65536) :
    Calls Try.prog 13 #[.pointer (some ⟨m, 0, none⟩), .int .u64 (a0 : Int), .int .u64 (size : Int), .int .i64 p, .slice a len cap] w fun e w' =>
      e = .returned (.int .i64 20) ∧ w' = w := by
  have hle0 := r.le
  have hmx := r.max
  have HSz := hide (rsize_any m S F w h)
  have hcg := h.good.count
  clear h r
  have hm' : (a0 : Int) % 4096 = 0 := by omega
  have x2 : ((size : Int) == 0) = false := by simp; omega
  have x3 : ¬ (140737488355328 : Int) < (a0 : Int) := by omega
  have x4 : ¬ (140737488355328 - (a0 : Int)) < (size : Int) := by omega
  have x5 : ¬ (size : Int) < (len : Int) := by omega
  have x6 : ¬ p < 1 := by omega
  have x7 : ¬ 7 < p := by omega
  have hn' : ((size : Int) + 4096 - 1) / 4096 = (((size + 4095) / 4096 : Nat) : Int) := by omega
  have hnb : (size + 4095) / 4096 ≤ 34359738368 := by omega
  generalize (size + 4095) / 4096 = n at *
  have x8 : decide ((268435456 : Int) < (n : Int) * 4096) = false := by simp; omega
  have x9 : decide ((268435456 : Int) < ((S.count * 4096 : Nat) : Int) + (n : Int) * 4096) = true := by simp; omega
  rcases hbits with hb2 | ⟨hb2, hb1⟩
  · go_enter Try.func13, Try.ntmps13
    go_wp2_with fail
    refine HSz.out.mono ?_
    rintro e w' ⟨rfl, rfl⟩
    clear HSz
    go_wp2_with fail
    go_ret
    exact ⟨rfl, rfl⟩
  · go_enter Try.func13, Try.ntmps13
    go_wp2_with fail
    refine HSz.out.mono ?_
    rintro e w' ⟨rfl, rfl⟩
    clear HSz
    go_wp2_with fail
    go_ret
    exact ⟨rfl, rfl⟩

set_option maxRecDepth 20000 in
set_option maxHeartbeats 3200000 in
theorem rmap_no11 (m : Nat) (S : Mm) (F : Nat → Prop) (a0 size : Nat) (p : Int) (a : Option Addr) (len cap : Nat) (bs : List Int) (w : World) (h : RM w m S F) (ha : a0 ≤ 18446744073709551615) (hs : size ≤ 18446744073709551615)
    (r : Rd w a len cap bs) (hp0 : -9223372036854775808 ≤ p) (hp1 : p ≤ 9223372036854775807) (h1 : a0 % 4096 = 0) (h2 : 0 < size) (h4 : a0 + size ≤ 140737488355328) (h5 : len ≤ size) (h6 : 1 ≤ p) (h7 : p ≤ 7) (hbits : (bits .and .i64 p 2 != 0) = false ∨ ((bits .and .i64 p 2 != 0) = true ∧ (bits .and .i64 p 1 != 0) = false)) (h10 : S.count + (size + 4095) / 4096 ≤ 65536) (h11 : ¬ ∀ i, a0 / 4096 ≤ i → i < a0 / 4096 + (size + 4095) / 4096 → S.perm i = 0) :
    Calls Try.prog 13 #[.pointer (some ⟨m, 0, none⟩), .int .u64 (a0 : Int), .int .u64 (size : Int), .int .i64 p, .slice a len cap] w fun e w' =>
      e = .returned (.int .i64 20) ∧ w' = w := by
  have hle0 := r.le
  have hmx := r.max
  have HSz := hide (rsize_any m S F w h)
  have hcg := h.good.count
  have HM := hide h
  clear h r
  have hm' : (a0 : Int) % 4096 = 0 := by omega
  have x2 : ((size : Int) == 0) = false := by simp; omega
  have x3 : ¬ (140737488355328 : Int) < (a0 : Int) := by omega
  have x4 : ¬ (140737488355328 - (a0 : Int)) < (size : Int) := by omega
  have x5 : ¬ (size : Int) < (len : Int) := by omega
  have x6 : ¬ p < 1 := by omega
  have x7 : ¬ 7 < p := by omega
  have hn' : ((size : Int) + 4096 - 1) / 4096 = (((size + 4095) / 4096 : Nat) : Int) := by omega
  have hnb : (size + 4095) / 4096 ≤ 34359738368 := by omega
  have hf' : (a0 : Int) / 4096 = ((a0 / 4096 : Nat) : Int) := by omega
  have hfb : a0 / 4096 ≤ 34359738368 := by omega
  have HNo := hide h11
  clear h11
  generalize a0 / 4096 = f at *
  generalize (size + 4095) / 4096 = n at *
  have x8 : decide ((268435456 : Int) < (n : Int) * 4096) = false := by simp; omega
  have x9 : decide ((268435456 : Int) < ((S.count * 4096 : Nat) : Int) + (n : Int) * 4096) = false := by simp; omega
  rcases hbits with hb2 | ⟨hb2, hb1⟩
  · go_enter Try.func13, Try.ntmps13
    go_wp2_with fail
    refine HSz.out.mono ?_
    rintro e w' ⟨rfl, rfl⟩
    clear HSz
    go_wp2
    obtain ⟨b0, pb0, db0, hX0⟩ := HM.out
    have hc0 := hX0.cell
    have HX0 := hide hX0
    clear hX0
    go_loop [12] (fun v => ∃ k : Nat, k ≤ n ∧ v = .int .u64 (k : Int) ∧ ∀ j, f ≤ j → j < f + k → S.perm j = 0) (fun v => n - (intOf v).toNat)
    case atStart => exact ⟨0, by omega, rfl, fun j h1 h2 => by omega⟩
    case round =>
      obtain ⟨k, hk, rfl, hall⟩ := hrel
      have HA := hide hall
      clear hall
      by_cases hlt : k < n
      · by_cases hz : S.perm (f + k) = 0
        · have hr := HX0.out.look0 (f + k) (by omega) hz
          rw [show ((f + k : Nat) : Int) = (f : Int) + (k : Int) by omega] at hr
          have HZ := hide hz
          clear hz
          go_wp2
          go_round
          case rel =>
            refine ⟨k + 1, by omega, by go_num, fun j h1 h2 => ?_⟩
            by_cases hjk : j = f + k
            · subst hjk; exact HZ.out
            · exact HA.out j h1 (by omega)
          case measure => simp [intOf]; omega
        · have hr := HX0.out.look (f + k) (by omega) hz
          rw [show ((f + k : Nat) : Int) = (f : Int) + (k : Int) by omega] at hr
          generalize pb0 (f + k) = P at hr
          clear hz
          go_wp2
          go_ret
          exact ⟨rfl, rfl⟩
      · exact absurd (fun j h1 h2 => HA.out j h1 (by omega)) HNo.out
  · go_enter Try.func13, Try.ntmps13
    go_wp2_with fail
    refine HSz.out.mono ?_
    rintro e w' ⟨rfl, rfl⟩
    clear HSz
    go_wp2
    obtain ⟨b0, pb0, db0, hX0⟩ := HM.out
    have hc0 := hX0.cell
    have HX0 := hide hX0
    clear hX0
    go_loop [12] (fun v => ∃ k : Nat, k ≤ n ∧ v = .int .u64 (k : Int) ∧ ∀ j, f ≤ j → j < f + k → S.perm j = 0) (fun v => n - (intOf v).toNat)
    case atStart => exact ⟨0, by omega, rfl, fun j h1 h2 => by omega⟩
    case round =>
      obtain ⟨k, hk, rfl, hall⟩ := hrel
      have HA := hide hall
      clear hall
      by_cases hlt : k < n
      · by_cases hz : S.perm (f + k) = 0
        · have hr := HX0.out.look0 (f + k) (by omega) hz
          rw [show ((f + k : Nat) : Int) = (f : Int) + (k : Int) by omega] at hr
          have HZ := hide hz
          clear hz
          go_wp2
          go_round
          case rel =>
            refine ⟨k + 1, by omega, by go_num, fun j h1 h2 => ?_⟩
            by_cases hjk : j = f + k
            · subst hjk; exact HZ.out
            · exact HA.out j h1 (by omega)
          case measure => simp [intOf]; omega
        · have hr := HX0.out.look (f + k) (by omega) hz
          rw [show ((f + k : Nat) : Int) = (f : Int) + (k : Int) by omega] at hr
          generalize pb0 (f + k) = P at hr
          clear hz
          go_wp2
          go_ret
          exact ⟨rfl, rfl⟩
      · exact absurd (fun j h1 h2 => HA.out j h1 (by omega)) HNo.out

theorem perm_bits {p : Int} (h6 : 1 ≤ p) (h7 : p ≤ 7) : (PermOk p ∧ ((bits .and .i64 p 2 == 0) = true ∨ ((bits .and .i64 p 2 == 0) = false ∧ (bits .and .i64 p 1 == 0) = true))) ∨ (¬ PermOk p ∧ (bits .and .i64 p 2 != 0) = true ∧ (bits .and .i64 p 1 != 0) = true) := by
  have h : p = 1 ∨ p = 2 ∨ p = 3 ∨ p = 4 ∨ p = 5 ∨ p = 6 ∨ p = 7 := by omega
  rcases h with rfl | rfl | rfl | rfl | rfl | rfl | rfl <;> decide

theorem rmap_any (m : Nat) (S : Mm) (F : Nat → Prop) (a0 size : Nat) (p : Int) (a : Option Addr) (len cap : Nat) (bs : List Int) (w : World) (h : RM w m S F) (ha : a0 ≤ 18446744073709551615) (hs : size ≤ 18446744073709551615)
    (hp0 : -9223372036854775808 ≤ p) (hp1 : p ≤ 9223372036854775807) (r : Rd w a len cap bs) (hsep : 0 < len → ∀ x, a = some x → ¬ F x.block) :
    Calls Try.prog 13 #[.pointer (some ⟨m, 0, none⟩), .int .u64 (a0 : Int), .int .u64 (size : Int), .int .i64 p, .slice a len cap] w fun e w' =>
      e = .returned (.int .i64 (if mapB S a0 size p len = true then 0 else 20)) ∧ ∃ F', RM w' m (mappedTo S a0 size p bs) F' ∧ Went F w F' w' := by
  have hbl := r.length
  have no : ¬ MapOk S a0 size p len → (Calls Try.prog 13 #[.pointer (some ⟨m, 0, none⟩), .int .u64 (a0 : Int), .int .u64 (size : Int), .int .i64 p, .slice a len cap] w fun e w' => e = .returned (.int .i64 20) ∧ w' = w) →
      Calls Try.prog 13 #[.pointer (some ⟨m, 0, none⟩), .int .u64 (a0 : Int), .int .u64 (size : Int), .int .i64 p, .slice a len cap] w fun e w' =>
        e = .returned (.int .i64 (if mapB S a0 size p len = true then 0 else 20)) ∧ ∃ F', RM w' m (mappedTo S a0 size p bs) F' ∧ Went F w F' w' := fun hn hc => by
    unfold mappedTo
    rw [hbl, mapB_no hn]
    refine hc.mono ?_
    rintro e w' ⟨rfl, rfl⟩
    exact ⟨rfl, F, h, Went.refl _ _⟩
  by_cases h1 : a0 % 4096 = 0
  · by_cases h2 : 0 < size
    · by_cases h4 : a0 + size ≤ 140737488355328
      · by_cases h5 : len ≤ size
        · by_cases h6 : 1 ≤ p
          · by_cases h7 : p ≤ 7
            · rcases perm_bits h6 h7 with ⟨hpo, hb⟩ | ⟨hpo, hb2, hb1⟩
              · have hb' : (bits .and .i64 p 2 != 0) = false ∨ ((bits .and .i64 p 2 != 0) = true ∧ (bits .and .i64 p 1 != 0) = false) := by
                  unfold bne
                  rcases hb with hb | ⟨hb, hb'⟩
                  · exact Or.inl (by rw [hb]; rfl)
                  · exact Or.inr ⟨by rw [hb]; rfl, by rw [hb']; rfl⟩
                by_cases h9 : (size + 4095) / 4096 ≤ 65536
                · by_cases h10 : S.count + (size + 4095) / 4096 ≤ 65536
                  · by_cases h11 : ∀ i, a0 / 4096 ≤ i → i < a0 / 4096 + (size + 4095) / 4096 → S.perm i = 0
                    · have hok : MapOk S a0 size p len := ⟨⟨h1, h2, h4⟩, hpo, h5, h10, h11⟩
                      unfold mappedTo
                      rw [hbl, mapB_yes hok]
                      exact rmap_yes m S F a0 size p a len cap bs w h r hsep hok hb
                    · exact no (fun hk => h11 hk.2.2.2.2) (rmap_no11 m S F a0 size p a len cap bs w h ha hs r hp0 hp1 h1 h2 h4 h5 h6 h7 hb' h10 h11)
                  · exact no (fun hk => h10 hk.2.2.2.1) (rmap_no10 m S F a0 size p a len cap bs w h ha hs r hp0 hp1 h1 h2 h4 h5 h6 h7 hb' h9 h10)
                · exact no (fun hk => h9 (by have := hk.2.2.2.1; omega)) (rmap_no9 m S F a0 size p a len cap bs w h ha hs r hp0 hp1 h1 h2 h4 h5 h6 h7 hb' h9)
              · exact no (fun hk => hpo hk.2.1) (rmap_no8 m S F a0 size p a len cap bs w h ha hs r hp0 hp1 h1 h2 h4 h5 h6 h7 hb2 hb1)
            · exact no (fun hk => h7 hk.2.1.bd.2) (rmap_no7 m S F a0 size p a len cap bs w h ha hs r hp0 hp1 h1 h2 h4 h5 h6 h7)
          · exact no (fun hk => h6 hk.2.1.bd.1) (rmap_no6 m S F a0 size p a len cap bs w h ha hs r hp0 hp1 h1 h2 h4 h5 h6)
        · exact no (fun hk => h5 hk.2.2.1) (rmap_no5 m S F a0 size p a len cap bs w h ha hs r hp0 hp1 h1 h2 h4 h5)
      · by_cases h3 : a0 ≤ 140737488355328
        · exact no (fun hk => h4 hk.1.2.2) (rmap_no4 m S F a0 size p a len cap bs w h ha hs r hp0 hp1 h1 h2 h3 h4)
        · exact no (fun hk => h4 hk.1.2.2) (rmap_no3 m S F a0 size p a len cap bs w h ha hs r hp0 hp1 h1 h2 h3)
    · exact no (fun hk => h2 hk.1.2.1) (rmap_no2 m S F a0 size p a len cap bs w h ha hs r hp0 hp1 h1 h2)
  · exact no (fun hk => h1 hk.1.1) (rmap_no1 m S F a0 size p a len cap bs w h ha hs r hp0 hp1 h1)

end Go.Proofs.Ytggmeopohpbmlaa
