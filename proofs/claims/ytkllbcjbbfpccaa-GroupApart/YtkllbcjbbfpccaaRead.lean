/- Contracts of le.within, le.get, le.U16, le.U32, le.U64 and of the document's Num: each returns what the bytes from the offset on are as a number, or 0 and false; the world stays. -/
import Derived.Test.YtkllbcjbbfpccaaNums
import Derived.Test.YtkllbcjbbfpccaaPlain
import Derived.WalkKit
namespace Go.Proofs.Ytkllbcjbbfpccaa
open Go.RowKit
set_option linter.unusedVariables false

/-- A slice of bytes that is read: its elements are the bytes bs. -/
structure Rd (w : World) (a : Option Addr) (len cap : Nat) (bs : List Int) : Prop where
  length : bs.length = len
  le : len ≤ cap
  max : cap ≤ 9223372036854775807
  bytes : Bytes bs
  nil : a = none → cap = 0
  cell : ∀ x, a = some x → ∀ i, i < len → w.cell? (x.add i) = some (.int .u8 (bs.getD i 0))

theorem Rd.addr {w : World} {a : Option Addr} {len cap : Nat} {bs : List Int} (r : Rd w a len cap bs) (h : 0 < len) :
    ∃ b o, a = some ⟨b, o, none⟩ ∧ ∀ i, i < len → w.cell? ⟨b, o + i, none⟩ = some (.int .u8 (bs.getD i 0)) := by
  cases a with
  | none => have h1 := r.nil rfl; have h2 := r.le; omega
  | some x =>
    obtain ⟨b, o, spot⟩ := x
    have hs : spot = none := by simpa [Addr.add] using World.cell?_spot (r.cell _ rfl 0 h)
    subst hs
    exact ⟨b, o, rfl, fun i hi => by have := r.cell _ rfl i hi; rwa [show (⟨b, o, none⟩ : Addr).add i = ⟨b, o + i, none⟩ by unfold Addr.add; split <;> simp_all] at this⟩

theorem within_yes (a : Option Addr) (len cap : Nat) (off n : Int) (w : World) (hl : len ≤ 9223372036854775807) (ho : 0 ≤ off) (hn : 0 ≤ n) (h : off + n ≤ len) :
    Calls Try.prog 25 #[.slice a len cap, .int .u64 off, .int .u64 n] w fun e w' => e = .returned (.bool true) ∧ w' = w := by
  go_enter Try.func25, Try.ntmps25
  go_wp2
  go_ret
  exact ⟨ret_bool (by simp; omega), rfl⟩

theorem within_no (a : Option Addr) (len cap : Nat) (off n : Int) (w : World) (hl : len ≤ 9223372036854775807) (ho : 0 ≤ off) (ho' : off ≤ 18446744073709551615) (hn : 0 ≤ n) (hn' : n ≤ 18446744073709551615) (h : len < off + n) :
    Calls Try.prog 25 #[.slice a len cap, .int .u64 off, .int .u64 n] w fun e w' => e = .returned (.bool false) ∧ w' = w := by
  by_cases h1 : off ≤ len
  · go_enter Try.func25, Try.ntmps25
    go_wp2
    go_ret
    exact ⟨ret_bool (by simp; omega), rfl⟩
  · go_enter Try.func25, Try.ntmps25
    go_wp2
    go_ret
    exact ⟨rfl, rfl⟩

theorem get_yes (a : Option Addr) (len cap : Nat) (bs : List Int) (off n : Int) (w : World) (r : Rd w a len cap bs) (ho : 0 ≤ off) (hn : 1 ≤ n) (h8 : n ≤ 8) (h : off + n ≤ len) :
    Calls Try.prog 23 #[.slice a len cap, .int .u64 off, .int .u64 n] w fun e w' =>
      e = .returned (.tuple #[.int .u64 (num ((bs.drop off.toNat).take n.toNat)), .bool true]) ∧ w' = w := by
  obtain ⟨b, o, rfl, hc⟩ := r.addr (by omega)
  obtain ⟨f, rfl⟩ := Int.eq_ofNat_of_zero_le ho
  obtain ⟨m, rfl⟩ := Int.eq_ofNat_of_zero_le (show 0 ≤ n by omega)
  have hbl := r.length
  have hle := r.le
  have hmx := r.max
  have hby := r.bytes
  have hfc : ¬ cap = f := by omega
  have hm1 : m ≤ 8 := by omega
  have hm0 : 1 ≤ m := by omega
  have hfm : f + m ≤ len := by omega
  rw [Int.toNat_natCast, Int.toNat_natCast]
  have hseg : ∀ k, k < m → ((bs.drop f).take m)[k]?.getD 0 = bs[f + k]?.getD 0 := fun k hk => by simp [hk]
  have hsl : ((bs.drop f).take m).length = m := by simp; omega
  have hsb : Bytes ((bs.drop f).take m) := (hby.drop f).take m
  generalize hS : (bs.drop f).take m = S at *
  clear hS
  go_enter Try.func23, Try.ntmps23
  go_wp2_with (go_at_call 25; refine (within_yes _ _ _ _ _ _ (by omega) (by omega) (by omega) (by omega)).mono ?_; rintro e w' ⟨rfl, rfl⟩)
  go_loop [8, 23] (fun v i => ∃ k : Nat, k ≤ m ∧ i = .int .i64 k ∧ v = .int .u64 (num (S.take k))) (fun _ i => m - (intOf i).toNat)
  case atStart => exact ⟨0, Nat.zero_le _, rfl, rfl⟩
  case round =>
    obtain ⟨k, hk, rfl, rfl⟩ := hrel
    by_cases hlt : k < m
    · have hcell := hc (f + k) (by omega)
      rw [← Nat.add_assoc] at hcell
      have hb1 := hby.at (f + k)
      have HU : Hid (bits .or .u64 (num (S.take k)) (IntKind.u64.wrap (S[k]?.getD 0 * 2 ^ (8 * k))) = num (S.take (k + 1))) := num_up S k hsb (by omega) (by omega)
      have HE : Hid (S[k]?.getD 0 = bs[f + k]?.getD 0) := hseg k hlt
      clear hc hby r hseg hsb
      go_wp2
      go_round
      case rel => exact ⟨k + 1, by omega, by go_num, by rw [← HU.out, HE.out]⟩
      case measure => simp [intOf]; omega
    · go_wp2
      go_ret2
      exact ⟨ret_num (by rw [List.take_of_length_le (by omega)]), rfl⟩

theorem get_no (a : Option Addr) (len cap : Nat) (off n : Int) (w : World) (hl : len ≤ 9223372036854775807) (ho : 0 ≤ off) (ho' : off ≤ 18446744073709551615) (hn : 0 ≤ n) (hn' : n ≤ 18446744073709551615) (h : len < off + n) :
    Calls Try.prog 23 #[.slice a len cap, .int .u64 off, .int .u64 n] w fun e w' =>
      e = .returned (.tuple #[.int .u64 0, .bool false]) ∧ w' = w := by
  go_enter Try.func23, Try.ntmps23
  go_wp2_with (go_at_call 25; refine (within_no _ _ _ _ _ _ (by omega) (by omega) (by omega) (by omega) (by omega) (by omega)).mono ?_; rintro e w' ⟨rfl, rfl⟩)
  go_ret2
  exact ⟨rfl, rfl⟩

/-- What is read of the bytes bs from the offset on: n bytes, as a number; 0 and false where they don't all lie within. -/
def got (bs : List Int) (off : Int) (n : Nat) : Int := if off + n ≤ bs.length then num ((bs.drop off.toNat).take n) else 0
def has (bs : List Int) (off : Int) (n : Nat) : Bool := decide (off + n ≤ bs.length)

theorem got_nonneg {bs : List Int} (h : Bytes bs) (off : Int) (n : Nat) : 0 ≤ got bs off n := by
  unfold got; split
  · exact num_nonneg ((h.drop _).take _)
  · omega
theorem got_lt {bs : List Int} (h : Bytes bs) (off : Int) (n : Nat) : got bs off n < 2 ^ (8 * n) := by
  have hp : (0 : Int) < 2 ^ (8 * n) := Int.pow_pos (by decide)
  unfold got; split
  · have h1 := num_lt ((h.drop off.toNat).take n)
    have h2 : ((bs.drop off.toNat).take n).length ≤ n := List.length_take_le _ _
    rw [pow_256] at h1
    have h3 : (2 : Int) ^ (8 * ((bs.drop off.toNat).take n).length) ≤ 2 ^ (8 * n) := by
      have := Nat.pow_le_pow_right (n := 2) (by decide) (show 8 * ((bs.drop off.toNat).take n).length ≤ 8 * n by omega)
      exact_mod_cast this
    omega
  · omega

theorem get_any (a : Option Addr) (len cap : Nat) (bs : List Int) (off : Int) (n : Nat) (w : World) (r : Rd w a len cap bs) (ho : 0 ≤ off) (ho' : off ≤ 18446744073709551615) (hn : 1 ≤ n) (h8 : n ≤ 8) :
    Calls Try.prog 23 #[.slice a len cap, .int .u64 off, .int .u64 n] w fun e w' =>
      e = .returned (.tuple #[.int .u64 (got bs off n), .bool (has bs off n)]) ∧ w' = w := by
  have hb := r.length
  have h1 := r.le
  have h2 := r.max
  by_cases h : off + n ≤ len
  · have e1 : got bs off n = num ((bs.drop off.toNat).take n) := by unfold got; rw [if_pos (by omega)]
    have e2 : has bs off n = true := by unfold has; simp; omega
    rw [e1, e2]
    exact get_yes a len cap bs off n w r ho (by omega) (by omega) h
  · have e1 : got bs off n = 0 := by unfold got; rw [if_neg (by omega)]
    have e2 : has bs off n = false := by unfold has; simp; omega
    rw [e1, e2]
    exact get_no a len cap off n w (by omega) ho ho' (by omega) (by omega) (by omega)



theorem u32_any (a : Option Addr) (len cap : Nat) (bs : List Int) (off : Int) (w : World) (r : Rd w a len cap bs) (ho : 0 ≤ off) (ho' : off ≤ 18446744073709551615) :
    Calls Try.prog 18 #[.slice a len cap, .int .u64 off] w fun e w' =>
      e = .returned (.tuple #[.int .u32 (got bs off 4), .bool (has bs off 4)]) ∧ w' = w := by
  have h0 := got_nonneg r.bytes off 4
  have h1 := got_lt r.bytes off 4
  have e2 : (2 : Int) ^ (8 * 4) = 4294967296 := by decide
  rw [e2] at h1
  have hc := get_any a len cap bs off 4 w r ho ho' (by omega) (by omega)
  generalize got bs off 4 = g at *
  generalize has bs off 4 = t at *
  go_enter Try.func18, Try.ntmps18
  go_wp2_with (go_at_call 23; refine hc.mono ?_; rintro e w' ⟨rfl, rfl⟩)
  go_ret2
  exact ⟨rfl, rfl⟩



theorem num_yes (a : Option Addr) (len cap : Nat) (bs : List Int) (off n : Int) (w : World) (r : Rd w a len cap bs) (ho : 0 ≤ off) (hn : 1 ≤ n) (h8 : n ≤ 8) (h : off + n ≤ len) :
    Calls Try.prog 24 #[.slice a len cap, .int .u64 off, .int .i64 n] w fun e w' =>
      e = .returned (.tuple #[.int .u64 (num ((bs.drop off.toNat).take n.toNat)), .bool true]) ∧ w' = w := by
  obtain ⟨b, o, rfl, hc⟩ := r.addr (by omega)
  obtain ⟨f, rfl⟩ := Int.eq_ofNat_of_zero_le ho
  obtain ⟨m, rfl⟩ := Int.eq_ofNat_of_zero_le (show 0 ≤ n by omega)
  have hbl := r.length
  have hle := r.le
  have hmx := r.max
  have hby := r.bytes
  have hm1 : m ≤ 8 := by omega
  have hm0 : 1 ≤ m := by omega
  have hfm : f + m ≤ len := by omega
  rw [Int.toNat_natCast, Int.toNat_natCast]
  have hseg : ∀ k, k < m → ((bs.drop f).take m)[k]?.getD 0 = bs[f + k]?.getD 0 := fun k hk => by simp [hk]
  have hsl : ((bs.drop f).take m).length = m := by simp; omega
  have hsb : Bytes ((bs.drop f).take m) := (hby.drop f).take m
  generalize hS : (bs.drop f).take m = S at *
  clear hS
  go_enter Try.func24, Try.ntmps24
  go_wp2
  go_loop [8, 9] (fun v i => ∃ k : Nat, k ≤ m ∧ i = .int .i64 ((k : Int) - 1) ∧ v = .int .u64 (num (S.drop k))) (fun _ i => (intOf i + 1).toNat)
  case atStart => exact ⟨m, Nat.le_refl _, rfl, by rw [List.drop_eq_nil_of_le (by omega)]; rfl⟩
  case round =>
    obtain ⟨k, hk, rfl, rfl⟩ := hrel
    by_cases hlt : k = 0
    · subst hlt
      go_wp2
      go_ret2
      exact ⟨rfl, rfl⟩
    · obtain ⟨j, rfl⟩ : ∃ j, k = j + 1 := ⟨k - 1, by omega⟩
      have hcell := hc (f + j) (by omega)
      have hb1 := hby.at (f + j)
      have HU : Hid (bits .or .u64 (IntKind.u64.wrap (num (S.drop (j + 1)) * 256)) (S[j]?.getD 0) = num (S.drop j)) := num_down S j hsb (by omega) (by omega)
      have HE : Hid (S[j]?.getD 0 = bs[f + j]?.getD 0) := hseg j (by omega)
      clear hc hby r hseg hsb hlt
      have ej : ((j + 1 : Nat) : Int) - 1 = j := by omega
      rw [ej]
      clear ej
      go_wp2
      go_round
      case rel => exact ⟨j, by omega, by go_num, by rw [← HU.out, HE.out]⟩
      case measure => simp [intOf]

theorem num_no (a : Option Addr) (len cap : Nat) (off n : Int) (w : World) (hl : len ≤ 9223372036854775807) (ho : 0 ≤ off) (ho' : off ≤ 18446744073709551615) (hn : 0 ≤ n) (hn' : n ≤ 8) (h : len < off + n) :
    Calls Try.prog 24 #[.slice a len cap, .int .u64 off, .int .i64 n] w fun e w' =>
      e = .returned (.tuple #[.int .u64 0, .bool false]) ∧ w' = w := by
  by_cases h1 : off ≤ len
  · have h2 : (len : Int) - off < n := by omega
    go_enter Try.func24, Try.ntmps24
    go_wp2
    go_ret2
    exact ⟨rfl, rfl⟩
  · go_enter Try.func24, Try.ntmps24
    go_wp2
    go_ret2
    exact ⟨rfl, rfl⟩

theorem num_any (a : Option Addr) (len cap : Nat) (bs : List Int) (off : Int) (n : Nat) (w : World) (r : Rd w a len cap bs) (ho : 0 ≤ off) (ho' : off ≤ 18446744073709551615) (hn : 1 ≤ n) (h8 : n ≤ 8) :
    Calls Try.prog 24 #[.slice a len cap, .int .u64 off, .int .i64 n] w fun e w' =>
      e = .returned (.tuple #[.int .u64 (got bs off n), .bool (has bs off n)]) ∧ w' = w := by
  have hb := r.length
  have h1 := r.le
  have h2 := r.max
  by_cases h : off + n ≤ len
  · have e1 : got bs off n = num ((bs.drop off.toNat).take n) := by unfold got; rw [if_pos (by omega)]
    have e2 : has bs off n = true := by unfold has; simp; omega
    rw [e1, e2]
    exact num_yes a len cap bs off n w r ho (by omega) (by omega) h
  · have e1 : got bs off n = 0 := by unfold got; rw [if_neg (by omega)]
    have e2 : has bs off n = false := by unfold has; simp; omega
    rw [e1, e2]
    exact num_no a len cap off n w (by omega) ho ho' (by omega) (by omega) (by omega)

end Go.Proofs.Ytkllbcjbbfpccaa
