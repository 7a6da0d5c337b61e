/- Contracts of package span's calls and of the document's own: each returns what the plain functions say. -/
import Derived.Test.YtilipopcphiggaaSpanPlain
namespace Go.Proofs.Ytilipopcphiggaa
open Go.RowKit
set_option linter.unusedVariables false

theorem log2_any (a : Int) (w : World) (h0 : 0 ≤ a) (h1 : a ≤ 18446744073709551615) :
    Calls Try.prog 15 #[.int .u64 a] w fun e w' => e = .returned (.int .i64 (lg a)) ∧ w' = w := by
  have g0 := lg_lo a
  have g1 := lg_hi h1
  go_enter Try.func15, Try.ntmps15
  go_wp2
  go_loop [0, 3] (fun b h => ∃ y : Int, 0 ≤ y ∧ y ≤ a ∧ b = .int .u64 y ∧ h = .int .i64 (lg a - lg y - 1)) (fun b _ => (intOf b).toNat)
  case atStart => exact ⟨a, h0, Int.le_refl _, rfl, by rw [Int.sub_self]; rfl⟩
  case round =>
    obtain ⟨y, y0, y1, rfl, rfl⟩ := hrel
    have f0 := lg_lo y
    have f1 := lg_hi (a := y) (by omega)
    by_cases hz : y = 0
    · subst hz
      rw [lg_zero]
      have e : lg a - (-1) - 1 = lg a := by omega
      rw [e]
      clear e
      go_wp2
      go_ret
      exact ⟨rfl, rfl⟩
    · have HL := hide (lg_half (a := y) (by omega))
      go_wp2
      go_round
      case rel => exact ⟨y / 2, by omega, by omega, by go_num, by rw [HL.out]; go_num⟩
      case measure => simp [intOf]; omega

theorem rlog2_any (a : Int) (w : World) (h0 : 0 ≤ a) (h1 : a ≤ 18446744073709551615) :
    Calls Try.prog 16 #[.int .u64 a] w fun e w' => e = .returned (.int .i64 (lg a)) ∧ w' = w := by
  have g0 := lg_lo a
  have g1 := lg_hi h1
  go_enter Try.func16, Try.ntmps16
  go_wp2
  go_loop [0, 3] (fun b h => ∃ y : Int, 0 ≤ y ∧ y ≤ a ∧ b = .int .u64 y ∧ h = .int .i64 (lg a - lg y - 1)) (fun b _ => (intOf b).toNat)
  case atStart => exact ⟨a, h0, Int.le_refl _, rfl, by rw [Int.sub_self]; rfl⟩
  case round =>
    obtain ⟨y, y0, y1, rfl, rfl⟩ := hrel
    have f0 := lg_lo y
    have f1 := lg_hi (a := y) (by omega)
    by_cases hz : y = 0
    · subst hz
      rw [lg_zero]
      have e : lg a - (-1) - 1 = lg a := by omega
      rw [e]
      clear e
      go_wp2
      go_ret
      exact ⟨rfl, rfl⟩
    · have HL := hide (lg_half (a := y) (by omega))
      go_wp2
      go_round
      case rel => exact ⟨y / 2, by omega, by omega, by go_num, by rw [HL.out]; go_num⟩
      case measure => simp [intOf]; omega

theorem pow2_any (a : Int) (w : World) (h0 : 0 ≤ a) (h1 : a ≤ 18446744073709551615) :
    Calls Try.prog 13 #[.int .u64 a] w fun e w' => e = .returned (.bool (isPow a)) ∧ w' = w := by
  by_cases hz : a = 0
  · subst hz
    have e : isPow 0 = false := by decide
    rw [e]
    go_enter Try.func13, Try.ntmps13
    go_wp2
    go_ret
    exact ⟨rfl, rfl⟩
  · have g0 := lg_nonneg (a := a) (by omega)
    have g1 := lg_hi h1
    have p0 := pow_lg_le (a := a) (by omega)
    have p1 : (0 : Int) < 2 ^ (lg a).toNat := Int.pow_pos (by decide)
    have hc := log2_any a w h0 h1
    go_enter Try.func13, Try.ntmps13
    go_wp2_with (go_at_call 15; refine hc.mono ?_; rintro e w' ⟨rfl, rfl⟩)
    go_ret
    refine ⟨ret_bool ?_, rfl⟩
    unfold isPow
    rw [Bool.eq_iff_iff]
    simp only [Bool.and_eq_true, bne_iff_ne, ne_eq, beq_iff_eq, decide_eq_true_eq]
    omega

theorem rpow2_any (a : Int) (w : World) (h0 : 0 ≤ a) (h1 : a ≤ 18446744073709551615) :
    Calls Try.prog 14 #[.int .u64 a] w fun e w' => e = .returned (.bool (isPow a)) ∧ w' = w := by
  by_cases hz : a = 0
  · subst hz
    have e : isPow 0 = false := by decide
    rw [e]
    go_enter Try.func14, Try.ntmps14
    go_wp2
    go_ret
    exact ⟨rfl, rfl⟩
  · have H := hide (and_pred (a := a) (by omega) h1)
    go_enter Try.func14, Try.ntmps14
    go_wp2
    go_ret
    refine ⟨ret_bool ?_, rfl⟩
    rw [← H.out]
    simp [hz]

theorem ret_sum {l : List Int} (h : l.sum ≤ 18446744073709551615) : Ending.returned (.tuple #[.int .u64 l.sum, .bool true]) = .returned (.tuple #[.int .u64 (sumOf l), .bool (sumOk l)]) := by
  unfold sumOf sumOk; rw [if_pos h, decide_eq_true h]
theorem ret_none {l : List Int} (h : ¬ l.sum ≤ 18446744073709551615) : Ending.returned (.tuple #[.int .u64 0, .bool false]) = .returned (.tuple #[.int .u64 (sumOf l), .bool (sumOk l)]) := by
  unfold sumOf sumOk; rw [if_neg h, decide_eq_false h]

theorem add_any (a : Option Addr) (len cap : Nat) (xs : List Int) (w : World) (r : Rn .u64 18446744073709551615 w a len cap xs) :
    Calls Try.prog 11 #[.slice a len cap] w fun e w' => e = .returned (.tuple #[.int .u64 (sumOf xs), .bool (sumOk xs)]) ∧ w' = w := by
  have hl := r.length
  have hle := r.le
  have hmx := r.max
  have hnn : ∀ x ∈ xs, 0 ≤ x := fun x hx => (r.fit x hx).1
  go_enter Try.func11, Try.ntmps11
  go_wp2
  go_loop [4, 9] (fun s i => ∃ k : Nat, k ≤ len ∧ (xs.take k).sum ≤ 18446744073709551615 ∧ i = .int .i64 k ∧ s = .int .u64 (xs.take k).sum) (fun _ i => len - (intOf i).toNat)
  case atStart => exact ⟨0, Nat.zero_le _, by simp, rfl, rfl⟩
  case round =>
    obtain ⟨k, hk, hle64, rfl, rfl⟩ := hrel
    have hn0 : 0 ≤ (xs.take k).sum := sum_nonneg fun x hx => hnn x (List.mem_of_mem_take hx)
    by_cases hlt : k < len
    · obtain ⟨b, o, rfl, hc⟩ := r.addr (by omega)
      obtain ⟨y, hy⟩ : ∃ y, y = xs[k]?.getD 0 := ⟨_, rfl⟩
      have hcell : w.cell? ⟨b, o + k, none⟩ = some (.int .u64 y) := by rw [hc k hlt, hy]; simp
      have hxb := r.at k
      rw [← hy] at hxb
      have HT : Hid ((xs.take (k + 1)).sum = (xs.take k).sum + y) := by rw [hy]; exact sum_take_succ xs k (by omega)
      have HL := hide (sum_take_le hnn (k + 1))
      have hroom := not_u64_room hn0 hle64
      clear hc r hy hnn
      generalize (xs.take k).sum = S at *
      by_cases hf : S + y ≤ 18446744073709551615
      · go_wp2
        go_round
        case rel => exact ⟨k + 1, by omega, by rw [HT.out]; exact hf, by go_num, by rw [HT.out]⟩
        case measure => simp [intOf]; omega
      · go_wp2
        go_ret2
        exact ⟨ret_none (by have h1 := HT.out; have h2 := HL.out; omega), rfl⟩
    · have HE : Hid (xs.take k = xs) := List.take_of_length_le (by omega)
      go_wp2
      go_ret2
      exact ⟨by rw [HE.out]; exact ret_sum (by rw [← HE.out]; exact hle64), rfl⟩

theorem radd_any (a : Option Addr) (len cap : Nat) (xs : List Int) (w : World) (r : Rn .u64 18446744073709551615 w a len cap xs) :
    Calls Try.prog 12 #[.slice a len cap] w fun e w' => e = .returned (.tuple #[.int .u64 (sumOf xs), .bool (sumOk xs)]) ∧ w' = w := by
  have hl := r.length
  have hle := r.le
  have hmx := r.max
  have hnn : ∀ x ∈ xs, 0 ≤ x := fun x hx => (r.fit x hx).1
  go_enter Try.func12, Try.ntmps12
  go_wp2
  go_loop [4, 5] (fun s i => ∃ k : Nat, k ≤ len ∧ (xs.take k).sum ≤ 18446744073709551615 ∧ i = .int .i64 k ∧ s = .int .u64 (xs.take k).sum) (fun _ i => len - (intOf i).toNat)
  case atStart => exact ⟨0, Nat.zero_le _, by simp, rfl, rfl⟩
  case round =>
    obtain ⟨k, hk, hle64, rfl, rfl⟩ := hrel
    have hn0 : 0 ≤ (xs.take k).sum := sum_nonneg fun x hx => hnn x (List.mem_of_mem_take hx)
    by_cases hlt : k < len
    · obtain ⟨b, o, rfl, hc⟩ := r.addr (by omega)
      obtain ⟨y, hy⟩ : ∃ y, y = xs[k]?.getD 0 := ⟨_, rfl⟩
      have hcell : w.cell? ⟨b, o + k, none⟩ = some (.int .u64 y) := by rw [hc k hlt, hy]; simp
      have hxb := r.at k
      rw [← hy] at hxb
      have HT : Hid ((xs.take (k + 1)).sum = (xs.take k).sum + y) := by rw [hy]; exact sum_take_succ xs k (by omega)
      have HL := hide (sum_take_le hnn (k + 1))
      clear hc r hy hnn
      generalize (xs.take k).sum = S at *
      by_cases hf : S + y ≤ 18446744073709551615
      · go_wp2
        go_round
        case rel => exact ⟨k + 1, by omega, by rw [HT.out]; exact hf, by go_num, by rw [HT.out]⟩
        case measure => simp [intOf]; omega
      · have hw : IntKind.u64.wrap (S + y) < S := by rw [IntKind.wrap_u64]; omega
        go_wp2
        go_ret2
        exact ⟨ret_none (by have h1 := HT.out; have h2 := HL.out; omega), rfl⟩
    · have HE : Hid (xs.take k = xs) := List.take_of_length_le (by omega)
      go_wp2
      go_ret2
      exact ⟨by rw [HE.out]; exact ret_sum (by rw [← HE.out]; exact hle64), rfl⟩

theorem within_any (a n c : Int) (w : World) (a0 : 0 ≤ a) (a1 : a ≤ 18446744073709551615) (n0 : 0 ≤ n) (n1 : n ≤ 18446744073709551615) (c0 : 0 ≤ c) (c1 : c ≤ 18446744073709551615) :
    Calls Try.prog 17 #[.int .u64 a, .int .u64 n, .int .u64 c] w fun e w' => e = .returned (.bool (withinOf a n c)) ∧ w' = w := by
  by_cases h : a ≤ c
  · go_enter Try.func17, Try.ntmps17
    go_wp2
    go_ret
    exact ⟨ret_bool (by unfold withinOf; rw [Bool.eq_iff_iff]; simp; omega), rfl⟩
  · go_enter Try.func17, Try.ntmps17
    go_wp2
    go_ret
    exact ⟨ret_bool (by unfold withinOf; rw [Bool.eq_iff_iff]; simp; omega), rfl⟩

theorem rwithin_any (a n c : Int) (w : World) (a0 : 0 ≤ a) (a1 : a ≤ 18446744073709551615) (n0 : 0 ≤ n) (n1 : n ≤ 18446744073709551615) (c0 : 0 ≤ c) (c1 : c ≤ 18446744073709551615) :
    Calls Try.prog 18 #[.int .u64 a, .int .u64 n, .int .u64 c] w fun e w' => e = .returned (.bool (withinOf a n c)) ∧ w' = w := by
  by_cases h : a ≤ c
  · go_enter Try.func18, Try.ntmps18
    go_wp2
    go_ret
    exact ⟨ret_bool (by unfold withinOf; rw [Bool.eq_iff_iff]; simp; omega), rfl⟩
  · go_enter Try.func18, Try.ntmps18
    go_wp2
    go_ret
    exact ⟨ret_bool (by unfold withinOf; rw [Bool.eq_iff_iff]; simp; omega), rfl⟩

theorem overlap_any (a n b m : Int) (w : World) (a0 : 0 ≤ a) (a1 : a ≤ 18446744073709551615) (n0 : 0 ≤ n) (n1 : n ≤ 18446744073709551615) (b0 : 0 ≤ b) (b1 : b ≤ 18446744073709551615) (m0 : 0 ≤ m) (m1 : m ≤ 18446744073709551615) :
    Calls Try.prog 19 #[.int .u64 a, .int .u64 n, .int .u64 b, .int .u64 m] w fun e w' => e = .returned (.bool (overlapOf a n b m)) ∧ w' = w := by
  by_cases h : a ≤ b
  · by_cases hm : 0 < m
    · go_enter Try.func19, Try.ntmps19
      go_wp2
      go_ret
      exact ⟨ret_bool (by unfold overlapOf; rw [Bool.eq_iff_iff]; simp; omega), rfl⟩
    · go_enter Try.func19, Try.ntmps19
      go_wp2
      go_ret
      exact ⟨ret_bool (by unfold overlapOf; rw [Bool.eq_iff_iff]; simp; omega), rfl⟩
  · by_cases hm : 0 < n
    · go_enter Try.func19, Try.ntmps19
      go_wp2
      go_ret
      exact ⟨ret_bool (by unfold overlapOf; rw [Bool.eq_iff_iff]; simp; omega), rfl⟩
    · go_enter Try.func19, Try.ntmps19
      go_wp2
      go_ret
      exact ⟨ret_bool (by unfold overlapOf; rw [Bool.eq_iff_iff]; simp; omega), rfl⟩

theorem roverlap_any (a n b m : Int) (w : World) (a0 : 0 ≤ a) (a1 : a ≤ 18446744073709551615) (n0 : 0 ≤ n) (n1 : n ≤ 18446744073709551615) (b0 : 0 ≤ b) (b1 : b ≤ 18446744073709551615) (m0 : 0 ≤ m) (m1 : m ≤ 18446744073709551615) :
    Calls Try.prog 20 #[.int .u64 a, .int .u64 n, .int .u64 b, .int .u64 m] w fun e w' => e = .returned (.bool (overlapOf a n b m)) ∧ w' = w := by
  by_cases hn : n = 0
  · subst hn
    go_enter Try.func20, Try.ntmps20
    go_wp2
    go_ret
    exact ⟨rfl, rfl⟩
  · by_cases hm : m = 0
    · subst hm
      go_enter Try.func20, Try.ntmps20
      go_wp2
      go_ret
      exact ⟨ret_bool (by unfold overlapOf; rw [Bool.eq_iff_iff]; simp), rfl⟩
    · have hn' : (n == 0) = false := by simp [hn]
      have hm' : (m == 0) = false := by simp [hm]
      by_cases h : a ≤ b
      · go_enter Try.func20, Try.ntmps20
        go_wp2
        go_ret
        exact ⟨ret_bool (by unfold overlapOf; rw [Bool.eq_iff_iff]; simp; omega), rfl⟩
      · go_enter Try.func20, Try.ntmps20
        go_wp2
        go_ret
        exact ⟨ret_bool (by unfold overlapOf; rw [Bool.eq_iff_iff]; simp; omega), rfl⟩

end Go.Proofs.Ytilipopcphiggaa
