/- The document's decimal digits and fields filled with spaces: contracts of dec and wide. -/
import Derived.Test.YtmmcnkdefpfkiaaDoorArWrite
import Derived.Lib.ItoaNum
namespace Go.Proofs.YtmmcnkdefpfkiaaDoor
open Go.RowKit Go.Maps
set_option linter.unusedVariables false
set_option maxRecDepth 100000
set_option maxRecDepth 20000
set_option linter.unusedSimpArgs false

theorem dec_len11 : ∀ (n : Nat), n ≤ 100000000000 → (Lib.decDigits n).length ≤ 100 := fun n hn => by
  rw [Lib.decDigits_length]
  have h1 : ∀ (k m : Nat), m < 10 ^ (k + 1) → Lib.nDigits m ≤ k + 1 := by
    intro k
    induction k with
    | zero => intro m hm; rw [Lib.nDigits_small (by omega)]; omega
    | succ k ih =>
      intro m hm
      by_cases hs : m < 10
      · rw [Lib.nDigits_small hs]; omega
      · rw [Lib.nDigits_big hs]
        have := ih (m / 10) (by rw [Nat.pow_succ] at hm; omega)
        omega
  have := h1 11 n (by have : (10 : Nat) ^ 12 = 1000000000000 := by decide
                      omega)
  omega
theorem dec_one (n : Nat) (h : n < 10) : str (Lib.decDigits n) = ⟨#[UInt8.ofNat (48 + n)]⟩ := by rw [Lib.decDigits_one h]
set_option maxHeartbeats 3200000 in
theorem rdec_any : ∀ (m n : Nat), n < m → n ≤ 100000000000 → ∀ w, Calls Tryd.prog 16 #[.int .i64 (n : Int)] w fun e w' => e = .returned (.string (str (Lib.decDigits n))) ∧ Below w.heap.size w w' := by
  intro m
  induction m with
  | zero => intro n h; omega
  | succ m ih =>
    intro n h hn w
    by_cases h10 : n < 10
    · rw [dec_one n h10]
      have hd : decide ((n : Int) < 10) = true := decide_eq_true (by omega)
      rcases (show n = 0 ∨ n = 1 ∨ n = 2 ∨ n = 3 ∨ n = 4 ∨ n = 5 ∨ n = 6 ∨ n = 7 ∨ n = 8 ∨ n = 9 by omega) with rfl | rfl | rfl | rfl | rfl | rfl | rfl | rfl | rfl | rfl
      all_goals
        go_enter Tryd.func16, Tryd.ntmps16
        go_wp2_with fail
        go_ret
        exact ⟨rfl, Below.refl _ _⟩
    · have hd : decide ((n : Int) < 10) = false := decide_eq_false (by omega)
      have H1 : Hid (∀ w, Calls Tryd.prog 16 #[.int .i64 ((n : Int) / 10)] w fun e w' => e = .returned (.string (str (Lib.decDigits (n / 10)))) ∧ Below w.heap.size w w') := fun w => by
        rw [show (n : Int) / 10 = ((n / 10 : Nat) : Int) by omega]
        exact ih (n / 10) (by omega) (by omega) w
      have H2 : Hid (∀ w, Calls Tryd.prog 16 #[.int .i64 ((n : Int) % 10)] w fun e w' => e = .returned (.string (str (Lib.decDigits (n % 10)))) ∧ Below w.heap.size w w') := fun w => by
        rw [show (n : Int) % 10 = ((n % 10 : Nat) : Int) by omega]
        exact ih (n % 10) (by omega) (by omega) w
      have HE : Hid (str (Lib.decDigits (n / 10)) ++ str (Lib.decDigits (n % 10)) = str (Lib.decDigits n)) := by
        show _ = _
        rw [str_cat, Lib.decDigits_one (show n % 10 < 10 by omega)]
        congr 1
        conv => rhs; rw [Lib.decDigits, dif_neg h10]
      have hl1 : (str (Lib.decDigits (n / 10))).size ≤ 1000 := by
        have := dec_len11 (n / 10) (by omega)
        rw [str_size]
        omega
      have hl2 : (str (Lib.decDigits (n % 10))).size ≤ 1000 := by
        have := dec_len11 (n % 10) (by omega)
        rw [str_size]
        omega
      generalize str (Lib.decDigits (n / 10)) = S1 at *
      generalize str (Lib.decDigits (n % 10)) = S2 at *
      go_enter Tryd.func16, Tryd.ntmps16
      go_wp2_with fail
      refine (H1.out _).mono ?_
      rintro e w1 ⟨rfl, hb1⟩
      have HB1 := hide hb1
      clear hb1
      go_wp2_with fail
      refine (H2.out _).mono ?_
      rintro e w2 ⟨rfl, hb2⟩
      have HB2 := hide (HB1.out.trans (hb2.mono HB1.out.size))
      clear hb2
      go_wp2_with fail
      go_ret
      exact ⟨by rw [← HE.out]; rfl, HB2.out⟩

set_option maxHeartbeats 3200000 in
theorem wide_any (l : T8) (k : Nat) (w : World) (hk : k ≤ 100) (hl : l.length ≤ 1000000) :
    Calls Tryd.prog 29 #[.string (str l), .int .i64 (k : Int)] w fun e w' => e = .returned (.string (str (padR k l))) ∧ w' = w := by
  go_enter Tryd.func29, Tryd.ntmps29
  go_wp2_with fail
  go_loopg [0] (k - l.length) (fun gg v wx => ∃ j : Nat, j ≤ k - l.length ∧ gg = k - l.length - j ∧ v = .string (str (l ++ List.replicate j 32)) ∧ wx = w)
  case atStart => exact ⟨0, by omega, rfl, by simp, rfl⟩
  case round =>
    obtain ⟨j, hj, rfl, rfl, rfl⟩ := hrel
    have hsz : (str (l ++ List.replicate j 32)).size = l.length + j := by rw [str_size]; simp
    have HE : Hid (str (l ++ List.replicate j 32) ++ (⟨#[32]⟩ : ByteArray) = str (l ++ List.replicate (j + 1) 32)) := by
      show _ = _
      rw [show (⟨#[32]⟩ : ByteArray) = str [32] from rfl, str_cat, List.append_assoc, List.replicate_succ']
    by_cases hlt : j < k - l.length
    · have hd : decide (((l.length + j : Nat) : Int) < (k : Int)) = true := decide_eq_true (by omega)
      have hd2 : decide (l.length + j < k) = true := decide_eq_true (by omega)
      generalize str (l ++ List.replicate j 32) = S at *
      go_wp2_with fail
      go_roundg (k - l.length - (j + 1))
      case measure => omega
      case rel => exact ⟨j + 1, by omega, rfl, by rw [← HE.out], rfl⟩
    · obtain rfl : j = k - l.length := by omega
      have hd : decide (((l.length + (k - l.length) : Nat) : Int) < (k : Int)) = false := decide_eq_false (by omega)
      have hd2 : decide (l.length + (k - l.length) < k) = false := decide_eq_false (by omega)
      have HP : Hid (str (l ++ List.replicate (k - l.length) 32) = str (padR k l)) := by show _ = _; rfl
      generalize str (l ++ List.replicate (k - l.length) 32) = S at *
      go_wp2_with fail
      go_ret
      exact ⟨by rw [← HP.out]; rfl, rfl⟩

end Go.Proofs.YtmmcnkdefpfkiaaDoor
