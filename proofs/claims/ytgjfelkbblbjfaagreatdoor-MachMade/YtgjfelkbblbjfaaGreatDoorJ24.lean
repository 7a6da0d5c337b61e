/- Texts of this claim, joined: InstRefCode, ImmKnown. -/
import Derived.Test.YtgjfelkbblbjfaaGreatDoorJ23
import Derived.Test.YtgjfelkbblbjfaaGreatDoorJ04
/- Contracts of the document's Form, CodeOf and small tests on operations. -/
namespace Go.Proofs.YtgjfelkbblbjfaaGreatDoor
open Go.RowKit
set_option linter.unusedVariables false
set_option maxRecDepth 100000
set_option linter.unusedSimpArgs false

/-- The document's codes: opcode, funct3, funct7. -/
def co0 (k : Nat) : Int := ([0, 55, 23, 111, 103, 99, 99, 99, 99, 99, 99, 3, 3, 3, 3, 3, 3, 3, 35, 35, 35, 35, 19, 19, 19, 19, 19, 19, 19, 19, 19, 51, 51, 51, 51, 51, 51, 51, 51, 51, 51, 27, 27, 27, 27, 59, 59, 59, 59, 59, 51, 51, 51, 51, 51, 51, 51, 51, 59, 59, 59, 59, 59, 0, 0, 0] : List Int).getD k 0
def co1 (k : Nat) : Int := ([0, 0, 0, 0, 0, 0, 1, 4, 5, 6, 7, 0, 1, 2, 3, 4, 5, 6, 0, 1, 2, 3, 0, 2, 3, 4, 6, 7, 1, 5, 5, 0, 0, 1, 2, 3, 4, 5, 5, 6, 7, 0, 1, 5, 5, 0, 0, 1, 5, 5, 0, 1, 2, 3, 4, 5, 6, 7, 0, 4, 5, 6, 7, 0, 0, 0] : List Int).getD k 0
def co2 (k : Nat) : Int := ([0, 0, 0, 0, 0, 0, 0, 0, 0, 0, 0, 0, 0, 0, 0, 0, 0, 0, 0, 0, 0, 0, 0, 0, 0, 0, 0, 0, 0, 0, 16, 0, 32, 0, 0, 0, 0, 0, 32, 0, 0, 0, 0, 0, 32, 0, 32, 0, 0, 32, 1, 1, 1, 1, 1, 1, 1, 1, 1, 1, 1, 1, 1, 0, 0, 0] : List Int).getD k 0

theorem isr2_any (op : Int) (w : World) :
    Calls Tryz.prog 29 #[.int .i64 op] w fun e w' => e = .returned (.bool (isr op)) ∧ w' = w := by
  go_enter Tryz.func29, Tryz.ntmps29
  go_wp2
  all_goals go_ret
  all_goals exact ⟨ret_bool (by unfold isr; simp_all <;> omega), rfl⟩

theorem shift6_any (op : Int) (w : World) :
    Calls Tryz.prog 30 #[.int .i64 op] w fun e w' => e = .returned (.bool (decide (28 ≤ op) && decide (op ≤ 30))) ∧ w' = w := by
  go_enter Tryz.func30, Tryz.ntmps30
  go_wp2
  all_goals go_ret
  all_goals exact ⟨ret_bool (by simp_all <;> omega), rfl⟩
theorem shift5_any (op : Int) (w : World) :
    Calls Tryz.prog 31 #[.int .i64 op] w fun e w' => e = .returned (.bool (decide (42 ≤ op) && decide (op ≤ 44))) ∧ w' = w := by
  go_enter Tryz.func31, Tryz.ntmps31
  go_wp2
  all_goals go_ret
  all_goals exact ⟨ret_bool (by simp_all <;> omega), rfl⟩

/-- What the document's Form tells. -/
def rfm (op : Int) : Int :=
  if op = 1 ∨ op = 2 then 4 else if op = 3 then 5 else if op = 4 ∨ (11 ≤ op ∧ op ≤ 17) ∨ (22 ≤ op ∧ op ≤ 30) ∨ (41 ≤ op ∧ op ≤ 44) then 1 else if 5 ≤ op ∧ op ≤ 10 then 3 else if 18 ≤ op ∧ op ≤ 21 then 2
  else if (31 ≤ op ∧ op ≤ 40) ∨ (45 ≤ op ∧ op ≤ 62) then 0 else 6
theorem rfm_k : ∀ k, k < 66 → rfm (k : Nat) = fmo (k : Nat) := by decide +kernel
theorem rfm_is (op : Int) : rfm op = fmo op := by
  by_cases h : 0 ≤ op ∧ op < 66
  · obtain ⟨k, rfl⟩ := Int.eq_ofNat_of_zero_le h.1
    exact rfm_k k (by omega)
  · have e : fmo op = 6 := by
      unfold fmo knw
      rw [if_neg (by simp; omega)]
    rw [e]
    unfold rfm
    repeat' split
    all_goals omega

theorem rform_0 (op : Int) (w : World) (h : op < 1) : Calls Tryz.prog 6 #[.int .i64 op] w fun e w' => e = .returned (.int .i64 6) ∧ w' = w := by
  have t1 : (op == 1) = false := by simp; omega
  have t2 : (op == 2) = false := by simp; omega
  have t3 : (op == 3) = false := by simp; omega
  have t4 : (op == 4) = false := by simp; omega
  go_enter Tryz.func6, Tryz.ntmps6
  go_wp2
  go_ret
  exact ⟨rfl, rfl⟩
theorem rform_1 (op : Int) (w : World) (h : 62 < op) : Calls Tryz.prog 6 #[.int .i64 op] w fun e w' => e = .returned (.int .i64 6) ∧ w' = w := by
  have t1 : (op == 1) = false := by simp; omega
  have t2 : (op == 2) = false := by simp; omega
  have t3 : (op == 3) = false := by simp; omega
  have t4 : (op == 4) = false := by simp; omega
  go_enter Tryz.func6, Tryz.ntmps6
  go_wp2
  go_ret
  exact ⟨rfl, rfl⟩
theorem rform_2 (op : Int) (w : World) (h : op = 1) : Calls Tryz.prog 6 #[.int .i64 op] w fun e w' => e = .returned (.int .i64 4) ∧ w' = w := by
  subst h
  go_enter Tryz.func6, Tryz.ntmps6
  go_wp2
  go_ret
  exact ⟨rfl, rfl⟩
theorem rform_3 (op : Int) (w : World) (h : op = 2) : Calls Tryz.prog 6 #[.int .i64 op] w fun e w' => e = .returned (.int .i64 4) ∧ w' = w := by
  subst h
  go_enter Tryz.func6, Tryz.ntmps6
  go_wp2
  go_ret
  exact ⟨rfl, rfl⟩
theorem rform_4 (op : Int) (w : World) (h : op = 3) : Calls Tryz.prog 6 #[.int .i64 op] w fun e w' => e = .returned (.int .i64 5) ∧ w' = w := by
  subst h
  go_enter Tryz.func6, Tryz.ntmps6
  go_wp2
  go_ret
  exact ⟨rfl, rfl⟩
theorem rform_5 (op : Int) (w : World) (h : op = 4) : Calls Tryz.prog 6 #[.int .i64 op] w fun e w' => e = .returned (.int .i64 1) ∧ w' = w := by
  subst h
  go_enter Tryz.func6, Tryz.ntmps6
  go_wp2
  go_ret
  exact ⟨rfl, rfl⟩
theorem rform_6 (op : Int) (w : World) (h : 5 ≤ op ∧ op ≤ 10) : Calls Tryz.prog 6 #[.int .i64 op] w fun e w' => e = .returned (.int .i64 3) ∧ w' = w := by
  have t1 : (op == 1) = false := by simp; omega
  have t2 : (op == 2) = false := by simp; omega
  have t3 : (op == 3) = false := by simp; omega
  have t4 : (op == 4) = false := by simp; omega
  obtain ⟨h1, h2⟩ := h
  go_enter Tryz.func6, Tryz.ntmps6
  go_wp2
  go_ret
  exact ⟨rfl, rfl⟩
theorem rform_7 (op : Int) (w : World) (h : 11 ≤ op ∧ op ≤ 17) : Calls Tryz.prog 6 #[.int .i64 op] w fun e w' => e = .returned (.int .i64 1) ∧ w' = w := by
  have t1 : (op == 1) = false := by simp; omega
  have t2 : (op == 2) = false := by simp; omega
  have t3 : (op == 3) = false := by simp; omega
  have t4 : (op == 4) = false := by simp; omega
  obtain ⟨h1, h2⟩ := h
  go_enter Tryz.func6, Tryz.ntmps6
  go_wp2
  go_ret
  exact ⟨rfl, rfl⟩
theorem rform_8 (op : Int) (w : World) (h : 18 ≤ op ∧ op ≤ 21) : Calls Tryz.prog 6 #[.int .i64 op] w fun e w' => e = .returned (.int .i64 2) ∧ w' = w := by
  have t1 : (op == 1) = false := by simp; omega
  have t2 : (op == 2) = false := by simp; omega
  have t3 : (op == 3) = false := by simp; omega
  have t4 : (op == 4) = false := by simp; omega
  obtain ⟨h1, h2⟩ := h
  go_enter Tryz.func6, Tryz.ntmps6
  go_wp2
  go_ret
  exact ⟨rfl, rfl⟩
theorem rform_9 (op : Int) (w : World) (h : 22 ≤ op ∧ op ≤ 30) : Calls Tryz.prog 6 #[.int .i64 op] w fun e w' => e = .returned (.int .i64 1) ∧ w' = w := by
  have t1 : (op == 1) = false := by simp; omega
  have t2 : (op == 2) = false := by simp; omega
  have t3 : (op == 3) = false := by simp; omega
  have t4 : (op == 4) = false := by simp; omega
  obtain ⟨h1, h2⟩ := h
  go_enter Tryz.func6, Tryz.ntmps6
  go_wp2
  go_ret
  exact ⟨rfl, rfl⟩
theorem rform_10 (op : Int) (w : World) (h : 31 ≤ op ∧ op ≤ 40) : Calls Tryz.prog 6 #[.int .i64 op] w fun e w' => e = .returned (.int .i64 0) ∧ w' = w := by
  have t1 : (op == 1) = false := by simp; omega
  have t2 : (op == 2) = false := by simp; omega
  have t3 : (op == 3) = false := by simp; omega
  have t4 : (op == 4) = false := by simp; omega
  obtain ⟨h1, h2⟩ := h
  go_enter Tryz.func6, Tryz.ntmps6
  go_wp2
  go_ret
  exact ⟨rfl, rfl⟩
theorem rform_11 (op : Int) (w : World) (h : 41 ≤ op ∧ op ≤ 44) : Calls Tryz.prog 6 #[.int .i64 op] w fun e w' => e = .returned (.int .i64 1) ∧ w' = w := by
  have t1 : (op == 1) = false := by simp; omega
  have t2 : (op == 2) = false := by simp; omega
  have t3 : (op == 3) = false := by simp; omega
  have t4 : (op == 4) = false := by simp; omega
  obtain ⟨h1, h2⟩ := h
  go_enter Tryz.func6, Tryz.ntmps6
  go_wp2
  go_ret
  exact ⟨rfl, rfl⟩
theorem rform_12 (op : Int) (w : World) (h : 45 ≤ op ∧ op ≤ 62) : Calls Tryz.prog 6 #[.int .i64 op] w fun e w' => e = .returned (.int .i64 0) ∧ w' = w := by
  have t1 : (op == 1) = false := by simp; omega
  have t2 : (op == 2) = false := by simp; omega
  have t3 : (op == 3) = false := by simp; omega
  have t4 : (op == 4) = false := by simp; omega
  obtain ⟨h1, h2⟩ := h
  go_enter Tryz.func6, Tryz.ntmps6
  go_wp2
  go_ret
  exact ⟨rfl, rfl⟩
theorem rform_any (op : Int) (w : World) :
    Calls Tryz.prog 6 #[.int .i64 op] w fun e w' => e = .returned (.int .i64 (fmo op)) ∧ w' = w := by
  rw [← rfm_is op]
  rcases (show (op < 1) ∨ (62 < op) ∨ (op = 1) ∨ (op = 2) ∨ (op = 3) ∨ (op = 4) ∨ (5 ≤ op ∧ op ≤ 10) ∨ (11 ≤ op ∧ op ≤ 17) ∨ (18 ≤ op ∧ op ≤ 21) ∨ (22 ≤ op ∧ op ≤ 30) ∨ (31 ≤ op ∧ op ≤ 40) ∨ (41 ≤ op ∧ op ≤ 44) ∨ (45 ≤ op ∧ op ≤ 62) by omega) with h | h | h | h | h | h | h | h | h | h | h | h | h
  · have e : rfm op = 6 := by unfold rfm; (repeat' split) <;> omega
    rw [e]; exact rform_0 op w h
  · have e : rfm op = 6 := by unfold rfm; (repeat' split) <;> omega
    rw [e]; exact rform_1 op w h
  · have e : rfm op = 4 := by unfold rfm; (repeat' split) <;> omega
    rw [e]; exact rform_2 op w h
  · have e : rfm op = 4 := by unfold rfm; (repeat' split) <;> omega
    rw [e]; exact rform_3 op w h
  · have e : rfm op = 5 := by unfold rfm; (repeat' split) <;> omega
    rw [e]; exact rform_4 op w h
  · have e : rfm op = 1 := by unfold rfm; (repeat' split) <;> omega
    rw [e]; exact rform_5 op w h
  · have e : rfm op = 3 := by unfold rfm; (repeat' split) <;> omega
    rw [e]; exact rform_6 op w h
  · have e : rfm op = 1 := by unfold rfm; (repeat' split) <;> omega
    rw [e]; exact rform_7 op w h
  · have e : rfm op = 2 := by unfold rfm; (repeat' split) <;> omega
    rw [e]; exact rform_8 op w h
  · have e : rfm op = 1 := by unfold rfm; (repeat' split) <;> omega
    rw [e]; exact rform_9 op w h
  · have e : rfm op = 0 := by unfold rfm; (repeat' split) <;> omega
    rw [e]; exact rform_10 op w h
  · have e : rfm op = 1 := by unfold rfm; (repeat' split) <;> omega
    rw [e]; exact rform_11 op w h
  · have e : rfm op = 0 := by unfold rfm; (repeat' split) <;> omega
    rw [e]; exact rform_12 op w h

end Go.Proofs.YtgjfelkbblbjfaaGreatDoor

/- The statements' example, known, is true. -/
namespace Go.Proofs.YtgjfelkbblbjfaaGreatDoor
open Go.RowKit
set_option linter.unusedVariables false
set_option maxRecDepth 100000

theorem tmod_two (x : Int) : (x.tmod 2 == 0) = decide (x % 2 = 0) := by
  have h1 := Int.dvd_iff_tmod_eq_zero (a := 2) (b := x)
  have h2 := Int.dvd_iff_emod_eq_zero (a := 2) (b := x)
  rw [Bool.eq_iff_iff]
  simp only [beq_iff_eq, decide_eq_true_eq]
  exact h1.symm.trans h2



end Go.Proofs.YtgjfelkbblbjfaaGreatDoor
