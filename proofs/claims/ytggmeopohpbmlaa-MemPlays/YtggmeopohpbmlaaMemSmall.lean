/- Contracts of package mem's small calls: rangeGood, permGood, widthGood, New, Size, Perm. -/
import Derived.Test.YtggmeopohpbmlaaMemState
namespace Go.Proofs.Ytggmeopohpbmlaa
open Go.RowKit Go.Maps
set_option linter.unusedVariables false

theorem rangeGood_any (addr size : Nat) (w : World) (ha : addr ≤ 18446744073709551615) (hs : size ≤ 18446744073709551615) :
    Calls Try.prog 28 #[.int .u64 (addr : Int), .int .u64 (size : Int)] w fun e w' =>
      e = .returned (.bool (decide (addr % 4096 = 0 ∧ 0 < size ∧ addr + size ≤ 140737488355328))) ∧ w' = w := by
  by_cases h1 : addr % 4096 = 0
  · by_cases h2 : 0 < size
    · by_cases h3 : addr ≤ 140737488355328
      · go_enter Try.func28, Try.ntmps28
        go_wp2
        go_ret
        exact ⟨ret_bool (by rw [decide_eq_decide]; omega), rfl⟩
      · go_enter Try.func28, Try.ntmps28
        go_wp2
        go_ret
        exact ⟨ret_bool (by simp; omega), rfl⟩
    · go_enter Try.func28, Try.ntmps28
      go_wp2
      go_ret
      exact ⟨ret_bool (by simp; omega), rfl⟩
  · go_enter Try.func28, Try.ntmps28
    go_wp2
    go_ret
    exact ⟨ret_bool (by simp; omega), rfl⟩

/-- The permissions that may be. -/
def PermOk (p : Int) : Prop := p = 1 ∨ p = 2 ∨ p = 4 ∨ p = 5 ∨ p = 6

instance (p : Int) : Decidable (PermOk p) := by unfold PermOk; infer_instance

theorem PermOk.bd {p : Int} (h : PermOk p) : 1 ≤ p ∧ p ≤ 7 := by unfold PermOk at h; omega

theorem permGood_any (p : Int) (w : World) (h0 : -9223372036854775808 ≤ p) (h1 : p ≤ 9223372036854775807) :
    Calls Try.prog 29 #[.int .i64 p] w fun e w' => e = .returned (.bool (decide (PermOk p))) ∧ w' = w := by
  by_cases h2 : 0 < p
  · by_cases h3 : p ≤ 7
    · have h4 : p = 1 ∨ p = 2 ∨ p = 3 ∨ p = 4 ∨ p = 5 ∨ p = 6 ∨ p = 7 := by omega
      rcases h4 with rfl | rfl | rfl | rfl | rfl | rfl | rfl <;>
      · go_enter Try.func29, Try.ntmps29
        go_wp2
        go_ret
        exact ⟨ret_bool (by decide), rfl⟩
    · have e : decide (PermOk p) = false := decide_eq_false (by unfold PermOk; omega)
      rw [e]
      go_enter Try.func29, Try.ntmps29
      go_wp2
      go_ret
      exact ⟨rfl, rfl⟩
  · have e : decide (PermOk p) = false := decide_eq_false (by unfold PermOk; omega)
    rw [e]
    go_enter Try.func29, Try.ntmps29
    go_wp2
    go_ret
    exact ⟨rfl, rfl⟩

/-- The widths that may be. -/
def WidthOk (n : Int) : Prop := n = 1 ∨ n = 2 ∨ n = 4 ∨ n = 8

instance (p : Int) : Decidable (WidthOk p) := by unfold WidthOk; infer_instance

theorem widthGood_any (n : Int) (w : World) :
    Calls Try.prog 32 #[.int .i64 n] w fun e w' => e = .returned (.bool (decide (WidthOk n))) ∧ w' = w := by
  by_cases h1 : n = 1
  · subst h1
    go_enter Try.func32, Try.ntmps32
    go_wp2
    go_ret
    exact ⟨rfl, rfl⟩
  by_cases h2 : n = 2
  · subst h2
    go_enter Try.func32, Try.ntmps32
    go_wp2
    go_ret
    exact ⟨rfl, rfl⟩
  by_cases h4 : n = 4
  · subst h4
    go_enter Try.func32, Try.ntmps32
    go_wp2
    go_ret
    exact ⟨rfl, rfl⟩
  by_cases h8 : n = 8
  · subst h8
    go_enter Try.func32, Try.ntmps32
    go_wp2
    go_ret
    exact ⟨rfl, rfl⟩
  have e : decide (WidthOk n) = false := decide_eq_false (by unfold WidthOk; omega)
  rw [e]
  go_enter Try.func32, Try.ntmps32
  go_wp2
  go_ret
  exact ⟨ret_bool (by simp [*]), rfl⟩

theorem width_any (n : Int) (w : World) :
    Calls Try.prog 34 #[.int .i64 n] w fun e w' => e = .returned (.bool (decide (WidthOk n))) ∧ w' = w := by
  by_cases h1 : n = 1
  · subst h1
    go_enter Try.func34, Try.ntmps34
    go_wp2
    go_ret
    exact ⟨rfl, rfl⟩
  by_cases h2 : n = 2
  · subst h2
    go_enter Try.func34, Try.ntmps34
    go_wp2
    go_ret
    exact ⟨rfl, rfl⟩
  by_cases h4 : n = 4
  · subst h4
    go_enter Try.func34, Try.ntmps34
    go_wp2
    go_ret
    exact ⟨rfl, rfl⟩
  by_cases h8 : n = 8
  · subst h8
    go_enter Try.func34, Try.ntmps34
    go_wp2
    go_ret
    exact ⟨rfl, rfl⟩
  have e : decide (WidthOk n) = false := decide_eq_false (by unfold WidthOk; omega)
  rw [e]
  go_enter Try.func34, Try.ntmps34
  go_wp2
  go_ret
  exact ⟨ret_bool (by simp [*]), rfl⟩

theorem zeroPage (w : World) : (zeroValue 63).run Try.prog w = .ok (pv 0 none) w := by kernel_rfl
theorem zeroPtr (w : World) : (zeroValue 65).run Try.prog w = .ok (.pointer none) w := by kernel_rfl

theorem field0 (x y : Value) (w : World) : (Instr.field 63 (.agg #[x, y]) 0).run Try.prog w = .ok x w := by kernel_rfl
theorem field1 (x y : Value) (w : World) : (Instr.field 63 (.agg #[x, y]) 1).run Try.prog w = .ok y w := by kernel_rfl

/-- What is looked up of a page's number. -/
theorem PMx.look {w : World} {m b : Nat} {dt : Nat → Option Nat} {S : Mm} {F : Nat → Prop} (h : PMx w m b dt S F) (i : Nat) (hi : i ≤ 18446744073709551615) :
    (Instr.lookup 53 (.map (some b)) (.int .u64 (i : Int)) false).run Try.prog w = .ok (pv (S.perm i) (dt i)) w := by
  rw [h.map.look Try.underlying53 (zeroPage w) i hi]
  by_cases h0 : S.perm i = 0
  · rw [if_pos h0, h0, h.dn i h0]; rfl
  · rw [if_neg h0]; rfl

theorem PMx.lookOk {w : World} {m b : Nat} {dt : Nat → Option Nat} {S : Mm} {F : Nat → Prop} (h : PMx w m b dt S F) (i : Nat) (hi : i ≤ 18446744073709551615) :
    (Instr.lookup 53 (.map (some b)) (.int .u64 (i : Int)) true).run Try.prog w = .ok (.tuple #[pv (S.perm i) (dt i), .bool (decide (S.perm i ≠ 0))]) w := by
  rw [h.map.lookOk Try.underlying53 (zeroPage w) i hi]
  by_cases h0 : S.perm i = 0
  · rw [if_pos h0, h0, h.dn i h0]; rfl
  · rw [if_neg h0]; simp [h0]

theorem new_any (w : World) :
    Calls Try.prog 9 #[] w fun e w' => ∃ m F, e = .returned (.pointer (some ⟨m, 0, none⟩)) ∧ PM w' m Mm.new F ∧ (∀ k, F k → w.heap.size ≤ k) ∧ Below w.heap.size w w' := by
  have hmm := @run_makeMap Try.prog
  go_enter Try.func9, Try.ntmps9
  go_wp2
  go_ret
  refine ⟨w.heap.size + 1, fun k => k = w.heap.size ∨ k = w.heap.size + 1, rfl, ⟨w.heap.size, fun _ => none, ?_, ?_, Mm.new_good, fun _ _ => rfl, fun i hi => absurd rfl hi, (fun i g hg => by cases hg), (fun i j g hg => by cases hg), Or.inr rfl, Or.inl rfl, (fun i g hg => by cases hg), ?_⟩, ?_, ?_⟩
  · have := heap_alloc_new (w.alloc (.map #[] 0)) (.cells #[.map (some w.heap.size)] 55)
    simpa using this
  · exact ((MapAt.made w).kept (Below.heap_alloc _ _ _ (by simp))).congr (fun i _ => by simp [Mm.new])
  · intro k hk; simp; omega
  · intro k hk; omega
  · exact ((Below.refl _ _).alloc (Nat.le_refl _) _).alloc (by simp) _

theorem size_any (m : Nat) (S : Mm) (F : Nat → Prop) (w : World) (h : PM w m S F) :
    Calls Try.prog 24 #[.pointer (some ⟨m, 0, none⟩)] w fun e w' => e = .returned (.int .u64 ((S.count * 4096 : Nat) : Int)) ∧ w' = w := by
  obtain ⟨b, dt, h⟩ := h
  have hc := h.cell
  have hl := h.map.len Try.underlying53 3
  have hg := h.good.count
  clear h
  go_enter Try.func24, Try.ntmps24
  go_wp2
  go_ret
  exact ⟨ret_int (by omega), rfl⟩

theorem perm_any (m : Nat) (S : Mm) (F : Nat → Prop) (addr : Nat) (w : World) (h : PM w m S F) (ha : addr ≤ 18446744073709551615) :
    Calls Try.prog 26 #[.pointer (some ⟨m, 0, none⟩), .int .u64 (addr : Int)] w fun e w' => e = .returned (.int .i64 (S.perm (addr / 4096))) ∧ w' = w := by
  obtain ⟨b, dt, h⟩ := h
  have hc := h.cell
  have hl := h.look (addr / 4096) (by omega)
  rw [show ((addr / 4096 : Nat) : Int) = (addr : Int) / 4096 by omega] at hl
  simp only [pv] at hl
  have hf0 := field0
  clear h
  go_enter Try.func26, Try.ntmps26
  go_wp2
  go_ret
  exact ⟨rfl, rfl⟩

end Go.Proofs.Ytggmeopohpbmlaa
