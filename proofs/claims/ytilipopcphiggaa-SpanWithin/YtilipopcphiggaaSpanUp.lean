/- Contracts of span.Up, of the document's Up, and of the statements' example, known. -/
import Derived.Test.YtilipopcphiggaaSpan
namespace Go.Proofs.Ytilipopcphiggaa
open Go.RowKit
set_option linter.unusedVariables false

theorem upTo_bd {x a : Int} (hp : isPow a = true) (hx : 0 ≤ x) : x ≤ upTo x a ∧ upTo x a < x + a := by
  have h1 := isPow_pos hp
  have h2 := Int.emod_nonneg x (show a ≠ 0 by omega)
  have h3 := Int.emod_lt_of_pos x h1
  unfold upTo; split <;> omega

theorem upTo_mod (x a : Int) : upTo x a % a = 0 := by
  unfold upTo; split
  · assumption
  · have e : x + (a - x % a) = a + a * (x / a) := by have := Int.mul_ediv_add_emod x a; omega
    rw [e, Int.add_mul_emod_self_left, Int.emod_self]

theorem upOf_bd {x : Int} (a : Int) (hx : 0 ≤ x) : 0 ≤ upOf x a ∧ upOf x a ≤ 18446744073709551615 := by
  unfold upOf; split
  · rename_i h
    unfold upOk at h
    simp only [Bool.and_eq_true, decide_eq_true_eq] at h
    have := upTo_bd h.1 hx
    omega
  · omega

theorem up_no {x a : Int} (h : isPow a = false) : upOk x a = false ∧ upOf x a = 0 := by
  have e : upOk x a = false := by unfold upOk; simp [h]
  exact ⟨e, by unfold upOf; rw [e]; rfl⟩
theorem up_same {x a : Int} (hp : isPow a = true) (h : x % a = 0) (hx : x ≤ 18446744073709551615) : upOk x a = true ∧ upOf x a = x := by
  have e : upTo x a = x := by unfold upTo; rw [if_pos h]
  have e2 : upOk x a = true := by unfold upOk; rw [e]; simp [hp, hx]
  exact ⟨e2, by unfold upOf; rw [if_pos e2, e]⟩
theorem up_add {x a q : Int} (hp : isPow a = true) (hq : q = x % a) (h : ¬ q = 0) : upOk x a = sumOk [x, a - q] ∧ upOf x a = sumOf [x, a - q] := by
  have e : upTo x a = x + (a - q) := by unfold upTo; rw [← hq, if_neg h]
  have e1 : [x, a - q].sum = x + (a - q) := by simp
  have e2 : upOk x a = sumOk [x, a - q] := by unfold upOk sumOk; rw [e, e1, hp, Bool.true_and]
  refine ⟨e2, ?_⟩
  unfold upOf sumOf
  rw [e2, e, e1]
  unfold sumOk
  rw [e1]
  simp

theorem up_any (x a : Int) (w : World) (x0 : 0 ≤ x) (x1 : x ≤ 18446744073709551615) (a0 : 0 ≤ a) (a1 : a ≤ 18446744073709551615) :
    Calls Try.prog 9 #[.int .u64 x, .int .u64 a] w fun e w' =>
      e = .returned (.tuple #[.int .u64 (upOf x a), .bool (upOk x a)]) ∧ Below w.heap.size w w' := by
  have hc := pow2_any a w a0 a1
  cases hp : isPow a with
  | false =>
    obtain ⟨e1, e2⟩ := up_no (x := x) hp
    rw [e1, e2]
    rw [hp] at hc
    clear e1 e2 hp
    go_enter Try.func9, Try.ntmps9
    go_wp2_with (go_at_call 13; refine hc.mono ?_; rintro e w' ⟨rfl, rfl⟩)
    go_ret2
    exact ⟨rfl, Below.refl _ _⟩
  | true =>
    rw [hp] at hc
    have hpos := isPow_pos hp
    have hm := mask_pow hp x0 x1 a1
    have q0 := Int.emod_nonneg x (show a ≠ 0 by omega)
    have q1 := Int.emod_lt_of_pos x hpos
    rw [← hm] at q0 q1
    by_cases hz : bits .and .u64 x (a - 1) = 0
    · obtain ⟨e1, e2⟩ := up_same hp (by rw [← hm]; exact hz) x1
      rw [e1, e2]
      have hz' : (bits .and .u64 x (a - 1) == 0) = true := by simp [hz]
      clear e1 e2 hp hm hz
      go_enter Try.func9, Try.ntmps9
      go_wp2_with (go_at_call 13; refine hc.mono ?_; rintro e w' ⟨rfl, rfl⟩)
      go_ret2
      exact ⟨rfl, Below.refl _ _⟩
    · obtain ⟨e1, e2⟩ := up_add (x := x) hp hm hz
      rw [e1, e2]
      have hz' : (bits .and .u64 x (a - 1) == 0) = false := by simp [hz]
      clear e1 e2 hp hm hz
      have HC := hide hc
      have HA := hide (add_any _ 2 2 [x, a - bits .and .u64 x (a - 1)] _ (Rn.lit .u64 18446744073709551615 22 w [x, a - bits .and .u64 x (a - 1)] (by intro y hy; simp only [List.mem_cons, List.not_mem_nil, or_false] at hy; omega) (by decide) (by simp)))
      clear hc
      go_enter Try.func9, Try.ntmps9
      go_wp2_with fail
      refine HC.out.mono ?_
      rintro e w' ⟨rfl, rfl⟩
      go_wp2_with fail
      refine HA.out.mono ?_
      rintro e w2 ⟨rfl, hw⟩
      rw [hw]
      clear hw
      go_wp2
      go_ret2
      exact ⟨rfl, (Below.refl _ _).alloc (Nat.le_refl _) _⟩

theorem rup_any (x a : Int) (w : World) (x0 : 0 ≤ x) (x1 : x ≤ 18446744073709551615) (a0 : 0 ≤ a) (a1 : a ≤ 18446744073709551615) :
    Calls Try.prog 10 #[.int .u64 x, .int .u64 a] w fun e w' =>
      e = .returned (.tuple #[.int .u64 (upOf x a), .bool (upOk x a)]) ∧ w' = w := by
  have hc := rpow2_any a w a0 a1
  cases hp : isPow a with
  | false =>
    obtain ⟨e1, e2⟩ := up_no (x := x) hp
    rw [e1, e2]
    rw [hp] at hc
    clear e1 e2 hp
    go_enter Try.func10, Try.ntmps10
    go_wp2_with (go_at_call 14; refine hc.mono ?_; rintro e w' ⟨rfl, rfl⟩)
    go_ret2
    exact ⟨rfl, rfl⟩
  | true =>
    rw [hp] at hc
    have hpos := isPow_pos hp
    have hm := mask_pow hp x0 x1 a1
    have q0 := Int.emod_nonneg x (show a ≠ 0 by omega)
    have q1 := Int.emod_lt_of_pos x hpos
    rw [← hm] at q0 q1
    by_cases hz : bits .and .u64 x (a - 1) = 0
    · obtain ⟨e1, e2⟩ := up_same hp (by rw [← hm]; exact hz) x1
      rw [e1, e2]
      have hz' : (bits .and .u64 x (a - 1) == 0) = true := by simp [hz]
      clear e1 e2 hp hm hz
      go_enter Try.func10, Try.ntmps10
      go_wp2_with (go_at_call 14; refine hc.mono ?_; rintro e w' ⟨rfl, rfl⟩)
      go_ret2
      exact ⟨rfl, rfl⟩
    · obtain ⟨e1, e2⟩ := up_add (x := x) hp hm hz
      rw [e1, e2]
      have hz' : (bits .and .u64 x (a - 1) == 0) = false := by simp [hz]
      clear e1 e2 hp hm hz
      generalize hq : bits .and .u64 x (a - 1) = q at *
      have es : [x, a - q].sum = x + (a - q) := by simp
      by_cases hf : x + (a - q) ≤ 18446744073709551615
      · have HR := hide (ret_sum (l := [x, a - q]) (by rw [es]; exact hf))
        rw [es] at HR
        clear es
        subst hq
        go_enter Try.func10, Try.ntmps10
        go_wp2_with (go_at_call 14; refine hc.mono ?_; rintro e w' ⟨rfl, rfl⟩)
        go_ret2
        exact ⟨HR.out, rfl⟩
      · have HR := hide (ret_none (l := [x, a - q]) (by rw [es]; exact hf))
        have hw : IntKind.u64.wrap (x + (a - q)) < x := by rw [IntKind.wrap_u64]; omega
        clear es
        subst hq
        go_enter Try.func10, Try.ntmps10
        go_wp2_with (go_at_call 14; refine hc.mono ?_; rintro e w' ⟨rfl, rfl⟩)
        go_ret2
        exact ⟨HR.out, rfl⟩

theorem known_any (w : World) : Calls Try.prog 8 #[] w fun e w' => e = .returned (.bool true) ∧ Below w.heap.size w w' := by
  have e1 : upOf 5 4 = 8 := by decide
  have e2 : upOk 5 4 = true := by decide
  have e3 : upOk 18446744073709551615 2 = false := by decide
  have e4 : sumOf [1, 2, 3] = 6 := by decide
  have e5 : sumOk [1, 2, 3] = true := by decide
  have e6 : isPow 64 = true := by decide
  have e7 : isPow 0 = false := by decide
  have e8 : lg 9 = 3 := by decide
  have e9 : withinOf 1 2 3 = true := by decide
  have e10 : overlapOf 0 2 1 1 = true := by decide
  have c1 := fun W => up_any 5 4 W (by decide) (by decide) (by decide) (by decide)
  have c2 := fun W => up_any 18446744073709551615 2 W (by decide) (by decide) (by decide) (by decide)
  have c3 := fun W => add_any _ 3 3 [1, 2, 3] _ (Rn.lit .u64 18446744073709551615 22 W [1, 2, 3] (by intro y hy; simp at hy; omega) (by decide) (by decide))
  have c4 := fun W => pow2_any 64 W (by decide) (by decide)
  have c5 := fun W => pow2_any 0 W (by decide) (by decide)
  have c6 := fun W => log2_any 9 W (by decide) (by decide)
  have c7 := fun W => within_any 1 2 3 W (by decide) (by decide) (by decide) (by decide) (by decide) (by decide)
  have c8 := fun W => overlap_any 0 2 1 1 W (by decide) (by decide) (by decide) (by decide) (by decide) (by decide) (by decide) (by decide)
  rw [e1, e2] at c1
  rw [e3] at c2
  rw [e4, e5] at c3
  rw [e6] at c4
  rw [e7] at c5
  rw [e8] at c6
  rw [e9] at c7
  rw [e10] at c8
  clear e1 e2 e3 e4 e5 e6 e7 e8 e9 e10
  go_enter Try.func8, Try.ntmps8
  go_wp2_with fail
  refine (c1 _).mono ?_
  rintro e w1 ⟨rfl, B1⟩
  have B1 := hide B1
  go_wp2_with fail
  refine (c2 _).mono ?_
  rintro e w2 ⟨rfl, hb⟩
  have B2 : Hid (Below w.heap.size w w2) := B1.out.trans (hb.mono B1.out.size)
  clear hb B1
  go_wp2_with fail
  refine (c3 _).mono ?_
  rintro e w3 ⟨rfl, hw⟩
  have B3 : Hid (Below w.heap.size w w3) := by rw [hw]; exact B2.out.alloc B2.out.size _
  clear hw B2
  go_wp2_with fail
  refine (c4 _).mono ?_
  rintro e W ⟨rfl, hW⟩
  rw [hW]
  clear hW W
  go_wp2_with fail
  refine (c5 _).mono ?_
  rintro e W ⟨rfl, hW⟩
  rw [hW]
  clear hW W
  go_wp2_with fail
  refine (c6 _).mono ?_
  rintro e W ⟨rfl, hW⟩
  rw [hW]
  clear hW W
  go_wp2_with fail
  refine (c7 _).mono ?_
  rintro e W ⟨rfl, hW⟩
  rw [hW]
  clear hW W
  go_wp2_with fail
  refine (c8 _).mono ?_
  rintro e W ⟨rfl, hW⟩
  rw [hW]
  clear hW W
  go_wp2
  go_ret
  exact ⟨rfl, B3.out⟩

end Go.Proofs.Ytilipopcphiggaa
