/- The reader of archives: its block; contracts of need, take, bytes.Equal, bytes.HasPrefix; what is deferred. -/
import Derived.Test.YtmmcnkdefpfkiaaDoorArPlain
import Derived.Recover
import Derived.Defers
import Derived.WalkSmall
namespace Go.Proofs.YtmmcnkdefpfkiaaDoor
open Go.RowKit
set_option linter.unusedVariables false
set_option maxRecDepth 100000
set_option maxRecDepth 20000
set_option linter.unusedSimpArgs false


/-- The panic of a need that isn't met. -/
abbrev pncL : List PanicEntry := [{ v := .iface 27 (.int .i64 40), recovered := false }]

theorem need_yes (w : World) : Calls Tryd.prog 12 #[.bool true] w fun e w' => e = .returned (.tuple #[]) ∧ w' = w := by
  go_enter Tryd.func12, Tryd.ntmps12
  go_wp2
  go_end0
  exact ⟨rfl, rfl⟩

theorem need_no (w : World) : Calls Tryd.prog 12 #[.bool false] w fun e w' => e = .panicked pncL ∧ w' = w := by
  go_enter Tryd.func12, Tryd.ntmps12
  go_wp2
  exact ⟨rfl, rfl, rfl⟩

/-- The reader's block. -/
def RB (w : World) (b : Nat) (v0 v1 v2 v3 v4 v5 : Value) : Prop := w.heap[b]? = some (.cells #[v0, v1, v2, v3, v4, v5] 39 (0, 0))
section
variable {w w' : World} {b : Nat} {v0 v1 v2 v3 v4 v5 : Value} {T : TypeId}
theorem RB.cell0 (h : RB w b v0 v1 v2 v3 v4 v5) : w.cell? ⟨b, 0, none⟩ = some v0 := by rw [cell_of_row _ _ 0 _ _ (0, 0) h]; rfl
theorem RB.cell1 (h : RB w b v0 v1 v2 v3 v4 v5) : w.cell? ⟨b, 1, none⟩ = some v1 := by rw [cell_of_row _ _ 1 _ _ (0, 0) h]; rfl
theorem RB.cell2 (h : RB w b v0 v1 v2 v3 v4 v5) : w.cell? ⟨b, 2, none⟩ = some v2 := by rw [cell_of_row _ _ 2 _ _ (0, 0) h]; rfl
theorem RB.cell3 (h : RB w b v0 v1 v2 v3 v4 v5) : w.cell? ⟨b, 3, none⟩ = some v3 := by rw [cell_of_row _ _ 3 _ _ (0, 0) h]; rfl
theorem RB.cell4 (h : RB w b v0 v1 v2 v3 v4 v5) : w.cell? ⟨b, 4, none⟩ = some v4 := by rw [cell_of_row _ _ 4 _ _ (0, 0) h]; rfl
theorem RB.cell5 (h : RB w b v0 v1 v2 v3 v4 v5) : w.cell? ⟨b, 5, none⟩ = some v5 := by rw [cell_of_row _ _ 5 _ _ (0, 0) h]; rfl
theorem RB.frozen (h : RB w b v0 v1 v2 v3 v4 v5) (j : Nat) : w.frozen? ⟨b, j, none⟩ = false := frozen_of_row _ _ _ _ _ h
theorem RB.set0 (h : RB w b v0 v1 v2 v3 v4 v5) (u : Value) : RB (w.setCell ⟨b, 0, none⟩ u) b u v1 v2 v3 v4 v5 := hset_cells (l := [v0, v1, v2, v3, v4, v5]) h 0 u
theorem RB.set1 (h : RB w b v0 v1 v2 v3 v4 v5) (u : Value) : RB (w.setCell ⟨b, 1, none⟩ u) b v0 u v2 v3 v4 v5 := hset_cells (l := [v0, v1, v2, v3, v4, v5]) h 1 u
theorem RB.set2 (h : RB w b v0 v1 v2 v3 v4 v5) (u : Value) : RB (w.setCell ⟨b, 2, none⟩ u) b v0 v1 u v3 v4 v5 := hset_cells (l := [v0, v1, v2, v3, v4, v5]) h 2 u
theorem RB.set3 (h : RB w b v0 v1 v2 v3 v4 v5) (u : Value) : RB (w.setCell ⟨b, 3, none⟩ u) b v0 v1 v2 u v4 v5 := hset_cells (l := [v0, v1, v2, v3, v4, v5]) h 3 u
theorem RB.set4 (h : RB w b v0 v1 v2 v3 v4 v5) (u : Value) : RB (w.setCell ⟨b, 4, none⟩ u) b v0 v1 v2 v3 u v5 := hset_cells (l := [v0, v1, v2, v3, v4, v5]) h 4 u
theorem RB.set5 (h : RB w b v0 v1 v2 v3 v4 v5) (u : Value) : RB (w.setCell ⟨b, 5, none⟩ u) b v0 v1 v2 v3 v4 u := hset_cells (l := [v0, v1, v2, v3, v4, v5]) h 5 u
theorem RB.below (h : RB w b v0 v1 v2 v3 v4 v5) (hb : Below w.heap.size w w') : RB w' b v0 v1 v2 v3 v4 v5 := (hb.block _ (Array.getElem?_eq_some_iff.1 h).1).trans h
theorem RB.oth (h : RB w b v0 v1 v2 v3 v4 v5) (o : OthT T w w') (hT : 39 ≠ T) : RB w' b v0 v1 v2 v3 v4 v5 := o.kept _ _ _ _ hT h
end

theorem take_no (b : Nat) (a : Option Addr) (len cap : Nat) (v1 v2 v3 v4 v5 : Value) (n : Int) (w : World) (h : RB w b (.slice a len cap) v1 v2 v3 v4 v5) (hl : len ≤ 9223372036854775807) (hn : (len : Int) < n) (hn' : n ≤ 18446744073709551615) :
    Calls Tryd.prog 24 #[.pointer (some ⟨b, 0, none⟩), .int .u64 n] w fun e w' => e = .panicked pncL ∧ w' = w := by
  have c0 := h.cell0
  have hd : decide (n ≤ (len : Int)) = false := decide_eq_false (by omega)
  go_enter Tryd.func24, Tryd.ntmps24
  go_wp2_with (go_at_call 12; refine (need_no _).mono ?_; rintro e w' ⟨rfl, rfl⟩)
  exact ⟨rfl, rfl, rfl⟩

theorem take_yes (W : World) (b : Nat) (a : Option Addr) (cap : Nat) (r : T8) (v1 v2 v3 v4 v5 : Value) (n : Nat) (w : World) (h : RB w b (.slice a r.length cap) v1 v2 v3 v4 v5) (rt : Rt W a cap r) (hn : n ≤ r.length) :
    Calls Tryd.prog 24 #[.pointer (some ⟨b, 0, none⟩), .int .u64 (n : Int)] w fun e w' => ∃ a1 c1 a2 c2, e = .returned (.slice a1 n c1) ∧ w' = w.setCell ⟨b, 0, none⟩ (.slice a2 (r.length - n) c2) ∧ Rt W a1 c1 (r.take n) ∧ Rt W a2 c2 (r.drop n) := by
  have c0 := h.cell0
  have f0 := h.frozen 0
  have hle := rt.le
  have hmx := rt.max
  have hnil := rt.nil
  have e1 : (r.take n).length = n := by simp; omega
  have e2 : (r.drop n).length = r.length - n := by simp
  have P0 : Hid (Rt W a cap (r.take n)) := by
    have := (show Rd W a r.length cap (nI r) from rt)
    refine ⟨by rw [nI_len], by omega, hmx, nI_bytes _, hnil, fun x hx i hi => ?_⟩
    rw [this.cell x hx i (by omega), ← nI_take]
    simp [List.getD, List.getElem?_take, show i < n by omega]
  have P1 : Hid (∀ x, a = some x → Rt W (some (x.add n)) (cap - n) (r.drop n)) := by
    intro x hx
    subst hx
    have := Rd.part rt n (r.length - n) (by omega)
    rw [nI_drop, List.take_of_length_le (by rw [nI_len]; simp)] at this
    show Rd W _ _ _ _
    rw [e2]
    exact this
  have P2 : Hid (cap = n → Rt W a 0 (r.drop n)) := by
    intro hc
    have := Rd.part_end rt n (r.length - n) (by omega) hc
    rw [nI_drop, List.take_of_length_le (by rw [nI_len]; simp)] at this
    show Rd W _ _ _ _
    rw [e2]
    exact this
  generalize hL : r.length = L at *
  have hd : decide ((n : Int) ≤ (L : Int)) = true := decide_eq_true (by omega)
  clear rt h
  cases a with
  | none =>
    obtain rfl : cap = 0 := hnil rfl
    obtain rfl : L = 0 := by omega
    obtain rfl : n = 0 := by omega
    go_enter Tryd.func24, Tryd.ntmps24
    go_wp2_with (go_at_call 12; refine (need_yes _).mono ?_; rintro e w' ⟨rfl, rfl⟩)
    go_ret
    exact ⟨_, _, _, _, rfl, rfl, P0.out, P2.out (by trivial)⟩
  | some x =>
    obtain ⟨xb, xo, xs⟩ := x
    go_enter Tryd.func24, Tryd.ntmps24
    go_wp2_with (go_at_call 12; refine (need_yes _).mono ?_; rintro e w' ⟨rfl, rfl⟩)
    · have hc : cap = n := by assumption
      subst hc
      go_ret
      exact ⟨_, _, rfl, _, _, rfl, P0.out, P2.out rfl⟩
    · go_ret
      exact ⟨_, _, rfl, _, _, rfl, P0.out, P1.out _ rfl⟩

theorem beq_any (a b : Option Addr) (c d : Nat) (l m : T8) (w : World) (r : Rt w a c l) (s : Rt w b d m) : Calls Tryd.prog 23 #[.slice a l.length c, .slice b m.length d] w fun e w' => e = .returned (.bool (decide (l = m))) ∧ w' = w := by
  have h1 := Rd.str r
  have h2 := Rd.str s
  rw [nI_str] at h1 h2
  have h3 : ((str l).toList == (str m).toList) = decide (l = m) := by
    rw [ByteArray.toList_eq, ByteArray.toList_eq, Bool.eq_iff_iff]
    simp
  have H3 := hide h3
  generalize decide (l = m) = q at *
  generalize hS : str l = S at *
  generalize hS2 : str m = S2 at *
  clear h3 hS hS2 r s
  go_enter Tryd.func23, Tryd.ntmps23
  go_wp2
  go_ret
  exact ⟨by rw [← H3.out]; rfl, rfl⟩

/-- What is deferred: of a frame that panics. -/
theorem late_panics (p q r : Nat) (x y z : Value) (w : World) (hp : w.heap[p]? = some (.cells #[x] 23 (0, 0))) (hq : w.heap[q]? = some (.cells #[y] 24 (0, 0))) (hr : w.heap[r]? = some (.cells #[z] 27 (0, 0))) (hpq : p ≠ q) (hpr : p ≠ r) (hqr : q ≠ r) :
    CallsD Tryd.prog 11 #[.pointer (some ⟨p, 0, none⟩), .pointer (some ⟨q, 0, none⟩), .pointer (some ⟨r, 0, none⟩)] (.panicking pncL) w fun e u' w' =>
      e = .returned (.tuple #[]) ∧ u' = .panicking [{ v := .iface 27 (.int .i64 40), recovered := true }] ∧ w' = ((w.setCell ⟨p, 0, none⟩ (.slice none 0 0)).setCell ⟨q, 0, none⟩ (.slice none 0 0)).setCell ⟨r, 0, none⟩ (.int .i64 40) := by
  have c1 : w.cell? ⟨p, 0, none⟩ = some x := by rw [cell_of_row _ _ 0 _ _ (0, 0) hp]; rfl
  have c2 : w.cell? ⟨q, 0, none⟩ = some y := by rw [cell_of_row _ _ 0 _ _ (0, 0) hq]; rfl
  have c3 : w.cell? ⟨r, 0, none⟩ = some z := by rw [cell_of_row _ _ 0 _ _ (0, 0) hr]; rfl
  have f1 : w.frozen? ⟨p, 0, none⟩ = false := frozen_of_row _ _ _ _ _ hp
  have f2 : w.frozen? ⟨q, 0, none⟩ = false := frozen_of_row _ _ _ _ _ hq
  have f3 : w.frozen? ⟨r, 0, none⟩ = false := frozen_of_row _ _ _ _ _ hr
  refine callsD_of_wpS Tryd.func11 rfl fun c₀ cs hu => ?_
  apply wpS_seq
  apply wpS_region
  simp [wpOpsS, go_sem, recoverD, hu, Tryd.ntmps11, Exit.thenS]
  apply wpS_seq
  apply wpS_region
  simp [wpOpsS, go_sem, recoverD, hu, Tryd.ntmps11, Exit.thenS]
  refine wpS_cond (t := true) (by simp [Act.eval, Array.replicate]) ?_
  simp only [if_true]
  apply wpS_region
  simp [wpOpsS, go_sem, c1, c2, c3, f1, f2, f3, hpq, hpr, hqr, bodyPostS, results, Tryd.results11]

/-- .. of a frame that returns. -/
theorem late_idle (p q r : Nat) (w : World) :
    CallsD Tryd.prog 11 #[.pointer (some ⟨p, 0, none⟩), .pointer (some ⟨q, 0, none⟩), .pointer (some ⟨r, 0, none⟩)] .returning w fun e u' w' => e = .returned (.tuple #[]) ∧ u' = .returning ∧ w' = w := by
  refine callsD_of_wpS Tryd.func11 rfl fun c₀ cs hu => ?_
  apply wpS_seq
  apply wpS_region
  simp [wpOpsS, go_sem, recoverD, hu, Tryd.ntmps11, Exit.thenS]
  apply wpS_seq
  apply wpS_region
  simp [wpOpsS, go_sem, recoverD, hu, Tryd.ntmps11, Exit.thenS]
  refine wpS_cond (t := false) (by simp [Act.eval, Array.replicate]) ?_
  simp only [Bool.false_eq_true, if_false]
  refine wpS_of_wp (wp_skip ?_)
  cases c₀
  simp_all [bodyPostS, results, Tryd.results11]

end Go.Proofs.YtmmcnkdefpfkiaaDoor
