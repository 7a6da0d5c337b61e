/- Names in order: what an object defines, plainly; the library's sort at texts. -/
import Derived.Test.YteknmlcgdjoccaaBts
import Derived.Test.YteknmlcgdjoccaaSmRow
import Derived.Test.YteknmlcgdjoccaaShelf
import Derived.Lib.OwnBridge
import Derived.Lib.AppendIntMem
namespace Go.Proofs.Yteknmlcgdjoccaa
open Go.RowKit Go.Sort Go.Lib
set_option linter.unusedVariables false
set_option maxRecDepth 20000
set_option linter.unusedSimpArgs false

theorem cmp_lt : ∀ (a b : List UInt8), Lib.compareBytes a b < 0 ↔ a < b
  | [], [] => by simp [Lib.compareBytes]
  | [], _ :: _ => by simp [Lib.compareBytes]
  | _ :: _, [] => by simp [Lib.compareBytes]
  | a :: xs, b :: bs => by
    have ih := cmp_lt xs bs
    rw [List.cons_lt_cons_iff]
    unfold Lib.compareBytes
    by_cases h1 : a < b
    · simp [h1]
    · rw [if_neg h1]
      by_cases h2 : b < a
      · rw [if_pos h2]
        have : a ≠ b := fun e => by subst e; exact h1 h2
        simp [h1, this]
      · rw [if_neg h2]
        have : a = b := UInt8.le_antisymm (UInt8.not_lt.1 h2) (UInt8.not_lt.1 h1)
        simp [h1, this, ih]
theorem ltc (x y : T8) : ltOf Lib.compareBytes x y = ltStr x y := by
  unfold ltOf ltStr
  rw [Bool.eq_iff_iff]
  simp [cmp_lt]
theorem ltcE : (ltOf Lib.compareBytes : T8 → T8 → Bool) = ltStr := by
  funext x y
  exact ltc x y
/-- Names in order. -/
def srt (N : List T8) : List T8 := N.mergeSort (fun x y => !(ltStr y x))
theorem srt_len (N : List T8) : (srt N).length = N.length := List.length_mergeSort ..

theorem sort_any (B : Nat) (v : Value) (N : List T8) (w : World) (h : w.ownsRow B 9 1 v N.length (csT N)) (hB : B ≤ w.heap.size) (hN : N.length ≤ 1000000) :
    Calls Try.prog 20 #[v, .func (.func 21) #[] #[]] w fun e w' => e = .returned (.tuple #[]) ∧ w'.ownsRow B 9 1 v N.length (csT (srt N)) ∧ Below B w w' := by
  by_cases hv : v = .slice none 0 0
  · subst hv
    have hn : N.length = 0 := by
      rcases h.2 with ⟨_, h2⟩ | ⟨g, cap, cur, h1, _⟩
      · exact h2
      · cases h1
    obtain rfl : N = [] := List.eq_nil_of_length_eq_zero hn
    refine (Try.slices_SortFunc_none (α := T8) none 0 _ w).mono ?_
    rintro e w' ⟨rfl, rfl⟩
    exact ⟨rfl, by simpa [srt] using h, Below.refl _ _⟩
  · have h' : w.ownsRow B 9 1 v N.length (N.map (fun n => Value.string (str n))) := h
    obtain ⟨g, cap, rfl, hg, hlt, hnc, hcm, hl, hH⟩ := Lib.holds_of_ownsRow h' hv
    have hsz : N.toArray.size < 4611686018427387904 := by simp; omega
    have hcmp : CmpReads Try.prog 21 #[] (fun n : T8 => Value.string (str n)) Lib.compareBytes g 0 N.toArray.size w := fun m os dk hs x y => by
      refine (Try.strings_Compare (str x) (str y) _).mono ?_
      rintro e w' ⟨rfl, rfl⟩
      rw [str_list, str_list]
      exact ⟨rfl, 0, rfl⟩
    have hO : SWO (ltOf Lib.compareBytes : T8 → T8 → Bool) := by rw [ltcE]; exact swo_ltStr
    have key := Try.slices_SortFunc_total (fun n : T8 => Value.string (str n)) (fun _ => rfl) Lib.compareBytes hO 21 #[] g 0 cap N.toArray w
      (enters_of Try.func21 (by kernel_rfl) rfl) hcmp.lays hH hlt hsz
      (fun x y h1 h2 => by rw [ltc] at h1 h2; simp only [ltStr, decide_eq_false_iff_not, List.not_lt] at h1 h2; exact List.le_antisymm h2 h1)
    have e1 : N.toArray.size = N.length := by simp
    rw [e1] at key
    refine key.mono ?_
    rintro e w' ⟨rfl, q, os, hw⟩
    refine ⟨rfl, ?_⟩
    rw [ltcE] at hw
    have hw2 : w' = grow (putRow (fun n : T8 => Value.string (str n)) (Sort.ahead w q) g 0 (srt N).toArray) os := hw
    have r1 := Lib.ownsRow_putRow (q := q) (k := N.length) (ys := srt N) h' (srt_len N) (Nat.le_refl _)
    have b1 := Lib.below_putRow (enc := fun n : T8 => Value.string (str n)) (q := q) (d := (srt N).toArray) (Below.refl B w) hg
    have e2 : (srt N).take N.length = srt N := by rw [← srt_len N, List.take_length]
    rw [e2] at r1
    have b2 := below_grow (putRow (fun n : T8 => Value.string (str n)) (Sort.ahead w q) g 0 (srt N).toArray).heap.size (putRow (fun n : T8 => Value.string (str n)) (Sort.ahead w q) g 0 (srt N).toArray) (Nat.le_refl _) 0 os
    have b3 : Below (putRow (fun n : T8 => Value.string (str n)) (Sort.ahead w q) g 0 (srt N).toArray).heap.size (putRow (fun n : T8 => Value.string (str n)) (Sort.ahead w q) g 0 (srt N).toArray) w' := by rw [hw2]; exact b2
    exact ⟨rowKept (B0 := 0) r1 b3, b1.trans (b3.mono (Nat.le_trans hB b1.size))⟩

end Go.Proofs.Yteknmlcgdjoccaa
