/- The contract of the statements' example, known: it returns true, and what was there stays. -/
import Derived.Test.YtenpjddjoebljaaPuts
namespace Go.Proofs.Ytenpjddjoebljaa
open Go.RowKit
set_option linter.unusedVariables false

theorem Rd.lit (w : World) (bs : List Int) (hb : Bytes bs) (hl : bs.length ≤ 9223372036854775807) (hp : 0 < bs.length) :
    Rd (w.alloc (.cells (bs.map (Value.int .u8)).toArray 5)) (some ⟨w.heap.size, 0, none⟩) bs.length bs.length bs := by
  have ho := World.ownsRow_lit (e := 5) (size := 1) (base := w.heap.size) w (bs.map (Value.int .u8)).toArray bs.length (Nat.le_refl _) (by unfold maxLen; omega) (by simp)
  obtain ⟨a, c, he, hr⟩ := Rd.own (by simpa using ho) hb
  cases he
  exact hr

theorem Rn.lit (k : IntKind) (top : Int) (t : TypeId) (w : World) (xs : List Int) (hf : ∀ x ∈ xs, 0 ≤ x ∧ x ≤ top) (h0 : 0 ≤ top) (hl : xs.length ≤ 9223372036854775807) :
    Rn k top (w.alloc (.cells (xs.map (Value.int k)).toArray t)) (some ⟨w.heap.size, 0, none⟩) xs.length xs.length xs := by
  refine ⟨rfl, Nat.le_refl _, hl, hf, h0, (fun h => by cases h), fun x hx i hi => ?_⟩
  cases hx
  have e : (⟨w.heap.size, 0, none⟩ : Addr).add i = ⟨w.heap.size, i, none⟩ := by unfold Addr.add; split <;> simp_all
  rw [e, cell_of_row _ _ i _ t (0, 0) (heap_alloc_new w _)]
  simp [hi]

theorem got12 : got [1, 2] 0 2 = 513 := by decide
theorem has12 : has [1, 2] 0 2 = true := by decide
theorem has14 : has [1, 2] 0 4 = false := by decide
theorem bytes12 : Bytes [1, 2] := by intro x hx; simp at hx; omega
theorem bytes000 : Bytes [0, 0, 0] := by intro x hx; simp at hx; omega
theorem set000 : strOfNums (setOf [0, 0, 0] 1 772 2) = ⟨#[0, 4, 3]⟩ := by decide
theorem flat258 : strOfNums ([] ++ flat 2 [258]) = ⟨#[2, 1]⟩ := by decide

theorem known_any (w : World) : Calls Try.prog 8 #[] w fun e w' => e = .returned (.bool true) ∧ Below w.heap.size w w' := by
  go_enter Try.func8, Try.ntmps8
  go_wp2_with fail
  refine (u16_any _ 2 2 [1, 2] 0 _ (Rd.lit w [1, 2] bytes12 (by decide) (by decide)) (by decide) (by decide)).mono ?_
  rintro e w1 ⟨rfl, hw⟩
  have B1 : Hid (Below w.heap.size w w1) := by rw [hw]; exact (Below.refl _ _).alloc (Nat.le_refl _) _
  clear hw
  rw [got12, has12]
  go_wp2_with fail
  refine (u32_any _ 2 2 [1, 2] 0 _ (Rd.lit w1 [1, 2] bytes12 (by decide) (by decide)) (by decide) (by decide)).mono ?_
  rintro e w2 ⟨rfl, hw⟩
  have B2 : Hid (Below w.heap.size w w2) := by rw [hw]; exact B1.out.alloc B1.out.size _
  clear hw B1
  rw [has14]
  go_wp2_with fail
  refine (set_yes _ 3 3 [0, 0, 0] 1 772 2 _ (Rd.lit w2 [0, 0, 0] bytes000 (by decide) (by decide)) (by decide) (by decide) (by decide) (by decide) (by decide) (by decide) (by decide)).mono ?_
  rintro e w3 ⟨rfl, hr, hb⟩
  have B3 : Hid (Below w.heap.size w w3) := (B2.out.alloc B2.out.size _).trans (hb.mono (by have := B2.out.size; simp; omega))
  have HR3 : Hid (Rd w3 (some ⟨w2.heap.size + 1, 0, none⟩) 3 3 (setOf [0, 0, 0] 1 772 2)) := hide (by simpa using hr)
  clear hr hb
  go_wp2_with fail
  refine (put16_any _ 0 0 [] _ 1 1 [258] _ (Rd.nothing _) (Rn.lit .u16 65535 25 w3 [258] (by intro x hx; simp at hx; omega) (by decide) (by decide)) (by decide)).mono ?_
  rintro e w5 ⟨a5, l5, c5, rfl, hr5, hb5⟩
  have hb35 : Below w3.heap.size w3 w5 := ((Below.refl _ _).alloc (Nat.le_refl _) _).trans (hb5.mono (by simp))
  have s5 := hr5.str
  have s3 := (HR3.out.below hb35).str
  rw [flat258] at s5
  rw [set000] at s3
  have B5 : Hid (Below w.heap.size w w5) := B3.out.trans (hb35.mono B3.out.size)
  clear hr5 hb5 hb35 HR3 B3 B2
  go_wp2
  go_ret
  exact ⟨rfl, B5.out⟩

end Go.Proofs.Ytenpjddjoebljaa
