/- The contract of package inst's Encode as one; the statements' example, known, is true. -/
import Derived.Test.YtnlngagcpcpbkaaDoorInstEncs
namespace Go.Proofs.YtnlngagcpcpbkaaDoor
open Go.RowKit Go.Maps
set_option linter.unusedVariables false
set_option linter.unusedSimpArgs false

/-- Whether an instruction has a word, and which. -/
def encOk (op r0 r1 r2 im : Int) : Bool := knw op && (decide (fmo op = 6) || (imOk (fmo op) (wd op.toNat) im && rgOk (hasD (fmo op)) (has1 (fmo op)) (has2 (fmo op)) r0 r1 r2))
def encW (op r0 r1 r2 im : Int) : Int :=
  if encOk op r0 r1 r2 im = true then (if fmo op = 6 then wd op.toNat else rgPut (hasD (fmo op)) (has1 (fmo op)) (has2 (fmo op)) (imPut (fmo op) (wd op.toNat) im) r0 r1 r2) else 0

theorem imPut_bd (f x v : Int) (h0 : 0 ≤ x) (h1 : x ≤ 4294967295) : 0 ≤ imPut f x v ∧ imPut f x v ≤ 4294967295 := by
  unfold imPut
  split
  · exact put_bd f x v h0 h1
  · split
    · exact bits_bd ..
    · decide

theorem enc_any (op r0 r1 r2 im : Int) (w : World) (v0 : -9223372036854775808 ≤ im) (v1 : im ≤ 9223372036854775807) (hL : Laid w) :
    Calls Tryd.prog 12 #[inst op r0 r1 r2 im] w fun e w' => e = .returned (.tuple #[.int .u32 (encW op r0 r1 r2 im), .bool (encOk op r0 r1 r2 im)]) ∧ Below w.heap.size w w' := by
  unfold encW
  by_cases hk : knw op = true
  · have hr : 0 < op ∧ op < 66 := by simpa [knw] using hk
    obtain ⟨k, rfl⟩ := Int.eq_ofNat_of_zero_le (show 0 ≤ op by omega)
    by_cases hf : fmo k = 6
    · have e : encOk k r0 r1 r2 im = true := by unfold encOk; rw [hk, hf]; rfl
      rw [e, if_pos rfl, if_pos hf]
      exact enc_n k r0 r1 r2 im w hk hf hL
    · by_cases hi : imOk (fmo k) (wd k) im = true
      · have e : encOk k r0 r1 r2 im = rgOk (hasD (fmo k)) (has1 (fmo k)) (has2 (fmo k)) r0 r1 r2 := by
          unfold encOk; rw [hk, show (k : Int).toNat = k from rfl, hi]; simp [hf]
        rw [e, if_neg hf]
        have bw := wd_bd k
        have bi := imPut_bd (fmo k) (wd k) im bw.1 bw.2
        exact enc_ok k r0 r1 r2 im _ _ w hk hf v0 v1 hi hL (hide (fun w => rg_any (fmo k) _ k r0 r1 r2 im w bi.1 bi.2))
      · have hi' : imOk (fmo k) (wd k) im = false := by simpa using hi
        have e : encOk k r0 r1 r2 im = false := by
          unfold encOk; rw [hk, show (k : Int).toNat = k from rfl, hi']; simp [hf]
        rw [e, if_neg (by decide)]
        exact enc_bad k r0 r1 r2 im w hk hf v0 v1 hi' hL
  · have hk' : knw op = false := by simpa using hk
    have e : encOk op r0 r1 r2 im = false := by unfold encOk; rw [hk']; rfl
    rw [e, if_neg (by decide)]
    exact enc_no op r0 r1 r2 im w hk'

theorem none_0 : IsOp 0 0 := Or.inl ⟨rfl, fun j h1 h2 => by
  have : ∀ j, j < 66 → 1 ≤ j → ¬ Mt j 0 := by decide +kernel
  exact this j h2 h1⟩
theorem mulhsu_is : nm 52 = ⟨#[109, 117, 108, 104, 115, 117]⟩ := by decide +kernel
theorem nm_apart : ∀ j, j < 66 → ∀ k, k < 66 → nm j = nm k → j = k := by decide +kernel

theorem cell_below {w w' : World} (hB : Below w.heap.size w w') {p : Addr} {v : Value} (h : w.cell? p = some v) : w'.cell? p = some v := (hB.cell (World.block_lt_of_cell? _ _ h)).trans h
theorem Laid.then {w w' : World} (h : Laid w) (hB : Below w.heap.size w w') : Laid w' := h.below hB h.1
theorem Laid.alloc {w : World} (h : Laid w) (o : Obj) : Laid (w.alloc o) := h.below ((Below.refl _ _).alloc (Nat.le_refl _) _) h.1
theorem find_one {k : Nat} (hk : 1 ≤ k) (hk' : k < 66) {e : Ending} (h : FindIs (nm k) e) : e = .returned (.tuple #[.int .i64 k, .bool true]) := by
  rcases h with ⟨j, h1, h2, h3, h4⟩ | ⟨h1, h2⟩
  · rw [nm_apart j h2 k hk' h3] at h4
    exact h4
  · exact absurd rfl (h1 k hk hk')

set_option maxHeartbeats 1600000 in
theorem known_any (w : World) (hL : Laid w) : Calls Tryd.prog 9 #[] w fun e w' => e = .returned (.bool true) ∧ Below w.heap.size w w' := by
  have h1 := fun w hL => dec_some 19 22 w (by decide) (by decide) (by decide) (by decide) (by decide +kernel) hL
  rw [show rdO (fmo (22 : Nat)) 19 = 0 by decide +kernel, show r1O (fmo (22 : Nat)) 19 = 0 by decide +kernel, show r2O (fmo (22 : Nat)) 19 = 0 by decide +kernel, show imO (fmo (22 : Nat)) 19 = 0 by decide +kernel] at h1
  have h2 := fun w hL => enc_any 31 1 2 3 0 w (by decide) (by decide) hL
  rw [show encW 31 1 2 3 0 = 3211443 by decide +kernel, show encOk 31 1 2 3 0 = true by decide +kernel] at h2
  have h3 := fun w hL => dec_none 0 w (by decide) (by decide) none_0 hL
  have h4 : ∀ w, Laid w → Calls Tryd.prog 18 #[.string ⟨#[109, 117, 108, 104, 115, 117]⟩] w fun e w' => e = .returned (.tuple #[.int .i64 52, .bool true]) ∧ w' = w := fun w hL => by
    rw [← mulhsu_is]
    exact (find_any (nm 52) w hL).mono fun e w' h => ⟨find_one (by decide) (by decide) h.1, h.2⟩
  have h5 := fun w hL => name_any 1 w hL
  rw [show nmo 1 = ⟨#[108, 117, 105]⟩ by decide +kernel] at h5
  have h6 := fun w hL => form_any 21 w hL
  rw [show fmo 21 = 2 by decide +kernel] at h6
  unfold inst at h1 h2 h3
  have H1 := hide h1
  have H2 := hide h2
  have H3 := hide h3
  have H4 := hide h4
  have H5 := hide h5
  have H6 := hide h6
  have HL := hide hL
  clear h1 h2 h3 h4 h5 h6 hL
  go_enter Tryd.func9, Tryd.ntmps9
  go_wp2_with fail
  refine (H1.out _ HL.out).mono ?_
  rintro e W1 ⟨rfl, hB⟩
  have B1 := hide hB
  have L1 := hide (HL.out.then hB)
  clear hB H1
  go_wp2_with fail
  refine (H2.out _ (L1.out.alloc _)).mono ?_
  rintro e W2 ⟨rfl, hB⟩
  have c0 : W2.cell? ⟨W1.heap.size, 0, none⟩ = some (.int .i64 22) := cell_below hB (by go_simp)
  have c1 : W2.cell? ⟨W1.heap.size, 1, none⟩ = some (.int .i64 0) := cell_below hB (by go_simp)
  have c2 : W2.cell? ⟨W1.heap.size, 2, none⟩ = some (.int .i64 0) := cell_below hB (by go_simp)
  have c3 : W2.cell? ⟨W1.heap.size, 3, none⟩ = some (.int .i64 0) := cell_below hB (by go_simp)
  have c4 : W2.cell? ⟨W1.heap.size, 4, none⟩ = some (.int .i64 0) := cell_below hB (by go_simp)
  have L2 := hide ((L1.out.alloc _).then hB)
  have B2 : Hid (Below w.heap.size w W2) := hide ((B1.out.alloc B1.out.size _).trans (hB.mono (by have := B1.out.size; simp; omega)))
  clear hB H2
  go_wp2_with fail
  refine (H3.out _ L2.out).mono ?_
  rintro e W3 ⟨rfl, hB⟩
  have d0 := cell_below hB c0
  have d1 := cell_below hB c1
  have d2 := cell_below hB c2
  have d3 := cell_below hB c3
  have d4 := cell_below hB c4
  have L3 := hide (L2.out.then hB)
  have B3 : Hid (Below w.heap.size w W3) := hide (B2.out.trans (hB.mono B2.out.size))
  have hlt := World.block_lt_of_cell? _ _ d0
  have hlt1 : W1.heap.size < W3.heap.size := hlt
  clear hB H3 c0 c1 c2 c3 c4 hlt
  go_wp2_with fail
  refine (H4.out _ (L3.out.alloc _)).mono ?_
  rintro e W ⟨rfl, hW⟩
  rw [hW]
  clear hW W H4
  go_wp2_with fail
  refine (H5.out _ (L3.out.alloc _)).mono ?_
  rintro e W ⟨rfl, hW⟩
  rw [hW]
  clear hW W H5
  go_wp2_with fail
  refine (H6.out _ (L3.out.alloc _)).mono ?_
  rintro e W ⟨rfl, hW⟩
  rw [hW]
  clear hW W H6
  go_wp2
  go_ret
  exact ⟨rfl, B3.out.alloc B3.out.size _⟩

end Go.Proofs.YtnlngagcpcpbkaaDoor
