/- The walk of the law that any word is decoded as the document says. -/
import Derived.Test.YtnlngagcpcpbkaaDoorInstRefDecs
namespace Go.Proofs.YtnlngagcpcpbkaaDoor
open Go.RowKit
set_option linter.unusedVariables false
set_option linter.unusedSimpArgs false

set_option maxRecDepth 100000 in
set_option maxHeartbeats 1600000 in
theorem decodew_no (x : Int) (w : World) (hL : Laid w) (h0 : 0 ≤ x) (h1 : x ≤ 4294967295)
    (HK : Hid (∀ w, Laid w → Calls Tryd.prog 9 #[] w fun e w' => e = .returned (.bool true) ∧ Below w.heap.size w w'))
    (HD : Hid (∀ w, Laid w → Calls Tryd.prog 10 #[.int .u32 x] w fun e w' => e = .returned (.tuple #[.agg #[.int .i64 0, .int .i64 0, .int .i64 0, .int .i64 0, .int .i64 0], .bool false]) ∧ Below w.heap.size w w'))
    (HR : Hid (∀ w, Calls Tryd.prog 11 #[.int .u32 x] w fun e w' => e = .returned (.tuple #[.agg #[.int .i64 0, .int .i64 0, .int .i64 0, .int .i64 0, .int .i64 0], .bool false]) ∧ Below w.heap.size w w')) :
    Calls Tryd.prog 3 #[.int .u32 x] w fun e w' => e = .returned (.bool true) ∧ Below w.heap.size w w' := by
  have HL := hide hL
  clear hL
  go_enter Tryd.func3, Tryd.ntmps3
  go_wp2_with fail
  refine (HK.out _ HL.out).mono ?_
  rintro e W1 ⟨rfl, hB⟩
  have B1 := hide hB
  have L1 := hide (HL.out.then hB)
  clear hB HK HL
  go_wp2_with fail
  refine (HD.out _ L1.out).mono ?_
  rintro e W2 ⟨rfl, hB⟩
  have B2 : Hid (Below w.heap.size w W2) := hide (B1.out.trans (hB.mono B1.out.size))
  clear hB HD B1 L1
  go_wp2_with fail
  refine (HR.out _).mono ?_
  rintro e W3 ⟨rfl, hB⟩
  have f0 : W3.cell? ⟨W2.heap.size, 0, none⟩ = some (.int .i64 0) := cell_below hB (by go_simp)
  have f1 : W3.cell? ⟨W2.heap.size, 1, none⟩ = some (.int .i64 0) := cell_below hB (by go_simp)
  have f2 : W3.cell? ⟨W2.heap.size, 2, none⟩ = some (.int .i64 0) := cell_below hB (by go_simp)
  have f3 : W3.cell? ⟨W2.heap.size, 3, none⟩ = some (.int .i64 0) := cell_below hB (by go_simp)
  have f4 : W3.cell? ⟨W2.heap.size, 4, none⟩ = some (.int .i64 0) := cell_below hB (by go_simp)
  have B3 : Hid (Below w.heap.size w W3) := hide ((B2.out.alloc B2.out.size _).trans (hB.mono (by have := B2.out.size; simp; omega)))
  have hlt : W2.heap.size < W3.heap.size := World.block_lt_of_cell? _ _ f0
  clear hB HR B2
  go_wp2
  go_ret
  exact ⟨rfl, B3.out.alloc B3.out.size _⟩

set_option maxRecDepth 100000 in
set_option maxHeartbeats 1600000 in
theorem decodew_yes (x z o r0 r1 r2 im : Int) (w : World) (hL : Laid w) (h0 : 0 ≤ x) (h1 : x ≤ 4294967295) (hz : (z == x) = true ∨ ((z == x) = false ∧ o = 63))
    (HK : Hid (∀ w, Laid w → Calls Tryd.prog 9 #[] w fun e w' => e = .returned (.bool true) ∧ Below w.heap.size w w'))
    (HD : Hid (∀ w, Laid w → Calls Tryd.prog 10 #[.int .u32 x] w fun e w' => e = .returned (.tuple #[.agg #[.int .i64 o, .int .i64 r0, .int .i64 r1, .int .i64 r2, .int .i64 im], .bool true]) ∧ Below w.heap.size w w'))
    (HR : Hid (∀ w, Calls Tryd.prog 11 #[.int .u32 x] w fun e w' => e = .returned (.tuple #[.agg #[.int .i64 o, .int .i64 r0, .int .i64 r1, .int .i64 r2, .int .i64 im], .bool true]) ∧ Below w.heap.size w w'))
    (HE : Hid (∀ w, Laid w → Calls Tryd.prog 12 #[.agg #[.int .i64 o, .int .i64 r0, .int .i64 r1, .int .i64 r2, .int .i64 im]] w fun e w' => e = .returned (.tuple #[.int .u32 z, .bool true]) ∧ Below w.heap.size w w')) :
    Calls Tryd.prog 3 #[.int .u32 x] w fun e w' => e = .returned (.bool true) ∧ Below w.heap.size w w' := by
  have HL := hide hL
  have HZ := hide hz
  clear hL hz
  go_enter Tryd.func3, Tryd.ntmps3
  go_wp2_with fail
  refine (HK.out _ HL.out).mono ?_
  rintro e W1 ⟨rfl, hB⟩
  have B1 := hide hB
  have L1 := hide (HL.out.then hB)
  clear hB HK HL
  go_wp2_with fail
  refine (HD.out _ L1.out).mono ?_
  rintro e W2 ⟨rfl, hB⟩
  have B2 : Hid (Below w.heap.size w W2) := hide (B1.out.trans (hB.mono B1.out.size))
  have L2 := hide (L1.out.then hB)
  clear hB HD B1 L1
  go_wp2_with fail
  refine (HR.out _).mono ?_
  rintro e W3 ⟨rfl, hB⟩
  have f0 : W3.cell? ⟨W2.heap.size, 0, none⟩ = some (.int .i64 o) := cell_below hB (by go_simp)
  have f1 : W3.cell? ⟨W2.heap.size, 1, none⟩ = some (.int .i64 r0) := cell_below hB (by go_simp)
  have f2 : W3.cell? ⟨W2.heap.size, 2, none⟩ = some (.int .i64 r1) := cell_below hB (by go_simp)
  have f3 : W3.cell? ⟨W2.heap.size, 3, none⟩ = some (.int .i64 r2) := cell_below hB (by go_simp)
  have f4 : W3.cell? ⟨W2.heap.size, 4, none⟩ = some (.int .i64 im) := cell_below hB (by go_simp)
  have B3 : Hid (Below w.heap.size w W3) := hide ((B2.out.alloc B2.out.size _).trans (hB.mono (by have := B2.out.size; simp; omega)))
  have L3 := hide ((L2.out.alloc _).then hB)
  have hlt : W2.heap.size < W3.heap.size := World.block_lt_of_cell? _ _ f0
  clear hB HR B2 L2
  go_wp2_with fail
  refine (HE.out _ (L3.out.alloc _)).mono ?_
  rintro e W4 ⟨rfl, hB⟩
  have g0 : W4.cell? ⟨W2.heap.size, 0, none⟩ = some (.int .i64 o) := cell_below hB (by go_simp)
  have B4 : Hid (Below w.heap.size w W4) := hide ((B3.out.alloc B3.out.size _).trans (hB.mono (by have := B3.out.size; simp; omega)))
  have hlt4 : W2.heap.size < W4.heap.size := World.block_lt_of_cell? _ _ g0
  clear hB HE f0 f1 f2 f3 f4 B3 L3 hlt
  rcases HZ.out with hz | ⟨hz, rfl⟩
  all_goals clear HZ
  all_goals go_wp2
  all_goals go_ret
  all_goals exact ⟨rfl, B4.out⟩

theorem decode_walk (x : Int) (w : World) (hL : Laid w) (h0 : 0 ≤ x) (h1 : x ≤ 4294967295) :
    Calls Tryd.prog 3 #[.int .u32 x] w fun e w' => e = .returned (.bool true) ∧ Below w.heap.size w w' := by
  have HK := hide (fun w hL => known_any w hL)
  obtain ⟨o, ho⟩ := isOp_ex x
  rcases ho with ⟨rfl, hn⟩ | ⟨ho, ho', hM⟩
  · exact decodew_no x w hL h0 h1 HK (hide (fun w hL => dec_none x w h0 h1 (Or.inl ⟨rfl, hn⟩) hL)) (hide (fun w => rdec_none x w h0 h1 (Or.inl ⟨rfl, hn⟩)))
  · have HD := hide (fun w hL => dec_some x o w h0 h1 ho ho' hM hL)
    have HR := hide (fun w => rdec_some x o w h0 h1 ho ho' hM)
    have hf := fmo_k ho ho'
    have bi : -9223372036854775808 ≤ imO (fmo o) x ∧ imO (fmo o) x ≤ 9223372036854775807 := by
      unfold imO
      have := get_bd (fmo o) x
      rw [e20, e6, e5]
      split
      · omega
      · split <;> omega
    have HE := fun w hL => enc_any o (rdO (fmo o) x) (r1O (fmo o) x) (r2O (fmo o) x) (imO (fmo o) x) w bi.1 bi.2 hL
    by_cases h : o < 63
    · obtain ⟨hi, hr, hx⟩ := forth ho h h0 h1 hM
      have es := enc_sum ho h hi hr
      rw [← hf] at es hx
      rw [es.1, es.2, hx] at HE
      exact decodew_yes x x o _ _ _ _ w hL h0 h1 (Or.inl (by simp)) HK HD HR (hide HE)
    · have h6 := n_dec o ho' (by omega)
      have e : ∀ r0 r1 r2 im, encOk o r0 r1 r2 im = true := fun r0 r1 r2 im => by unfold encOk; rw [knw_k ho ho', h6]; rfl
      have e2 : ∀ r0 r1 r2 im, encW o r0 r1 r2 im = wd o := fun r0 r1 r2 im => by unfold encW; rw [e, if_pos rfl, if_pos h6]; rfl
      rw [e, e2] at HE
      refine decodew_yes x (wd o) o _ _ _ _ w hL h0 h1 ?_ HK HD HR (hide HE)
      rcases (show o = 63 ∨ o = 64 ∨ o = 65 by omega) with rfl | rfl | rfl
      · by_cases hz : (wd 63 == x) = true
        · exact Or.inl hz
        · exact Or.inr ⟨by simpa using hz, rfl⟩
      · obtain rfl := (mt_64 h0).1 hM
        exact Or.inl (by decide +kernel)
      · obtain rfl := (mt_65 h0).1 hM
        exact Or.inl (by decide +kernel)

end Go.Proofs.YtnlngagcpcpbkaaDoor
