/- The chapter's example (known of layer 11). -/
import Derived.Test.YtmmbahblnmhhmaaShdrFile
namespace Go.Proofs.Ytmmbahblnmhhmaa
open Go.RowKit
set_option linter.unusedVariables false
set_option linter.unusedSimpArgs false

def knS : Sh := ⟨1, 1, 2, 0, 64, 4, 0, 0, 4, 0⟩
def knD : Sh := ⟨0, 1, 0, 0, 0, 4, 0, 0, 0, 0⟩
theorem knS_ok : knS.Ok := ⟨by decide, by decide, by decide, by decide, by decide, by decide, by decide, by decide, by decide, by decide⟩
theorem knD_ok : knD.Ok := ⟨by decide, by decide, by decide, by decide, by decide, by decide, by decide, by decide, by decide, by decide⟩
theorem knl_ok : ∀ s ∈ [knS], s.Ok := fun s hs => by simp at hs; subst hs; exact knS_ok
theorem isPow_four : isPow 4 = true := isPow_pow 2
theorem kn11_prs : prsOk (mdB [knS]) 80 ((3 : Nat) : Int) ((2 : Nat) : Int) := by
  refine (prs_made [knS] knl_ok).2 ?_
  intro s hs
  simp at hs
  subst hs
  refine ⟨?_, by decide⟩
  unfold rtB
  rw [if_neg (by decide)]
  have h1 : knB knS.ty = true := by decide
  have h2 : flB knS.fl = true := by decide +kernel
  have h3 : alB knS.al = true := by unfold alB; exact decide_eq_true (.inr ⟨by decide, isPow_four⟩)
  have h4 : hlB knS (80 + 64 * ([knS].length + 2)) = true := by decide
  rw [h1, h2, h3, h4]
  rfl
theorem kn11_nms : nmL (mdB [knS]) (mdH [knS]) ((2 : Nat) : Int) = [[], [97], [98, 99]] := by
  unfold nmL
  rw [show ((2 : Nat) : Int) = (([knS].length + 1 : Nat) : Int) from rfl, mdH_last, mdB_tab]
  decide +kernel
theorem kn11_hds : hdsL (mdB [knS]) 80 3 = mdH [knS] := mdB_hds [knS] knl_ok
theorem kn11_dt : dtB (mdB [knS]) knD = true := by
  unfold dtB
  rw [if_neg (by decide)]
  unfold cutOk
  refine decide_eq_true ?_
  rw [mdB_len]
  decide
theorem kn11_dl : strOfNums (dtL (mdB [knS]) knD) = ⟨#[127, 69, 76, 70]⟩ := by
  have e : dtL (mdB [knS]) knD = [127, 69, 76, 70] := by
    unfold dtL
    rw [if_neg (by decide)]
    unfold cutOf
    rw [if_pos (by rw [mdB_len]; decide)]
    rfl
  rw [e]
  decide

theorem Rs.lit (w : World) (t : TypeId) (ns : List (List UInt8)) (hl : ns.length ≤ 9223372036854775807) : Rs (w.alloc (.cells (csT ns).toArray t)) (some ⟨w.heap.size, 0, none⟩) ns.length ns.length ns := by
  refine ⟨rfl, Nat.le_refl _, hl, (fun h => by cases h), fun x hx i hi => ?_⟩
  cases hx
  have e : (⟨w.heap.size, 0, none⟩ : Addr).add i = ⟨w.heap.size, i, none⟩ := by unfold Addr.add; split <;> simp_all
  rw [e, cell_of_row _ _ i _ t (0, 0) (heap_alloc_new w _)]
  simp [csT, hi]

theorem Rh.lit (w : World) (t : TypeId) (l : List Sh) (hok : ∀ s ∈ l, s.Ok) (hl : l.length ≤ 9223372036854775807) : Rh (w.alloc (.cells (shCells l).toArray t)) (some ⟨w.heap.size, 0, none⟩) l.length l.length l := by
  refine ⟨rfl, Nat.le_refl _, hl, hok, (fun h => by cases h), fun i s hs => ⟨w.heap.size, 0, rfl, fun j hj => ?_⟩⟩
  rw [cell_of_row _ _ _ _ t (0, 0) (heap_alloc_new w _), Nat.zero_add]
  simpa using shCells_at l i j s hs hj

theorem kn11_par (e : Ending) (w : World) (h : PrsR (mdB [knS]) 80 3 2 e w) : ∃ a c a2 c2, e = .returned (.tuple #[.slice a 3 c, .slice a2 3 c2, .int .i64 0]) ∧ Rh w a 3 c (mdH [knS]) ∧ Rs w a2 3 c2 [[], [97], [98, 99]] := by
  rcases h with ⟨_, a, c, a2, c2, he, h1, h2⟩ | ⟨h, _⟩
  · refine ⟨a, c, a2, c2, he, ?_, ?_⟩
    · rw [← kn11_hds]; exact h1
    · rw [← kn11_nms, ← kn11_hds]; exact h2
  · exact absurd kn11_prs h

set_option maxHeartbeats 3200000 in
set_option maxRecDepth 20000 in
theorem known_11 (w : World) : Calls Try.prog 7 #[] w fun e w' => e = .returned (.bool true) ∧ Below w.heap.size w w' := by
  have r0 : Rh (w.alloc (.cells #[.int .u32 1, .int .u32 1, .int .u64 2, .int .u64 0, .int .u64 64, .int .u64 4, .int .u32 0, .int .u32 0, .int .u64 4, .int .u64 0] 47)) (some ⟨w.heap.size, 0, none⟩) 1 1 [knS] := Rh.lit w 47 [knS] knl_ok (by decide)
  have b0 : Below w.heap.size w (w.alloc (.cells #[.int .u32 1, .int .u32 1, .int .u64 2, .int .u64 0, .int .u64 64, .int .u64 4, .int .u32 0, .int .u32 0, .int .u64 4, .int .u64 0] 47)) := (Below.refl _ _).alloc (Nat.le_refl _) _
  have MA := hide (made_any _ 1 1 [knS] _ r0 (by decide))
  have B0 := hide b0
  have z0 := b0.size
  clear r0 b0
  unfold hdV at MA
  go_enter Try.func7, Try.ntmps7
  go_wp2_with fail
  refine MA.out.mono ?_
  rintro e W1 ⟨v1, rfl, o1, b1⟩
  obtain ⟨a1, c1, hv1, r1⟩ := Rd.own o1 (mdB_bytes _)
  subst hv1
  have R1 := hide r1
  have B1 := hide (B0.out.trans (b1.mono z0))
  have z1 := B1.out.size
  clear o1 r1 b1 MA B0 z0
  have b2 := (Below.refl W1.heap.size W1).alloc (Nat.le_refl _) (.cells #[.int .u64 80, .int .i64 3, .int .i64 2] 27)
  have R2 := hide (R1.out.below b2)
  have B2 := hide (B1.out.trans (b2.mono z1))
  have z2 := B2.out.size
  have PA := hide (parse11_any a1 272 c1 (mdB [knS]) 80 3 2 _ R2.out (by decide) (by decide) (by decide) (by decide) (by decide) (by decide) (by decide))
  unfold hdV at PA
  clear b2 R1 B1 z1
  go_wp2_with fail
  refine PA.out.mono ?_
  rintro e W3 ⟨hp, b3⟩
  obtain ⟨a3, c3, a3', c3', rfl, rh3, rs3⟩ := kn11_par e W3 hp
  have RH3 := hide rh3
  have RS3 := hide rs3
  have R3 := hide (R2.out.below b3)
  have B3 := hide (B2.out.trans (b3.mono z2))
  have z3 := B3.out.size
  have DA := hide (sdata_any a1 272 c1 (mdB [knS]) knD W3 R3.out knD_ok (by decide))
  rw [kn11_dt] at DA
  have DA2 : Hid (Calls Try.prog 16 #[.slice a1 272 c1, .agg #[.int .u32 0, .int .u32 1, .int .u64 0, .int .u64 0, .int .u64 0, .int .u64 4, .int .u32 0, .int .u32 0, .int .u64 0, .int .u64 0]] W3 fun e w' => ∃ a' len' cap', e = .returned (.tuple #[.slice a' len' cap', .bool true]) ∧ Rd w' a' len' cap' (dtL (mdB [knS]) knD) ∧ Below W3.heap.size W3 w') := DA
  clear hp rh3 rs3 b3 PA R2 B2 z2 DA
  go_wp2_with fail
  refine DA2.out.mono ?_
  rintro e W4 ⟨a4, l4, c4, rfl, r4, b4⟩
  have RH4 := hide (RH3.out.below b4)
  have RS4 := hide (RS3.out.below b4)
  have B4 := hide (B3.out.trans (b4.mono z3))
  have z4 := B4.out.size
  have R4 := hide r4
  obtain ⟨b5, o5, ha3, hc⟩ := RH4.out.addr (by decide)
  subst ha3
  have k5 := (hc 1 knS rfl).c5
  clear hc b4 r4 DA2 RH3 RS3 R3 B3 z3
  have ST := hide (strs_eq a3' 3 c3' [[], [97], [98, 99]] (some ⟨W4.heap.size, 0, none⟩) 3 _ (RS4.out.below ((Below.refl _ _).alloc (Nat.le_refl _) _)) (Rs.lit W4 9 [[], [97], [98, 99]] (by decide)))
  have hle3 := RH4.out.le
  have hmx3 := RH4.out.max
  have k5' : W4.cell? ⟨b5, o5 + 10 + 5, none⟩ = some (.int .u64 4) := k5
  clear k5
  go_wp2_with fail
  refine ST.out.mono ?_
  rintro e W5 ⟨rfl, b5'⟩
  have b5'' : Below W4.heap.size W4 W5 := ((Below.refl _ _).alloc (Nat.le_refl _) _).trans (b5'.mono (by simp))
  have s5 := (R4.out.below b5'').str
  rw [kn11_dl] at s5
  have B5 := hide (B4.out.trans (b5''.mono z4))
  have z5 := B5.out.size
  have SB := hide (sbytes_any _ 3 c3 (mdH [knS]) W5 (RH4.out.below b5'') (by decide))
  clear b5' b5'' ST R4 RS4 RH4 B4 k5'
  go_wp2_with fail
  refine SB.out.mono ?_
  rintro e W6 ⟨a6, c6, rfl, r6, b6⟩
  have B6 := hide (B5.out.trans (b6.mono z5))
  clear r6 b6 SB s5 B5
  go_wp2
  go_ret
  exact ⟨rfl, B6.out⟩

end Go.Proofs.Ytmmbahblnmhhmaa
