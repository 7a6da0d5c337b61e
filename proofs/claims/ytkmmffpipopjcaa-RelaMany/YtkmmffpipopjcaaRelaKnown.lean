/- The contract of the statements' help Relas, where both sides are the same; the chapter's example (known of layer 13). -/
import Derived.Test.YtkmmffpipopjcaaRelaBytes
namespace Go.Proofs.Ytkmmffpipopjcaa
open Go.RowKit
set_option linter.unusedVariables false
set_option linter.unusedSimpArgs false

set_option maxHeartbeats 1600000 in
set_option maxRecDepth 20000 in
theorem relsame_eq (a : Option Addr) (len cap : Nat) (l : List Re) (a2 : Option Addr) (cap2 : Nat) (w : World) (r : Rl w a len cap l) (r2 : Rl w a2 len cap2 l) :
    Calls Try.prog 12 #[.slice a len cap, .slice a2 len cap2] w fun e w' => e = .returned (.bool true) ∧ Below w.heap.size w w' := by
  have hl := r.length
  have hle := r.le
  have hmx := r.max
  have HR := hide r
  have HR2 := hide r2
  clear r r2
  by_cases h0 : len = 0
  · subst h0
    go_enter Try.func12, Try.ntmps12
    go_wp2
    go_loopg [5] 0 (fun g kv wi => wi = w ∧ kv = .int .i64 0)
    case atStart => exact ⟨rfl, rfl⟩
    case round =>
      obtain ⟨rfl, rfl⟩ := hrel
      go_wp2
      go_ret
      exact ⟨rfl, Below.refl _ _⟩
  · obtain ⟨b, o, rfl, hc⟩ := Rl.addr HR.out (by omega)
    obtain ⟨b2, o2, rfl, hc2⟩ := Rl.addr HR2.out (by omega)
    clear hc hc2 h0
    go_enter Try.func12, Try.ntmps12
    go_wp2
    go_loopg [5] len (fun g kv wi => ∃ i : Nat, i ≤ len ∧ g = len - i ∧ kv = .int .i64 (i : Int) ∧ Hid (Below w.heap.size w wi))
    case atStart => exact ⟨0, by omega, by omega, rfl, Below.refl _ _⟩
    case round =>
      obtain ⟨i, hi, rfl, rfl, HB⟩ := hrel
      by_cases hlt : i < len
      · have r1 := HR.out.below HB.out
        have r2 := HR2.out.below HB.out
        obtain ⟨b', o', e, hc⟩ := Rl.addr r1 (by omega)
        cases e
        obtain ⟨b', o', e, hc2⟩ := Rl.addr r2 (by omega)
        cases e
        obtain ⟨t, ht⟩ : ∃ t, l[i]? = some t := ⟨_, List.getElem?_eq_getElem (by omega)⟩
        obtain ⟨c0, c1, c2, c3⟩ := hc i t ht
        obtain ⟨d0, d1, d2, d3⟩ := hc2 i t ht
        have hlt' : (i : Int) < (len : Int) := by omega
        have HB2 := hide (fun q => HB.out.trans ((bel_drewS wr q).mono HB.out.size))
        clear HR HR2 r1 r2 hc hc2 HB ht
        go_upto_region 6 with fail
        go_quiet (fail)
        go_wp2
        go_roundg (len - (i + 1))
        case measure => omega
        case rel => exact ⟨i + 1, by omega, rfl, by go_num, HB2.out _⟩
      · go_wp2
        go_ret
        exact ⟨rfl, HB.out⟩

def knR : Re := ⟨4, 18, 1, -2⟩
theorem knR_ok : ∀ s ∈ [knR], s.Ok := fun s hs => by
  simp at hs
  subst hs
  exact ⟨by decide, by decide, by decide, by decide⟩
theorem kn13_yes : relOk (resL [knR]) 12 2 := by
  rw [rel_laid _ _ _ knR_ok (by decide)]
  intro s hs
  simp at hs
  subst hs
  decide
theorem kn13_no : ¬ relOk (resL [knR]) 11 2 := by
  rw [rel_laid _ _ _ knR_ok (by decide)]
  intro h
  exact absurd (h knR (by simp)) (by decide)
theorem kn13_len : (resL [knR]).length / 24 = 1 := by rw [resL_len]; rfl
theorem kn13_par (e : Ending) (w : World) (h : ReR (resL [knR]) 12 2 e w) : ∃ a c, e = .returned (.tuple #[.slice a 1 c, .int .i64 0]) ∧ Rl w a 1 c [knR] := by
  rcases h with ⟨_, a, c, he, h1⟩ | ⟨h, _⟩
  · rw [kn13_len] at he h1
    rw [show rlsL (resL [knR]) 1 = [knR] from rls_back [knR] knR_ok] at h1
    exact ⟨a, c, he, h1⟩
  · exact absurd kn13_yes h
theorem kn13_bad (e : Ending) (w : World) (h : ReR (resL [knR]) 11 2 e w) : e = .returned (.tuple #[.slice none 0 0, .int .i64 33]) := by
  rcases h with ⟨h, _⟩ | ⟨_, h⟩
  · exact absurd h kn13_no
  · exact h

set_option maxHeartbeats 3200000 in
set_option maxRecDepth 20000 in
theorem known_13 (w : World) : Calls Try.prog 7 #[] w fun e w' => e = .returned (.bool true) ∧ Below w.heap.size w w' := by
  have r0 : Rl (w.alloc (.cells #[.int .u64 4, .int .u32 18, .int .u32 1, .int .i64 (-2)] 40)) (some ⟨w.heap.size, 0, none⟩) 1 1 [knR] := Rr.lit w 40 [knR] knR_ok (by decide)
  have b0 : Below w.heap.size w (w.alloc (.cells #[.int .u64 4, .int .u32 18, .int .u32 1, .int .i64 (-2)] 40)) := (Below.refl _ _).alloc (Nat.le_refl _) _
  have z0 := b0.size
  have B0 := hide b0
  have MA := hide (relbytes_any (some ⟨w.heap.size, 0, none⟩) 1 1 [knR] _ r0 (by decide))
  clear r0 b0
  go_enter Try.func7, Try.ntmps7
  go_wp2_with fail
  refine MA.out.mono ?_
  rintro e W1 ⟨a1, c1, rfl, r1, b1⟩
  have R1 := hide r1
  have B1 := hide (B0.out.trans (b1.mono z0))
  have z1 := B1.out.size
  have PA := hide (relparse_any a1 24 c1 (resL [knR]) 12 2 W1 r1 (by decide) (by decide) (by decide))
  clear r1 b1 MA B0 z0
  go_wp2_with fail
  refine PA.out.mono ?_
  rintro e W3 ⟨hp, b3⟩
  obtain ⟨a3, c3, rfl, rh3⟩ := kn13_par e W3 hp
  have B3 := hide (B1.out.trans (b3.mono z1))
  have z3 := B3.out.size
  have RH3 := hide rh3
  have PB := hide (relparse_any a1 24 c1 (resL [knR]) 11 2 W3 (R1.out.below b3) (by decide) (by decide) (by decide))
  clear rh3 hp b3 PA R1 B1 z1
  go_wp2_with fail
  refine PB.out.mono ?_
  rintro e W5 ⟨hp, b5⟩
  obtain rfl := kn13_bad e W5 hp
  have B5 := hide (B3.out.trans (b5.mono z3))
  have z5 := B5.out.size
  have RH5 := hide (RH3.out.below b5)
  clear hp b5 PB B3 z3 RH3
  obtain ⟨b6, o6, ha3, hc⟩ := Rl.addr RH5.out (by decide)
  subst ha3
  have k3 := (hc 0 knR rfl).c3
  have k3' : W5.cell? ⟨b6, o6 + 3, none⟩ = some (.int .i64 (-2)) := by simpa [knR] using k3
  clear hc k3
  have hle3 := RH5.out.le
  have hmx3 := RH5.out.max
  have WD := hide (rwidth_any 18 W5 (by decide))
  have KA := hide (rknown_any 2 W5 (by decide))
  have KB := hide (rknown_any 0 W5 (by decide))
  go_wp2_with fail
  refine WD.out.mono ?_
  rintro e w' ⟨rfl, hw'⟩
  rw [hw']
  clear hw' w' WD
  have e18 : reW 18 = 8 := by decide
  have e2 : reK 2 = true := by decide
  have e0 : reK 0 = false := by decide
  rw [e18]
  go_wp2_with fail
  refine KA.out.mono ?_
  rintro e w' ⟨rfl, hw'⟩
  rw [hw']
  clear hw' w' KA
  rw [e2]
  go_wp2_with fail
  refine KB.out.mono ?_
  rintro e w' ⟨rfl, hw'⟩
  rw [hw']
  clear hw' w' KB
  rw [e0]
  go_wp2
  go_ret
  exact ⟨rfl, B5.out⟩

end Go.Proofs.Ytkmmffpipopjcaa
