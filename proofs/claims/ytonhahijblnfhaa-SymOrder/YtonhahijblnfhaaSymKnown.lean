/- The contract of the statements' same, where both sides are the same; the chapter's example (known of layer 12). -/
import Derived.Test.YtonhahijblnfhaaSymRef
import Derived.Test.YtonhahijblnfhaaTxtSame
import Derived.Lib.SlBytesConst
namespace Go.Proofs.Ytonhahijblnfhaa
open Go.RowKit
set_option linter.unusedVariables false
set_option linter.unusedSimpArgs false

set_option maxHeartbeats 1600000 in
set_option maxRecDepth 20000 in
theorem symsame_eq (a : Option Addr) (len cap : Nat) (l : List Sy) (a2 : Option Addr) (cap2 : Nat) (w : World) (r : Ry w a len cap l) (r2 : Ry w a2 len cap2 l) :
    Calls Try.prog 12 #[.slice a len cap, .slice a2 len cap2] w fun e w' => e = .returned (.bool true) ∧ Below w.heap.size w w' := by
  have hl := r.length
  have hle := r.le
  have hmx := r.max
  have HR := hide r
  have HR2 := hide r2
  clear r r2
  by_cases h0 : len = 0
  · subst h0
    go_enter Try.func12, Try.ntmps12
    go_wp2
    go_loopg [5] 0 (fun g kv wi => wi = w ∧ kv = .int .i64 0)
    case atStart => exact ⟨rfl, rfl⟩
    case round =>
      obtain ⟨rfl, rfl⟩ := hrel
      go_wp2
      go_ret
      exact ⟨rfl, Below.refl _ _⟩
  · obtain ⟨b, o, rfl, hc⟩ := Ry.addr HR.out (by omega)
    obtain ⟨b2, o2, rfl, hc2⟩ := Ry.addr HR2.out (by omega)
    clear hc hc2 h0
    go_enter Try.func12, Try.ntmps12
    go_wp2
    go_loopg [5] len (fun g kv wi => ∃ i : Nat, i ≤ len ∧ g = len - i ∧ kv = .int .i64 (i : Int) ∧ Hid (Below w.heap.size w wi))
    case atStart => exact ⟨0, by omega, by omega, rfl, Below.refl _ _⟩
    case round =>
      obtain ⟨i, hi, rfl, rfl, HB⟩ := hrel
      by_cases hlt : i < len
      · have r1 := HR.out.below HB.out
        have r2 := HR2.out.below HB.out
        obtain ⟨b', o', e, hc⟩ := Ry.addr r1 (by omega)
        cases e
        obtain ⟨b', o', e, hc2⟩ := Ry.addr r2 (by omega)
        cases e
        obtain ⟨t, ht⟩ : ∃ t, l[i]? = some t := ⟨_, List.getElem?_eq_getElem (by omega)⟩
        obtain ⟨c0, c1, c2, c3, c4, c5, c6⟩ := hc i t ht
        obtain ⟨d0, d1, d2, d3, d4, d5, d6⟩ := hc2 i t ht
        have hlt' : (i : Int) < (len : Int) := by omega
        have HB2 := hide (fun q => HB.out.trans ((bel_drewS wr q).mono HB.out.size))
        clear HR HR2 r1 r2 hc hc2 HB ht
        go_upto_region 6 with fail
        go_quiet (fail)
        go_wp2
        go_roundg (len - (i + 1))
        case measure => omega
        case rel => exact ⟨i + 1, by omega, rfl, by go_num, HB2.out _⟩
      · go_wp2
        go_ret
        exact ⟨rfl, HB.out⟩

def knY : Sy := ⟨1, 1, 2, 0, 1, 4, 0⟩
theorem knY_ok : ∀ s ∈ [sy0, knY], s.Ok := fun s hs => by
  simp at hs
  rcases hs with rfl | rfl
  · exact ⟨by decide, by decide, by decide, by decide, by decide, by decide, by decide⟩
  · exact ⟨by decide, by decide, by decide, by decide, by decide, by decide, by decide⟩
def knN : List Int := [0, 102, 0]
theorem knN_bytes : Bytes knN := by intro x hx; simp [knN] at hx; omega
theorem sysL_front (l : List Sy) (j : Nat) (s : Sy) (hj : l[j]? = some s) (h : s.Ok) : syAt (sysL l) (24 * j) = s.nrm := by
  have := syAt_list [] [] l j s hj h
  simpa using this
theorem kn12_at0 : syAt (sysL [sy0, knY]) (24 * 0) = sy0 := by rw [sysL_front _ 0 sy0 rfl (knY_ok _ (by simp))]; rfl
theorem kn12_at1 : syAt (sysL [sy0, knY]) (24 * 1) = knY := by rw [sysL_front _ 1 knY rfl (knY_ok _ (by simp))]; rfl
theorem kn12_len : (sysL [sy0, knY]).length / 24 = 2 := by rw [sysL_len]; rfl
theorem kn12_gt : gtO knN 1 = some [102] := by decide +kernel
theorem kn12_yes : symOk (sysL [sy0, knY]) knN 1 := by
  unfold symOk
  rw [kn12_len]
  refine ⟨by rw [sysL_len]; rfl, by decide, by decide, by decide, by decide, fun i hi => ?_⟩
  rcases (show i = 0 ∨ i = 1 by omega) with rfl | rfl
  · rw [kn12_at0]; rfl
  · rw [kn12_at1]
    unfold syB
    rw [if_neg (by decide), show knY.nm = 1 from rfl, kn12_gt]
    rfl
theorem kn12_no : ¬ symOk (sysL [sy0, knY]) knN 2 := fun h => by
  have h1 := h.2.2.2.2.2 1 (by rw [kn12_len]; decide)
  rw [kn12_at1] at h1
  unfold syB at h1
  rw [if_neg (by decide), show knY.nm = 1 from rfl, kn12_gt] at h1
  exact absurd h1 (by decide)
theorem kn12_l : symsL (sysL [sy0, knY]) 2 = [sy0, knY] := by
  have h0 := kn12_at0
  have h1 := kn12_at1
  simp only [symsL, List.range, List.range.loop, List.map, h0, h1]
theorem kn12_n : synL (sysL [sy0, knY]) knN 2 = [[], [102]] := by
  have h1 := kn12_at1
  simp only [synL, List.range, List.range.loop, List.map, h1]
  rw [if_pos trivial, if_neg (by decide), show knY.nm = 1 from rfl, kn12_gt]
  rfl
theorem kn12_par (e : Ending) (w : World) (h : SyR (sysL [sy0, knY]) knN 1 e w) : ∃ a c a2 c2, e = .returned (.tuple #[.slice a 2 c, .slice a2 2 c2, .int .i64 0]) ∧ Ry w a 2 c [sy0, knY] ∧ Rs w a2 2 c2 [[], [102]] := by
  rcases h with ⟨_, a, c, a2, c2, he, h1, h2⟩ | ⟨h, _⟩
  · rw [kn12_len] at he h1 h2
    rw [kn12_l] at h1
    rw [kn12_n] at h2
    exact ⟨a, c, a2, c2, he, h1, h2⟩
  · exact absurd kn12_yes h
theorem kn12_bad (e : Ending) (w : World) (h : SyR (sysL [sy0, knY]) knN 2 e w) : e = .returned (.tuple #[.slice none 0 0, .slice none 0 0, .int .i64 32]) := by
  rcases h with ⟨h, _⟩ | ⟨_, h⟩
  · exact absurd h kn12_no
  · exact h

/-- A row of bytes that was just laid. -/
theorem Rd.row (w : World) (t : TypeId) (fr : Nat × Nat) (l : List Int) (hb : Bytes l) (hl : l.length ≤ 9223372036854775807) : Rd (w.alloc (.cells (l.map (Value.int .u8)).toArray t fr)) (some ⟨w.heap.size, 0, none⟩) l.length l.length l := by
  refine ⟨rfl, Nat.le_refl _, hl, hb, (fun h => by cases h), fun x hx i hi => ?_⟩
  cases hx
  have e : (⟨w.heap.size, 0, none⟩ : Addr).add i = ⟨w.heap.size, i, none⟩ := by unfold Addr.add; split <;> simp_all
  rw [e, cell_of_row _ _ i _ t fr (heap_alloc_new w _)]
  simp [hi]

set_option maxHeartbeats 3200000 in
set_option maxRecDepth 20000 in
theorem known_12 (w : World) : Calls Try.prog 7 #[] w fun e w' => e = .returned (.bool true) ∧ Below w.heap.size w w' := by
  have r0 : Ry (w.alloc (.cells #[.int .u32 0, .int .i64 0, .int .i64 0, .int .i64 0, .int .i64 0, .int .u64 0, .int .u64 0, .int .u32 1, .int .i64 1, .int .i64 2, .int .i64 0, .int .i64 1, .int .u64 4, .int .u64 0] 40)) (some ⟨w.heap.size, 0, none⟩) 2 2 [sy0, knY] := Rr.lit w 40 [sy0, knY] knY_ok (by decide)
  have b0 : Below w.heap.size w (w.alloc (.cells #[.int .u32 0, .int .i64 0, .int .i64 0, .int .i64 0, .int .i64 0, .int .u64 0, .int .u64 0, .int .u32 1, .int .i64 1, .int .i64 2, .int .i64 0, .int .i64 1, .int .u64 4, .int .u64 0] 40)) := (Below.refl _ _).alloc (Nat.le_refl _) _
  have MA := hide (symbytes_any _ 2 2 [sy0, knY] _ r0 (by decide))
  have B0 := hide b0
  have z0 := b0.size
  clear r0 b0
  have kc := fun (w : World) (C : Array Value) (n c : Nat) => Lib.run_convert_bytes_const (P := Try.prog) w 23 5 C n c Try.underlying23 Try.underlying5
  go_enter Try.func7, Try.ntmps7
  go_wp2_with fail
  refine MA.out.mono ?_
  rintro e W1 ⟨a1, c1, rfl, r1, b1⟩
  have R1 := hide r1
  have B1 := hide (B0.out.trans (b1.mono z0))
  have z1 := B1.out.size
  clear r1 b1 MA B0 z0
  have b2 : Below W1.heap.size W1 (W1.alloc (.cells #[.int .u8 0, .int .u8 102, .int .u8 0] 5 (3, 4))) := (Below.refl W1.heap.size W1).alloc (Nat.le_refl _) _
  have q2 : Rd (W1.alloc (.cells #[.int .u8 0, .int .u8 102, .int .u8 0] 5 (3, 4))) (some ⟨W1.heap.size, 0, none⟩) 3 3 knN := Rd.row W1 5 (3, 4) knN knN_bytes (by decide)
  have R2 := hide (R1.out.below b2)
  have B2 := hide (B1.out.trans (b2.mono z1))
  have z2 := B2.out.size
  have PA := hide (symparse_any a1 48 c1 (sysL [sy0, knY]) _ 3 3 knN 1 _ R2.out q2 (by decide))
  clear b2 R1 B1 z1 q2
  go_wp2_with fail
  refine PA.out.mono ?_
  rintro e W3 ⟨hp, b3⟩
  obtain ⟨a3, c3, a3', c3', rfl, rh3, rs3⟩ := kn12_par e W3 hp
  have R3 := hide (R2.out.below b3)
  have B3 := hide (B2.out.trans (b3.mono z2))
  have z3 := B3.out.size
  have RH3 := hide rh3
  have RS3 := hide rs3
  clear rh3 rs3 hp b3 PA R2 B2 z2
  have b4 : Below W3.heap.size W3 (W3.alloc (.cells #[.int .u8 0, .int .u8 102, .int .u8 0] 5 (3, 4))) := (Below.refl W3.heap.size W3).alloc (Nat.le_refl _) _
  have q4 : Rd (W3.alloc (.cells #[.int .u8 0, .int .u8 102, .int .u8 0] 5 (3, 4))) (some ⟨W3.heap.size, 0, none⟩) 3 3 knN := Rd.row W3 5 (3, 4) knN knN_bytes (by decide)
  have R4 := hide (R3.out.below b4)
  have B4 := hide (B3.out.trans (b4.mono z3))
  have z4 := B4.out.size
  have RH4 := hide (RH3.out.below b4)
  have RS4 := hide (RS3.out.below b4)
  have PB := hide (symparse_any a1 48 c1 (sysL [sy0, knY]) _ 3 3 knN 2 _ R4.out q4 (by decide))
  clear b4 R3 B3 z3 q4 RH3 RS3
  go_wp2_with fail
  refine PB.out.mono ?_
  rintro e W5 ⟨hp, b5⟩
  obtain rfl := kn12_bad e W5 hp
  have B5 := hide (B4.out.trans (b5.mono z4))
  have z5 := B5.out.size
  have RH5 := hide (RH4.out.below b5)
  have RS5 := hide (RS4.out.below b5)
  clear hp b5 PB R4 B4 z4 RH4 RS4
  obtain ⟨b6, o6, ha3, hc⟩ := Ry.addr RH5.out (by decide)
  subst ha3
  have k5 := (hc 1 knY rfl).c5
  have k1 := (hc 1 knY rfl).c1
  clear hc
  have ST := hide (strs_eq a3' 2 c3' [[], [102]] (some ⟨W5.heap.size, 0, none⟩) 2 _ (RS5.out.below ((Below.refl _ _).alloc (Nat.le_refl _) _)) (Rs.lit W5 9 [[], [102]] (by decide)))
  have hle3 := RH5.out.le
  have hmx3 := RH5.out.max
  have k5' : W5.cell? ⟨b6, o6 + 7 + 5, none⟩ = some (.int .u64 4) := k5
  have k1' : W5.cell? ⟨b6, o6 + 7 + 1, none⟩ = some (.int .i64 1) := k1
  clear k5 k1
  go_wp2_with fail
  refine ST.out.mono ?_
  rintro e W7 ⟨rfl, b7⟩
  have b7' : Below W5.heap.size W5 W7 := ((Below.refl _ _).alloc (Nat.le_refl _) _).trans (b7.mono (by simp))
  have B7 := hide (B5.out.trans (b7'.mono z5))
  clear b7 b7' ST RS5 RH5 B5
  go_wp2
  go_ret
  exact ⟨rfl, B7.out⟩

end Go.Proofs.Ytonhahijblnfhaa
