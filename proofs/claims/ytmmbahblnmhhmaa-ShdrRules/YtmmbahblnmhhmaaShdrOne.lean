/- Contracts of shdr.held, shdr.right, shdr.pair, shdr.halves, shdr.Data and of the document's Data. -/
import Derived.Test.YtmmbahblnmhhmaaShdrMem
namespace Go.Proofs.Ytmmbahblnmhhmaa
open Go.RowKit
set_option linter.unusedVariables false
set_option linter.unusedSimpArgs false

theorem held_any (s : Sh) (size : Nat) (w : World) (hs : s.Ok) (hz : size < 18446744073709551616) :
    Calls Try.prog 38 #[shV s, .int .u64 (size : Int)] w fun e w' => e = .returned (.bool (hlB s size)) ∧ Below w.heap.size w w' := by
  have hn := hs.ty
  have ho := hs.off
  have hsz := hs.sz
  have B0 := hide ((Below.refl w.heap.size w).alloc (Nat.le_refl _) (.cells s.cells.toArray 47))
  by_cases h8 : s.ty = 8
  · have n8 : ((s.ty : Int) == 8) = true := by simp; omega
    have e : hlB s size = decide ((s.sz : Int) ≤ 67108864) := by unfold hlB; rw [if_pos h8, decide_eq_decide]; omega
    rw [e]
    clear e h8
    unfold shV
    go_enter Try.func38, Try.ntmps38
    go_wp2
    go_ret
    exact ⟨rfl, B0.out⟩
  · have n8 : ((s.ty : Int) == 8) = false := by simp; omega
    have e : hlB s size = withinOf (s.off : Int) (s.sz : Int) (size : Int) := by unfold hlB withinOf; rw [if_neg h8, decide_eq_decide]; omega
    rw [e]
    have hw := fun W => within_any (s.off : Int) (s.sz : Int) (size : Int) W (by omega) (by omega) (by omega) (by omega) (by omega) (by omega)
    generalize withinOf (s.off : Int) (s.sz : Int) (size : Int) = t at *
    clear e h8
    unfold shV
    go_enter Try.func38, Try.ntmps38
    go_wp2_with (go_at_call 33; refine (hw _).mono ?_; rintro e w' ⟨rfl, rfl⟩)
    go_ret
    exact ⟨rfl, B0.out⟩

theorem pair_any (l h : Nat) (w : World) (hl : l < 4294967296) (hh : h < 4294967296) :
    Calls Try.prog 28 #[.int .u32 (l : Int), .int .u32 (h : Int)] w fun e w' => e = .returned (.int .u64 ((l + 4294967296 * h : Nat) : Int)) ∧ w' = w := by
  have hj : bits .or .u64 ((h : Int) * 4294967296) (l : Int) = ((l + 4294967296 * h : Nat) : Int) := by
    have e32 : (2 : Int) ^ 32 = 4294967296 := by decide
    rw [bits_join .u64 64 (by decide) wraps_u64 32 _ _ (by omega) (by rw [e32]; exact Int.mul_emod_left _ _) (by omega) (by omega) (by omega) (by omega)]
    omega
  have hw : IntKind.u64.wrap ((h : Int) * 4294967296) = (h : Int) * 4294967296 := u64_wrap_id _ (by omega) (by omega)
  go_enter Try.func28, Try.ntmps28
  go_wp2
  go_ret
  exact ⟨ret_int (by omega), rfl⟩

theorem halves_any (v : Nat) (w : World) (hv : v < 18446744073709551616) :
    Calls Try.prog 35 #[.int .u64 (v : Int)] w fun e w' => e = .returned (.tuple #[.int .u32 ((v % 4294967296 : Nat) : Int), .int .u32 ((v / 4294967296 : Nat) : Int)]) ∧ w' = w := by
  have h1 : IntKind.u32.wrap (v : Int) = ((v % 4294967296 : Nat) : Int) := by simp [IntKind.wrap, IntKind.signed, IntKind.bits]
  have h2 : (v : Int) / 4294967296 = ((v / 4294967296 : Nat) : Int) := by omega
  have h3 : v / 4294967296 < 4294967296 := by omega
  have h4 : v % 4294967296 < 4294967296 := by omega
  generalize v / 4294967296 = q at *
  generalize v % 4294967296 = r at *
  go_enter Try.func35, Try.ntmps35
  go_wp2
  go_ret2
  exact ⟨rfl, rfl⟩

theorem agg_ne (s : Sh) (h : ¬ s = sh0) : zrB s = false := by
  rcases hz : zrB s with _ | _
  · rfl
  · exact absurd ((zrB_iff s).1 hz) h

set_option maxHeartbeats 1600000 in
theorem right_any (s : Sh) (i size : Nat) (w : World) (hs : s.Ok) (hi : i ≤ 9223372036854775807) (hz : size < 18446744073709551616) :
    Calls Try.prog 21 #[shV s, .int .i64 (i : Int), .int .u64 (size : Int)] w fun e w' => e = .returned (.bool (rtB s i size)) ∧ Below w.heap.size w w' := by
  have b0 := (Below.refl w.heap.size w).alloc (Nat.le_refl _) (.cells s.cells.toArray 47)
  have z0 : (w.alloc (.cells s.cells.toArray 47)).heap.size = w.heap.size + 1 := by simp
  have B0 := hide b0
  by_cases h0 : i = 0
  · subst h0
    by_cases h1 : s = sh0
    · subst h1
      go_enter Try.func21, Try.ntmps21
      unfold shV
      go_wp2
      go_ret
      exact ⟨rfl, B0.out⟩
    · have e : rtB s 0 size = false := by unfold rtB; rw [if_pos rfl]; exact agg_ne s h1
      rw [e]
      have h2 : ¬ ((s.nm : Int) = 0 ∧ (s.ty : Int) = 0 ∧ (s.fl : Int) = 0 ∧ (s.ad : Int) = 0 ∧ (s.off : Int) = 0 ∧ (s.sz : Int) = 0 ∧ (s.lk : Int) = 0 ∧ (s.nf : Int) = 0 ∧ (s.al : Int) = 0 ∧ (s.en : Int) = 0) := fun h => h1 (Sh.ext' (by simp only [sh0]; omega) (by simp only [sh0]; omega) (by simp only [sh0]; omega) (by simp only [sh0]; omega) (by simp only [sh0]; omega) (by simp only [sh0]; omega) (by simp only [sh0]; omega) (by simp only [sh0]; omega) (by simp only [sh0]; omega) (by simp only [sh0]; omega))
      have H2 := hide h2
      clear e h1 h2 B0 b0 z0 hs
      unfold shV
      generalize (s.nm : Int) = x0 at *
      generalize (s.ty : Int) = x1 at *
      generalize (s.fl : Int) = x2 at *
      generalize (s.ad : Int) = x3 at *
      generalize (s.off : Int) = x4 at *
      generalize (s.sz : Int) = x5 at *
      generalize (s.lk : Int) = x6 at *
      generalize (s.nf : Int) = x7 at *
      generalize (s.al : Int) = x8 at *
      generalize (s.en : Int) = x9 at *
      go_enter Try.func21, Try.ntmps21
      go_wp2
      all_goals go_ret
      all_goals first
        | exact ⟨rfl, (Below.refl _ _).alloc (Nat.le_refl _) _⟩
        | (exfalso; have h3 := H2.out; simp_all)
  · have i0 : ((i : Int) == 0) = false := by simp; omega
    have e : rtB s i size = (knB s.ty && flB s.fl && decide (s.ad = 0) && alB s.al && hlB s size) := by unfold rtB; rw [if_neg h0]
    rw [e]
    clear e
    have K1 := hide (fun W => sknown_any s.ty W hs.ty)
    have K2 := hide (fun W => aligned_any s.al W hs.al)
    have K3 := hide (fun W => held_any s size W hs hz)
    have u0 : ((s.ad : Int) == 0) = decide (s.ad = 0) := by rw [Bool.eq_iff_iff]; simp
    have f0 : (bits .andNot .u64 (s.fl : Int) 631 == 0) = flB s.fl := rfl
    generalize decide (s.ad = 0) = t3 at *
    generalize flB s.fl = t2 at *
    generalize knB s.ty = t1 at *
    generalize alB s.al = t4 at *
    generalize hlB s size = t5 at *
    have o2 := hs.fl
    clear b0 z0 hs h0
    unfold shV at *
    cases t1
    · go_enter Try.func21, Try.ntmps21
      go_wp2_with (go_at_call 36; refine (K1.out _).mono ?_; rintro e w' ⟨rfl, rfl⟩)
      go_ret
      exact ⟨rfl, B0.out⟩
    cases t2
    · go_enter Try.func21, Try.ntmps21
      go_wp2_with (go_at_call 36; refine (K1.out _).mono ?_; rintro e w' ⟨rfl, rfl⟩)
      go_ret
      exact ⟨rfl, B0.out⟩
    cases t3
    · go_enter Try.func21, Try.ntmps21
      go_wp2_with (go_at_call 36; refine (K1.out _).mono ?_; rintro e w' ⟨rfl, rfl⟩)
      go_ret
      exact ⟨rfl, B0.out⟩
    cases t4
    · go_enter Try.func21, Try.ntmps21
      go_wp2_with (first | (go_at_call 36; refine (K1.out _).mono ?_; rintro e w' ⟨rfl, rfl⟩) | (go_at_call 37; refine (K2.out _).mono ?_; rintro e w' ⟨rfl, rfl⟩))
      go_ret
      exact ⟨rfl, B0.out⟩
    · go_enter Try.func21, Try.ntmps21
      go_wp2_with (first | (go_at_call 36; refine (K1.out _).mono ?_; rintro e w' ⟨rfl, rfl⟩) | (go_at_call 37; refine (K2.out _).mono ?_; rintro e w' ⟨rfl, rfl⟩) | (go_at_call 38; refine (K3.out _).mono ?_; rintro e w' ⟨rfl, b3⟩; have B3 := hide (((Below.refl w.heap.size w).alloc (Nat.le_refl _) _).trans (b3.mono (by simp))); clear b3))
      go_ret
      exact ⟨rfl, B3.out⟩

/-- A section's bytes in a file, and whether they lie within. -/
def dtL (bs : List Int) (s : Sh) : List Int := if s.ty = 8 ∨ s.ty = 0 then [] else cutOf bs (s.off : Int) (s.sz : Int)
def dtB (bs : List Int) (s : Sh) : Bool := if s.ty = 8 ∨ s.ty = 0 then true else cutOk bs (s.off : Int) (s.sz : Int)
theorem dtL_bytes {bs : List Int} (h : Bytes bs) (s : Sh) : Bytes (dtL bs s) := by
  unfold dtL
  split
  · exact Bytes.nil
  · exact cutOf_bytes h _ _

theorem sdata_any (a : Option Addr) (len cap : Nat) (bs : List Int) (s : Sh) (w : World) (r : Rd w a len cap bs) (hs : s.Ok) (hb : len ≤ 140737488355328) :
    Calls Try.prog 16 #[.slice a len cap, shV s] w fun e w' => ∃ a' len' cap', e = .returned (.tuple #[.slice a' len' cap', .bool (dtB bs s)]) ∧ Rd w' a' len' cap' (dtL bs s) ∧ Below w.heap.size w w' := by
  have hn := hs.ty
  have ho := hs.off
  have hsz := hs.sz
  have b0 := ((Below.refl w.heap.size w).alloc (Nat.le_refl _) (.cells s.cells.toArray 47))
  have z0 : (w.alloc (.cells s.cells.toArray 47)).heap.size = w.heap.size + 1 := by simp
  have B0 := hide b0
  by_cases h8 : s.ty = 8
  · have n8 : ((s.ty : Int) == 8) = true := by simp; omega
    have e1 : dtB bs s = true := by unfold dtB; rw [if_pos (Or.inl h8)]
    have e2 : dtL bs s = [] := by unfold dtL; rw [if_pos (Or.inl h8)]
    rw [e1, e2]
    clear e1 e2 h8 r
    unfold shV
    go_enter Try.func16, Try.ntmps16
    go_wp2
    go_ret2
    exact ⟨_, _, _, rfl, Rd.nothing _, B0.out⟩
  have n8 : ((s.ty : Int) == 8) = false := by simp; omega
  by_cases h0 : s.ty = 0
  · have n0 : ((s.ty : Int) == 0) = true := by simp; omega
    have e1 : dtB bs s = true := by unfold dtB; rw [if_pos (Or.inr h0)]
    have e2 : dtL bs s = [] := by unfold dtL; rw [if_pos (Or.inr h0)]
    rw [e1, e2]
    clear e1 e2 h8 h0 r
    unfold shV
    go_enter Try.func16, Try.ntmps16
    go_wp2
    go_ret2
    exact ⟨_, _, _, rfl, Rd.nothing _, B0.out⟩
  have n0 : ((s.ty : Int) == 0) = false := by simp; omega
  have e1 : dtB bs s = cutOk bs (s.off : Int) (s.sz : Int) := by unfold dtB; rw [if_neg (by omega)]
  have e2 : dtL bs s = cutOf bs (s.off : Int) (s.sz : Int) := by unfold dtL; rw [if_neg (by omega)]
  rw [e1, e2]
  have hc := cut_any a len cap bs (s.off : Int) (s.sz : Int) _ (r.below b0) (by omega) (by omega) (by omega) (by omega) hb
  have HC := hide hc
  clear e1 e2 h8 h0 r hc b0
  generalize cutOf bs (s.off : Int) (s.sz : Int) = L at *
  generalize cutOk bs (s.off : Int) (s.sz : Int) = t at *
  unfold shV
  go_enter Try.func16, Try.ntmps16
  go_wp2_with (go_at_call 31; refine HC.out.mono ?_; rintro e w' ⟨a', l', c', rfl, r', b'⟩)
  have R := hide r'
  have B := hide (B0.out.trans (b'.mono (by omega)))
  clear r' b'
  go_wp2
  go_ret2
  exact ⟨_, _, _, rfl, R.out, B.out⟩

theorem rdata_any (a : Option Addr) (len cap : Nat) (bs : List Int) (s : Sh) (w : World) (r : Rd w a len cap bs) (hs : s.Ok) (hb : len ≤ 140737488355328) :
    Calls Try.prog 17 #[.slice a len cap, shV s] w fun e w' => ∃ a' len' cap', e = .returned (.tuple #[.slice a' len' cap', .bool (dtB bs s)]) ∧ Rd w' a' len' cap' (dtL bs s) ∧ Below w.heap.size w w' := by
  have hn := hs.ty
  have ho := hs.off
  have hsz := hs.sz
  have b0 := ((Below.refl w.heap.size w).alloc (Nat.le_refl _) (.cells s.cells.toArray 47))
  have z0 : (w.alloc (.cells s.cells.toArray 47)).heap.size = w.heap.size + 1 := by simp
  have B0 := hide b0
  by_cases h8 : s.ty = 8
  · have n8 : ((s.ty : Int) == 8) = true := by simp; omega
    have e1 : dtB bs s = true := by unfold dtB; rw [if_pos (Or.inl h8)]
    have e2 : dtL bs s = [] := by unfold dtL; rw [if_pos (Or.inl h8)]
    rw [e1, e2]
    clear e1 e2 h8 r
    unfold shV
    go_enter Try.func17, Try.ntmps17
    go_wp2
    go_ret2
    exact ⟨_, _, _, rfl, Rd.nothing _, B0.out⟩
  have n8 : ((s.ty : Int) == 8) = false := by simp; omega
  by_cases h0 : s.ty = 0
  · have n0 : ((s.ty : Int) == 0) = true := by simp; omega
    have e1 : dtB bs s = true := by unfold dtB; rw [if_pos (Or.inr h0)]
    have e2 : dtL bs s = [] := by unfold dtL; rw [if_pos (Or.inr h0)]
    rw [e1, e2]
    clear e1 e2 h8 h0 r
    unfold shV
    go_enter Try.func17, Try.ntmps17
    go_wp2
    go_ret2
    exact ⟨_, _, _, rfl, Rd.nothing _, B0.out⟩
  have n0 : ((s.ty : Int) == 0) = false := by simp; omega
  have e1 : dtB bs s = cutOk bs (s.off : Int) (s.sz : Int) := by unfold dtB; rw [if_neg (by omega)]
  have e2 : dtL bs s = cutOf bs (s.off : Int) (s.sz : Int) := by unfold dtL; rw [if_neg (by omega)]
  rw [e1, e2]
  have hc := rcut_any a len cap bs (s.off : Int) (s.sz : Int) _ (r.below b0) (by omega) (by omega) (by omega) (by omega) hb
  have HC := hide hc
  clear e1 e2 h8 h0 r hc b0
  generalize cutOf bs (s.off : Int) (s.sz : Int) = L at *
  generalize cutOk bs (s.off : Int) (s.sz : Int) = t at *
  unfold shV
  go_enter Try.func17, Try.ntmps17
  go_wp2_with (go_at_call 32; refine HC.out.mono ?_; rintro e w' ⟨a', l', c', rfl, r', b'⟩)
  have R := hide r'
  have B := hide (B0.out.trans (b'.mono (by omega)))
  clear r' b'
  go_wp2
  go_ret2
  exact ⟨_, _, _, rfl, R.out, B.out⟩

end Go.Proofs.Ytmmbahblnmhhmaa
