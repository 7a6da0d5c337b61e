/- A relocation's type: how wide, whether known; contracts of rela.Width, rela.Known, the document's, of rela.right and rela.read. -/
import Derived.Test.YtkmmffpipopjcaaRelaPlain
import Derived.Test.YtkmmffpipopjcaaRecMore
import Derived.Test.YtkmmffpipopjcaaSpan
import Derived.Test.YtkmmffpipopjcaaTxtSame
import Derived.BigQuiet
import Derived.Deep.QuietTactic
import Derived.Deep.DeepCutAuto
namespace Go.Proofs.Ytkmmffpipopjcaa
open Go.RowKit
set_option linter.unusedVariables false
set_option linter.unusedSimpArgs false

/-- A relocation as a value. -/
def reV (s : Re) : Value := .agg #[.int .u64 (s.off : Int), .int .u32 (s.ty : Int), .int .u32 (s.sy : Int), .int .i64 s.ad]
/-- A relocation in a block of its own. -/
abbrev ReB (w : World) (b : Nat) (s : Re) : Prop := reC.Blk 40 w b s
theorem ReB.at {w : World} {b : Nat} {s : Re} (h : ReB w b s) : ReC w b 0 s := ReC.of (fun j hj => by rw [Nat.zero_add]; exact Rc.Blk.cell h j)

theorem rwidth_any (t : Nat) (w : World) (ht : t < 4294967296) :
    Calls Try.prog 15 #[.int .u32 (t : Int)] w fun e w' => e = .returned (.int .i64 (reW t : Int)) ∧ w' = w := by
  by_cases h2 : t = 2
  · subst h2
    go_enter Try.func15, Try.ntmps15
    go_wp2
    go_ret
    exact ⟨rfl, rfl⟩
  have n2 : ((t : Int) == 2) = false := by simp; omega
  by_cases h18 : t = 18
  · subst h18
    go_enter Try.func15, Try.ntmps15
    go_wp2
    go_ret
    exact ⟨rfl, rfl⟩
  have n18 : ((t : Int) == 18) = false := by simp; omega
  by_cases h19 : t = 19
  · subst h19
    go_enter Try.func15, Try.ntmps15
    go_wp2
    go_ret
    exact ⟨rfl, rfl⟩
  have n19 : ((t : Int) == 19) = false := by simp; omega
  by_cases h51 : t = 51
  · subst h51
    go_enter Try.func15, Try.ntmps15
    go_wp2
    go_ret
    exact ⟨rfl, rfl⟩
  have n51 : ((t : Int) == 51) = false := by simp; omega
  have e : reW t = 4 := by unfold reW; rw [if_neg (by omega), if_neg (by omega)]
  rw [e]
  clear e h2 h18 h19 h51
  go_enter Try.func15, Try.ntmps15
  go_wp2
  go_ret
  exact ⟨rfl, rfl⟩

theorem dwidth_any (t : Nat) (w : World) (ht : t < 4294967296) :
    Calls Try.prog 16 #[.int .u32 (t : Int)] w fun e w' => e = .returned (.int .i64 (reW t : Int)) ∧ w' = w := by
  by_cases h2 : t = 2
  · subst h2
    go_enter Try.func16, Try.ntmps16
    go_wp2
    go_ret
    exact ⟨rfl, rfl⟩
  have n2 : ((t : Int) == 2) = false := by simp; omega
  by_cases h18 : t = 18
  · subst h18
    go_enter Try.func16, Try.ntmps16
    go_wp2
    go_ret
    exact ⟨rfl, rfl⟩
  have n18 : ((t : Int) == 18) = false := by simp; omega
  by_cases h19 : t = 19
  · subst h19
    go_enter Try.func16, Try.ntmps16
    go_wp2
    go_ret
    exact ⟨rfl, rfl⟩
  have n19 : ((t : Int) == 19) = false := by simp; omega
  by_cases h51 : t = 51
  · subst h51
    go_enter Try.func16, Try.ntmps16
    go_wp2
    go_ret
    exact ⟨rfl, rfl⟩
  have n51 : ((t : Int) == 51) = false := by simp; omega
  have e : reW t = 4 := by unfold reW; rw [if_neg (by omega), if_neg (by omega)]
  rw [e]
  clear e h2 h18 h19 h51
  go_enter Try.func16, Try.ntmps16
  go_wp2
  go_ret
  exact ⟨rfl, rfl⟩

theorem rknown_any (t : Nat) (w : World) (ht : t < 4294967296) :
    Calls Try.prog 13 #[.int .u32 (t : Int)] w fun e w' => e = .returned (.bool (reK t)) ∧ w' = w := by
  by_cases h1 : t = 1
  · subst h1
    go_enter Try.func13, Try.ntmps13
    go_wp2
    go_ret
    exact ⟨rfl, rfl⟩
  have n1 : ((t : Int) == 1) = false := by simp; omega
  by_cases h2 : t = 2
  · subst h2
    go_enter Try.func13, Try.ntmps13
    go_wp2
    go_ret
    exact ⟨rfl, rfl⟩
  have n2 : ((t : Int) == 2) = false := by simp; omega
  by_cases h16 : t = 16
  · subst h16
    go_enter Try.func13, Try.ntmps13
    go_wp2
    go_ret
    exact ⟨rfl, rfl⟩
  have n16 : ((t : Int) == 16) = false := by simp; omega
  by_cases h17 : t = 17
  · subst h17
    go_enter Try.func13, Try.ntmps13
    go_wp2
    go_ret
    exact ⟨rfl, rfl⟩
  have n17 : ((t : Int) == 17) = false := by simp; omega
  by_cases h18 : t = 18
  · subst h18
    go_enter Try.func13, Try.ntmps13
    go_wp2
    go_ret
    exact ⟨rfl, rfl⟩
  have n18 : ((t : Int) == 18) = false := by simp; omega
  by_cases h19 : t = 19
  · subst h19
    go_enter Try.func13, Try.ntmps13
    go_wp2
    go_ret
    exact ⟨rfl, rfl⟩
  have n19 : ((t : Int) == 19) = false := by simp; omega
  by_cases h23 : t = 23
  · subst h23
    go_enter Try.func13, Try.ntmps13
    go_wp2
    go_ret
    exact ⟨rfl, rfl⟩
  have n23 : ((t : Int) == 23) = false := by simp; omega
  by_cases h24 : t = 24
  · subst h24
    go_enter Try.func13, Try.ntmps13
    go_wp2
    go_ret
    exact ⟨rfl, rfl⟩
  have n24 : ((t : Int) == 24) = false := by simp; omega
  by_cases h25 : t = 25
  · subst h25
    go_enter Try.func13, Try.ntmps13
    go_wp2
    go_ret
    exact ⟨rfl, rfl⟩
  have n25 : ((t : Int) == 25) = false := by simp; omega
  by_cases h26 : t = 26
  · subst h26
    go_enter Try.func13, Try.ntmps13
    go_wp2
    go_ret
    exact ⟨rfl, rfl⟩
  have n26 : ((t : Int) == 26) = false := by simp; omega
  by_cases h27 : t = 27
  · subst h27
    go_enter Try.func13, Try.ntmps13
    go_wp2
    go_ret
    exact ⟨rfl, rfl⟩
  have n27 : ((t : Int) == 27) = false := by simp; omega
  by_cases h28 : t = 28
  · subst h28
    go_enter Try.func13, Try.ntmps13
    go_wp2
    go_ret
    exact ⟨rfl, rfl⟩
  have n28 : ((t : Int) == 28) = false := by simp; omega
  by_cases h51 : t = 51
  · subst h51
    go_enter Try.func13, Try.ntmps13
    go_wp2
    go_ret
    exact ⟨rfl, rfl⟩
  have n51 : ((t : Int) == 51) = false := by simp; omega
  have e : reK t = false := by unfold reK; rw [decide_eq_false (by omega)]
  rw [e]
  clear e h1 h2 h16 h17 h18 h19 h23 h24 h25 h26 h27 h28 h51
  go_enter Try.func13, Try.ntmps13
  go_wp2
  go_ret
  exact ⟨rfl, rfl⟩

theorem dknown_any (t : Nat) (w : World) (ht : t < 4294967296) :
    Calls Try.prog 14 #[.int .u32 (t : Int)] w fun e w' => e = .returned (.bool (reK t)) ∧ w' = w := by
  by_cases h1 : t = 1
  · subst h1
    go_enter Try.func14, Try.ntmps14
    go_wp2
    go_ret
    exact ⟨rfl, rfl⟩
  have n1 : ((t : Int) == 1) = false := by simp; omega
  by_cases h2 : t = 2
  · subst h2
    go_enter Try.func14, Try.ntmps14
    go_wp2
    go_ret
    exact ⟨rfl, rfl⟩
  have n2 : ((t : Int) == 2) = false := by simp; omega
  by_cases h16 : t = 16
  · subst h16
    go_enter Try.func14, Try.ntmps14
    go_wp2
    go_ret
    exact ⟨rfl, rfl⟩
  have n16 : ((t : Int) == 16) = false := by simp; omega
  by_cases h17 : t = 17
  · subst h17
    go_enter Try.func14, Try.ntmps14
    go_wp2
    go_ret
    exact ⟨rfl, rfl⟩
  have n17 : ((t : Int) == 17) = false := by simp; omega
  by_cases h18 : t = 18
  · subst h18
    go_enter Try.func14, Try.ntmps14
    go_wp2
    go_ret
    exact ⟨rfl, rfl⟩
  have n18 : ((t : Int) == 18) = false := by simp; omega
  by_cases h19 : t = 19
  · subst h19
    go_enter Try.func14, Try.ntmps14
    go_wp2
    go_ret
    exact ⟨rfl, rfl⟩
  have n19 : ((t : Int) == 19) = false := by simp; omega
  by_cases h23 : t = 23
  · subst h23
    go_enter Try.func14, Try.ntmps14
    go_wp2
    go_ret
    exact ⟨rfl, rfl⟩
  have n23 : ((t : Int) == 23) = false := by simp; omega
  by_cases h24 : t = 24
  · subst h24
    go_enter Try.func14, Try.ntmps14
    go_wp2
    go_ret
    exact ⟨rfl, rfl⟩
  have n24 : ((t : Int) == 24) = false := by simp; omega
  by_cases h25 : t = 25
  · subst h25
    go_enter Try.func14, Try.ntmps14
    go_wp2
    go_ret
    exact ⟨rfl, rfl⟩
  have n25 : ((t : Int) == 25) = false := by simp; omega
  by_cases h26 : t = 26
  · subst h26
    go_enter Try.func14, Try.ntmps14
    go_wp2
    go_ret
    exact ⟨rfl, rfl⟩
  have n26 : ((t : Int) == 26) = false := by simp; omega
  by_cases h27 : t = 27
  · subst h27
    go_enter Try.func14, Try.ntmps14
    go_wp2
    go_ret
    exact ⟨rfl, rfl⟩
  have n27 : ((t : Int) == 27) = false := by simp; omega
  by_cases h28 : t = 28
  · subst h28
    go_enter Try.func14, Try.ntmps14
    go_wp2
    go_ret
    exact ⟨rfl, rfl⟩
  have n28 : ((t : Int) == 28) = false := by simp; omega
  by_cases h51 : t = 51
  · subst h51
    go_enter Try.func14, Try.ntmps14
    go_wp2
    go_ret
    exact ⟨rfl, rfl⟩
  have n51 : ((t : Int) == 51) = false := by simp; omega
  have e : reK t = false := by unfold reK; rw [decide_eq_false (by omega)]
  rw [e]
  clear e h1 h2 h16 h17 h18 h19 h23 h24 h25 h26 h27 h28 h51
  go_enter Try.func14, Try.ntmps14
  go_wp2
  go_ret
  exact ⟨rfl, rfl⟩

theorem reB_with (s : Re) (size : Nat) (syms : Int) : reB s size syms = (decide ((s.sy : Int) < syms) && withinOf (s.off : Int) (reW s.ty : Int) (size : Int)) := by
  unfold reB withinOf
  congr 1
  rw [Bool.eq_iff_iff]
  simp
  omega

set_option maxHeartbeats 1600000 in
theorem rright_any (s : Re) (size : Nat) (syms : Int) (w : World) (hs : s.Ok) (hz : size < 18446744073709551616) (y0 : -9223372036854775808 ≤ syms) (y1 : syms ≤ 9223372036854775807) :
    Calls Try.prog 20 #[reV s, .int .u64 (size : Int), .int .i64 syms] w fun e w' => e = .returned (.bool (reB s size syms)) ∧ Below w.heap.size w w' := by
  have b0 := (Below.refl w.heap.size w).alloc (Nat.le_refl _) (.cells s.cells.toArray 40)
  have X0 : ReB (w.alloc (.cells s.cells.toArray 40)) w.heap.size s := Rc.Blk.new w s
  obtain ⟨d0, d1, d2, d3⟩ := X0.at
  simp only [Nat.zero_add] at d0 d1 d2 d3
  have h0 := hs.off
  have h1 := hs.ty
  have h2 := hs.sy
  have hW := reW_le s.ty
  change Below _ _ (w.alloc (.cells #[.int .u64 (s.off : Int), .int .u32 (s.ty : Int), .int .u32 (s.sy : Int), .int .i64 s.ad] 40)) at b0
  change (w.alloc (.cells #[.int .u64 (s.off : Int), .int .u32 (s.ty : Int), .int .u32 (s.sy : Int), .int .i64 s.ad] 40)).cell? _ = _ at d0 d1 d2 d3
  rw [reB_with]
  obtain ⟨b, hb⟩ : ∃ b, decide ((s.sy : Int) < syms) = b := ⟨_, rfl⟩
  obtain ⟨q, hq⟩ : ∃ q : Nat, reW s.ty = q := ⟨_, rfl⟩
  obtain ⟨c, hc⟩ : ∃ c, withinOf (s.off : Int) (q : Int) (size : Int) = c := ⟨_, rfl⟩
  rw [hb, hq, hc]
  rw [hq] at hW
  have WI := hide (fun W => rwidth_any s.ty W h1)
  rw [hq] at WI
  have WT := hide (fun W => within_any (s.off : Int) (q : Int) (size : Int) W (by omega) (by omega) (by omega) (by omega) (by omega) (by omega))
  rw [hc] at WT
  obtain ⟨V, hV⟩ : ∃ V, w.alloc (.cells #[.int .u64 (s.off : Int), .int .u32 (s.ty : Int), .int .u32 (s.sy : Int), .int .i64 s.ad] 40) = V := ⟨_, rfl⟩
  rw [hV] at b0 d0 d1 d2 d3
  have B0 := hide b0
  have i0 : IntKind.i64.wrap (s.sy : Int) = (s.sy : Int) := by rw [IntKind.wrap_i64]; omega
  have i1 : IntKind.u64.wrap (q : Int) = (q : Int) := u64_wrap_id _ (by omega) (by omega)
  clear hc hq X0 b0
  unfold reV
  cases b
  · go_enter Try.func20, Try.ntmps20
    go_upto_region 1 with fail
    go_quiet (fail)
    go_wp2
    go_ret
    exact ⟨by simp, B0.out.trans ((bel_drewS V _).mono B0.out.size)⟩
  · go_enter Try.func20, Try.ntmps20
    go_upto_region 1 with fail
    go_quiet (first
      | (go_at_call 15; refine Calls.quiet_of_same (WI.out _))
      | (go_at_call 26; refine Calls.quiet_of_same (WT.out _)))
    go_wp2
    go_ret
    exact ⟨by simp, B0.out.trans ((bel_drewS V _).mono B0.out.size)⟩

/-- The second number of a relocation's bytes, in parts. -/
theorem got_re (bs : List Int) (o : Nat) (h : o + 24 ≤ bs.length) : got bs ((o + 8 : Nat) : Int) 8 = got bs ((o + 8 : Nat) : Int) 4 + 4294967296 * got bs ((o + 12 : Nat) : Int) 4 := by
  have h1 := got_add bs (o + 8) 4 4 (by omega)
  rw [show (256 : Int) ^ 4 = 4294967296 by decide] at h1
  exact h1

set_option maxHeartbeats 1600000 in
theorem rread_any (a : Option Addr) (len cap : Nat) (bs : List Int) (off : Nat) (w : World) (r : Rd w a len cap bs) (h : off + 24 ≤ len) :
    Calls Try.prog 19 #[.slice a len cap, .int .u64 (off : Int)] w fun e w' => e = .returned (reV (reAt bs off)) ∧ Below w.heap.size w w' := by
  have hl := r.length
  have hle := r.le
  have hmx := r.max
  have hby := r.bytes
  have b0 := (Below.refl w.heap.size w).alloc (Nat.le_refl _) (.cells re0.cells.toArray 40)
  have X0 : ReB (w.alloc (.cells re0.cells.toArray 40)) w.heap.size re0 := Rc.Blk.new w re0
  change ReB (w.alloc (.cells #[.int .u64 0, .int .u32 0, .int .u32 0, .int .i64 0] 40)) _ _ at X0
  change Below _ _ (w.alloc (.cells #[.int .u64 0, .int .u32 0, .int .u32 0, .int .i64 0] 40)) at b0
  obtain ⟨W0, hW0⟩ : ∃ W0, w.alloc (.cells #[.int .u64 0, .int .u32 0, .int .u32 0, .int .i64 0] 40) = W0 := ⟨_, rfl⟩
  rw [hW0] at X0 b0
  have R0 := r.below b0
  have U0 := u64_any a len cap bs (off : Int) W0 R0 (by omega) (by omega)
  have U1 := u64_any a len cap bs ((off + 8 : Nat) : Int) W0 R0 (by omega) (by omega)
  have U2 := u64_any a len cap bs ((off + 16 : Nat) : Int) W0 R0 (by omega) (by omega)
  have ok := reAt_ok hby off
  have lt8 : ∀ q : Int, got bs q 8 < 18446744073709551616 := fun q => by
    have := got_lt hby q 8
    rw [show (2 : Int) ^ (8 * 8) = 18446744073709551616 by decide] at this
    exact this
  obtain ⟨n1, e1⟩ : ∃ n : Nat, got bs ((off + 8 : Nat) : Int) 8 = (n : Int) := ⟨(got bs ((off + 8 : Nat) : Int) 8).toNat, by have := got_nonneg hby ((off + 8 : Nat) : Int) 8; omega⟩
  obtain ⟨n2, e2⟩ : ∃ n : Nat, got bs ((off + 16 : Nat) : Int) 8 = (n : Int) := ⟨(got bs ((off + 16 : Nat) : Int) 8).toNat, by have := got_nonneg hby ((off + 16 : Nat) : Int) 8; omega⟩
  have hn1 : n1 < 18446744073709551616 := by have := lt8 ((off + 8 : Nat) : Int); omega
  have hn2 : n2 < 18446744073709551616 := by have := lt8 ((off + 16 : Nat) : Int); omega
  have e0 : got bs (off : Int) 8 = ((reAt bs off).off : Int) := (reAt_got hby off).1
  have E := got_re bs off (by omega)
  have F : (n1 : Int) = ((reAt bs off).ty : Int) + 4294967296 * ((reAt bs off).sy : Int) := by
    have h4 := got_nonneg hby ((off + 8 : Nat) : Int) 4
    have h5 := got_nonneg hby ((off + 12 : Nat) : Int) 4
    simp only [reAt]
    rw [← e1, E]
    omega
  have F2 : adS (n2 : Int) = (reAt bs off).ad := by rw [← e2]; rfl
  rw [e0] at U0
  rw [e1] at U1
  rw [e2] at U2
  obtain ⟨t, ht⟩ : ∃ t, reAt bs off = t := ⟨_, rfl⟩
  rw [ht] at U0 F F2 ok ⊢
  have hv := ok.off
  have hz := ok.ty
  have hm := ok.sy
  generalize has bs (off : Int) 8 = q0 at *
  generalize has bs ((off + 8 : Nat) : Int) 8 = q1 at *
  generalize has bs ((off + 16 : Nat) : Int) 8 = q2 at *
  have c1 : IntKind.u32.wrap (n1 : Int) = (t.ty : Int) := by rw [IntKind.wrap_u32]; omega
  have c2 : IntKind.u32.wrap ((n1 : Int) / 4294967296) = (t.sy : Int) := by rw [IntKind.wrap_u32]; omega
  have c3 : IntKind.i64.wrap (n2 : Int) = t.ad := by rw [adS_wrap]; exact F2
  have c4 : (n1 : Int) / 4294967296 = (t.sy : Int) := by omega
  have k1 : (off : Int) + 8 = ((off + 8 : Nat) : Int) := by omega
  have k2 : (off : Int) + 16 = ((off + 16 : Nat) : Int) := by omega
  obtain ⟨p1, hp1⟩ : ∃ p : Nat, off + 8 = p := ⟨_, rfl⟩
  obtain ⟨p2, hp2⟩ : ∃ p : Nat, off + 16 = p := ⟨_, rfl⟩
  rw [hp1] at U1 k1
  rw [hp2] at U2 k2
  have H0 := hide U0
  have H1 := hide U1
  have H2 := hide U2
  have B0 := hide b0
  have F3 := hide (ReB.at (Rc.Blk.store X0 t))
  have G := hide (below_setCells (b := w.heap.size) (Nat.le_refl _) t.cells 0 _ b0)
  have z0 := ReB.at X0
  have zf := Rc.Blk.frozen X0
  clear U0 U1 U2 b0 R0 r E F F2 e0 e1 e2 ht hp1 hp2 hby ok lt8
  obtain ⟨d0, d1, d2, d3⟩ := z0
  simp only [Nat.zero_add] at d0 d1 d2 d3
  have f0 := zf 0
  have f1 := zf 1
  have f2 := zf 2
  have f3 := zf 3
  clear zf
  go_enter Try.func19, Try.ntmps19
  go_upto_region 1 with fail
  clear hW0 X0
  go_upto_region 2 with (go_at_call 25; refine H0.out.mono ?_; rintro e w' ⟨rfl, hw'⟩; rw [hw']; clear hw' w')
  go_upto_region 3 with (go_at_call 25; refine H1.out.mono ?_; rintro e w' ⟨rfl, hw'⟩; rw [hw']; clear hw' w')
  go_upto_region 4 with (go_at_call 25; refine H2.out.mono ?_; rintro e w' ⟨rfl, hw'⟩; rw [hw']; clear hw' w')
  clear H0 H1 H2
  go_wp2
  show bodyPost _ _ _ _ _ (W0.setCells w.heap.size 0 t.cells)
  change Hid (ReC (W0.setCells w.heap.size 0 t.cells) _ _ _) at F3
  generalize W0.setCells w.heap.size 0 t.cells = V4 at *
  clear d0 d1 d2 d3 f0 f1 f2 f3
  obtain ⟨d0, d1, d2, d3⟩ := F3.out
  simp only [Nat.zero_add] at d0 d1 d2 d3
  refine bodyPost_ret (v := reV t) (by simp [results, Try.results19, go_sem, reV, d0, d1, d2, d3]) rfl ⟨rfl, G.out⟩

end Go.Proofs.Ytkmmffpipopjcaa
