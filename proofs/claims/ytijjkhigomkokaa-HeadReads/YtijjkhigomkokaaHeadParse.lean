/- Contracts of head.read, head.formed, head.fits and head.Parse: Parse tells the head just where the bytes begin with one. -/
import Derived.Test.YtijjkhigomkokaaHeadKind
import Derived.Test.YtijjkhigomkokaaSpan
namespace Go.Proofs.Ytijjkhigomkokaa
open Go.RowKit
set_option linter.unusedVariables false
set_option linter.unusedSimpArgs false

/-- A head in a block of its own. -/
def HdB (w : World) (b : Nat) (o n x : Int) : Prop := w.heap[b]? = some (.cells #[.int .u64 o, .int .i64 n, .int .i64 x] 26 (0, 0))
theorem HdB.new (w : World) (o n x : Int) : HdB (w.alloc (.cells #[.int .u64 o, .int .i64 n, .int .i64 x] 26)) w.heap.size o n x := heap_alloc_new w _
theorem HdB.below {w w' : World} {B b : Nat} {o n x : Int} (h : HdB w b o n x) (hB : b < B) (hb : Below B w w') : HdB w' b o n x := (hb.block b hB).trans h
theorem HdB.at {w : World} {b : Nat} {o n x : Int} (h : HdB w b o n x) : w.cell? ⟨b, 0, none⟩ = some (.int .u64 o) ∧ w.cell? ⟨b, 1, none⟩ = some (.int .i64 n) ∧ w.cell? ⟨b, 2, none⟩ = some (.int .i64 x) ∧
    w.frozen? ⟨b, 0, none⟩ = false ∧ w.frozen? ⟨b, 1, none⟩ = false ∧ w.frozen? ⟨b, 2, none⟩ = false :=
  ⟨by rw [cell_of_row _ _ 0 _ _ (0, 0) h]; rfl, by rw [cell_of_row _ _ 1 _ _ (0, 0) h]; rfl, by rw [cell_of_row _ _ 2 _ _ (0, 0) h]; rfl, frozen_of_row _ _ _ _ _ h, frozen_of_row _ _ _ _ _ h, frozen_of_row _ _ _ _ _ h⟩

theorem read_any (a : Option Addr) (len cap : Nat) (bs : List Int) (w : World) (r : Rd w a len cap bs) (h : 64 ≤ len) :
    Calls Try.prog 15 #[.slice a len cap] w fun e w' => e = .returned (hdV (got bs 40 8) (got bs 60 2) (got bs 62 2)) ∧ Below w.heap.size w w' := by
  have hl := r.length
  have b0 := (Below.refl w.heap.size w).alloc (Nat.le_refl _) (.cells #[.int .u64 0, .int .i64 0, .int .i64 0] 26)
  have r0 := r.below b0
  have u1 := u64_any a len cap bs 40 _ r0 (by decide) (by decide)
  have u2 := u64_any a len cap bs 56 _ r0 (by decide) (by decide)
  have hs := last_split bs r.bytes (by omega)
  have g0 := got_nonneg r.bytes 40 8
  have g1 := got_lt r.bytes 40 8
  have k0 := got_nonneg r.bytes 56 8
  have k1 := got_lt r.bytes 56 8
  have e2 : (2 : Int) ^ (8 * 8) = 18446744073709551616 := by decide
  rw [e2] at g1 k1
  have HN := hide hs.1
  have HX := hide hs.2
  generalize got bs 60 2 = n at *
  generalize got bs 62 2 = x at *
  generalize got bs 40 8 = o at *
  generalize got bs 56 8 = g at *
  generalize has bs 40 8 = t1 at *
  generalize has bs 56 8 = t2 at *
  have U1 := hide u1
  have U2 := hide u2
  have B0 := hide b0
  clear u1 u2 b0 r r0 hs e2
  unfold hdV
  go_enter Try.func15, Try.ntmps15
  go_wp2_with fail
  refine U1.out.mono ?_
  rintro e w' ⟨rfl, rfl⟩
  go_wp2_with fail
  refine U2.out.mono ?_
  rintro e w' ⟨rfl, rfl⟩
  have w16 : IntKind.u16.wrap (g / 4294967296) = n := by rw [← HN.out]; simp [IntKind.wrap, IntKind.signed, IntKind.bits]
  have hn : 0 ≤ n ∧ n ≤ 65535 := by have := HN.out; omega
  have hx : 0 ≤ x ∧ x ≤ 65535 := by have := HX.out; omega
  have wx : g / 281474976710656 = x := HX.out
  have hn0 := hn.1
  have hn1 := hn.2
  clear hn
  go_wp2
  refine bodyPost_ret (v := .agg #[.int .u64 o, .int .i64 n, .int .i64 x]) (by simp [results, Try.results15, go_sem]) rfl ⟨rfl, ?_⟩
  exact (Below.refl _ _).alloc (Nat.le_refl _) _

theorem formed_any (a : Option Addr) (len cap : Nat) (bs : List Int) (o n x : Int) (w : World) (r : Rd w a len cap bs) (h : 64 ≤ len) (hmax : len ≤ 140737488355328)
    (ho : 0 ≤ o) (ho' : o ≤ 18446744073709551615) (hn : 0 ≤ n) (hn' : n ≤ 65535) (hx : 0 ≤ x) (hx' : x ≤ 65535) :
    Calls Try.prog 16 #[.slice a len cap, hdV o n x] w fun e w' => e = .returned (.bool (decide (got bs 48 4 / 8 = 0 ∧ setLe (bs.take 64) 48 0 4 = hb o n x))) ∧ Below w.heap.size w w' := by
  have hl := r.length
  have hle := r.le
  have hmx := r.max
  obtain ⟨b, q, rfl, _⟩ := r.addr (by omega)
  have b0 := (Below.refl w.heap.size w).alloc (Nat.le_refl _) (.cells #[.int .u64 o, .int .i64 n, .int .i64 x] 26)
  have r0 := r.below b0
  have h0 := HdB.new w o n x
  have u1 := u32_any _ len cap bs 48 _ r0 (by decide) (by decide)
  have u2 := set_yes _ 64 cap (bs.take 64) 48 0 4 _ (r0.front 64 h) (by decide) (by decide) (by decide) (by decide) (by decide) (by decide) (by decide)
  have g0 := got_nonneg r.bytes 48 4
  have g1 := got_lt r.bytes 48 4
  have e2 : (2 : Int) ^ (8 * 4) = 4294967296 := by decide
  rw [e2] at g1
  have hby : Bytes (hb o n x) := hb_bytes o n x
  have hln : (hb o n x).length = 64 := hb_len o n x
  have U1 := hide u1
  have U2 := hide u2
  have z0 : (w.alloc (.cells #[.int .u64 o, .int .i64 n, .int .i64 x] 26)).heap.size = w.heap.size + 1 := by simp
  have B0 := hide b0
  have H0 := hide h0
  have HBY := hide hby
  clear u1 u2 b0 r r0 e2 h0 hby
  generalize got bs 48 4 = g at *
  generalize has bs 48 4 = t1 at *
  by_cases hg : g / 8 = 0
  · have e : decide (g / 8 = 0 ∧ setLe (bs.take 64) 48 0 4 = hb o n x) = decide (setLe (bs.take 64) 48 0 4 = hb o n x) := by simp [hg]
    rw [e]
    clear e
    unfold hdV
    go_enter Try.func16, Try.ntmps16
    go_wp2_with fail
    refine U1.out.mono ?_
    rintro e w' ⟨rfl, hw'⟩
    rw [hw']
    clear hw' w'
    go_wp2_with fail
    refine U2.out.mono ?_
    rintro e W1 ⟨rfl, hr1, hb1⟩
    rw [z0] at *
    have R1 := hide hr1
    have H1 := hide (H0.out.below (by omega) hb1)
    have B1 : Hid (Below w.heap.size w W1) := B0.out.trans (hb1.mono (by omega))
    obtain ⟨q0, q1, q2, _, _, _⟩ := H1.out.at
    clear hr1 hb1 B0 H0 U1 U2
    go_wp2_with fail
    refine (hbytes_any o n x W1 (by omega) (by omega) (by omega) (by omega) (by omega) (by omega)).mono ?_
    rintro e W2 ⟨v2, rfl, ho2, hb2⟩
    obtain ⟨a2, c2, rfl, hr2⟩ := Rd.own ho2 HBY.out
    have hq := equal_any _ 64 64 _ a2 64 c2 _ W2 (R1.out.below hb2) hr2
    have HQ := hide hq
    have B2 : Hid (Below w.heap.size w W2) := B1.out.trans (hb2.mono B1.out.size)
    clear ho2 hb2 hr2 hq q0 q1 q2 H1 B1 R1
    generalize decide (setLe (bs.take 64) 48 0 4 = hb o n x) = t at *
    go_wp2_with fail
    refine HQ.out.mono ?_
    rintro e w' ⟨rfl, rfl⟩
    go_wp2
    go_ret
    exact ⟨rfl, B2.out⟩
  · have e : decide (g / 8 = 0 ∧ setLe (bs.take 64) 48 0 4 = hb o n x) = false := by simp [hg]
    rw [e]
    clear e
    unfold hdV
    go_enter Try.func16, Try.ntmps16
    go_wp2_with fail
    refine U1.out.mono ?_
    rintro e w' ⟨rfl, hw'⟩
    rw [hw']
    clear hw' w'
    go_wp2_with fail
    refine U2.out.mono ?_
    rintro e W1 ⟨rfl, hr1, hb1⟩
    rw [z0] at *
    have B1 : Hid (Below w.heap.size w W1) := B0.out.trans (hb1.mono (by omega))
    clear hr1 hb1 B0 H0 U1 U2
    go_wp2_with fail
    go_ret
    exact ⟨rfl, B1.out⟩

instance (o n x len : Int) : Decidable (hdFits o n x len) := by unfold hdFits; infer_instance
instance (bs : List Int) : Decidable (hdNums bs) := by unfold hdNums; infer_instance
instance (bs : List Int) : Decidable (hdOk bs) := by unfold hdOk; infer_instance

theorem fits_any (o n x s : Int) (w : World) (ho : 0 ≤ o) (ho' : o ≤ 18446744073709551615) (hn : 0 ≤ n) (hn' : n ≤ 65535) (hx : 0 ≤ x) (hx' : x ≤ 65535) (hs : 0 ≤ s) (hs' : s ≤ 9223372036854775807) :
    Calls Try.prog 17 #[hdV o n x, .int .u64 s] w fun e w' => e = .returned (.bool (decide (hdFits o n x s))) ∧ Below w.heap.size w w' := by
  have b0 := (Below.refl w.heap.size w).alloc (Nat.le_refl _) (.cells #[.int .u64 o, .int .i64 n, .int .i64 x] 26)
  have B0 := hide b0
  clear b0
  have fal : ¬ hdFits o n x s → decide (hdFits o n x s) = false := fun h => decide_eq_false h
  by_cases h1 : 1 ≤ n
  · by_cases h2 : n ≤ 400
    · by_cases h3 : x < n
      · by_cases h4 : o % 8 = 0
        · have hc := within_any o (n * 64) s (w.alloc (.cells #[.int .u64 o, .int .i64 n, .int .i64 x] 26)) ho ho' (by omega) (by omega) hs (by omega)
          have e : withinOf o (n * 64) s = decide (hdFits o n x s) := by
            unfold withinOf hdFits; exact decide_eq_decide.2 ⟨fun h5 => ⟨h1, h2, h3, h4, h5⟩, fun h5 => h5.2.2.2.2⟩
          rw [e] at hc
          have HC := hide hc
          generalize decide (hdFits o n x s) = t at *
          clear hc e fal
          unfold hdV
          go_enter Try.func17, Try.ntmps17
          go_wp2_with (go_at_call 29; refine HC.out.mono ?_; rintro e w' ⟨rfl, rfl⟩)
          go_ret
          exact ⟨rfl, B0.out⟩
        · rw [fal (by unfold hdFits; omega)]
          clear fal
          unfold hdV
          go_enter Try.func17, Try.ntmps17
          go_wp2_with fail
          go_ret
          exact ⟨rfl, B0.out⟩
      · rw [fal (by unfold hdFits; omega)]
        clear fal
        unfold hdV
        go_enter Try.func17, Try.ntmps17
        go_wp2_with fail
        go_ret
        exact ⟨rfl, B0.out⟩
    · rw [fal (by unfold hdFits; omega)]
      clear fal
      unfold hdV
      go_enter Try.func17, Try.ntmps17
      go_wp2_with fail
      go_ret
      exact ⟨rfl, B0.out⟩
  · rw [fal (by unfold hdFits; omega)]
    clear fal
    unfold hdV
    go_enter Try.func17, Try.ntmps17
    go_wp2_with fail
    go_ret
    exact ⟨rfl, B0.out⟩

end Go.Proofs.Ytijjkhigomkokaa
