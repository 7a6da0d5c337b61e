/- The contract of head.Parse: the head just where the bytes begin with one. -/
import Derived.Test.YtijjkhigomkokaaHeadParse
namespace Go.Proofs.Ytijjkhigomkokaa
open Go.RowKit
set_option linter.unusedVariables false
set_option linter.unusedSimpArgs false

/-- What Parse is to answer. -/
def hdE (bs : List Int) : Int := if hdOk bs then 0 else 30
def hdR (bs : List Int) : Value := if hdOk bs then hdV (got bs 40 8) (got bs 60 2) (got bs 62 2) else hdV 0 0 0
def hdT (bs : List Int) : Value := .tuple #[hdR bs, .int .i64 (hdE bs)]
theorem hdT_no {bs : List Int} (h : ¬ hdOk bs) : hdT bs = .tuple #[hdV 0 0 0, .int .i64 30] := by unfold hdT hdR hdE; rw [if_neg h, if_neg h]
theorem hdT_yes {bs : List Int} (h : hdOk bs) : hdT bs = .tuple #[hdV (got bs 40 8) (got bs 60 2) (got bs 62 2), .int .i64 0] := by unfold hdT hdR hdE; rw [if_pos h, if_pos h]

theorem got2_bd {bs : List Int} (h : Bytes bs) (f : Int) : 0 ≤ got bs f 2 ∧ got bs f 2 ≤ 65535 := by
  have h0 := got_nonneg h f 2
  have h1 := got_lt h f 2
  have e2 : (2 : Int) ^ (8 * 2) = 65536 := by decide
  omega
theorem got8_bd {bs : List Int} (h : Bytes bs) (f : Int) : 0 ≤ got bs f 8 ∧ got bs f 8 ≤ 18446744073709551615 := by
  have h0 := got_nonneg h f 8
  have h1 := got_lt h f 8
  have e2 : (2 : Int) ^ (8 * 8) = 18446744073709551616 := by decide
  omega
theorem got4_bd {bs : List Int} (h : Bytes bs) (f : Int) : 0 ≤ got bs f 4 ∧ got bs f 4 ≤ 4294967295 := by
  have h0 := got_nonneg h f 4
  have h1 := got_lt h f 4
  have e2 : (2 : Int) ^ (8 * 4) = 4294967296 := by decide
  omega

theorem parse_any (a : Option Addr) (len cap : Nat) (bs : List Int) (w : World) (r : Rd w a len cap bs) :
    Calls Try.prog 9 #[.slice a len cap] w fun e w' => e = .returned (hdT bs) ∧ Below w.heap.size w w' := by
  have hl := r.length
  have hle := r.le
  have hmx := r.max
  have b0 := (Below.refl w.heap.size w).alloc (Nat.le_refl _) (.cells #[.int .u64 0, .int .i64 0, .int .i64 0] 26)
  by_cases h1 : len < 64
  · rw [hdT_no (by unfold hdOk; omega)]
    have B0 := hide b0
    clear b0 r
    unfold hdV
    go_enter Try.func9, Try.ntmps9
    go_wp2_with fail
    refine bodyPost_ret (v := .tuple #[.agg #[.int .u64 0, .int .i64 0, .int .i64 0], .int .i64 30]) (by simp [results, Try.results9, go_sem]) rfl ⟨rfl, B0.out⟩
  by_cases h2 : 1048576 < len
  · rw [hdT_no (by unfold hdOk; omega)]
    have B0 := hide b0
    clear b0 r
    unfold hdV
    go_enter Try.func9, Try.ntmps9
    go_wp2_with fail
    refine bodyPost_ret (v := .tuple #[.agg #[.int .u64 0, .int .i64 0, .int .i64 0], .int .i64 30]) (by simp [results, Try.results9, go_sem]) rfl ⟨rfl, B0.out⟩
  have h64 : 64 ≤ len := by omega
  have hmax : len ≤ 140737488355328 := by omega
  have o1 := got8_bd r.bytes 40
  have n1 := got2_bd r.bytes 60
  have x1 := got2_bd r.bytes 62
  have r0 := r.below b0
  have p0 := HdB.new w 0 0 0
  have z0 : (w.alloc (.cells #[.int .u64 0, .int .i64 0, .int .i64 0] 26)).heap.size = w.heap.size + 1 := by simp
  have u1 := read_any a len cap bs _ r0 h64
  have u2 := fun W (hr : Rd W a len cap bs) => formed_any a len cap bs _ _ _ W hr h64 hmax o1.1 o1.2 n1.1 n1.2 x1.1 x1.2
  have u3 := fun W => fits_any (got bs 40 8) (got bs 60 2) (got bs 62 2) (len : Int) W o1.1 o1.2 n1.1 n1.2 x1.1 x1.2 (by omega) (by omega)
  have hf := formed_iff bs r.bytes (by omega)
  have hok : hdOk bs ↔ (got bs 48 4 / 8 = 0 ∧ setLe (bs.take 64) 48 0 4 = hb (got bs 40 8) (got bs 60 2) (got bs 62 2)) ∧ hdFits (got bs 40 8) (got bs 60 2) (got bs 62 2) (len : Int) := by
    rw [hf]
    unfold hdOk
    rw [hl]
    constructor
    · rintro ⟨_, _, a, b, c⟩; exact ⟨⟨a, b⟩, c⟩
    · rintro ⟨⟨a, b⟩, c⟩; exact ⟨h64, by omega, a, b, c⟩
  have HT : Hid (hdT bs = if (got bs 48 4 / 8 = 0 ∧ setLe (bs.take 64) 48 0 4 = hb (got bs 40 8) (got bs 60 2) (got bs 62 2)) ∧ hdFits (got bs 40 8) (got bs 60 2) (got bs 62 2) (len : Int) then .tuple #[hdV (got bs 40 8) (got bs 60 2) (got bs 62 2), .int .i64 0] else .tuple #[hdV 0 0 0, .int .i64 30]) := by
    split
    · next h => exact hdT_yes (hok.2 h)
    · next h => exact hdT_no (fun h2 => h (hok.1 h2))
  clear hf hok
  have R := hide r
  have B0 := hide b0
  have P0 := hide p0
  have U1 := hide u1
  have U2 := hide u2
  have U3 := hide u3
  clear u1 u2 u3 r r0 b0 p0
  generalize got bs 40 8 = o at *
  generalize got bs 60 2 = n at *
  generalize got bs 62 2 = x at *
  unfold hdV at *
  by_cases hF : got bs 48 4 / 8 = 0 ∧ setLe (bs.take 64) 48 0 4 = hb o n x
  · by_cases hG : hdFits o n x (len : Int)
    · rw [if_pos ⟨hF, hG⟩] at HT
      rw [HT.out]
      rw [decide_eq_true hF] at U2
      rw [decide_eq_true hG] at U3
      clear HT hF hG
      go_enter Try.func9, Try.ntmps9
      go_wp2_with fail
      refine U1.out.mono ?_
      rintro e W1 ⟨rfl, hb1⟩
      rw [z0] at hb1
      have B1 : Below w.heap.size w W1 := B0.out.trans (hb1.mono (by omega))
      have B1' := B1.alloc B1.size (.cells #[.int .u64 o, .int .i64 n, .int .i64 x] 26)
      have P1 := P0.out.below (by omega) (hb1.alloc (by have := B1.size; have := hb1.size; omega) (.cells #[.int .u64 o, .int .i64 n, .int .i64 x] 26))
      have Q1 := HdB.new W1 o n x
      have z1 : w.heap.size < W1.heap.size := by have := hb1.size; omega
      have HB1 := hide B1'
      have HP1 := hide P1
      have HQ1 := hide Q1
      clear B1' B1 P1 Q1 hb1 U1 P0 B0
      go_wp2_with fail
      obtain ⟨V1, hV1⟩ : ∃ V1, V1 = W1.alloc (.cells #[.int .u64 o, .int .i64 n, .int .i64 x] 26) := ⟨_, rfl⟩
      obtain ⟨c1, hc1⟩ : ∃ c1, c1 = W1.heap.size := ⟨_, rfl⟩
      have y1 : c1 < V1.heap.size := by rw [hV1, hc1]; simp
      rw [← hV1] at HB1 HP1 HQ1 ⊢
      rw [← hc1] at HQ1 z1 ⊢
      clear hV1 hc1
      refine (U2.out V1 (R.out.below HB1.out)).mono ?_
      rintro e W2 ⟨rfl, hb2⟩
      have HB2 : Hid (Below w.heap.size w W2) := HB1.out.trans (hb2.mono (by omega))
      have HP2 := hide (HP1.out.below (by omega) hb2)
      have HQ2 := hide (HQ1.out.below y1 hb2)
      have y2 : c1 < W2.heap.size := by have := hb2.size; omega
      obtain ⟨q0, q1, q2, _, _, _⟩ := HQ2.out.at
      clear hb2 HB1 HP1 HQ1 U2
      go_wp2_with fail
      refine (U3.out W2).mono ?_
      rintro e W3 ⟨rfl, hb3⟩
      have HB3 : Hid (Below w.heap.size w W3) := HB2.out.trans (hb3.mono (by omega))
      obtain ⟨s0, s1, s2, _, _, _⟩ := (HQ2.out.below y2 hb3).at
      obtain ⟨p0, p1, p2, f0, f1, f2⟩ := (HP2.out.below (by omega) hb3).at
      have y3 : w.heap.size < W3.heap.size := by have := hb3.size; omega
      clear hb3 HB2 HP2 HQ2 U3 q0 q1 q2
      go_wp2_with fail
      refine bodyPost_ret (v := .tuple #[.agg #[.int .u64 o, .int .i64 n, .int .i64 x], .int .i64 0]) (by simp [results, Try.results9, go_sem, p0, p1, p2]) rfl ⟨rfl, ?_⟩
      exact ((HB3.out.setCell (Nat.le_refl _) _).setCell (Nat.le_refl _) _).setCell (Nat.le_refl _) _
    · rw [if_neg (fun h => hG h.2)] at HT
      rw [HT.out]
      rw [decide_eq_true hF] at U2
      rw [decide_eq_false hG] at U3
      clear HT hF hG
      go_enter Try.func9, Try.ntmps9
      go_wp2_with fail
      refine U1.out.mono ?_
      rintro e W1 ⟨rfl, hb1⟩
      rw [z0] at hb1
      have B1 : Below w.heap.size w W1 := B0.out.trans (hb1.mono (by omega))
      have B1' := B1.alloc B1.size (.cells #[.int .u64 o, .int .i64 n, .int .i64 x] 26)
      have P1 := P0.out.below (by omega) (hb1.alloc (by have := B1.size; have := hb1.size; omega) (.cells #[.int .u64 o, .int .i64 n, .int .i64 x] 26))
      have Q1 := HdB.new W1 o n x
      have z1 : w.heap.size < W1.heap.size := by have := hb1.size; omega
      have HB1 := hide B1'
      have HP1 := hide P1
      have HQ1 := hide Q1
      clear B1' B1 P1 Q1 hb1 U1 P0 B0
      go_wp2_with fail
      obtain ⟨V1, hV1⟩ : ∃ V1, V1 = W1.alloc (.cells #[.int .u64 o, .int .i64 n, .int .i64 x] 26) := ⟨_, rfl⟩
      obtain ⟨c1, hc1⟩ : ∃ c1, c1 = W1.heap.size := ⟨_, rfl⟩
      have y1 : c1 < V1.heap.size := by rw [hV1, hc1]; simp
      rw [← hV1] at HB1 HP1 HQ1 ⊢
      rw [← hc1] at HQ1 z1 ⊢
      clear hV1 hc1
      refine (U2.out V1 (R.out.below HB1.out)).mono ?_
      rintro e W2 ⟨rfl, hb2⟩
      have HB2 : Hid (Below w.heap.size w W2) := HB1.out.trans (hb2.mono (by omega))
      have HP2 := hide (HP1.out.below (by omega) hb2)
      have HQ2 := hide (HQ1.out.below y1 hb2)
      have y2 : c1 < W2.heap.size := by have := hb2.size; omega
      obtain ⟨q0, q1, q2, _, _, _⟩ := HQ2.out.at
      clear hb2 HB1 HP1 HQ1 U2
      go_wp2_with fail
      refine (U3.out W2).mono ?_
      rintro e W3 ⟨rfl, hb3⟩
      have HB3 : Hid (Below w.heap.size w W3) := HB2.out.trans (hb3.mono (by omega))
      obtain ⟨s0, s1, s2, _, _, _⟩ := (HQ2.out.below y2 hb3).at
      obtain ⟨p0, p1, p2, f0, f1, f2⟩ := (HP2.out.below (by omega) hb3).at
      have y3 : w.heap.size < W3.heap.size := by have := hb3.size; omega
      clear hb3 HB2 HP2 HQ2 U3 q0 q1 q2
      go_wp2_with fail
      refine bodyPost_ret (v := .tuple #[.agg #[.int .u64 0, .int .i64 0, .int .i64 0], .int .i64 30]) (by simp [results, Try.results9, go_sem, p0, p1, p2]) rfl ⟨rfl, ?_⟩
      exact ((HB3.out.setCell (Nat.le_refl _) _).setCell (Nat.le_refl _) _).setCell (Nat.le_refl _) _
  · rw [if_neg (fun h => hF h.1)] at HT
    rw [HT.out]
    rw [decide_eq_false hF] at U2
    clear HT hF
    go_enter Try.func9, Try.ntmps9
    go_wp2_with fail
    refine U1.out.mono ?_
    rintro e W1 ⟨rfl, hb1⟩
    rw [z0] at hb1
    have B1 : Below w.heap.size w W1 := B0.out.trans (hb1.mono (by omega))
    have B1' := B1.alloc B1.size (.cells #[.int .u64 o, .int .i64 n, .int .i64 x] 26)
    have P1 := P0.out.below (by omega) (hb1.alloc (by have := B1.size; have := hb1.size; omega) (.cells #[.int .u64 o, .int .i64 n, .int .i64 x] 26))
    have Q1 := HdB.new W1 o n x
    have z1 : w.heap.size < W1.heap.size := by have := hb1.size; omega
    have HB1 := hide B1'
    have HP1 := hide P1
    have HQ1 := hide Q1
    clear B1' B1 P1 Q1 hb1 U1 P0 B0
    go_wp2_with fail
    obtain ⟨V1, hV1⟩ : ∃ V1, V1 = W1.alloc (.cells #[.int .u64 o, .int .i64 n, .int .i64 x] 26) := ⟨_, rfl⟩
    obtain ⟨c1, hc1⟩ : ∃ c1, c1 = W1.heap.size := ⟨_, rfl⟩
    have y1 : c1 < V1.heap.size := by rw [hV1, hc1]; simp
    rw [← hV1] at HB1 HP1 HQ1 ⊢
    rw [← hc1] at HQ1 z1 ⊢
    clear hV1 hc1
    refine (U2.out V1 (R.out.below HB1.out)).mono ?_
    rintro e W2 ⟨rfl, hb2⟩
    have HB2 : Hid (Below w.heap.size w W2) := HB1.out.trans (hb2.mono (by omega))
    obtain ⟨p0, p1, p2, f0, f1, f2⟩ := (HP1.out.below (by omega) hb2).at
    have y3 : w.heap.size < W2.heap.size := by have := hb2.size; omega
    clear hb2 HB1 HP1 HQ1 U2
    go_wp2_with fail
    refine bodyPost_ret (v := .tuple #[.agg #[.int .u64 0, .int .i64 0, .int .i64 0], .int .i64 30]) (by simp [results, Try.results9, go_sem, p0, p1, p2]) rfl ⟨rfl, ?_⟩
    exact ((HB2.out.setCell (Nat.le_refl _) _).setCell (Nat.le_refl _) _).setCell (Nat.le_refl _) _

end Go.Proofs.Ytijjkhigomkokaa
