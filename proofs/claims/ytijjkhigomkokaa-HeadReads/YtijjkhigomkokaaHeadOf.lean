/- The contract of the document's HeadOf: the head just where the bytes begin with one. -/
import Derived.Test.YtijjkhigomkokaaHeadParse2
namespace Go.Proofs.Ytijjkhigomkokaa
open Go.RowKit
set_option linter.unusedVariables false
set_option linter.unusedSimpArgs false

theorem num9_any (a : Option Addr) (len cap : Nat) (bs : List Int) (off : Int) (n : Nat) (w : World) (r : Rd w a len cap bs) (ho : 0 ≤ off) (ho' : off ≤ 18446744073709551615) (hn : 1 ≤ n) (h8 : n ≤ 8) :
    Calls Try.prog 18 #[.slice a len cap, .int .u64 off, .int .i64 n] w fun e w' => e = .returned (.int .u64 (got bs off n)) ∧ w' = w := by
  have hc := num_any a len cap bs off n w r ho ho' hn h8
  generalize got bs off n = g at *
  generalize has bs off n = t at *
  go_enter Try.func18, Try.ntmps18
  go_wp2_with (go_at_call 30; refine hc.mono ?_; rintro e w' ⟨rfl, rfl⟩)
  go_ret
  exact ⟨rfl, rfl⟩

theorem ident_str : strOfNums identL = ⟨#[127, 69, 76, 70, 2, 1, 1, 0, 0, 0, 0, 0, 0, 0, 0, 0]⟩ := by decide
theorem ident_strL : (strOfNums identL).toList = [127, 69, 76, 70, 2, 1, 1, 0, 0, 0, 0, 0, 0, 0, 0, 0] := by rw [ByteArray.toList_eq]; rfl

set_option maxHeartbeats 6400000 in
theorem rhead_any (a : Option Addr) (len cap : Nat) (bs : List Int) (w : World) (r : Rd w a len cap bs) :
    Calls Try.prog 10 #[.slice a len cap] w fun e w' => e = .returned (hdT bs) ∧ Below w.heap.size w w' := by
  have hl := r.length
  have hle := r.le
  have hmx := r.max
  have b0 := (Below.refl w.heap.size w).alloc (Nat.le_refl _) (.cells #[.int .u64 0, .int .i64 0, .int .i64 0] 26)
  have B0 := hide b0
  have noT : ¬ hdOk bs → hdT bs = .tuple #[.agg #[.int .u64 0, .int .i64 0, .int .i64 0], .int .i64 30] := fun h => hdT_no h
  by_cases h2 : 1048576 < len
  · rw [noT (by unfold hdOk; omega)]
    clear noT b0 r
    go_enter Try.func10, Try.ntmps10
    go_wp2_with fail
    refine bodyPost_ret (v := .tuple #[.agg #[.int .u64 0, .int .i64 0, .int .i64 0], .int .i64 30]) (by simp [results, Try.results10, go_sem]) rfl ⟨rfl, B0.out⟩
  by_cases h1 : len < 64
  · rw [noT (by unfold hdOk; omega)]
    clear noT b0 r
    go_enter Try.func10, Try.ntmps10
    go_wp2_with fail
    refine bodyPost_ret (v := .tuple #[.agg #[.int .u64 0, .int .i64 0, .int .i64 0], .int .i64 30]) (by simp [results, Try.results10, go_sem]) rfl ⟨rfl, B0.out⟩
  have h64 : 64 ≤ len := by omega
  obtain ⟨b, q, rfl, _⟩ := r.addr (by omega)
  have r0 := r.below b0
  have s16 := (r0.front 16 (by omega)).str
  by_cases hid : bs.take 16 = identL
  case neg =>
    rw [noT (fun h => hid h.2.2.1)]
    have n16 : ((strOfNums (bs.take 16)).toList == [127, 69, 76, 70, 2, 1, 1, 0, 0, 0, 0, 0, 0, 0, 0, 0]) = false := by rw [← ident_strL]; exact (strN_beqL (r.bytes.take 16) identL_bytes).trans (decide_eq_false hid)
    generalize strOfNums (bs.take 16) = S at *
    clear hid r0
    clear noT b0 r
    go_enter Try.func10, Try.ntmps10
    go_wp2_with fail
    refine bodyPost_ret (v := .tuple #[.agg #[.int .u64 0, .int .i64 0, .int .i64 0], .int .i64 30]) (by simp [results, Try.results10, go_sem]) rfl ⟨rfl, B0.out⟩
  rw [hid, ident_str] at s16
  obtain ⟨o0, o1⟩ := got8_bd r.bytes 40
  obtain ⟨n0, n1⟩ := got2_bd r.bytes 60
  obtain ⟨x0, x1⟩ := got2_bd r.bytes 62
  have r1 := r0.below ((Below.refl _ _).alloc (Nat.le_refl _) (.cells #[.int .u64 (got bs 40 8), .int .i64 (got bs 60 2), .int .i64 (got bs 62 2)] 26))
  have B1 := hide (b0.alloc b0.size (.cells #[.int .u64 (got bs 40 8), .int .i64 (got bs 60 2), .int .i64 (got bs 62 2)] 26))
  have N40 := hide (num9_any _ len cap bs 40 8 _ r0 (by decide) (by decide) (by decide) (by decide))
  have N60 := hide (num9_any _ len cap bs 60 2 _ r0 (by decide) (by decide) (by decide) (by decide))
  have N62 := hide (num9_any _ len cap bs 62 2 _ r0 (by decide) (by decide) (by decide) (by decide))
  have N16 := hide (num9_any _ len cap bs 16 2 _ r1 (by decide) (by decide) (by decide) (by decide))
  obtain ⟨l16, m16⟩ := got2_bd r.bytes 16
  have N18 := hide (num9_any _ len cap bs 18 2 _ r1 (by decide) (by decide) (by decide) (by decide))
  obtain ⟨l18, m18⟩ := got2_bd r.bytes 18
  have N20 := hide (num9_any _ len cap bs 20 4 _ r1 (by decide) (by decide) (by decide) (by decide))
  obtain ⟨l20, m20⟩ := got4_bd r.bytes 20
  have N24 := hide (num9_any _ len cap bs 24 8 _ r1 (by decide) (by decide) (by decide) (by decide))
  obtain ⟨l24, m24⟩ := got8_bd r.bytes 24
  have N32 := hide (num9_any _ len cap bs 32 8 _ r1 (by decide) (by decide) (by decide) (by decide))
  obtain ⟨l32, m32⟩ := got8_bd r.bytes 32
  have N48 := hide (num9_any _ len cap bs 48 4 _ r1 (by decide) (by decide) (by decide) (by decide))
  obtain ⟨l48, m48⟩ := got4_bd r.bytes 48
  have N52 := hide (num9_any _ len cap bs 52 2 _ r1 (by decide) (by decide) (by decide) (by decide))
  obtain ⟨l52, m52⟩ := got2_bd r.bytes 52
  have N54 := hide (num9_any _ len cap bs 54 2 _ r1 (by decide) (by decide) (by decide) (by decide))
  obtain ⟨l54, m54⟩ := got2_bd r.bytes 54
  have N56 := hide (num9_any _ len cap bs 56 2 _ r1 (by decide) (by decide) (by decide) (by decide))
  obtain ⟨l56, m56⟩ := got2_bd r.bytes 56
  have N58 := hide (num9_any _ len cap bs 58 2 _ r1 (by decide) (by decide) (by decide) (by decide))
  obtain ⟨l58, m58⟩ := got2_bd r.bytes 58
  have HOK : Hid (hdOk bs ↔ hdNums bs ∧ hdFits (got bs 40 8) (got bs 60 2) (got bs 62 2) (len : Int)) := by
    unfold hdOk
    rw [hl]
    exact ⟨fun h => h.2.2.2, fun h => ⟨h64, by omega, hid, h⟩⟩
  unfold hdNums at HOK
  have HY := hide (fun h : hdOk bs => hdT_yes h)
  have HNo := hide noT
  clear noT b0 r r0 r1 hid
  generalize got bs 40 8 = o at *
  generalize got bs 60 2 = n at *
  generalize got bs 62 2 = x at *
  generalize got bs 16 2 = g16 at *
  generalize got bs 18 2 = g18 at *
  generalize got bs 20 4 = g20 at *
  generalize got bs 24 8 = g24 at *
  generalize got bs 32 8 = g32 at *
  generalize got bs 48 4 = g48 at *
  generalize got bs 52 2 = g52 at *
  generalize got bs 54 2 = g54 at *
  generalize got bs 56 2 = g56 at *
  generalize got bs 58 2 = g58 at *
  unfold hdV at HY
  go_enter Try.func10, Try.ntmps10
  go_wp2_with fail
  refine N40.out.mono ?_
  rintro e w' ⟨rfl, hw⟩
  rw [hw]
  clear hw w' N40
  go_wp2_with fail
  refine N60.out.mono ?_
  rintro e w' ⟨rfl, hw⟩
  rw [hw]
  clear hw w' N60
  go_wp2_with fail
  refine N62.out.mono ?_
  rintro e w' ⟨rfl, hw⟩
  rw [hw]
  clear hw w' N62
  go_wp2_with fail
  refine N16.out.mono ?_
  rintro e w' ⟨rfl, hw⟩
  rw [hw]
  clear hw w' N16
  by_cases k16 : g16 = 1
  case neg =>
    have HB : Hid (hdT bs = .tuple #[.agg #[.int .u64 0, .int .i64 0, .int .i64 0], .int .i64 30]) := HNo.out (fun h => k16 (HOK.out.1 h).1.1)
    clear HOK HNo HY
    have kq : (g16 != 1) = true := by simpa using k16
    go_wp2_with fail
    refine bodyPost_ret (v := .tuple #[.agg #[.int .u64 0, .int .i64 0, .int .i64 0], .int .i64 30]) (by simp [results, Try.results10, go_sem]) rfl ⟨by rw [HB.out], ?_⟩
    exact ((Below.refl _ _).alloc (Nat.le_refl _) _).alloc (by simp) _
  subst k16
  go_wp2_with fail
  refine N18.out.mono ?_
  rintro e w' ⟨rfl, hw⟩
  rw [hw]
  clear hw w' N18
  by_cases k18 : g18 = 243
  case neg =>
    have HB : Hid (hdT bs = .tuple #[.agg #[.int .u64 0, .int .i64 0, .int .i64 0], .int .i64 30]) := HNo.out (fun h => k18 (HOK.out.1 h).1.2.1)
    clear HOK HNo HY
    have kq : (g18 != 243) = true := by simpa using k18
    go_wp2_with fail
    refine bodyPost_ret (v := .tuple #[.agg #[.int .u64 0, .int .i64 0, .int .i64 0], .int .i64 30]) (by simp [results, Try.results10, go_sem]) rfl ⟨by rw [HB.out], ?_⟩
    exact ((Below.refl _ _).alloc (Nat.le_refl _) _).alloc (by simp) _
  subst k18
  go_wp2_with fail
  refine N20.out.mono ?_
  rintro e w' ⟨rfl, hw⟩
  rw [hw]
  clear hw w' N20
  by_cases k20 : g20 = 1
  case neg =>
    have HB : Hid (hdT bs = .tuple #[.agg #[.int .u64 0, .int .i64 0, .int .i64 0], .int .i64 30]) := HNo.out (fun h => k20 (HOK.out.1 h).1.2.2.1)
    clear HOK HNo HY
    have kq : (g20 != 1) = true := by simpa using k20
    go_wp2_with fail
    refine bodyPost_ret (v := .tuple #[.agg #[.int .u64 0, .int .i64 0, .int .i64 0], .int .i64 30]) (by simp [results, Try.results10, go_sem]) rfl ⟨by rw [HB.out], ?_⟩
    exact ((Below.refl _ _).alloc (Nat.le_refl _) _).alloc (by simp) _
  subst k20
  go_wp2_with fail
  refine N24.out.mono ?_
  rintro e w' ⟨rfl, hw⟩
  rw [hw]
  clear hw w' N24
  by_cases k24 : g24 = 0
  case neg =>
    have HB : Hid (hdT bs = .tuple #[.agg #[.int .u64 0, .int .i64 0, .int .i64 0], .int .i64 30]) := HNo.out (fun h => k24 (HOK.out.1 h).1.2.2.2.1)
    clear HOK HNo HY
    have kq : (g24 != 0) = true := by simpa using k24
    go_wp2_with fail
    refine bodyPost_ret (v := .tuple #[.agg #[.int .u64 0, .int .i64 0, .int .i64 0], .int .i64 30]) (by simp [results, Try.results10, go_sem]) rfl ⟨by rw [HB.out], ?_⟩
    exact ((Below.refl _ _).alloc (Nat.le_refl _) _).alloc (by simp) _
  subst k24
  go_wp2_with fail
  refine N32.out.mono ?_
  rintro e w' ⟨rfl, hw⟩
  rw [hw]
  clear hw w' N32
  by_cases k32 : g32 = 0
  case neg =>
    have HB : Hid (hdT bs = .tuple #[.agg #[.int .u64 0, .int .i64 0, .int .i64 0], .int .i64 30]) := HNo.out (fun h => k32 (HOK.out.1 h).1.2.2.2.2.1)
    clear HOK HNo HY
    have kq : (g32 != 0) = true := by simpa using k32
    go_wp2_with fail
    refine bodyPost_ret (v := .tuple #[.agg #[.int .u64 0, .int .i64 0, .int .i64 0], .int .i64 30]) (by simp [results, Try.results10, go_sem]) rfl ⟨by rw [HB.out], ?_⟩
    exact ((Below.refl _ _).alloc (Nat.le_refl _) _).alloc (by simp) _
  subst k32
  go_wp2_with fail
  refine N48.out.mono ?_
  rintro e w' ⟨rfl, hw⟩
  rw [hw]
  clear hw w' N48
  by_cases k48 : g48 ≤ 7
  case neg =>
    have HB : Hid (hdT bs = .tuple #[.agg #[.int .u64 0, .int .i64 0, .int .i64 0], .int .i64 30]) := HNo.out (fun h => k48 (HOK.out.1 h).1.2.2.2.2.2.1)
    clear HOK HNo HY
    go_wp2_with fail
    refine bodyPost_ret (v := .tuple #[.agg #[.int .u64 0, .int .i64 0, .int .i64 0], .int .i64 30]) (by simp [results, Try.results10, go_sem]) rfl ⟨by rw [HB.out], ?_⟩
    exact ((Below.refl _ _).alloc (Nat.le_refl _) _).alloc (by simp) _
  go_wp2_with fail
  refine N52.out.mono ?_
  rintro e w' ⟨rfl, hw⟩
  rw [hw]
  clear hw w' N52
  by_cases k52 : g52 = 64
  case neg =>
    have HB : Hid (hdT bs = .tuple #[.agg #[.int .u64 0, .int .i64 0, .int .i64 0], .int .i64 30]) := HNo.out (fun h => k52 (HOK.out.1 h).1.2.2.2.2.2.2.1)
    clear HOK HNo HY
    have kq : (g52 != 64) = true := by simpa using k52
    go_wp2_with fail
    refine bodyPost_ret (v := .tuple #[.agg #[.int .u64 0, .int .i64 0, .int .i64 0], .int .i64 30]) (by simp [results, Try.results10, go_sem]) rfl ⟨by rw [HB.out], ?_⟩
    exact ((Below.refl _ _).alloc (Nat.le_refl _) _).alloc (by simp) _
  subst k52
  go_wp2_with fail
  refine N54.out.mono ?_
  rintro e w' ⟨rfl, hw⟩
  rw [hw]
  clear hw w' N54
  by_cases k54 : g54 = 0
  case neg =>
    have HB : Hid (hdT bs = .tuple #[.agg #[.int .u64 0, .int .i64 0, .int .i64 0], .int .i64 30]) := HNo.out (fun h => k54 (HOK.out.1 h).1.2.2.2.2.2.2.2.1)
    clear HOK HNo HY
    have kq : (g54 != 0) = true := by simpa using k54
    go_wp2_with fail
    refine bodyPost_ret (v := .tuple #[.agg #[.int .u64 0, .int .i64 0, .int .i64 0], .int .i64 30]) (by simp [results, Try.results10, go_sem]) rfl ⟨by rw [HB.out], ?_⟩
    exact ((Below.refl _ _).alloc (Nat.le_refl _) _).alloc (by simp) _
  subst k54
  go_wp2_with fail
  refine N56.out.mono ?_
  rintro e w' ⟨rfl, hw⟩
  rw [hw]
  clear hw w' N56
  by_cases k56 : g56 = 0
  case neg =>
    have HB : Hid (hdT bs = .tuple #[.agg #[.int .u64 0, .int .i64 0, .int .i64 0], .int .i64 30]) := HNo.out (fun h => k56 (HOK.out.1 h).1.2.2.2.2.2.2.2.2.1)
    clear HOK HNo HY
    have kq : (g56 != 0) = true := by simpa using k56
    go_wp2_with fail
    refine bodyPost_ret (v := .tuple #[.agg #[.int .u64 0, .int .i64 0, .int .i64 0], .int .i64 30]) (by simp [results, Try.results10, go_sem]) rfl ⟨by rw [HB.out], ?_⟩
    exact ((Below.refl _ _).alloc (Nat.le_refl _) _).alloc (by simp) _
  subst k56
  go_wp2_with fail
  refine N58.out.mono ?_
  rintro e w' ⟨rfl, hw⟩
  rw [hw]
  clear hw w' N58
  by_cases k58 : g58 = 64
  case neg =>
    have HB : Hid (hdT bs = .tuple #[.agg #[.int .u64 0, .int .i64 0, .int .i64 0], .int .i64 30]) := HNo.out (fun h => k58 (HOK.out.1 h).1.2.2.2.2.2.2.2.2.2)
    clear HOK HNo HY
    have kq : (g58 != 64) = true := by simpa using k58
    go_wp2_with fail
    refine bodyPost_ret (v := .tuple #[.agg #[.int .u64 0, .int .i64 0, .int .i64 0], .int .i64 30]) (by simp [results, Try.results10, go_sem]) rfl ⟨by rw [HB.out], ?_⟩
    exact ((Below.refl _ _).alloc (Nat.le_refl _) _).alloc (by simp) _
  subst k58
  have HF : Hid (hdOk bs ↔ hdFits o n x (len : Int)) := hide ⟨fun h => (HOK.out.1 h).2, fun h => HOK.out.2 ⟨by simpa using k48, h⟩⟩
  clear HOK
  have HOK := HF
  clear HF
  unfold hdFits at HOK
  by_cases j1 : 1 ≤ n
  case neg =>
    have HB : Hid (hdT bs = .tuple #[.agg #[.int .u64 0, .int .i64 0, .int .i64 0], .int .i64 30]) := HNo.out (fun h => j1 (HOK.out.1 h).1)
    clear HOK HNo HY
    go_wp2_with fail
    refine bodyPost_ret (v := .tuple #[.agg #[.int .u64 0, .int .i64 0, .int .i64 0], .int .i64 30]) (by simp [results, Try.results10, go_sem]) rfl ⟨by rw [HB.out], ?_⟩
    exact ((Below.refl _ _).alloc (Nat.le_refl _) _).alloc (by simp) _
  by_cases j2 : n ≤ 400
  case neg =>
    have HB : Hid (hdT bs = .tuple #[.agg #[.int .u64 0, .int .i64 0, .int .i64 0], .int .i64 30]) := HNo.out (fun h => j2 (HOK.out.1 h).2.1)
    clear HOK HNo HY
    go_wp2_with fail
    refine bodyPost_ret (v := .tuple #[.agg #[.int .u64 0, .int .i64 0, .int .i64 0], .int .i64 30]) (by simp [results, Try.results10, go_sem]) rfl ⟨by rw [HB.out], ?_⟩
    exact ((Below.refl _ _).alloc (Nat.le_refl _) _).alloc (by simp) _
  by_cases j3 : x < n
  case neg =>
    have HB : Hid (hdT bs = .tuple #[.agg #[.int .u64 0, .int .i64 0, .int .i64 0], .int .i64 30]) := HNo.out (fun h => j3 (HOK.out.1 h).2.2.1)
    clear HOK HNo HY
    go_wp2_with fail
    refine bodyPost_ret (v := .tuple #[.agg #[.int .u64 0, .int .i64 0, .int .i64 0], .int .i64 30]) (by simp [results, Try.results10, go_sem]) rfl ⟨by rw [HB.out], ?_⟩
    exact ((Below.refl _ _).alloc (Nat.le_refl _) _).alloc (by simp) _
  by_cases j4 : o % 8 = 0
  case neg =>
    have HB : Hid (hdT bs = .tuple #[.agg #[.int .u64 0, .int .i64 0, .int .i64 0], .int .i64 30]) := HNo.out (fun h => j4 (HOK.out.1 h).2.2.2.1)
    have j4' : (o % 8 != 0) = true := by simpa using j4
    clear HOK HNo HY j4
    go_wp2_with fail
    refine bodyPost_ret (v := .tuple #[.agg #[.int .u64 0, .int .i64 0, .int .i64 0], .int .i64 30]) (by simp [results, Try.results10, go_sem]) rfl ⟨by rw [HB.out], ?_⟩
    exact ((Below.refl _ _).alloc (Nat.le_refl _) _).alloc (by simp) _
  have NW := hide (rwithin_any o (n * 64) (len : Int) ((w.alloc (.cells #[.int .u64 0, .int .i64 0, .int .i64 0] 26)).alloc (.cells #[.int .u64 o, .int .i64 n, .int .i64 x] 26)) o0 o1 (by omega) (by omega) (by omega) (by omega))
  unfold withinOf at NW
  have j4' : (o % 8 != 0) = false := by simpa using j4
  go_wp2_with fail
  refine NW.out.mono ?_
  rintro e w' ⟨rfl, hw⟩
  rw [hw]
  clear hw w' NW
  by_cases j5 : o + n * 64 ≤ (len : Int)
  case neg =>
    have HB : Hid (hdT bs = .tuple #[.agg #[.int .u64 0, .int .i64 0, .int .i64 0], .int .i64 30]) := HNo.out (fun h => j5 (HOK.out.1 h).2.2.2.2)
    rw [decide_eq_false j5]
    clear HOK HNo HY
    go_wp2_with fail
    refine bodyPost_ret (v := .tuple #[.agg #[.int .u64 0, .int .i64 0, .int .i64 0], .int .i64 30]) (by simp [results, Try.results10, go_sem]) rfl ⟨by rw [HB.out], ?_⟩
    exact ((Below.refl _ _).alloc (Nat.le_refl _) _).alloc (by simp) _
  have HB : Hid (hdT bs = .tuple #[.agg #[.int .u64 o, .int .i64 n, .int .i64 x], .int .i64 0]) := HY.out (HOK.out.2 ⟨j1, j2, j3, j4, j5⟩)
  rw [decide_eq_true j5]
  clear HOK HNo HY
  go_wp2_with fail
  refine bodyPost_ret (v := .tuple #[.agg #[.int .u64 o, .int .i64 n, .int .i64 x], .int .i64 0]) (by simp [results, Try.results10, go_sem]) rfl ⟨by rw [HB.out], ?_⟩
  exact ((Below.refl _ _).alloc (Nat.le_refl _) _).alloc (by simp) _

end Go.Proofs.Ytijjkhigomkokaa
