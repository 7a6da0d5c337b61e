/- The walk of ShdrReads. -/
import Derived.Test.YtmmbahblnmhhmaaShdrSpoiltW
namespace Go.Proofs.Ytmmbahblnmhhmaa
open Go.RowKit
set_option linter.unusedVariables false
set_option linter.unusedSimpArgs false

/-- Three heads in a block. -/
structure H3 (w : World) (Z : Nat) (o x : Nat → Int) (N : Int) : Prop where
  o : ∀ i, i < 3 → w.cell? ⟨Z, i * 3, none⟩ = some (.int .u64 (o i))
  n : ∀ i, i < 3 → w.cell? ⟨Z, i * 3 + 1, none⟩ = some (.int .i64 N)
  x : ∀ i, i < 3 → w.cell? ⟨Z, i * 3 + 2, none⟩ = some (.int .i64 (x i))
theorem H3.below {w w' : World} {Z : Nat} {o x : Nat → Int} {N : Int} (h : H3 w Z o x N) (hb : Below w.heap.size w w') : H3 w' Z o x N :=
  ⟨fun i hi => by rw [hb.cell (World.block_lt_of_cell? w _ (h.o i hi))]; exact h.o i hi, fun i hi => by rw [hb.cell (World.block_lt_of_cell? w _ (h.n i hi))]; exact h.n i hi, fun i hi => by rw [hb.cell (World.block_lt_of_cell? w _ (h.x i hi))]; exact h.x i hi⟩
theorem H3.drew0 {w : World} {Z : Nat} {o x : Nat → Int} {N : Int} (h : H3 w Z o x N) : H3 w.drew Z o x N := ⟨fun i hi => by simpa using h.o i hi, fun i hi => by simpa using h.n i hi, fun i hi => by simpa using h.x i hi⟩
def o3 (a b c : Int) : Nat → Int
  | 0 => a
  | 1 => b
  | _ => c
theorem H3.new (w : World) (t : TypeId) (a b c p q r N : Int) : H3 (w.alloc (.cells #[.int .u64 a, .int .i64 N, .int .i64 p, .int .u64 b, .int .i64 N, .int .i64 q, .int .u64 c, .int .i64 N, .int .i64 r] t)) w.heap.size (o3 a b c) (o3 p q r) N := by
  have h : ∀ j, (w.alloc (.cells #[.int .u64 a, .int .i64 N, .int .i64 p, .int .u64 b, .int .i64 N, .int .i64 q, .int .u64 c, .int .i64 N, .int .i64 r] t)).cell? ⟨w.heap.size, j, none⟩ = #[Value.int .u64 a, .int .i64 N, .int .i64 p, .int .u64 b, .int .i64 N, .int .i64 q, .int .u64 c, .int .i64 N, .int .i64 r][j]? := fun j => cell_of_row _ _ j _ t (0, 0) (heap_alloc_new w _)
  refine ⟨fun i hi => ?_, fun i hi => ?_, fun i hi => ?_⟩
  all_goals
    rw [h]
    match i, hi with
    | 0, _ => rfl
    | 1, _ => rfl
    | 2, _ => rfl

set_option maxHeartbeats 3200000 in
set_option maxRecDepth 20000 in
theorem reads11_walk (a : Option Addr) (n cap : Nat) (l : List Sh) (ndx off : Int) (w : World) (r : Rh w a n cap l) (hi0 : -9223372036854775808 ≤ ndx) (hi1 : ndx ≤ 9223372036854775807) (hf0 : 0 ≤ off) (hf1 : off ≤ 18446744073709551615) :
    Calls Try.prog 3 #[.slice a n cap, .int .i64 ndx, .int .u64 off] w fun e w' => e = .returned (.bool true) ∧ Below w.heap.size w w' := by
  have hmx := r.max
  have hle := r.le
  have HR := hide r
  have KN := hide (known_11 w)
  by_cases h : 12 < n
  · have h' : (12 : Int) < (n : Int) := by omega
    clear r
    go_enter Try.func3, Try.ntmps3
    go_wp2_with fail
    refine KN.out.mono ?_
    rintro e W1 ⟨rfl, b1⟩
    have B1 := hide b1
    clear b1
    go_wp2
    go_ret
    exact ⟨rfl, B1.out⟩
  · have h' : (n : Int) ≤ 12 := by omega
    have hn8 : n ≤ 12 := by omega
    clear r h
    go_enter Try.func3, Try.ntmps3
    go_wp2_with fail
    refine KN.out.mono ?_
    rintro e W1 ⟨rfl, b1⟩
    have B1 := hide b1
    have z1 := b1.size
    have R1 := hide (HR.out.below b1)
    have MA := hide (made_any a n cap l W1 R1.out (by omega))
    unfold hdV at MA
    have hl := HR.out.length
    clear b1 KN HR
    go_wp2_with fail
    refine MA.out.mono ?_
    rintro e W2 ⟨v2, rfl, o2, b2⟩
    obtain ⟨ln, hln⟩ : ∃ ln, 80 + 64 * (n + 2) = ln := ⟨_, rfl⟩
    obtain ⟨L, hL⟩ : ∃ L, mdB l = L := ⟨_, rfl⟩
    have hbL : Bytes L := by rw [← hL]; exact mdB_bytes _
    rw [hln, hL] at o2
    have ln0 : 65 ≤ ln := by omega
    have ln1 : ln ≤ 2000 := by omega
    obtain ⟨a2, k2, hv2, r2⟩ := Rd.own o2 hbL
    subst hv2
    have B2 := hide (B1.out.trans (b2.mono z1))
    have z2 := B2.out.size
    have R2 := hide r2
    have RL2 := hide (R1.out.below b2)
    obtain ⟨N, hN⟩ : ∃ N, n + 2 = N := ⟨_, rfl⟩
    obtain ⟨M, hM⟩ : ∃ M, n + 1 = M := ⟨_, rfl⟩
    rw [hN, hM]
    have hNb : N ≤ 14 := by omega
    have hNa : 1 ≤ N := by omega
    have hMb : M ≤ 14 := by omega
    clear o2 b2 MA hL hln B1 z1 hN hM r2 R1 hbL
    have b3 := (Below.refl W2.heap.size W2).alloc (Nat.le_refl _) (.cells #[.int .u64 80, .int .i64 (N : Int), .int .i64 (M : Int)] 27)
    have X3 := hide (HdB.new W2 80 (N : Int) (M : Int))
    have B3 := hide (B2.out.trans (b3.mono z2))
    have R3 := hide (R2.out.below b3)
    have RL3 := hide (RL2.out.below b3)
    obtain ⟨z, hz, PL⟩ := place11_any ndx ((N : Int) + 2) ⟨hi0, hi1⟩ ⟨by omega, by omega⟩
    have HPL := hide PL
    have hz0 := hz.1
    have hz1 := hz.2
    clear PL hz
    go_upto_region 6 with fail
    obtain ⟨Y, hY⟩ : ∃ Y, W2.heap.size = Y := ⟨_, rfl⟩
    obtain ⟨V3, hV3⟩ : ∃ V3, W2.alloc (.cells #[.int .u64 80, .int .i64 (N : Int), .int .i64 (M : Int)] 27) = V3 := ⟨_, rfl⟩
    rw [hV3] at X3 B3 R3 RL3 ⊢
    rw [hY] at X3 ⊢
    have hYV := (Array.getElem?_eq_some_iff.1 X3.out).1
    have z3 := B3.out.size
    obtain ⟨x0, x1, x2, _, _, _⟩ := X3.out.at
    clear hV3 hY b3 B2 z2 R2 RL2
    have wN : IntKind.i64.wrap ((N : Int) + 2) = (N : Int) + 2 := by rw [IntKind.wrap_i64]; omega
    have wz : IntKind.i64.wrap (z - 1) = z - 1 := by rw [IntKind.wrap_i64]; omega
    go_region_held3 (fun w' => w'.cell? ⟨Y, 0, none⟩ = some (.int .u64 80) ∧ w'.cell? ⟨Y, 1, none⟩ = some (.int .i64 (N : Int)) ∧ w'.cell? ⟨Y, 2, none⟩ = some (.int .i64 (M : Int)))
      (go_keep)
      ((first
        | (go_at_call 9; refine (HPL.out _).mono ?_; rintro e w' ⟨rfl, hw'⟩; rw [hw']; clear hw' w')))
    have b4 : Below V3.heap.size V3 (V3.alloc (.cells #[.int .u64 80, .int .i64 (N : Int), .int .i64 (M : Int), .int .u64 80, .int .i64 (N : Int), .int .i64 (z - 1), .int .u64 off, .int .i64 (N : Int), .int .i64 (M : Int)] 27)).drew := ((Below.refl _ _).alloc (Nat.le_refl _) _).drew
    have h4 : H3 (V3.alloc (.cells #[.int .u64 80, .int .i64 (N : Int), .int .i64 (M : Int), .int .u64 80, .int .i64 (N : Int), .int .i64 (z - 1), .int .u64 off, .int .i64 (N : Int), .int .i64 (M : Int)] 27)).drew V3.heap.size (o3 80 80 off) (o3 (M : Int) (z - 1) (M : Int)) (N : Int) := (H3.new V3 27 80 80 off (M : Int) (z - 1) (M : Int) (N : Int)).drew0
    have R4 := hide (R3.out.below b4)
    have RL4 := hide (RL3.out.below b4)
    have B4 := hide (B3.out.trans (b4.mono z3))
    have ob : ∀ i, 0 ≤ o3 80 80 off i ∧ o3 80 80 off i ≤ 18446744073709551615 := fun i => by unfold o3; split <;> omega
    have xb : ∀ i, -9223372036854775808 ≤ o3 (M : Int) (z - 1) (M : Int) i ∧ o3 (M : Int) (z - 1) (M : Int) i ≤ 9223372036854775807 := fun i => by unfold o3; split <;> omega
    have H4 := hide h4
    generalize o3 80 80 off = fo at *
    generalize o3 (M : Int) (z - 1) (M : Int) = fx at *
    generalize (V3.alloc (.cells #[.int .u64 80, .int .i64 (N : Int), .int .i64 (M : Int), .int .u64 80, .int .i64 (N : Int), .int .i64 (z - 1), .int .u64 off, .int .i64 (N : Int), .int .i64 (M : Int)] 27)).drew = V4 at *
    generalize V3.heap.size = Z at *
    have z4 := B4.out.size
    have OB := hide ob
    have XB := hide xb
    clear b4 h4 ob xb R3 RL3 B3 X3 x0 x1 x2 HPL wN wz hz0 hz1 z3
    go_split_ands
    go_wp2
    go_loopg [47] 3 (fun gg i wr => ∃ k : Nat, k ≤ 3 ∧ gg = 3 - k ∧ i = .int .i64 (k : Int) ∧ Hid (Below V4.heap.size V4 wr))
    case atStart => exact ⟨0, by omega, rfl, rfl, Below.refl _ _⟩
    case round =>
      obtain ⟨k, hk, rfl, rfl, BK⟩ := hrel
      by_cases hlt : k < 3
      · have hlt' : (k : Int) < 3 := by omega
        have hh := H4.out.below BK.out
        have y0 := hh.o k hlt
        have y1 := hh.n k hlt
        have y2 := hh.x k hlt
        have ob := OB.out k
        have xb := XB.out k
        obtain ⟨o, ho⟩ : ∃ o, fo k = o := ⟨_, rfl⟩
        obtain ⟨x, hx⟩ : ∃ x, fx k = x := ⟨_, rfl⟩
        rw [ho] at y0 ob
        rw [hx] at y2 xb
        have ob0 := ob.1
        have ob1 := ob.2
        have xb0 := xb.1
        have xb1 := xb.2
        have zk := BK.out.size
        have b5 := (Below.refl wr.heap.size wr).alloc (Nat.le_refl _) (.cells #[.int .u64 o, .int .i64 (N : Int), .int .i64 x] 27)
        have X5 := hide (HdB.new wr o (N : Int) x)
        have B5 := hide (BK.out.trans (b5.mono zk))
        clear hh ob xb ho hx
        go_upto_region 9 with fail
        obtain ⟨Y5, hY5⟩ : ∃ Y5, wr.heap.size = Y5 := ⟨_, rfl⟩
        obtain ⟨V5, hV5⟩ : ∃ V5, wr.alloc (.cells #[.int .u64 o, .int .i64 (N : Int), .int .i64 x] 27) = V5 := ⟨_, rfl⟩
        rw [hV5] at X5 B5 ⊢
        rw [hY5] at X5 ⊢
        have hY4 := (Array.getElem?_eq_some_iff.1 X5.out).1
        have R5 := hide (R4.out.below B5.out)
        have z5 := B5.out.size
        clear hV5 hY5 b5 y0 y1 y2
        have P1 := hide (parse11_any _ ln k2 L o (N : Int) x V5 R5.out (by omega) (by omega) (by omega) (by omega) (by omega) (by omega) (by omega))
        unfold hdV at P1
        have P2 := hide (fun W (hW : Below V5.heap.size V5 W) => rshdrs_any _ ln k2 L o x N W (R5.out.below hW) (by omega) (by omega) (by omega) (by omega) (by omega) (by omega) (by omega))
        unfold hdV at P2
        obtain ⟨x0, x1, x2, _, _, _⟩ := X5.out.at
        go_wp2_with fail
        refine P1.out.mono ?_
        rintro e W5 ⟨hp, b6⟩
        obtain ⟨a1, c1, a2', c2, m, er, l1, ns, rfl, rh1, rs1, hboth, her, hm⟩ := prs_both hp
        have RH1 := hide rh1
        have RS1 := hide rs1
        have HBo := hide hboth
        have B6 := hide (B5.out.trans (b6.mono z5))
        have z6 := B6.out.size
        have P3 := hide (P2.out W5 b6)
        have X6 := hide (X5.out.below hY4 b6)
        clear hp rh1 rs1 hboth b6 P1 P2 x0 x1 x2 her X5 B5 z5 R5
        obtain ⟨x0, x1, x2, _, _, _⟩ := X6.out.at
        go_wp2_with fail
        refine P3.out.mono ?_
        rintro e W6 ⟨hp, b7⟩
        obtain ⟨d1, e1, d2, e2, rfl, rh2, rs2⟩ := HBo.out e W6 hp
        have SM := hide (same_eq a1 m c1 l1 d1 e1 W6 (RH1.out.below b7) rh2)
        have RS1' := hide (RS1.out.below b7)
        have RS2 := hide rs2
        have B7 := hide (B6.out.trans (b7.mono z6))
        have z7 := B7.out.size
        clear hp rh2 rs2 b7 P3 RH1 RS1 HBo B6 z6 x0 x1 x2 X6
        go_wp2_with fail
        refine SM.out.mono ?_
        rintro e W7 ⟨rfl, b8⟩
        have ST := hide (strs_eq a2' m c2 ns d2 e2 W7 (RS1'.out.below b8) (RS2.out.below b8))
        have B8 := hide (B7.out.trans (b8.mono z7))
        have z8 := B8.out.size
        clear b8 SM RS1' RS2 B7
        go_wp2_with fail
        refine ST.out.mono ?_
        rintro e W8 ⟨rfl, b9⟩
        have B9 := hide (B8.out.trans (b9.mono z8))
        clear b9 ST B8
        go_wp2
        go_roundg (3 - (k + 1))
        case measure => omega
        case rel => exact ⟨k + 1, by omega, rfl, by go_num, B9⟩
      · have RL5 := hide (RL4.out.below BK.out)
        have B5 := hide (B4.out.trans (BK.out.mono z4))
        have z5 := B5.out.size
        clear RL4 R4 H4 OB XB BK B4
        go_upto_region 14 with fail
        have bd : Below wr.heap.size wr wr.drew := (Below.refl _ _).drew
        have SB := hide (sbytes_any a n cap l wr.drew (RL5.out.below bd) (by omega))
        have RSB := hide (fun W (hW : Below wr.heap.size wr W) => rsb_any a n cap l W (RL5.out.below hW) (by omega))
        have HBd := hide bd
        obtain ⟨Q, hQ⟩ : ∃ Q, 64 * n = Q := ⟨_, rfl⟩
        obtain ⟨LS, hLS⟩ : ∃ LS, shsL l = LS := ⟨_, rfl⟩
        have hLb : Bytes LS := by rw [← hLS]; exact shsL_bytes _
        rw [hQ, hLS] at SB
        rw [hQ, hLS] at RSB
        have HLb := hide hLb
        have hq := strq_yes (strOfNums LS)
        obtain ⟨S, hS⟩ : ∃ S, strOfNums LS = S := ⟨_, rfl⟩
        rw [hS] at hq
        have HS := hide hS
        clear bd hQ hLS hLb hS RL5
        go_region_with (first
          | (go_at_call 14; refine SB.out.mono ?_; rintro e W9 ⟨a9, c9, rfl, r9, b9⟩; have s9 := r9.str; rw [HS.out] at s9; have R9 := hide r9; have B9 := hide (HBd.out.trans b9); have z9 := B9.out.size; clear r9 b9 SB)
          | (go_at_call 15; refine (RSB.out W9 B9.out).mono ?_; rintro e W10 ⟨v10, rfl, o10, b10⟩; obtain ⟨a10, c10, hv10, r10⟩ := Rd.own o10 HLb.out; subst hv10; have s10 := r10.str; rw [HS.out] at s10; have s11 := (R9.out.below b10).str; rw [HS.out] at s11; have B10 := hide (B9.out.trans (b10.mono z9)); clear r10 b10 o10 RSB))
        all_goals
          have BX := hide (B5.out.trans (B10.out.mono z5))
          clear B5 B9 B10 R9
          go_wp2
          go_ret
          exact ⟨ret_bool (by simp), BX.out⟩

end Go.Proofs.Ytmmbahblnmhhmaa
