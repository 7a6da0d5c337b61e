/- The contract of the document's HeadBytes: a row of the call's own that holds a head's bytes. -/
import Derived.Test.YtmmbahblnmhhmaaHeadMake
import Derived.Deep.RegionWith
import Derived.Deep.DeepCutAuto
namespace Go.Proofs.Ytmmbahblnmhhmaa
open Go.RowKit
set_option linter.unusedVariables false
set_option linter.unusedSimpArgs false

/-- A row of the call's own beside a head's three cells. -/
structure RB (w W : World) (B b : Nat) (v : Value) (len : Nat) (bs : List Int) (o n x : Int) : Prop where
  bel : Below w.heap.size w W
  hd : HdAt W b o n x
  own : W.ownsRow B 5 1 v len (bs.map (Value.int .u8))
  lt : b < B
  lo : w.heap.size ≤ B
  hi : B ≤ W.heap.size

theorem HdAt.belowB {w w' : World} {B b : Nat} {o n x : Int} (h : HdAt w b o n x) (hB : b < B) (hb : Below B w w') : HdAt w' b o n x :=
  ⟨by rw [hb.cell hB]; exact h.o, by rw [hb.cell hB]; exact h.n, by rw [hb.cell hB]; exact h.x⟩

theorem rb_put {w W : World} {B b : Nat} {v : Value} {len : Nat} {bs : List Int} {o n x : Int} (h : RB w W B b v len bs o n x) (y : Int) (k : Nat) (hy : 0 ≤ y) (hy' : y ≤ 18446744073709551615) (hk : k ≤ 8) (hl : len ≤ 1000) :
    Calls Try.prog 30 #[v, .int .u64 y, .int .i64 k] W fun e w' => ∃ v', e = .returned v' ∧ RB w w' B b v' (len + k) (bs ++ bytesOf y k) o n x := by
  refine (rput_own B v len bs y k W h.own h.hi hy hy' (by omega) (by omega) (by omega)).mono ?_
  rintro e w' ⟨v', rfl, ho, hb⟩
  rw [Int.toNat_natCast] at ho
  exact ⟨v', rfl, h.bel.trans (hb.mono h.lo), h.hd.belowB h.lt hb, ho, h.lt, h.lo, Nat.le_trans h.hi hb.size⟩

theorem RB.drew {w W : World} {B b : Nat} {v : Value} {len : Nat} {bs : List Int} {o n x : Int} (h : RB w W B b v len bs o n x) : RB w W.drew B b v len bs o n x :=
  ⟨h.bel.trans ((Below.refl _ _).drew), h.hd.belowB h.lt ((Below.refl _ _).drew), h.own.drew, h.lt, h.lo, h.hi⟩

set_option maxHeartbeats 1600000 in
theorem rhb_any (o n x : Int) (w : World) (ho : 0 ≤ o) (ho' : o ≤ 18446744073709551615) (hn : -9223372036854775808 ≤ n) (hn' : n ≤ 9223372036854775807) (hx : -9223372036854775808 ≤ x) (hx' : x ≤ 9223372036854775807) :
    Calls Try.prog 18 #[hdV o n x] w fun e w' =>
      ∃ v', e = .returned v' ∧ w'.ownsRow w.heap.size 5 1 v' 64 ((hb o n x).map (Value.int .u8)) ∧ Below w.heap.size w w' := by
  have h0 := HdAt.new w 27 o n x
  have b0 : Below w.heap.size w (w.alloc (.cells #[.int .u64 o, .int .i64 n, .int .i64 x] 27)) := (Below.refl _ _).alloc (Nat.le_refl _) _
  have k1 := fun (C : Array Value) (l c : Nat) => kc_one w (.cells #[.int .u64 o, .int .i64 n, .int .i64 x] 27) C l c
  have z0 : (w.alloc (.cells #[.int .u64 o, .int .i64 n, .int .i64 x] 27)).heap.size = w.heap.size + 1 := by simp
  have H0 := hide h0
  have B0 := hide b0
  clear h0 b0
  unfold hdV
  go_enter Try.func18, Try.ntmps18
  go_wp2_with fail
  generalize hW : w.alloc (.cells #[.int .u64 o, .int .i64 n, .int .i64 x] 27) = W at *
  clear hW k1
  obtain ⟨W1, hW1⟩ : ∃ W1, W1 = W.alloc (.cells #[.int .u8 127, .int .u8 69, .int .u8 76, .int .u8 70, .int .u8 2, .int .u8 1, .int .u8 1, .int .u8 0, .int .u8 0, .int .u8 0, .int .u8 0, .int .u8 0, .int .u8 0, .int .u8 0, .int .u8 0, .int .u8 0] 5 (16, 17)) := ⟨_, rfl⟩
  have r1 : Rd W1 (some ⟨w.heap.size + 1, 0, none⟩) 16 16 identL := by rw [hW1, ← z0]; exact Rd.litm identL (heap_alloc_new W _) identL_bytes (by decide)
  have b1 : Below W.heap.size W W1 := by rw [hW1]; exact (Below.refl _ _).alloc (Nat.le_refl _) _
  have z1 : W1.heap.size = w.heap.size + 2 := by rw [hW1]; simp [z0]
  have h1 := H0.out.below b1
  have b1' := B0.out.trans (b1.mono (by omega))
  rw [← hW1]
  clear hW1 b1 H0 B0
  refine (rput_new W1 _ 16 identL 1 2 W1 ⟨Below.refl _ _, .inl ⟨_, rfl, r1⟩⟩ (by decide) (by decide) (by decide) (by decide) (by decide)).mono ?_
  rintro e W2 ⟨v2, rfl, o2, b2⟩
  have H2 : Hid (RB w W2 W1.heap.size w.heap.size v2 18 (identL ++ bytesOf 1 2) o n x) := ⟨b1'.trans (b2.mono (by omega)), h1.below b2, o2, by omega, by omega, b2.size⟩
  clear h1 b1' r1 o2 b2
  go_wp2_with fail
  refine (rb_put H2.out 243 2 (by decide) (by decide) (by decide) (by decide)).mono ?_
  rintro e W3 ⟨v3, rfl, h3⟩
  have H3 := hide h3
  clear h3 H2
  go_wp2_with fail
  refine (rb_put H3.out 1 4 (by decide) (by decide) (by decide) (by decide)).mono ?_
  rintro e W4 ⟨v4, rfl, h4⟩
  have H4 := hide h4.drew
  have c4 := h4.hd.o
  clear h4 H3
  go_upto_region 3 with fail
  go_cut [3] (fun u wx => Hid (RB w wx W1.heap.size w.heap.size u 48 (identL ++ bytesOf 1 2 ++ bytesOf 243 2 ++ bytesOf 1 4 ++ bytesOf 0 8 ++ bytesOf 0 8 ++ bytesOf o 8) o n x))
  case first =>
    go_region_with (first
      | (go_at_call 30; first
        | (refine (rb_put H6.out o 8 (by omega) (by omega) (by decide) (by decide)).mono ?_; rintro e W7 ⟨v7, rfl, h7⟩; have H7 := hide h7; clear h7 H6)
        | (refine (rb_put H5.out 0 8 (by decide) (by decide) (by decide) (by decide)).mono ?_; rintro e W6 ⟨v6, rfl, h6⟩; have H6 := hide h6; have c6 := h6.hd.o; clear h6 H5)
        | (refine (rb_put H4.out 0 8 (by decide) (by decide) (by decide) (by decide)).mono ?_; rintro e W5 ⟨v5, rfl, h5⟩; have H5 := hide h5; have c5 := h5.hd.o; clear h5 H4)))
    all_goals
      go_wp2_with fail
      go_meet
      case rel => exact H7
  case rest =>
    have H7 := hcut
    clear H4 c4 hcut
    go_wp2_with fail
    refine (rb_put H7.out 0 4 (by decide) (by decide) (by decide) (by decide)).mono ?_
    rintro e W8 ⟨v8, rfl, h8⟩
    have H8 := hide h8
    clear h8 H7
    go_wp2_with fail
    refine (rb_put H8.out 64 2 (by decide) (by decide) (by decide) (by decide)).mono ?_
    rintro e W9 ⟨v9, rfl, h9⟩
    have H9 := hide h9
    clear h9 H8
    go_wp2_with fail
    refine (rb_put H9.out 0 2 (by decide) (by decide) (by decide) (by decide)).mono ?_
    rintro e W10 ⟨v10, rfl, h10⟩
    have H10 := hide h10
    clear h10 H9
    go_wp2_with fail
    refine (rb_put H10.out 0 2 (by decide) (by decide) (by decide) (by decide)).mono ?_
    rintro e W11 ⟨v11, rfl, h11⟩
    have H11 := hide h11
    clear h11 H10
    go_wp2_with fail
    refine (rb_put H11.out 64 2 (by decide) (by decide) (by decide) (by decide)).mono ?_
    rintro e W12 ⟨v12, rfl, h12⟩
    have H12 := hide h12.drew
    have c1 := h12.hd.n
    have c2 := h12.hd.x
    clear h12 H11
    go_upto_region 6 with fail
    have wn : IntKind.u64.wrap n = n % 18446744073709551616 := by simp [IntKind.wrap, IntKind.signed, IntKind.bits]
    have wx : IntKind.u64.wrap x = x % 18446744073709551616 := by simp [IntKind.wrap, IntKind.signed, IntKind.bits]
    obtain ⟨n2, hn2⟩ : ∃ n2, n2 = n % 18446744073709551616 := ⟨_, rfl⟩
    obtain ⟨x2, hx2⟩ : ∃ x2, x2 = x % 18446744073709551616 := ⟨_, rfl⟩
    rw [← hn2] at wn
    rw [← hx2] at wx
    have n20 : 0 ≤ n2 := by omega
    have n21 : n2 ≤ 18446744073709551615 := by omega
    have x20 : 0 ≤ x2 := by omega
    have x21 : x2 ≤ 18446744073709551615 := by omega
    have HN : Hid (bytesOf n2 2 = bytesOf n 2) := by rw [hn2]; exact bytesOf_u64 n
    have HX : Hid (bytesOf x2 2 = bytesOf x 2) := by rw [hx2]; exact bytesOf_u64 x
    clear hn2 hx2
    go_cut [2] (fun u wx => Hid (RB w wx W1.heap.size w.heap.size u 64 (identL ++ bytesOf 1 2 ++ bytesOf 243 2 ++ bytesOf 1 4 ++ bytesOf 0 8 ++ bytesOf 0 8 ++ bytesOf o 8 ++ bytesOf 0 4 ++ bytesOf 64 2 ++ bytesOf 0 2 ++ bytesOf 0 2 ++ bytesOf 64 2 ++ bytesOf n2 2 ++ bytesOf x2 2) o n x))
    case first =>
      go_region_with (first
        | (go_at_call 30; first
          | (refine (rb_put H13.out x2 2 (by omega) (by omega) (by decide) (by decide)).mono ?_; rintro e W14 ⟨v14, rfl, h14⟩; have H14 := hide h14; clear h14 H13)
          | (refine (rb_put H12.out n2 2 (by omega) (by omega) (by decide) (by decide)).mono ?_; rintro e W13 ⟨v13, rfl, h13⟩; have H13 := hide h13; have c4 := h13.hd.x; clear h13 H12)))
      all_goals
        go_wp2_with fail
        go_meet
        case rel => exact H14
    case rest =>
      have e7 : identL ++ bytesOf 1 2 ++ bytesOf 243 2 ++ bytesOf 1 4 ++ bytesOf 0 8 ++ bytesOf 0 8 ++ bytesOf o 8 ++ bytesOf 0 4 ++ bytesOf 64 2 ++ bytesOf 0 2 ++ bytesOf 0 2 ++ bytesOf 64 2 ++ bytesOf n2 2 ++ bytesOf x2 2 = hb o n x := by
        rw [HN.out, HX.out]
        simp only [List.append_assoc]
        rfl
      rw [e7] at hcut
      have H15 := hcut
      clear e7 hcut H12 c1 c2 wn wx HN HX
      go_wp2
      go_ret
      exact ⟨_, rfl, ownsRow_mono H15.out.own H15.out.lo, H15.out.bel⟩

end Go.Proofs.Ytmmbahblnmhhmaa
