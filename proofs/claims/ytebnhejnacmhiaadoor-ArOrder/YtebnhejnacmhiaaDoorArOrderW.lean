/- The law ArOrder, walked: whatever the bytes are it answers true. -/
import Derived.Test.YtebnhejnacmhiaaDoorArHead
namespace Go.Proofs.YtebnhejnacmhiaaDoor
open Go.RowKit Go.Maps
set_option linter.unusedVariables false
set_option maxRecDepth 100000
set_option maxRecDepth 20000
set_option linter.unusedSimpArgs false

theorem oB_len (k : Nat) : (oB k).length ≤ 64 := by
  unfold oB
  split
  · exact Nat.le_of_lt (by decide)
  · split
    · exact Nat.le_of_eq (by decide)
    · split
      · exact Nat.le_of_lt (by decide)
      · exact Nat.le_of_lt (by decide)
theorem u4 (y : Int) (h0 : 0 ≤ y) (q : Nat) (hq : y % 4 = q) : y.tmod 4 = q := by rw [Int.tmod_eq_emod_of_nonneg h0]; exact hq

set_option maxHeartbeats 16000000 in
theorem order_walk (a : Option Addr) (len cap : Nat) (bs : List Int) (w : World) (r : Rd w a len cap bs) (L : LaidR w) :
    Calls Tryd.prog 6 #[.slice a len cap] w fun e w' => e = .returned (.bool true) ∧ Below w.heap.size w w' := by
  obtain ⟨i8, hi8, hz80, hz81, hz82⟩ := info_parts Tryd.info8
  have hle := r.le
  have hmx := r.max
  have hbl := r.length
  have HR := hide r
  have HL := hide L
  have HK := hide (known_17 w L)
  clear r L
  by_cases h8 : 8 < len
  · have hd8 : decide ((8 : Int) < (len : Int)) = true := decide_eq_true (by omega)
    go_enter Tryd.func6, Tryd.ntmps6
    go_wp2_with fail
    refine HK.out.mono ?_
    rintro e wk ⟨rfl, hbk⟩
    have HBK := hide hbk
    clear hbk
    go_wp2_with fail
    go_ret
    exact ⟨rfl, HBK.out⟩
  have hd8 : decide ((8 : Int) < (len : Int)) = false := decide_eq_false (by omega)
  go_enter Tryd.func6, Tryd.ntmps6
  go_wp2_with fail
  refine HK.out.mono ?_
  rintro e wk ⟨rfl, hbk⟩
  have HBK := hide hbk
  have hszk := hbk.size
  have hkc := lit_kc wk
  unfold mgV at hkc
  have HB0 := hide (lit_bx wk)
  unfold mgV at HB0
  clear hbk HK
  go_upto_region 6 with fail
  generalize hW1 : wk.alloc (.cells #[.int .u8 33, .int .u8 60, .int .u8 97, .int .u8 114, .int .u8 99, .int .u8 104, .int .u8 62, .int .u8 10] 5 (8, 9)) = w1 at *
  clear hkc hW1
  go_wp2_with fail
  go_loopg [3, 4, 5, 6, 7] len (fun g v3 v4 v5 v6 v7 wr => ∃ (i mem : Nat) (ok lg : Bool) (Bs : T8), i ≤ len ∧ g = len - i ∧ v4 = .bool ok ∧ v5 = .int .i64 (mem : Int) ∧ v6 = .bool lg ∧ v7 = .int .i64 (i : Int) ∧ Hid (Bx wk wr v3 (magc ++ Bs)) ∧ Hid (OrI Bs i ok mem lg) ∧ Bs.length ≤ 64 * i ∧ mem ≤ i)
  case atStart => exact ⟨0, 0, true, false, [], by omega, rfl, rfl, rfl, rfl, rfl, HB0.out, OrI.start, by simp, by omega⟩
  case round =>
    obtain ⟨i, mem, ok, lg, Bs, hi, rfl, rfl, rfl, rfl, rfl, HB, HO, hBl, hmem⟩ := hrel
    have hszr := HB.out.bel.size
    by_cases hlt : i < len
    · obtain ⟨b, o, rfl, hc⟩ := ((HR.out.below HBK.out).below HB.out.bel |> fun (h : Rd wr a len cap bs) => h).addr (by omega)
      have hcell := hc i hlt
      have hby := HR.out.bytes.at i
      obtain ⟨y, hy⟩ : ∃ y, bs.getD i 0 = y := ⟨_, rfl⟩
      rw [hy] at hcell
      have hyb : 0 ≤ y ∧ y ≤ 255 := by
        have e : bs[i]?.getD 0 = y := by rw [← hy]; simp [List.getD]
        rw [← e]
        exact ⟨hby.1, by have := hby.2; omega⟩
      have hlt' : (i : Int) < (len : Int) := by omega
      have hy0 := hyb.1
      have hy1 := hyb.2
      obtain ⟨q, hq⟩ : ∃ q : Nat, y % 4 = q := ⟨(y % 4).toNat, by omega⟩
      have hq4 : q < 4 := by omega
      have hqt := u4 y hy0 q hq
      clear hc hby hy hyb
      rcases (show q = 0 ∨ q = 1 ∨ q = 2 ∨ q = 3 by omega) with rfl | rfl | rfl | rfl
      · have hq' : y % 4 = 0 := by omega
        have hqt' : y.tmod 4 = 0 := by omega
        have HH := hide (head_any [47] [48] wr (by decide) (by decide) (by kernel_rfl) (by kernel_rfl) (by kernel_rfl) (by kernel_rfl))
        have h60 : (hT [47] [48]).length = 60 := by kernel_rfl
        clear hq hqt
        cases ok
        · have HO2 := hide HO.out.k0
          have hm8 : magc.length = 8 := rfl
          go_wp2_with fail
          refine HH.out.mono ?_
          rintro e w2 ⟨rfl, hrt, hb2⟩
          have HB2 := hide (HB.out.on hb2)
          have HRT := hide hrt
          clear hrt hb2 HH
          go_wp2_with (at_builtin; refine wpList_bx (w0 := wk) rfl _ _ rfl _ (magc ++ Bs) (hT [47] [48]) 60 ⟨wr.heap.size, 0, none⟩ rfl (by rw [h60]; rfl) HB2.out HRT.out (by omega) (by rw [h60, List.length_append]; omega) ?_; intro v5 w5 r5 b5; refine Hid.out ?_)
          refine hide ?_
          have R5 := hide r5
          have B5 := hide b5
          clear r5 b5 HB2 HRT
          have HX : Hid (Bx wk w5 v5 (magc ++ (Bs ++ oB 0))) := by
            refine ⟨B5.out, .inr ?_⟩
            have e : magc ++ (Bs ++ oB 0) = magc ++ Bs ++ hT [47] [48] := by simp [oB]
            rw [e]
            exact R5.out
          clear R5 B5
          go_wp2_with fail
          go_roundg (len - (i + 1))
          case measure => omega
          case rel => exact ⟨i + 1, mem, false, lg, Bs ++ oB 0, by omega, rfl, by first | rfl | go_num, by go_num, rfl, by go_num, HX.out, HO2.out, by have := oB_len 0; rw [List.length_append]; omega, by omega⟩
        · by_cases hi0 : i = 0
          · have hz : ((i : Int) == 0) = true := by simp; omega
            have HO2 : Hid (OrI (Bs ++ oB 0) (i + 1) true mem lg) := by have := HO.out.k0; rw [decide_eq_true hi0] at this; exact this
            clear hi0
            have hm8 : magc.length = 8 := rfl
            go_wp2_with fail
            refine HH.out.mono ?_
            rintro e w2 ⟨rfl, hrt, hb2⟩
            have HB2 := hide (HB.out.on hb2)
            have HRT := hide hrt
            clear hrt hb2 HH
            go_wp2_with (at_builtin; refine wpList_bx (w0 := wk) rfl _ _ rfl _ (magc ++ Bs) (hT [47] [48]) 60 ⟨wr.heap.size, 0, none⟩ rfl (by rw [h60]; rfl) HB2.out HRT.out (by omega) (by rw [h60, List.length_append]; omega) ?_; intro v5 w5 r5 b5; refine Hid.out ?_)
            refine hide ?_
            have R5 := hide r5
            have B5 := hide b5
            clear r5 b5 HB2 HRT
            have HX : Hid (Bx wk w5 v5 (magc ++ (Bs ++ oB 0))) := by
              refine ⟨B5.out, .inr ?_⟩
              have e : magc ++ (Bs ++ oB 0) = magc ++ Bs ++ hT [47] [48] := by simp [oB]
              rw [e]
              exact R5.out
            clear R5 B5
            go_wp2_with fail
            go_roundg (len - (i + 1))
            case measure => omega
            case rel => exact ⟨i + 1, mem, true, lg, Bs ++ oB 0, by omega, rfl, by first | rfl | go_num, by go_num, rfl, by go_num, HX.out, HO2.out, by have := oB_len 0; rw [List.length_append]; omega, by omega⟩
          · have hz : ((i : Int) == 0) = false := by simp; omega
            have HO2 : Hid (OrI (Bs ++ oB 0) (i + 1) false mem lg) := by have := HO.out.k0; rw [decide_eq_false hi0] at this; exact this
            clear hi0
            have hm8 : magc.length = 8 := rfl
            go_wp2_with fail
            refine HH.out.mono ?_
            rintro e w2 ⟨rfl, hrt, hb2⟩
            have HB2 := hide (HB.out.on hb2)
            have HRT := hide hrt
            clear hrt hb2 HH
            go_wp2_with (at_builtin; refine wpList_bx (w0 := wk) rfl _ _ rfl _ (magc ++ Bs) (hT [47] [48]) 60 ⟨wr.heap.size, 0, none⟩ rfl (by rw [h60]; rfl) HB2.out HRT.out (by omega) (by rw [h60, List.length_append]; omega) ?_; intro v5 w5 r5 b5; refine Hid.out ?_)
            refine hide ?_
            have R5 := hide r5
            have B5 := hide b5
            clear r5 b5 HB2 HRT
            have HX : Hid (Bx wk w5 v5 (magc ++ (Bs ++ oB 0))) := by
              refine ⟨B5.out, .inr ?_⟩
              have e : magc ++ (Bs ++ oB 0) = magc ++ Bs ++ hT [47] [48] := by simp [oB]
              rw [e]
              exact R5.out
            clear R5 B5
            go_wp2_with fail
            go_roundg (len - (i + 1))
            case measure => omega
            case rel => exact ⟨i + 1, mem, false, lg, Bs ++ oB 0, by omega, rfl, by first | rfl | go_num, by go_num, rfl, by go_num, HX.out, HO2.out, by have := oB_len 0; rw [List.length_append]; omega, by omega⟩
      · have hq' : y % 4 = 1 := by omega
        have hqt' : y.tmod 4 = 1 := by omega
        have HH := hide (head_any [47, 47] [52] wr (by decide) (by decide) (by kernel_rfl) (by kernel_rfl) (by kernel_rfl) (by kernel_rfl))
        have h60 : (hT [47, 47] [52]).length = 60 := by kernel_rfl
        clear hq hqt
        cases ok
        · have HO2 := hide HO.out.k1
          have hm8 : magc.length = 8 := rfl
          go_wp2_with fail
          refine HH.out.mono ?_
          rintro e w2 ⟨rfl, hrt, hb2⟩
          have HB2 := hide (HB.out.on hb2)
          have HRT := hide hrt
          clear hrt hb2 HH
          go_wp2_with (at_builtin; refine wpList_bx (w0 := wk) rfl _ _ rfl _ (magc ++ Bs) (hT [47, 47] [52]) 60 ⟨wr.heap.size, 0, none⟩ rfl (by rw [h60]; rfl) HB2.out HRT.out (by omega) (by rw [h60, List.length_append]; omega) ?_; intro v5 w5 r5 b5; refine Hid.out ?_)
          refine hide ?_
          have R5 := hide r5
          have B5 := hide b5
          clear r5 b5 HB2 HRT
          have hs4 : (⟨#[97, 98, 47, 10]⟩ : ByteArray).size = 4 := rfl
          have hl5 : (magc ++ Bs ++ hT [47, 47] [52]).length = 8 + Bs.length + 60 := by rw [List.length_append, List.length_append, h60]; rfl
          have hb5s := B5.out.size
          go_wp2_with (at_builtin; refine Lib.wpList_append_own_string _ rfl _ _ 23 9 rfl wk.heap.size 5 i8 Tryd.underlying23 Tryd.underlying9 hi8 hz80 hz81 hz82 _ _ _ rfl R5.out ⟨#[97, 98, 47, 10]⟩ rfl (by unfold maxLen; omega) (by omega) (by omega) ?_; intro v6 w6 r6 g6 n6; refine Hid.out ?_)
          refine hide ?_
          have HX : Hid (Bx wk w6 v6 (magc ++ (Bs ++ oB 1))) := by
            refine ⟨B5.out.grown g6 hb5s (fun k hk => row_ge R5.out hk), .inr ?_⟩
            have e : magc ++ (Bs ++ oB 1) = (magc ++ Bs ++ hT [47, 47] [52]) ++ ab4 := by simp [oB]
            rw [e, cs8_app, List.length_append]
            exact r6
          clear r6 g6 n6 R5 B5
          go_wp2_with fail
          go_roundg (len - (i + 1))
          case measure => omega
          case rel => exact ⟨i + 1, mem, false, true, Bs ++ oB 1, by omega, rfl, by first | rfl | go_num, by go_num, rfl, by go_num, HX.out, HO2.out, by have := oB_len 1; rw [List.length_append]; omega, by omega⟩
        · cases lg
          · by_cases hm0 : mem = 0
            · have hz : ((mem : Int) == 0) = true := by simp; omega
              have HO2 : Hid (OrI (Bs ++ oB 1) (i + 1) true mem true) := by have := HO.out.k1; rw [decide_eq_true hm0] at this; exact this
              have hm8 : magc.length = 8 := rfl
              go_wp2_with fail
              refine HH.out.mono ?_
              rintro e w2 ⟨rfl, hrt, hb2⟩
              have HB2 := hide (HB.out.on hb2)
              have HRT := hide hrt
              clear hrt hb2 HH
              go_wp2_with (at_builtin; refine wpList_bx (w0 := wk) rfl _ _ rfl _ (magc ++ Bs) (hT [47, 47] [52]) 60 ⟨wr.heap.size, 0, none⟩ rfl (by rw [h60]; rfl) HB2.out HRT.out (by omega) (by rw [h60, List.length_append]; omega) ?_; intro v5 w5 r5 b5; refine Hid.out ?_)
              refine hide ?_
              have R5 := hide r5
              have B5 := hide b5
              clear r5 b5 HB2 HRT
              have hs4 : (⟨#[97, 98, 47, 10]⟩ : ByteArray).size = 4 := rfl
              have hl5 : (magc ++ Bs ++ hT [47, 47] [52]).length = 8 + Bs.length + 60 := by rw [List.length_append, List.length_append, h60]; rfl
              have hb5s := B5.out.size
              go_wp2_with (at_builtin; refine Lib.wpList_append_own_string _ rfl _ _ 23 9 rfl wk.heap.size 5 i8 Tryd.underlying23 Tryd.underlying9 hi8 hz80 hz81 hz82 _ _ _ rfl R5.out ⟨#[97, 98, 47, 10]⟩ rfl (by unfold maxLen; omega) (by omega) (by omega) ?_; intro v6 w6 r6 g6 n6; refine Hid.out ?_)
              refine hide ?_
              have HX : Hid (Bx wk w6 v6 (magc ++ (Bs ++ oB 1))) := by
                refine ⟨B5.out.grown g6 hb5s (fun k hk => row_ge R5.out hk), .inr ?_⟩
                have e : magc ++ (Bs ++ oB 1) = (magc ++ Bs ++ hT [47, 47] [52]) ++ ab4 := by simp [oB]
                rw [e, cs8_app, List.length_append]
                exact r6
              clear r6 g6 n6 R5 B5
              go_wp2_with fail
              go_roundg (len - (i + 1))
              case measure => omega
              case rel => exact ⟨i + 1, mem, true, true, Bs ++ oB 1, by omega, rfl, by first | rfl | go_num, by go_num, rfl, by go_num, HX.out, HO2.out, by have := oB_len 1; rw [List.length_append]; omega, by omega⟩
            · have hz : ((mem : Int) == 0) = false := by simp; omega
              have HO2 : Hid (OrI (Bs ++ oB 1) (i + 1) false mem true) := by have := HO.out.k1; rw [decide_eq_false hm0] at this; exact this
              have hm8 : magc.length = 8 := rfl
              go_wp2_with fail
              refine HH.out.mono ?_
              rintro e w2 ⟨rfl, hrt, hb2⟩
              have HB2 := hide (HB.out.on hb2)
              have HRT := hide hrt
              clear hrt hb2 HH
              go_wp2_with (at_builtin; refine wpList_bx (w0 := wk) rfl _ _ rfl _ (magc ++ Bs) (hT [47, 47] [52]) 60 ⟨wr.heap.size, 0, none⟩ rfl (by rw [h60]; rfl) HB2.out HRT.out (by omega) (by rw [h60, List.length_append]; omega) ?_; intro v5 w5 r5 b5; refine Hid.out ?_)
              refine hide ?_
              have R5 := hide r5
              have B5 := hide b5
              clear r5 b5 HB2 HRT
              have hs4 : (⟨#[97, 98, 47, 10]⟩ : ByteArray).size = 4 := rfl
              have hl5 : (magc ++ Bs ++ hT [47, 47] [52]).length = 8 + Bs.length + 60 := by rw [List.length_append, List.length_append, h60]; rfl
              have hb5s := B5.out.size
              go_wp2_with (at_builtin; refine Lib.wpList_append_own_string _ rfl _ _ 23 9 rfl wk.heap.size 5 i8 Tryd.underlying23 Tryd.underlying9 hi8 hz80 hz81 hz82 _ _ _ rfl R5.out ⟨#[97, 98, 47, 10]⟩ rfl (by unfold maxLen; omega) (by omega) (by omega) ?_; intro v6 w6 r6 g6 n6; refine Hid.out ?_)
              refine hide ?_
              have HX : Hid (Bx wk w6 v6 (magc ++ (Bs ++ oB 1))) := by
                refine ⟨B5.out.grown g6 hb5s (fun k hk => row_ge R5.out hk), .inr ?_⟩
                have e : magc ++ (Bs ++ oB 1) = (magc ++ Bs ++ hT [47, 47] [52]) ++ ab4 := by simp [oB]
                rw [e, cs8_app, List.length_append]
                exact r6
              clear r6 g6 n6 R5 B5
              go_wp2_with fail
              go_roundg (len - (i + 1))
              case measure => omega
              case rel => exact ⟨i + 1, mem, false, true, Bs ++ oB 1, by omega, rfl, by first | rfl | go_num, by go_num, rfl, by go_num, HX.out, HO2.out, by have := oB_len 1; rw [List.length_append]; omega, by omega⟩
          · have HO2 : Hid (OrI (Bs ++ oB 1) (i + 1) false mem true) := HO.out.k1
            have hm8 : magc.length = 8 := rfl
            go_wp2_with fail
            refine HH.out.mono ?_
            rintro e w2 ⟨rfl, hrt, hb2⟩
            have HB2 := hide (HB.out.on hb2)
            have HRT := hide hrt
            clear hrt hb2 HH
            go_wp2_with (at_builtin; refine wpList_bx (w0 := wk) rfl _ _ rfl _ (magc ++ Bs) (hT [47, 47] [52]) 60 ⟨wr.heap.size, 0, none⟩ rfl (by rw [h60]; rfl) HB2.out HRT.out (by omega) (by rw [h60, List.length_append]; omega) ?_; intro v5 w5 r5 b5; refine Hid.out ?_)
            refine hide ?_
            have R5 := hide r5
            have B5 := hide b5
            clear r5 b5 HB2 HRT
            have hs4 : (⟨#[97, 98, 47, 10]⟩ : ByteArray).size = 4 := rfl
            have hl5 : (magc ++ Bs ++ hT [47, 47] [52]).length = 8 + Bs.length + 60 := by rw [List.length_append, List.length_append, h60]; rfl
            have hb5s := B5.out.size
            go_wp2_with (at_builtin; refine Lib.wpList_append_own_string _ rfl _ _ 23 9 rfl wk.heap.size 5 i8 Tryd.underlying23 Tryd.underlying9 hi8 hz80 hz81 hz82 _ _ _ rfl R5.out ⟨#[97, 98, 47, 10]⟩ rfl (by unfold maxLen; omega) (by omega) (by omega) ?_; intro v6 w6 r6 g6 n6; refine Hid.out ?_)
            refine hide ?_
            have HX : Hid (Bx wk w6 v6 (magc ++ (Bs ++ oB 1))) := by
              refine ⟨B5.out.grown g6 hb5s (fun k hk => row_ge R5.out hk), .inr ?_⟩
              have e : magc ++ (Bs ++ oB 1) = (magc ++ Bs ++ hT [47, 47] [52]) ++ ab4 := by simp [oB]
              rw [e, cs8_app, List.length_append]
              exact r6
            clear r6 g6 n6 R5 B5
            go_wp2_with fail
            go_roundg (len - (i + 1))
            case measure => omega
            case rel => exact ⟨i + 1, mem, false, true, Bs ++ oB 1, by omega, rfl, by first | rfl | go_num, by go_num, rfl, by go_num, HX.out, HO2.out, by have := oB_len 1; rw [List.length_append]; omega, by omega⟩
      · have hq' : y % 4 = 2 := by omega
        have hqt' : y.tmod 4 = 2 := by omega
        have HH := hide (head_any [109, 47] [48] wr (by decide) (by decide) (by kernel_rfl) (by kernel_rfl) (by kernel_rfl) (by kernel_rfl))
        have h60 : (hT [109, 47] [48]).length = 60 := by kernel_rfl
        clear hq hqt
        have HO2 := hide (HO.out.k2 (by omega))
        have hm8 : magc.length = 8 := rfl
        go_wp2_with fail
        refine HH.out.mono ?_
        rintro e w2 ⟨rfl, hrt, hb2⟩
        have HB2 := hide (HB.out.on hb2)
        have HRT := hide hrt
        clear hrt hb2 HH
        go_wp2_with (at_builtin; refine wpList_bx (w0 := wk) rfl _ _ rfl _ (magc ++ Bs) (hT [109, 47] [48]) 60 ⟨wr.heap.size, 0, none⟩ rfl (by rw [h60]; rfl) HB2.out HRT.out (by omega) (by rw [h60, List.length_append]; omega) ?_; intro v5 w5 r5 b5; refine Hid.out ?_)
        refine hide ?_
        have R5 := hide r5
        have B5 := hide b5
        clear r5 b5 HB2 HRT
        have HX : Hid (Bx wk w5 v5 (magc ++ (Bs ++ oB 2))) := by
          refine ⟨B5.out, .inr ?_⟩
          have e : magc ++ (Bs ++ oB 2) = magc ++ Bs ++ hT [109, 47] [48] := by simp [oB]
          rw [e]
          exact R5.out
        clear R5 B5
        go_wp2_with fail
        go_roundg (len - (i + 1))
        case measure => omega
        case rel => exact ⟨i + 1, mem + 1, ok, lg, Bs ++ oB 2, by omega, rfl, by first | rfl | go_num, by go_num, rfl, by go_num, HX.out, HO2.out, by have := oB_len 2; rw [List.length_append]; omega, by omega⟩
      · have hq' : y % 4 = 3 := by omega
        have hqt' : y.tmod 4 = 3 := by omega
        have HH := hide (head_any [47, 48] [48] wr (by decide) (by decide) (by kernel_rfl) (by kernel_rfl) (by kernel_rfl) (by kernel_rfl))
        have h60 : (hT [47, 48] [48]).length = 60 := by kernel_rfl
        clear hq hqt
        cases ok
        · have HO2 := hide (HO.out.k3 (by omega))
          have hm8 : magc.length = 8 := rfl
          go_wp2_with fail
          refine HH.out.mono ?_
          rintro e w2 ⟨rfl, hrt, hb2⟩
          have HB2 := hide (HB.out.on hb2)
          have HRT := hide hrt
          clear hrt hb2 HH
          go_wp2_with (at_builtin; refine wpList_bx (w0 := wk) rfl _ _ rfl _ (magc ++ Bs) (hT [47, 48] [48]) 60 ⟨wr.heap.size, 0, none⟩ rfl (by rw [h60]; rfl) HB2.out HRT.out (by omega) (by rw [h60, List.length_append]; omega) ?_; intro v5 w5 r5 b5; refine Hid.out ?_)
          refine hide ?_
          have R5 := hide r5
          have B5 := hide b5
          clear r5 b5 HB2 HRT
          have HX : Hid (Bx wk w5 v5 (magc ++ (Bs ++ oB 3))) := by
            refine ⟨B5.out, .inr ?_⟩
            have e : magc ++ (Bs ++ oB 3) = magc ++ Bs ++ hT [47, 48] [48] := by simp [oB]
            rw [e]
            exact R5.out
          clear R5 B5
          go_wp2_with fail
          go_roundg (len - (i + 1))
          case measure => omega
          case rel => exact ⟨i + 1, mem + 1, false, lg, Bs ++ oB 3, by omega, rfl, by first | rfl | go_num, by go_num, rfl, by go_num, HX.out, HO2.out, by have := oB_len 3; rw [List.length_append]; omega, by omega⟩
        · have HO2 := hide (HO.out.k3 (by omega))
          have hm8 : magc.length = 8 := rfl
          go_wp2_with fail
          refine HH.out.mono ?_
          rintro e w2 ⟨rfl, hrt, hb2⟩
          have HB2 := hide (HB.out.on hb2)
          have HRT := hide hrt
          clear hrt hb2 HH
          go_wp2_with (at_builtin; refine wpList_bx (w0 := wk) rfl _ _ rfl _ (magc ++ Bs) (hT [47, 48] [48]) 60 ⟨wr.heap.size, 0, none⟩ rfl (by rw [h60]; rfl) HB2.out HRT.out (by omega) (by rw [h60, List.length_append]; omega) ?_; intro v5 w5 r5 b5; refine Hid.out ?_)
          refine hide ?_
          have R5 := hide r5
          have B5 := hide b5
          clear r5 b5 HB2 HRT
          have HX : Hid (Bx wk w5 v5 (magc ++ (Bs ++ oB 3))) := by
            refine ⟨B5.out, .inr ?_⟩
            have e : magc ++ (Bs ++ oB 3) = magc ++ Bs ++ hT [47, 48] [48] := by simp [oB]
            rw [e]
            exact R5.out
          clear R5 B5
          go_wp2_with fail
          go_roundg (len - (i + 1))
          case measure => omega
          case rel => exact ⟨i + 1, mem + 1, lg, lg, Bs ++ oB 3, by omega, rfl, by first | rfl | go_num, by go_num, rfl, by go_num, HX.out, HO2.out, by have := oB_len 3; rw [List.length_append]; omega, by omega⟩
    · obtain rfl : i = len := by omega
      have HAR : Hid (arR 15 (magc ++ Bs) = arF 15 s0 Bs) := by
        show _ = _
        have hm8 : magc.length = 8 := rfl
        have e8 : (magc ++ Bs).drop 8 = Bs := rfl
        have e9 : (magc ++ Bs).take 8 = magc := rfl
        rw [arR_eq, if_pos ⟨by rw [List.length_append]; omega, e9⟩, e8]
      obtain ⟨ab, cb, hv, hrt⟩ := HB.out.rt
      subst hv
      have HB9 := hide (HBK.out.trans (HB.out.bel.mono hszk))
      have HRD := hide (read_any ab cb _ wr hrt (HL.out.then HB9.out) conAny)
      rw [HAR.out] at HRD
      have hrc := hrt.le
      have hrm := hrt.max
      obtain ⟨s1, s2⟩ := HO.out.stop
      clear HR HBK HAR HO HB
      generalize (magc ++ Bs).length = NL at *
      cases ok
      · rw [s2 rfl] at HRD
        clear s1 s2 hrt
        go_wp2_with fail
        refine HRD.out.mono ?_
        rintro e w9 ⟨hb9, he9⟩
        obtain rfl : e = .returned (.tuple #[.slice none 0 0, .slice none 0 0, .int .i64 40]) := he9
        have HF := hide (HB9.out.trans (hb9.mono HB9.out.size))
        clear hb9 HRD
        go_wp2_with fail
        go_ret
        exact ⟨rfl, HF.out⟩
      · obtain ⟨s, hs, hms⟩ := s1 rfl
        rw [hs] at HRD
        clear s1 s2 hrt
        go_wp2_with fail
        refine HRD.out.mono ?_
        rintro e w9 ⟨hb9, am, cm, ai, ci, rfl, _, _⟩
        have HF := hide (HB9.out.trans (hb9.mono HB9.out.size))
        rw [hms]
        have hmm : ((mem : Int) == (mem : Int)) = true := by simp
        clear hb9 HRD
        go_wp2_with fail
        go_ret
        exact ⟨rfl, HF.out⟩

end Go.Proofs.YtebnhejnacmhiaaDoor
