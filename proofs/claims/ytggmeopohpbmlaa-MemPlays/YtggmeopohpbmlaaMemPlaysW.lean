/- The walk of MemPlays: any script comes to just the document's memory and answers. -/
import Derived.Test.YtggmeopohpbmlaaMemBox
import Derived.Deep.RegionHeld3
import Derived.Deep.DeepCutAuto
namespace Go.Proofs.Ytggmeopohpbmlaa
open Go.RowKit Go.Maps
set_option linter.unusedVariables false

set_option maxRecDepth 20000 in
set_option maxHeartbeats 6400000 in
theorem plays_walk (a : Option Addr) (len cap : Nat) (w : World) (hA : IsActs w a len cap) :
    Calls Try.prog 3 #[.slice a len cap] w fun e w' => e = .returned (.bool true) ∧ Below w.heap.size w w' := by
  have hmx := hA.1
  have HAc := hide hA.2
  clear hA
  have HK := hide known_any
  by_cases h60 : 60 < len
  · have h60' : (60 : Int) < (len : Int) := by omega
    go_enter Try.func3, Try.ntmps3
    go_wp2_with fail
    refine (HK.out _).mono ?_
    rintro e W1 ⟨rfl, hB1⟩
    have HB1 := hide hB1
    clear hB1 HK
    go_wp2
    go_ret
    exact ⟨rfl, HB1.out⟩
  · go_enter Try.func3, Try.ntmps3
    go_wp2_with fail
    refine (HK.out _).mono ?_
    rintro e W1 ⟨rfl, hB1⟩
    have HB1 := hide hB1
    clear hB1 HK
    go_wp2_with fail
    refine (own_new w _ HB1.out).mono ?_
    rintro e W2 ⟨m, rfl, hO⟩
    have HO := hide hO
    clear hO HB1
    go_wp2_with fail
    refine (bo_new HO.out).mono ?_
    rintro e W3 ⟨m2, rfl, hP⟩
    have HP0 := hide hP
    clear hP HO
    go_wp2
    go_loopw [5] (fun i wr => ∃ (j : Nat) (S : Mm), j ≤ len ∧ i = .int .i64 (j : Int) ∧ Bo w wr m m2 S S) (fun i _ => len - (intOf i).toNat)
    case atStart => exact ⟨0, Mm.new, by omega, rfl, HP0.out⟩
    case round =>
      obtain ⟨j, S, hj, rfl, hP⟩ := hrel
      have HP := hide hP
      have HB := hide hP.bel
      clear hP HP0
      by_cases hlt : j < len
      · obtain ⟨b, o, rfl, x, hx, hcx⟩ := HAc.out j hlt
        have hcw : ∀ k, k < 9 → wr.cell? ⟨b, o + j * 9 + k, none⟩ = x.cells[k]? := fun k hk => by
          have h1 := hcx k hk
          have h2 : x.cells[k]? = some (x.cells[k]'(by simpa [Acts.cells] using hk)) := List.getElem?_eq_getElem _
          rw [h2] at h1 ⊢
          rw [HB.out.cell (World.block_lt_of_cell? w _ h1)]
          exact h1
        have k0 : wr.cell? ⟨b, o + j * 9, none⟩ = some (.int .u8 (x.wh : Int)) := hcw 0 (by omega)
        have k1 : wr.cell? ⟨b, o + j * 9 + 1, none⟩ = some (.int .u8 (x.pm : Int)) := hcw 1 (by omega)
        have k2 : wr.cell? ⟨b, o + j * 9 + 2, none⟩ = some (.int .u8 (x.nn : Int)) := hcw 2 (by omega)
        have k3 : wr.cell? ⟨b, o + j * 9 + 3, none⟩ = some (.int .u16 (x.pg : Int)) := hcw 3 (by omega)
        have k4 : wr.cell? ⟨b, o + j * 9 + 4, none⟩ = some (.int .u16 (x.off : Int)) := hcw 4 (by omega)
        have k5 : wr.cell? ⟨b, o + j * 9 + 5, none⟩ = some (.int .u64 (x.v : Int)) := hcw 5 (by omega)
        have k6 : wr.cell? ⟨b, o + j * 9 + 6, none⟩ = some (.slice x.a x.len x.cap) := hcw 6 (by omega)
        have k7 : wr.cell? ⟨b, o + j * 9 + 7, none⟩ = some (.bool x.raw) := hcw 7 (by omega)
        have k8 : wr.cell? ⟨b, o + j * 9 + 8, none⟩ = some (.int .u64 (x.at' : Int)) := hcw 8 (by omega)
        have HX := hide hx
        have hbl := hx.b.le
        have hbm := hx.b.max
        clear hcw hcx hx
        by_cases h3 : 300 < x.len
        · have h3' : (300 : Int) < (x.len : Int) := by omega
          go_wp2
          go_ret
          exact ⟨rfl, HB.out.alloc HB.out.size _⟩
        · have h3' : decide ((300 : Int) < (x.len : Int)) = false := by simp; omega
          go_upto_region 12 with fail
          obtain ⟨X, hXe⟩ : ∃ X, X = wr.heap.size := ⟨_, rfl⟩
          rw [← hXe]
          obtain ⟨V, hV⟩ : ∃ V, V = wr.alloc (.cells #[.int .u8 (x.wh : Int), .int .u8 (x.pm : Int), .int .u8 (x.nn : Int), .int .u16 (x.pg : Int), .int .u16 (x.off : Int), .int .u64 (x.v : Int), .slice x.a x.len x.cap, .bool x.raw, .int .u64 (x.at' : Int)] 32) := ⟨_, rfl⟩
          rw [← hV]
          have HV : Hid (BoX w V m m2 S S X (.cells #[.int .u8 (x.wh : Int), .int .u8 (x.pm : Int), .int .u8 (x.nn : Int), .int .u16 (x.pg : Int), .int .u16 (x.off : Int), .int .u64 (x.v : Int), .slice x.a x.len x.cap, .bool x.raw, .int .u64 (x.at' : Int)] 32 (0, 0))) := by
            rw [hV, hXe]
            exact HP.out.with _ (fun cs t f e => by cases e; rfl)
          obtain ⟨c0, c1, c2, c3, c4, c5, c6, c7, c8⟩ := actX_of HV.out.blk
          clear k0 k1 k2 k3 k4 k5 k6 k7 k8 HB HP hV hXe
          have hA64 := Acts.addr_le HX.out
          have hn1 := HX.out.nn
          go_region_held3 (fun w' => w'.cell? ⟨X, 0, none⟩ = some (.int .u8 (x.wh : Int)) ∧ w'.cell? ⟨X, 1, none⟩ = some (.int .u8 (x.pm : Int)) ∧ w'.cell? ⟨X, 2, none⟩ = some (.int .u8 (x.nn : Int)) ∧ w'.cell? ⟨X, 3, none⟩ = some (.int .u16 (x.pg : Int)) ∧ w'.cell? ⟨X, 4, none⟩ = some (.int .u16 (x.off : Int)) ∧ w'.cell? ⟨X, 5, none⟩ = some (.int .u64 (x.v : Int)) ∧ w'.cell? ⟨X, 6, none⟩ = some (.slice x.a x.len x.cap) ∧ w'.cell? ⟨X, 7, none⟩ = some (.bool x.raw) ∧ w'.cell? ⟨X, 8, none⟩ = some (.int .u64 (x.at' : Int))) (go_keep)
            (first | (go_at_call 11; refine (addr_any x _ ⟨w, HX.out⟩).mono ?_; rintro e W4 ⟨rfl, hb4⟩; obtain ⟨d0, d1, d2, d3, d4, d5, d6, d7, d8⟩ := actX_of (HV.out.drew.below hb4).blk))
          have hnw : IntKind.i64.wrap ((x.nn : Int).tmod 12) = ((x.nn % 12 : Nat) : Int) := by
            rw [Int.tmod_eq_emod_of_nonneg (by omega), IntKind.wrap_i64]; omega
          rw [hnw]
          have HV4 : Hid (BoX w W4 m m2 S S X (.cells #[.int .u8 (x.wh : Int), .int .u8 (x.pm : Int), .int .u8 (x.nn : Int), .int .u16 (x.pg : Int), .int .u16 (x.off : Int), .int .u64 (x.v : Int), .slice x.a x.len x.cap, .bool x.raw, .int .u64 (x.at' : Int)] 32 (0, 0))) := HV.out.drew.below hb4
          have hw1 := HX.out.wh
          have hp1 := HX.out.pm
          have hv1 := HX.out.v
          obtain ⟨n, hn⟩ : ∃ n, n = x.nn % 12 := ⟨_, rfl⟩
          have hn12 : n < 12 := by omega
          rw [← hn]
          obtain ⟨A, hA⟩ : ∃ A, A = x.addr := ⟨_, rfl⟩
          rw [← hA]
          rw [← hA] at hA64
          have HA := hide hA
          clear hn hnw hA hb4 HV c0 c1 c2 c3 c4 c5 c6 c7 c8 hn1
          have h6 : (x.wh : Int) % 6 = 0 ∨ (x.wh : Int) % 6 = 1 ∨ (x.wh : Int) % 6 = 2 ∨ (x.wh : Int) % 6 = 3 ∨ (x.wh : Int) % 6 = 4 ∨ (x.wh : Int) % 6 = 5 := by omega
          rcases h6 with h6 | h6 | h6 | h6 | h6 | h6
          · cases hraw : x.raw with
            | false =>
              have hraw' : x.raw = false := hraw
              rw [hraw'] at d7
              obtain ⟨z, hz⟩ : ∃ z, z = x.v % 20000 := ⟨_, rfl⟩
              have hz' : (x.v : Int) % 20000 = (z : Int) := by omega
              have hzb : z < 20000 := by omega
              obtain ⟨B, hB⟩ : ∃ B, B = A / 4096 * 4096 := ⟨_, rfl⟩
              have hB' : (A : Int) / 4096 * 4096 = (B : Int) := by omega
              have hBb : B ≤ 18446744073709551615 := by omega
              clear hB
              obtain ⟨p0, hp0⟩ : ∃ p0, p0 = x.pm % 10 := ⟨_, rfl⟩
              have hp10 : p0 < 10 := by omega
              have hpw0 : (x.pm : Int).tmod 10 = (p0 : Int) := by rw [Int.tmod_eq_emod_of_nonneg (by omega)]; omega
              have hpw1 : IntKind.i64.wrap (p0 : Int) = (p0 : Int) := by rw [IntKind.wrap_i64]; omega
              have hpw2 : IntKind.i64.wrap ((p0 : Int) - 1) = (p0 : Int) - 1 := by rw [IntKind.wrap_i64]; omega
              obtain ⟨ev, hev⟩ : ∃ ev, mapE S B z ((p0 : Int) - 1) x.len = ev := ⟨_, rfl⟩
              obtain ⟨S1, hS1⟩ : ∃ S1, mappedTo S B z ((p0 : Int) - 1) x.bs = S1 := ⟨_, rfl⟩
              have HL := hide (bx_map HV4.out.drew B z ((p0 : Int) - 1) HX.out.b (by omega) (by omega) (by omega) (by omega))
              have HRL := hide (fun W (h : BoX w W m m2 S1 S X (.cells #[.int .u8 (x.wh : Int), .int .u8 (x.pm : Int), .int .u8 (x.nn : Int), .int .u16 (x.pg : Int), .int .u16 (x.off : Int), .int .u64 (x.v : Int), .slice x.a x.len x.cap, .bool x.raw, .int .u64 (x.at' : Int)] 32 (0, 0))) => bx_rmap h B z ((p0 : Int) - 1) HX.out.b (by omega) (by omega) (by omega) (by omega))
              rw [hev, hS1] at HL HRL
              clear hev hS1 hz hp0 hraw hraw'
              go_upto_region 20 with fail
              go_region_held3 (fun w' => w'.cell? ⟨X, 1, none⟩ = some (.int .u8 (x.pm : Int)) ∧ w'.cell? ⟨X, 6, none⟩ = some (.slice x.a x.len x.cap)) (go_keep)
                (first | (go_at_call 12; refine HL.out.mono ?_; rintro e W5 ⟨rfl, hP5⟩; have g5 := (actX_of hP5.blk).c6; have g51 := (actX_of hP5.blk).c1; have HP5 := hide hP5; clear hP5) | (go_at_call 13; refine (HRL.out _ HP5.out).mono ?_; rintro e W6 ⟨rfl, hP6⟩; have g6 := (actX_of hP6.blk).c6; have g61 := (actX_of hP6.blk).c1; have HP6 := hide hP6; clear hP6))
              clear d0 d1 d2 d3 d4 d5 d6 d7 d8
              go_wp2_with fail
              refine (bo_size HP6.out.bo).mono ?_
              rintro e W8 ⟨rfl, rfl⟩
              go_wp2_with fail
              refine (bo_rsize HP6.out.bo).mono ?_
              rintro e W8 ⟨rfl, rfl⟩
              go_wp2_with fail
              refine (bo_perm HP6.out.bo B (by omega)).mono ?_
              rintro e W8 ⟨rfl, rfl⟩
              go_wp2_with fail
              refine (bo_rperm HP6.out.bo B (by omega)).mono ?_
              rintro e W8 ⟨rfl, rfl⟩
              generalize S1.perm (B / 4096) = pz
              go_wp2
              go_roundw
              case rel => exact ⟨j + 1, _, by omega, by go_num, HP6.out.bo⟩
              case measure => simp [intOf]; omega
            | true =>
              have hraw' : x.raw = true := hraw
              rw [hraw'] at d7
              obtain ⟨z, hz⟩ : ∃ z, z = x.v % 20000 := ⟨_, rfl⟩
              have hz' : (x.v : Int) % 20000 = (z : Int) := by omega
              have hzb : z < 20000 := by omega
              obtain ⟨p0, hp0⟩ : ∃ p0, p0 = x.pm % 10 := ⟨_, rfl⟩
              have hp10 : p0 < 10 := by omega
              have hpw0 : (x.pm : Int).tmod 10 = (p0 : Int) := by rw [Int.tmod_eq_emod_of_nonneg (by omega)]; omega
              have hpw1 : IntKind.i64.wrap (p0 : Int) = (p0 : Int) := by rw [IntKind.wrap_i64]; omega
              have hpw2 : IntKind.i64.wrap ((p0 : Int) - 1) = (p0 : Int) - 1 := by rw [IntKind.wrap_i64]; omega
              obtain ⟨ev, hev⟩ : ∃ ev, mapE S A z ((p0 : Int) - 1) x.len = ev := ⟨_, rfl⟩
              obtain ⟨S1, hS1⟩ : ∃ S1, mappedTo S A z ((p0 : Int) - 1) x.bs = S1 := ⟨_, rfl⟩
              have HL := hide (bx_map HV4.out.drew A z ((p0 : Int) - 1) HX.out.b (by omega) (by omega) (by omega) (by omega))
              have HRL := hide (fun W (h : BoX w W m m2 S1 S X (.cells #[.int .u8 (x.wh : Int), .int .u8 (x.pm : Int), .int .u8 (x.nn : Int), .int .u16 (x.pg : Int), .int .u16 (x.off : Int), .int .u64 (x.v : Int), .slice x.a x.len x.cap, .bool x.raw, .int .u64 (x.at' : Int)] 32 (0, 0))) => bx_rmap h A z ((p0 : Int) - 1) HX.out.b (by omega) (by omega) (by omega) (by omega))
              rw [hev, hS1] at HL HRL
              clear hev hS1 hz hp0 hraw hraw'
              go_upto_region 20 with fail
              go_region_held3 (fun w' => w'.cell? ⟨X, 1, none⟩ = some (.int .u8 (x.pm : Int)) ∧ w'.cell? ⟨X, 6, none⟩ = some (.slice x.a x.len x.cap)) (go_keep)
                (first | (go_at_call 12; refine HL.out.mono ?_; rintro e W5 ⟨rfl, hP5⟩; have g5 := (actX_of hP5.blk).c6; have g51 := (actX_of hP5.blk).c1; have HP5 := hide hP5; clear hP5) | (go_at_call 13; refine (HRL.out _ HP5.out).mono ?_; rintro e W6 ⟨rfl, hP6⟩; have g6 := (actX_of hP6.blk).c6; have g61 := (actX_of hP6.blk).c1; have HP6 := hide hP6; clear hP6))
              clear d0 d1 d2 d3 d4 d5 d6 d7 d8
              go_wp2_with fail
              refine (bo_size HP6.out.bo).mono ?_
              rintro e W8 ⟨rfl, rfl⟩
              go_wp2_with fail
              refine (bo_rsize HP6.out.bo).mono ?_
              rintro e W8 ⟨rfl, rfl⟩
              go_wp2_with fail
              refine (bo_perm HP6.out.bo A (by omega)).mono ?_
              rintro e W8 ⟨rfl, rfl⟩
              go_wp2_with fail
              refine (bo_rperm HP6.out.bo A (by omega)).mono ?_
              rintro e W8 ⟨rfl, rfl⟩
              generalize S1.perm (A / 4096) = pz
              go_wp2
              go_roundw
              case rel => exact ⟨j + 1, _, by omega, by go_num, HP6.out.bo⟩
              case measure => simp [intOf]; omega
          · obtain ⟨lv, hlv⟩ : ∃ lv, loadV S A (n : Int) = lv := ⟨_, rfl⟩
            obtain ⟨lo, hlo⟩ : ∃ lo, numOk S A (n : Int) 4 = lo := ⟨_, rfl⟩
            have HL := hide (bx_load HV4.out A (n : Int) (by omega) (by omega) (by omega))
            have HRL := hide (fun W (h : Bo w W m m2 S S) => bo_rload h A (n : Int) (by omega) (by omega) (by omega))
            rw [hlv, hlo] at HL HRL
            clear hlv hlo
            go_wp2_with fail
            refine HL.out.mono ?_
            rintro e W5 ⟨rfl, hP5⟩
            have HP5 := hide hP5
            clear hP5 HL HV4
            go_wp2_with fail
            refine (HRL.out _ HP5.out.bo).mono ?_
            rintro e W6 ⟨rfl, rfl⟩
            clear HRL
            clear d0 d1 d2 d3 d4 d5 d6 d7 d8
            go_wp2_with fail
            refine (bo_size HP5.out.bo).mono ?_
            rintro e W8 ⟨rfl, rfl⟩
            go_wp2_with fail
            refine (bo_rsize HP5.out.bo).mono ?_
            rintro e W8 ⟨rfl, rfl⟩
            go_wp2_with fail
            refine (bo_perm HP5.out.bo A (by omega)).mono ?_
            rintro e W8 ⟨rfl, rfl⟩
            go_wp2_with fail
            refine (bo_rperm HP5.out.bo A (by omega)).mono ?_
            rintro e W8 ⟨rfl, rfl⟩
            generalize S.perm (A / 4096) = pz
            go_wp2
            go_roundw
            case rel => exact ⟨j + 1, _, by omega, by go_num, HP5.out.bo⟩
            case measure => simp [intOf]; omega
          · obtain ⟨lo, hlo⟩ : ∃ lo, numOk S A (n : Int) 2 = lo := ⟨_, rfl⟩
            obtain ⟨S1, hS1⟩ : ∃ S1, stored S A (n : Int) (x.v : Int) = S1 := ⟨_, rfl⟩
            have HL := hide (bx_store HV4.out.drew A (n : Int) (x.v : Int) (by omega) (by omega) (by omega) (by omega) (by omega))
            have HRL := hide (fun W (h : BoX w W m m2 S1 S X (.cells #[.int .u8 (x.wh : Int), .int .u8 (x.pm : Int), .int .u8 (x.nn : Int), .int .u16 (x.pg : Int), .int .u16 (x.off : Int), .int .u64 (x.v : Int), .slice x.a x.len x.cap, .bool x.raw, .int .u64 (x.at' : Int)] 32 (0, 0))) => bx_rstore h A (n : Int) (x.v : Int) (by omega) (by omega) (by omega) (by omega) (by omega))
            rw [hlo, hS1] at HL HRL
            clear hlo hS1
            go_upto_region 28 with fail
            go_region_held3 (fun w' => w'.cell? ⟨X, 5, none⟩ = some (.int .u64 (x.v : Int))) (go_keep)
              (first | (go_at_call 16; refine HL.out.mono ?_; rintro e W5 ⟨rfl, hP5⟩; have g5 := (actX_of hP5.blk).c5; have HP5 := hide hP5; clear hP5) | (go_at_call 17; refine (HRL.out _ HP5.out).mono ?_; rintro e W6 ⟨rfl, hP6⟩; have g6 := (actX_of hP6.blk).c5; have HP6 := hide hP6; clear hP6))
            clear d0 d1 d2 d3 d4 d5 d6 d7 d8
            go_wp2_with fail
            refine (bo_size HP6.out.bo).mono ?_
            rintro e W8 ⟨rfl, rfl⟩
            go_wp2_with fail
            refine (bo_rsize HP6.out.bo).mono ?_
            rintro e W8 ⟨rfl, rfl⟩
            go_wp2_with fail
            refine (bo_perm HP6.out.bo A (by omega)).mono ?_
            rintro e W8 ⟨rfl, rfl⟩
            go_wp2_with fail
            refine (bo_rperm HP6.out.bo A (by omega)).mono ?_
            rintro e W8 ⟨rfl, rfl⟩
            generalize S1.perm (A / 4096) = pz
            go_wp2
            go_roundw
            case rel => exact ⟨j + 1, _, by omega, by go_num, HP6.out.bo⟩
            case measure => simp [intOf]; omega
          · obtain ⟨lv, hlv⟩ : ∃ lv, fetchV S A = lv := ⟨_, rfl⟩
            obtain ⟨lo, hlo⟩ : ∃ lo, mayB S A 4 1 = lo := ⟨_, rfl⟩
            have HL := hide (bx_fetch HV4.out A (by omega))
            have HRL := hide (fun W (h : Bo w W m m2 S S) => bo_rfetch h A (by omega))
            rw [hlv, hlo] at HL HRL
            clear hlv hlo
            go_wp2_with fail
            refine HL.out.mono ?_
            rintro e W5 ⟨rfl, hP5⟩
            have HP5 := hide hP5
            clear hP5 HL HV4
            go_wp2_with fail
            refine (HRL.out _ HP5.out.bo).mono ?_
            rintro e W6 ⟨rfl, rfl⟩
            clear HRL
            clear d0 d1 d2 d3 d4 d5 d6 d7 d8
            go_wp2_with fail
            refine (bo_size HP5.out.bo).mono ?_
            rintro e W8 ⟨rfl, rfl⟩
            go_wp2_with fail
            refine (bo_rsize HP5.out.bo).mono ?_
            rintro e W8 ⟨rfl, rfl⟩
            go_wp2_with fail
            refine (bo_perm HP5.out.bo A (by omega)).mono ?_
            rintro e W8 ⟨rfl, rfl⟩
            go_wp2_with fail
            refine (bo_rperm HP5.out.bo A (by omega)).mono ?_
            rintro e W8 ⟨rfl, rfl⟩
            generalize S.perm (A / 4096) = pz
            go_wp2
            go_roundw
            case rel => exact ⟨j + 1, _, by omega, by go_num, HP5.out.bo⟩
            case measure => simp [intOf]; omega
          · obtain ⟨z, hz⟩ : ∃ z, z = x.v % 70000 := ⟨_, rfl⟩
            have hz' : (x.v : Int) % 70000 = (z : Int) := by omega
            have hzb : z < 70000 := by omega
            obtain ⟨lo, hlo⟩ : ∃ lo, manyOk S A z 4 = lo := ⟨_, rfl⟩
            obtain ⟨Y, hY⟩ : ∃ Y, (if lo = true then S.read A z else []) = Y := ⟨_, rfl⟩
            have HL := hide (bx_read HV4.out A z (by omega) (by omega))
            have HRL := hide (fun W (h : BoX w W m m2 S S X (.cells #[.int .u8 (x.wh : Int), .int .u8 (x.pm : Int), .int .u8 (x.nn : Int), .int .u16 (x.pg : Int), .int .u16 (x.off : Int), .int .u64 (x.v : Int), .slice x.a x.len x.cap, .bool x.raw, .int .u64 (x.at' : Int)] 32 (0, 0))) => bx_rread h A z (by omega) (by omega))
            rw [hlo, hY] at HL HRL
            clear hlo hY hz
            go_wp2_with fail
            refine HL.out.mono ?_
            rintro e W5 ⟨⟨b5, l5, q5, rfl, hr5⟩, hP5⟩
            have HP5 := hide hP5
            have HR5 := hide hr5
            obtain ⟨f0, f1, f2, f3, f4, f5, f6, f7, f8⟩ := actX_of hP5.blk
            clear hP5 HL HV4 hr5
            go_wp2_with fail
            refine (HRL.out _ HP5.out).mono ?_
            rintro e W6 ⟨⟨b6, l6, q6, rfl, hr6⟩, hb6, hP6⟩
            have HP6 := hide hP6
            have hs5 := (HR5.out.below hb6).str
            have hs6 := hr6.str
            clear hP6 hr6 hb6 HRL HP5 HR5 f0 f1 f2 f3 f4 f5 f6 f7 f8
            generalize strOfNums Y = y at hs5 hs6
            clear d0 d1 d2 d3 d4 d5 d6 d7 d8
            go_wp2_with fail
            refine (bo_size HP6.out.bo).mono ?_
            rintro e W8 ⟨rfl, rfl⟩
            go_wp2_with fail
            refine (bo_rsize HP6.out.bo).mono ?_
            rintro e W8 ⟨rfl, rfl⟩
            go_wp2_with fail
            refine (bo_perm HP6.out.bo A (by omega)).mono ?_
            rintro e W8 ⟨rfl, rfl⟩
            go_wp2_with fail
            refine (bo_rperm HP6.out.bo A (by omega)).mono ?_
            rintro e W8 ⟨rfl, rfl⟩
            generalize S.perm (A / 4096) = pz
            go_wp2
            go_roundw
            case rel => exact ⟨j + 1, _, by omega, by go_num, HP6.out.bo⟩
            case measure => simp [intOf]; omega
          · obtain ⟨lo, hlo⟩ : ∃ lo, manyOk S A x.len 2 = lo := ⟨_, rfl⟩
            obtain ⟨S1, hS1⟩ : ∃ S1, (if lo = true then S.lay A x.bs else S) = S1 := ⟨_, rfl⟩
            have HL := hide (bx_write HV4.out.drew A HX.out.b (by omega))
            have HRL := hide (fun W (h : BoX w W m m2 S1 S X (.cells #[.int .u8 (x.wh : Int), .int .u8 (x.pm : Int), .int .u8 (x.nn : Int), .int .u16 (x.pg : Int), .int .u16 (x.off : Int), .int .u64 (x.v : Int), .slice x.a x.len x.cap, .bool x.raw, .int .u64 (x.at' : Int)] 32 (0, 0))) => bx_rwrite h A HX.out.b (by omega))
            rw [hlo, hS1] at HL HRL
            clear hlo hS1
            go_upto_region 14 with fail
            go_region_held3 (fun w' => w'.cell? ⟨X, 6, none⟩ = some (.slice x.a x.len x.cap)) (go_keep)
              (first | (go_at_call 22; refine HL.out.mono ?_; rintro e W5 ⟨rfl, hP5⟩; have g5 := (actX_of hP5.blk).c6; have HP5 := hide hP5; clear hP5) | (go_at_call 23; refine (HRL.out _ HP5.out).mono ?_; rintro e W6 ⟨rfl, hP6⟩; have g6 := (actX_of hP6.blk).c6; have HP6 := hide hP6; clear hP6))
            clear d0 d1 d2 d3 d4 d5 d6 d7 d8
            go_wp2_with fail
            refine (bo_size HP6.out.bo).mono ?_
            rintro e W8 ⟨rfl, rfl⟩
            go_wp2_with fail
            refine (bo_rsize HP6.out.bo).mono ?_
            rintro e W8 ⟨rfl, rfl⟩
            go_wp2_with fail
            refine (bo_perm HP6.out.bo A (by omega)).mono ?_
            rintro e W8 ⟨rfl, rfl⟩
            go_wp2_with fail
            refine (bo_rperm HP6.out.bo A (by omega)).mono ?_
            rintro e W8 ⟨rfl, rfl⟩
            generalize S1.perm (A / 4096) = pz
            go_wp2
            go_roundw
            case rel => exact ⟨j + 1, _, by omega, by go_num, HP6.out.bo⟩
            case measure => simp [intOf]; omega
      · go_wp2
        go_ret
        exact ⟨rfl, HB.out⟩

end Go.Proofs.Ytggmeopohpbmlaa
